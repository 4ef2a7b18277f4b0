/- FillZips: the law returns true. -/
import Derived.Test.YtjabahfkgaamdaaJ7
namespace Go.Proofs.Ytjabahfkgaamdaa
open Go.BigFrame
open Go.RowKit Go.Proofs.Ytjabahfkgaamdaa.Plain

set_option maxHeartbeats 1600000 in
set_option maxRecDepth 100000 in
theorem fillzips_any (l r : List Nat) (L R : Option Addr) (lc rc : Nat) (op g m : Int) (Ap : Option Addr) (cp : Nat) (picks : List (Int × Int)) (W : World) (hL : Rd kU32 W (.slice L l.length lc) (zs l)) (hR : Rd kU32 W (.slice R r.length rc) (zs r)) (hp : Rd kPk W (.slice Ap picks.length cp) picks) (ho : in64 op) (hg : in64 g) (hm : in64 m) :
    Calls Try.prog 4 #[.slice L l.length lc, .slice R r.length rc, .agg #[.int .i64 op, .int .i64 g, .int .i64 m, .slice Ap picks.length cp]] W fun ed w' => ed = .returned (.bool true) ∧ Ext W w' := by
  have HL := Lib.hid hL
  have HR := Lib.hid hR
  have HP := Lib.hid hp
  have HG := Lib.hid (And.intro ho (And.intro hg hm))
  clear hL hR hp ho hg hm
  go_enter Try.func4, Try.ntmps4
  go_wp2_with fail
  refine (falive_any _).mono ?_
  rintro ed w1 ⟨rfl, hE1⟩
  have k0 : w1.cell? ⟨W.heap.size, 0, none⟩ = some (.int .i64 op) := Ext.cell hE1 (by go_simp)
  have k1 : w1.cell? ⟨W.heap.size, 1, none⟩ = some (.int .i64 g) := Ext.cell hE1 (by go_simp)
  have k2 : w1.cell? ⟨W.heap.size, 2, none⟩ = some (.int .i64 m) := Ext.cell hE1 (by go_simp)
  have k3 : w1.cell? ⟨W.heap.size, 3, none⟩ = some (.slice Ap picks.length cp) := Ext.cell hE1 (by go_simp)
  have kf : ∀ o, w1.frozen? ⟨W.heap.size, o, none⟩ = false := fun o => (Below.frozen hE1 (p := ⟨W.heap.size, o, none⟩) (by first | omega | (simp; omega) | simp)).trans (by go_simp)
  have HX1 := Lib.hid (((Ext.refl W).alloc (.cells #[.int .i64 op, .int .i64 g, .int .i64 m, .slice Ap picks.length cp] 41)).trans hE1)
  have lz1 := hE1.size
  simp at lz1
  have l1 : W.heap.size < w1.heap.size := by omega
  clear hE1
  by_cases h1 : (60 : Int) < l.length
  · go_wp2_with fail
    go_ret
    exact ⟨rfl, HX1.out⟩
  by_cases h2 : (60 : Int) < r.length
  · have h1' : (l.length : Int) ≤ 60 := by omega
    go_wp2_with fail
    go_ret
    exact ⟨rfl, HX1.out⟩
  by_cases h3 : (200 : Int) < picks.length
  · have h1' : (l.length : Int) ≤ 60 := by omega
    have h2' : (r.length : Int) ≤ 60 := by omega
    go_wp2_with fail
    go_ret
    exact ⟨rfl, HX1.out⟩
  have h1' : (l.length : Int) ≤ 60 := by omega
  have h2' : (r.length : Int) ≤ 60 := by omega
  have h3' : (picks.length : Int) ≤ 200 := by omega
  clear h1 h2 h3
  go_wp2_with fail
  refine (fzip_any l r L R lc rc op g m Ap cp picks _ (HL.out.ext HX1.out) (HR.out.ext HX1.out) (HP.out.ext HX1.out) (by omega) HG.out.1 HG.out.2.1 HG.out.2.2).mono ?_
  obtain ⟨⟨os, st, er⟩, hr⟩ : ∃ x, zipP l r op g m picks = x := ⟨_, rfl⟩
  have HRR := Lib.hid hr
  rw [hr]
  clear hr
  rintro ed w2 ⟨L2, l2, rfl, hO2, hE2⟩
  simp only at hO2 ⊢
  replace k0 := hE2.cell k0
  replace k1 := hE2.cell k1
  replace k2 := hE2.cell k2
  replace k3 := hE2.cell k3
  have lz2 := hE2.size
  have l2' : W.heap.size < w2.heap.size := by omega
  have HX2 := Lib.hid (HX1.out.trans hE2)
  have HO2 := Lib.hid hO2
  clear hE2 hO2 kf HX1 l1
  go_wp2_with fail
  refine (rzip_any l r L R lc rc op g m Ap cp picks _ (HL.out.ext HX2.out) (HR.out.ext HX2.out) (HP.out.ext HX2.out) (by omega) HG.out.1 HG.out.2.1 HG.out.2.2).mono ?_
  rw [HRR.out]
  rintro ed w3 ⟨L3, l3, rfl, hO3, hE3⟩
  simp only at hO3 ⊢
  have HX3 := Lib.hid (HX2.out.trans hE3)
  have HO2' := Lib.hid (HO2.out.ext hE3)
  have HO3 := Lib.hid hO3
  clear hE3 hO3 HO2 HX2 k0 k1 k2 k3
  go_wp2_with fail
  refine (rwords_any _ _ _ _ _ HO2'.out.rd HO3.out.rd).mono ?_
  rintro ed w4 ⟨rfl, hE4⟩
  rw [sameB_refl]
  have HX4 := Lib.hid (HX3.out.trans hE4)
  clear hE4
  go_wp2_with fail
  go_ret
  exact ⟨ret_bool (by first | rfl | simp), HX4.out⟩
end Go.Proofs.Ytjabahfkgaamdaa
