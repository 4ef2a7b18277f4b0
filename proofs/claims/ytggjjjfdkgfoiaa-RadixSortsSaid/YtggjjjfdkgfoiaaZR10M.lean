/- RadixSorts: the law returns true. Written by wip/mk_r10.py. -/
import Derived.Test.YtggjjjfdkgfoiaaJ6
set_option linter.unusedVariables false
set_option linter.unusedSimpArgs false
set_option linter.unnecessarySimpa false
namespace Go.Proofs.Ytggjjjfdkgfoiaa
open Go.BigFrame
open Go.RowKit Go.Proofs.Ytggjjjfdkgfoiaa.Plain

set_option maxHeartbeats 3200000 in
set_option maxRecDepth 100000 in
theorem radixsorts_any (l : List Nat) (L : Option Addr) (lc : Nat) (b blk g m : Int) (Ap : Option Addr) (cp : Nat) (picks : List (Int × Int)) (W : World) (hL : Rd kU32 W (.slice L l.length lc) (zs l)) (hp : Rd kPk W (.slice Ap picks.length cp) picks) (hb : in64 b) (hbk : in64 blk) (hg : in64 g) (hm : in64 m) :
    Calls Try.prog 4 #[.slice L l.length lc, .agg #[.int .i64 b, .int .i64 blk], planV g m Ap picks.length cp] W fun ed w' => ed = .returned (.bool true) ∧ Ext W w' := by
  have HL := Lib.hid hL
  have HP := Lib.hid hp
  have HG := Lib.hid (And.intro hb (And.intro hbk (And.intro hg hm)))
  clear hL hp hb hbk hg hm
  go_enter Try.func4, Try.ntmps4
  go_wp2_with fail
  refine (ralive_any _).mono ?_
  rintro ed w1 ⟨rfl, hE1⟩
  have q0 : w1.cell? ⟨W.heap.size, 0, none⟩ = some (.int .i64 b) := Ext.cell hE1 (by go_simp)
  have q1 : w1.cell? ⟨W.heap.size, 1, none⟩ = some (.int .i64 blk) := Ext.cell hE1 (by go_simp)
  have qf : ∀ o, w1.frozen? ⟨W.heap.size, o, none⟩ = false := fun o => (Below.frozen hE1 (p := ⟨W.heap.size, o, none⟩) (by first | omega | (simp; omega) | simp)).trans (by go_simp)
  have k0 : w1.cell? ⟨(W.heap.size + 1), 0, none⟩ = some (.int .i64 g) := Ext.cell hE1 (by go_simp)
  have k1 : w1.cell? ⟨(W.heap.size + 1), 1, none⟩ = some (.int .i64 m) := Ext.cell hE1 (by go_simp)
  have k2 : w1.cell? ⟨(W.heap.size + 1), 2, none⟩ = some (.slice Ap picks.length cp) := Ext.cell hE1 (by go_simp)
  have kf : ∀ o, w1.frozen? ⟨(W.heap.size + 1), o, none⟩ = false := fun o => (Below.frozen hE1 (p := ⟨(W.heap.size + 1), o, none⟩) (by first | omega | (simp; omega) | simp)).trans (by go_simp)
  have HX1 := Lib.hid ((((Ext.refl W).alloc (.cells #[.int .i64 b, .int .i64 blk] 36)).alloc (.cells #[.int .i64 g, .int .i64 m, .slice Ap picks.length cp] 39)).trans hE1)
  have lz1 := hE1.size
  simp at lz1
  have n1 : W.heap.size < w1.heap.size := by omega
  have n2 : (W.heap.size + 1) < w1.heap.size := by omega
  clear hE1
  by_cases h1 : (60 : Int) < l.length
  · go_wp2_with fail
    go_ret
    exact ⟨rfl, HX1.out⟩
  by_cases h3 : (100 : Int) < picks.length
  · have h1' : (l.length : Int) ≤ 60 := by omega
    go_wp2_with fail
    go_ret
    exact ⟨rfl, HX1.out⟩
  have h1' : (l.length : Int) ≤ 60 := by omega
  have h3' : (picks.length : Int) ≤ 100 := by omega
  clear h1 h3
  obtain ⟨⟨os, st, er⟩, hr⟩ : ∃ x, sortP l b blk g m picks = x := ⟨_, rfl⟩
  have HS := Lib.hid hr
  clear hr
  go_wp2_with fail
  refine (psort_any l L lc b blk g m Ap cp picks _ (HL.out.ext HX1.out) (HP.out.ext HX1.out) (by omega) HG.out.1 HG.out.2.1 HG.out.2.2.1 HG.out.2.2.2).mono ?_
  rw [HS.out]
  rintro ed w2 ⟨L2, l2, rfl, hOa, hE2⟩
  simp only at hOa ⊢
  replace q0 := Ext.cell hE2 q0
  replace q1 := Ext.cell hE2 q1
  replace k0 := Ext.cell hE2 k0
  replace k1 := Ext.cell hE2 k1
  replace k2 := Ext.cell hE2 k2
  have lb2_0 : W.heap.size < w2.heap.size := by have := Ext.size hE2; omega
  have lb2_1 : W.heap.size + 1 < w2.heap.size := by have := Ext.size hE2; omega
  have HX2 := Lib.hid (HX1.out.trans hE2)
  have Ha_2 := Lib.hid (hOa.rd)
  clear hE2 HX1 n1 n2
  go_wp2_with fail
  refine (rsort_any l L lc b blk g m Ap cp picks _ (HL.out.ext HX2.out) (HP.out.ext HX2.out) (by omega) HG.out.1 HG.out.2.1 HG.out.2.2.1 HG.out.2.2.2).mono ?_
  rw [HS.out]
  rintro ed w3 ⟨L3, l3, rfl, hOb, hE3⟩
  simp only at hOb ⊢
  replace q0 := Ext.cell hE3 q0
  replace q1 := Ext.cell hE3 q1
  replace k0 := Ext.cell hE3 k0
  replace k1 := Ext.cell hE3 k1
  replace k2 := Ext.cell hE3 k2
  have lb3_0 : W.heap.size < w3.heap.size := by have := Ext.size hE3; omega
  have lb3_1 : W.heap.size + 1 < w3.heap.size := by have := Ext.size hE3; omega
  have HX3 := Lib.hid (HX2.out.trans hE3)
  have Ha_3 := Lib.hid (Ha_2.out.ext hE3)
  have Hb_3 := Lib.hid (hOb.rd)
  clear hE3 HX2 Ha_2 lb2_0 lb2_1
  go_wp2_with fail
  clear q0 q1 k0 k1 k2
  refine (ints_e _ _ _ _ _ Ha_3.out Hb_3.out).mono ?_
  rintro ed w4 ⟨rfl, hE4⟩
  rw [sameB_refl]
  have HX4 := Lib.hid (HX3.out.trans hE4)
  have Ha_4 := Lib.hid (Ha_3.out.ext hE4)
  have Hb_4 := Lib.hid (Hb_3.out.ext hE4)
  clear hE4 HX3 Ha_3 Hb_3 lb3_0 lb3_1
  go_wp2_with fail
  go_ret
  exact ⟨ret_bool (by first | rfl | simp), HX4.out⟩
end Go.Proofs.Ytggjjjfdkgfoiaa
