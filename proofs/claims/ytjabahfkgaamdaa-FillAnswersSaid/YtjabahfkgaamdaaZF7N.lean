/- FillAnswers: the law returns true. -/
import Derived.Test.YtjabahfkgaamdaaJ7
import Derived.Deep.QuietTactic
import Derived.BigQuiet
namespace Go.Proofs.Ytjabahfkgaamdaa
open Go.BigFrame
open Go.RowKit Go.Proofs.Ytjabahfkgaamdaa.Plain

set_option maxHeartbeats 1600000 in
set_option maxRecDepth 100000 in
theorem fillanswers_any (l : List Nat) (L : Option Addr) (lc : Nat) (op y0 g m : Int) (Ap : Option Addr) (cp : Nat) (picks : List (Int × Int)) (W : World) (hL : Rd kU32 W (.slice L l.length lc) (zs l)) (hp : Rd kPk W (.slice Ap picks.length cp) picks) (ho : in64 op) (hy : in64 y0) (hg : in64 g) (hm : in64 m) :
    Calls Try.prog 3 #[.slice L l.length lc, .agg #[.int .i64 op, .int .i64 y0], planV g m Ap picks.length cp] W fun ed w' => ed = .returned (.bool true) ∧ Ext W w' := by
  have HL := Lib.hid hL
  have HP := Lib.hid hp
  have HPL := Lib.hid hp.len
  have HG := Lib.hid (And.intro ho (And.intro hg hm))
  clear hL hp ho hg hm
  go_enter Try.func3, Try.ntmps3
  go_wp2_with fail
  refine (falive_any _).mono ?_
  rintro ed w1 ⟨rfl, hE1⟩
  have k0 : w1.cell? ⟨W.heap.size, 0, none⟩ = some (.int .i64 op) := Ext.cell hE1 (by go_simp)
  have k1 : w1.cell? ⟨W.heap.size, 1, none⟩ = some (.int .i64 y0) := Ext.cell hE1 (by go_simp)
  have kf : ∀ o, w1.frozen? ⟨W.heap.size, o, none⟩ = false := fun o => (Below.frozen hE1 (p := ⟨W.heap.size, o, none⟩) (by first | omega | (simp; omega) | simp)).trans (by go_simp)
  have q0 : w1.cell? ⟨W.heap.size + 1, 0, none⟩ = some (.int .i64 g) := Ext.cell hE1 (by go_simp)
  have q1 : w1.cell? ⟨W.heap.size + 1, 1, none⟩ = some (.int .i64 m) := Ext.cell hE1 (by go_simp)
  have q2 : w1.cell? ⟨W.heap.size + 1, 2, none⟩ = some (.slice Ap picks.length cp) := Ext.cell hE1 (by go_simp)
  have qf : ∀ o, w1.frozen? ⟨W.heap.size + 1, o, none⟩ = false := fun o => (Below.frozen hE1 (p := ⟨W.heap.size + 1, o, none⟩) (by first | omega | (simp; omega) | simp)).trans (by go_simp)
  have HX1 := Lib.hid ((((Ext.refl W).alloc (.cells #[.int .i64 op, .int .i64 y0] 23)).alloc (.cells #[.int .i64 g, .int .i64 m, .slice Ap picks.length cp] 26)).trans hE1)
  have lz1 := hE1.size
  simp at lz1
  have n1 : W.heap.size < w1.heap.size := by omega
  have n2 : W.heap.size + 1 < w1.heap.size := by omega
  clear hE1
  by_cases h1 : (60 : Int) < l.length
  · go_wp2_with fail
    go_ret
    exact ⟨rfl, HX1.out⟩
  by_cases h3 : (200 : Int) < picks.length
  · have h1' : (l.length : Int) ≤ 60 := by omega
    go_wp2_with fail
    go_ret
    exact ⟨rfl, HX1.out⟩
  have h1' : (l.length : Int) ≤ 60 := by omega
  have h3' : (picks.length : Int) ≤ 200 := by omega
  clear h1 h3
  unfold in64 at hy
  go_wp2_with fail
  obtain ⟨y, hyy⟩ : ∃ y : Nat, y0 % 4294967296 = y := ⟨(y0 % 4294967296).toNat, by omega⟩
  have hy4 : y < 4294967296 := by omega
  rw [hyy]
  clear hyy hy
  refine (ffill_any l L lc op y g m Ap cp picks _ (HL.out.ext HX1.out) (HP.out.ext HX1.out) (by omega) HG.out.1 hy4 HG.out.2.1 HG.out.2.2).mono ?_
  obtain ⟨⟨os, st, er⟩, hr⟩ : ∃ x, fillP l op y g m picks = x := ⟨_, rfl⟩
  have HRR := Lib.hid hr
  rw [hr]
  clear hr
  rintro ed w2 ⟨L2, l2, rfl, hO2, hE2⟩
  simp only at hO2 ⊢
  replace k0 := Ext.cell hE2 k0
  replace k1 := Ext.cell hE2 k1
  replace q0 := Ext.cell hE2 q0
  replace q1 := Ext.cell hE2 q1
  replace q2 := Ext.cell hE2 q2
  have lz2 := hE2.size
  have m1 : W.heap.size < w2.heap.size := by omega
  have m2 : W.heap.size + 1 < w2.heap.size := by omega
  have HX2 := Lib.hid (HX1.out.trans hE2)
  have HO2 := Lib.hid hO2
  clear hE2 hO2 kf qf HX1 n1 n2
  go_wp2_with fail
  refine (rfill_any l L lc op y g m Ap cp picks _ (HL.out.ext HX2.out) (HP.out.ext HX2.out) (by omega) HG.out.1 hy4 HG.out.2.1 HG.out.2.2).mono ?_
  rw [HRR.out]
  rintro ed w3 ⟨L3, l3, rfl, hO3, hE3⟩
  simp only at hO3 ⊢
  replace k0 := Ext.cell hE3 k0
  replace k1 := Ext.cell hE3 k1
  replace q0 := Ext.cell hE3 q0
  replace q1 := Ext.cell hE3 q1
  replace q2 := Ext.cell hE3 q2
  have lz3 := hE3.size
  have m3 : W.heap.size < w3.heap.size := by omega
  have m4 : W.heap.size + 1 < w3.heap.size := by omega
  have HX3 := Lib.hid (HX2.out.trans hE3)
  have HO2' := Lib.hid (HO2.out.ext hE3)
  have HO3 := Lib.hid hO3
  clear hE3 hO3 HO2 HX2 m1 m2
  go_wp2_with fail
  refine (forder_any l.length g m Ap cp picks _ (HP.out.ext HX3.out) (by omega) HG.out.2.1 HG.out.2.2).mono ?_
  obtain ⟨⟨ou, su, eu⟩, hr⟩ : ∃ x, ordP l.length g m picks = x := ⟨_, rfl⟩
  have HUU := Lib.hid hr
  rw [hr]
  clear hr
  rintro ed w4 ⟨L4, l4, rfl, hO4, hE4⟩
  simp only at hO4 ⊢
  replace k0 := Ext.cell hE4 k0
  replace k1 := Ext.cell hE4 k1
  replace q0 := Ext.cell hE4 q0
  replace q1 := Ext.cell hE4 q1
  replace q2 := Ext.cell hE4 q2
  have lz4 := hE4.size
  have m5 : W.heap.size < w4.heap.size := by omega
  have m6 : W.heap.size + 1 < w4.heap.size := by omega
  have HX4 := Lib.hid (HX3.out.trans hE4)
  have HO2 := Lib.hid (HO2'.out.ext hE4)
  have HO3' := Lib.hid (HO3.out.ext hE4)
  have HO4 := Lib.hid hO4
  clear hE4 hO4 HO2' HO3 HX3 m3 m4
  go_wp2_with fail
  refine (rorder_any l.length g m Ap cp picks _ (HP.out.ext HX4.out) (by omega) HG.out.2.1 HG.out.2.2).mono ?_
  rw [HUU.out]
  rintro ed w5 ⟨L5, l5, rfl, hO5, hE5⟩
  simp only at hO5 ⊢
  replace k0 := Ext.cell hE5 k0
  replace k1 := Ext.cell hE5 k1
  replace q0 := Ext.cell hE5 q0
  replace q1 := Ext.cell hE5 q1
  replace q2 := Ext.cell hE5 q2
  have lz5 := hE5.size
  have m1 : W.heap.size < w5.heap.size := by omega
  have m2 : W.heap.size + 1 < w5.heap.size := by omega
  have HX5 := Lib.hid (HX4.out.trans hE5)
  have HO2' := Lib.hid (HO2.out.ext hE5)
  have HO3 := Lib.hid (HO3'.out.ext hE5)
  have HO4' := Lib.hid (HO4.out.ext hE5)
  have HO5 := Lib.hid hO5
  clear hE5 hO5 HO2 HO3' HO4 HX4 m5 m6
  go_wp2_with fail
  go_loopw [20] (fun i wr => ∃ k : Nat, k ≤ l.length ∧ i = .int .i64 k ∧ Ext w5 wr) (fun i _ => l.length - (intOf i).toNat)
  case atStart => exact ⟨0, Nat.zero_le _, rfl, Ext.refl _⟩
  case round =>
    obtain ⟨k, hk, rfl, hX⟩ := hrel
    have HX := Lib.hid hX
    have hk0 : (0 : Int) ≤ k := by omega
    clear hX
    by_cases hlt : k < l.length
    · have hlt' : (k : Int) < l.length := by omega
      obtain ⟨bx, ox, rfl, hcx⟩ := Rd.u32s (HL.out.ext (HX5.out.trans HX.out)) (by rw [zs_len]; omega)
      have hzk : k < (zs l).length := by rw [zs_len]; exact hlt
      have z0 := hcx k hzk
      have hok := HL.out.okAt k hzk
      rw [zs_getD] at z0
      have hok' : (0 : Int) ≤ ((l.getD k 0 : Nat) : Int) ∧ ((l.getD k 0 : Nat) : Int) ≤ 4294967295 := by rw [← zs_getD]; exact hok
      obtain ⟨x, hx⟩ : ∃ x, l.getD k 0 = x := ⟨_, rfl⟩
      rw [hx] at z0 hok'
      have hxl : x < 4294967296 := by omega
      have HK0 := HX.out.cell k0
      have KS : Hid (∀ w', Ext wr w' → w'.cell? ⟨bx, ox + k, none⟩ = some (.int .u32 x) ∧ w'.cell? ⟨W.heap.size, 0, none⟩ = some (.int .i64 op)) := Lib.hid (fun w' hE => ⟨hE.cell z0, hE.cell HK0⟩)
      obtain ⟨z, hz⟩ : ∃ z, oneP x op y = z := ⟨_, rfl⟩
      have HF1 : Hid (∀ w', Ext wr w' → Calls Try.prog 12 #[.int .u32 x, .int .i64 op, .int .u32 y] w' fun ed w'' => ed = .returned (.int .u32 z) ∧ Ext wr w'') := Lib.hid fun w' hE => (fone_any x op y w' hxl hy4 HG.out.1).mono fun ed w'' hh => ⟨by rw [hh.1, hz], hh.2 ▸ hE⟩
      have HF2 : Hid (∀ w', Ext wr w' → Calls Try.prog 13 #[.int .u32 x, .int .i64 op, .int .u32 y] w' fun ed w'' => ed = .returned (.int .u32 z) ∧ Ext wr w'') := Lib.hid fun w' hE => (rone_any x op y w' hxl hy4 HG.out.1).mono fun ed w'' hh => ⟨by rw [hh.1, hz], hh.2 ▸ hE⟩
      clear hcx hzk hok hok' hx hxl HK0 z0 hz k0 k1 q0 q1 q2
      go_wp2_with fail
      refine wp_region_class (Ext wr) (by kernel_rfl) (by kernel_rfl) (Ext.refl _).drew ?_
      try simp only [List.append_eq, List.cons_append, List.nil_append]
      repeat (first
        | go_big_quiet_skip
        | (go_big_quiet_want
           first
           | (go_big_quiet_op; go_big_quiet_on)
           | (unfold Oper.quiet
              apply Exists.intro
              refine ⟨fun w' hC => ?_, ?_⟩
              · (obtain ⟨k1, k2⟩ := KS.out w' hC
                 unfold Oper.quietAt
                 go_simp
                 first
                 | exact rfl
                 | (with_reducible exact HF1.out w' hC)
                 | (with_reducible exact HF2.out w' hC))
              go_simp
              go_big_quiet_on)
           | (go_big_quiet_op
              apply Exists.intro
              refine ⟨fun w' hC => ?_, ?_⟩
              · exact HF1.out w' hC
              go_big_quiet_on)
           | (go_big_quiet_op
              apply Exists.intro
              refine ⟨fun w' hC => ?_, ?_⟩
              · exact HF2.out w' hC
              go_big_quiet_on)))
      refine wpQuiet_nil ?_
      intro w6 hC6
      go_wp2_with fail
      go_roundw
      case rel => exact ⟨k + 1, by omega, by go_num, HX.out.trans hC6⟩
      case measure => simp [intOf]; omega
    · obtain rfl : k = l.length := by omega
      replace k0 := Ext.cell HX.out k0
      replace k1 := Ext.cell HX.out k1
      replace q0 := Ext.cell HX.out q0
      replace q1 := Ext.cell HX.out q1
      replace q2 := Ext.cell HX.out q2
      have KS : Hid (∀ w', Ext wr w' → w'.cell? ⟨W.heap.size + 1, 0, none⟩ = some (.int .i64 g) ∧ w'.cell? ⟨W.heap.size + 1, 1, none⟩ = some (.int .i64 m) ∧ w'.cell? ⟨W.heap.size + 1, 2, none⟩ = some (.slice Ap picks.length cp)) := Lib.hid (fun w' hE => ⟨hE.cell q0, hE.cell q1, hE.cell q2⟩)
      obtain ⟨pb, hpb⟩ : ∃ pb, planB g m picks.length = pb := ⟨_, rfl⟩
      have HF1 : Hid (∀ w', Ext wr w' → Calls Try.prog 14 #[.slice L2 os.length l2, .slice L3 os.length l3] w' fun ed w'' => ed = .returned (.bool true) ∧ Ext wr w'') := Lib.hid fun w' hE => (rwords_any _ _ _ _ w' (HO2'.out.rd.ext (HX.out.trans hE)) (HO3.out.rd.ext (HX.out.trans hE))).mono fun ed w'' hh => ⟨by rw [hh.1, sameB_refl], hE.trans hh.2⟩
      have HF2 : Hid (∀ w', Ext wr w' → Calls Try.prog 15 #[.slice L4 ou.length l4, .slice L5 ou.length l5] w' fun ed w'' => ed = .returned (.bool true) ∧ Ext wr w'') := Lib.hid fun w' hE => (ints_any _ _ _ _ w' (ints_of_rd (HO4'.out.rd.ext (HX.out.trans hE))) (ints_of_rd (HO5.out.rd.ext (HX.out.trans hE)))).mono fun ed w'' hh => ⟨by rw [hh.1, sameB_refl], by obtain ⟨n, hn⟩ := hh.2; rw [hn]; exact hE.drewN n⟩
      have HF3 : Hid (∀ w', Ext wr w' → Calls Try.prog 16 #[.agg #[.int .i64 g, .int .i64 m, .slice Ap picks.length cp]] w' fun ed w'' => ed = .returned (.bool pb) ∧ Ext wr w'') := Lib.hid fun w' hE => (fright7_any g m Ap picks.length cp w' HG.out.2.1 HG.out.2.2 HPL.out).mono fun ed w'' hh => ⟨by rw [hh.1, hpb], hE.trans hh.2⟩
      have HF4 : Hid (∀ w', Ext wr w' → Calls Try.prog 17 #[.agg #[.int .i64 g, .int .i64 m, .slice Ap picks.length cp]] w' fun ed w'' => ed = .returned (.bool pb) ∧ Ext wr w'') := Lib.hid fun w' hE => (rright7_any g m Ap picks.length cp w' HG.out.2.1 HG.out.2.2 HPL.out).mono fun ed w'' hh => ⟨by rw [hh.1, hpb], hE.trans hh.2⟩
      clear k0 k1 q0 q1 q2 hpb
      go_wp2_with fail
      refine wp_region_class (Ext wr) (by kernel_rfl) (by kernel_rfl) (Ext.refl _).drew ?_
      try simp only [List.append_eq, List.cons_append, List.nil_append]
      repeat (first
        | go_big_quiet_skip
        | (go_big_quiet_want
           first
           | (go_big_quiet_op; go_big_quiet_on)
           | (unfold Oper.quiet
              apply Exists.intro
              refine ⟨fun w' hC => ?_, ?_⟩
              · (obtain ⟨k1, k2, k3⟩ := KS.out w' hC
                 unfold Oper.quietAt
                 go_simp
                 first
                 | exact rfl
                 | (with_reducible exact HF1.out w' hC)
                 | (with_reducible exact HF2.out w' hC)
                 | (with_reducible exact HF3.out w' hC)
                 | (with_reducible exact HF4.out w' hC))
              go_simp
              go_big_quiet_on)
           | (go_big_quiet_op
              apply Exists.intro
              refine ⟨fun w' hC => ?_, ?_⟩
              · exact HF1.out w' hC
              go_big_quiet_on)
           | (go_big_quiet_op
              apply Exists.intro
              refine ⟨fun w' hC => ?_, ?_⟩
              · exact HF2.out w' hC
              go_big_quiet_on)
           | (go_big_quiet_op
              apply Exists.intro
              refine ⟨fun w' hC => ?_, ?_⟩
              · exact HF3.out w' hC
              go_big_quiet_on)
           | (go_big_quiet_op
              apply Exists.intro
              refine ⟨fun w' hC => ?_, ?_⟩
              · exact HF4.out w' hC
              go_big_quiet_on)))
      refine wpQuiet_nil ?_
      intro w6 hC6
      have HXX := Lib.hid ((HX5.out.trans HX.out).trans hC6)
      go_wp2_with fail
      go_ret
      exact ⟨ret_bool (by first | rfl | simp), HXX.out⟩
end Go.Proofs.Ytjabahfkgaamdaa
