/- PackAnswers: the law returns true. Written by wip/mk_p9n.py. -/
import Derived.Test.YtbedfjbnafflfaaJ7
set_option linter.unusedVariables false
set_option linter.unusedSimpArgs false
set_option linter.unnecessarySimpa false
namespace Go.Proofs.Ytbedfjbnafflfaa
open Go.BigFrame
open Go.RowKit Go.Proofs.Ytbedfjbnafflfaa.Plain

set_option maxHeartbeats 3200000 in
set_option maxRecDepth 100000 in
theorem packanswers_any (l : List Nat) (L : Option Addr) (lc : Nat) (keep : List Bool) (K : Option Addr) (kc : Nat) (b g m : Int) (Ap : Option Addr) (cp : Nat) (picks : List (Int × Int)) (W : World) (hL : Rd kU32 W (.slice L l.length lc) (zs l)) (hK : Rd kBool W (.slice K keep.length kc) keep) (hp : Rd kPk W (.slice Ap picks.length cp) picks) (hb : in64 b) (hg : in64 g) (hm : in64 m) :
    Calls Try.prog 3 #[.slice L l.length lc, .slice K keep.length kc, .agg #[.int .i64 b, .int .i64 g, .int .i64 m, .slice Ap picks.length cp]] W fun ed w' => ed = .returned (.bool true) ∧ Ext W w' := by
  have HL := Lib.hid hL
  have HK := Lib.hid hK
  have HP := Lib.hid hp
  have HG := Lib.hid (And.intro hb (And.intro hg hm))
  clear hL hK hp hb hg hm
  go_enter Try.func3, Try.ntmps3
  go_wp2_with fail
  refine (palive_any _).mono ?_
  rintro ed w1 ⟨rfl, hE1⟩
  have k0 : w1.cell? ⟨W.heap.size, 0, none⟩ = some (.int .i64 b) := Ext.cell hE1 (by go_simp)
  have k1 : w1.cell? ⟨W.heap.size, 1, none⟩ = some (.int .i64 g) := Ext.cell hE1 (by go_simp)
  have k2 : w1.cell? ⟨W.heap.size, 2, none⟩ = some (.int .i64 m) := Ext.cell hE1 (by go_simp)
  have k3 : w1.cell? ⟨W.heap.size, 3, none⟩ = some (.slice Ap picks.length cp) := Ext.cell hE1 (by go_simp)
  have kf : ∀ o, w1.frozen? ⟨W.heap.size, o, none⟩ = false := fun o => (Below.frozen hE1 (p := ⟨W.heap.size, o, none⟩) (by first | omega | (simp; omega) | simp)).trans (by go_simp)
  have HX1 := Lib.hid (((Ext.refl W).alloc (.cells #[.int .i64 b, .int .i64 g, .int .i64 m, .slice Ap picks.length cp] 28)).trans hE1)
  have lz1 := hE1.size
  simp at lz1
  have n1 : W.heap.size < w1.heap.size := by omega
  clear hE1
  by_cases h1 : (40 : Int) < l.length
  · go_wp2_with fail
    go_ret
    exact ⟨rfl, HX1.out⟩
  by_cases h2 : (40 : Int) < keep.length
  · have h1' : (l.length : Int) ≤ 40 := by omega
    go_wp2_with fail
    go_ret
    exact ⟨rfl, HX1.out⟩
  by_cases h3 : (100 : Int) < picks.length
  · have h1' : (l.length : Int) ≤ 40 := by omega
    have h2' : (keep.length : Int) ≤ 40 := by omega
    go_wp2_with fail
    go_ret
    exact ⟨rfl, HX1.out⟩
  have h1' : (l.length : Int) ≤ 40 := by omega
  have h2' : (keep.length : Int) ≤ 40 := by omega
  have h3' : (picks.length : Int) ≤ 100 := by omega
  clear h1 h2 h3
  obtain ⟨⟨oa, sa, ea⟩, hr⟩ : ∃ x, packP l keep b g m picks = x := ⟨_, rfl⟩
  have HA := Lib.hid hr
  obtain ⟨⟨ow, sw, ew⟩, hr2⟩ : ∃ x, whereP keep b g m picks = x := ⟨_, rfl⟩
  have HW := Lib.hid hr2
  obtain ⟨⟨op, np, sp, ep⟩, hr3⟩ : ∃ x, partP l keep b g m picks = x := ⟨_, rfl⟩
  have HT := Lib.hid hr3
  clear hr hr2 hr3
  go_wp2_with fail
  refine (ppack_any l keep L K lc kc b g m Ap cp picks _ (HL.out.ext HX1.out) (HK.out.ext HX1.out) (HP.out.ext HX1.out) (by omega) HG.out.1 HG.out.2.1 HG.out.2.2).mono ?_
  rw [HA.out]
  rintro ed w2 ⟨L2, l2, rfl, hO2, hE2⟩
  simp only at hO2 ⊢
  replace k0 := Ext.cell hE2 k0
  replace k1 := Ext.cell hE2 k1
  replace k2 := Ext.cell hE2 k2
  replace k3 := Ext.cell hE2 k3
  have lb2_0 : W.heap.size < w2.heap.size := by have := Ext.size hE2; omega
  have HX2 := Lib.hid (HX1.out.trans hE2)
  have Ha_2 := Lib.hid (hO2.rd)
  clear hE2 HX1
  go_wp2_with fail
  refine (rpack_any l keep L K lc kc b g m Ap cp picks _ (HL.out.ext HX2.out) (HK.out.ext HX2.out) (HP.out.ext HX2.out) (by omega) HG.out.1 HG.out.2.1 HG.out.2.2).mono ?_
  rw [HA.out]
  rintro ed w3 ⟨L3, l3, rfl, hO3, hE3⟩
  simp only at hO3 ⊢
  replace k0 := Ext.cell hE3 k0
  replace k1 := Ext.cell hE3 k1
  replace k2 := Ext.cell hE3 k2
  replace k3 := Ext.cell hE3 k3
  have lb3_0 : W.heap.size < w3.heap.size := by have := Ext.size hE3; omega
  have HX3 := Lib.hid (HX2.out.trans hE3)
  have Ha_3 := Lib.hid (Ha_2.out.ext hE3)
  have Hb_3 := Lib.hid (hO3.rd)
  clear hE3 HX2 Ha_2 lb2_0
  go_wp2_with fail
  refine (pwhere_any keep K kc b g m Ap cp picks _ (HK.out.ext HX3.out) (HP.out.ext HX3.out) (by omega) HG.out.1 HG.out.2.1 HG.out.2.2).mono ?_
  rw [HW.out]
  rintro ed w4 ⟨L4, l4, rfl, hO4, hE4⟩
  simp only at hO4 ⊢
  replace k0 := Ext.cell hE4 k0
  replace k1 := Ext.cell hE4 k1
  replace k2 := Ext.cell hE4 k2
  replace k3 := Ext.cell hE4 k3
  have lb4_0 : W.heap.size < w4.heap.size := by have := Ext.size hE4; omega
  have HX4 := Lib.hid (HX3.out.trans hE4)
  have Ha_4 := Lib.hid (Ha_3.out.ext hE4)
  have Hb_4 := Lib.hid (Hb_3.out.ext hE4)
  have Hc_4 := Lib.hid (hO4.rd)
  clear hE4 HX3 Ha_3 Hb_3 lb3_0
  go_wp2_with fail
  refine (rwhere_any keep K kc b g m Ap cp picks _ (HK.out.ext HX4.out) (HP.out.ext HX4.out) (by omega) HG.out.1 HG.out.2.1 HG.out.2.2).mono ?_
  rw [HW.out]
  rintro ed w5 ⟨L5, l5, rfl, hO5, hE5⟩
  simp only at hO5 ⊢
  replace k0 := Ext.cell hE5 k0
  replace k1 := Ext.cell hE5 k1
  replace k2 := Ext.cell hE5 k2
  replace k3 := Ext.cell hE5 k3
  have lb5_0 : W.heap.size < w5.heap.size := by have := Ext.size hE5; omega
  have HX5 := Lib.hid (HX4.out.trans hE5)
  have Ha_5 := Lib.hid (Ha_4.out.ext hE5)
  have Hb_5 := Lib.hid (Hb_4.out.ext hE5)
  have Hc_5 := Lib.hid (Hc_4.out.ext hE5)
  have Hd_5 := Lib.hid (hO5.rd)
  clear hE5 HX4 Ha_4 Hb_4 Hc_4 lb4_0
  go_wp2_with fail
  refine (ppart9_any l keep L K lc kc b g m Ap cp picks _ (HL.out.ext HX5.out) (HK.out.ext HX5.out) (HP.out.ext HX5.out) (by omega) HG.out.1 HG.out.2.1 HG.out.2.2).mono ?_
  rw [HT.out]
  rintro ed w6 ⟨L6, l6, rfl, hO6, hE6⟩
  simp only at hO6 ⊢
  replace k0 := Ext.cell hE6 k0
  replace k1 := Ext.cell hE6 k1
  replace k2 := Ext.cell hE6 k2
  replace k3 := Ext.cell hE6 k3
  have lb6_0 : W.heap.size < w6.heap.size := by have := Ext.size hE6; omega
  have HX6 := Lib.hid (HX5.out.trans hE6)
  have Ha_6 := Lib.hid (Ha_5.out.ext hE6)
  have Hb_6 := Lib.hid (Hb_5.out.ext hE6)
  have Hc_6 := Lib.hid (Hc_5.out.ext hE6)
  have Hd_6 := Lib.hid (Hd_5.out.ext hE6)
  have Hp_6 := Lib.hid (hO6.rd)
  clear hE6 HX5 Ha_5 Hb_5 Hc_5 Hd_5 lb5_0
  go_wp2_with fail
  refine (rpart9_any l keep L K lc kc b g m Ap cp picks _ (HL.out.ext HX6.out) (HK.out.ext HX6.out) (HP.out.ext HX6.out) (by omega) HG.out.1 HG.out.2.1 HG.out.2.2).mono ?_
  rw [HT.out]
  rintro ed w7 ⟨L7, l7, rfl, hO7, hE7⟩
  simp only at hO7 ⊢
  replace k0 := Ext.cell hE7 k0
  replace k1 := Ext.cell hE7 k1
  replace k2 := Ext.cell hE7 k2
  replace k3 := Ext.cell hE7 k3
  have lb7_0 : W.heap.size < w7.heap.size := by have := Ext.size hE7; omega
  have HX7 := Lib.hid (HX6.out.trans hE7)
  have Ha_7 := Lib.hid (Ha_6.out.ext hE7)
  have Hb_7 := Lib.hid (Hb_6.out.ext hE7)
  have Hc_7 := Lib.hid (Hc_6.out.ext hE7)
  have Hd_7 := Lib.hid (Hd_6.out.ext hE7)
  have Hp_7 := Lib.hid (Hp_6.out.ext hE7)
  have Hq_7 := Lib.hid (hO7.rd)
  clear hE7 HX6 Ha_6 Hb_6 Hc_6 Hd_6 Hp_6 lb6_0
  go_wp2_with fail
  clear k0 k1 k2 k3
  refine (rwords_any _ _ _ _ _ Ha_7.out Hb_7.out).mono ?_
  rintro ed w8 ⟨rfl, hE8⟩
  rw [sameB_refl]
  have HX8 := Lib.hid (HX7.out.trans hE8)
  have Ha_8 := Lib.hid (Ha_7.out.ext hE8)
  have Hb_8 := Lib.hid (Hb_7.out.ext hE8)
  have Hc_8 := Lib.hid (Hc_7.out.ext hE8)
  have Hd_8 := Lib.hid (Hd_7.out.ext hE8)
  have Hp_8 := Lib.hid (Hp_7.out.ext hE8)
  have Hq_8 := Lib.hid (Hq_7.out.ext hE8)
  clear hE8 HX7 Ha_7 Hb_7 Hc_7 Hd_7 Hp_7 Hq_7 lb7_0
  go_wp2_with fail
  clear Ha_8
  clear Hb_8
  refine (ints_any _ _ _ _ _ (ints_of_rd Hc_8.out) (ints_of_rd Hd_8.out)).mono ?_
  rintro ed w9 ⟨rfl, n9, hn9⟩
  rw [sameB_refl]
  have hE9 : Ext w8 w9 := by rw [hn9]; exact (Ext.refl _).drewN _
  have HX9 := Lib.hid (HX8.out.trans hE9)
  have Hp_9 := Lib.hid (Hp_8.out.ext hE9)
  have Hq_9 := Lib.hid (Hq_8.out.ext hE9)
  clear hn9 hE9
  go_wp2_with fail
  refine (rwords_any _ _ _ _ _ Hp_9.out Hq_9.out).mono ?_
  rintro ed w10 ⟨rfl, hE10⟩
  rw [sameB_refl]
  have HX10 := Lib.hid (HX9.out.trans hE10)
  have Hp_10 := Lib.hid (Hp_9.out.ext hE10)
  have Hq_10 := Lib.hid (Hq_9.out.ext hE10)
  clear hE10 HX9 Hp_9 Hq_9
  go_wp2_with fail
  go_ret
  exact ⟨ret_bool (by first | rfl | simp), HX10.out⟩
end Go.Proofs.Ytbedfjbnafflfaa
