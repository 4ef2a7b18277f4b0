/- ScanAnswers: the law returns true. Written by wip/mk_s8n.py. -/
import Derived.Test.YthblpcmmeajhkaaJ7
set_option linter.unusedVariables false
set_option linter.unusedSimpArgs false
set_option linter.unnecessarySimpa false
namespace Go.Proofs.Ythblpcmmeajhkaa
open Go.BigFrame
open Go.RowKit Go.Proofs.Ythblpcmmeajhkaa.Plain

set_option maxHeartbeats 3200000 in
set_option maxRecDepth 100000 in
theorem scananswers_any (l : List Nat) (L : Option Addr) (lc : Nat) (b g m : Int) (Ap : Option Addr) (cp : Nat) (picks : List (Int × Int)) (W : World) (hL : Rd kU32 W (.slice L l.length lc) (zs l)) (hp : Rd kPk W (.slice Ap picks.length cp) picks) (hb : in64 b) (hg : in64 g) (hm : in64 m) :
    Calls Try.prog 3 #[.slice L l.length lc, .int .i64 b, planV g m Ap picks.length cp] W fun ed w' => ed = .returned (.bool true) ∧ Ext W w' := by
  have HL := Lib.hid hL
  have HP := Lib.hid hp
  have HG := Lib.hid (And.intro hb (And.intro hg hm))
  clear hL hp hb hg hm
  go_enter Try.func3, Try.ntmps3
  go_wp2_with fail
  refine (salive_any _).mono ?_
  rintro ed w1 ⟨rfl, hE1⟩
  have k0 : w1.cell? ⟨W.heap.size, 0, none⟩ = some (.int .i64 g) := Ext.cell hE1 (by go_simp)
  have k1 : w1.cell? ⟨W.heap.size, 1, none⟩ = some (.int .i64 m) := Ext.cell hE1 (by go_simp)
  have k2 : w1.cell? ⟨W.heap.size, 2, none⟩ = some (.slice Ap picks.length cp) := Ext.cell hE1 (by go_simp)
  have kf : ∀ o, w1.frozen? ⟨W.heap.size, o, none⟩ = false := fun o => (Below.frozen hE1 (p := ⟨W.heap.size, o, none⟩) (by first | omega | (simp; omega) | simp)).trans (by go_simp)
  have HX1 := Lib.hid (((Ext.refl W).alloc (.cells #[.int .i64 g, .int .i64 m, .slice Ap picks.length cp] 25)).trans hE1)
  have lz1 := hE1.size
  simp at lz1
  have n1 : W.heap.size < w1.heap.size := by omega
  clear hE1
  by_cases h1 : (60 : Int) < l.length
  · go_wp2_with fail
    go_ret
    exact ⟨rfl, HX1.out⟩
  by_cases h3 : (200 : Int) < picks.length
  · have h1' : (l.length : Int) ≤ 60 := by omega
    go_wp2_with fail
    go_ret
    exact ⟨rfl, HX1.out⟩
  have h1' : (l.length : Int) ≤ 60 := by omega
  have h3' : (picks.length : Int) ≤ 200 := by omega
  have HTL : Hid (totW l < 4294967296) := Lib.hid (totW_lt l)
  clear h1 h3
  have HSP : Hid ((sumsP l b g m picks).2.1 < 4294967296) := Lib.hid (by unfold sumsP; split <;> first | exact totW_lt l | (show (0 : Nat) < 4294967296; omega))
  obtain ⟨⟨os, tt, st, er⟩, hr⟩ : ∃ x, sumsP l b g m picks = x := ⟨_, rfl⟩
  rw [hr] at HSP
  have HS := Lib.hid hr
  obtain ⟨⟨oh, sh, eh⟩, hr2⟩ : ∃ x, highP l b g m picks = x := ⟨_, rfl⟩
  have HH := Lib.hid hr2
  obtain ⟨ot, hr3⟩ : ∃ x, totalsW l b = x := ⟨_, rfl⟩
  have HT := Lib.hid hr3
  obtain ⟨ob, hr4⟩ : ∃ x, backW l tt = x := ⟨_, rfl⟩
  have HB := Lib.hid hr4
  obtain ⟨nb, hr5⟩ : ∃ x, blocksP l.length b = x := ⟨_, rfl⟩
  have HN := Lib.hid hr5
  have HTT : Hid (tt < 4294967296) := HSP
  clear hr hr2 hr3 hr4 hr5
  go_wp2_with fail
  refine (ssums_any l L lc b g m Ap cp picks _ (HL.out.ext HX1.out) (HP.out.ext HX1.out) (by omega) HG.out.1 HG.out.2.1 HG.out.2.2).mono ?_
  rw [HS.out]
  rintro ed w2 ⟨L2, l2, rfl, hO2, hE2⟩
  simp only at hO2 ⊢
  replace k0 := Ext.cell hE2 k0
  replace k1 := Ext.cell hE2 k1
  replace k2 := Ext.cell hE2 k2
  have lb2_0 : W.heap.size < w2.heap.size := by have := Ext.size hE2; omega
  have HX2 := Lib.hid (HX1.out.trans hE2)
  have Ha_2 := Lib.hid (hO2.rd)
  clear hE2 HX1
  go_wp2_with fail
  -- a
  refine (rsums_any l L lc b g m Ap cp picks _ (HL.out.ext HX2.out) (HP.out.ext HX2.out) (by omega) HG.out.1 HG.out.2.1 HG.out.2.2).mono ?_
  rw [HS.out]
  rintro ed w3 ⟨L3, l3, rfl, hO3, hE3⟩
  simp only at hO3 ⊢
  replace k0 := Ext.cell hE3 k0
  replace k1 := Ext.cell hE3 k1
  replace k2 := Ext.cell hE3 k2
  have lb3_0 : W.heap.size < w3.heap.size := by have := Ext.size hE3; omega
  have HX3 := Lib.hid (HX2.out.trans hE3)
  have Ha_3 := Lib.hid (Ha_2.out.ext hE3)
  have Hb_3 := Lib.hid (hO3.rd)
  clear hE3 HX2 Ha_2 lb2_0
  go_wp2_with fail
  -- b
  refine (shigh_any l L lc b g m Ap cp picks _ (HL.out.ext HX3.out) (HP.out.ext HX3.out) (by omega) HG.out.1 HG.out.2.1 HG.out.2.2).mono ?_
  rw [HH.out]
  rintro ed w4 ⟨L4, l4, rfl, hO4, hE4⟩
  simp only at hO4 ⊢
  replace k0 := Ext.cell hE4 k0
  replace k1 := Ext.cell hE4 k1
  replace k2 := Ext.cell hE4 k2
  have lb4_0 : W.heap.size < w4.heap.size := by have := Ext.size hE4; omega
  have HX4 := Lib.hid (HX3.out.trans hE4)
  have Ha_4 := Lib.hid (Ha_3.out.ext hE4)
  have Hb_4 := Lib.hid (Hb_3.out.ext hE4)
  have Hc_4 := Lib.hid (hO4.rd)
  clear hE4 HX3 Ha_3 Hb_3 lb3_0
  go_wp2_with fail
  -- c
  refine (rhigh_any l L lc b g m Ap cp picks _ (HL.out.ext HX4.out) (HP.out.ext HX4.out) (by omega) HG.out.1 HG.out.2.1 HG.out.2.2).mono ?_
  rw [HH.out]
  rintro ed w5 ⟨L5, l5, rfl, hO5, hE5⟩
  simp only at hO5 ⊢
  replace k0 := Ext.cell hE5 k0
  replace k1 := Ext.cell hE5 k1
  replace k2 := Ext.cell hE5 k2
  have lb5_0 : W.heap.size < w5.heap.size := by have := Ext.size hE5; omega
  have HX5 := Lib.hid (HX4.out.trans hE5)
  have Ha_5 := Lib.hid (Ha_4.out.ext hE5)
  have Hb_5 := Lib.hid (Hb_4.out.ext hE5)
  have Hc_5 := Lib.hid (Hc_4.out.ext hE5)
  have Hd_5 := Lib.hid (hO5.rd)
  clear hE5 HX4 Ha_4 Hb_4 Hc_4 lb4_0
  go_wp2_with fail
  -- d
  clear k0 k1 k2
  refine (rwords_any _ _ _ _ _ Ha_5.out Hb_5.out).mono ?_
  rintro ed w6 ⟨rfl, hE6⟩
  rw [sameB_refl]
  have lb6_0 : W.heap.size < w6.heap.size := by have := Ext.size hE6; omega
  have HX6 := Lib.hid (HX5.out.trans hE6)
  have Ha_6 := Lib.hid (Ha_5.out.ext hE6)
  have Hb_6 := Lib.hid (Hb_5.out.ext hE6)
  have Hc_6 := Lib.hid (Hc_5.out.ext hE6)
  have Hd_6 := Lib.hid (Hd_5.out.ext hE6)
  clear hE6 HX5 Ha_5 Hb_5 Hc_5 Hd_5 lb5_0
  go_wp2_with fail
  clear Ha_6
  clear Hb_6
  refine (rwords_any _ _ _ _ _ Hc_6.out Hd_6.out).mono ?_
  rintro ed w7 ⟨rfl, hE7⟩
  rw [sameB_refl]
  have lb7_0 : W.heap.size < w7.heap.size := by have := Ext.size hE7; omega
  have HX7 := Lib.hid (HX6.out.trans hE7)
  have Hc_7 := Lib.hid (Hc_6.out.ext hE7)
  have Hd_7 := Lib.hid (Hd_6.out.ext hE7)
  clear hE7 HX6 Hc_6 Hd_6 lb6_0
  go_wp2_with fail
  clear Hc_7
  clear Hd_7
  refine (stotals_any l L lc b _ (HL.out.ext HX7.out) (by omega) HG.out.1).mono ?_
  rw [HT.out]
  rintro ed w8 ⟨L8, l8, rfl, hO8, hE8⟩
  have lb8_0 : W.heap.size < w8.heap.size := by have := Ext.size hE8; omega
  have HX8 := Lib.hid (HX7.out.trans hE8)
  have Ha_8 := Lib.hid (hO8.rd)
  clear hE8 HX7 lb7_0
  go_wp2_with fail
  refine (rtotals_any l L lc b _ (HL.out.ext HX8.out) (by omega) HG.out.1).mono ?_
  rw [HT.out]
  rintro ed w9 ⟨L9, l9, rfl, hO9, hE9⟩
  have lb9_0 : W.heap.size < w9.heap.size := by have := Ext.size hE9; omega
  have HX9 := Lib.hid (HX8.out.trans hE9)
  have Ha_9 := Lib.hid (Ha_8.out.ext hE9)
  have Hb_9 := Lib.hid (hO9.rd)
  clear hE9 HX8 Ha_8 lb8_0
  go_wp2_with fail
  refine (rwords_any _ _ _ _ _ Ha_9.out Hb_9.out).mono ?_
  rintro ed w10 ⟨rfl, hE10⟩
  rw [sameB_refl]
  have lb10_0 : W.heap.size < w10.heap.size := by have := Ext.size hE10; omega
  have HX10 := Lib.hid (HX9.out.trans hE10)
  have Ha_10 := Lib.hid (Ha_9.out.ext hE10)
  have Hb_10 := Lib.hid (Hb_9.out.ext hE10)
  clear hE10 HX9 Ha_9 Hb_9 lb9_0
  go_wp2_with fail
  clear Ha_10
  clear Hb_10
  refine (sback_any l L lc tt _ (HL.out.ext HX10.out) (by omega) HTT.out).mono ?_
  rw [HB.out]
  rintro ed w11 ⟨La, la, rfl, hOa, hE11⟩
  have lb11_0 : W.heap.size < w11.heap.size := by have := Ext.size hE11; omega
  have HX11 := Lib.hid (HX10.out.trans hE11)
  have Ha_11 := Lib.hid (hOa.rd)
  clear hE11 HX10 lb10_0
  go_wp2_with fail
  refine (rback_any l L lc tt _ (HL.out.ext HX11.out) (by omega) HTT.out).mono ?_
  rw [HB.out]
  rintro ed w12 ⟨Lb, lb, rfl, hOb, hE12⟩
  have lb12_0 : W.heap.size < w12.heap.size := by have := Ext.size hE12; omega
  have HX12 := Lib.hid (HX11.out.trans hE12)
  have Ha_12 := Lib.hid (Ha_11.out.ext hE12)
  have Hb_12 := Lib.hid (hOb.rd)
  clear hE12 HX11 Ha_11 lb11_0
  go_wp2_with fail
  refine (rwords_any _ _ _ _ _ Ha_12.out Hb_12.out).mono ?_
  rintro ed w13 ⟨rfl, hE13⟩
  rw [sameB_refl]
  have lb13_0 : W.heap.size < w13.heap.size := by have := Ext.size hE13; omega
  have HX13 := Lib.hid (HX12.out.trans hE13)
  have Ha_13 := Lib.hid (Ha_12.out.ext hE13)
  have Hb_13 := Lib.hid (Hb_12.out.ext hE13)
  clear hE13 HX12 Ha_12 Hb_12 lb12_0
  go_wp2_with fail
  clear Ha_13
  clear Hb_13
  refine (sblocks_any l.length b _ (by omega) HG.out.1).mono ?_
  rw [HN.out]
  rintro ed w14 ⟨rfl, hE14⟩
  have lb14_0 : W.heap.size < w14.heap.size := by have := Ext.size hE14; omega
  have HX14 := Lib.hid (HX13.out.trans hE14)
  clear hE14 HX13 lb13_0
  go_wp2_with fail
  refine (rblocks_any l.length b _ (by omega) HG.out.1).mono ?_
  rw [HN.out]
  rintro ed wz ⟨rfl, rfl⟩
  go_wp2_with fail
  go_ret
  exact ⟨ret_bool (by first | rfl | simp), HX14.out⟩
end Go.Proofs.Ythblpcmmeajhkaa
