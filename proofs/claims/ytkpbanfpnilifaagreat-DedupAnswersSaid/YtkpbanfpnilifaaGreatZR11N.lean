/- DedupAnswers: the law returns true. Written by wip/mk_r11.py. -/
import Derived.Test.YtkpbanfpnilifaaGreatJ6
set_option linter.unusedVariables false
set_option linter.unusedSimpArgs false
set_option linter.unnecessarySimpa false
namespace Go.Proofs.YtkpbanfpnilifaaGreat
open Go.BigFrame
open Go.RowKit Go.Proofs.YtkpbanfpnilifaaGreat.Plain

set_option maxHeartbeats 3200000 in
set_option maxRecDepth 100000 in
theorem dedupanswers_any (l r : List Nat) (L R : Option Addr) (lc rc : Nat) (b blk g m : Int) (Ap : Option Addr) (cp : Nat) (picks : List (Int × Int)) (W : World) (hL : Rd kU32 W (.slice L l.length lc) (zs l)) (hR : Rd kU32 W (.slice R r.length rc) (zs r)) (hp : Rd kPk W (.slice Ap picks.length cp) picks) (hb : in64 b) (hbk : in64 blk) (hg : in64 g) (hm : in64 m) :
    Calls Tryz.prog 3 #[.slice L l.length lc, .slice R r.length rc, wayV b blk g m Ap picks.length cp] W fun ed w' => ed = .returned (.bool true) ∧ Ext W w' := by
  have HL := Lib.hid hL
  have HR := Lib.hid hR
  have HP := Lib.hid hp
  have HG := Lib.hid (And.intro hb (And.intro hbk (And.intro hg hm)))
  clear hL hR hp hb hbk hg hm
  go_enter Tryz.func3, Tryz.ntmps3
  go_wp2_with fail
  refine (dalive_any _).mono ?_
  rintro ed w1 ⟨rfl, hE1⟩
  have k0 : w1.cell? ⟨W.heap.size, 0, none⟩ = some (.int .i64 b) := Ext.cell hE1 (by go_simp)
  have k1 : w1.cell? ⟨W.heap.size, 1, none⟩ = some (.int .i64 blk) := Ext.cell hE1 (by go_simp)
  have k2 : w1.cell? ⟨W.heap.size, 2, none⟩ = some (.int .i64 g) := Ext.cell hE1 (by go_simp)
  have k3 : w1.cell? ⟨W.heap.size, 3, none⟩ = some (.int .i64 m) := Ext.cell hE1 (by go_simp)
  have k4 : w1.cell? ⟨W.heap.size, 4, none⟩ = some (.slice Ap picks.length cp) := Ext.cell hE1 (by go_simp)
  have kf : ∀ o, w1.frozen? ⟨W.heap.size, o, none⟩ = false := fun o => (Below.frozen hE1 (p := ⟨W.heap.size, o, none⟩) (by first | omega | (simp; omega) | simp)).trans (by go_simp)
  have HX1 := Lib.hid (((Ext.refl W).alloc (.cells #[.int .i64 b, .int .i64 blk, .int .i64 g, .int .i64 m, .slice Ap picks.length cp] 27)).trans hE1)
  have lz1 := hE1.size
  simp at lz1
  have n1 : W.heap.size < w1.heap.size := by omega
  clear hE1
  by_cases h0 : (40 : Int) < l.length
  · go_wp2_with fail
    go_ret
    exact ⟨rfl, HX1.out⟩
  by_cases h1 : (40 : Int) < r.length
  · have g0 : (l.length : Int) ≤ 40 := by omega
    go_wp2_with fail
    go_ret
    exact ⟨rfl, HX1.out⟩
  by_cases h2 : (100 : Int) < picks.length
  · have g0 : (l.length : Int) ≤ 40 := by omega
    have g1 : (r.length : Int) ≤ 40 := by omega
    go_wp2_with fail
    go_ret
    exact ⟨rfl, HX1.out⟩
  have g0 : (l.length : Int) ≤ 40 := by omega
  have g1 : (r.length : Int) ≤ 40 := by omega
  have g2 : (picks.length : Int) ≤ 100 := by omega
  clear h0 h1 h2
  obtain ⟨⟨os, ts, st, er⟩, hr⟩ : ∃ x, groupsP l b blk g m picks = x := ⟨_, rfl⟩
  have HS := Lib.hid hr
  have HO1 : Hid (once11P l b blk g m picks = (os, st, er)) := Lib.hid (by unfold once11P; rw [hr])
  obtain ⟨wo, hwo⟩ : ∃ x, withoutL l r = x := ⟨_, rfl⟩
  have HWO := Lib.hid hwo
  clear hr hwo
  go_wp2_with fail
  refine (pgroups_any l L lc b blk g m Ap cp picks _ (HL.out.ext HX1.out) (HP.out.ext HX1.out) (by omega) HG.out.1 HG.out.2.1 HG.out.2.2.1 HG.out.2.2.2).mono ?_
  rw [HS.out]
  rintro ed w2 ⟨La, Ta, la, ta, rfl, hOa, hTa, hE2⟩
  simp only at hOa hTa ⊢
  replace k0 := Ext.cell hE2 k0
  replace k1 := Ext.cell hE2 k1
  replace k2 := Ext.cell hE2 k2
  replace k3 := Ext.cell hE2 k3
  replace k4 := Ext.cell hE2 k4
  have lb2_0 : W.heap.size < w2.heap.size := by have := Ext.size hE2; omega
  have HX2 := Lib.hid (HX1.out.trans hE2)
  have Ha_2 := Lib.hid (hOa.rd)
  have Hta_2 := Lib.hid (hTa.rd)
  clear hE2 HX1 n1
  go_wp2_with fail
  refine (rgroups_any l L lc b blk g m Ap cp picks _ (HL.out.ext HX2.out) (HP.out.ext HX2.out) (by omega) HG.out.1 HG.out.2.1 HG.out.2.2.1 HG.out.2.2.2).mono ?_
  rw [HS.out]
  rintro ed w3 ⟨Lb, Tb, lb, tb, rfl, hOb, hTb, hE3⟩
  simp only at hOb hTb ⊢
  replace k0 := Ext.cell hE3 k0
  replace k1 := Ext.cell hE3 k1
  replace k2 := Ext.cell hE3 k2
  replace k3 := Ext.cell hE3 k3
  replace k4 := Ext.cell hE3 k4
  have lb3_0 : W.heap.size < w3.heap.size := by have := Ext.size hE3; omega
  have HX3 := Lib.hid (HX2.out.trans hE3)
  have Ha_3 := Lib.hid (Ha_2.out.ext hE3)
  have Hta_3 := Lib.hid (Hta_2.out.ext hE3)
  have Hb_3 := Lib.hid (hOb.rd)
  have Htb_3 := Lib.hid (hTb.rd)
  clear hE3 HX2 Ha_2 Hta_2 lb2_0
  go_wp2_with fail
  refine (ponce11_any l L lc b blk g m Ap cp picks _ (HL.out.ext HX3.out) (HP.out.ext HX3.out) (by omega) HG.out.1 HG.out.2.1 HG.out.2.2.1 HG.out.2.2.2).mono ?_
  rw [HO1.out]
  rintro ed w4 ⟨Lz, lz, rfl, hOz, hE4⟩
  simp only at hOz ⊢
  replace k0 := Ext.cell hE4 k0
  replace k1 := Ext.cell hE4 k1
  replace k2 := Ext.cell hE4 k2
  replace k3 := Ext.cell hE4 k3
  replace k4 := Ext.cell hE4 k4
  have lb4_0 : W.heap.size < w4.heap.size := by have := Ext.size hE4; omega
  have HX4 := Lib.hid (HX3.out.trans hE4)
  have Ha_4 := Lib.hid (Ha_3.out.ext hE4)
  have Hta_4 := Lib.hid (Hta_3.out.ext hE4)
  have Hb_4 := Lib.hid (Hb_3.out.ext hE4)
  have Htb_4 := Lib.hid (Htb_3.out.ext hE4)
  have Hz_4 := Lib.hid (hOz.rd)
  clear hE4 HX3 Ha_3 Hta_3 Hb_3 Htb_3 lb3_0
  go_wp2_with fail
  clear k0 k1 k2 k3 k4
  refine (rwords_any _ _ _ _ _ Ha_4.out Hb_4.out).mono ?_
  rintro ed w5 ⟨rfl, hE5⟩
  rw [sameB_refl]
  have HX5 := Lib.hid (HX4.out.trans hE5)
  have Ha_5 := Lib.hid (Ha_4.out.ext hE5)
  have Hta_5 := Lib.hid (Hta_4.out.ext hE5)
  have Hb_5 := Lib.hid (Hb_4.out.ext hE5)
  have Htb_5 := Lib.hid (Htb_4.out.ext hE5)
  have Hz_5 := Lib.hid (Hz_4.out.ext hE5)
  clear hE5 HX4 Ha_4 Hta_4 Hb_4 Htb_4 Hz_4 lb4_0
  go_wp2_with fail
  clear Ha_5
  refine (ints_e' _ _ _ _ _ Hta_5.out Htb_5.out).mono ?_
  rintro ed w6 ⟨rfl, hE6⟩
  rw [sameB_refl]
  have HX6 := Lib.hid (HX5.out.trans hE6)
  have Hta_6 := Lib.hid (Hta_5.out.ext hE6)
  have Hb_6 := Lib.hid (Hb_5.out.ext hE6)
  have Htb_6 := Lib.hid (Htb_5.out.ext hE6)
  have Hz_6 := Lib.hid (Hz_5.out.ext hE6)
  clear hE6 HX5 Hta_5 Hb_5 Htb_5 Hz_5
  go_wp2_with fail
  clear Hta_6
  clear Htb_6
  refine (rwords_any _ _ _ _ _ Hz_6.out Hb_6.out).mono ?_
  rintro ed w7 ⟨rfl, hE7⟩
  rw [sameB_refl]
  have HX7 := Lib.hid (HX6.out.trans hE7)
  have Hb_7 := Lib.hid (Hb_6.out.ext hE7)
  have Hz_7 := Lib.hid (Hz_6.out.ext hE7)
  clear hE7 HX6 Hb_6 Hz_6
  go_wp2_with fail
  clear Hz_7
  clear Hb_7
  refine (pwithout_any l r L R lc rc _ (HL.out.ext HX7.out) (HR.out.ext HX7.out) (by omega) (by omega)).mono ?_
  rw [HWO.out]
  rintro ed w8 ⟨Lc, lc_, rfl, hOc, hE8⟩
  have HX8 := Lib.hid (HX7.out.trans hE8)
  have Hc_8 := Lib.hid (hOc.rd)
  clear hE8 HX7
  go_wp2_with fail
  refine (rwithout_any l r L R lc rc _ (HL.out.ext HX8.out) (HR.out.ext HX8.out) (by omega)).mono ?_
  rw [HWO.out]
  rintro ed w9 ⟨Ld, ld, rfl, hOd, hE9⟩
  have HX9 := Lib.hid (HX8.out.trans hE9)
  have Hc_9 := Lib.hid (Hc_8.out.ext hE9)
  have Hd_9 := Lib.hid (hOd.rd)
  clear hE9 HX8 Hc_8
  go_wp2_with fail
  refine (rwords_any _ _ _ _ _ Hc_9.out Hd_9.out).mono ?_
  rintro ed w10 ⟨rfl, hE10⟩
  rw [sameB_refl]
  have HX10 := Lib.hid (HX9.out.trans hE10)
  have Hc_10 := Lib.hid (Hc_9.out.ext hE10)
  have Hd_10 := Lib.hid (Hd_9.out.ext hE10)
  clear hE10 HX9 Hc_9 Hd_9
  go_wp2_with fail
  go_ret
  exact ⟨ret_bool (by first | rfl | simp), HX10.out⟩
end Go.Proofs.YtkpbanfpnilifaaGreat
