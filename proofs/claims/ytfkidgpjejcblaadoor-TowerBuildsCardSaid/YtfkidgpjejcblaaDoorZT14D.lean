/- TowerBuilds: the law returns true. Written by wip/mk_t14law.py. -/
import Derived.Test.YtfkidgpjejcblaaDoorJ6
set_option linter.unusedVariables false
set_option linter.unusedSimpArgs false
set_option linter.unnecessarySimpa false
namespace Go.Proofs.YtfkidgpjejcblaaDoor
open Go.BigFrame
open Go.RowKit Go.Proofs.YtfkidgpjejcblaaDoor.Plain

set_option maxHeartbeats 6400000 in
set_option maxRecDepth 100000 in
theorem towerbuilds_any (tk hs : List Int) (L : Option Addr) (lc : Nat) (M : Option Addr) (mc : Nat) (s : List Nat) (S : Option Addr) (sc : Nat) (W : World) (hTb : Tab W) (hL : Rd kInt W (.slice L tk.length lc) tk) (hM : Rd kInt W (.slice M hs.length mc) hs) (hS : Rd kU32 W (.slice S s.length sc) (zs s)) :
    Calls Tryd.prog 3 #[.slice L tk.length lc, .slice M hs.length mc, .slice S s.length sc] W fun ed w' => ed = .returned (.bool true) ∧ Ext W w' := by
  have HTB := Lib.hid hTb
  clear hTb
  have HL := Lib.hid hL
  have HM := Lib.hid hM
  clear hL hM
  have HS := Lib.hid hS
  clear hS
  go_enter Tryd.func3, Tryd.ntmps3
  go_wp2_with fail
  refine (toweralive_any _ HTB.out).mono ?_
  rintro ed w1 ⟨rfl, hE1⟩
  have HX1 := Lib.hid hE1
  clear hE1
  by_cases h1 : (60 : Int) < tk.length
  · go_wp2_with fail
    go_ret
    exact ⟨rfl, HX1.out⟩
  by_cases h2 : (60 : Int) < hs.length
  · have h1' : (tk.length : Int) ≤ 60 := by omega
    go_wp2_with fail
    go_ret
    exact ⟨rfl, HX1.out⟩
  have h1' : (tk.length : Int) ≤ 60 := by omega
  have h2' : (hs.length : Int) ≤ 60 := by omega
  clear h1 h2
  obtain ⟨⟨t, er⟩, hb⟩ : ∃ x, buildP tk hs = x := ⟨_, rfl⟩
  have HB := Lib.hid hb
  have e1 : (er == er) = true := by simp
  have e2 : decide (er = er) = true := by simp
  obtain ⟨ht, hht⟩ : ∃ ht, tk.map (htP s) = ht := ⟨_, rfl⟩
  have HHT := Lib.hid hht
  clear hb hht
  go_wp2_with fail
  refine (pbuild14_lt tk hs L M lc mc t er _ (HL.out.ext HX1.out) (HM.out.ext HX1.out) HB.out).mono ?_
  rintro ed w2 ⟨A1, B1, N1, c1, d1, e1_, rfl, hT1, hE2⟩
  have HX2 := Lib.hid (HX1.out.trans hE2)
  have Ht_2 := Lib.hid (hT1)
  clear hE2 HX1
  go_wp2_with fail
  refine (rbuild14_lt tk hs L M lc mc t er _ ((HL.out.ext HX2.out).ext ((Ext.refl _).alloc _)) ((HM.out.ext HX2.out).ext ((Ext.refl _).alloc _)) HB.out).mono ?_
  rintro ed w3 ⟨A2, B2, N2, c2, d2, e2_, rfl, hT2, hE3⟩
  have hF3 := ((Ext.refl w2).alloc (.cells #[.slice A1 t.tokens.length c1, .slice B1 t.heights.length d1, .slice N1 t.next.length e1_] 27)).trans hE3
  have HX3 := Lib.hid (HX2.out.trans hF3)
  have Ht_3 := Lib.hid (Ht_2.out.ext hF3)
  have Hu_3 := Lib.hid (hT2)
  have p0 : w3.cell? ⟨w2.heap.size, 0, none⟩ = some (.slice A1 t.tokens.length c1) := Ext.cell hE3 (by go_simp)
  have p1 : w3.cell? ⟨w2.heap.size, 1, none⟩ = some (.slice B1 t.heights.length d1) := Ext.cell hE3 (by go_simp)
  have p2 : w3.cell? ⟨w2.heap.size, 2, none⟩ = some (.slice N1 t.next.length e1_) := Ext.cell hE3 (by go_simp)
  have lb_p : w2.heap.size < w3.heap.size := World.block_lt_of_cell? _ _ p0
  clear hE3 hF3 HX2 Ht_2
  go_wp2_with fail
  refine (rsame14_any t t A1 B1 N1 A2 B2 N2 c1 d1 e1_ c2 d2 e2_ _ (Ht_3.out.ext ((Ext.refl _).alloc _)) (Hu_3.out.ext ((Ext.refl _).alloc _))).mono ?_
  rw [decide_eq_true rfl]
  rintro ed w4 ⟨rfl, hE4⟩
  have hF4 := ((Ext.refl w3).alloc (.cells #[.slice A2 t.tokens.length c2, .slice B2 t.heights.length d2, .slice N2 t.next.length e2_] 27)).trans hE4
  replace p0 := Ext.cell hF4 p0
  replace p1 := Ext.cell hF4 p1
  replace p2 := Ext.cell hF4 p2
  have lb4_0 : w2.heap.size < w4.heap.size := by have := Ext.size hF4; omega
  have HX4 := Lib.hid (HX3.out.trans hF4)
  have Ht_4 := Lib.hid (Ht_3.out.ext hF4)
  have Hu_4 := Lib.hid (Hu_3.out.ext hF4)
  clear hE4 hF4 HX3 Ht_3 Hu_3 lb_p
  go_wp2_with fail
  clear Ht_4
  clear Hu_4
  refine (pheights14_any tk s L S lc sc _ (HL.out.ext HX4.out) (HS.out.ext HX4.out) (by omega) (Ext.tab HX4.out HTB.out)).mono ?_
  rw [HHT.out]
  rintro ed w5 ⟨Lh, lh, rfl, hOh, hE5⟩
  replace p0 := Ext.cell hE5 p0
  replace p1 := Ext.cell hE5 p1
  replace p2 := Ext.cell hE5 p2
  have lb5_0 : w2.heap.size < w5.heap.size := by have := Ext.size hE5; omega
  have HX5 := Lib.hid (HX4.out.trans hE5)
  have Hh_5 := Lib.hid (hOh.rd)
  clear hE5 HX4 lb4_0
  go_wp2_with fail
  refine (rheights14_any tk s L S lc sc _ (HL.out.ext HX5.out) (HS.out.ext HX5.out) (by omega)).mono ?_
  rw [HHT.out]
  rintro ed w6 ⟨Lg, lg, rfl, hOg, hE6⟩
  replace p0 := Ext.cell hE6 p0
  replace p1 := Ext.cell hE6 p1
  replace p2 := Ext.cell hE6 p2
  have lb6_0 : w2.heap.size < w6.heap.size := by have := Ext.size hE6; omega
  have HX6 := Lib.hid (HX5.out.trans hE6)
  have Hh_6 := Lib.hid (Hh_5.out.ext hE6)
  have Hg_6 := Lib.hid (hOg.rd)
  clear hE6 HX5 Hh_5 lb5_0
  go_wp2_with fail
  refine (ints_e _ _ _ _ _ Hh_6.out Hg_6.out).mono ?_
  rintro ed w7 ⟨rfl, hE7⟩
  rw [sameB_refl]
  replace p0 := Ext.cell hE7 p0
  replace p1 := Ext.cell hE7 p1
  replace p2 := Ext.cell hE7 p2
  have lb7_0 : w2.heap.size < w7.heap.size := by have := Ext.size hE7; omega
  have HX7 := Lib.hid (HX6.out.trans hE7)
  have Hh_7 := Lib.hid (Hh_6.out.ext hE7)
  have Hg_7 := Lib.hid (Hg_6.out.ext hE7)
  clear hE7 HX6 Hh_6 Hg_6 lb6_0
  go_wp2_with fail
  go_ret
  exact ⟨ret_bool (by first | rfl | simp), HX7.out⟩
end Go.Proofs.YtfkidgpjejcblaaDoor
