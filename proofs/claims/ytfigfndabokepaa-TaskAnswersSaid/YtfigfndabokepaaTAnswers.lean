/- The walk of TaskAnswers. Written by wip/mk_tans.py. -/
import Derived.Test.YtfigfndabokepaaTAnsB
namespace Go.Proofs.Ytfigfndabokepaa
open Go.BigFrame
open Go.RowKit Go.Proofs.Ytfigfndabokepaa.Plain

set_option maxHeartbeats 1600000 in
set_option maxRecDepth 100000 in
theorem tanswers_great (A B : Option Addr) (c d : Nat) (ts : List Tk) (dn : List Bool) (g i xa xb : Int) (w : World) (h : Rd kTask w (.slice A ts.length c) ts) (hd : Rd kBool w (.slice B dn.length d) dn) (hb : 300 < ts.length ∨ 1001 < dn.length) :
    Calls Try.prog 3 #[.agg #[.slice A ts.length c, .int .i64 g, .slice B dn.length d], .int .i64 i, .agg #[.int .i64 xa, .int .i64 xb]] w fun e w' => e = .returned (.bool true) ∧ Ext w w' := by
  have hm := h.len
  have hn := hd.len
  have hb2 : (300 : Int) < ts.length ∨ (1001 : Int) < dn.length := by omega
  clear h hd hb
  by_cases h3 : (300 : Int) < ts.length
  · go_enter Try.func3, Try.ntmps3
    go_wp2_with fail
    refine (talive_any _).mono ?_
    rintro e w1 ⟨rfl, hE⟩
    have q0 : w1.cell? ⟨w.heap.size, 0, none⟩ = some (.slice A ts.length c) := hE.cell (by go_simp)
    have q2 : w1.cell? ⟨w.heap.size, 2, none⟩ = some (.slice B dn.length d) := hE.cell (by go_simp)
    have E1 := Lib.hid ((((Ext.refl w).alloc _).alloc _).trans hE)
    clear hE
    go_wp2_with fail
    go_ret
    exact ⟨rfl, E1.out⟩
  · have h4 : (1001 : Int) < dn.length := by omega
    go_enter Try.func3, Try.ntmps3
    go_wp2_with fail
    refine (talive_any _).mono ?_
    rintro e w1 ⟨rfl, hE⟩
    have q0 : w1.cell? ⟨w.heap.size, 0, none⟩ = some (.slice A ts.length c) := hE.cell (by go_simp)
    have q2 : w1.cell? ⟨w.heap.size, 2, none⟩ = some (.slice B dn.length d) := hE.cell (by go_simp)
    have E1 := Lib.hid ((((Ext.refl w).alloc _).alloc _).trans hE)
    clear hE
    go_wp2_with fail
    go_ret
    exact ⟨rfl, E1.out⟩

set_option maxHeartbeats 12800000 in
set_option maxRecDepth 100000 in
theorem tanswers_walk (A B : Option Addr) (c d : Nat) (ts : List Tk) (dn : List Bool) (g i xa xb : Int) (w : World) (h : Rd kTask w (.slice A ts.length c) ts) (hd : Rd kBool w (.slice B dn.length d) dn) (hg : in64 g) (hi : in64 i) (hxa : in64 xa) (hxb : in64 xb) (hb : ts.length ≤ 300 ∧ dn.length ≤ 1001) :
    Calls Try.prog 3 #[.agg #[.slice A ts.length c, .int .i64 g, .slice B dn.length d], .int .i64 i, .agg #[.int .i64 xa, .int .i64 xb]] w fun e w' => e = .returned (.bool true) ∧ Ext w w' := by
  have HT := Lib.hid h
  have HD := Lib.hid hd
  have HG := Lib.hid hg
  have HI := Lib.hid hi
  have HXA := Lib.hid hxa
  have HXB := Lib.hid hxb
  have hm : ¬ (300 : Int) < ts.length := by omega
  have hn1 : ¬ (1001 : Int) < dn.length := by omega
  have hn : dn.length ≤ 9223372036854775807 := by omega
  obtain ⟨U, p, q, r, hpo⟩ := partOut ts g dn i
  have HPO := Lib.hid hpo
  obtain ⟨us, ds, bq, s, hdo⟩ := doOut ts g dn i
  have HDO := Lib.hid hdo
  obtain ⟨bt, bg, bd, be, hbo⟩ := beginOut xa xb
  have HBO := Lib.hid hbo
  obtain ⟨cT, hcT⟩ : ∃ x, countT xa xb = x := ⟨_, rfl⟩
  have HCT := Lib.hid hcT
  obtain ⟨cL, hcL⟩ : ∃ x, countL xa xb = x := ⟨_, rfl⟩
  have HCL := Lib.hid hcL
  obtain ⟨rb, hrb⟩ : ∃ x, wRight ts g dn.length = x := ⟨_, rfl⟩
  have HRB := Lib.hid hrb
  obtain ⟨gb, hgb⟩ : ∃ x, wGreat ts g dn.length i = x := ⟨_, rfl⟩
  have HGB := Lib.hid hgb
  obtain ⟨hb1, hb2⟩ := hb
  clear h hd hg hi hxa hxb hpo hdo hbo hcT hcL hrb hgb
  go_enter Try.func3, Try.ntmps3
  go_wp2_with fail
  refine (talive_any _).mono ?_
  rintro e w1 ⟨rfl, hE⟩
  have E1 := Lib.hid ((((Ext.refl _).alloc _).alloc _).trans hE)
  have z1 := hE.size
  try simp at z1
  have c_p_0_1 : w1.cell? ⟨w.heap.size, 0, none⟩ = some (.slice A ts.length c) := hE.cell (by go_simp)
  have c_p_1_1 : w1.cell? ⟨w.heap.size, 1, none⟩ = some (.int .i64 g) := hE.cell (by go_simp)
  have c_p_2_1 : w1.cell? ⟨w.heap.size, 2, none⟩ = some (.slice B dn.length d) := hE.cell (by go_simp)
  have c_h_0_1 : w1.cell? ⟨w.heap.size + 1, 0, none⟩ = some (.int .i64 xa) := hE.cell (by go_simp)
  have c_h_1_1 : w1.cell? ⟨w.heap.size + 1, 1, none⟩ = some (.int .i64 xb) := hE.cell (by go_simp)
  have l_p_0_1 : w.heap.size < w1.heap.size := by omega
  have l_p_1_1 : w.heap.size < w1.heap.size + 1 := by omega
  have l_p_2_1 : w.heap.size < w1.heap.size + 1 + 1 := by omega
  have l_h_0_1 : w.heap.size + 1 < w1.heap.size := by omega
  have l_h_1_1 : w.heap.size + 1 < w1.heap.size + 1 := by omega
  have l_h_2_1 : w.heap.size + 1 < w1.heap.size + 1 + 1 := by omega
  have Ig_1 := Lib.hid ((HT.out.ext (((Ext.refl _).alloc _).alloc _)).ext hE)
  have Ix_1 := Lib.hid ((HD.out.ext (((Ext.refl _).alloc _).alloc _)).ext hE)
  clear HT HD hE
  go_wp2_with fail
  refine (copy_u _ _ _ _ ts g dn _ Ig_1.out Ix_1.out (by omega) (by omega)).mono ?_
  rintro e w2 ⟨A3, c3, B3, d3, rfl, ht1, ht2, hE⟩
  have E2 := Lib.hid (E1.out.trans hE)
  have z2 := hE.size
  try simp at z2
  have c_p_0_2 : w2.cell? ⟨w.heap.size, 0, none⟩ = some (.slice A ts.length c) := hE.cell (by go_simp)
  have c_p_1_2 : w2.cell? ⟨w.heap.size, 1, none⟩ = some (.int .i64 g) := hE.cell (by go_simp)
  have c_p_2_2 : w2.cell? ⟨w.heap.size, 2, none⟩ = some (.slice B dn.length d) := hE.cell (by go_simp)
  have c_h_0_2 : w2.cell? ⟨w.heap.size + 1, 0, none⟩ = some (.int .i64 xa) := hE.cell (by go_simp)
  have c_h_1_2 : w2.cell? ⟨w.heap.size + 1, 1, none⟩ = some (.int .i64 xb) := hE.cell (by go_simp)
  have l_p_0_2 : w.heap.size < w2.heap.size := by omega
  have l_p_1_2 : w.heap.size < w2.heap.size + 1 := by omega
  have l_p_2_2 : w.heap.size < w2.heap.size + 1 + 1 := by omega
  have l_h_0_2 : w.heap.size + 1 < w2.heap.size := by omega
  have l_h_1_2 : w.heap.size + 1 < w2.heap.size + 1 := by omega
  have l_h_2_2 : w.heap.size + 1 < w2.heap.size + 1 + 1 := by omega
  have Ig_2 := Lib.hid (Ig_1.out.ext hE)
  have Ix_2 := Lib.hid (Ix_1.out.ext hE)
  clear c_p_0_1 c_p_1_1 c_p_2_1 c_h_0_1 c_h_1_1 l_p_0_1 l_p_1_1 l_p_2_1 l_h_0_1 l_h_1_1 l_h_2_1 Ig_1 Ix_1 E1 hE
  have Ioa_2 := Lib.hid ht1
  clear ht1
  have Iob_2 := Lib.hid ht2
  clear ht2
  go_wp2_with fail
  refine (ppart_u _ _ _ _ ts dn g i U p q r _ (Ioa_2.out.ext ((Ext.refl _).alloc _)) (Iob_2.out.ext ((Ext.refl _).alloc _)) HG.out HI.out (by omega) (by omega) HPO.out).mono ?_
  rintro e w3 ⟨A4, c4, B4, d4, rfl, ht1, ht2, hE⟩
  have E3 := Lib.hid ((E2.out.alloc _).trans hE)
  have z3 := hE.size
  try simp at z3
  have c_p_0_3 : w3.cell? ⟨w.heap.size, 0, none⟩ = some (.slice A ts.length c) := hE.cell (by go_simp)
  have c_p_1_3 : w3.cell? ⟨w.heap.size, 1, none⟩ = some (.int .i64 g) := hE.cell (by go_simp)
  have c_p_2_3 : w3.cell? ⟨w.heap.size, 2, none⟩ = some (.slice B dn.length d) := hE.cell (by go_simp)
  have c_h_0_3 : w3.cell? ⟨w.heap.size + 1, 0, none⟩ = some (.int .i64 xa) := hE.cell (by go_simp)
  have c_h_1_3 : w3.cell? ⟨w.heap.size + 1, 1, none⟩ = some (.int .i64 xb) := hE.cell (by go_simp)
  have c_t7_0_3 : w3.cell? ⟨w2.heap.size, 0, none⟩ = some (.slice A3 ts.length c3) := hE.cell (by go_simp)
  have c_t7_1_3 : w3.cell? ⟨w2.heap.size, 1, none⟩ = some (.int .i64 g) := hE.cell (by go_simp)
  have c_t7_2_3 : w3.cell? ⟨w2.heap.size, 2, none⟩ = some (.slice B3 dn.length d3) := hE.cell (by go_simp)
  have l_p_0_3 : w.heap.size < w3.heap.size := by omega
  have l_p_1_3 : w.heap.size < w3.heap.size + 1 := by omega
  have l_p_2_3 : w.heap.size < w3.heap.size + 1 + 1 := by omega
  have l_h_0_3 : w.heap.size + 1 < w3.heap.size := by omega
  have l_h_1_3 : w.heap.size + 1 < w3.heap.size + 1 := by omega
  have l_h_2_3 : w.heap.size + 1 < w3.heap.size + 1 + 1 := by omega
  have l_t7_0_3 : w2.heap.size < w3.heap.size := by omega
  have l_t7_1_3 : w2.heap.size < w3.heap.size + 1 := by omega
  have l_t7_2_3 : w2.heap.size < w3.heap.size + 1 + 1 := by omega
  have Ig_3 := Lib.hid ((Ig_2.out.ext ((Ext.refl _).alloc _)).ext hE)
  have Ix_3 := Lib.hid ((Ix_2.out.ext ((Ext.refl _).alloc _)).ext hE)
  have Ioa_3 := Lib.hid ((Ioa_2.out.ext ((Ext.refl _).alloc _)).ext hE)
  have Iob_3 := Lib.hid ((Iob_2.out.ext ((Ext.refl _).alloc _)).ext hE)
  clear c_p_0_2 c_p_1_2 c_p_2_2 c_h_0_2 c_h_1_2 l_p_0_2 l_p_1_2 l_p_2_2 l_h_0_2 l_h_1_2 l_h_2_2 Ig_2 Ix_2 Ioa_2 Iob_2 E2 hE
  have Ipa_3 := Lib.hid ht1
  clear ht1
  have Ipb_3 := Lib.hid ht2
  clear ht2
  go_wp2_with fail
  refine (rpart_u _ _ _ _ ts dn g i U p q r _ (Ig_3.out.ext ((Ext.refl _).alloc _)) (Ix_3.out.ext ((Ext.refl _).alloc _)) HG.out HI.out HPO.out).mono ?_
  rintro e w4 ⟨A5, c5, B5, d5, rfl, ht1, ht2, hE⟩
  have E4 := Lib.hid ((E3.out.alloc _).trans hE)
  have z4 := hE.size
  try simp at z4
  have c_p_0_4 : w4.cell? ⟨w.heap.size, 0, none⟩ = some (.slice A ts.length c) := hE.cell (by go_simp)
  have c_p_1_4 : w4.cell? ⟨w.heap.size, 1, none⟩ = some (.int .i64 g) := hE.cell (by go_simp)
  have c_p_2_4 : w4.cell? ⟨w.heap.size, 2, none⟩ = some (.slice B dn.length d) := hE.cell (by go_simp)
  have c_h_0_4 : w4.cell? ⟨w.heap.size + 1, 0, none⟩ = some (.int .i64 xa) := hE.cell (by go_simp)
  have c_h_1_4 : w4.cell? ⟨w.heap.size + 1, 1, none⟩ = some (.int .i64 xb) := hE.cell (by go_simp)
  have c_t7_0_4 : w4.cell? ⟨w2.heap.size, 0, none⟩ = some (.slice A3 ts.length c3) := hE.cell (by go_simp)
  have c_t7_1_4 : w4.cell? ⟨w2.heap.size, 1, none⟩ = some (.int .i64 g) := hE.cell (by go_simp)
  have c_t7_2_4 : w4.cell? ⟨w2.heap.size, 2, none⟩ = some (.slice B3 dn.length d3) := hE.cell (by go_simp)
  have c_t8_0_4 : w4.cell? ⟨w3.heap.size, 0, none⟩ = some (.slice A4 U.length c4) := hE.cell (by go_simp)
  have c_t8_1_4 : w4.cell? ⟨w3.heap.size, 1, none⟩ = some (.int .i64 g) := hE.cell (by go_simp)
  have c_t8_2_4 : w4.cell? ⟨w3.heap.size, 2, none⟩ = some (.slice B4 dn.length d4) := hE.cell (by go_simp)
  have l_p_0_4 : w.heap.size < w4.heap.size := by omega
  have l_p_1_4 : w.heap.size < w4.heap.size + 1 := by omega
  have l_p_2_4 : w.heap.size < w4.heap.size + 1 + 1 := by omega
  have l_h_0_4 : w.heap.size + 1 < w4.heap.size := by omega
  have l_h_1_4 : w.heap.size + 1 < w4.heap.size + 1 := by omega
  have l_h_2_4 : w.heap.size + 1 < w4.heap.size + 1 + 1 := by omega
  have l_t7_0_4 : w2.heap.size < w4.heap.size := by omega
  have l_t7_1_4 : w2.heap.size < w4.heap.size + 1 := by omega
  have l_t7_2_4 : w2.heap.size < w4.heap.size + 1 + 1 := by omega
  have l_t8_0_4 : w3.heap.size < w4.heap.size := by omega
  have l_t8_1_4 : w3.heap.size < w4.heap.size + 1 := by omega
  have l_t8_2_4 : w3.heap.size < w4.heap.size + 1 + 1 := by omega
  have Ig_4 := Lib.hid ((Ig_3.out.ext ((Ext.refl _).alloc _)).ext hE)
  have Ix_4 := Lib.hid ((Ix_3.out.ext ((Ext.refl _).alloc _)).ext hE)
  have Ioa_4 := Lib.hid ((Ioa_3.out.ext ((Ext.refl _).alloc _)).ext hE)
  have Iob_4 := Lib.hid ((Iob_3.out.ext ((Ext.refl _).alloc _)).ext hE)
  have Ipa_4 := Lib.hid ((Ipa_3.out.ext ((Ext.refl _).alloc _)).ext hE)
  have Ipb_4 := Lib.hid ((Ipb_3.out.ext ((Ext.refl _).alloc _)).ext hE)
  clear c_p_0_3 c_p_1_3 c_p_2_3 c_h_0_3 c_h_1_3 c_t7_0_3 c_t7_1_3 c_t7_2_3 l_p_0_3 l_p_1_3 l_p_2_3 l_h_0_3 l_h_1_3 l_h_2_3 l_t7_0_3 l_t7_1_3 l_t7_2_3 Ig_3 Ix_3 Ioa_3 Iob_3 Ipa_3 Ipb_3 E3 hE
  have Ira_4 := Lib.hid ht1
  clear ht1
  have Irb_4 := Lib.hid ht2
  clear ht2
  go_wp2_with fail
  refine (pdo_u _ _ _ _ ts dn g i us ds bq s _ (Ioa_4.out.ext ((Ext.refl _).alloc _)) (Iob_4.out.ext ((Ext.refl _).alloc _)) HG.out HI.out (by omega) (by omega) HDO.out).mono ?_
  rintro e w5 ⟨A6, c6, B6, d6, rfl, ht1, ht2, hE⟩
  have E5 := Lib.hid ((E4.out.alloc _).trans hE)
  have z5 := hE.size
  try simp at z5
  have c_p_0_5 : w5.cell? ⟨w.heap.size, 0, none⟩ = some (.slice A ts.length c) := hE.cell (by go_simp)
  have c_p_1_5 : w5.cell? ⟨w.heap.size, 1, none⟩ = some (.int .i64 g) := hE.cell (by go_simp)
  have c_p_2_5 : w5.cell? ⟨w.heap.size, 2, none⟩ = some (.slice B dn.length d) := hE.cell (by go_simp)
  have c_h_0_5 : w5.cell? ⟨w.heap.size + 1, 0, none⟩ = some (.int .i64 xa) := hE.cell (by go_simp)
  have c_h_1_5 : w5.cell? ⟨w.heap.size + 1, 1, none⟩ = some (.int .i64 xb) := hE.cell (by go_simp)
  have c_t7_0_5 : w5.cell? ⟨w2.heap.size, 0, none⟩ = some (.slice A3 ts.length c3) := hE.cell (by go_simp)
  have c_t7_1_5 : w5.cell? ⟨w2.heap.size, 1, none⟩ = some (.int .i64 g) := hE.cell (by go_simp)
  have c_t7_2_5 : w5.cell? ⟨w2.heap.size, 2, none⟩ = some (.slice B3 dn.length d3) := hE.cell (by go_simp)
  have c_t8_0_5 : w5.cell? ⟨w3.heap.size, 0, none⟩ = some (.slice A4 U.length c4) := hE.cell (by go_simp)
  have c_t8_1_5 : w5.cell? ⟨w3.heap.size, 1, none⟩ = some (.int .i64 g) := hE.cell (by go_simp)
  have c_t8_2_5 : w5.cell? ⟨w3.heap.size, 2, none⟩ = some (.slice B4 dn.length d4) := hE.cell (by go_simp)
  have c_t12_0_5 : w5.cell? ⟨w4.heap.size, 0, none⟩ = some (.slice A5 U.length c5) := hE.cell (by go_simp)
  have c_t12_1_5 : w5.cell? ⟨w4.heap.size, 1, none⟩ = some (.int .i64 g) := hE.cell (by go_simp)
  have c_t12_2_5 : w5.cell? ⟨w4.heap.size, 2, none⟩ = some (.slice B5 dn.length d5) := hE.cell (by go_simp)
  have l_p_0_5 : w.heap.size < w5.heap.size := by omega
  have l_p_1_5 : w.heap.size < w5.heap.size + 1 := by omega
  have l_p_2_5 : w.heap.size < w5.heap.size + 1 + 1 := by omega
  have l_h_0_5 : w.heap.size + 1 < w5.heap.size := by omega
  have l_h_1_5 : w.heap.size + 1 < w5.heap.size + 1 := by omega
  have l_h_2_5 : w.heap.size + 1 < w5.heap.size + 1 + 1 := by omega
  have l_t7_0_5 : w2.heap.size < w5.heap.size := by omega
  have l_t7_1_5 : w2.heap.size < w5.heap.size + 1 := by omega
  have l_t7_2_5 : w2.heap.size < w5.heap.size + 1 + 1 := by omega
  have l_t8_0_5 : w3.heap.size < w5.heap.size := by omega
  have l_t8_1_5 : w3.heap.size < w5.heap.size + 1 := by omega
  have l_t8_2_5 : w3.heap.size < w5.heap.size + 1 + 1 := by omega
  have l_t12_0_5 : w4.heap.size < w5.heap.size := by omega
  have l_t12_1_5 : w4.heap.size < w5.heap.size + 1 := by omega
  have l_t12_2_5 : w4.heap.size < w5.heap.size + 1 + 1 := by omega
  have Ig_5 := Lib.hid ((Ig_4.out.ext ((Ext.refl _).alloc _)).ext hE)
  have Ix_5 := Lib.hid ((Ix_4.out.ext ((Ext.refl _).alloc _)).ext hE)
  have Ioa_5 := Lib.hid ((Ioa_4.out.ext ((Ext.refl _).alloc _)).ext hE)
  have Iob_5 := Lib.hid ((Iob_4.out.ext ((Ext.refl _).alloc _)).ext hE)
  have Ipa_5 := Lib.hid ((Ipa_4.out.ext ((Ext.refl _).alloc _)).ext hE)
  have Ipb_5 := Lib.hid ((Ipb_4.out.ext ((Ext.refl _).alloc _)).ext hE)
  have Ira_5 := Lib.hid ((Ira_4.out.ext ((Ext.refl _).alloc _)).ext hE)
  have Irb_5 := Lib.hid ((Irb_4.out.ext ((Ext.refl _).alloc _)).ext hE)
  clear c_p_0_4 c_p_1_4 c_p_2_4 c_h_0_4 c_h_1_4 c_t7_0_4 c_t7_1_4 c_t7_2_4 c_t8_0_4 c_t8_1_4 c_t8_2_4 l_p_0_4 l_p_1_4 l_p_2_4 l_h_0_4 l_h_1_4 l_h_2_4 l_t7_0_4 l_t7_1_4 l_t7_2_4 l_t8_0_4 l_t8_1_4 l_t8_2_4 Ig_4 Ix_4 Ioa_4 Iob_4 Ipa_4 Ipb_4 Ira_4 Irb_4 E4 hE
  have Ika_5 := Lib.hid ht1
  clear ht1
  have Ikb_5 := Lib.hid ht2
  clear ht2
  go_wp2_with fail
  refine (rdo_u _ _ _ _ ts dn g i us ds bq s _ (Ig_5.out.ext ((Ext.refl _).alloc _)) (Ix_5.out.ext ((Ext.refl _).alloc _)) HG.out HI.out HDO.out).mono ?_
  rintro e w6 ⟨A7, c7, B7, d7, rfl, ht1, ht2, hE⟩
  have E6 := Lib.hid ((E5.out.alloc _).trans hE)
  have z6 := hE.size
  try simp at z6
  have c_p_0_6 : w6.cell? ⟨w.heap.size, 0, none⟩ = some (.slice A ts.length c) := hE.cell (by go_simp)
  have c_p_1_6 : w6.cell? ⟨w.heap.size, 1, none⟩ = some (.int .i64 g) := hE.cell (by go_simp)
  have c_p_2_6 : w6.cell? ⟨w.heap.size, 2, none⟩ = some (.slice B dn.length d) := hE.cell (by go_simp)
  have c_h_0_6 : w6.cell? ⟨w.heap.size + 1, 0, none⟩ = some (.int .i64 xa) := hE.cell (by go_simp)
  have c_h_1_6 : w6.cell? ⟨w.heap.size + 1, 1, none⟩ = some (.int .i64 xb) := hE.cell (by go_simp)
  have c_t7_0_6 : w6.cell? ⟨w2.heap.size, 0, none⟩ = some (.slice A3 ts.length c3) := hE.cell (by go_simp)
  have c_t7_1_6 : w6.cell? ⟨w2.heap.size, 1, none⟩ = some (.int .i64 g) := hE.cell (by go_simp)
  have c_t7_2_6 : w6.cell? ⟨w2.heap.size, 2, none⟩ = some (.slice B3 dn.length d3) := hE.cell (by go_simp)
  have c_t8_0_6 : w6.cell? ⟨w3.heap.size, 0, none⟩ = some (.slice A4 U.length c4) := hE.cell (by go_simp)
  have c_t8_1_6 : w6.cell? ⟨w3.heap.size, 1, none⟩ = some (.int .i64 g) := hE.cell (by go_simp)
  have c_t8_2_6 : w6.cell? ⟨w3.heap.size, 2, none⟩ = some (.slice B4 dn.length d4) := hE.cell (by go_simp)
  have c_t12_0_6 : w6.cell? ⟨w4.heap.size, 0, none⟩ = some (.slice A5 U.length c5) := hE.cell (by go_simp)
  have c_t12_1_6 : w6.cell? ⟨w4.heap.size, 1, none⟩ = some (.int .i64 g) := hE.cell (by go_simp)
  have c_t12_2_6 : w6.cell? ⟨w4.heap.size, 2, none⟩ = some (.slice B5 dn.length d5) := hE.cell (by go_simp)
  have c_t16_0_6 : w6.cell? ⟨w5.heap.size, 0, none⟩ = some (.slice A6 us.length c6) := hE.cell (by go_simp)
  have c_t16_1_6 : w6.cell? ⟨w5.heap.size, 1, none⟩ = some (.int .i64 g) := hE.cell (by go_simp)
  have c_t16_2_6 : w6.cell? ⟨w5.heap.size, 2, none⟩ = some (.slice B6 ds.length d6) := hE.cell (by go_simp)
  have l_p_0_6 : w.heap.size < w6.heap.size := by omega
  have l_p_1_6 : w.heap.size < w6.heap.size + 1 := by omega
  have l_p_2_6 : w.heap.size < w6.heap.size + 1 + 1 := by omega
  have l_h_0_6 : w.heap.size + 1 < w6.heap.size := by omega
  have l_h_1_6 : w.heap.size + 1 < w6.heap.size + 1 := by omega
  have l_h_2_6 : w.heap.size + 1 < w6.heap.size + 1 + 1 := by omega
  have l_t7_0_6 : w2.heap.size < w6.heap.size := by omega
  have l_t7_1_6 : w2.heap.size < w6.heap.size + 1 := by omega
  have l_t7_2_6 : w2.heap.size < w6.heap.size + 1 + 1 := by omega
  have l_t8_0_6 : w3.heap.size < w6.heap.size := by omega
  have l_t8_1_6 : w3.heap.size < w6.heap.size + 1 := by omega
  have l_t8_2_6 : w3.heap.size < w6.heap.size + 1 + 1 := by omega
  have l_t12_0_6 : w4.heap.size < w6.heap.size := by omega
  have l_t12_1_6 : w4.heap.size < w6.heap.size + 1 := by omega
  have l_t12_2_6 : w4.heap.size < w6.heap.size + 1 + 1 := by omega
  have l_t16_0_6 : w5.heap.size < w6.heap.size := by omega
  have l_t16_1_6 : w5.heap.size < w6.heap.size + 1 := by omega
  have l_t16_2_6 : w5.heap.size < w6.heap.size + 1 + 1 := by omega
  have Ig_6 := Lib.hid ((Ig_5.out.ext ((Ext.refl _).alloc _)).ext hE)
  have Ix_6 := Lib.hid ((Ix_5.out.ext ((Ext.refl _).alloc _)).ext hE)
  have Ioa_6 := Lib.hid ((Ioa_5.out.ext ((Ext.refl _).alloc _)).ext hE)
  have Iob_6 := Lib.hid ((Iob_5.out.ext ((Ext.refl _).alloc _)).ext hE)
  have Ipa_6 := Lib.hid ((Ipa_5.out.ext ((Ext.refl _).alloc _)).ext hE)
  have Ipb_6 := Lib.hid ((Ipb_5.out.ext ((Ext.refl _).alloc _)).ext hE)
  have Ira_6 := Lib.hid ((Ira_5.out.ext ((Ext.refl _).alloc _)).ext hE)
  have Irb_6 := Lib.hid ((Irb_5.out.ext ((Ext.refl _).alloc _)).ext hE)
  have Ika_6 := Lib.hid ((Ika_5.out.ext ((Ext.refl _).alloc _)).ext hE)
  have Ikb_6 := Lib.hid ((Ikb_5.out.ext ((Ext.refl _).alloc _)).ext hE)
  clear c_p_0_5 c_p_1_5 c_p_2_5 c_h_0_5 c_h_1_5 c_t7_0_5 c_t7_1_5 c_t7_2_5 c_t8_0_5 c_t8_1_5 c_t8_2_5 c_t12_0_5 c_t12_1_5 c_t12_2_5 l_p_0_5 l_p_1_5 l_p_2_5 l_h_0_5 l_h_1_5 l_h_2_5 l_t7_0_5 l_t7_1_5 l_t7_2_5 l_t8_0_5 l_t8_1_5 l_t8_2_5 l_t12_0_5 l_t12_1_5 l_t12_2_5 Ig_5 Ix_5 Ioa_5 Iob_5 Ipa_5 Ipb_5 Ira_5 Irb_5 Ika_5 Ikb_5 E5 hE
  have Ila_6 := Lib.hid ht1
  clear ht1
  have Ilb_6 := Lib.hid ht2
  clear ht2
  go_wp2_with fail
  refine (pbegin_u xa xb bt bg bd be _ HXA.out HXB.out HBO.out).mono ?_
  rintro e w7 ⟨A8, c8, B8, d8, rfl, ht1, ht2, hE⟩
  have E7 := Lib.hid ((E6.out.alloc _).trans hE)
  have z7 := hE.size
  try simp at z7
  have c_p_0_7 : w7.cell? ⟨w.heap.size, 0, none⟩ = some (.slice A ts.length c) := hE.cell (by go_simp)
  have c_p_1_7 : w7.cell? ⟨w.heap.size, 1, none⟩ = some (.int .i64 g) := hE.cell (by go_simp)
  have c_p_2_7 : w7.cell? ⟨w.heap.size, 2, none⟩ = some (.slice B dn.length d) := hE.cell (by go_simp)
  have c_h_0_7 : w7.cell? ⟨w.heap.size + 1, 0, none⟩ = some (.int .i64 xa) := hE.cell (by go_simp)
  have c_h_1_7 : w7.cell? ⟨w.heap.size + 1, 1, none⟩ = some (.int .i64 xb) := hE.cell (by go_simp)
  have c_t7_0_7 : w7.cell? ⟨w2.heap.size, 0, none⟩ = some (.slice A3 ts.length c3) := hE.cell (by go_simp)
  have c_t7_1_7 : w7.cell? ⟨w2.heap.size, 1, none⟩ = some (.int .i64 g) := hE.cell (by go_simp)
  have c_t7_2_7 : w7.cell? ⟨w2.heap.size, 2, none⟩ = some (.slice B3 dn.length d3) := hE.cell (by go_simp)
  have c_t8_0_7 : w7.cell? ⟨w3.heap.size, 0, none⟩ = some (.slice A4 U.length c4) := hE.cell (by go_simp)
  have c_t8_1_7 : w7.cell? ⟨w3.heap.size, 1, none⟩ = some (.int .i64 g) := hE.cell (by go_simp)
  have c_t8_2_7 : w7.cell? ⟨w3.heap.size, 2, none⟩ = some (.slice B4 dn.length d4) := hE.cell (by go_simp)
  have c_t12_0_7 : w7.cell? ⟨w4.heap.size, 0, none⟩ = some (.slice A5 U.length c5) := hE.cell (by go_simp)
  have c_t12_1_7 : w7.cell? ⟨w4.heap.size, 1, none⟩ = some (.int .i64 g) := hE.cell (by go_simp)
  have c_t12_2_7 : w7.cell? ⟨w4.heap.size, 2, none⟩ = some (.slice B5 dn.length d5) := hE.cell (by go_simp)
  have c_t16_0_7 : w7.cell? ⟨w5.heap.size, 0, none⟩ = some (.slice A6 us.length c6) := hE.cell (by go_simp)
  have c_t16_1_7 : w7.cell? ⟨w5.heap.size, 1, none⟩ = some (.int .i64 g) := hE.cell (by go_simp)
  have c_t16_2_7 : w7.cell? ⟨w5.heap.size, 2, none⟩ = some (.slice B6 ds.length d6) := hE.cell (by go_simp)
  have c_t19_0_7 : w7.cell? ⟨w6.heap.size, 0, none⟩ = some (.slice A7 us.length c7) := hE.cell (by go_simp)
  have c_t19_1_7 : w7.cell? ⟨w6.heap.size, 1, none⟩ = some (.int .i64 g) := hE.cell (by go_simp)
  have c_t19_2_7 : w7.cell? ⟨w6.heap.size, 2, none⟩ = some (.slice B7 ds.length d7) := hE.cell (by go_simp)
  have l_p_0_7 : w.heap.size < w7.heap.size := by omega
  have l_p_1_7 : w.heap.size < w7.heap.size + 1 := by omega
  have l_p_2_7 : w.heap.size < w7.heap.size + 1 + 1 := by omega
  have l_h_0_7 : w.heap.size + 1 < w7.heap.size := by omega
  have l_h_1_7 : w.heap.size + 1 < w7.heap.size + 1 := by omega
  have l_h_2_7 : w.heap.size + 1 < w7.heap.size + 1 + 1 := by omega
  have l_t7_0_7 : w2.heap.size < w7.heap.size := by omega
  have l_t7_1_7 : w2.heap.size < w7.heap.size + 1 := by omega
  have l_t7_2_7 : w2.heap.size < w7.heap.size + 1 + 1 := by omega
  have l_t8_0_7 : w3.heap.size < w7.heap.size := by omega
  have l_t8_1_7 : w3.heap.size < w7.heap.size + 1 := by omega
  have l_t8_2_7 : w3.heap.size < w7.heap.size + 1 + 1 := by omega
  have l_t12_0_7 : w4.heap.size < w7.heap.size := by omega
  have l_t12_1_7 : w4.heap.size < w7.heap.size + 1 := by omega
  have l_t12_2_7 : w4.heap.size < w7.heap.size + 1 + 1 := by omega
  have l_t16_0_7 : w5.heap.size < w7.heap.size := by omega
  have l_t16_1_7 : w5.heap.size < w7.heap.size + 1 := by omega
  have l_t16_2_7 : w5.heap.size < w7.heap.size + 1 + 1 := by omega
  have l_t19_0_7 : w6.heap.size < w7.heap.size := by omega
  have l_t19_1_7 : w6.heap.size < w7.heap.size + 1 := by omega
  have l_t19_2_7 : w6.heap.size < w7.heap.size + 1 + 1 := by omega
  have Ig_7 := Lib.hid ((Ig_6.out.ext ((Ext.refl _).alloc _)).ext hE)
  have Ix_7 := Lib.hid ((Ix_6.out.ext ((Ext.refl _).alloc _)).ext hE)
  have Ioa_7 := Lib.hid ((Ioa_6.out.ext ((Ext.refl _).alloc _)).ext hE)
  have Iob_7 := Lib.hid ((Iob_6.out.ext ((Ext.refl _).alloc _)).ext hE)
  have Ipa_7 := Lib.hid ((Ipa_6.out.ext ((Ext.refl _).alloc _)).ext hE)
  have Ipb_7 := Lib.hid ((Ipb_6.out.ext ((Ext.refl _).alloc _)).ext hE)
  have Ira_7 := Lib.hid ((Ira_6.out.ext ((Ext.refl _).alloc _)).ext hE)
  have Irb_7 := Lib.hid ((Irb_6.out.ext ((Ext.refl _).alloc _)).ext hE)
  have Ika_7 := Lib.hid ((Ika_6.out.ext ((Ext.refl _).alloc _)).ext hE)
  have Ikb_7 := Lib.hid ((Ikb_6.out.ext ((Ext.refl _).alloc _)).ext hE)
  have Ila_7 := Lib.hid ((Ila_6.out.ext ((Ext.refl _).alloc _)).ext hE)
  have Ilb_7 := Lib.hid ((Ilb_6.out.ext ((Ext.refl _).alloc _)).ext hE)
  clear c_p_0_6 c_p_1_6 c_p_2_6 c_h_0_6 c_h_1_6 c_t7_0_6 c_t7_1_6 c_t7_2_6 c_t8_0_6 c_t8_1_6 c_t8_2_6 c_t12_0_6 c_t12_1_6 c_t12_2_6 c_t16_0_6 c_t16_1_6 c_t16_2_6 l_p_0_6 l_p_1_6 l_p_2_6 l_h_0_6 l_h_1_6 l_h_2_6 l_t7_0_6 l_t7_1_6 l_t7_2_6 l_t8_0_6 l_t8_1_6 l_t8_2_6 l_t12_0_6 l_t12_1_6 l_t12_2_6 l_t16_0_6 l_t16_1_6 l_t16_2_6 Ig_6 Ix_6 Ioa_6 Iob_6 Ipa_6 Ipb_6 Ira_6 Irb_6 Ika_6 Ikb_6 Ila_6 Ilb_6 E6 hE
  have Ima_7 := Lib.hid ht1
  clear ht1
  have Imb_7 := Lib.hid ht2
  clear ht2
  go_wp2_with fail
  refine (rbegin_u xa xb bt bg bd be _ HXA.out HXB.out HBO.out).mono ?_
  rintro e w8 ⟨A9, c9, B9, d9, rfl, ht1, ht2, hE⟩
  have E8 := Lib.hid ((E7.out.alloc _).trans hE)
  have z8 := hE.size
  try simp at z8
  have c_p_0_8 : w8.cell? ⟨w.heap.size, 0, none⟩ = some (.slice A ts.length c) := hE.cell (by go_simp)
  have c_p_1_8 : w8.cell? ⟨w.heap.size, 1, none⟩ = some (.int .i64 g) := hE.cell (by go_simp)
  have c_p_2_8 : w8.cell? ⟨w.heap.size, 2, none⟩ = some (.slice B dn.length d) := hE.cell (by go_simp)
  have c_h_0_8 : w8.cell? ⟨w.heap.size + 1, 0, none⟩ = some (.int .i64 xa) := hE.cell (by go_simp)
  have c_h_1_8 : w8.cell? ⟨w.heap.size + 1, 1, none⟩ = some (.int .i64 xb) := hE.cell (by go_simp)
  have c_t7_0_8 : w8.cell? ⟨w2.heap.size, 0, none⟩ = some (.slice A3 ts.length c3) := hE.cell (by go_simp)
  have c_t7_1_8 : w8.cell? ⟨w2.heap.size, 1, none⟩ = some (.int .i64 g) := hE.cell (by go_simp)
  have c_t7_2_8 : w8.cell? ⟨w2.heap.size, 2, none⟩ = some (.slice B3 dn.length d3) := hE.cell (by go_simp)
  have c_t8_0_8 : w8.cell? ⟨w3.heap.size, 0, none⟩ = some (.slice A4 U.length c4) := hE.cell (by go_simp)
  have c_t8_1_8 : w8.cell? ⟨w3.heap.size, 1, none⟩ = some (.int .i64 g) := hE.cell (by go_simp)
  have c_t8_2_8 : w8.cell? ⟨w3.heap.size, 2, none⟩ = some (.slice B4 dn.length d4) := hE.cell (by go_simp)
  have c_t12_0_8 : w8.cell? ⟨w4.heap.size, 0, none⟩ = some (.slice A5 U.length c5) := hE.cell (by go_simp)
  have c_t12_1_8 : w8.cell? ⟨w4.heap.size, 1, none⟩ = some (.int .i64 g) := hE.cell (by go_simp)
  have c_t12_2_8 : w8.cell? ⟨w4.heap.size, 2, none⟩ = some (.slice B5 dn.length d5) := hE.cell (by go_simp)
  have c_t16_0_8 : w8.cell? ⟨w5.heap.size, 0, none⟩ = some (.slice A6 us.length c6) := hE.cell (by go_simp)
  have c_t16_1_8 : w8.cell? ⟨w5.heap.size, 1, none⟩ = some (.int .i64 g) := hE.cell (by go_simp)
  have c_t16_2_8 : w8.cell? ⟨w5.heap.size, 2, none⟩ = some (.slice B6 ds.length d6) := hE.cell (by go_simp)
  have c_t19_0_8 : w8.cell? ⟨w6.heap.size, 0, none⟩ = some (.slice A7 us.length c7) := hE.cell (by go_simp)
  have c_t19_1_8 : w8.cell? ⟨w6.heap.size, 1, none⟩ = some (.int .i64 g) := hE.cell (by go_simp)
  have c_t19_2_8 : w8.cell? ⟨w6.heap.size, 2, none⟩ = some (.slice B7 ds.length d7) := hE.cell (by go_simp)
  have c_t22_0_8 : w8.cell? ⟨w7.heap.size, 0, none⟩ = some (.slice A8 bt.length c8) := hE.cell (by go_simp)
  have c_t22_1_8 : w8.cell? ⟨w7.heap.size, 1, none⟩ = some (.int .i64 bg) := hE.cell (by go_simp)
  have c_t22_2_8 : w8.cell? ⟨w7.heap.size, 2, none⟩ = some (.slice B8 bd.length d8) := hE.cell (by go_simp)
  have l_p_0_8 : w.heap.size < w8.heap.size := by omega
  have l_p_1_8 : w.heap.size < w8.heap.size + 1 := by omega
  have l_p_2_8 : w.heap.size < w8.heap.size + 1 + 1 := by omega
  have l_h_0_8 : w.heap.size + 1 < w8.heap.size := by omega
  have l_h_1_8 : w.heap.size + 1 < w8.heap.size + 1 := by omega
  have l_h_2_8 : w.heap.size + 1 < w8.heap.size + 1 + 1 := by omega
  have l_t7_0_8 : w2.heap.size < w8.heap.size := by omega
  have l_t7_1_8 : w2.heap.size < w8.heap.size + 1 := by omega
  have l_t7_2_8 : w2.heap.size < w8.heap.size + 1 + 1 := by omega
  have l_t8_0_8 : w3.heap.size < w8.heap.size := by omega
  have l_t8_1_8 : w3.heap.size < w8.heap.size + 1 := by omega
  have l_t8_2_8 : w3.heap.size < w8.heap.size + 1 + 1 := by omega
  have l_t12_0_8 : w4.heap.size < w8.heap.size := by omega
  have l_t12_1_8 : w4.heap.size < w8.heap.size + 1 := by omega
  have l_t12_2_8 : w4.heap.size < w8.heap.size + 1 + 1 := by omega
  have l_t16_0_8 : w5.heap.size < w8.heap.size := by omega
  have l_t16_1_8 : w5.heap.size < w8.heap.size + 1 := by omega
  have l_t16_2_8 : w5.heap.size < w8.heap.size + 1 + 1 := by omega
  have l_t19_0_8 : w6.heap.size < w8.heap.size := by omega
  have l_t19_1_8 : w6.heap.size < w8.heap.size + 1 := by omega
  have l_t19_2_8 : w6.heap.size < w8.heap.size + 1 + 1 := by omega
  have l_t22_0_8 : w7.heap.size < w8.heap.size := by omega
  have l_t22_1_8 : w7.heap.size < w8.heap.size + 1 := by omega
  have l_t22_2_8 : w7.heap.size < w8.heap.size + 1 + 1 := by omega
  have Ig_8 := Lib.hid ((Ig_7.out.ext ((Ext.refl _).alloc _)).ext hE)
  have Ix_8 := Lib.hid ((Ix_7.out.ext ((Ext.refl _).alloc _)).ext hE)
  have Ioa_8 := Lib.hid ((Ioa_7.out.ext ((Ext.refl _).alloc _)).ext hE)
  have Iob_8 := Lib.hid ((Iob_7.out.ext ((Ext.refl _).alloc _)).ext hE)
  have Ipa_8 := Lib.hid ((Ipa_7.out.ext ((Ext.refl _).alloc _)).ext hE)
  have Ipb_8 := Lib.hid ((Ipb_7.out.ext ((Ext.refl _).alloc _)).ext hE)
  have Ira_8 := Lib.hid ((Ira_7.out.ext ((Ext.refl _).alloc _)).ext hE)
  have Irb_8 := Lib.hid ((Irb_7.out.ext ((Ext.refl _).alloc _)).ext hE)
  have Ika_8 := Lib.hid ((Ika_7.out.ext ((Ext.refl _).alloc _)).ext hE)
  have Ikb_8 := Lib.hid ((Ikb_7.out.ext ((Ext.refl _).alloc _)).ext hE)
  have Ila_8 := Lib.hid ((Ila_7.out.ext ((Ext.refl _).alloc _)).ext hE)
  have Ilb_8 := Lib.hid ((Ilb_7.out.ext ((Ext.refl _).alloc _)).ext hE)
  have Ima_8 := Lib.hid ((Ima_7.out.ext ((Ext.refl _).alloc _)).ext hE)
  have Imb_8 := Lib.hid ((Imb_7.out.ext ((Ext.refl _).alloc _)).ext hE)
  clear c_p_0_7 c_p_1_7 c_p_2_7 c_h_0_7 c_h_1_7 c_t7_0_7 c_t7_1_7 c_t7_2_7 c_t8_0_7 c_t8_1_7 c_t8_2_7 c_t12_0_7 c_t12_1_7 c_t12_2_7 c_t16_0_7 c_t16_1_7 c_t16_2_7 c_t19_0_7 c_t19_1_7 c_t19_2_7 l_p_0_7 l_p_1_7 l_p_2_7 l_h_0_7 l_h_1_7 l_h_2_7 l_t7_0_7 l_t7_1_7 l_t7_2_7 l_t8_0_7 l_t8_1_7 l_t8_2_7 l_t12_0_7 l_t12_1_7 l_t12_2_7 l_t16_0_7 l_t16_1_7 l_t16_2_7 l_t19_0_7 l_t19_1_7 l_t19_2_7 Ig_7 Ix_7 Ioa_7 Iob_7 Ipa_7 Ipb_7 Ira_7 Irb_7 Ika_7 Ikb_7 Ila_7 Ilb_7 Ima_7 Imb_7 E7 hE
  have Ina_8 := Lib.hid ht1
  clear ht1
  have Inb_8 := Lib.hid ht2
  clear ht2
  go_wp2_with fail
  refine (count_to xa xb cT cL _ HXA.out HXB.out HCT.out HCL.out).mono ?_
  rintro e w9 ⟨rfl, hE⟩
  have E9 := Lib.hid ((E8.out.alloc _).trans hE)
  have z9 := hE.size
  try simp at z9
  have c_p_0_9 : w9.cell? ⟨w.heap.size, 0, none⟩ = some (.slice A ts.length c) := hE.cell (by go_simp)
  have c_p_1_9 : w9.cell? ⟨w.heap.size, 1, none⟩ = some (.int .i64 g) := hE.cell (by go_simp)
  have c_p_2_9 : w9.cell? ⟨w.heap.size, 2, none⟩ = some (.slice B dn.length d) := hE.cell (by go_simp)
  have c_h_0_9 : w9.cell? ⟨w.heap.size + 1, 0, none⟩ = some (.int .i64 xa) := hE.cell (by go_simp)
  have c_h_1_9 : w9.cell? ⟨w.heap.size + 1, 1, none⟩ = some (.int .i64 xb) := hE.cell (by go_simp)
  have c_t7_0_9 : w9.cell? ⟨w2.heap.size, 0, none⟩ = some (.slice A3 ts.length c3) := hE.cell (by go_simp)
  have c_t7_1_9 : w9.cell? ⟨w2.heap.size, 1, none⟩ = some (.int .i64 g) := hE.cell (by go_simp)
  have c_t7_2_9 : w9.cell? ⟨w2.heap.size, 2, none⟩ = some (.slice B3 dn.length d3) := hE.cell (by go_simp)
  have c_t8_0_9 : w9.cell? ⟨w3.heap.size, 0, none⟩ = some (.slice A4 U.length c4) := hE.cell (by go_simp)
  have c_t8_1_9 : w9.cell? ⟨w3.heap.size, 1, none⟩ = some (.int .i64 g) := hE.cell (by go_simp)
  have c_t8_2_9 : w9.cell? ⟨w3.heap.size, 2, none⟩ = some (.slice B4 dn.length d4) := hE.cell (by go_simp)
  have c_t12_0_9 : w9.cell? ⟨w4.heap.size, 0, none⟩ = some (.slice A5 U.length c5) := hE.cell (by go_simp)
  have c_t12_1_9 : w9.cell? ⟨w4.heap.size, 1, none⟩ = some (.int .i64 g) := hE.cell (by go_simp)
  have c_t12_2_9 : w9.cell? ⟨w4.heap.size, 2, none⟩ = some (.slice B5 dn.length d5) := hE.cell (by go_simp)
  have c_t16_0_9 : w9.cell? ⟨w5.heap.size, 0, none⟩ = some (.slice A6 us.length c6) := hE.cell (by go_simp)
  have c_t16_1_9 : w9.cell? ⟨w5.heap.size, 1, none⟩ = some (.int .i64 g) := hE.cell (by go_simp)
  have c_t16_2_9 : w9.cell? ⟨w5.heap.size, 2, none⟩ = some (.slice B6 ds.length d6) := hE.cell (by go_simp)
  have c_t19_0_9 : w9.cell? ⟨w6.heap.size, 0, none⟩ = some (.slice A7 us.length c7) := hE.cell (by go_simp)
  have c_t19_1_9 : w9.cell? ⟨w6.heap.size, 1, none⟩ = some (.int .i64 g) := hE.cell (by go_simp)
  have c_t19_2_9 : w9.cell? ⟨w6.heap.size, 2, none⟩ = some (.slice B7 ds.length d7) := hE.cell (by go_simp)
  have c_t22_0_9 : w9.cell? ⟨w7.heap.size, 0, none⟩ = some (.slice A8 bt.length c8) := hE.cell (by go_simp)
  have c_t22_1_9 : w9.cell? ⟨w7.heap.size, 1, none⟩ = some (.int .i64 bg) := hE.cell (by go_simp)
  have c_t22_2_9 : w9.cell? ⟨w7.heap.size, 2, none⟩ = some (.slice B8 bd.length d8) := hE.cell (by go_simp)
  have c_t24_0_9 : w9.cell? ⟨w8.heap.size, 0, none⟩ = some (.slice A9 bt.length c9) := hE.cell (by go_simp)
  have c_t24_1_9 : w9.cell? ⟨w8.heap.size, 1, none⟩ = some (.int .i64 bg) := hE.cell (by go_simp)
  have c_t24_2_9 : w9.cell? ⟨w8.heap.size, 2, none⟩ = some (.slice B9 bd.length d9) := hE.cell (by go_simp)
  have l_p_0_9 : w.heap.size < w9.heap.size := by omega
  have l_p_1_9 : w.heap.size < w9.heap.size + 1 := by omega
  have l_p_2_9 : w.heap.size < w9.heap.size + 1 + 1 := by omega
  have l_h_0_9 : w.heap.size + 1 < w9.heap.size := by omega
  have l_h_1_9 : w.heap.size + 1 < w9.heap.size + 1 := by omega
  have l_h_2_9 : w.heap.size + 1 < w9.heap.size + 1 + 1 := by omega
  have l_t7_0_9 : w2.heap.size < w9.heap.size := by omega
  have l_t7_1_9 : w2.heap.size < w9.heap.size + 1 := by omega
  have l_t7_2_9 : w2.heap.size < w9.heap.size + 1 + 1 := by omega
  have l_t8_0_9 : w3.heap.size < w9.heap.size := by omega
  have l_t8_1_9 : w3.heap.size < w9.heap.size + 1 := by omega
  have l_t8_2_9 : w3.heap.size < w9.heap.size + 1 + 1 := by omega
  have l_t12_0_9 : w4.heap.size < w9.heap.size := by omega
  have l_t12_1_9 : w4.heap.size < w9.heap.size + 1 := by omega
  have l_t12_2_9 : w4.heap.size < w9.heap.size + 1 + 1 := by omega
  have l_t16_0_9 : w5.heap.size < w9.heap.size := by omega
  have l_t16_1_9 : w5.heap.size < w9.heap.size + 1 := by omega
  have l_t16_2_9 : w5.heap.size < w9.heap.size + 1 + 1 := by omega
  have l_t19_0_9 : w6.heap.size < w9.heap.size := by omega
  have l_t19_1_9 : w6.heap.size < w9.heap.size + 1 := by omega
  have l_t19_2_9 : w6.heap.size < w9.heap.size + 1 + 1 := by omega
  have l_t22_0_9 : w7.heap.size < w9.heap.size := by omega
  have l_t22_1_9 : w7.heap.size < w9.heap.size + 1 := by omega
  have l_t22_2_9 : w7.heap.size < w9.heap.size + 1 + 1 := by omega
  have l_t24_0_9 : w8.heap.size < w9.heap.size := by omega
  have l_t24_1_9 : w8.heap.size < w9.heap.size + 1 := by omega
  have l_t24_2_9 : w8.heap.size < w9.heap.size + 1 + 1 := by omega
  have Ig_9 := Lib.hid ((Ig_8.out.ext ((Ext.refl _).alloc _)).ext hE)
  have Ix_9 := Lib.hid ((Ix_8.out.ext ((Ext.refl _).alloc _)).ext hE)
  have Ioa_9 := Lib.hid ((Ioa_8.out.ext ((Ext.refl _).alloc _)).ext hE)
  have Iob_9 := Lib.hid ((Iob_8.out.ext ((Ext.refl _).alloc _)).ext hE)
  have Ipa_9 := Lib.hid ((Ipa_8.out.ext ((Ext.refl _).alloc _)).ext hE)
  have Ipb_9 := Lib.hid ((Ipb_8.out.ext ((Ext.refl _).alloc _)).ext hE)
  have Ira_9 := Lib.hid ((Ira_8.out.ext ((Ext.refl _).alloc _)).ext hE)
  have Irb_9 := Lib.hid ((Irb_8.out.ext ((Ext.refl _).alloc _)).ext hE)
  have Ika_9 := Lib.hid ((Ika_8.out.ext ((Ext.refl _).alloc _)).ext hE)
  have Ikb_9 := Lib.hid ((Ikb_8.out.ext ((Ext.refl _).alloc _)).ext hE)
  have Ila_9 := Lib.hid ((Ila_8.out.ext ((Ext.refl _).alloc _)).ext hE)
  have Ilb_9 := Lib.hid ((Ilb_8.out.ext ((Ext.refl _).alloc _)).ext hE)
  have Ima_9 := Lib.hid ((Ima_8.out.ext ((Ext.refl _).alloc _)).ext hE)
  have Imb_9 := Lib.hid ((Imb_8.out.ext ((Ext.refl _).alloc _)).ext hE)
  have Ina_9 := Lib.hid ((Ina_8.out.ext ((Ext.refl _).alloc _)).ext hE)
  have Inb_9 := Lib.hid ((Inb_8.out.ext ((Ext.refl _).alloc _)).ext hE)
  clear c_p_0_8 c_p_1_8 c_p_2_8 c_h_0_8 c_h_1_8 c_t7_0_8 c_t7_1_8 c_t7_2_8 c_t8_0_8 c_t8_1_8 c_t8_2_8 c_t12_0_8 c_t12_1_8 c_t12_2_8 c_t16_0_8 c_t16_1_8 c_t16_2_8 c_t19_0_8 c_t19_1_8 c_t19_2_8 c_t22_0_8 c_t22_1_8 c_t22_2_8 l_p_0_8 l_p_1_8 l_p_2_8 l_h_0_8 l_h_1_8 l_h_2_8 l_t7_0_8 l_t7_1_8 l_t7_2_8 l_t8_0_8 l_t8_1_8 l_t8_2_8 l_t12_0_8 l_t12_1_8 l_t12_2_8 l_t16_0_8 l_t16_1_8 l_t16_2_8 l_t19_0_8 l_t19_1_8 l_t19_2_8 l_t22_0_8 l_t22_1_8 l_t22_2_8 Ig_8 Ix_8 Ioa_8 Iob_8 Ipa_8 Ipb_8 Ira_8 Irb_8 Ika_8 Ikb_8 Ila_8 Ilb_8 Ima_8 Imb_8 Ina_8 Inb_8 E8 hE
  go_wp2_with fail
  refine (rcount_to xa xb cT cL _ HXA.out HXB.out HCT.out HCL.out).mono ?_
  rintro e w10 ⟨rfl, hE⟩
  have E10 := Lib.hid (E9.out.trans hE)
  have z10 := hE.size
  try simp at z10
  have c_p_0_10 : w10.cell? ⟨w.heap.size, 0, none⟩ = some (.slice A ts.length c) := hE.cell (by go_simp)
  have c_p_1_10 : w10.cell? ⟨w.heap.size, 1, none⟩ = some (.int .i64 g) := hE.cell (by go_simp)
  have c_p_2_10 : w10.cell? ⟨w.heap.size, 2, none⟩ = some (.slice B dn.length d) := hE.cell (by go_simp)
  have c_h_0_10 : w10.cell? ⟨w.heap.size + 1, 0, none⟩ = some (.int .i64 xa) := hE.cell (by go_simp)
  have c_h_1_10 : w10.cell? ⟨w.heap.size + 1, 1, none⟩ = some (.int .i64 xb) := hE.cell (by go_simp)
  have c_t7_0_10 : w10.cell? ⟨w2.heap.size, 0, none⟩ = some (.slice A3 ts.length c3) := hE.cell (by go_simp)
  have c_t7_1_10 : w10.cell? ⟨w2.heap.size, 1, none⟩ = some (.int .i64 g) := hE.cell (by go_simp)
  have c_t7_2_10 : w10.cell? ⟨w2.heap.size, 2, none⟩ = some (.slice B3 dn.length d3) := hE.cell (by go_simp)
  have c_t8_0_10 : w10.cell? ⟨w3.heap.size, 0, none⟩ = some (.slice A4 U.length c4) := hE.cell (by go_simp)
  have c_t8_1_10 : w10.cell? ⟨w3.heap.size, 1, none⟩ = some (.int .i64 g) := hE.cell (by go_simp)
  have c_t8_2_10 : w10.cell? ⟨w3.heap.size, 2, none⟩ = some (.slice B4 dn.length d4) := hE.cell (by go_simp)
  have c_t12_0_10 : w10.cell? ⟨w4.heap.size, 0, none⟩ = some (.slice A5 U.length c5) := hE.cell (by go_simp)
  have c_t12_1_10 : w10.cell? ⟨w4.heap.size, 1, none⟩ = some (.int .i64 g) := hE.cell (by go_simp)
  have c_t12_2_10 : w10.cell? ⟨w4.heap.size, 2, none⟩ = some (.slice B5 dn.length d5) := hE.cell (by go_simp)
  have c_t16_0_10 : w10.cell? ⟨w5.heap.size, 0, none⟩ = some (.slice A6 us.length c6) := hE.cell (by go_simp)
  have c_t16_1_10 : w10.cell? ⟨w5.heap.size, 1, none⟩ = some (.int .i64 g) := hE.cell (by go_simp)
  have c_t16_2_10 : w10.cell? ⟨w5.heap.size, 2, none⟩ = some (.slice B6 ds.length d6) := hE.cell (by go_simp)
  have c_t19_0_10 : w10.cell? ⟨w6.heap.size, 0, none⟩ = some (.slice A7 us.length c7) := hE.cell (by go_simp)
  have c_t19_1_10 : w10.cell? ⟨w6.heap.size, 1, none⟩ = some (.int .i64 g) := hE.cell (by go_simp)
  have c_t19_2_10 : w10.cell? ⟨w6.heap.size, 2, none⟩ = some (.slice B7 ds.length d7) := hE.cell (by go_simp)
  have c_t22_0_10 : w10.cell? ⟨w7.heap.size, 0, none⟩ = some (.slice A8 bt.length c8) := hE.cell (by go_simp)
  have c_t22_1_10 : w10.cell? ⟨w7.heap.size, 1, none⟩ = some (.int .i64 bg) := hE.cell (by go_simp)
  have c_t22_2_10 : w10.cell? ⟨w7.heap.size, 2, none⟩ = some (.slice B8 bd.length d8) := hE.cell (by go_simp)
  have c_t24_0_10 : w10.cell? ⟨w8.heap.size, 0, none⟩ = some (.slice A9 bt.length c9) := hE.cell (by go_simp)
  have c_t24_1_10 : w10.cell? ⟨w8.heap.size, 1, none⟩ = some (.int .i64 bg) := hE.cell (by go_simp)
  have c_t24_2_10 : w10.cell? ⟨w8.heap.size, 2, none⟩ = some (.slice B9 bd.length d9) := hE.cell (by go_simp)
  have l_p_0_10 : w.heap.size < w10.heap.size := by omega
  have l_p_1_10 : w.heap.size < w10.heap.size + 1 := by omega
  have l_p_2_10 : w.heap.size < w10.heap.size + 1 + 1 := by omega
  have l_h_0_10 : w.heap.size + 1 < w10.heap.size := by omega
  have l_h_1_10 : w.heap.size + 1 < w10.heap.size + 1 := by omega
  have l_h_2_10 : w.heap.size + 1 < w10.heap.size + 1 + 1 := by omega
  have l_t7_0_10 : w2.heap.size < w10.heap.size := by omega
  have l_t7_1_10 : w2.heap.size < w10.heap.size + 1 := by omega
  have l_t7_2_10 : w2.heap.size < w10.heap.size + 1 + 1 := by omega
  have l_t8_0_10 : w3.heap.size < w10.heap.size := by omega
  have l_t8_1_10 : w3.heap.size < w10.heap.size + 1 := by omega
  have l_t8_2_10 : w3.heap.size < w10.heap.size + 1 + 1 := by omega
  have l_t12_0_10 : w4.heap.size < w10.heap.size := by omega
  have l_t12_1_10 : w4.heap.size < w10.heap.size + 1 := by omega
  have l_t12_2_10 : w4.heap.size < w10.heap.size + 1 + 1 := by omega
  have l_t16_0_10 : w5.heap.size < w10.heap.size := by omega
  have l_t16_1_10 : w5.heap.size < w10.heap.size + 1 := by omega
  have l_t16_2_10 : w5.heap.size < w10.heap.size + 1 + 1 := by omega
  have l_t19_0_10 : w6.heap.size < w10.heap.size := by omega
  have l_t19_1_10 : w6.heap.size < w10.heap.size + 1 := by omega
  have l_t19_2_10 : w6.heap.size < w10.heap.size + 1 + 1 := by omega
  have l_t22_0_10 : w7.heap.size < w10.heap.size := by omega
  have l_t22_1_10 : w7.heap.size < w10.heap.size + 1 := by omega
  have l_t22_2_10 : w7.heap.size < w10.heap.size + 1 + 1 := by omega
  have l_t24_0_10 : w8.heap.size < w10.heap.size := by omega
  have l_t24_1_10 : w8.heap.size < w10.heap.size + 1 := by omega
  have l_t24_2_10 : w8.heap.size < w10.heap.size + 1 + 1 := by omega
  have Ig_10 := Lib.hid (Ig_9.out.ext hE)
  have Ix_10 := Lib.hid (Ix_9.out.ext hE)
  have Ioa_10 := Lib.hid (Ioa_9.out.ext hE)
  have Iob_10 := Lib.hid (Iob_9.out.ext hE)
  have Ipa_10 := Lib.hid (Ipa_9.out.ext hE)
  have Ipb_10 := Lib.hid (Ipb_9.out.ext hE)
  have Ira_10 := Lib.hid (Ira_9.out.ext hE)
  have Irb_10 := Lib.hid (Irb_9.out.ext hE)
  have Ika_10 := Lib.hid (Ika_9.out.ext hE)
  have Ikb_10 := Lib.hid (Ikb_9.out.ext hE)
  have Ila_10 := Lib.hid (Ila_9.out.ext hE)
  have Ilb_10 := Lib.hid (Ilb_9.out.ext hE)
  have Ima_10 := Lib.hid (Ima_9.out.ext hE)
  have Imb_10 := Lib.hid (Imb_9.out.ext hE)
  have Ina_10 := Lib.hid (Ina_9.out.ext hE)
  have Inb_10 := Lib.hid (Inb_9.out.ext hE)
  clear c_p_0_9 c_p_1_9 c_p_2_9 c_h_0_9 c_h_1_9 c_t7_0_9 c_t7_1_9 c_t7_2_9 c_t8_0_9 c_t8_1_9 c_t8_2_9 c_t12_0_9 c_t12_1_9 c_t12_2_9 c_t16_0_9 c_t16_1_9 c_t16_2_9 c_t19_0_9 c_t19_1_9 c_t19_2_9 c_t22_0_9 c_t22_1_9 c_t22_2_9 c_t24_0_9 c_t24_1_9 c_t24_2_9 l_p_0_9 l_p_1_9 l_p_2_9 l_h_0_9 l_h_1_9 l_h_2_9 l_t7_0_9 l_t7_1_9 l_t7_2_9 l_t8_0_9 l_t8_1_9 l_t8_2_9 l_t12_0_9 l_t12_1_9 l_t12_2_9 l_t16_0_9 l_t16_1_9 l_t16_2_9 l_t19_0_9 l_t19_1_9 l_t19_2_9 l_t22_0_9 l_t22_1_9 l_t22_2_9 l_t24_0_9 l_t24_1_9 l_t24_2_9 Ig_9 Ix_9 Ioa_9 Iob_9 Ipa_9 Ipb_9 Ira_9 Irb_9 Ika_9 Ikb_9 Ila_9 Ilb_9 Ima_9 Imb_9 Ina_9 Inb_9 E9 hE
  go_upto_region 14 with fail
  have K_p_0 : Hid (∀ w', Ext w10 w' → w'.cell? ⟨w.heap.size, 0, none⟩ = some (.slice A ts.length c)) := Lib.hid (fun w' hE => hE.cell (by go_simp))
  have K_p_1 : Hid (∀ w', Ext w10 w' → w'.cell? ⟨w.heap.size, 1, none⟩ = some (.int .i64 g)) := Lib.hid (fun w' hE => hE.cell (by go_simp))
  have K_p_2 : Hid (∀ w', Ext w10 w' → w'.cell? ⟨w.heap.size, 2, none⟩ = some (.slice B dn.length d)) := Lib.hid (fun w' hE => hE.cell (by go_simp))
  have K_t7_0 : Hid (∀ w', Ext w10 w' → w'.cell? ⟨w2.heap.size, 0, none⟩ = some (.slice A3 ts.length c3)) := Lib.hid (fun w' hE => hE.cell (by go_simp))
  have K_t7_1 : Hid (∀ w', Ext w10 w' → w'.cell? ⟨w2.heap.size, 1, none⟩ = some (.int .i64 g)) := Lib.hid (fun w' hE => hE.cell (by go_simp))
  have K_t7_2 : Hid (∀ w', Ext w10 w' → w'.cell? ⟨w2.heap.size, 2, none⟩ = some (.slice B3 dn.length d3)) := Lib.hid (fun w' hE => hE.cell (by go_simp))
  have K_t8_0 : Hid (∀ w', Ext w10 w' → w'.cell? ⟨w3.heap.size, 0, none⟩ = some (.slice A4 U.length c4)) := Lib.hid (fun w' hE => hE.cell (by go_simp))
  have K_t8_1 : Hid (∀ w', Ext w10 w' → w'.cell? ⟨w3.heap.size, 1, none⟩ = some (.int .i64 g)) := Lib.hid (fun w' hE => hE.cell (by go_simp))
  have K_t8_2 : Hid (∀ w', Ext w10 w' → w'.cell? ⟨w3.heap.size, 2, none⟩ = some (.slice B4 dn.length d4)) := Lib.hid (fun w' hE => hE.cell (by go_simp))
  have K_t12_0 : Hid (∀ w', Ext w10 w' → w'.cell? ⟨w4.heap.size, 0, none⟩ = some (.slice A5 U.length c5)) := Lib.hid (fun w' hE => hE.cell (by go_simp))
  have K_t12_1 : Hid (∀ w', Ext w10 w' → w'.cell? ⟨w4.heap.size, 1, none⟩ = some (.int .i64 g)) := Lib.hid (fun w' hE => hE.cell (by go_simp))
  have K_t12_2 : Hid (∀ w', Ext w10 w' → w'.cell? ⟨w4.heap.size, 2, none⟩ = some (.slice B5 dn.length d5)) := Lib.hid (fun w' hE => hE.cell (by go_simp))
  have K_t16_0 : Hid (∀ w', Ext w10 w' → w'.cell? ⟨w5.heap.size, 0, none⟩ = some (.slice A6 us.length c6)) := Lib.hid (fun w' hE => hE.cell (by go_simp))
  have K_t16_1 : Hid (∀ w', Ext w10 w' → w'.cell? ⟨w5.heap.size, 1, none⟩ = some (.int .i64 g)) := Lib.hid (fun w' hE => hE.cell (by go_simp))
  have K_t16_2 : Hid (∀ w', Ext w10 w' → w'.cell? ⟨w5.heap.size, 2, none⟩ = some (.slice B6 ds.length d6)) := Lib.hid (fun w' hE => hE.cell (by go_simp))
  have K_t19_0 : Hid (∀ w', Ext w10 w' → w'.cell? ⟨w6.heap.size, 0, none⟩ = some (.slice A7 us.length c7)) := Lib.hid (fun w' hE => hE.cell (by go_simp))
  have K_t19_1 : Hid (∀ w', Ext w10 w' → w'.cell? ⟨w6.heap.size, 1, none⟩ = some (.int .i64 g)) := Lib.hid (fun w' hE => hE.cell (by go_simp))
  have K_t19_2 : Hid (∀ w', Ext w10 w' → w'.cell? ⟨w6.heap.size, 2, none⟩ = some (.slice B7 ds.length d7)) := Lib.hid (fun w' hE => hE.cell (by go_simp))
  have K_t22_0 : Hid (∀ w', Ext w10 w' → w'.cell? ⟨w7.heap.size, 0, none⟩ = some (.slice A8 bt.length c8)) := Lib.hid (fun w' hE => hE.cell (by go_simp))
  have K_t22_1 : Hid (∀ w', Ext w10 w' → w'.cell? ⟨w7.heap.size, 1, none⟩ = some (.int .i64 bg)) := Lib.hid (fun w' hE => hE.cell (by go_simp))
  have K_t22_2 : Hid (∀ w', Ext w10 w' → w'.cell? ⟨w7.heap.size, 2, none⟩ = some (.slice B8 bd.length d8)) := Lib.hid (fun w' hE => hE.cell (by go_simp))
  have K_t24_0 : Hid (∀ w', Ext w10 w' → w'.cell? ⟨w8.heap.size, 0, none⟩ = some (.slice A9 bt.length c9)) := Lib.hid (fun w' hE => hE.cell (by go_simp))
  have K_t24_1 : Hid (∀ w', Ext w10 w' → w'.cell? ⟨w8.heap.size, 1, none⟩ = some (.int .i64 bg)) := Lib.hid (fun w' hE => hE.cell (by go_simp))
  have K_t24_2 : Hid (∀ w', Ext w10 w' → w'.cell? ⟨w8.heap.size, 2, none⟩ = some (.slice B9 bd.length d9)) := Lib.hid (fun w' hE => hE.cell (by go_simp))
  have S1 : Hid (∀ w', Ext w10 w' → Calls Try.prog 16 #[.agg #[.slice A4 U.length c4, .int .i64 g, .slice B4 dn.length d4], .agg #[.slice A5 U.length c5, .int .i64 g, .slice B5 dn.length d5]] w' fun e w'' => e = .returned (.bool true) ∧ Ext w10 w'') := Lib.hid (fun w' hE => (same_u _ _ _ _ _ _ _ _ U g dn w' (Ipa_10.out.ext hE) (Ipb_10.out.ext hE) (Ira_10.out.ext hE) (Irb_10.out.ext hE)).mono fun e w'' h => ⟨h.1, hE.trans h.2⟩)
  have S2 : Hid (∀ w', Ext w10 w' → Calls Try.prog 16 #[.agg #[.slice A6 us.length c6, .int .i64 g, .slice B6 ds.length d6], .agg #[.slice A7 us.length c7, .int .i64 g, .slice B7 ds.length d7]] w' fun e w'' => e = .returned (.bool true) ∧ Ext w10 w'') := Lib.hid (fun w' hE => (same_u _ _ _ _ _ _ _ _ us g ds w' (Ika_10.out.ext hE) (Ikb_10.out.ext hE) (Ila_10.out.ext hE) (Ilb_10.out.ext hE)).mono fun e w'' h => ⟨h.1, hE.trans h.2⟩)
  have S3 : Hid (∀ w', Ext w10 w' → Calls Try.prog 16 #[.agg #[.slice A8 bt.length c8, .int .i64 bg, .slice B8 bd.length d8], .agg #[.slice A9 bt.length c9, .int .i64 bg, .slice B9 bd.length d9]] w' fun e w'' => e = .returned (.bool true) ∧ Ext w10 w'') := Lib.hid (fun w' hE => (same_u _ _ _ _ _ _ _ _ bt bg bd w' (Ima_10.out.ext hE) (Imb_10.out.ext hE) (Ina_10.out.ext hE) (Inb_10.out.ext hE)).mono fun e w'' h => ⟨h.1, hE.trans h.2⟩)
  have S4 : Hid (∀ w', Ext w10 w' → Calls Try.prog 16 #[.agg #[.slice A3 ts.length c3, .int .i64 g, .slice B3 dn.length d3], .agg #[.slice A ts.length c, .int .i64 g, .slice B dn.length d]] w' fun e w'' => e = .returned (.bool true) ∧ Ext w10 w'') := Lib.hid (fun w' hE => (same_u _ _ _ _ _ _ _ _ ts g dn w' (Ioa_10.out.ext hE) (Iob_10.out.ext hE) (Ig_10.out.ext hE) (Ix_10.out.ext hE)).mono fun e w'' h => ⟨h.1, hE.trans h.2⟩)
  have S5 : Hid (∀ w', Ext w10 w' → Calls Try.prog 17 #[.agg #[.slice A ts.length c, .int .i64 g, .slice B dn.length d]] w' fun e w'' => e = .returned (.bool rb) ∧ Ext w10 w'') := Lib.hid (fun w' hE => (right_any _ _ _ _ _ ts g w' (Ig_10.out.ext hE) hn HG.out).mono fun e w'' h => ⟨h.1.trans (ret_bool HRB.out), hE.trans h.2⟩)
  have S6 : Hid (∀ w', Ext w10 w' → Calls Try.prog 18 #[.agg #[.slice A ts.length c, .int .i64 g, .slice B dn.length d]] w' fun e w'' => e = .returned (.bool rb) ∧ Ext w10 w'') := Lib.hid (fun w' hE => (rright_any _ _ _ _ _ ts g w' (Ig_10.out.ext hE) hn HG.out).mono fun e w'' h => ⟨h.1.trans (ret_bool HRB.out), hE.trans h.2⟩)
  have S7 : Hid (∀ w', Ext w10 w' → Calls Try.prog 19 #[.agg #[.slice A ts.length c, .int .i64 g, .slice B dn.length d], .int .i64 i] w' fun e w'' => e = .returned (.bool gb) ∧ Ext w10 w'') := Lib.hid (fun w' hE => (pgreat_any _ _ _ _ _ ts g i w' (Ig_10.out.ext hE) hn HG.out HI.out).mono fun e w'' h => ⟨h.1.trans (ret_bool HGB.out), hE.trans h.2⟩)
  have S8 : Hid (∀ w', Ext w10 w' → Calls Try.prog 20 #[.agg #[.slice A ts.length c, .int .i64 g, .slice B dn.length d], .int .i64 i] w' fun e w'' => e = .returned (.bool gb) ∧ Ext w10 w'') := Lib.hid (fun w' hE => (rgreat_any _ _ _ _ _ ts g i w' (Ig_10.out.ext hE) hn HG.out HI.out).mono fun e w'' h => ⟨h.1.trans (ret_bool HGB.out), hE.trans h.2⟩)
  have EW := Lib.hid E10.out
  clear c_p_0_10 c_p_1_10 c_p_2_10 c_h_0_10 c_h_1_10 c_t7_0_10 c_t7_1_10 c_t7_2_10 c_t8_0_10 c_t8_1_10 c_t8_2_10 c_t12_0_10 c_t12_1_10 c_t12_2_10 c_t16_0_10 c_t16_1_10 c_t16_2_10 c_t19_0_10 c_t19_1_10 c_t19_2_10 c_t22_0_10 c_t22_1_10 c_t22_2_10 c_t24_0_10 c_t24_1_10 c_t24_2_10 l_p_0_10 l_p_1_10 l_p_2_10 l_h_0_10 l_h_1_10 l_h_2_10 l_t7_0_10 l_t7_1_10 l_t7_2_10 l_t8_0_10 l_t8_1_10 l_t8_2_10 l_t12_0_10 l_t12_1_10 l_t12_2_10 l_t16_0_10 l_t16_1_10 l_t16_2_10 l_t19_0_10 l_t19_1_10 l_t19_2_10 l_t22_0_10 l_t22_1_10 l_t22_2_10 l_t24_0_10 l_t24_1_10 l_t24_2_10 Ig_10 Ix_10 Ioa_10 Iob_10 Ipa_10 Ipb_10 Ira_10 Irb_10 Ika_10 Ikb_10 Ila_10 Ilb_10 Ima_10 Imb_10 Ina_10 Inb_10 E10
  refine wp_region_class (Ext w10) (by kernel_rfl) (by kernel_rfl) (Ext.refl _).drew ?_
  simp only [List.append_eq, List.cons_append, List.nil_append]
  repeat (first
    | go_big_quiet_skip
    | (go_big_quiet_want
       first
       | (go_big_quiet_op; go_big_quiet_on)
       | (unfold Oper.quiet
          apply Exists.intro
          refine ⟨fun w' hC => ?_, ?_⟩
          · (have k_p_0 := K_p_0.out w' hC
             have k_p_1 := K_p_1.out w' hC
             have k_p_2 := K_p_2.out w' hC
             have k_t7_0 := K_t7_0.out w' hC
             have k_t7_1 := K_t7_1.out w' hC
             have k_t7_2 := K_t7_2.out w' hC
             have k_t8_0 := K_t8_0.out w' hC
             have k_t8_1 := K_t8_1.out w' hC
             have k_t8_2 := K_t8_2.out w' hC
             have k_t12_0 := K_t12_0.out w' hC
             have k_t12_1 := K_t12_1.out w' hC
             have k_t12_2 := K_t12_2.out w' hC
             have k_t16_0 := K_t16_0.out w' hC
             have k_t16_1 := K_t16_1.out w' hC
             have k_t16_2 := K_t16_2.out w' hC
             have k_t19_0 := K_t19_0.out w' hC
             have k_t19_1 := K_t19_1.out w' hC
             have k_t19_2 := K_t19_2.out w' hC
             have k_t22_0 := K_t22_0.out w' hC
             have k_t22_1 := K_t22_1.out w' hC
             have k_t22_2 := K_t22_2.out w' hC
             have k_t24_0 := K_t24_0.out w' hC
             have k_t24_1 := K_t24_1.out w' hC
             have k_t24_2 := K_t24_2.out w' hC
             unfold Oper.quietAt
             go_simp
             first | exact rfl | (with_reducible exact S1.out w' hC) | (with_reducible exact S2.out w' hC) | (with_reducible exact S3.out w' hC) | (with_reducible exact S4.out w' hC) | (with_reducible exact S5.out w' hC) | (with_reducible exact S6.out w' hC) | (with_reducible exact S7.out w' hC) | (with_reducible exact S8.out w' hC))
          go_simp
          go_big_quiet_on)
       | (go_big_quiet_op
          apply Exists.intro
          refine ⟨fun w' hC => ?_, ?_⟩
          · first | (with_reducible exact S1.out w' hC) | (with_reducible exact S2.out w' hC) | (with_reducible exact S3.out w' hC) | (with_reducible exact S4.out w' hC) | (with_reducible exact S5.out w' hC) | (with_reducible exact S6.out w' hC) | (with_reducible exact S7.out w' hC) | (with_reducible exact S8.out w' hC)
          go_big_quiet_on)))
  refine wpQuiet_nil ?_
  intro wz hCz
  go_wp2_with fail
  go_ret
  exact ⟨ret_bool (by first | rfl | (simp; done)), EW.out.trans hCz⟩

theorem tanswers_any (A B : Option Addr) (c d : Nat) (ts : List Tk) (dn : List Bool) (g i xa xb : Int) (w : World) (h : Rd kTask w (.slice A ts.length c) ts) (hd : Rd kBool w (.slice B dn.length d) dn) (hg : in64 g) (hi : in64 i) (hxa : in64 xa) (hxb : in64 xb) :
    Calls Try.prog 3 #[.agg #[.slice A ts.length c, .int .i64 g, .slice B dn.length d], .int .i64 i, .agg #[.int .i64 xa, .int .i64 xb]] w fun e w' => e = .returned (.bool true) ∧ Ext w w' := by
  by_cases hb : 300 < ts.length ∨ 1001 < dn.length
  · exact tanswers_great A B c d ts dn g i xa xb w h hd hb
  · exact tanswers_walk A B c d ts dn g i xa xb w h hd hg hi hxa hxb (by omega)
end Go.Proofs.Ytfigfndabokepaa
