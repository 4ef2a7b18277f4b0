/- The fixed fact of the pool's statements. -/
import Derived.Test.YtbkheglogmkbgaaTo
import Derived.Laws.StructEq
namespace Go.Proofs.Ytbkheglogmkbgaa
open Go.RowKit Go.Proofs.Ytbkheglogmkbgaa.Plain

set_option maxHeartbeats 4000000 in
set_option maxRecDepth 100000 in
theorem alive_any (w : World) : Calls Try.prog 5 #[] w fun e w' => e = .returned (.bool true) ∧ Ext w w' := by
  go_enter Try.func5, Try.ntmps5
  go_wp2_with fail
  refine (make_to 2 [0, 0] [1, 0] 0 2 2 _ (by omega) (by decide) (by decide) (by decide) rfl rfl).mono ?_
  rintro e w1 ⟨A1, c1, B1, d1, rfl, hg, hx, hE⟩
  have E1 := Lib.hid ((Ext.refl _).trans hE)
  have z1 := hE.size
  try simp at z1
  clear hE
  have Ig1_1 := Lib.hid hg
  clear hg
  have Ix1_1 := Lib.hid hx
  clear hx
  go_wp2_with fail
  refine (take_to _ _ 2 2 _ _ [0, 0] [1, 0] [1, 0] [1] 0 1 0 2 1 _ (Ig1_1.out.ext ((Ext.refl _).alloc _)) (Ix1_1.out.ext ((Ext.refl _).alloc _)) rfl rfl (by omega) (by omega) (by decide) (by decide) (by decide) (by decide) (by decide) rfl rfl).mono ?_
  rintro e w2 ⟨A2, c2, B2, d2, rfl, hg, hx, hE⟩
  have E2 := Lib.hid ((E1.out.alloc _).trans hE)
  have z2 := hE.size
  try simp at z2
  have c_p_0_2 : w2.cell? ⟨w1.heap.size, 0, none⟩ = some (.slice A1 2 c1) := hE.cell (by go_simp)
  have c_p_1_2 : w2.cell? ⟨w1.heap.size, 1, none⟩ = some (.slice B1 2 d1) := hE.cell (by go_simp)
  have f_p_2 : ∀ o, w2.frozen? ⟨w1.heap.size, o, none⟩ = false := fun o => (Below.frozen hE (p := ⟨w1.heap.size, o, none⟩) (by simp; try omega)).trans (by go_simp)
  have l_p_0_2 : w1.heap.size < w2.heap.size := by omega
  have l_p_1_2 : w1.heap.size < w2.heap.size + 1 := by omega
  have l_p_2_2 : w1.heap.size < w2.heap.size + 1 + 1 := by omega
  have Ig1_2 := Lib.hid ((Ig1_1.out.ext ((Ext.refl _).alloc _)).ext hE)
  have Ix1_2 := Lib.hid ((Ix1_1.out.ext ((Ext.refl _).alloc _)).ext hE)
  clear Ig1_1 Ix1_1 E1 hE
  have Ig2_2 := Lib.hid hg
  clear hg
  have Ix2_2 := Lib.hid hx
  clear hx
  go_wp2_with fail
  refine (take_to _ _ 2 1 _ _ [1, 0] [1] [1, 1] [] 1 1 0 2 0 _ (((Ig2_2.out.setNot (p := ⟨w1.heap.size, 0, none⟩) (u := .slice A1 2 c1) (by go_simp) (by intro k n; simp) (.slice A2 2 c2)).setNot (p := ⟨w1.heap.size, 1, none⟩) (u := .slice B1 2 d1) (by go_simp) (by intro k n; simp) (.slice B2 1 d2)).ext ((Ext.refl _).alloc _)) (((Ix2_2.out.setNot (p := ⟨w1.heap.size, 0, none⟩) (u := .slice A1 2 c1) (by go_simp) (by intro k n; simp) (.slice A2 2 c2)).setNot (p := ⟨w1.heap.size, 1, none⟩) (u := .slice B1 2 d1) (by go_simp) (by intro k n; simp) (.slice B2 1 d2)).ext ((Ext.refl _).alloc _)) rfl rfl (by omega) (by omega) (by decide) (by decide) (by decide) (by decide) (by decide) rfl rfl).mono ?_
  rintro e w3 ⟨A3, c3, B3, d3, rfl, hg, hx, hE⟩
  have E3 := Lib.hid ((((E2.out.setCell (p := ⟨w1.heap.size, 0, none⟩) (by simp; try omega) (.slice A2 2 c2)).setCell (p := ⟨w1.heap.size, 1, none⟩) (by simp; try omega) (.slice B2 1 d2)).alloc _).trans hE)
  have z3 := hE.size
  try simp at z3
  have c_p_0_3 : w3.cell? ⟨w1.heap.size, 0, none⟩ = some (.slice A2 2 c2) := hE.cell (by go_simp)
  have c_p_1_3 : w3.cell? ⟨w1.heap.size, 1, none⟩ = some (.slice B2 1 d2) := hE.cell (by go_simp)
  have f_p_3 : ∀ o, w3.frozen? ⟨w1.heap.size, o, none⟩ = false := fun o => (Below.frozen hE (p := ⟨w1.heap.size, o, none⟩) (by simp; try omega)).trans (by go_simp)
  have c_a_0_3 : w3.cell? ⟨w2.heap.size, 0, none⟩ = some (.int .i64 0) := hE.cell (by go_simp)
  have c_a_1_3 : w3.cell? ⟨w2.heap.size, 1, none⟩ = some (.int .i64 1) := hE.cell (by go_simp)
  have l_p_0_3 : w1.heap.size < w3.heap.size := by omega
  have l_p_1_3 : w1.heap.size < w3.heap.size + 1 := by omega
  have l_p_2_3 : w1.heap.size < w3.heap.size + 1 + 1 := by omega
  have l_a_0_3 : w2.heap.size < w3.heap.size := by omega
  have l_a_1_3 : w2.heap.size < w3.heap.size + 1 := by omega
  have l_a_2_3 : w2.heap.size < w3.heap.size + 1 + 1 := by omega
  have Ig2_3 := Lib.hid ((((Ig2_2.out.setNot (p := ⟨w1.heap.size, 0, none⟩) (u := .slice A1 2 c1) (by go_simp) (by intro k n; simp) (.slice A2 2 c2)).setNot (p := ⟨w1.heap.size, 1, none⟩) (u := .slice B1 2 d1) (by go_simp) (by intro k n; simp) (.slice B2 1 d2)).ext ((Ext.refl _).alloc _)).ext hE)
  have Ix2_3 := Lib.hid ((((Ix2_2.out.setNot (p := ⟨w1.heap.size, 0, none⟩) (u := .slice A1 2 c1) (by go_simp) (by intro k n; simp) (.slice A2 2 c2)).setNot (p := ⟨w1.heap.size, 1, none⟩) (u := .slice B1 2 d1) (by go_simp) (by intro k n; simp) (.slice B2 1 d2)).ext ((Ext.refl _).alloc _)).ext hE)
  clear c_p_0_2 c_p_1_2 f_p_2 l_p_0_2 l_p_1_2 l_p_2_2 Ig2_2 Ix2_2 E2 hE
  have Ig3_3 := Lib.hid hg
  clear hg
  have Ix3_3 := Lib.hid hx
  clear hx
  go_wp2_with fail
  refine (take_to _ _ 2 0 _ _ [1, 1] [] [1, 1] [] 0 0 2 2 0 _ (((Ig3_3.out.setNot (p := ⟨w1.heap.size, 0, none⟩) (u := .slice A2 2 c2) (by go_simp) (by intro k n; simp) (.slice A3 2 c3)).setNot (p := ⟨w1.heap.size, 1, none⟩) (u := .slice B2 1 d2) (by go_simp) (by intro k n; simp) (.slice B3 0 d3)).ext ((Ext.refl _).alloc _)) (((Ix3_3.out.setNot (p := ⟨w1.heap.size, 0, none⟩) (u := .slice A2 2 c2) (by go_simp) (by intro k n; simp) (.slice A3 2 c3)).setNot (p := ⟨w1.heap.size, 1, none⟩) (u := .slice B2 1 d2) (by go_simp) (by intro k n; simp) (.slice B3 0 d3)).ext ((Ext.refl _).alloc _)) rfl rfl (by omega) (by omega) (by decide) (by decide) (by decide) (by decide) (by decide) rfl rfl).mono ?_
  rintro e w4 ⟨A4, c4, B4, d4, rfl, hg4, hx4, hE⟩
  have E4 := Lib.hid ((((E3.out.setCell (p := ⟨w1.heap.size, 0, none⟩) (by simp; try omega) (.slice A3 2 c3)).setCell (p := ⟨w1.heap.size, 1, none⟩) (by simp; try omega) (.slice B3 0 d3)).alloc _).trans hE)
  have z4 := hE.size
  try simp at z4
  have c_p_0_4 : w4.cell? ⟨w1.heap.size, 0, none⟩ = some (.slice A3 2 c3) := hE.cell (by go_simp)
  have c_p_1_4 : w4.cell? ⟨w1.heap.size, 1, none⟩ = some (.slice B3 0 d3) := hE.cell (by go_simp)
  have f_p_4 : ∀ o, w4.frozen? ⟨w1.heap.size, o, none⟩ = false := fun o => (Below.frozen hE (p := ⟨w1.heap.size, o, none⟩) (by simp; try omega)).trans (by go_simp)
  have c_a_0_4 : w4.cell? ⟨w2.heap.size, 0, none⟩ = some (.int .i64 0) := hE.cell (by go_simp)
  have c_a_1_4 : w4.cell? ⟨w2.heap.size, 1, none⟩ = some (.int .i64 1) := hE.cell (by go_simp)
  have c_b_0_4 : w4.cell? ⟨w3.heap.size, 0, none⟩ = some (.int .i64 1) := hE.cell (by go_simp)
  have c_b_1_4 : w4.cell? ⟨w3.heap.size, 1, none⟩ = some (.int .i64 1) := hE.cell (by go_simp)
  have l_p_0_4 : w1.heap.size < w4.heap.size := by omega
  have l_p_1_4 : w1.heap.size < w4.heap.size + 1 := by omega
  have l_p_2_4 : w1.heap.size < w4.heap.size + 1 + 1 := by omega
  have l_a_0_4 : w2.heap.size < w4.heap.size := by omega
  have l_a_1_4 : w2.heap.size < w4.heap.size + 1 := by omega
  have l_a_2_4 : w2.heap.size < w4.heap.size + 1 + 1 := by omega
  have l_b_0_4 : w3.heap.size < w4.heap.size := by omega
  have l_b_1_4 : w3.heap.size < w4.heap.size + 1 := by omega
  have l_b_2_4 : w3.heap.size < w4.heap.size + 1 + 1 := by omega
  have Ig3_4 := Lib.hid ((((Ig3_3.out.setNot (p := ⟨w1.heap.size, 0, none⟩) (u := .slice A2 2 c2) (by go_simp) (by intro k n; simp) (.slice A3 2 c3)).setNot (p := ⟨w1.heap.size, 1, none⟩) (u := .slice B2 1 d2) (by go_simp) (by intro k n; simp) (.slice B3 0 d3)).ext ((Ext.refl _).alloc _)).ext hE)
  have Ix3_4 := Lib.hid ((((Ix3_3.out.setNot (p := ⟨w1.heap.size, 0, none⟩) (u := .slice A2 2 c2) (by go_simp) (by intro k n; simp) (.slice A3 2 c3)).setNot (p := ⟨w1.heap.size, 1, none⟩) (u := .slice B2 1 d2) (by go_simp) (by intro k n; simp) (.slice B3 0 d3)).ext ((Ext.refl _).alloc _)).ext hE)
  clear c_p_0_3 c_p_1_3 f_p_3 c_a_0_3 c_a_1_3 l_p_0_3 l_p_1_3 l_p_2_3 l_a_0_3 l_a_1_3 l_a_2_3 Ig3_3 Ix3_3 E3 hE
  clear hg4 hx4
  go_wp2_with fail
  refine (give_to _ _ 2 0 _ _ [1, 1] [] [0] 0 1 0 1 _ (Ig3_4.out.ext (((Ext.refl _).alloc _).alloc _)) (Ix3_4.out.ext (((Ext.refl _).alloc _).alloc _)) rfl rfl (by omega) (by omega) (by omega) (by decide) (by decide) rfl).mono ?_
  rintro e w5 ⟨A5, c5, B5, d5, rfl, hg, hx, hE⟩
  have E5 := Lib.hid (((E4.out.alloc _).alloc _).trans hE)
  have z5 := hE.size
  try simp at z5
  have c_a_0_5 : w5.cell? ⟨w2.heap.size, 0, none⟩ = some (.int .i64 0) := hE.cell (by go_simp)
  have c_a_1_5 : w5.cell? ⟨w2.heap.size, 1, none⟩ = some (.int .i64 1) := hE.cell (by go_simp)
  have c_b_0_5 : w5.cell? ⟨w3.heap.size, 0, none⟩ = some (.int .i64 1) := hE.cell (by go_simp)
  have c_b_1_5 : w5.cell? ⟨w3.heap.size, 1, none⟩ = some (.int .i64 1) := hE.cell (by go_simp)
  have l_a_0_5 : w2.heap.size < w5.heap.size := by omega
  have l_a_1_5 : w2.heap.size < w5.heap.size + 1 := by omega
  have l_a_2_5 : w2.heap.size < w5.heap.size + 1 + 1 := by omega
  have l_b_0_5 : w3.heap.size < w5.heap.size := by omega
  have l_b_1_5 : w3.heap.size < w5.heap.size + 1 := by omega
  have l_b_2_5 : w3.heap.size < w5.heap.size + 1 + 1 := by omega
  have Ig3_5 := Lib.hid ((Ig3_4.out.ext (((Ext.refl _).alloc _).alloc _)).ext hE)
  have Ix3_5 := Lib.hid ((Ix3_4.out.ext (((Ext.refl _).alloc _).alloc _)).ext hE)
  clear c_p_0_4 c_p_1_4 f_p_4 c_a_0_4 c_a_1_4 c_b_0_4 c_b_1_4 l_p_0_4 l_p_1_4 l_p_2_4 l_a_0_4 l_a_1_4 l_a_2_4 l_b_0_4 l_b_1_4 l_b_2_4 Ig3_4 Ix3_4 E4 hE
  have Ig5_5 := Lib.hid hg
  clear hg
  have Ix5_5 := Lib.hid hx
  clear hx
  go_wp2_with fail
  refine (take_to _ _ 2 1 _ _ [1, 1] [0] [2, 1] [] 0 2 0 2 0 _ (Ig5_5.out.ext ((Ext.refl _).alloc _)) (Ix5_5.out.ext ((Ext.refl _).alloc _)) rfl rfl (by omega) (by omega) (by decide) (by decide) (by decide) (by decide) (by decide) rfl rfl).mono ?_
  rintro e w6 ⟨A6, c6, B6, d6, rfl, hg, hx, hE⟩
  have E6 := Lib.hid ((E5.out.alloc _).trans hE)
  have z6 := hE.size
  try simp at z6
  have c_a_0_6 : w6.cell? ⟨w2.heap.size, 0, none⟩ = some (.int .i64 0) := hE.cell (by go_simp)
  have c_a_1_6 : w6.cell? ⟨w2.heap.size, 1, none⟩ = some (.int .i64 1) := hE.cell (by go_simp)
  have c_b_0_6 : w6.cell? ⟨w3.heap.size, 0, none⟩ = some (.int .i64 1) := hE.cell (by go_simp)
  have c_b_1_6 : w6.cell? ⟨w3.heap.size, 1, none⟩ = some (.int .i64 1) := hE.cell (by go_simp)
  have c_q_0_6 : w6.cell? ⟨w5.heap.size, 0, none⟩ = some (.slice A5 2 c5) := hE.cell (by go_simp)
  have c_q_1_6 : w6.cell? ⟨w5.heap.size, 1, none⟩ = some (.slice B5 1 d5) := hE.cell (by go_simp)
  have l_a_0_6 : w2.heap.size < w6.heap.size := by omega
  have l_a_1_6 : w2.heap.size < w6.heap.size + 1 := by omega
  have l_a_2_6 : w2.heap.size < w6.heap.size + 1 + 1 := by omega
  have l_b_0_6 : w3.heap.size < w6.heap.size := by omega
  have l_b_1_6 : w3.heap.size < w6.heap.size + 1 := by omega
  have l_b_2_6 : w3.heap.size < w6.heap.size + 1 + 1 := by omega
  have l_q_0_6 : w5.heap.size < w6.heap.size := by omega
  have l_q_1_6 : w5.heap.size < w6.heap.size + 1 := by omega
  have l_q_2_6 : w5.heap.size < w6.heap.size + 1 + 1 := by omega
  have Ig5_6 := Lib.hid ((Ig5_5.out.ext ((Ext.refl _).alloc _)).ext hE)
  have Ix5_6 := Lib.hid ((Ix5_5.out.ext ((Ext.refl _).alloc _)).ext hE)
  clear c_a_0_5 c_a_1_5 c_b_0_5 c_b_1_5 l_a_0_5 l_a_1_5 l_a_2_5 l_b_0_5 l_b_1_5 l_b_2_5 Ig5_5 Ix5_5 E5 hE
  have Ig6_6 := Lib.hid hg
  clear hg
  have Ix6_6 := Lib.hid hx
  clear hx
  go_wp2_with fail
  refine (give_to _ _ 2 0 _ _ [2, 1] [] [] 0 1 3 0 _ (Ig6_6.out.ext (((Ext.refl _).alloc _).alloc _)) (Ix6_6.out.ext (((Ext.refl _).alloc _).alloc _)) rfl rfl (by omega) (by omega) (by omega) (by decide) (by decide) rfl).mono ?_
  rintro e w7 ⟨A7, c7, B7, d7, rfl, hg7, hx7, hE⟩
  have E7 := Lib.hid (((E6.out.alloc _).alloc _).trans hE)
  have z7 := hE.size
  try simp at z7
  have c_a_0_7 : w7.cell? ⟨w2.heap.size, 0, none⟩ = some (.int .i64 0) := hE.cell (by go_simp)
  have c_a_1_7 : w7.cell? ⟨w2.heap.size, 1, none⟩ = some (.int .i64 1) := hE.cell (by go_simp)
  have c_b_0_7 : w7.cell? ⟨w3.heap.size, 0, none⟩ = some (.int .i64 1) := hE.cell (by go_simp)
  have c_b_1_7 : w7.cell? ⟨w3.heap.size, 1, none⟩ = some (.int .i64 1) := hE.cell (by go_simp)
  have c_q_0_7 : w7.cell? ⟨w5.heap.size, 0, none⟩ = some (.slice A5 2 c5) := hE.cell (by go_simp)
  have c_q_1_7 : w7.cell? ⟨w5.heap.size, 1, none⟩ = some (.slice B5 1 d5) := hE.cell (by go_simp)
  have c_r_0_7 : w7.cell? ⟨w6.heap.size, 0, none⟩ = some (.slice A6 2 c6) := hE.cell (by go_simp)
  have c_r_1_7 : w7.cell? ⟨w6.heap.size, 1, none⟩ = some (.slice B6 0 d6) := hE.cell (by go_simp)
  have c_cc_0_7 : w7.cell? ⟨w6.heap.size + 1, 0, none⟩ = some (.int .i64 0) := hE.cell (by go_simp)
  have c_cc_1_7 : w7.cell? ⟨w6.heap.size + 1, 1, none⟩ = some (.int .i64 2) := hE.cell (by go_simp)
  have l_a_0_7 : w2.heap.size < w7.heap.size := by omega
  have l_a_1_7 : w2.heap.size < w7.heap.size + 1 := by omega
  have l_a_2_7 : w2.heap.size < w7.heap.size + 1 + 1 := by omega
  have l_b_0_7 : w3.heap.size < w7.heap.size := by omega
  have l_b_1_7 : w3.heap.size < w7.heap.size + 1 := by omega
  have l_b_2_7 : w3.heap.size < w7.heap.size + 1 + 1 := by omega
  have l_q_0_7 : w5.heap.size < w7.heap.size := by omega
  have l_q_1_7 : w5.heap.size < w7.heap.size + 1 := by omega
  have l_q_2_7 : w5.heap.size < w7.heap.size + 1 + 1 := by omega
  have l_r_0_7 : w6.heap.size < w7.heap.size := by omega
  have l_r_1_7 : w6.heap.size < w7.heap.size + 1 := by omega
  have l_r_2_7 : w6.heap.size < w7.heap.size + 1 + 1 := by omega
  have l_cc_0_7 : w6.heap.size + 1 < w7.heap.size := by omega
  have l_cc_1_7 : w6.heap.size + 1 < w7.heap.size + 1 := by omega
  have l_cc_2_7 : w6.heap.size + 1 < w7.heap.size + 1 + 1 := by omega
  have Ig5_7 := Lib.hid ((Ig5_6.out.ext (((Ext.refl _).alloc _).alloc _)).ext hE)
  have Ix5_7 := Lib.hid ((Ix5_6.out.ext (((Ext.refl _).alloc _).alloc _)).ext hE)
  have Ig6_7 := Lib.hid ((Ig6_6.out.ext (((Ext.refl _).alloc _).alloc _)).ext hE)
  have Ix6_7 := Lib.hid ((Ix6_6.out.ext (((Ext.refl _).alloc _).alloc _)).ext hE)
  clear c_a_0_6 c_a_1_6 c_b_0_6 c_b_1_6 c_q_0_6 c_q_1_6 l_a_0_6 l_a_1_6 l_a_2_6 l_b_0_6 l_b_1_6 l_b_2_6 l_q_0_6 l_q_1_6 l_q_2_6 Ig5_6 Ix5_6 Ig6_6 Ix6_6 E6 hE
  clear hg7 hx7
  go_wp2_with fail
  refine (right_to _ _ 2 0 _ _ [2, 1] [] true _ (Ig6_7.out.ext ((Ext.refl _).alloc _)) (Ix6_7.out.ext ((Ext.refl _).alloc _)) rfl rfl (by decide)).mono ?_
  rintro e w8 ⟨rfl, hE⟩
  have E8 := Lib.hid ((E7.out.alloc _).trans hE)
  have z8 := hE.size
  try simp at z8
  have c_a_0_8 : w8.cell? ⟨w2.heap.size, 0, none⟩ = some (.int .i64 0) := hE.cell (by go_simp)
  have c_a_1_8 : w8.cell? ⟨w2.heap.size, 1, none⟩ = some (.int .i64 1) := hE.cell (by go_simp)
  have c_b_0_8 : w8.cell? ⟨w3.heap.size, 0, none⟩ = some (.int .i64 1) := hE.cell (by go_simp)
  have c_b_1_8 : w8.cell? ⟨w3.heap.size, 1, none⟩ = some (.int .i64 1) := hE.cell (by go_simp)
  have c_q_0_8 : w8.cell? ⟨w5.heap.size, 0, none⟩ = some (.slice A5 2 c5) := hE.cell (by go_simp)
  have c_q_1_8 : w8.cell? ⟨w5.heap.size, 1, none⟩ = some (.slice B5 1 d5) := hE.cell (by go_simp)
  have c_r_0_8 : w8.cell? ⟨w6.heap.size, 0, none⟩ = some (.slice A6 2 c6) := hE.cell (by go_simp)
  have c_r_1_8 : w8.cell? ⟨w6.heap.size, 1, none⟩ = some (.slice B6 0 d6) := hE.cell (by go_simp)
  have c_cc_0_8 : w8.cell? ⟨w6.heap.size + 1, 0, none⟩ = some (.int .i64 0) := hE.cell (by go_simp)
  have c_cc_1_8 : w8.cell? ⟨w6.heap.size + 1, 1, none⟩ = some (.int .i64 2) := hE.cell (by go_simp)
  have l_a_0_8 : w2.heap.size < w8.heap.size := by omega
  have l_a_1_8 : w2.heap.size < w8.heap.size + 1 := by omega
  have l_a_2_8 : w2.heap.size < w8.heap.size + 1 + 1 := by omega
  have l_b_0_8 : w3.heap.size < w8.heap.size := by omega
  have l_b_1_8 : w3.heap.size < w8.heap.size + 1 := by omega
  have l_b_2_8 : w3.heap.size < w8.heap.size + 1 + 1 := by omega
  have l_q_0_8 : w5.heap.size < w8.heap.size := by omega
  have l_q_1_8 : w5.heap.size < w8.heap.size + 1 := by omega
  have l_q_2_8 : w5.heap.size < w8.heap.size + 1 + 1 := by omega
  have l_r_0_8 : w6.heap.size < w8.heap.size := by omega
  have l_r_1_8 : w6.heap.size < w8.heap.size + 1 := by omega
  have l_r_2_8 : w6.heap.size < w8.heap.size + 1 + 1 := by omega
  have l_cc_0_8 : w6.heap.size + 1 < w8.heap.size := by omega
  have l_cc_1_8 : w6.heap.size + 1 < w8.heap.size + 1 := by omega
  have l_cc_2_8 : w6.heap.size + 1 < w8.heap.size + 1 + 1 := by omega
  have Ig5_8 := Lib.hid ((Ig5_7.out.ext ((Ext.refl _).alloc _)).ext hE)
  have Ix5_8 := Lib.hid ((Ix5_7.out.ext ((Ext.refl _).alloc _)).ext hE)
  have Ig6_8 := Lib.hid ((Ig6_7.out.ext ((Ext.refl _).alloc _)).ext hE)
  have Ix6_8 := Lib.hid ((Ix6_7.out.ext ((Ext.refl _).alloc _)).ext hE)
  clear c_a_0_7 c_a_1_7 c_b_0_7 c_b_1_7 c_q_0_7 c_q_1_7 c_r_0_7 c_r_1_7 c_cc_0_7 c_cc_1_7 l_a_0_7 l_a_1_7 l_a_2_7 l_b_0_7 l_b_1_7 l_b_2_7 l_q_0_7 l_q_1_7 l_q_2_7 l_r_0_7 l_r_1_7 l_r_2_7 l_cc_0_7 l_cc_1_7 l_cc_2_7 Ig5_7 Ix5_7 Ig6_7 Ix6_7 E7 hE
  go_wp2_with fail
  refine (good_to _ _ 2 0 _ _ [2, 1] [] 0 2 true _ Ig6_8.out Ix6_8.out rfl rfl (by omega) (by decide)).mono ?_
  rintro e w9 ⟨rfl, hE⟩
  have E9 := Lib.hid (E8.out.trans hE)
  have z9 := hE.size
  try simp at z9
  have c_a_0_9 : w9.cell? ⟨w2.heap.size, 0, none⟩ = some (.int .i64 0) := hE.cell (by go_simp)
  have c_a_1_9 : w9.cell? ⟨w2.heap.size, 1, none⟩ = some (.int .i64 1) := hE.cell (by go_simp)
  have c_b_0_9 : w9.cell? ⟨w3.heap.size, 0, none⟩ = some (.int .i64 1) := hE.cell (by go_simp)
  have c_b_1_9 : w9.cell? ⟨w3.heap.size, 1, none⟩ = some (.int .i64 1) := hE.cell (by go_simp)
  have c_q_0_9 : w9.cell? ⟨w5.heap.size, 0, none⟩ = some (.slice A5 2 c5) := hE.cell (by go_simp)
  have c_q_1_9 : w9.cell? ⟨w5.heap.size, 1, none⟩ = some (.slice B5 1 d5) := hE.cell (by go_simp)
  have c_r_0_9 : w9.cell? ⟨w6.heap.size, 0, none⟩ = some (.slice A6 2 c6) := hE.cell (by go_simp)
  have c_r_1_9 : w9.cell? ⟨w6.heap.size, 1, none⟩ = some (.slice B6 0 d6) := hE.cell (by go_simp)
  have c_cc_0_9 : w9.cell? ⟨w6.heap.size + 1, 0, none⟩ = some (.int .i64 0) := hE.cell (by go_simp)
  have c_cc_1_9 : w9.cell? ⟨w6.heap.size + 1, 1, none⟩ = some (.int .i64 2) := hE.cell (by go_simp)
  have l_a_0_9 : w2.heap.size < w9.heap.size := by omega
  have l_a_1_9 : w2.heap.size < w9.heap.size + 1 := by omega
  have l_a_2_9 : w2.heap.size < w9.heap.size + 1 + 1 := by omega
  have l_b_0_9 : w3.heap.size < w9.heap.size := by omega
  have l_b_1_9 : w3.heap.size < w9.heap.size + 1 := by omega
  have l_b_2_9 : w3.heap.size < w9.heap.size + 1 + 1 := by omega
  have l_q_0_9 : w5.heap.size < w9.heap.size := by omega
  have l_q_1_9 : w5.heap.size < w9.heap.size + 1 := by omega
  have l_q_2_9 : w5.heap.size < w9.heap.size + 1 + 1 := by omega
  have l_r_0_9 : w6.heap.size < w9.heap.size := by omega
  have l_r_1_9 : w6.heap.size < w9.heap.size + 1 := by omega
  have l_r_2_9 : w6.heap.size < w9.heap.size + 1 + 1 := by omega
  have l_cc_0_9 : w6.heap.size + 1 < w9.heap.size := by omega
  have l_cc_1_9 : w6.heap.size + 1 < w9.heap.size + 1 := by omega
  have l_cc_2_9 : w6.heap.size + 1 < w9.heap.size + 1 + 1 := by omega
  have Ig5_9 := Lib.hid (Ig5_8.out.ext hE)
  have Ix5_9 := Lib.hid (Ix5_8.out.ext hE)
  have Ig6_9 := Lib.hid (Ig6_8.out.ext hE)
  have Ix6_9 := Lib.hid (Ix6_8.out.ext hE)
  clear c_a_0_8 c_a_1_8 c_b_0_8 c_b_1_8 c_q_0_8 c_q_1_8 c_r_0_8 c_r_1_8 c_cc_0_8 c_cc_1_8 l_a_0_8 l_a_1_8 l_a_2_8 l_b_0_8 l_b_1_8 l_b_2_8 l_q_0_8 l_q_1_8 l_q_2_8 l_r_0_8 l_r_1_8 l_r_2_8 l_cc_0_8 l_cc_1_8 l_cc_2_8 Ig5_8 Ix5_8 Ig6_8 Ix6_8 E8 hE
  go_wp2_with fail
  refine (good_to _ _ 2 1 _ _ [1, 1] [0] 0 1 false _ Ig5_9.out Ix5_9.out rfl rfl (by omega) (by decide)).mono ?_
  rintro e w10 ⟨rfl, hE⟩
  have E10 := Lib.hid (E9.out.trans hE)
  have z10 := hE.size
  try simp at z10
  have c_a_0_10 : w10.cell? ⟨w2.heap.size, 0, none⟩ = some (.int .i64 0) := hE.cell (by go_simp)
  have c_a_1_10 : w10.cell? ⟨w2.heap.size, 1, none⟩ = some (.int .i64 1) := hE.cell (by go_simp)
  have c_b_0_10 : w10.cell? ⟨w3.heap.size, 0, none⟩ = some (.int .i64 1) := hE.cell (by go_simp)
  have c_b_1_10 : w10.cell? ⟨w3.heap.size, 1, none⟩ = some (.int .i64 1) := hE.cell (by go_simp)
  have c_q_0_10 : w10.cell? ⟨w5.heap.size, 0, none⟩ = some (.slice A5 2 c5) := hE.cell (by go_simp)
  have c_q_1_10 : w10.cell? ⟨w5.heap.size, 1, none⟩ = some (.slice B5 1 d5) := hE.cell (by go_simp)
  have c_r_0_10 : w10.cell? ⟨w6.heap.size, 0, none⟩ = some (.slice A6 2 c6) := hE.cell (by go_simp)
  have c_r_1_10 : w10.cell? ⟨w6.heap.size, 1, none⟩ = some (.slice B6 0 d6) := hE.cell (by go_simp)
  have c_cc_0_10 : w10.cell? ⟨w6.heap.size + 1, 0, none⟩ = some (.int .i64 0) := hE.cell (by go_simp)
  have c_cc_1_10 : w10.cell? ⟨w6.heap.size + 1, 1, none⟩ = some (.int .i64 2) := hE.cell (by go_simp)
  have l_a_0_10 : w2.heap.size < w10.heap.size := by omega
  have l_a_1_10 : w2.heap.size < w10.heap.size + 1 := by omega
  have l_a_2_10 : w2.heap.size < w10.heap.size + 1 + 1 := by omega
  have l_b_0_10 : w3.heap.size < w10.heap.size := by omega
  have l_b_1_10 : w3.heap.size < w10.heap.size + 1 := by omega
  have l_b_2_10 : w3.heap.size < w10.heap.size + 1 + 1 := by omega
  have l_q_0_10 : w5.heap.size < w10.heap.size := by omega
  have l_q_1_10 : w5.heap.size < w10.heap.size + 1 := by omega
  have l_q_2_10 : w5.heap.size < w10.heap.size + 1 + 1 := by omega
  have l_r_0_10 : w6.heap.size < w10.heap.size := by omega
  have l_r_1_10 : w6.heap.size < w10.heap.size + 1 := by omega
  have l_r_2_10 : w6.heap.size < w10.heap.size + 1 + 1 := by omega
  have l_cc_0_10 : w6.heap.size + 1 < w10.heap.size := by omega
  have l_cc_1_10 : w6.heap.size + 1 < w10.heap.size + 1 := by omega
  have l_cc_2_10 : w6.heap.size + 1 < w10.heap.size + 1 + 1 := by omega
  have Ig5_10 := Lib.hid (Ig5_9.out.ext hE)
  have Ix5_10 := Lib.hid (Ix5_9.out.ext hE)
  have Ig6_10 := Lib.hid (Ig6_9.out.ext hE)
  have Ix6_10 := Lib.hid (Ix6_9.out.ext hE)
  clear c_a_0_9 c_a_1_9 c_b_0_9 c_b_1_9 c_q_0_9 c_q_1_9 c_r_0_9 c_r_1_9 c_cc_0_9 c_cc_1_9 l_a_0_9 l_a_1_9 l_a_2_9 l_b_0_9 l_b_1_9 l_b_2_9 l_q_0_9 l_q_1_9 l_q_2_9 l_r_0_9 l_r_1_9 l_r_2_9 l_cc_0_9 l_cc_1_9 l_cc_2_9 Ig5_9 Ix5_9 Ig6_9 Ix6_9 E9 hE
  go_wp2_with fail
  refine (taken_to _ _ 2 1 _ _ [1, 1] [0] [1] 1 _ Ig5_10.out Ix5_10.out rfl rfl (by decide) rfl).mono ?_
  rintro e w11 ⟨A8, c8, rfl, ht, hE⟩
  have E11 := Lib.hid (E10.out.trans hE)
  have z11 := hE.size
  try simp at z11
  have c_a_0_11 : w11.cell? ⟨w2.heap.size, 0, none⟩ = some (.int .i64 0) := hE.cell (by go_simp)
  have c_a_1_11 : w11.cell? ⟨w2.heap.size, 1, none⟩ = some (.int .i64 1) := hE.cell (by go_simp)
  have c_b_0_11 : w11.cell? ⟨w3.heap.size, 0, none⟩ = some (.int .i64 1) := hE.cell (by go_simp)
  have c_b_1_11 : w11.cell? ⟨w3.heap.size, 1, none⟩ = some (.int .i64 1) := hE.cell (by go_simp)
  have c_q_0_11 : w11.cell? ⟨w5.heap.size, 0, none⟩ = some (.slice A5 2 c5) := hE.cell (by go_simp)
  have c_q_1_11 : w11.cell? ⟨w5.heap.size, 1, none⟩ = some (.slice B5 1 d5) := hE.cell (by go_simp)
  have c_r_0_11 : w11.cell? ⟨w6.heap.size, 0, none⟩ = some (.slice A6 2 c6) := hE.cell (by go_simp)
  have c_r_1_11 : w11.cell? ⟨w6.heap.size, 1, none⟩ = some (.slice B6 0 d6) := hE.cell (by go_simp)
  have c_cc_0_11 : w11.cell? ⟨w6.heap.size + 1, 0, none⟩ = some (.int .i64 0) := hE.cell (by go_simp)
  have c_cc_1_11 : w11.cell? ⟨w6.heap.size + 1, 1, none⟩ = some (.int .i64 2) := hE.cell (by go_simp)
  have l_a_0_11 : w2.heap.size < w11.heap.size := by omega
  have l_a_1_11 : w2.heap.size < w11.heap.size + 1 := by omega
  have l_a_2_11 : w2.heap.size < w11.heap.size + 1 + 1 := by omega
  have l_b_0_11 : w3.heap.size < w11.heap.size := by omega
  have l_b_1_11 : w3.heap.size < w11.heap.size + 1 := by omega
  have l_b_2_11 : w3.heap.size < w11.heap.size + 1 + 1 := by omega
  have l_q_0_11 : w5.heap.size < w11.heap.size := by omega
  have l_q_1_11 : w5.heap.size < w11.heap.size + 1 := by omega
  have l_q_2_11 : w5.heap.size < w11.heap.size + 1 + 1 := by omega
  have l_r_0_11 : w6.heap.size < w11.heap.size := by omega
  have l_r_1_11 : w6.heap.size < w11.heap.size + 1 := by omega
  have l_r_2_11 : w6.heap.size < w11.heap.size + 1 + 1 := by omega
  have l_cc_0_11 : w6.heap.size + 1 < w11.heap.size := by omega
  have l_cc_1_11 : w6.heap.size + 1 < w11.heap.size + 1 := by omega
  have l_cc_2_11 : w6.heap.size + 1 < w11.heap.size + 1 + 1 := by omega
  have Ig5_11 := Lib.hid (Ig5_10.out.ext hE)
  have Ix5_11 := Lib.hid (Ix5_10.out.ext hE)
  have Ig6_11 := Lib.hid (Ig6_10.out.ext hE)
  have Ix6_11 := Lib.hid (Ix6_10.out.ext hE)
  clear c_a_0_10 c_a_1_10 c_b_0_10 c_b_1_10 c_q_0_10 c_q_1_10 c_r_0_10 c_r_1_10 c_cc_0_10 c_cc_1_10 l_a_0_10 l_a_1_10 l_a_2_10 l_b_0_10 l_b_1_10 l_b_2_10 l_q_0_10 l_q_1_10 l_q_2_10 l_r_0_10 l_r_1_10 l_r_2_10 l_cc_0_10 l_cc_1_10 l_cc_2_10 Ig5_10 Ix5_10 Ig6_10 Ix6_10 E10 hE
  have It_11 := Lib.hid ht
  clear ht
  go_wp2_with fail
  refine (ints_to _ _ [1] [1] true _ (It_11.out.ext ((Ext.refl _).alloc _)) (Ints.one _ 1 1 (Nat.le_refl _) (by omega)) (by decide)).mono ?_
  rintro e w12 ⟨rfl, hE⟩
  have E12 := Lib.hid ((E11.out.alloc _).trans hE)
  have z12 := hE.size
  try simp at z12
  have c_a_0_12 : w12.cell? ⟨w2.heap.size, 0, none⟩ = some (.int .i64 0) := hE.cell (by go_simp)
  have c_a_1_12 : w12.cell? ⟨w2.heap.size, 1, none⟩ = some (.int .i64 1) := hE.cell (by go_simp)
  have c_b_0_12 : w12.cell? ⟨w3.heap.size, 0, none⟩ = some (.int .i64 1) := hE.cell (by go_simp)
  have c_b_1_12 : w12.cell? ⟨w3.heap.size, 1, none⟩ = some (.int .i64 1) := hE.cell (by go_simp)
  have c_q_0_12 : w12.cell? ⟨w5.heap.size, 0, none⟩ = some (.slice A5 2 c5) := hE.cell (by go_simp)
  have c_q_1_12 : w12.cell? ⟨w5.heap.size, 1, none⟩ = some (.slice B5 1 d5) := hE.cell (by go_simp)
  have c_r_0_12 : w12.cell? ⟨w6.heap.size, 0, none⟩ = some (.slice A6 2 c6) := hE.cell (by go_simp)
  have c_r_1_12 : w12.cell? ⟨w6.heap.size, 1, none⟩ = some (.slice B6 0 d6) := hE.cell (by go_simp)
  have c_cc_0_12 : w12.cell? ⟨w6.heap.size + 1, 0, none⟩ = some (.int .i64 0) := hE.cell (by go_simp)
  have c_cc_1_12 : w12.cell? ⟨w6.heap.size + 1, 1, none⟩ = some (.int .i64 2) := hE.cell (by go_simp)
  have l_a_0_12 : w2.heap.size < w12.heap.size := by omega
  have l_a_1_12 : w2.heap.size < w12.heap.size + 1 := by omega
  have l_a_2_12 : w2.heap.size < w12.heap.size + 1 + 1 := by omega
  have l_b_0_12 : w3.heap.size < w12.heap.size := by omega
  have l_b_1_12 : w3.heap.size < w12.heap.size + 1 := by omega
  have l_b_2_12 : w3.heap.size < w12.heap.size + 1 + 1 := by omega
  have l_q_0_12 : w5.heap.size < w12.heap.size := by omega
  have l_q_1_12 : w5.heap.size < w12.heap.size + 1 := by omega
  have l_q_2_12 : w5.heap.size < w12.heap.size + 1 + 1 := by omega
  have l_r_0_12 : w6.heap.size < w12.heap.size := by omega
  have l_r_1_12 : w6.heap.size < w12.heap.size + 1 := by omega
  have l_r_2_12 : w6.heap.size < w12.heap.size + 1 + 1 := by omega
  have l_cc_0_12 : w6.heap.size + 1 < w12.heap.size := by omega
  have l_cc_1_12 : w6.heap.size + 1 < w12.heap.size + 1 := by omega
  have l_cc_2_12 : w6.heap.size + 1 < w12.heap.size + 1 + 1 := by omega
  have It_12 := Lib.hid ((It_11.out.ext ((Ext.refl _).alloc _)).ext hE)
  clear c_a_0_11 c_a_1_11 c_b_0_11 c_b_1_11 c_q_0_11 c_q_1_11 c_r_0_11 c_r_1_11 c_cc_0_11 c_cc_1_11 l_a_0_11 l_a_1_11 l_a_2_11 l_b_0_11 l_b_1_11 l_b_2_11 l_q_0_11 l_q_1_11 l_q_2_11 l_r_0_11 l_r_1_11 l_r_2_11 l_cc_0_11 l_cc_1_11 l_cc_2_11 It_11 E11 hE
  go_wp2
  go_ret
  exact ⟨rfl, E12.out⟩
end Go.Proofs.Ytbkheglogmkbgaa
