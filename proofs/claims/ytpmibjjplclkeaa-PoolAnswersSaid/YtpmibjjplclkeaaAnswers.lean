/- The walk of PoolAnswers. -/
import Derived.Test.YtpmibjjplclkeaaRGive
import Derived.Test.YtpmibjjplclkeaaRTake
import Derived.Test.YtpmibjjplclkeaaRMake
import Derived.Test.YtpmibjjplclkeaaRTaken
import Derived.Test.YtpmibjjplclkeaaStays
namespace Go.Proofs.Ytpmibjjplclkeaa
open Go.RowKit Go.Proofs.Ytpmibjjplclkeaa.Plain

/-- what the operations of the last comparison leave: these values; and two lists -/
def VA (cs : List (Option Value)) (tk : List Int) (i : Nat) (w : World) (_ds : List Value) (v : Value) : Prop :=
  match cs[i]? with
  | some (some c) => v = c
  | some none => ∃ A c, v = .slice A tk.length c ∧ Ints w (.slice A tk.length c) tk
  | none => True
section
variable (cs : List (Option Value)) (tk : List Int)
theorem VA_ext : ∀ i w w' ds v, VA cs tk i w ds v → Ext w w' → VA cs tk i w' ds v := by
  intro i w w' ds v h hE
  unfold VA at *
  split at h
  · exact h
  · obtain ⟨A, c, e, h⟩ := h
    exact ⟨A, c, e, h.ext hE⟩
  · trivial
variable (w : World) (ds : List Value) (v : Value)
theorem VA_i {i : Nat} {c : Value} (h : cs[i]? = some (some c)) : VA cs tk i w ds c := by unfold VA; rw [h]
theorem VA_e {i : Nat} {c : Value} (hh : VA cs tk i w ds v) (h : cs[i]? = some (some c)) : v = c := by unfold VA at hh; rw [h] at hh; exact hh
theorem VA_s {i : Nat} (h : cs[i]? = some none) (hh : ∃ A c, v = .slice A tk.length c ∧ Ints w (.slice A tk.length c) tk) : VA cs tk i w ds v := by unfold VA; rw [h]; exact hh
theorem VA_t {i : Nat} (hh : VA cs tk i w ds v) (h : cs[i]? = some none) : ∃ A c, v = .slice A tk.length c ∧ Ints w (.slice A tk.length c) tk := by unfold VA at hh; rw [h] at hh; exact hh
end

set_option maxHeartbeats 8000000 in
set_option maxRecDepth 100000 in
theorem answers_walk (A B : Option Addr) (c d : Nat) (gs xs : List Int) (hc hg n : Int) (w : World) (h : Ints w (.slice A gs.length c) gs) (h' : Ints w (.slice B xs.length d) xs)
    (bc : -9223372036854775808 ≤ hc ∧ hc ≤ 9223372036854775807) (bg : -9223372036854775808 ≤ hg ∧ hg ≤ 9223372036854775807) (bn : -9223372036854775808 ≤ n ∧ n ≤ 9223372036854775807) (hgr : gs.length ≤ 300 ∧ xs.length ≤ 300) :
    Calls Try.prog 3 #[.agg #[.slice A gs.length c, .slice B xs.length d], .agg #[.int .i64 hc, .int .i64 hg], .int .i64 n] w fun e w' => e = .returned (.bool true) ∧ Ext w w' := by
  have HG := Lib.hid h
  have HX := Lib.hid h'
  have GR : Hid ((decide (300 < gs.length) || decide (300 < xs.length)) = false) := Lib.hid (by rw [decide_eq_false (by omega), decide_eq_false (by omega)]; rfl)
  clear h h'
  go_enter Try.func3, Try.ntmps3
  go_wp2_with fail
  refine (alive_any _).mono ?_
  rintro e w1 ⟨rfl, hE⟩
  have E1 := Lib.hid ((((Ext.refl _).alloc _).alloc _).trans hE)
  have z1 := hE.size
  try simp at z1
  have c_p_0_1 : w1.cell? ⟨w.heap.size, 0, none⟩ = some (.slice A gs.length c) := hE.cell (by go_simp)
  have c_p_1_1 : w1.cell? ⟨w.heap.size, 1, none⟩ = some (.slice B xs.length d) := hE.cell (by go_simp)
  have c_h_0_1 : w1.cell? ⟨w.heap.size + 1, 0, none⟩ = some (.int .i64 hc) := hE.cell (by go_simp)
  have c_h_1_1 : w1.cell? ⟨w.heap.size + 1, 1, none⟩ = some (.int .i64 hg) := hE.cell (by go_simp)
  have l_p_0_1 : w.heap.size < w1.heap.size := by omega
  have l_p_1_1 : w.heap.size < w1.heap.size + 1 := by omega
  have l_p_2_1 : w.heap.size < w1.heap.size + 1 + 1 := by omega
  have l_h_0_1 : w.heap.size + 1 < w1.heap.size := by omega
  have l_h_1_1 : w.heap.size + 1 < w1.heap.size + 1 := by omega
  have l_h_2_1 : w.heap.size + 1 < w1.heap.size + 1 + 1 := by omega
  have Ig_1 := Lib.hid ((HG.out.ext (((Ext.refl _).alloc _).alloc _)).ext hE)
  have Ix_1 := Lib.hid ((HX.out.ext (((Ext.refl _).alloc _).alloc _)).ext hE)
  clear HG HX hE
  go_wp2_with fail
  refine (great_any _ _ _ _ _ _ _ (by omega) (by omega)).mono ?_
  rw [GR.out]
  rintro e w2 ⟨rfl, hE⟩
  have E2 := Lib.hid (E1.out.trans hE)
  have z2 := hE.size
  try simp at z2
  have c_p_0_2 : w2.cell? ⟨w.heap.size, 0, none⟩ = some (.slice A gs.length c) := hE.cell (by go_simp)
  have c_p_1_2 : w2.cell? ⟨w.heap.size, 1, none⟩ = some (.slice B xs.length d) := hE.cell (by go_simp)
  have c_h_0_2 : w2.cell? ⟨w.heap.size + 1, 0, none⟩ = some (.int .i64 hc) := hE.cell (by go_simp)
  have c_h_1_2 : w2.cell? ⟨w.heap.size + 1, 1, none⟩ = some (.int .i64 hg) := hE.cell (by go_simp)
  have l_p_0_2 : w.heap.size < w2.heap.size := by omega
  have l_p_1_2 : w.heap.size < w2.heap.size + 1 := by omega
  have l_p_2_2 : w.heap.size < w2.heap.size + 1 + 1 := by omega
  have l_h_0_2 : w.heap.size + 1 < w2.heap.size := by omega
  have l_h_1_2 : w.heap.size + 1 < w2.heap.size + 1 := by omega
  have l_h_2_2 : w.heap.size + 1 < w2.heap.size + 1 + 1 := by omega
  have Ig_2 := Lib.hid (Ig_1.out.ext hE)
  have Ix_2 := Lib.hid (Ix_1.out.ext hE)
  clear c_p_0_1 c_p_1_1 c_h_0_1 c_h_1_1 l_p_0_1 l_p_1_1 l_p_2_1 l_h_0_1 l_h_1_1 l_h_2_1 Ig_1 Ix_1 E1 hE
  go_wp2_with fail
  refine (take_any _ _ _ _ gs xs _ Ig_2.out Ix_2.out (by omega) (by omega)).mono ?_
  rintro e w3 ⟨A3, c3, B3, d3, rfl, ht1, ht2, hE⟩
  have E3 := Lib.hid (E2.out.trans hE)
  have z3 := hE.size
  try simp at z3
  have c_p_0_3 : w3.cell? ⟨w.heap.size, 0, none⟩ = some (.slice A gs.length c) := hE.cell (by go_simp)
  have c_p_1_3 : w3.cell? ⟨w.heap.size, 1, none⟩ = some (.slice B xs.length d) := hE.cell (by go_simp)
  have c_h_0_3 : w3.cell? ⟨w.heap.size + 1, 0, none⟩ = some (.int .i64 hc) := hE.cell (by go_simp)
  have c_h_1_3 : w3.cell? ⟨w.heap.size + 1, 1, none⟩ = some (.int .i64 hg) := hE.cell (by go_simp)
  have l_p_0_3 : w.heap.size < w3.heap.size := by omega
  have l_p_1_3 : w.heap.size < w3.heap.size + 1 := by omega
  have l_p_2_3 : w.heap.size < w3.heap.size + 1 + 1 := by omega
  have l_h_0_3 : w.heap.size + 1 < w3.heap.size := by omega
  have l_h_1_3 : w.heap.size + 1 < w3.heap.size + 1 := by omega
  have l_h_2_3 : w.heap.size + 1 < w3.heap.size + 1 + 1 := by omega
  have Ig_3 := Lib.hid (Ig_2.out.ext hE)
  have Ix_3 := Lib.hid (Ix_2.out.ext hE)
  clear c_p_0_2 c_p_1_2 c_h_0_2 c_h_1_2 l_p_0_2 l_p_1_2 l_p_2_2 l_h_0_2 l_h_1_2 l_h_2_2 Ig_2 Ix_2 E2 hE
  have Ita_3 := Lib.hid ht1
  clear ht1
  have Itx_3 := Lib.hid ht2
  clear ht2
  go_wp2_with fail
  refine (rtake_any _ _ _ _ gs xs _ (Ig_3.out.ext (((Ext.refl _).alloc _).alloc _)) (Ix_3.out.ext (((Ext.refl _).alloc _).alloc _)) (by omega) (by omega)).mono ?_
  rintro e w4 ⟨A4, c4, B4, d4, rfl, ht1, ht2, hE⟩
  have E4 := Lib.hid (((E3.out.alloc _).alloc _).trans hE)
  have z4 := hE.size
  try simp at z4
  have c_p_0_4 : w4.cell? ⟨w.heap.size, 0, none⟩ = some (.slice A gs.length c) := hE.cell (by go_simp)
  have c_p_1_4 : w4.cell? ⟨w.heap.size, 1, none⟩ = some (.slice B xs.length d) := hE.cell (by go_simp)
  have c_h_0_4 : w4.cell? ⟨w.heap.size + 1, 0, none⟩ = some (.int .i64 hc) := hE.cell (by go_simp)
  have c_h_1_4 : w4.cell? ⟨w.heap.size + 1, 1, none⟩ = some (.int .i64 hg) := hE.cell (by go_simp)
  have c_t7_0_4 : w4.cell? ⟨w3.heap.size, 0, none⟩ = some (.slice A3 (takeG gs xs).length c3) := hE.cell (by go_simp)
  have c_t7_1_4 : w4.cell? ⟨w3.heap.size, 1, none⟩ = some (.slice B3 (takeX gs xs).length d3) := hE.cell (by go_simp)
  have c_t8_0_4 : w4.cell? ⟨w3.heap.size + 1, 0, none⟩ = some (.int .i64 (takeC gs xs)) := hE.cell (by go_simp)
  have c_t8_1_4 : w4.cell? ⟨w3.heap.size + 1, 1, none⟩ = some (.int .i64 (takeN gs xs)) := hE.cell (by go_simp)
  have l_p_0_4 : w.heap.size < w4.heap.size := by omega
  have l_p_1_4 : w.heap.size < w4.heap.size + 1 := by omega
  have l_p_2_4 : w.heap.size < w4.heap.size + 1 + 1 := by omega
  have l_h_0_4 : w.heap.size + 1 < w4.heap.size := by omega
  have l_h_1_4 : w.heap.size + 1 < w4.heap.size + 1 := by omega
  have l_h_2_4 : w.heap.size + 1 < w4.heap.size + 1 + 1 := by omega
  have l_t7_0_4 : w3.heap.size < w4.heap.size := by omega
  have l_t7_1_4 : w3.heap.size < w4.heap.size + 1 := by omega
  have l_t7_2_4 : w3.heap.size < w4.heap.size + 1 + 1 := by omega
  have l_t8_0_4 : w3.heap.size + 1 < w4.heap.size := by omega
  have l_t8_1_4 : w3.heap.size + 1 < w4.heap.size + 1 := by omega
  have l_t8_2_4 : w3.heap.size + 1 < w4.heap.size + 1 + 1 := by omega
  have Ig_4 := Lib.hid ((Ig_3.out.ext (((Ext.refl _).alloc _).alloc _)).ext hE)
  have Ix_4 := Lib.hid ((Ix_3.out.ext (((Ext.refl _).alloc _).alloc _)).ext hE)
  have Ita_4 := Lib.hid ((Ita_3.out.ext (((Ext.refl _).alloc _).alloc _)).ext hE)
  have Itx_4 := Lib.hid ((Itx_3.out.ext (((Ext.refl _).alloc _).alloc _)).ext hE)
  clear c_p_0_3 c_p_1_3 c_h_0_3 c_h_1_3 l_p_0_3 l_p_1_3 l_p_2_3 l_h_0_3 l_h_1_3 l_h_2_3 Ig_3 Ix_3 Ita_3 Itx_3 E3 hE
  have Ira_4 := Lib.hid ht1
  clear ht1
  have Irx_4 := Lib.hid ht2
  clear ht2
  go_wp2_with fail
  refine (give_any _ _ _ _ gs xs hc hg _ (Ig_4.out.ext (((Ext.refl _).alloc _).alloc _)) (Ix_4.out.ext (((Ext.refl _).alloc _).alloc _)) (by omega) (by omega) bc).mono ?_
  rintro e w5 ⟨A5, c5, B5, d5, rfl, ht1, ht2, hE⟩
  have E5 := Lib.hid (((E4.out.alloc _).alloc _).trans hE)
  have z5 := hE.size
  try simp at z5
  have c_p_0_5 : w5.cell? ⟨w.heap.size, 0, none⟩ = some (.slice A gs.length c) := hE.cell (by go_simp)
  have c_p_1_5 : w5.cell? ⟨w.heap.size, 1, none⟩ = some (.slice B xs.length d) := hE.cell (by go_simp)
  have c_h_0_5 : w5.cell? ⟨w.heap.size + 1, 0, none⟩ = some (.int .i64 hc) := hE.cell (by go_simp)
  have c_h_1_5 : w5.cell? ⟨w.heap.size + 1, 1, none⟩ = some (.int .i64 hg) := hE.cell (by go_simp)
  have c_t7_0_5 : w5.cell? ⟨w3.heap.size, 0, none⟩ = some (.slice A3 (takeG gs xs).length c3) := hE.cell (by go_simp)
  have c_t7_1_5 : w5.cell? ⟨w3.heap.size, 1, none⟩ = some (.slice B3 (takeX gs xs).length d3) := hE.cell (by go_simp)
  have c_t8_0_5 : w5.cell? ⟨w3.heap.size + 1, 0, none⟩ = some (.int .i64 (takeC gs xs)) := hE.cell (by go_simp)
  have c_t8_1_5 : w5.cell? ⟨w3.heap.size + 1, 1, none⟩ = some (.int .i64 (takeN gs xs)) := hE.cell (by go_simp)
  have c_t10_0_5 : w5.cell? ⟨w4.heap.size, 0, none⟩ = some (.slice A4 (takeG gs xs).length c4) := hE.cell (by go_simp)
  have c_t10_1_5 : w5.cell? ⟨w4.heap.size, 1, none⟩ = some (.slice B4 (takeX gs xs).length d4) := hE.cell (by go_simp)
  have c_t11_0_5 : w5.cell? ⟨w4.heap.size + 1, 0, none⟩ = some (.int .i64 (takeC gs xs)) := hE.cell (by go_simp)
  have c_t11_1_5 : w5.cell? ⟨w4.heap.size + 1, 1, none⟩ = some (.int .i64 (takeN gs xs)) := hE.cell (by go_simp)
  have l_p_0_5 : w.heap.size < w5.heap.size := by omega
  have l_p_1_5 : w.heap.size < w5.heap.size + 1 := by omega
  have l_p_2_5 : w.heap.size < w5.heap.size + 1 + 1 := by omega
  have l_h_0_5 : w.heap.size + 1 < w5.heap.size := by omega
  have l_h_1_5 : w.heap.size + 1 < w5.heap.size + 1 := by omega
  have l_h_2_5 : w.heap.size + 1 < w5.heap.size + 1 + 1 := by omega
  have l_t7_0_5 : w3.heap.size < w5.heap.size := by omega
  have l_t7_1_5 : w3.heap.size < w5.heap.size + 1 := by omega
  have l_t7_2_5 : w3.heap.size < w5.heap.size + 1 + 1 := by omega
  have l_t8_0_5 : w3.heap.size + 1 < w5.heap.size := by omega
  have l_t8_1_5 : w3.heap.size + 1 < w5.heap.size + 1 := by omega
  have l_t8_2_5 : w3.heap.size + 1 < w5.heap.size + 1 + 1 := by omega
  have l_t10_0_5 : w4.heap.size < w5.heap.size := by omega
  have l_t10_1_5 : w4.heap.size < w5.heap.size + 1 := by omega
  have l_t10_2_5 : w4.heap.size < w5.heap.size + 1 + 1 := by omega
  have l_t11_0_5 : w4.heap.size + 1 < w5.heap.size := by omega
  have l_t11_1_5 : w4.heap.size + 1 < w5.heap.size + 1 := by omega
  have l_t11_2_5 : w4.heap.size + 1 < w5.heap.size + 1 + 1 := by omega
  have Ig_5 := Lib.hid ((Ig_4.out.ext (((Ext.refl _).alloc _).alloc _)).ext hE)
  have Ix_5 := Lib.hid ((Ix_4.out.ext (((Ext.refl _).alloc _).alloc _)).ext hE)
  have Ita_5 := Lib.hid ((Ita_4.out.ext (((Ext.refl _).alloc _).alloc _)).ext hE)
  have Itx_5 := Lib.hid ((Itx_4.out.ext (((Ext.refl _).alloc _).alloc _)).ext hE)
  have Ira_5 := Lib.hid ((Ira_4.out.ext (((Ext.refl _).alloc _).alloc _)).ext hE)
  have Irx_5 := Lib.hid ((Irx_4.out.ext (((Ext.refl _).alloc _).alloc _)).ext hE)
  clear c_p_0_4 c_p_1_4 c_h_0_4 c_h_1_4 c_t7_0_4 c_t7_1_4 c_t8_0_4 c_t8_1_4 l_p_0_4 l_p_1_4 l_p_2_4 l_h_0_4 l_h_1_4 l_h_2_4 l_t7_0_4 l_t7_1_4 l_t7_2_4 l_t8_0_4 l_t8_1_4 l_t8_2_4 Ig_4 Ix_4 Ita_4 Itx_4 Ira_4 Irx_4 E4 hE
  have Iga_5 := Lib.hid ht1
  clear ht1
  have Igx_5 := Lib.hid ht2
  clear ht2
  go_wp2_with fail
  refine (rgive_any _ _ _ _ gs xs hc hg _ (Ig_5.out.ext ((Ext.refl _).alloc _)) (Ix_5.out.ext ((Ext.refl _).alloc _)) (by omega) (by omega) bc bg).mono ?_
  rintro e w6 ⟨A6, c6, B6, d6, rfl, ht1, ht2, hE⟩
  have E6 := Lib.hid ((E5.out.alloc _).trans hE)
  have z6 := hE.size
  try simp at z6
  have c_p_0_6 : w6.cell? ⟨w.heap.size, 0, none⟩ = some (.slice A gs.length c) := hE.cell (by go_simp)
  have c_p_1_6 : w6.cell? ⟨w.heap.size, 1, none⟩ = some (.slice B xs.length d) := hE.cell (by go_simp)
  have c_h_0_6 : w6.cell? ⟨w.heap.size + 1, 0, none⟩ = some (.int .i64 hc) := hE.cell (by go_simp)
  have c_h_1_6 : w6.cell? ⟨w.heap.size + 1, 1, none⟩ = some (.int .i64 hg) := hE.cell (by go_simp)
  have c_t7_0_6 : w6.cell? ⟨w3.heap.size, 0, none⟩ = some (.slice A3 (takeG gs xs).length c3) := hE.cell (by go_simp)
  have c_t7_1_6 : w6.cell? ⟨w3.heap.size, 1, none⟩ = some (.slice B3 (takeX gs xs).length d3) := hE.cell (by go_simp)
  have c_t8_0_6 : w6.cell? ⟨w3.heap.size + 1, 0, none⟩ = some (.int .i64 (takeC gs xs)) := hE.cell (by go_simp)
  have c_t8_1_6 : w6.cell? ⟨w3.heap.size + 1, 1, none⟩ = some (.int .i64 (takeN gs xs)) := hE.cell (by go_simp)
  have c_t10_0_6 : w6.cell? ⟨w4.heap.size, 0, none⟩ = some (.slice A4 (takeG gs xs).length c4) := hE.cell (by go_simp)
  have c_t10_1_6 : w6.cell? ⟨w4.heap.size, 1, none⟩ = some (.slice B4 (takeX gs xs).length d4) := hE.cell (by go_simp)
  have c_t11_0_6 : w6.cell? ⟨w4.heap.size + 1, 0, none⟩ = some (.int .i64 (takeC gs xs)) := hE.cell (by go_simp)
  have c_t11_1_6 : w6.cell? ⟨w4.heap.size + 1, 1, none⟩ = some (.int .i64 (takeN gs xs)) := hE.cell (by go_simp)
  have c_t13_0_6 : w6.cell? ⟨w5.heap.size, 0, none⟩ = some (.slice A5 gs.length c5) := hE.cell (by go_simp)
  have c_t13_1_6 : w6.cell? ⟨w5.heap.size, 1, none⟩ = some (.slice B5 (giveX gs xs hc hg).length d5) := hE.cell (by go_simp)
  have l_p_0_6 : w.heap.size < w6.heap.size := by omega
  have l_p_1_6 : w.heap.size < w6.heap.size + 1 := by omega
  have l_p_2_6 : w.heap.size < w6.heap.size + 1 + 1 := by omega
  have l_h_0_6 : w.heap.size + 1 < w6.heap.size := by omega
  have l_h_1_6 : w.heap.size + 1 < w6.heap.size + 1 := by omega
  have l_h_2_6 : w.heap.size + 1 < w6.heap.size + 1 + 1 := by omega
  have l_t7_0_6 : w3.heap.size < w6.heap.size := by omega
  have l_t7_1_6 : w3.heap.size < w6.heap.size + 1 := by omega
  have l_t7_2_6 : w3.heap.size < w6.heap.size + 1 + 1 := by omega
  have l_t8_0_6 : w3.heap.size + 1 < w6.heap.size := by omega
  have l_t8_1_6 : w3.heap.size + 1 < w6.heap.size + 1 := by omega
  have l_t8_2_6 : w3.heap.size + 1 < w6.heap.size + 1 + 1 := by omega
  have l_t10_0_6 : w4.heap.size < w6.heap.size := by omega
  have l_t10_1_6 : w4.heap.size < w6.heap.size + 1 := by omega
  have l_t10_2_6 : w4.heap.size < w6.heap.size + 1 + 1 := by omega
  have l_t11_0_6 : w4.heap.size + 1 < w6.heap.size := by omega
  have l_t11_1_6 : w4.heap.size + 1 < w6.heap.size + 1 := by omega
  have l_t11_2_6 : w4.heap.size + 1 < w6.heap.size + 1 + 1 := by omega
  have l_t13_0_6 : w5.heap.size < w6.heap.size := by omega
  have l_t13_1_6 : w5.heap.size < w6.heap.size + 1 := by omega
  have l_t13_2_6 : w5.heap.size < w6.heap.size + 1 + 1 := by omega
  have Ig_6 := Lib.hid ((Ig_5.out.ext ((Ext.refl _).alloc _)).ext hE)
  have Ix_6 := Lib.hid ((Ix_5.out.ext ((Ext.refl _).alloc _)).ext hE)
  have Ita_6 := Lib.hid ((Ita_5.out.ext ((Ext.refl _).alloc _)).ext hE)
  have Itx_6 := Lib.hid ((Itx_5.out.ext ((Ext.refl _).alloc _)).ext hE)
  have Ira_6 := Lib.hid ((Ira_5.out.ext ((Ext.refl _).alloc _)).ext hE)
  have Irx_6 := Lib.hid ((Irx_5.out.ext ((Ext.refl _).alloc _)).ext hE)
  have Iga_6 := Lib.hid ((Iga_5.out.ext ((Ext.refl _).alloc _)).ext hE)
  have Igx_6 := Lib.hid ((Igx_5.out.ext ((Ext.refl _).alloc _)).ext hE)
  clear c_p_0_5 c_p_1_5 c_h_0_5 c_h_1_5 c_t7_0_5 c_t7_1_5 c_t8_0_5 c_t8_1_5 c_t10_0_5 c_t10_1_5 c_t11_0_5 c_t11_1_5 l_p_0_5 l_p_1_5 l_p_2_5 l_h_0_5 l_h_1_5 l_h_2_5 l_t7_0_5 l_t7_1_5 l_t7_2_5 l_t8_0_5 l_t8_1_5 l_t8_2_5 l_t10_0_5 l_t10_1_5 l_t10_2_5 l_t11_0_5 l_t11_1_5 l_t11_2_5 Ig_5 Ix_5 Ita_5 Itx_5 Ira_5 Irx_5 Iga_5 Igx_5 E5 hE
  have Isa_6 := Lib.hid ht1
  clear ht1
  have Isx_6 := Lib.hid ht2
  clear ht2
  go_wp2_with fail
  refine (make_any n _ bn).mono ?_
  rintro e w7 ⟨A7, c7, B7, d7, rfl, ht1, ht2, hE⟩
  have E7 := Lib.hid ((E6.out.alloc _).trans hE)
  have z7 := hE.size
  try simp at z7
  have c_p_0_7 : w7.cell? ⟨w.heap.size, 0, none⟩ = some (.slice A gs.length c) := hE.cell (by go_simp)
  have c_p_1_7 : w7.cell? ⟨w.heap.size, 1, none⟩ = some (.slice B xs.length d) := hE.cell (by go_simp)
  have c_h_0_7 : w7.cell? ⟨w.heap.size + 1, 0, none⟩ = some (.int .i64 hc) := hE.cell (by go_simp)
  have c_h_1_7 : w7.cell? ⟨w.heap.size + 1, 1, none⟩ = some (.int .i64 hg) := hE.cell (by go_simp)
  have c_t7_0_7 : w7.cell? ⟨w3.heap.size, 0, none⟩ = some (.slice A3 (takeG gs xs).length c3) := hE.cell (by go_simp)
  have c_t7_1_7 : w7.cell? ⟨w3.heap.size, 1, none⟩ = some (.slice B3 (takeX gs xs).length d3) := hE.cell (by go_simp)
  have c_t8_0_7 : w7.cell? ⟨w3.heap.size + 1, 0, none⟩ = some (.int .i64 (takeC gs xs)) := hE.cell (by go_simp)
  have c_t8_1_7 : w7.cell? ⟨w3.heap.size + 1, 1, none⟩ = some (.int .i64 (takeN gs xs)) := hE.cell (by go_simp)
  have c_t10_0_7 : w7.cell? ⟨w4.heap.size, 0, none⟩ = some (.slice A4 (takeG gs xs).length c4) := hE.cell (by go_simp)
  have c_t10_1_7 : w7.cell? ⟨w4.heap.size, 1, none⟩ = some (.slice B4 (takeX gs xs).length d4) := hE.cell (by go_simp)
  have c_t11_0_7 : w7.cell? ⟨w4.heap.size + 1, 0, none⟩ = some (.int .i64 (takeC gs xs)) := hE.cell (by go_simp)
  have c_t11_1_7 : w7.cell? ⟨w4.heap.size + 1, 1, none⟩ = some (.int .i64 (takeN gs xs)) := hE.cell (by go_simp)
  have c_t13_0_7 : w7.cell? ⟨w5.heap.size, 0, none⟩ = some (.slice A5 gs.length c5) := hE.cell (by go_simp)
  have c_t13_1_7 : w7.cell? ⟨w5.heap.size, 1, none⟩ = some (.slice B5 (giveX gs xs hc hg).length d5) := hE.cell (by go_simp)
  have c_t15_0_7 : w7.cell? ⟨w6.heap.size, 0, none⟩ = some (.slice A6 gs.length c6) := hE.cell (by go_simp)
  have c_t15_1_7 : w7.cell? ⟨w6.heap.size, 1, none⟩ = some (.slice B6 (giveX gs xs hc hg).length d6) := hE.cell (by go_simp)
  have l_p_0_7 : w.heap.size < w7.heap.size := by omega
  have l_p_1_7 : w.heap.size < w7.heap.size + 1 := by omega
  have l_p_2_7 : w.heap.size < w7.heap.size + 1 + 1 := by omega
  have l_h_0_7 : w.heap.size + 1 < w7.heap.size := by omega
  have l_h_1_7 : w.heap.size + 1 < w7.heap.size + 1 := by omega
  have l_h_2_7 : w.heap.size + 1 < w7.heap.size + 1 + 1 := by omega
  have l_t7_0_7 : w3.heap.size < w7.heap.size := by omega
  have l_t7_1_7 : w3.heap.size < w7.heap.size + 1 := by omega
  have l_t7_2_7 : w3.heap.size < w7.heap.size + 1 + 1 := by omega
  have l_t8_0_7 : w3.heap.size + 1 < w7.heap.size := by omega
  have l_t8_1_7 : w3.heap.size + 1 < w7.heap.size + 1 := by omega
  have l_t8_2_7 : w3.heap.size + 1 < w7.heap.size + 1 + 1 := by omega
  have l_t10_0_7 : w4.heap.size < w7.heap.size := by omega
  have l_t10_1_7 : w4.heap.size < w7.heap.size + 1 := by omega
  have l_t10_2_7 : w4.heap.size < w7.heap.size + 1 + 1 := by omega
  have l_t11_0_7 : w4.heap.size + 1 < w7.heap.size := by omega
  have l_t11_1_7 : w4.heap.size + 1 < w7.heap.size + 1 := by omega
  have l_t11_2_7 : w4.heap.size + 1 < w7.heap.size + 1 + 1 := by omega
  have l_t13_0_7 : w5.heap.size < w7.heap.size := by omega
  have l_t13_1_7 : w5.heap.size < w7.heap.size + 1 := by omega
  have l_t13_2_7 : w5.heap.size < w7.heap.size + 1 + 1 := by omega
  have l_t15_0_7 : w6.heap.size < w7.heap.size := by omega
  have l_t15_1_7 : w6.heap.size < w7.heap.size + 1 := by omega
  have l_t15_2_7 : w6.heap.size < w7.heap.size + 1 + 1 := by omega
  have Ig_7 := Lib.hid ((Ig_6.out.ext ((Ext.refl _).alloc _)).ext hE)
  have Ix_7 := Lib.hid ((Ix_6.out.ext ((Ext.refl _).alloc _)).ext hE)
  have Ita_7 := Lib.hid ((Ita_6.out.ext ((Ext.refl _).alloc _)).ext hE)
  have Itx_7 := Lib.hid ((Itx_6.out.ext ((Ext.refl _).alloc _)).ext hE)
  have Ira_7 := Lib.hid ((Ira_6.out.ext ((Ext.refl _).alloc _)).ext hE)
  have Irx_7 := Lib.hid ((Irx_6.out.ext ((Ext.refl _).alloc _)).ext hE)
  have Iga_7 := Lib.hid ((Iga_6.out.ext ((Ext.refl _).alloc _)).ext hE)
  have Igx_7 := Lib.hid ((Igx_6.out.ext ((Ext.refl _).alloc _)).ext hE)
  have Isa_7 := Lib.hid ((Isa_6.out.ext ((Ext.refl _).alloc _)).ext hE)
  have Isx_7 := Lib.hid ((Isx_6.out.ext ((Ext.refl _).alloc _)).ext hE)
  clear c_p_0_6 c_p_1_6 c_h_0_6 c_h_1_6 c_t7_0_6 c_t7_1_6 c_t8_0_6 c_t8_1_6 c_t10_0_6 c_t10_1_6 c_t11_0_6 c_t11_1_6 c_t13_0_6 c_t13_1_6 l_p_0_6 l_p_1_6 l_p_2_6 l_h_0_6 l_h_1_6 l_h_2_6 l_t7_0_6 l_t7_1_6 l_t7_2_6 l_t8_0_6 l_t8_1_6 l_t8_2_6 l_t10_0_6 l_t10_1_6 l_t10_2_6 l_t11_0_6 l_t11_1_6 l_t11_2_6 l_t13_0_6 l_t13_1_6 l_t13_2_6 Ig_6 Ix_6 Ita_6 Itx_6 Ira_6 Irx_6 Iga_6 Igx_6 Isa_6 Isx_6 E6 hE
  have Ima_7 := Lib.hid ht1
  clear ht1
  have Imx_7 := Lib.hid ht2
  clear ht2
  go_wp2_with fail
  refine (rmake_any n _ bn).mono ?_
  rintro e w8 ⟨A8, c8, B8, d8, rfl, ht1, ht2, hE⟩
  have E8 := Lib.hid ((E7.out.alloc _).trans hE)
  have z8 := hE.size
  try simp at z8
  have c_p_0_8 : w8.cell? ⟨w.heap.size, 0, none⟩ = some (.slice A gs.length c) := hE.cell (by go_simp)
  have c_p_1_8 : w8.cell? ⟨w.heap.size, 1, none⟩ = some (.slice B xs.length d) := hE.cell (by go_simp)
  have c_h_0_8 : w8.cell? ⟨w.heap.size + 1, 0, none⟩ = some (.int .i64 hc) := hE.cell (by go_simp)
  have c_h_1_8 : w8.cell? ⟨w.heap.size + 1, 1, none⟩ = some (.int .i64 hg) := hE.cell (by go_simp)
  have c_t7_0_8 : w8.cell? ⟨w3.heap.size, 0, none⟩ = some (.slice A3 (takeG gs xs).length c3) := hE.cell (by go_simp)
  have c_t7_1_8 : w8.cell? ⟨w3.heap.size, 1, none⟩ = some (.slice B3 (takeX gs xs).length d3) := hE.cell (by go_simp)
  have c_t8_0_8 : w8.cell? ⟨w3.heap.size + 1, 0, none⟩ = some (.int .i64 (takeC gs xs)) := hE.cell (by go_simp)
  have c_t8_1_8 : w8.cell? ⟨w3.heap.size + 1, 1, none⟩ = some (.int .i64 (takeN gs xs)) := hE.cell (by go_simp)
  have c_t10_0_8 : w8.cell? ⟨w4.heap.size, 0, none⟩ = some (.slice A4 (takeG gs xs).length c4) := hE.cell (by go_simp)
  have c_t10_1_8 : w8.cell? ⟨w4.heap.size, 1, none⟩ = some (.slice B4 (takeX gs xs).length d4) := hE.cell (by go_simp)
  have c_t11_0_8 : w8.cell? ⟨w4.heap.size + 1, 0, none⟩ = some (.int .i64 (takeC gs xs)) := hE.cell (by go_simp)
  have c_t11_1_8 : w8.cell? ⟨w4.heap.size + 1, 1, none⟩ = some (.int .i64 (takeN gs xs)) := hE.cell (by go_simp)
  have c_t13_0_8 : w8.cell? ⟨w5.heap.size, 0, none⟩ = some (.slice A5 gs.length c5) := hE.cell (by go_simp)
  have c_t13_1_8 : w8.cell? ⟨w5.heap.size, 1, none⟩ = some (.slice B5 (giveX gs xs hc hg).length d5) := hE.cell (by go_simp)
  have c_t15_0_8 : w8.cell? ⟨w6.heap.size, 0, none⟩ = some (.slice A6 gs.length c6) := hE.cell (by go_simp)
  have c_t15_1_8 : w8.cell? ⟨w6.heap.size, 1, none⟩ = some (.slice B6 (giveX gs xs hc hg).length d6) := hE.cell (by go_simp)
  have c_t17_0_8 : w8.cell? ⟨w7.heap.size, 0, none⟩ = some (.slice A7 (makeG n).length c7) := hE.cell (by go_simp)
  have c_t17_1_8 : w8.cell? ⟨w7.heap.size, 1, none⟩ = some (.slice B7 (makeX n).length d7) := hE.cell (by go_simp)
  have l_p_0_8 : w.heap.size < w8.heap.size := by omega
  have l_p_1_8 : w.heap.size < w8.heap.size + 1 := by omega
  have l_p_2_8 : w.heap.size < w8.heap.size + 1 + 1 := by omega
  have l_h_0_8 : w.heap.size + 1 < w8.heap.size := by omega
  have l_h_1_8 : w.heap.size + 1 < w8.heap.size + 1 := by omega
  have l_h_2_8 : w.heap.size + 1 < w8.heap.size + 1 + 1 := by omega
  have l_t7_0_8 : w3.heap.size < w8.heap.size := by omega
  have l_t7_1_8 : w3.heap.size < w8.heap.size + 1 := by omega
  have l_t7_2_8 : w3.heap.size < w8.heap.size + 1 + 1 := by omega
  have l_t8_0_8 : w3.heap.size + 1 < w8.heap.size := by omega
  have l_t8_1_8 : w3.heap.size + 1 < w8.heap.size + 1 := by omega
  have l_t8_2_8 : w3.heap.size + 1 < w8.heap.size + 1 + 1 := by omega
  have l_t10_0_8 : w4.heap.size < w8.heap.size := by omega
  have l_t10_1_8 : w4.heap.size < w8.heap.size + 1 := by omega
  have l_t10_2_8 : w4.heap.size < w8.heap.size + 1 + 1 := by omega
  have l_t11_0_8 : w4.heap.size + 1 < w8.heap.size := by omega
  have l_t11_1_8 : w4.heap.size + 1 < w8.heap.size + 1 := by omega
  have l_t11_2_8 : w4.heap.size + 1 < w8.heap.size + 1 + 1 := by omega
  have l_t13_0_8 : w5.heap.size < w8.heap.size := by omega
  have l_t13_1_8 : w5.heap.size < w8.heap.size + 1 := by omega
  have l_t13_2_8 : w5.heap.size < w8.heap.size + 1 + 1 := by omega
  have l_t15_0_8 : w6.heap.size < w8.heap.size := by omega
  have l_t15_1_8 : w6.heap.size < w8.heap.size + 1 := by omega
  have l_t15_2_8 : w6.heap.size < w8.heap.size + 1 + 1 := by omega
  have l_t17_0_8 : w7.heap.size < w8.heap.size := by omega
  have l_t17_1_8 : w7.heap.size < w8.heap.size + 1 := by omega
  have l_t17_2_8 : w7.heap.size < w8.heap.size + 1 + 1 := by omega
  have Ig_8 := Lib.hid ((Ig_7.out.ext ((Ext.refl _).alloc _)).ext hE)
  have Ix_8 := Lib.hid ((Ix_7.out.ext ((Ext.refl _).alloc _)).ext hE)
  have Ita_8 := Lib.hid ((Ita_7.out.ext ((Ext.refl _).alloc _)).ext hE)
  have Itx_8 := Lib.hid ((Itx_7.out.ext ((Ext.refl _).alloc _)).ext hE)
  have Ira_8 := Lib.hid ((Ira_7.out.ext ((Ext.refl _).alloc _)).ext hE)
  have Irx_8 := Lib.hid ((Irx_7.out.ext ((Ext.refl _).alloc _)).ext hE)
  have Iga_8 := Lib.hid ((Iga_7.out.ext ((Ext.refl _).alloc _)).ext hE)
  have Igx_8 := Lib.hid ((Igx_7.out.ext ((Ext.refl _).alloc _)).ext hE)
  have Isa_8 := Lib.hid ((Isa_7.out.ext ((Ext.refl _).alloc _)).ext hE)
  have Isx_8 := Lib.hid ((Isx_7.out.ext ((Ext.refl _).alloc _)).ext hE)
  have Ima_8 := Lib.hid ((Ima_7.out.ext ((Ext.refl _).alloc _)).ext hE)
  have Imx_8 := Lib.hid ((Imx_7.out.ext ((Ext.refl _).alloc _)).ext hE)
  clear c_p_0_7 c_p_1_7 c_h_0_7 c_h_1_7 c_t7_0_7 c_t7_1_7 c_t8_0_7 c_t8_1_7 c_t10_0_7 c_t10_1_7 c_t11_0_7 c_t11_1_7 c_t13_0_7 c_t13_1_7 c_t15_0_7 c_t15_1_7 l_p_0_7 l_p_1_7 l_p_2_7 l_h_0_7 l_h_1_7 l_h_2_7 l_t7_0_7 l_t7_1_7 l_t7_2_7 l_t8_0_7 l_t8_1_7 l_t8_2_7 l_t10_0_7 l_t10_1_7 l_t10_2_7 l_t11_0_7 l_t11_1_7 l_t11_2_7 l_t13_0_7 l_t13_1_7 l_t13_2_7 l_t15_0_7 l_t15_1_7 l_t15_2_7 Ig_7 Ix_7 Ita_7 Itx_7 Ira_7 Irx_7 Iga_7 Igx_7 Isa_7 Isx_7 Ima_7 Imx_7 E7 hE
  have Ina_8 := Lib.hid ht1
  clear ht1
  have Inx_8 := Lib.hid ht2
  clear ht2
  go_wp2_with fail
  have K_p_0 : Hid (∀ w', Ext (w8.alloc (.cells #[.slice A8 (makeG n).length c8, .slice B8 (makeX n).length d8] 24)) w' → w'.cell? ⟨w.heap.size, 0, none⟩ = some (.slice A gs.length c)) := Lib.hid (fun w' hE => hE.cell (by go_simp))
  have K_p_1 : Hid (∀ w', Ext (w8.alloc (.cells #[.slice A8 (makeG n).length c8, .slice B8 (makeX n).length d8] 24)) w' → w'.cell? ⟨w.heap.size, 1, none⟩ = some (.slice B xs.length d)) := Lib.hid (fun w' hE => hE.cell (by go_simp))
  have K_h_0 : Hid (∀ w', Ext (w8.alloc (.cells #[.slice A8 (makeG n).length c8, .slice B8 (makeX n).length d8] 24)) w' → w'.cell? ⟨w.heap.size + 1, 0, none⟩ = some (.int .i64 hc)) := Lib.hid (fun w' hE => hE.cell (by go_simp))
  have K_h_1 : Hid (∀ w', Ext (w8.alloc (.cells #[.slice A8 (makeG n).length c8, .slice B8 (makeX n).length d8] 24)) w' → w'.cell? ⟨w.heap.size + 1, 1, none⟩ = some (.int .i64 hg)) := Lib.hid (fun w' hE => hE.cell (by go_simp))
  have K_t7_0 : Hid (∀ w', Ext (w8.alloc (.cells #[.slice A8 (makeG n).length c8, .slice B8 (makeX n).length d8] 24)) w' → w'.cell? ⟨w3.heap.size, 0, none⟩ = some (.slice A3 (takeG gs xs).length c3)) := Lib.hid (fun w' hE => hE.cell (by go_simp))
  have K_t7_1 : Hid (∀ w', Ext (w8.alloc (.cells #[.slice A8 (makeG n).length c8, .slice B8 (makeX n).length d8] 24)) w' → w'.cell? ⟨w3.heap.size, 1, none⟩ = some (.slice B3 (takeX gs xs).length d3)) := Lib.hid (fun w' hE => hE.cell (by go_simp))
  have K_t8_0 : Hid (∀ w', Ext (w8.alloc (.cells #[.slice A8 (makeG n).length c8, .slice B8 (makeX n).length d8] 24)) w' → w'.cell? ⟨w3.heap.size + 1, 0, none⟩ = some (.int .i64 (takeC gs xs))) := Lib.hid (fun w' hE => hE.cell (by go_simp))
  have K_t8_1 : Hid (∀ w', Ext (w8.alloc (.cells #[.slice A8 (makeG n).length c8, .slice B8 (makeX n).length d8] 24)) w' → w'.cell? ⟨w3.heap.size + 1, 1, none⟩ = some (.int .i64 (takeN gs xs))) := Lib.hid (fun w' hE => hE.cell (by go_simp))
  have K_t10_0 : Hid (∀ w', Ext (w8.alloc (.cells #[.slice A8 (makeG n).length c8, .slice B8 (makeX n).length d8] 24)) w' → w'.cell? ⟨w4.heap.size, 0, none⟩ = some (.slice A4 (takeG gs xs).length c4)) := Lib.hid (fun w' hE => hE.cell (by go_simp))
  have K_t10_1 : Hid (∀ w', Ext (w8.alloc (.cells #[.slice A8 (makeG n).length c8, .slice B8 (makeX n).length d8] 24)) w' → w'.cell? ⟨w4.heap.size, 1, none⟩ = some (.slice B4 (takeX gs xs).length d4)) := Lib.hid (fun w' hE => hE.cell (by go_simp))
  have K_t11_0 : Hid (∀ w', Ext (w8.alloc (.cells #[.slice A8 (makeG n).length c8, .slice B8 (makeX n).length d8] 24)) w' → w'.cell? ⟨w4.heap.size + 1, 0, none⟩ = some (.int .i64 (takeC gs xs))) := Lib.hid (fun w' hE => hE.cell (by go_simp))
  have K_t11_1 : Hid (∀ w', Ext (w8.alloc (.cells #[.slice A8 (makeG n).length c8, .slice B8 (makeX n).length d8] 24)) w' → w'.cell? ⟨w4.heap.size + 1, 1, none⟩ = some (.int .i64 (takeN gs xs))) := Lib.hid (fun w' hE => hE.cell (by go_simp))
  have K_t13_0 : Hid (∀ w', Ext (w8.alloc (.cells #[.slice A8 (makeG n).length c8, .slice B8 (makeX n).length d8] 24)) w' → w'.cell? ⟨w5.heap.size, 0, none⟩ = some (.slice A5 gs.length c5)) := Lib.hid (fun w' hE => hE.cell (by go_simp))
  have K_t13_1 : Hid (∀ w', Ext (w8.alloc (.cells #[.slice A8 (makeG n).length c8, .slice B8 (makeX n).length d8] 24)) w' → w'.cell? ⟨w5.heap.size, 1, none⟩ = some (.slice B5 (giveX gs xs hc hg).length d5)) := Lib.hid (fun w' hE => hE.cell (by go_simp))
  have K_t15_0 : Hid (∀ w', Ext (w8.alloc (.cells #[.slice A8 (makeG n).length c8, .slice B8 (makeX n).length d8] 24)) w' → w'.cell? ⟨w6.heap.size, 0, none⟩ = some (.slice A6 gs.length c6)) := Lib.hid (fun w' hE => hE.cell (by go_simp))
  have K_t15_1 : Hid (∀ w', Ext (w8.alloc (.cells #[.slice A8 (makeG n).length c8, .slice B8 (makeX n).length d8] 24)) w' → w'.cell? ⟨w6.heap.size, 1, none⟩ = some (.slice B6 (giveX gs xs hc hg).length d6)) := Lib.hid (fun w' hE => hE.cell (by go_simp))
  have K_t17_0 : Hid (∀ w', Ext (w8.alloc (.cells #[.slice A8 (makeG n).length c8, .slice B8 (makeX n).length d8] 24)) w' → w'.cell? ⟨w7.heap.size, 0, none⟩ = some (.slice A7 (makeG n).length c7)) := Lib.hid (fun w' hE => hE.cell (by go_simp))
  have K_t17_1 : Hid (∀ w', Ext (w8.alloc (.cells #[.slice A8 (makeG n).length c8, .slice B8 (makeX n).length d8] 24)) w' → w'.cell? ⟨w7.heap.size, 1, none⟩ = some (.slice B7 (makeX n).length d7)) := Lib.hid (fun w' hE => hE.cell (by go_simp))
  have K_t19_0 : Hid (∀ w', Ext (w8.alloc (.cells #[.slice A8 (makeG n).length c8, .slice B8 (makeX n).length d8] 24)) w' → w'.cell? ⟨w8.heap.size, 0, none⟩ = some (.slice A8 (makeG n).length c8)) := Lib.hid (fun w' hE => hE.cell (by go_simp))
  have K_t19_1 : Hid (∀ w', Ext (w8.alloc (.cells #[.slice A8 (makeG n).length c8, .slice B8 (makeX n).length d8] 24)) w' → w'.cell? ⟨w8.heap.size, 1, none⟩ = some (.slice B8 (makeX n).length d8)) := Lib.hid (fun w' hE => hE.cell (by go_simp))
  have J_g := Lib.hid (fun w' (hE : Ext (w8.alloc (.cells #[.slice A8 (makeG n).length c8, .slice B8 (makeX n).length d8] 24)) w') => Ig_8.out.ext (((Ext.refl _).alloc _).trans hE))
  have J_x := Lib.hid (fun w' (hE : Ext (w8.alloc (.cells #[.slice A8 (makeG n).length c8, .slice B8 (makeX n).length d8] 24)) w') => Ix_8.out.ext (((Ext.refl _).alloc _).trans hE))
  have J_ta := Lib.hid (fun w' (hE : Ext (w8.alloc (.cells #[.slice A8 (makeG n).length c8, .slice B8 (makeX n).length d8] 24)) w') => Ita_8.out.ext (((Ext.refl _).alloc _).trans hE))
  have J_tx := Lib.hid (fun w' (hE : Ext (w8.alloc (.cells #[.slice A8 (makeG n).length c8, .slice B8 (makeX n).length d8] 24)) w') => Itx_8.out.ext (((Ext.refl _).alloc _).trans hE))
  have J_ra := Lib.hid (fun w' (hE : Ext (w8.alloc (.cells #[.slice A8 (makeG n).length c8, .slice B8 (makeX n).length d8] 24)) w') => Ira_8.out.ext (((Ext.refl _).alloc _).trans hE))
  have J_rx := Lib.hid (fun w' (hE : Ext (w8.alloc (.cells #[.slice A8 (makeG n).length c8, .slice B8 (makeX n).length d8] 24)) w') => Irx_8.out.ext (((Ext.refl _).alloc _).trans hE))
  have J_ga := Lib.hid (fun w' (hE : Ext (w8.alloc (.cells #[.slice A8 (makeG n).length c8, .slice B8 (makeX n).length d8] 24)) w') => Iga_8.out.ext (((Ext.refl _).alloc _).trans hE))
  have J_gx := Lib.hid (fun w' (hE : Ext (w8.alloc (.cells #[.slice A8 (makeG n).length c8, .slice B8 (makeX n).length d8] 24)) w') => Igx_8.out.ext (((Ext.refl _).alloc _).trans hE))
  have J_sa := Lib.hid (fun w' (hE : Ext (w8.alloc (.cells #[.slice A8 (makeG n).length c8, .slice B8 (makeX n).length d8] 24)) w') => Isa_8.out.ext (((Ext.refl _).alloc _).trans hE))
  have J_sx := Lib.hid (fun w' (hE : Ext (w8.alloc (.cells #[.slice A8 (makeG n).length c8, .slice B8 (makeX n).length d8] 24)) w') => Isx_8.out.ext (((Ext.refl _).alloc _).trans hE))
  have J_ma := Lib.hid (fun w' (hE : Ext (w8.alloc (.cells #[.slice A8 (makeG n).length c8, .slice B8 (makeX n).length d8] 24)) w') => Ima_8.out.ext (((Ext.refl _).alloc _).trans hE))
  have J_mx := Lib.hid (fun w' (hE : Ext (w8.alloc (.cells #[.slice A8 (makeG n).length c8, .slice B8 (makeX n).length d8] 24)) w') => Imx_8.out.ext (((Ext.refl _).alloc _).trans hE))
  have J_na := Lib.hid (fun w' (hE : Ext (w8.alloc (.cells #[.slice A8 (makeG n).length c8, .slice B8 (makeX n).length d8] 24)) w') => Ina_8.out.ext (((Ext.refl _).alloc _).trans hE))
  have J_nx := Lib.hid (fun w' (hE : Ext (w8.alloc (.cells #[.slice A8 (makeG n).length c8, .slice B8 (makeX n).length d8] 24)) w') => Inx_8.out.ext (((Ext.refl _).alloc _).trans hE))
  have EW := Lib.hid (E8.out.alloc (.cells #[.slice A8 (makeG n).length c8, .slice B8 (makeX n).length d8] 24))
  clear c_p_0_8 c_p_1_8 c_h_0_8 c_h_1_8 c_t7_0_8 c_t7_1_8 c_t8_0_8 c_t8_1_8 c_t10_0_8 c_t10_1_8 c_t11_0_8 c_t11_1_8 c_t13_0_8 c_t13_1_8 c_t15_0_8 c_t15_1_8 c_t17_0_8 c_t17_1_8 l_p_0_8 l_p_1_8 l_p_2_8 l_h_0_8 l_h_1_8 l_h_2_8 l_t7_0_8 l_t7_1_8 l_t7_2_8 l_t8_0_8 l_t8_1_8 l_t8_2_8 l_t10_0_8 l_t10_1_8 l_t10_2_8 l_t11_0_8 l_t11_1_8 l_t11_2_8 l_t13_0_8 l_t13_1_8 l_t13_2_8 l_t15_0_8 l_t15_1_8 l_t15_2_8 l_t17_0_8 l_t17_1_8 l_t17_2_8 Ig_8 Ix_8 Ita_8 Itx_8 Ira_8 Irx_8 Iga_8 Igx_8 Isa_8 Isx_8 Ima_8 Imx_8 Ina_8 Inx_8 E8
  refine Mono.wp_region_mono 56 (VA [some (.agg #[.slice A3 (takeG gs xs).length c3, .slice B3 (takeX gs xs).length d3]), some (.agg #[.slice A4 (takeG gs xs).length c4, .slice B4 (takeX gs xs).length d4]), some (.bool true), some (.bool true), some (.agg #[.int .i64 (takeC gs xs), .int .i64 (takeN gs xs)]), some (.agg #[.int .i64 (takeC gs xs), .int .i64 (takeN gs xs)]), some (.bool true), some (.bool true), some (.bool true), some (.int .i64 (takeE gs xs)), some (.int .i64 (takeE gs xs)), some (.bool true), some (.bool true), some (.bool true), some (.agg #[.slice A5 gs.length c5, .slice B5 (giveX gs xs hc hg).length d5]), some (.agg #[.slice A6 gs.length c6, .slice B6 (giveX gs xs hc hg).length d6]), some (.bool true), some (.bool true), some (.bool true), some (.int .i64 (giveE gs xs hc hg)), some (.int .i64 (giveE gs xs hc hg)), some (.bool true), some (.bool true), some (.bool true), some (.agg #[.slice A7 (makeG n).length c7, .slice B7 (makeX n).length d7]), some (.agg #[.slice A8 (makeG n).length c8, .slice B8 (makeX n).length d8]), some (.bool true), some (.bool true), some (.bool true), some (.int .i64 (makeE n)), some (.int .i64 (makeE n)), some (.bool true), some (.bool true), some (.bool true), some (.agg #[.slice A gs.length c, .slice B xs.length d]), some (.bool (rightB gs xs)), some (.agg #[.slice A gs.length c, .slice B xs.length d]), some (.bool (rightB gs xs)), some (.bool true), some (.bool true), some (.bool true), some (.agg #[.slice A gs.length c, .slice B xs.length d]), some (.agg #[.int .i64 hc, .int .i64 hg]), some (.bool (rightB gs xs && goodB gs xs hc hg)), some (.agg #[.slice A gs.length c, .slice B xs.length d]), some (.agg #[.int .i64 hc, .int .i64 hg]), some (.bool (rightB gs xs && goodB gs xs hc hg)), some (.bool true), some (.bool true), some (.bool true), some (.agg #[.slice A gs.length c, .slice B xs.length d]), none, some (.agg #[.slice A gs.length c, .slice B xs.length d]), none, some (.bool true), some (.bool true), some (.bool true)] (takenL gs xs)) (by kernel_rfl) (by kernel_rfl) (VA_ext _ _) ?_ ?_
  · intro i o hi ho vals w9 hE hcl
    have hi' : i = 0 ∨ i = 1 ∨ i = 2 ∨ i = 3 ∨ i = 4 ∨ i = 5 ∨ i = 6 ∨ i = 7 ∨ i = 8 ∨ i = 9 ∨ i = 10 ∨ i = 11 ∨ i = 12 ∨ i = 13 ∨ i = 14 ∨ i = 15 ∨ i = 16 ∨ i = 17 ∨ i = 18 ∨ i = 19 ∨ i = 20 ∨ i = 21 ∨ i = 22 ∨ i = 23 ∨ i = 24 ∨ i = 25 ∨ i = 26 ∨ i = 27 ∨ i = 28 ∨ i = 29 ∨ i = 30 ∨ i = 31 ∨ i = 32 ∨ i = 33 ∨ i = 34 ∨ i = 35 ∨ i = 36 ∨ i = 37 ∨ i = 38 ∨ i = 39 ∨ i = 40 ∨ i = 41 ∨ i = 42 ∨ i = 43 ∨ i = 44 ∨ i = 45 ∨ i = 46 ∨ i = 47 ∨ i = 48 ∨ i = 49 ∨ i = 50 ∨ i = 51 ∨ i = 52 ∨ i = 53 ∨ i = 54 ∨ i = 55 := by omega
    rcases hi' with rfl | rfl | rfl | rfl | rfl | rfl | rfl | rfl | rfl | rfl | rfl | rfl | rfl | rfl | rfl | rfl | rfl | rfl | rfl | rfl | rfl | rfl | rfl | rfl | rfl | rfl | rfl | rfl | rfl | rfl | rfl | rfl | rfl | rfl | rfl | rfl | rfl | rfl | rfl | rfl | rfl | rfl | rfl | rfl | rfl | rfl | rfl | rfl | rfl | rfl | rfl | rfl | rfl | rfl | rfl | rfl
    · simp only [List.getElem?_cons_succ, List.getElem?_cons_zero, Option.some.injEq] at ho
      subst ho
      rw [if_pos (Mono.wanted_none rfl)]
      have k0 := K_t7_0.out w9 hE
      have k1 := K_t7_1.out w9 hE
      clear hcl
      refine Mono.yields_same (.agg #[.slice A3 (takeG gs xs).length c3, .slice B3 (takeX gs xs).length d3]) w9 ?_ ⟨Ext.refl _, VA_i _ _ _ _ rfl⟩
      simp only [Mono.all, List.take, Act.put]
      go_simp
    · simp only [List.getElem?_cons_succ, List.getElem?_cons_zero, Option.some.injEq] at ho
      subst ho
      rw [if_pos (Mono.wanted_none rfl)]
      have k0 := K_t10_0.out w9 hE
      have k1 := K_t10_1.out w9 hE
      clear hcl
      refine Mono.yields_same (.agg #[.slice A4 (takeG gs xs).length c4, .slice B4 (takeX gs xs).length d4]) w9 ?_ ⟨Ext.refl _, VA_i _ _ _ _ rfl⟩
      simp only [Mono.all, List.take, Act.put]
      go_simp
    · simp only [List.getElem?_cons_succ, List.getElem?_cons_zero, Option.some.injEq] at ho
      subst ho
      rw [if_pos (Mono.wanted_none rfl)]
      have h0 := VA_e _ _ _ _ _ (hcl 0 (by kernel_rfl)) rfl
      have h1 := VA_e _ _ _ _ _ (hcl 1 (by kernel_rfl)) rfl
      refine Mono.yields_call 15 #[vals 0, vals 1] w9 (by kernel_rfl) ?_
      rw [h0]
      rw [h1]
      exact (same_any _ _ _ _ _ _ _ _ (takeG gs xs) (takeX gs xs) (takeG gs xs) (takeX gs xs) w9 (J_ta.out w9 hE) (J_tx.out w9 hE) (J_ra.out w9 hE) (J_rx.out w9 hE)).mono (fun e w' h => ⟨_, h.1.trans (ret_bool (same_refl _ _)), h.2, VA_i _ _ _ _ rfl⟩)
    · simp only [List.getElem?_cons_succ, List.getElem?_cons_zero, Option.some.injEq] at ho
      subst ho
      rw [if_pos (Mono.wanted_none rfl)]
      have h2 := VA_e _ _ _ _ _ (hcl 2 (by kernel_rfl)) rfl
      clear hcl
      refine Mono.yields_same (.bool true) w9 ?_ ⟨Ext.refl _, VA_i _ _ _ _ rfl⟩
      simp only [Mono.all, List.take, Act.put]
      go_simp
    · simp only [List.getElem?_cons_succ, List.getElem?_cons_zero, Option.some.injEq] at ho
      subst ho
      rw [if_pos (Mono.wanted_some rfl (g := 3) (b := true) (by kernel_rfl) (VA_e _ _ _ _ _ (hcl 3 (by kernel_rfl)) rfl))]
      have k0 := K_t8_0.out w9 hE
      have k1 := K_t8_1.out w9 hE
      clear hcl
      refine Mono.yields_same (.agg #[.int .i64 (takeC gs xs), .int .i64 (takeN gs xs)]) w9 ?_ ⟨Ext.refl _, VA_i _ _ _ _ rfl⟩
      simp only [Mono.all, List.take, Act.put]
      go_simp
    · simp only [List.getElem?_cons_succ, List.getElem?_cons_zero, Option.some.injEq] at ho
      subst ho
      rw [if_pos (Mono.wanted_some rfl (g := 3) (b := true) (by kernel_rfl) (VA_e _ _ _ _ _ (hcl 3 (by kernel_rfl)) rfl))]
      have k0 := K_t11_0.out w9 hE
      have k1 := K_t11_1.out w9 hE
      clear hcl
      refine Mono.yields_same (.agg #[.int .i64 (takeC gs xs), .int .i64 (takeN gs xs)]) w9 ?_ ⟨Ext.refl _, VA_i _ _ _ _ rfl⟩
      simp only [Mono.all, List.take, Act.put]
      go_simp
    · simp only [List.getElem?_cons_succ, List.getElem?_cons_zero, Option.some.injEq] at ho
      subst ho
      rw [if_pos (Mono.wanted_some rfl (g := 3) (b := true) (by kernel_rfl) (VA_e _ _ _ _ _ (hcl 3 (by kernel_rfl)) rfl))]
      have h4 := VA_e _ _ _ _ _ (hcl 4 (by kernel_rfl)) rfl
      have h5 := VA_e _ _ _ _ _ (hcl 5 (by kernel_rfl)) rfl
      clear hcl
      refine Mono.yields_same (.bool true) w9 ?_ ⟨Ext.refl _, VA_i _ _ _ _ rfl⟩
      simp only [Mono.all, List.take, Act.put]
      go_simp
    · simp only [List.getElem?_cons_succ, List.getElem?_cons_zero, Option.some.injEq] at ho
      subst ho
      rw [if_pos (Mono.wanted_none rfl)]
      have h3 := VA_e _ _ _ _ _ (hcl 3 (by kernel_rfl)) rfl
      have h6 := VA_e _ _ _ _ _ (hcl 6 (by kernel_rfl)) rfl
      clear hcl
      refine Mono.yields_same (.bool true) w9 ?_ ⟨Ext.refl _, VA_i _ _ _ _ rfl⟩
      simp only [Mono.all, List.take, Act.put]
      go_simp
    · simp only [List.getElem?_cons_succ, List.getElem?_cons_zero, Option.some.injEq] at ho
      subst ho
      rw [if_pos (Mono.wanted_none rfl)]
      have h7 := VA_e _ _ _ _ _ (hcl 7 (by kernel_rfl)) rfl
      clear hcl
      refine Mono.yields_same (.bool true) w9 ?_ ⟨Ext.refl _, VA_i _ _ _ _ rfl⟩
      simp only [Mono.all, List.take, Act.put]
      go_simp
    · simp only [List.getElem?_cons_succ, List.getElem?_cons_zero, Option.some.injEq] at ho
      subst ho
      rw [if_pos (Mono.wanted_some rfl (g := 8) (b := true) (by kernel_rfl) (VA_e _ _ _ _ _ (hcl 8 (by kernel_rfl)) rfl))]
      clear hcl
      refine Mono.yields_same (.int .i64 (takeE gs xs)) w9 ?_ ⟨Ext.refl _, VA_i _ _ _ _ rfl⟩
      simp only [Mono.all, List.take, Act.put]
      go_simp
    · simp only [List.getElem?_cons_succ, List.getElem?_cons_zero, Option.some.injEq] at ho
      subst ho
      rw [if_pos (Mono.wanted_some rfl (g := 8) (b := true) (by kernel_rfl) (VA_e _ _ _ _ _ (hcl 8 (by kernel_rfl)) rfl))]
      clear hcl
      refine Mono.yields_same (.int .i64 (takeE gs xs)) w9 ?_ ⟨Ext.refl _, VA_i _ _ _ _ rfl⟩
      simp only [Mono.all, List.take, Act.put]
      go_simp
    · simp only [List.getElem?_cons_succ, List.getElem?_cons_zero, Option.some.injEq] at ho
      subst ho
      rw [if_pos (Mono.wanted_some rfl (g := 8) (b := true) (by kernel_rfl) (VA_e _ _ _ _ _ (hcl 8 (by kernel_rfl)) rfl))]
      have h9 := VA_e _ _ _ _ _ (hcl 9 (by kernel_rfl)) rfl
      have h10 := VA_e _ _ _ _ _ (hcl 10 (by kernel_rfl)) rfl
      clear hcl
      refine Mono.yields_same (.bool true) w9 ?_ ⟨Ext.refl _, VA_i _ _ _ _ rfl⟩
      simp only [Mono.all, List.take, Act.put]
      go_simp
    · simp only [List.getElem?_cons_succ, List.getElem?_cons_zero, Option.some.injEq] at ho
      subst ho
      rw [if_pos (Mono.wanted_none rfl)]
      have h8 := VA_e _ _ _ _ _ (hcl 8 (by kernel_rfl)) rfl
      have h11 := VA_e _ _ _ _ _ (hcl 11 (by kernel_rfl)) rfl
      clear hcl
      refine Mono.yields_same (.bool true) w9 ?_ ⟨Ext.refl _, VA_i _ _ _ _ rfl⟩
      simp only [Mono.all, List.take, Act.put]
      go_simp
    · simp only [List.getElem?_cons_succ, List.getElem?_cons_zero, Option.some.injEq] at ho
      subst ho
      rw [if_pos (Mono.wanted_none rfl)]
      have h12 := VA_e _ _ _ _ _ (hcl 12 (by kernel_rfl)) rfl
      clear hcl
      refine Mono.yields_same (.bool true) w9 ?_ ⟨Ext.refl _, VA_i _ _ _ _ rfl⟩
      simp only [Mono.all, List.take, Act.put]
      go_simp
    · simp only [List.getElem?_cons_succ, List.getElem?_cons_zero, Option.some.injEq] at ho
      subst ho
      rw [if_pos (Mono.wanted_some rfl (g := 13) (b := true) (by kernel_rfl) (VA_e _ _ _ _ _ (hcl 13 (by kernel_rfl)) rfl))]
      have k0 := K_t13_0.out w9 hE
      have k1 := K_t13_1.out w9 hE
      clear hcl
      refine Mono.yields_same (.agg #[.slice A5 gs.length c5, .slice B5 (giveX gs xs hc hg).length d5]) w9 ?_ ⟨Ext.refl _, VA_i _ _ _ _ rfl⟩
      simp only [Mono.all, List.take, Act.put]
      go_simp
    · simp only [List.getElem?_cons_succ, List.getElem?_cons_zero, Option.some.injEq] at ho
      subst ho
      rw [if_pos (Mono.wanted_some rfl (g := 13) (b := true) (by kernel_rfl) (VA_e _ _ _ _ _ (hcl 13 (by kernel_rfl)) rfl))]
      have k0 := K_t15_0.out w9 hE
      have k1 := K_t15_1.out w9 hE
      clear hcl
      refine Mono.yields_same (.agg #[.slice A6 gs.length c6, .slice B6 (giveX gs xs hc hg).length d6]) w9 ?_ ⟨Ext.refl _, VA_i _ _ _ _ rfl⟩
      simp only [Mono.all, List.take, Act.put]
      go_simp
    · simp only [List.getElem?_cons_succ, List.getElem?_cons_zero, Option.some.injEq] at ho
      subst ho
      rw [if_pos (Mono.wanted_some rfl (g := 13) (b := true) (by kernel_rfl) (VA_e _ _ _ _ _ (hcl 13 (by kernel_rfl)) rfl))]
      have h14 := VA_e _ _ _ _ _ (hcl 14 (by kernel_rfl)) rfl
      have h15 := VA_e _ _ _ _ _ (hcl 15 (by kernel_rfl)) rfl
      refine Mono.yields_call 15 #[vals 14, vals 15] w9 (by kernel_rfl) ?_
      rw [h14]
      rw [h15]
      exact (same_any _ _ _ _ _ _ _ _ gs (giveX gs xs hc hg) gs (giveX gs xs hc hg) w9 (J_ga.out w9 hE) (J_gx.out w9 hE) (J_sa.out w9 hE) (J_sx.out w9 hE)).mono (fun e w' h => ⟨_, h.1.trans (ret_bool (same_refl _ _)), h.2, VA_i _ _ _ _ rfl⟩)
    · simp only [List.getElem?_cons_succ, List.getElem?_cons_zero, Option.some.injEq] at ho
      subst ho
      rw [if_pos (Mono.wanted_none rfl)]
      have h13 := VA_e _ _ _ _ _ (hcl 13 (by kernel_rfl)) rfl
      have h16 := VA_e _ _ _ _ _ (hcl 16 (by kernel_rfl)) rfl
      clear hcl
      refine Mono.yields_same (.bool true) w9 ?_ ⟨Ext.refl _, VA_i _ _ _ _ rfl⟩
      simp only [Mono.all, List.take, Act.put]
      go_simp
    · simp only [List.getElem?_cons_succ, List.getElem?_cons_zero, Option.some.injEq] at ho
      subst ho
      rw [if_pos (Mono.wanted_none rfl)]
      have h17 := VA_e _ _ _ _ _ (hcl 17 (by kernel_rfl)) rfl
      clear hcl
      refine Mono.yields_same (.bool true) w9 ?_ ⟨Ext.refl _, VA_i _ _ _ _ rfl⟩
      simp only [Mono.all, List.take, Act.put]
      go_simp
    · simp only [List.getElem?_cons_succ, List.getElem?_cons_zero, Option.some.injEq] at ho
      subst ho
      rw [if_pos (Mono.wanted_some rfl (g := 18) (b := true) (by kernel_rfl) (VA_e _ _ _ _ _ (hcl 18 (by kernel_rfl)) rfl))]
      clear hcl
      refine Mono.yields_same (.int .i64 (giveE gs xs hc hg)) w9 ?_ ⟨Ext.refl _, VA_i _ _ _ _ rfl⟩
      simp only [Mono.all, List.take, Act.put]
      go_simp
    · simp only [List.getElem?_cons_succ, List.getElem?_cons_zero, Option.some.injEq] at ho
      subst ho
      rw [if_pos (Mono.wanted_some rfl (g := 18) (b := true) (by kernel_rfl) (VA_e _ _ _ _ _ (hcl 18 (by kernel_rfl)) rfl))]
      clear hcl
      refine Mono.yields_same (.int .i64 (giveE gs xs hc hg)) w9 ?_ ⟨Ext.refl _, VA_i _ _ _ _ rfl⟩
      simp only [Mono.all, List.take, Act.put]
      go_simp
    · simp only [List.getElem?_cons_succ, List.getElem?_cons_zero, Option.some.injEq] at ho
      subst ho
      rw [if_pos (Mono.wanted_some rfl (g := 18) (b := true) (by kernel_rfl) (VA_e _ _ _ _ _ (hcl 18 (by kernel_rfl)) rfl))]
      have h19 := VA_e _ _ _ _ _ (hcl 19 (by kernel_rfl)) rfl
      have h20 := VA_e _ _ _ _ _ (hcl 20 (by kernel_rfl)) rfl
      clear hcl
      refine Mono.yields_same (.bool true) w9 ?_ ⟨Ext.refl _, VA_i _ _ _ _ rfl⟩
      simp only [Mono.all, List.take, Act.put]
      go_simp
    · simp only [List.getElem?_cons_succ, List.getElem?_cons_zero, Option.some.injEq] at ho
      subst ho
      rw [if_pos (Mono.wanted_none rfl)]
      have h18 := VA_e _ _ _ _ _ (hcl 18 (by kernel_rfl)) rfl
      have h21 := VA_e _ _ _ _ _ (hcl 21 (by kernel_rfl)) rfl
      clear hcl
      refine Mono.yields_same (.bool true) w9 ?_ ⟨Ext.refl _, VA_i _ _ _ _ rfl⟩
      simp only [Mono.all, List.take, Act.put]
      go_simp
    · simp only [List.getElem?_cons_succ, List.getElem?_cons_zero, Option.some.injEq] at ho
      subst ho
      rw [if_pos (Mono.wanted_none rfl)]
      have h22 := VA_e _ _ _ _ _ (hcl 22 (by kernel_rfl)) rfl
      clear hcl
      refine Mono.yields_same (.bool true) w9 ?_ ⟨Ext.refl _, VA_i _ _ _ _ rfl⟩
      simp only [Mono.all, List.take, Act.put]
      go_simp
    · simp only [List.getElem?_cons_succ, List.getElem?_cons_zero, Option.some.injEq] at ho
      subst ho
      rw [if_pos (Mono.wanted_some rfl (g := 23) (b := true) (by kernel_rfl) (VA_e _ _ _ _ _ (hcl 23 (by kernel_rfl)) rfl))]
      have k0 := K_t17_0.out w9 hE
      have k1 := K_t17_1.out w9 hE
      clear hcl
      refine Mono.yields_same (.agg #[.slice A7 (makeG n).length c7, .slice B7 (makeX n).length d7]) w9 ?_ ⟨Ext.refl _, VA_i _ _ _ _ rfl⟩
      simp only [Mono.all, List.take, Act.put]
      go_simp
    · simp only [List.getElem?_cons_succ, List.getElem?_cons_zero, Option.some.injEq] at ho
      subst ho
      rw [if_pos (Mono.wanted_some rfl (g := 23) (b := true) (by kernel_rfl) (VA_e _ _ _ _ _ (hcl 23 (by kernel_rfl)) rfl))]
      have k0 := K_t19_0.out w9 hE
      have k1 := K_t19_1.out w9 hE
      clear hcl
      refine Mono.yields_same (.agg #[.slice A8 (makeG n).length c8, .slice B8 (makeX n).length d8]) w9 ?_ ⟨Ext.refl _, VA_i _ _ _ _ rfl⟩
      simp only [Mono.all, List.take, Act.put]
      go_simp
    · simp only [List.getElem?_cons_succ, List.getElem?_cons_zero, Option.some.injEq] at ho
      subst ho
      rw [if_pos (Mono.wanted_some rfl (g := 23) (b := true) (by kernel_rfl) (VA_e _ _ _ _ _ (hcl 23 (by kernel_rfl)) rfl))]
      have h24 := VA_e _ _ _ _ _ (hcl 24 (by kernel_rfl)) rfl
      have h25 := VA_e _ _ _ _ _ (hcl 25 (by kernel_rfl)) rfl
      refine Mono.yields_call 15 #[vals 24, vals 25] w9 (by kernel_rfl) ?_
      rw [h24]
      rw [h25]
      exact (same_any _ _ _ _ _ _ _ _ (makeG n) (makeX n) (makeG n) (makeX n) w9 (J_ma.out w9 hE) (J_mx.out w9 hE) (J_na.out w9 hE) (J_nx.out w9 hE)).mono (fun e w' h => ⟨_, h.1.trans (ret_bool (same_refl _ _)), h.2, VA_i _ _ _ _ rfl⟩)
    · simp only [List.getElem?_cons_succ, List.getElem?_cons_zero, Option.some.injEq] at ho
      subst ho
      rw [if_pos (Mono.wanted_none rfl)]
      have h23 := VA_e _ _ _ _ _ (hcl 23 (by kernel_rfl)) rfl
      have h26 := VA_e _ _ _ _ _ (hcl 26 (by kernel_rfl)) rfl
      clear hcl
      refine Mono.yields_same (.bool true) w9 ?_ ⟨Ext.refl _, VA_i _ _ _ _ rfl⟩
      simp only [Mono.all, List.take, Act.put]
      go_simp
    · simp only [List.getElem?_cons_succ, List.getElem?_cons_zero, Option.some.injEq] at ho
      subst ho
      rw [if_pos (Mono.wanted_none rfl)]
      have h27 := VA_e _ _ _ _ _ (hcl 27 (by kernel_rfl)) rfl
      clear hcl
      refine Mono.yields_same (.bool true) w9 ?_ ⟨Ext.refl _, VA_i _ _ _ _ rfl⟩
      simp only [Mono.all, List.take, Act.put]
      go_simp
    · simp only [List.getElem?_cons_succ, List.getElem?_cons_zero, Option.some.injEq] at ho
      subst ho
      rw [if_pos (Mono.wanted_some rfl (g := 28) (b := true) (by kernel_rfl) (VA_e _ _ _ _ _ (hcl 28 (by kernel_rfl)) rfl))]
      clear hcl
      refine Mono.yields_same (.int .i64 (makeE n)) w9 ?_ ⟨Ext.refl _, VA_i _ _ _ _ rfl⟩
      simp only [Mono.all, List.take, Act.put]
      go_simp
    · simp only [List.getElem?_cons_succ, List.getElem?_cons_zero, Option.some.injEq] at ho
      subst ho
      rw [if_pos (Mono.wanted_some rfl (g := 28) (b := true) (by kernel_rfl) (VA_e _ _ _ _ _ (hcl 28 (by kernel_rfl)) rfl))]
      clear hcl
      refine Mono.yields_same (.int .i64 (makeE n)) w9 ?_ ⟨Ext.refl _, VA_i _ _ _ _ rfl⟩
      simp only [Mono.all, List.take, Act.put]
      go_simp
    · simp only [List.getElem?_cons_succ, List.getElem?_cons_zero, Option.some.injEq] at ho
      subst ho
      rw [if_pos (Mono.wanted_some rfl (g := 28) (b := true) (by kernel_rfl) (VA_e _ _ _ _ _ (hcl 28 (by kernel_rfl)) rfl))]
      have h29 := VA_e _ _ _ _ _ (hcl 29 (by kernel_rfl)) rfl
      have h30 := VA_e _ _ _ _ _ (hcl 30 (by kernel_rfl)) rfl
      clear hcl
      refine Mono.yields_same (.bool true) w9 ?_ ⟨Ext.refl _, VA_i _ _ _ _ rfl⟩
      simp only [Mono.all, List.take, Act.put]
      go_simp
    · simp only [List.getElem?_cons_succ, List.getElem?_cons_zero, Option.some.injEq] at ho
      subst ho
      rw [if_pos (Mono.wanted_none rfl)]
      have h28 := VA_e _ _ _ _ _ (hcl 28 (by kernel_rfl)) rfl
      have h31 := VA_e _ _ _ _ _ (hcl 31 (by kernel_rfl)) rfl
      clear hcl
      refine Mono.yields_same (.bool true) w9 ?_ ⟨Ext.refl _, VA_i _ _ _ _ rfl⟩
      simp only [Mono.all, List.take, Act.put]
      go_simp
    · simp only [List.getElem?_cons_succ, List.getElem?_cons_zero, Option.some.injEq] at ho
      subst ho
      rw [if_pos (Mono.wanted_none rfl)]
      have h32 := VA_e _ _ _ _ _ (hcl 32 (by kernel_rfl)) rfl
      clear hcl
      refine Mono.yields_same (.bool true) w9 ?_ ⟨Ext.refl _, VA_i _ _ _ _ rfl⟩
      simp only [Mono.all, List.take, Act.put]
      go_simp
    · simp only [List.getElem?_cons_succ, List.getElem?_cons_zero, Option.some.injEq] at ho
      subst ho
      rw [if_pos (Mono.wanted_some rfl (g := 33) (b := true) (by kernel_rfl) (VA_e _ _ _ _ _ (hcl 33 (by kernel_rfl)) rfl))]
      have k0 := K_p_0.out w9 hE
      have k1 := K_p_1.out w9 hE
      clear hcl
      refine Mono.yields_same (.agg #[.slice A gs.length c, .slice B xs.length d]) w9 ?_ ⟨Ext.refl _, VA_i _ _ _ _ rfl⟩
      simp only [Mono.all, List.take, Act.put]
      go_simp
    · simp only [List.getElem?_cons_succ, List.getElem?_cons_zero, Option.some.injEq] at ho
      subst ho
      rw [if_pos (Mono.wanted_some rfl (g := 33) (b := true) (by kernel_rfl) (VA_e _ _ _ _ _ (hcl 33 (by kernel_rfl)) rfl))]
      have h34 := VA_e _ _ _ _ _ (hcl 34 (by kernel_rfl)) rfl
      refine Mono.yields_call 16 #[vals 34] w9 (by kernel_rfl) ?_
      rw [h34]
      exact (right_any _ _ _ _ gs xs w9 (J_g.out w9 hE) (J_x.out w9 hE)).mono (fun e w' h => ⟨_, h.1, h.2, VA_i _ _ _ _ rfl⟩)
    · simp only [List.getElem?_cons_succ, List.getElem?_cons_zero, Option.some.injEq] at ho
      subst ho
      rw [if_pos (Mono.wanted_some rfl (g := 33) (b := true) (by kernel_rfl) (VA_e _ _ _ _ _ (hcl 33 (by kernel_rfl)) rfl))]
      have k0 := K_p_0.out w9 hE
      have k1 := K_p_1.out w9 hE
      clear hcl
      refine Mono.yields_same (.agg #[.slice A gs.length c, .slice B xs.length d]) w9 ?_ ⟨Ext.refl _, VA_i _ _ _ _ rfl⟩
      simp only [Mono.all, List.take, Act.put]
      go_simp
    · simp only [List.getElem?_cons_succ, List.getElem?_cons_zero, Option.some.injEq] at ho
      subst ho
      rw [if_pos (Mono.wanted_some rfl (g := 33) (b := true) (by kernel_rfl) (VA_e _ _ _ _ _ (hcl 33 (by kernel_rfl)) rfl))]
      have h36 := VA_e _ _ _ _ _ (hcl 36 (by kernel_rfl)) rfl
      refine Mono.yields_call 17 #[vals 36] w9 (by kernel_rfl) ?_
      rw [h36]
      exact (rright_any _ _ _ _ gs xs w9 (J_g.out w9 hE) (J_x.out w9 hE)).mono (fun e w' h => ⟨_, h.1, h.2, VA_i _ _ _ _ rfl⟩)
    · simp only [List.getElem?_cons_succ, List.getElem?_cons_zero, Option.some.injEq] at ho
      subst ho
      rw [if_pos (Mono.wanted_some rfl (g := 33) (b := true) (by kernel_rfl) (VA_e _ _ _ _ _ (hcl 33 (by kernel_rfl)) rfl))]
      have h35 := VA_e _ _ _ _ _ (hcl 35 (by kernel_rfl)) rfl
      have h37 := VA_e _ _ _ _ _ (hcl 37 (by kernel_rfl)) rfl
      clear hcl
      refine Mono.yields_same (.bool true) w9 ?_ ⟨Ext.refl _, VA_i _ _ _ _ rfl⟩
      simp only [Mono.all, List.take, Act.put]
      go_simp
    · simp only [List.getElem?_cons_succ, List.getElem?_cons_zero, Option.some.injEq] at ho
      subst ho
      rw [if_pos (Mono.wanted_none rfl)]
      have h33 := VA_e _ _ _ _ _ (hcl 33 (by kernel_rfl)) rfl
      have h38 := VA_e _ _ _ _ _ (hcl 38 (by kernel_rfl)) rfl
      clear hcl
      refine Mono.yields_same (.bool true) w9 ?_ ⟨Ext.refl _, VA_i _ _ _ _ rfl⟩
      simp only [Mono.all, List.take, Act.put]
      go_simp
    · simp only [List.getElem?_cons_succ, List.getElem?_cons_zero, Option.some.injEq] at ho
      subst ho
      rw [if_pos (Mono.wanted_none rfl)]
      have h39 := VA_e _ _ _ _ _ (hcl 39 (by kernel_rfl)) rfl
      clear hcl
      refine Mono.yields_same (.bool true) w9 ?_ ⟨Ext.refl _, VA_i _ _ _ _ rfl⟩
      simp only [Mono.all, List.take, Act.put]
      go_simp
    · simp only [List.getElem?_cons_succ, List.getElem?_cons_zero, Option.some.injEq] at ho
      subst ho
      rw [if_pos (Mono.wanted_some rfl (g := 40) (b := true) (by kernel_rfl) (VA_e _ _ _ _ _ (hcl 40 (by kernel_rfl)) rfl))]
      have k0 := K_p_0.out w9 hE
      have k1 := K_p_1.out w9 hE
      clear hcl
      refine Mono.yields_same (.agg #[.slice A gs.length c, .slice B xs.length d]) w9 ?_ ⟨Ext.refl _, VA_i _ _ _ _ rfl⟩
      simp only [Mono.all, List.take, Act.put]
      go_simp
    · simp only [List.getElem?_cons_succ, List.getElem?_cons_zero, Option.some.injEq] at ho
      subst ho
      rw [if_pos (Mono.wanted_some rfl (g := 40) (b := true) (by kernel_rfl) (VA_e _ _ _ _ _ (hcl 40 (by kernel_rfl)) rfl))]
      have k0 := K_h_0.out w9 hE
      have k1 := K_h_1.out w9 hE
      clear hcl
      refine Mono.yields_same (.agg #[.int .i64 hc, .int .i64 hg]) w9 ?_ ⟨Ext.refl _, VA_i _ _ _ _ rfl⟩
      simp only [Mono.all, List.take, Act.put]
      go_simp
    · simp only [List.getElem?_cons_succ, List.getElem?_cons_zero, Option.some.injEq] at ho
      subst ho
      rw [if_pos (Mono.wanted_some rfl (g := 40) (b := true) (by kernel_rfl) (VA_e _ _ _ _ _ (hcl 40 (by kernel_rfl)) rfl))]
      have h41 := VA_e _ _ _ _ _ (hcl 41 (by kernel_rfl)) rfl
      have h42 := VA_e _ _ _ _ _ (hcl 42 (by kernel_rfl)) rfl
      refine Mono.yields_call 18 #[vals 41, vals 42] w9 (by kernel_rfl) ?_
      rw [h41]
      rw [h42]
      exact (Good_any _ _ _ _ gs xs hc hg w9 (J_g.out w9 hE) (J_x.out w9 hE) bc).mono (fun e w' h => ⟨_, h.1, h.2, VA_i _ _ _ _ rfl⟩)
    · simp only [List.getElem?_cons_succ, List.getElem?_cons_zero, Option.some.injEq] at ho
      subst ho
      rw [if_pos (Mono.wanted_some rfl (g := 40) (b := true) (by kernel_rfl) (VA_e _ _ _ _ _ (hcl 40 (by kernel_rfl)) rfl))]
      have k0 := K_p_0.out w9 hE
      have k1 := K_p_1.out w9 hE
      clear hcl
      refine Mono.yields_same (.agg #[.slice A gs.length c, .slice B xs.length d]) w9 ?_ ⟨Ext.refl _, VA_i _ _ _ _ rfl⟩
      simp only [Mono.all, List.take, Act.put]
      go_simp
    · simp only [List.getElem?_cons_succ, List.getElem?_cons_zero, Option.some.injEq] at ho
      subst ho
      rw [if_pos (Mono.wanted_some rfl (g := 40) (b := true) (by kernel_rfl) (VA_e _ _ _ _ _ (hcl 40 (by kernel_rfl)) rfl))]
      have k0 := K_h_0.out w9 hE
      have k1 := K_h_1.out w9 hE
      clear hcl
      refine Mono.yields_same (.agg #[.int .i64 hc, .int .i64 hg]) w9 ?_ ⟨Ext.refl _, VA_i _ _ _ _ rfl⟩
      simp only [Mono.all, List.take, Act.put]
      go_simp
    · simp only [List.getElem?_cons_succ, List.getElem?_cons_zero, Option.some.injEq] at ho
      subst ho
      rw [if_pos (Mono.wanted_some rfl (g := 40) (b := true) (by kernel_rfl) (VA_e _ _ _ _ _ (hcl 40 (by kernel_rfl)) rfl))]
      have h44 := VA_e _ _ _ _ _ (hcl 44 (by kernel_rfl)) rfl
      have h45 := VA_e _ _ _ _ _ (hcl 45 (by kernel_rfl)) rfl
      refine Mono.yields_call 19 #[vals 44, vals 45] w9 (by kernel_rfl) ?_
      rw [h44]
      rw [h45]
      exact (rgood_any _ _ _ _ gs xs hc hg w9 (J_g.out w9 hE) (J_x.out w9 hE) (by omega) bc bg).mono (fun e w' h => ⟨_, h.1, h.2, VA_i _ _ _ _ rfl⟩)
    · simp only [List.getElem?_cons_succ, List.getElem?_cons_zero, Option.some.injEq] at ho
      subst ho
      rw [if_pos (Mono.wanted_some rfl (g := 40) (b := true) (by kernel_rfl) (VA_e _ _ _ _ _ (hcl 40 (by kernel_rfl)) rfl))]
      have h43 := VA_e _ _ _ _ _ (hcl 43 (by kernel_rfl)) rfl
      have h46 := VA_e _ _ _ _ _ (hcl 46 (by kernel_rfl)) rfl
      clear hcl
      refine Mono.yields_same (.bool true) w9 ?_ ⟨Ext.refl _, VA_i _ _ _ _ rfl⟩
      simp only [Mono.all, List.take, Act.put]
      go_simp
    · simp only [List.getElem?_cons_succ, List.getElem?_cons_zero, Option.some.injEq] at ho
      subst ho
      rw [if_pos (Mono.wanted_none rfl)]
      have h40 := VA_e _ _ _ _ _ (hcl 40 (by kernel_rfl)) rfl
      have h47 := VA_e _ _ _ _ _ (hcl 47 (by kernel_rfl)) rfl
      clear hcl
      refine Mono.yields_same (.bool true) w9 ?_ ⟨Ext.refl _, VA_i _ _ _ _ rfl⟩
      simp only [Mono.all, List.take, Act.put]
      go_simp
    · simp only [List.getElem?_cons_succ, List.getElem?_cons_zero, Option.some.injEq] at ho
      subst ho
      rw [if_pos (Mono.wanted_none rfl)]
      have h48 := VA_e _ _ _ _ _ (hcl 48 (by kernel_rfl)) rfl
      clear hcl
      refine Mono.yields_same (.bool true) w9 ?_ ⟨Ext.refl _, VA_i _ _ _ _ rfl⟩
      simp only [Mono.all, List.take, Act.put]
      go_simp
    · simp only [List.getElem?_cons_succ, List.getElem?_cons_zero, Option.some.injEq] at ho
      subst ho
      rw [if_pos (Mono.wanted_some rfl (g := 49) (b := true) (by kernel_rfl) (VA_e _ _ _ _ _ (hcl 49 (by kernel_rfl)) rfl))]
      have k0 := K_p_0.out w9 hE
      have k1 := K_p_1.out w9 hE
      clear hcl
      refine Mono.yields_same (.agg #[.slice A gs.length c, .slice B xs.length d]) w9 ?_ ⟨Ext.refl _, VA_i _ _ _ _ rfl⟩
      simp only [Mono.all, List.take, Act.put]
      go_simp
    · simp only [List.getElem?_cons_succ, List.getElem?_cons_zero, Option.some.injEq] at ho
      subst ho
      rw [if_pos (Mono.wanted_some rfl (g := 49) (b := true) (by kernel_rfl) (VA_e _ _ _ _ _ (hcl 49 (by kernel_rfl)) rfl))]
      have h50 := VA_e _ _ _ _ _ (hcl 50 (by kernel_rfl)) rfl
      refine Mono.yields_call 21 #[vals 50] w9 (by kernel_rfl) ?_
      rw [h50]
      exact (taken_any _ _ _ _ gs xs w9 (J_g.out w9 hE) (J_x.out w9 hE)).mono (fun e w' ⟨A9, c9, h1, h2, h3⟩ => ⟨_, h1, h3, VA_s _ _ _ _ _ rfl ⟨A9, c9, rfl, h2⟩⟩)
    · simp only [List.getElem?_cons_succ, List.getElem?_cons_zero, Option.some.injEq] at ho
      subst ho
      rw [if_pos (Mono.wanted_some rfl (g := 49) (b := true) (by kernel_rfl) (VA_e _ _ _ _ _ (hcl 49 (by kernel_rfl)) rfl))]
      have k0 := K_p_0.out w9 hE
      have k1 := K_p_1.out w9 hE
      clear hcl
      refine Mono.yields_same (.agg #[.slice A gs.length c, .slice B xs.length d]) w9 ?_ ⟨Ext.refl _, VA_i _ _ _ _ rfl⟩
      simp only [Mono.all, List.take, Act.put]
      go_simp
    · simp only [List.getElem?_cons_succ, List.getElem?_cons_zero, Option.some.injEq] at ho
      subst ho
      rw [if_pos (Mono.wanted_some rfl (g := 49) (b := true) (by kernel_rfl) (VA_e _ _ _ _ _ (hcl 49 (by kernel_rfl)) rfl))]
      have h52 := VA_e _ _ _ _ _ (hcl 52 (by kernel_rfl)) rfl
      refine Mono.yields_call 22 #[vals 52] w9 (by kernel_rfl) ?_
      rw [h52]
      exact (rtaken_any _ _ _ _ gs xs w9 (J_g.out w9 hE) (J_x.out w9 hE)).mono (fun e w' ⟨A9, c9, h1, h2, h3⟩ => ⟨_, h1, h3, VA_s _ _ _ _ _ rfl ⟨A9, c9, rfl, h2⟩⟩)
    · simp only [List.getElem?_cons_succ, List.getElem?_cons_zero, Option.some.injEq] at ho
      subst ho
      rw [if_pos (Mono.wanted_some rfl (g := 49) (b := true) (by kernel_rfl) (VA_e _ _ _ _ _ (hcl 49 (by kernel_rfl)) rfl))]
      obtain ⟨A51, c51, e51, h51a⟩ := VA_t _ _ _ _ _ (hcl 51 (by kernel_rfl)) rfl
      rw [← e51] at h51a
      obtain ⟨A53, c53, e53, h53a⟩ := VA_t _ _ _ _ _ (hcl 53 (by kernel_rfl)) rfl
      rw [← e53] at h53a
      refine Mono.yields_call 20 #[vals 51, vals 53] w9 (by kernel_rfl) ?_
      exact (ints_to (vals 51) (vals 53) (takenL gs xs) (takenL gs xs) true w9 h51a h53a (by unfold sameB; simp)).mono (fun e w' h => ⟨_, h.1, h.2, VA_i _ _ _ _ rfl⟩)
    · simp only [List.getElem?_cons_succ, List.getElem?_cons_zero, Option.some.injEq] at ho
      subst ho
      rw [if_pos (Mono.wanted_none rfl)]
      have h49 := VA_e _ _ _ _ _ (hcl 49 (by kernel_rfl)) rfl
      have h54 := VA_e _ _ _ _ _ (hcl 54 (by kernel_rfl)) rfl
      clear hcl
      refine Mono.yields_same (.bool true) w9 ?_ ⟨Ext.refl _, VA_i _ _ _ _ rfl⟩
      simp only [Mono.all, List.take, Act.put]
      go_simp
  · intro vals w9 hE hv
    have e : vals 55 = .bool true := VA_e _ _ _ _ _ (hv 55 (by omega)) (by kernel_rfl)
    clear hv
    simp only [Mono.all, List.take, List.drop, Act.put]
    rw [e]
    go_wp2
    go_ret
    exact ⟨rfl, EW.out.trans hE⟩
end Go.Proofs.Ytpmibjjplclkeaa
