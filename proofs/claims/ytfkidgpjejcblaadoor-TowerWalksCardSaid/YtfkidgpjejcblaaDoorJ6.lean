/- Joined by wip/merge.py: T14U, T14J, T14X, T14Q, T14A, T14Y. -/
import Derived.Test.YtfkidgpjejcblaaDoorJ5
import Derived.Lib.TrailingZeros
set_option linter.unusedVariables false
set_option linter.unusedSimpArgs false
set_option linter.unnecessarySimpa false
/- The program's Build and Right of towers. -/
namespace Go.Proofs.YtfkidgpjejcblaaDoor
open Go.BigFrame
open Go.RowKit Go.Proofs.YtfkidgpjejcblaaDoor.Plain

set_option maxHeartbeats 6400000 in
set_option maxRecDepth 100000 in
theorem pbuild14_any (tk hs : List Int) (A B : Option Addr) (c d : Nat) (w : World) (hA : Rd kInt w (.slice A tk.length c) tk) (hB : Rd kInt w (.slice B hs.length d) hs) :
    Calls Tryd.prog 8 #[.slice A tk.length c, .slice B hs.length d] w (TwSaid (buildP tk hs) w) := by
  have HA := Lib.hid hA
  have HB := Lib.hid hB
  have hfin : buildP tk hs = (noTw, 1) → ∀ W, Ext w W → TwSaid (buildP tk hs) w (.returned (.tuple #[towV none 0 0 none 0 0 none 0 0, .int .i64 1])) W := fun h W hW => by
    rw [h]; exact ⟨none, none, none, 0, 0, 0, rfl, Ow.nil _ _, Ow.nil _ _, Oww.nil _ _, hW⟩
  have HFIN := Lib.hid hfin
  have hno : ¬ mayB tk hs = true → buildP tk hs = (noTw, 1) := fun h => by unfold buildP; rw [if_neg h]
  have HX0 : Hid (Ext w (w.alloc (.cells #[.slice none 0 0, .slice none 0 0, .slice none 0 0] 27))) := Lib.hid ((Ext.refl w).alloc _)
  by_cases h0 : tk.length = 0
  · have e0 : ((tk.length : Int) == 0) = true := by rw [beq_iff_eq]; omega
    have HR := Lib.hid (hno (by rw [mayB_iff]; exact fun h => h.2.1 h0))
    clear hfin hno h0 hA hB
    go_enter Tryd.func8, Tryd.ntmps8
    go_wp2_with fail
    exact bodyPost_ret (v := .tuple #[towV none 0 0 none 0 0 none 0 0, .int .i64 1]) (by simp [results, Tryd.results8, go_sem]) rfl (by first | exact HFIN.out HR.out _ HX0.out | exact HFIN.out HR.out _ (((HX0.out.setCell (p := ⟨w.heap.size, 0, none⟩) (Nat.le_refl _) _).setCell (p := ⟨w.heap.size, 1, none⟩) (Nat.le_refl _) _).setCell (p := ⟨w.heap.size, 2, none⟩) (Nat.le_refl _) _))
  have e0 : ((tk.length : Int) == 0) = false := by rw [beq_eq_false_iff_ne]; omega
  by_cases h1 : ¬ tk.length = hs.length
  · have e1 : ((tk.length : Int) != (hs.length : Int)) = true := by rw [bne_iff_ne]; omega
    have HR := Lib.hid (hno (by rw [mayB_iff]; exact fun h => h1 h.2.2.1.symm))
    clear hfin hno h0 h1 hA hB
    go_enter Tryd.func8, Tryd.ntmps8
    go_wp2_with fail
    exact bodyPost_ret (v := .tuple #[towV none 0 0 none 0 0 none 0 0, .int .i64 1]) (by simp [results, Tryd.results8, go_sem]) rfl (by first | exact HFIN.out HR.out _ HX0.out | exact HFIN.out HR.out _ (((HX0.out.setCell (p := ⟨w.heap.size, 0, none⟩) (Nat.le_refl _) _).setCell (p := ⟨w.heap.size, 1, none⟩) (Nat.le_refl _) _).setCell (p := ⟨w.heap.size, 2, none⟩) (Nat.le_refl _) _))
  have e1 : ((tk.length : Int) != (hs.length : Int)) = false := by rw [bne_eq_false_iff_eq]; omega
  have H1 := Lib.hid (Decidable.not_not.1 h1)
  clear hA hB h1
  go_enter Tryd.func8, Tryd.ntmps8
  go_wp2_with fail
  refine (prightN_any tk A c _ (HA.out.ext HX0.out)).mono ?_
  rintro ed w1 ⟨rfl, hE1⟩
  have p0 : w1.cell? ⟨w.heap.size, 0, none⟩ = some (.slice none 0 0) := Ext.cell hE1 (by go_simp)
  have p1 : w1.cell? ⟨w.heap.size, 1, none⟩ = some (.slice none 0 0) := Ext.cell hE1 (by go_simp)
  have p2 : w1.cell? ⟨w.heap.size, 2, none⟩ = some (.slice none 0 0) := Ext.cell hE1 (by go_simp)
  have pf : ∀ o, w1.frozen? ⟨w.heap.size, o, none⟩ = false := fun o => (Below.frozen hE1 (p := ⟨w.heap.size, o, none⟩) (by first | omega | (simp; omega) | simp)).trans (by go_simp)
  have HX1 := Lib.hid (HX0.out.trans hE1)
  have lz1 := hE1.size
  simp at lz1
  have n1 : w.heap.size < w1.heap.size := by omega
  clear hE1 HX0 lz1
  cases hr : rightL tk with
  | false =>
    have HR := Lib.hid (hno (by rw [mayB_iff]; exact fun h => by rw [h.1] at hr; cases hr))
    clear hfin hno h0 hr
    go_wp2_with fail
    exact bodyPost_ret (v := .tuple #[towV none 0 0 none 0 0 none 0 0, .int .i64 1]) (by simp [results, Tryd.results8, go_sem, p0, p1, p2]) rfl (HFIN.out HR.out _ (((HX1.out.setCell (p := ⟨w.heap.size, 0, none⟩) (Nat.le_refl _) _).setCell (p := ⟨w.heap.size, 1, none⟩) (Nat.le_refl _) _).setCell (p := ⟨w.heap.size, 2, none⟩) (Nat.le_refl _) _))
  | true =>
    go_wp2_with fail
    refine (pbounds14_any hs B d _ (HB.out.ext HX1.out)).mono ?_
    rintro ed w2 ⟨rfl, rfl⟩
    cases hb : hs.all hOk with
    | false =>
      have HR := Lib.hid (hno (by unfold mayB; rw [hb]; simp))
      clear hfin hno h0 hr hb
      go_wp2_with fail
      exact bodyPost_ret (v := .tuple #[towV none 0 0 none 0 0 none 0 0, .int .i64 1]) (by simp [results, Tryd.results8, go_sem, p0, p1, p2]) rfl (HFIN.out HR.out _ (((HX1.out.setCell (p := ⟨w.heap.size, 0, none⟩) (Nat.le_refl _) _).setCell (p := ⟨w.heap.size, 1, none⟩) (Nat.le_refl _) _).setCell (p := ⟨w.heap.size, 2, none⟩) (Nat.le_refl _) _))
    | true =>
      have hmay : mayB tk hs = true := by unfold mayB; rw [hb, hr, decide_eq_true h0, decide_eq_true H1.out.symm]; rfl
      have HTW : Hid (buildP tk hs = (twOf tk hs, 0)) := Lib.hid (by unfold buildP; rw [if_pos hmay])
      obtain ⟨m1, m2, m3, m4⟩ := (mayB_iff tk hs).1 hmay
      have m5 := ((rightL_iff _).1 m1).1
      have hh : ∀ j, j < hs.length → 1 ≤ hs.getD j 0 ∧ hs.getD j 0 ≤ 8 := fun j hj => m4 _ (ints_mem hj)
      have HH := Lib.hid hh
      have HMM : Hid (tk.length ≤ 1000 ∧ hs.length ≤ 1000 ∧ 1 ≤ hs.length) := Lib.hid ⟨by omega, by omega, by omega⟩
      clear hfin hno h0 hr hb hmay m1 m2 m3 m4 m5 hh
      go_wp2_with fail
      refine (cloneI _ tk w1 (HA.out.ext HX1.out) (by have := HMM.out; omega)).mono ?_
      rintro ed w2 ⟨A2, c2, rfl, hO2, hE2⟩
      have HO2 := Lib.hid hO2
      have HX2 := Lib.hid (HX1.out.trans hE2)
      have HE2 := Lib.hid hE2
      clear hO2 hE2
      go_wp2_with fail
      refine (cloneI _ hs w2 (HB.out.ext HX2.out) (by have := HMM.out; omega)).mono ?_
      rintro ed w3 ⟨B3, d3, rfl, hO3, hE3⟩
      have HO3 := Lib.hid hO3
      have HX3 := Lib.hid (HX2.out.trans hE3)
      have HE3 := Lib.hid hE3
      clear hO3 hE3
      go_wp2_with fail
      refine (plinked_any hs B hs.length d w3 (HB.out.ext HX3.out) rfl (by have := HMM.out; omega) (by have := HMM.out; omega) HH.out).mono ?_
      rintro ed w4 ⟨N, e, rfl, hO4, hE4⟩
      have hX4 := HE2.out.trans (HE3.out.trans hE4)
      have q0 := hX4.cell p0
      have q1 := hX4.cell p1
      have q2 := hX4.cell p2
      have qf : ∀ o, w4.frozen? ⟨w.heap.size, o, none⟩ = false := fun o => (Below.frozen hX4 (p := ⟨w.heap.size, o, none⟩) n1).trans (pf o)
      have hz2 := HE2.out.size
      have hz3 := HE3.out.size
      have s1 : Ow kInt w1.heap.size w4 (.slice A2 tk.length c2) tk := HO2.out.ext (HE3.out.trans hE4)
      have s2 : Ow kInt w1.heap.size w4 (.slice B3 hs.length d3) hs := (HO3.out.mono (by omega)).ext hE4
      have hlen9 : ((List.range hs.length).map (nextsP hs)).length = hs.length := by rw [List.length_map, List.length_range]
      have HTWO : Hid (twOf tk hs = ⟨tk, hs, (List.range hs.length).map (nextsP hs)⟩) := Lib.hid rfl
      obtain ⟨D, hD⟩ : ∃ D, (List.range hs.length).map (nextsP hs) = D := ⟨_, rfl⟩
      rw [hD] at hO4 hlen9 HTWO
      have s3 : Oww w1.heap.size w4 (.slice N hs.length e) D := hO4.mono (by omega)
      have HS := Lib.hid (And.intro s1 (And.intro s2 s3))
      have HX4 := Lib.hid (HX3.out.trans hE4)
      have HDL := Lib.hid hlen9
      have n4 : w.heap.size < w4.heap.size := by have := hX4.size; omega
      clear s1 s2 s3 hO4 hlen9 hD hE4 hX4 hz2 hz3 p0 p1 p2 pf
      go_wp2_with fail
      obtain ⟨s1, s2, s3⟩ := HS.out
      have e1' : Ow kInt w.heap.size (((w4.setCell ⟨w.heap.size, 0, none⟩ (.slice A2 tk.length c2)).setCell ⟨w.heap.size, 1, none⟩ (.slice B3 hs.length d3)).setCell ⟨w.heap.size, 2, none⟩ (.slice N hs.length e)) (.slice A2 tk.length c2) tk := (((s1.setBelow (p := ⟨w.heap.size, 0, none⟩) n1 _).setBelow (p := ⟨w.heap.size, 1, none⟩) n1 _).setBelow (p := ⟨w.heap.size, 2, none⟩) n1 _).mono (by omega)
      have e2' : Ow kInt w.heap.size (((w4.setCell ⟨w.heap.size, 0, none⟩ (.slice A2 tk.length c2)).setCell ⟨w.heap.size, 1, none⟩ (.slice B3 hs.length d3)).setCell ⟨w.heap.size, 2, none⟩ (.slice N hs.length e)) (.slice B3 hs.length d3) hs := (((s2.setBelow (p := ⟨w.heap.size, 0, none⟩) n1 _).setBelow (p := ⟨w.heap.size, 1, none⟩) n1 _).setBelow (p := ⟨w.heap.size, 2, none⟩) n1 _).mono (by omega)
      have e3' : Oww w.heap.size (((w4.setCell ⟨w.heap.size, 0, none⟩ (.slice A2 tk.length c2)).setCell ⟨w.heap.size, 1, none⟩ (.slice B3 hs.length d3)).setCell ⟨w.heap.size, 2, none⟩ (.slice N hs.length e)) (.slice N hs.length e) D := (((s3.setBelow (p := ⟨w.heap.size, 0, none⟩) n1 _).setBelow (p := ⟨w.heap.size, 1, none⟩) n1 _).setBelow (p := ⟨w.heap.size, 2, none⟩) n1 _).mono (by omega)
      have hXW := ((HX4.out.setCell (p := ⟨w.heap.size, 0, none⟩) (Nat.le_refl _) (.slice A2 tk.length c2)).setCell (p := ⟨w.heap.size, 1, none⟩) (Nat.le_refl _) (.slice B3 hs.length d3)).setCell (p := ⟨w.heap.size, 2, none⟩) (Nat.le_refl _) (.slice N hs.length e)
      obtain ⟨W, hW⟩ : ∃ W, (((w4.setCell ⟨w.heap.size, 0, none⟩ (.slice A2 tk.length c2)).setCell ⟨w.heap.size, 1, none⟩ (.slice B3 hs.length d3)).setCell ⟨w.heap.size, 2, none⟩ (.slice N hs.length e)) = W := ⟨_, rfl⟩
      have t0 : W.cell? ⟨w.heap.size, 0, none⟩ = some (.slice A2 tk.length c2) := by subst hW; go_simp
      have t1 : W.cell? ⟨w.heap.size, 1, none⟩ = some (.slice B3 hs.length d3) := by subst hW; go_simp
      have t2 : W.cell? ⟨w.heap.size, 2, none⟩ = some (.slice N hs.length e) := by subst hW; go_simp
      rw [hW] at e1' e2' e3' hXW ⊢
      clear hW q0 q1 q2 s1 s2 s3
      refine bodyPost_ret (v := .tuple #[towV A2 tk.length c2 B3 hs.length d3 N hs.length e, .int .i64 0]) (by simp [results, Tryd.results8, go_sem, t0, t1, t2]) rfl (by
        rw [HTW.out, HTWO.out]
        refine ⟨A2, B3, N, c2, d3, e, ?_, e1', e2', ?_, hXW⟩
        · show _ = Ending.returned (.tuple #[towV A2 tk.length c2 B3 hs.length d3 N D.length e, .int .i64 0])
          rw [HDL.out]
        · show Oww w.heap.size W (.slice N D.length e) D
          rw [HDL.out]; exact e3')

theorem Plain.rightTw_nx (t : Tw) : rightTw t = (decide ((buildP t.tokens t.heights).2 = 0) && decide (t.next = (buildP t.tokens t.heights).1.next)) := by
  rw [Bool.eq_iff_iff, rightTw_iff, Bool.and_eq_true, decide_eq_true_eq, decide_eq_true_eq]
  unfold buildP
  by_cases h : mayB t.tokens t.heights = true
  · rw [if_pos h]
    refine ⟨fun h2 => ⟨rfl, congrArg Tw.next h2.2⟩, fun h2 => ⟨h, ?_⟩⟩
    obtain ⟨tk, hs, nx⟩ := t
    have h3 : nx = (twOf tk hs).next := h2.2
    rw [h3]; rfl
  · rw [if_neg h]
    refine ⟨fun h2 => absurd h2.1 h, fun h2 => absurd h2.1 (by decide)⟩
theorem Plain.built_rows (tk hs : List Int) : ∀ j, j < (buildP tk hs).1.next.length → ((buildP tk hs).1.next.getD j []).length ≤ 1048576 := by
  intro j hj
  unfold buildP at hj ⊢
  by_cases h : mayB tk hs = true
  · rw [if_pos h] at hj ⊢
    obtain ⟨m1, m2, m3, m4⟩ := (mayB_iff tk hs).1 h
    have hj' : j < hs.length := by simpa [twOf] using hj
    have : (twOf tk hs).next.getD j [] = nextsP hs j := by
      show ((List.range hs.length).map (nextsP hs)).getD j [] = _
      rw [List.getD_eq_getElem?_getD, List.getElem?_map, List.getElem?_range hj']; rfl
    rw [this, nextsP_len]
    have := m4 _ (ints_mem hj')
    omega
  · rw [if_neg h] at hj
    exact absurd hj (Nat.not_lt_zero _)
set_option maxHeartbeats 3200000 in
set_option maxRecDepth 100000 in
theorem pright14_any (t : Tw) (A B N : Option Addr) (c d e : Nat) (w : World) (h : TwR w t A B N c d e) :
    Calls Tryd.prog 17 #[towV A t.tokens.length c B t.heights.length d N t.next.length e] w fun ed w' => ed = .returned (.bool (rightTw t)) ∧ Ext w w' := by
  have hrt := rightTw_nx t
  have her := build_er t.tokens t.heights
  have hrw := built_rows t.tokens t.heights
  obtain ⟨tk, hs, nx⟩ := t
  obtain ⟨h1, h2, h3⟩ := h
  simp only at h1 h2 h3 hrt her hrw ⊢
  have H1 := Lib.hid h1
  have H2 := Lib.hid h2
  have H3 := Lib.hid h3
  have HX0 : Hid (Ext w (w.alloc (.cells #[.slice A tk.length c, .slice B hs.length d, .slice N nx.length e] 27))) := Lib.hid ((Ext.refl w).alloc _)
  obtain ⟨⟨⟨b1, b2, b3⟩, er⟩, hb⟩ : ∃ r, buildP tk hs = r := ⟨_, rfl⟩
  rw [hb] at hrt her hrw
  simp only at hrt her hrw
  have HBD := Lib.hid hb
  have HRW := Lib.hid hrw
  clear h1 h2 h3 hb hrw
  rw [hrt]
  obtain ⟨q, hq⟩ : ∃ q, decide (nx = b3) = q := ⟨_, rfl⟩
  rw [hq]
  have HQ := Lib.hid hq
  clear hq hrt
  go_enter Tryd.func17, Tryd.ntmps17
  go_wp2_with fail
  refine (pbuild14_any tk hs A B c d _ (H1.out.ext HX0.out) (H2.out.ext HX0.out)).mono ?_
  rw [HBD.out]
  rintro ed w1 ⟨A1, B1, N1, c1, d1, e1, rfl, hA1, hB1, hN1, hE1⟩
  simp only at hA1 hB1 hN1 ⊢
  have p0 : w1.cell? ⟨w.heap.size, 0, none⟩ = some (.slice A tk.length c) := Ext.cell hE1 (by go_simp)
  have p1 : w1.cell? ⟨w.heap.size, 1, none⟩ = some (.slice B hs.length d) := Ext.cell hE1 (by go_simp)
  have p2 : w1.cell? ⟨w.heap.size, 2, none⟩ = some (.slice N nx.length e) := Ext.cell hE1 (by go_simp)
  have pf : ∀ o, w1.frozen? ⟨w.heap.size, o, none⟩ = false := fun o => (Below.frozen hE1 (p := ⟨w.heap.size, o, none⟩) (by first | omega | (simp; omega) | simp)).trans (by go_simp)
  have lz1 := hE1.size
  simp at lz1
  have n1 : w.heap.size < w1.heap.size := by omega
  have HX1 := Lib.hid (HX0.out.trans hE1)
  have HN1 := Lib.hid hN1.rdd
  clear hE1 lz1 HX0 hA1 hB1 hN1
  rcases her with rfl | rfl
  · go_wp2_with fail
    refine (equalF nx b3 N N1 e e1 _ (H3.out.ext (HX1.out.trans ((Ext.refl _).alloc _))) (HN1.out.ext ((Ext.refl _).alloc _)) HRW.out).mono ?_
    rw [HQ.out]
    rintro ed w2 ⟨rfl, hE2⟩
    have HX2 := Lib.hid (HX1.out.trans (((Ext.refl w1).alloc (.cells #[.slice A1 b1.length c1, .slice B1 b2.length d1, .slice N1 b3.length e1] 27)).trans hE2))
    clear hE2
    go_wp2_with fail
    go_ret
    exact ⟨ret_bool (by first | rfl | simp), HX2.out⟩
  · go_wp2_with fail
    go_ret
    exact ⟨ret_bool (by first | rfl | simp), HX1.out.alloc _⟩
end Go.Proofs.YtfkidgpjejcblaaDoor

/- The program's coin (At, Height, by the library's table of 32 bytes), and tower's heightOf, Heights. -/
namespace Go.Proofs.YtfkidgpjejcblaaDoor
open Go.BigFrame
open Go.RowKit Go.Proofs.YtfkidgpjejcblaaDoor.Plain

/-- the library's table of 32 bytes, in its variable -/
def Tab (w : World) : Prop := ∀ j, j < 32 → w.cell? ⟨0, j, none⟩ = some (.int .u8 (Lib.deBruijn32tab.getD j 0))
theorem Ext.tab {w W : World} (h : Ext w W) (hT : Tab w) : Tab W := fun j hj => h.cell (hT j hj)
theorem Plain.ctz_zero (x : Nat) (i : Nat) (hx : x < 4294967296) (hi : i < Lib.ctz 32 x) : x / 2 ^ i % 2 = 0 := by
  by_cases h0 : x = 0
  · subst h0; simp
  · obtain ⟨m, hm, hk⟩ := Lib.ctzFrom_spec 32 x (by omega) hx
    have e : Lib.ctz 32 x = Lib.ctzFrom 32 x := by simp [Lib.ctz, h0]
    rw [e] at hi
    obtain ⟨d, hd⟩ : ∃ d, Lib.ctzFrom 32 x = i + (d + 1) := ⟨Lib.ctzFrom 32 x - i - 1, by omega⟩
    rw [hd, Nat.pow_add, Nat.mul_assoc] at hm
    rw [hm, Nat.mul_div_cancel_left _ (Nat.two_pow_pos _), Nat.pow_succ]
    rw [show 2 ^ d * 2 * (2 * m + 1) = 2 * (2 ^ d * (2 * m + 1)) from by rw [Nat.mul_comm (2 ^ d) 2, Nat.mul_assoc]]
    exact Nat.mul_mod_right _ _
theorem Plain.ctz_one (x : Nat) (hx : x < 4294967296) (h0 : x ≠ 0) : x / 2 ^ (Lib.ctz 32 x) % 2 = 1 := by
  obtain ⟨m, hm, hk⟩ := Lib.ctzFrom_spec 32 x (by omega) hx
  have e : Lib.ctz 32 x = Lib.ctzFrom 32 x := by simp [Lib.ctz, h0]
  rw [e]
  generalize Lib.ctzFrom 32 x = c at *
  rw [hm, Nat.mul_div_cancel_left _ (Nat.two_pow_pos _)]
  omega
theorem Plain.height_ctz (x : Nat) (hx : x < 4294967296) : heightN x = min (Lib.ctz 32 x + 1) 8 := by
  by_cases h : Lib.ctz 32 x + 1 ≤ 8
  · rw [Nat.min_eq_left h]
    refine height_of x _ (by omega) h (fun j hj => ctz_zero x j hx (by omega)) (fun h8 => ?_)
    rw [Nat.add_sub_cancel]
    refine ctz_one x hx (fun e => ?_)
    rw [e] at h8
    exact absurd h8 (by decide)
  · rw [Nat.min_eq_right (by omega)]
    exact height_of x 8 (by decide) (Nat.le_refl _) (fun j hj => ctz_zero x j hx (by omega)) (fun h8 => absurd h8 (by decide))

set_option maxHeartbeats 400000 in
theorem tz_core (x k idx : Nat) (w : World) (hx0 : ((x : Int) == 0) = false)
    (key : bits BinOp.and IntKind.u32 (x : Int) (-(x : Int) % 4294967296) * 125613361 % 4294967296 / 134217728 = (idx : Int))
    (hi : idx < 32) (hk : k < 32) (hcell : w.cell? ⟨0, idx, none⟩ = some (.int .u8 k)) :
    Calls Tryd.prog 40 #[.int .u32 x] w fun e w' => e = .returned (.int .i64 k) ∧ w = w' := by
  go_enter Tryd.func40, Tryd.ntmps40
  go_wp2_with (simp only [key])
  go_ret
  exact ⟨rfl, rfl⟩
theorem tz_zero (w : World) : Calls Tryd.prog 40 #[.int .u32 0] w fun e w' => e = .returned (.int .i64 32) ∧ w = w' := by
  go_enter Tryd.func40, Tryd.ntmps40
  go_wp2
  go_ret
  exact ⟨rfl, rfl⟩
theorem tz_key (x a : Nat) (hx : x < 4294967296) (hx0 : x ≠ 0) (hlow : x &&& (4294967296 - x) = a) :
    bits BinOp.and IntKind.u32 (x : Int) (-(x : Int) % 4294967296) * 125613361 % 4294967296 / 134217728 = ((a * 125613361 % 4294967296 / 134217728 : Nat) : Int) := by
  have e1 : -(x : Int) % 4294967296 = ((4294967296 - x : Nat) : Int) := by omega
  rw [e1, u32_and_nat x _ hx (by omega), hlow]
  omega
theorem tz_any (x : Nat) (w : World) (hx : x < 4294967296) (hT : Tab w) :
    Calls Tryd.prog 40 #[.int .u32 x] w fun e w' => e = .returned (.int .i64 (Lib.ctz 32 x)) ∧ w = w' := by
  by_cases hx0 : x = 0
  · subst hx0
    exact tz_zero w
  · obtain ⟨hlow, hk⟩ := Lib.lowest_bit 32 x hx0 (by omega)
    obtain ⟨hi, htab⟩ := Lib.deBruijn32_at _ hk
    have hcell := hT _ hi
    rw [htab] at hcell
    exact tz_core x _ _ w (by simp; omega) (tz_key x _ (by omega) hx0 hlow) hi hk hcell
set_option maxHeartbeats 400000 in
theorem pheight01_any (x : Nat) (w : World) (hx : x < 4294967296) (hT : Tab w) :
    Calls Tryd.prog 36 #[.int .u32 x] w fun e w' => e = .returned (.int .i64 (heightN x : Nat)) ∧ w = w' := by
  have T := tz_any x w hx hT; clear hT
  have hc : Lib.ctz 32 x ≤ 32 := by
    by_cases h0 : x = 0
    · simp [Lib.ctz, h0]
    · exact Nat.le_of_lt (Lib.lowest_bit 32 x h0 (by omega)).2
  rw [height_ctz x hx]
  generalize Lib.ctz 32 x = c at *
  have H := Lib.hid T; clear T
  by_cases h8 : c + 1 ≤ 8
  · go_enter Tryd.func36, Tryd.ntmps36
    go_wp2_with (go_at_call 40; refine (H.out).mono ?_; rintro e w' ⟨rfl, rfl⟩)
    go_ret
    exact ⟨ret_int (by omega), rfl⟩
  · go_enter Tryd.func36, Tryd.ntmps36
    go_wp2_with (go_at_call 40; refine (H.out).mono ?_; rintro e w' ⟨rfl, rfl⟩)
    go_ret
    exact ⟨ret_int (by omega), rfl⟩
set_option maxHeartbeats 1600000 in
set_option maxRecDepth 100000 in
theorem pat01_any (s : List Nat) (S : Option Addr) (sc : Nat) (i : Int) (w : World) (hS : Rd kU32 w (.slice S s.length sc) (zs s)) (hi : in64 i) :
    Calls Tryd.prog 37 #[.slice S s.length sc, .int .i64 i] w fun ed w' => (ed = .returned (.int .u32 (wordP s i : Nat)) ∧ wordP s i < 4294967296) ∧ w = w' := by
  have HS := Lib.hid hS
  have hm := hS.len
  rw [zs_len] at hm
  clear hS
  by_cases h1 : i < 0
  · have hd1 : decide (i < 0) = true := decide_eq_true h1
    have HR : Hid (wordP s i = 0) := Lib.hid (by unfold wordP; rw [if_pos (.inl h1)])
    rw [HR.out]
    go_enter Tryd.func37, Tryd.ntmps37
    go_wp2_with fail
    go_ret
    exact ⟨⟨ret_int rfl, by decide⟩, rfl⟩
  have hd1 : decide (i < 0) = false := decide_eq_false h1
  by_cases h2 : s.length = 0
  · have e1 : ((s.length : Int) == 0) = true := by rw [beq_iff_eq]; omega
    have HR : Hid (wordP s i = 0) := Lib.hid (by unfold wordP; rw [if_pos (.inr h2)])
    rw [HR.out]
    clear h2
    go_enter Tryd.func37, Tryd.ntmps37
    go_wp2_with fail
    go_ret
    first | exact ⟨⟨ret_int rfl, by decide⟩, rfl⟩ | exact ⟨ret_int rfl, rfl⟩ | rfl | trace_state
  have e1 : ((s.length : Int) == 0) = false := by rw [beq_eq_false_iff_ne]; omega
  have hq : i.toNat % s.length < s.length := Nat.mod_lt _ (by omega)
  have HR : Hid (wordP s i = s.getD (i.toNat % s.length) 0) := Lib.hid (by unfold wordP; rw [if_neg (by omega)])
  have hqI : i.tmod (s.length : Int) = ((i.toNat % s.length : Nat) : Int) := by
    rw [Int.tmod_eq_emod_of_nonneg (by omega), Int.natCast_emod, Int.toNat_of_nonneg (by omega)]
  obtain ⟨q, hqx⟩ : ∃ q, i.toNat % s.length = q := ⟨_, rfl⟩
  rw [hqx] at hq HR hqI
  obtain ⟨bs, os, rfl, z0, hzl⟩ := u32_at HS.out q hq
  obtain ⟨v, hv⟩ : ∃ v, s.getD q 0 = v := ⟨_, rfl⟩
  rw [hv] at z0 hzl HR
  rw [HR.out]
  have HZ := Lib.hid hzl
  have hwq : IntKind.i64.wrap (q : Int) = q := IntWalk.i64_in _ (by omega)
  have hsne : (s.length : Int) ≠ 0 := by omega
  have hsnl : s ≠ [] := fun e => h2 (by rw [e]; rfl)
  have hq0 : (0 : Int) ≤ q := by omega
  have hq1 : (q : Int) < s.length := by omega
  have lbs : bs < w.heap.size := World.block_lt_of_cell? _ _ z0
  clear hqx hv hzl h2
  go_enter Tryd.func37, Tryd.ntmps37
  go_wp2_with fail
  go_ret
  exact ⟨⟨ret_int rfl, HZ.out⟩, rfl⟩
set_option maxHeartbeats 3200000 in
set_option maxRecDepth 100000 in
theorem pheightOf_any (x : Int) (s : List Nat) (S : Option Addr) (sc : Nat) (w : World) (hx : in64 x) (hS : Rd kU32 w (.slice S s.length sc) (zs s)) (hT : Tab w) :
    Calls Tryd.prog 25 #[.int .i64 x, .slice S s.length sc] w fun e w' => e = .returned (.int .i64 (htP s x)) ∧ w = w' := by
  by_cases h0 : 0 ≤ x
  · have hd : decide (x < 0) = false := decide_eq_false (by omega)
    have HR : Hid (htP s x = (heightN (wordP s x) : Nat)) := Lib.hid (by unfold htP; rw [if_pos h0])
    have H1 := Lib.hid (pat01_any s S sc x w hS hx)
    clear hS hx h0
    go_enter Tryd.func25, Tryd.ntmps25
    go_wp2_with fail
    refine H1.out.mono ?_
    rintro ed w1 ⟨⟨rfl, hal⟩, rfl⟩
    have H2 := Lib.hid (pheight01_any (wordP s x) w hal hT)
    obtain ⟨g, hg⟩ : ∃ g, heightN (wordP s x) = g := ⟨_, rfl⟩
    rw [hg] at HR H2
    obtain ⟨aw, haw⟩ : ∃ aw, wordP s x = aw := ⟨_, rfl⟩
    rw [haw] at H2 ⊢
    clear hg haw hal
    go_wp2_with fail
    refine H2.out.mono ?_
    rintro ed w1 ⟨rfl, rfl⟩
    go_wp2_with fail
    go_ret
    exact ⟨ret_int HR.out.symm, rfl⟩
  · have hd : decide (x < 0) = true := decide_eq_true (by omega)
    have HR : Hid (htP s x = 1) := Lib.hid (by unfold htP; rw [if_neg h0])
    go_enter Tryd.func25, Tryd.ntmps25
    go_wp2_with fail
    go_ret
    exact ⟨ret_int HR.out.symm, rfl⟩
theorem Plain.ht_bd (s : List Nat) (x : Int) : in64 (htP s x) := by
  unfold htP
  by_cases h : 0 ≤ x
  · rw [if_pos h]
    have := height_bd (wordP s x)
    exact in64_nat _ (by omega)
  · rw [if_neg h]; decide
theorem Plain.map_set_take (f : Int → Int) (l : List Int) (k : Nat) (hk : k < l.length) : ((l.take k).map f ++ List.replicate (l.length - k) 0).set k (f (l.getD k 0)) = (l.take (k + 1)).map f ++ List.replicate (l.length - (k + 1)) 0 := by
  have e : l.length - k = (l.length - (k + 1)) + 1 := by omega
  rw [ints_take hk, List.map_append, e, List.replicate_succ, List.set_append_right _ _ (by rw [List.length_map, List.length_take]; omega), List.length_map, List.length_take, Nat.min_eq_left (by omega), Nat.sub_self]
  simp
set_option maxHeartbeats 3200000 in
set_option maxRecDepth 100000 in
theorem pheights14_any (l : List Int) (s : List Nat) (L S : Option Addr) (lc sc : Nat) (w : World) (hL : Rd kInt w (.slice L l.length lc) l) (hS : Rd kU32 w (.slice S s.length sc) (zs s)) (hl : l.length ≤ 100000) (hT : Tab w) :
    Calls Tryd.prog 12 #[.slice L l.length lc, .slice S s.length sc] w (LsSaid (l.map (htP s)) w) := by
  have HL := Lib.hid hL
  have HS := Lib.hid hS
  have HT := Lib.hid hT
  have hl' : (l.length : Int) ≤ 100000 := by omega
  obtain ⟨C, hmk, hmown⟩ := kInt.make 0 rfl (show in64 0 by decide) l.length (by omega)
  have HM := Lib.hid (hmown w w.heap.size w.heap.size rfl (Nat.le_refl _))
  have hmk2 : ∀ w : World, (Instr.makeSlice 22 (.int .i64 l.length) (.int .i64 l.length)).run Tryd.prog w = .ok (.slice (some ⟨w.heap.size, 0, none⟩) l.length l.length) (w.alloc (.cells C 3)) := hmk
  clear hL hS hT hmk hmown
  go_enter Tryd.func12, Tryd.ntmps12
  go_wp2_with fail
  have HXA : Hid (Ext w (w.alloc (.cells C 3))) := Lib.hid ((Ext.refl _).alloc _)
  obtain ⟨W0, hW0⟩ : ∃ W0, w.alloc (.cells C 3) = W0 := ⟨_, rfl⟩
  have hM := HM.out
  have hXA := HXA.out
  rw [show (w.alloc (.cells C kInt.e)) = W0 from hW0] at hM
  rw [hW0] at hXA ⊢
  have HMO := Lib.hid hM
  have HX := Lib.hid hXA
  obtain ⟨G, hG⟩ : ∃ G, w.heap.size = G := ⟨_, rfl⟩
  rw [hG] at HMO ⊢
  have HG := Lib.hid hG
  clear hmk2 hW0 hM hXA HM HXA hG
  go_loopw [13] (fun i wr => ∃ k : Nat, k ≤ l.length ∧ i = .int .i64 k ∧ Ow kInt G wr (.slice (some ⟨G, 0, none⟩) l.length l.length) ((l.take k).map (htP s) ++ List.replicate (l.length - k) 0) ∧ Ext w wr) (fun i _ => l.length - (intOf i).toNat)
  case atStart => exact ⟨0, Nat.zero_le _, rfl, by simpa using HMO.out, HX.out⟩
  case round =>
    obtain ⟨k, hk, rfl, hO, hX⟩ := hrel
    have HO := Lib.hid hO
    have HXR := Lib.hid hX
    have hk0 : (0 : Int) ≤ k := by omega
    clear hO hX
    by_cases hlt : k < l.length
    · have hlt' : (k : Int) < l.length := by omega
      obtain ⟨bl, ol, rfl, hcl⟩ := (ints_of_rd (HL.out.ext HXR.out)).cells (by omega)
      have z0 := hcl k hlt
      have hok : in64 (l.getD k 0) := HL.out.okAt k hlt
      have hset := map_set_take (htP s) l k hlt
      have hyl : ((l.take k).map (htP s) ++ List.replicate (l.length - k) 0).length = l.length := by rw [List.length_append, List.length_map, List.length_take, List.length_replicate]; omega
      obtain ⟨x, hx⟩ : ∃ x, l.getD k 0 = x := ⟨_, rfl⟩
      rw [hx] at z0 hok hset
      have HH := Lib.hid (pheightOf_any x s S sc wr hok (HS.out.ext HXR.out) (HXR.out.tab HT.out))
      have HB := Lib.hid (ht_bd s x)
      obtain ⟨h, hh⟩ : ∃ h, htP s x = h := ⟨_, rfl⟩
      rw [hh] at HH hset HB
      have hst := HO.out.setZ (u := k) (v := h) (by rw [hyl]; exact hlt) HB.out
      obtain ⟨a1, a2, a3, a4⟩ := HO.out.atZ (u := k) (by rw [hyl]; exact hlt)
      rw [hset] at hst
      have HST := Lib.hid hst
      have hGw : w.heap.size ≤ G := by have := HG.out; omega
      clear hcl hx hok hset hyl hh hst
      go_wp2_with (go_at_call 25; refine HH.out.mono ?_; rintro ed w1 ⟨rfl, rfl⟩)
      go_roundw
      case rel => exact ⟨k + 1, by omega, by go_num, HST.out, HXR.out.setCell (p := ⟨G, k, none⟩) hGw _⟩
      case measure => simp [intOf]; omega
    · obtain rfl : k = l.length := by omega
      have hO := HO.out
      rw [List.take_length, Nat.sub_self, List.replicate_zero, List.append_nil] at hO
      have HF := Lib.hid hO
      clear hO
      go_wp2_with fail
      exact bodyPost_ret (v := .slice (some ⟨G, 0, none⟩) l.length l.length) (by simp [results, Tryd.results12, go_sem]) rfl ⟨some ⟨G, 0, none⟩, l.length, by rw [List.length_map], by rw [List.length_map, HG.out]; exact HF.out, HXR.out⟩
end Go.Proofs.YtfkidgpjejcblaaDoor

/- The program's Head, Level, Walk, Same of towers. (Made out of the document's T14C, T14L, T14W by program, then by hand.) -/
namespace Go.Proofs.YtfkidgpjejcblaaDoor
open Go.BigFrame
open Go.RowKit Go.Proofs.YtfkidgpjejcblaaDoor.Plain

theorem Plain.most_in {l : List Int} (h : l ≠ []) : mostL l ∈ l ∧ ∀ x ∈ l, x ≤ mostL l := by
  have key : ∀ (l : List Int) (a : Int), (l.foldl max a = a ∨ l.foldl max a ∈ l) ∧ a ≤ l.foldl max a ∧ ∀ x ∈ l, x ≤ l.foldl max a := by
    intro l
    induction l with
    | nil => intro a; exact ⟨.inl rfl, Int.le_refl _, fun x hx => by cases hx⟩
    | cons y t ih =>
      intro a
      obtain ⟨h1, h2, h3⟩ := ih (max a y)
      rw [List.foldl_cons]
      refine ⟨?_, by omega, fun x hx => ?_⟩
      · rcases h1 with h1 | h1
        · rw [h1]
          by_cases hy : a ≤ y
          · right; rw [Int.max_eq_right hy]; simp
          · left; omega
        · right; exact List.mem_cons_of_mem _ h1
      · rcases List.mem_cons.1 hx with rfl | hx
        · omega
        · exact h3 x hx
  obtain ⟨a, t, rfl⟩ := List.exists_cons_of_ne_nil h
  obtain ⟨h1, h2, h3⟩ := key (a :: t) a
  unfold mostL
  rw [List.headD_cons]
  refine ⟨?_, h3⟩
  rcases h1 with h1 | h1
  · rw [h1]; simp
  · exact h1
theorem Plain.most_head {hs : List Int} (h : hs.length ≠ 0) : headF hs hs.length < hs.length ∧ mostL hs = hs.getD (headF hs hs.length) 0 ∧ placeP hs (mostL hs) = (headF hs hs.length : Nat) := by
  obtain ⟨f1, f2, f3⟩ := headF_good hs hs.length (Nat.le_refl _)
  have hne : hs ≠ [] := fun e => h (by rw [e]; rfl)
  obtain ⟨m1, m2⟩ := most_in hne
  have hlt : headF hs hs.length < hs.length := by rcases f1 with f1 | f1 <;> omega
  have he : mostL hs = hs.getD (headF hs hs.length) 0 := by
    obtain ⟨j, hj, e⟩ := List.getElem_of_mem m1
    have h1 := f2 j hj
    rw [List.getD_eq_getElem?_getD, List.getElem?_eq_getElem hj, Option.getD_some, e] at h1
    have h2 := m2 _ (ints_mem hlt)
    omega
  refine ⟨hlt, he, ?_⟩
  rw [he]
  refine (place_is (fun hm => ?_) hlt rfl).1
  obtain ⟨j, hj, e⟩ := List.getElem_of_mem hm
  rw [List.length_take] at hj
  rw [List.getElem_take] at e
  have h1 := f3 j (by omega)
  rw [List.getD_eq_getElem?_getD, List.getElem?_eq_getElem (by omega), Option.getD_some, e] at h1
  omega
set_option maxHeartbeats 3200000 in
set_option maxRecDepth 100000 in
theorem phead14_any (t : Tw) (A B N : Option Addr) (c d e : Nat) (w : World) (h : TwR w t A B N c d e) :
    Calls Tryd.prog 15 #[towV A t.tokens.length c B t.heights.length d N t.next.length e] w fun ed w' => ed = .returned (.int .i64 (headP t)) ∧ Ext w w' := by
  have HT := Lib.hid h
  have HH : Hid (headP t = if rightTw t = true then ((headF t.heights t.heights.length : Nat) : Int) else -1) := Lib.hid rfl
  have HRF := Lib.hid (fun h => right_facts (t := t) h)
  have HX0 : Hid (Ext w (w.alloc (.cells #[.slice A t.tokens.length c, .slice B t.heights.length d, .slice N t.next.length e] 27))) := Lib.hid ((Ext.refl w).alloc _)
  have HB := Lib.hid h.hts
  clear h
  go_enter Tryd.func15, Tryd.ntmps15
  go_wp2_with fail
  refine (pright14_any t A B N c d e _ (HT.out.ext HX0.out)).mono ?_
  rintro ed w1 ⟨rfl, hE1⟩
  have p0 : w1.cell? ⟨w.heap.size, 0, none⟩ = some (.slice A t.tokens.length c) := Ext.cell hE1 (by go_simp)
  have p1 : w1.cell? ⟨w.heap.size, 1, none⟩ = some (.slice B t.heights.length d) := Ext.cell hE1 (by go_simp)
  have p2 : w1.cell? ⟨w.heap.size, 2, none⟩ = some (.slice N t.next.length e) := Ext.cell hE1 (by go_simp)
  have pf : ∀ o, w1.frozen? ⟨w.heap.size, o, none⟩ = false := fun o => (Below.frozen hE1 (p := ⟨w.heap.size, o, none⟩) (by first | omega | (simp; omega) | simp)).trans (by go_simp)
  have lz1 := hE1.size
  simp at lz1
  have n1 : w.heap.size < w1.heap.size := by omega
  have HX1 := Lib.hid (HX0.out.trans hE1)
  clear hE1 lz1 HX0
  cases hr : rightTw t with
  | false =>
    have HR : Hid (headP t = -1) := Lib.hid (by rw [HH.out, hr]; rfl)
    clear hr HH
    go_wp2_with fail
    go_ret
    exact ⟨ret_int (by rw [HR.out]), HX1.out⟩
  | true =>
    obtain ⟨g1, g2, g3, _, _⟩ := HRF.out hr
    obtain ⟨hs, hhs⟩ : ∃ hs, t.heights = hs := ⟨_, rfl⟩
    have HR : Hid (headP t = ((headF hs hs.length : Nat) : Int)) := Lib.hid (by rw [HH.out, hr, if_pos rfl, hhs])
    clear HH
    rw [hhs] at HB g1 g2 g3 p1 ⊢
    have hn9 : (hs.length : Int) ≤ 1000 := by omega
    have HHS := Lib.hid hhs
    clear hr HRF g2 hhs
    obtain ⟨f1, f2, f3⟩ := most_head (hs := hs) g3
    have HM0 := Lib.hid (fun w' (hE : Ext w1 w') => maxI hs B d w' (HB.out.ext (HX1.out.trans hE)) (fun e => g3 (by rw [e]; rfl)) (by omega))
    have HI0 := Lib.hid (fun w' (hE : Ext w1 w') => indexI hs B d (mostL hs) w' (HB.out.ext (HX1.out.trans hE)))
    obtain ⟨m, hm⟩ : ∃ m, mostL hs = m := ⟨_, rfl⟩
    obtain ⟨g, hg⟩ : ∃ g, headF hs hs.length = g := ⟨_, rfl⟩
    rw [hm] at f3 HM0 HI0
    rw [hg] at f3 HR
    rw [f3] at HI0
    have HF1 : Hid (∀ w', Ext w1 w' → Calls Tryd.prog 29 #[.slice B hs.length d] w' fun ed w'' => ed = .returned (.int .i64 m) ∧ Ext w1 w'') := Lib.hid fun w' hE => (HM0.out w' hE).mono fun ed w'' h => ⟨h.1, by rw [← h.2]; exact hE⟩
    have HF2 : Hid (∀ w', Ext w1 w' → Calls Tryd.prog 28 #[.slice B hs.length d, .int .i64 m] w' fun ed w'' => ed = .returned (.int .i64 g) ∧ Ext w1 w'') := Lib.hid fun w' hE => (HI0.out w' hE).mono fun ed w'' h => ⟨h.1, by rw [← h.2]; exact hE⟩
    have KS : Hid (∀ w', Ext w1 w' → w'.cell? ⟨w.heap.size, 1, none⟩ = some (.slice B hs.length d) ∧ True) := Lib.hid (fun w' hE => ⟨hE.cell p1, trivial⟩)
    clear f1 f2 f3 HM0 HI0 hm hg g3
    go_wp2_with fail
    refine wp_region_class (Ext w1) (by kernel_rfl) (by kernel_rfl) (Ext.refl _).drew ?_
    try simp only [List.append_eq, List.cons_append, List.nil_append]
    repeat (first
      | go_big_quiet_skip
      | (go_big_quiet_want
         first
         | (go_big_quiet_op; go_big_quiet_on)
         | (unfold Oper.quiet
            apply Exists.intro
            refine ⟨fun w' hC => ?_, ?_⟩
            · (obtain ⟨k1, k2⟩ := KS.out w' hC
               unfold Oper.quietAt
               go_simp
               first
               | exact rfl
               | (with_reducible exact HF1.out w' hC)
               | (with_reducible exact HF2.out w' hC))
            go_simp
            go_big_quiet_on)
         | (go_big_quiet_op
            apply Exists.intro
            refine ⟨fun w' hC => ?_, ?_⟩
            · exact HF1.out w' hC
            go_big_quiet_on)
         | (go_big_quiet_op
            apply Exists.intro
            refine ⟨fun w' hC => ?_, ?_⟩
            · exact HF2.out w' hC
            go_big_quiet_on)))
    refine wpQuiet_nil ?_
    intro w9 hC9
    go_wp2_with fail
    go_ret
    exact ⟨ret_int (by rw [HR.out]), HX1.out.trans hC9⟩
set_option maxHeartbeats 3200000 in
set_option maxRecDepth 100000 in
theorem plevel14_any (t : Tw) (level : Int) (A B N : Option Addr) (c d e : Nat) (w : World) (h : TwR w t A B N c d e) :
    Calls Tryd.prog 14 #[towV A t.tokens.length c B t.heights.length d N t.next.length e, .int .i64 level] w (LsSaid (levelP t level) w) := by
  have HT := Lib.hid h
  have HH : Hid (levelP t level = if rightTw t = true then levelF t.heights level else []) := Lib.hid rfl
  have HRF := Lib.hid (fun h => right_facts (t := t) h)
  have HX0 : Hid (Ext w (w.alloc (.cells #[.slice A t.tokens.length c, .slice B t.heights.length d, .slice N t.next.length e] 27))) := Lib.hid ((Ext.refl w).alloc _)
  have HB := Lib.hid h.hts
  clear h
  go_enter Tryd.func14, Tryd.ntmps14
  go_wp2_with fail
  refine (pright14_any t A B N c d e _ (HT.out.ext HX0.out)).mono ?_
  rintro ed w1 ⟨rfl, hE1⟩
  have p0 : w1.cell? ⟨w.heap.size, 0, none⟩ = some (.slice A t.tokens.length c) := Ext.cell hE1 (by go_simp)
  have p1 : w1.cell? ⟨w.heap.size, 1, none⟩ = some (.slice B t.heights.length d) := Ext.cell hE1 (by go_simp)
  have p2 : w1.cell? ⟨w.heap.size, 2, none⟩ = some (.slice N t.next.length e) := Ext.cell hE1 (by go_simp)
  have pf : ∀ o, w1.frozen? ⟨w.heap.size, o, none⟩ = false := fun o => (Below.frozen hE1 (p := ⟨w.heap.size, o, none⟩) (by first | omega | (simp; omega) | simp)).trans (by go_simp)
  have lz1 := hE1.size
  simp at lz1
  have n1 : w.heap.size < w1.heap.size := by omega
  have HX1 := Lib.hid (HX0.out.trans hE1)
  clear hE1 lz1 HX0
  cases hr : rightTw t with
  | false =>
    have HR : Hid (levelP t level = []) := Lib.hid (by rw [HH.out, hr]; rfl)
    clear hr HH
    go_wp2_with fail
    exact bodyPost_ret (v := .slice none 0 0) (by simp [results, Tryd.results14, go_sem]) rfl (by rw [HR.out]; exact ⟨none, 0, rfl, Ow.nil _ _, HX1.out⟩)
  | true =>
    obtain ⟨g1, g2, g3, _, _⟩ := HRF.out hr
    obtain ⟨hs, hhs⟩ : ∃ hs, t.heights = hs := ⟨_, rfl⟩
    have HR : Hid (levelP t level = levelK hs level hs.length) := Lib.hid (by rw [HH.out, hr, if_pos rfl, hhs]; rfl)
    clear HH
    rw [hhs] at HB g1 g2 g3 p1 ⊢
    have hn9 : (hs.length : Int) ≤ 1000 := by omega
    have HHS := Lib.hid hhs
    clear hr HRF g2 hhs
    go_wp2_with fail
    go_loopw [5, 14] (fun v i wr => ∃ k : Nat, k ≤ hs.length ∧ i = .int .i64 k ∧ Ow kInt w1.heap.size wr v (levelK hs level k) ∧ Ext w1 wr) (fun _ i _ => hs.length - (intOf i).toNat)
    case atStart => exact ⟨0, Nat.zero_le _, rfl, Ow.nil _ _, Ext.refl _⟩
    case round =>
      obtain ⟨k, hk, rfl, hO, hX⟩ := hrel
      have HO := Lib.hid hO
      have HX := Lib.hid hX
      have hk0 : (0 : Int) ≤ k := by omega
      replace p1 := Ext.cell hX p1
      have lw : w.heap.size < wr.heap.size := World.block_lt_of_cell? _ _ p1
      have hzr := HX.out.size
      clear hO hX
      have hll := levelK_len hs level k
      have hsc := levelK_succ hs level k
      obtain ⟨fl, hfl⟩ : ∃ fl, levelK hs level k = fl := ⟨_, rfl⟩
      rw [hfl] at HO hll hsc
      obtain ⟨A2, c2, hv, hc⟩ := HO.out.slice
      subst hv
      have HLL := Lib.hid hll
      clear hll
      by_cases hlt : k < hs.length
      · have hlt' : (k : Int) < hs.length := by omega
        obtain ⟨bl, ol, rfl, hcl⟩ := (ints_of_rd (HB.out.ext (HX1.out.trans HX.out))).cells (by omega)
        have z0 := hcl k hlt
        obtain ⟨x, hx⟩ : ∃ x, hs.getD k 0 = x := ⟨_, rfl⟩
        rw [hx] at z0 hsc
        have lbl : bl < wr.heap.size := World.block_lt_of_cell? _ _ z0
        clear hcl hx hfl
        by_cases hlt2 : level < x
        · have hd1 : decide (level < x) = true := decide_eq_true hlt2
          have HFS : Hid (levelK hs level (k + 1) = fl ++ [(k : Int)]) := Lib.hid (by rw [hsc, if_pos hlt2])
          clear hsc hlt2
          go_wp2_with (at_builtin; refine kInt.wpList_app (by rfl) (.tmp 22) (.tmp 24) (by rfl) (by rfl) w1.heap.size _ fl (by rfl) (HO.out.ext ((Ext.refl _).alloc _)) _ [(k : Int)] (by rfl) (one_at (heap_alloc_new _ _) (in64_nat k (by omega))) (by rw [List.length_singleton]; have := HLL.out; omega) (by simp; omega) ?_; intro v' w9 hown9 hgrow9 hat9)
          have H9 := Lib.hid (And.intro hown9 hgrow9)
          clear hown9 hgrow9 hat9
          try go_wp2_with fail
          go_roundw
          case rel =>
            obtain ⟨hown9, hgrow9⟩ := H9.out
            refine ⟨k + 1, by omega, by go_num, by rw [HFS.out]; exact hown9, ?_⟩
            exact Ext.grown (HX.out.alloc _) hgrow9 (fun b hb => (HO.out.lt b hb).1)
          case measure => simp [intOf]; omega
        · have hd1 : decide (level < x) = false := decide_eq_false hlt2
          have HFS : Hid (levelK hs level (k + 1) = fl) := Lib.hid (by rw [hsc, if_neg hlt2, List.append_nil])
          clear hsc hlt2
          go_wp2_with fail
          go_roundw
          case rel => exact ⟨k + 1, by omega, by go_num, by rw [HFS.out]; exact HO.out, HX.out⟩
          case measure => simp [intOf]; omega
      · obtain rfl : k = hs.length := by omega
        have HM := Lib.hid hfl
        clear hfl hsc
        go_wp2_with fail
        exact bodyPost_ret (v := .slice A2 fl.length c2) (by simp [results, Tryd.results14, go_sem]) rfl (by rw [HR.out, HM.out]; exact ⟨A2, c2, rfl, HO.out.mono (Nat.le_of_lt n1), HX1.out.trans HX.out⟩)
set_option maxHeartbeats 3200000 in
set_option maxRecDepth 100000 in
theorem pwalk14_any (t : Tw) (place : Int) (A B N : Option Addr) (c d e : Nat) (w : World) (h : TwR w t A B N c d e) (hpl : in64 place) :
    Calls Tryd.prog 16 #[towV A t.tokens.length c B t.heights.length d N t.next.length e, .int .i64 place] w (LsSaid (walkP t place) w) := by
  have HT := Lib.hid h
  have HH : Hid (walkP t place = if rightTw t = true ∧ 0 ≤ place ∧ place < t.tokens.length then walkF t.heights (t.heights.getD (headF t.heights t.heights.length) 0) t.heights.length place.toNat else []) := Lib.hid rfl
  have HRF := Lib.hid (fun h => right_facts (t := t) h)
  have HX0 : Hid (Ext w (w.alloc (.cells #[.slice A t.tokens.length c, .slice B t.heights.length d, .slice N t.next.length e] 27))) := Lib.hid ((Ext.refl w).alloc _)
  have HB := Lib.hid h.hts
  have HN := Lib.hid h.nxt
  have HPL := Lib.hid hpl
  clear h hpl
  go_enter Tryd.func16, Tryd.ntmps16
  go_wp2_with fail
  refine (pright14_any t A B N c d e _ (HT.out.ext HX0.out)).mono ?_
  rintro ed w1 ⟨rfl, hE1⟩
  have p0 : w1.cell? ⟨w.heap.size, 0, none⟩ = some (.slice A t.tokens.length c) := Ext.cell hE1 (by go_simp)
  have p1 : w1.cell? ⟨w.heap.size, 1, none⟩ = some (.slice B t.heights.length d) := Ext.cell hE1 (by go_simp)
  have p2 : w1.cell? ⟨w.heap.size, 2, none⟩ = some (.slice N t.next.length e) := Ext.cell hE1 (by go_simp)
  have pf : ∀ o, w1.frozen? ⟨w.heap.size, o, none⟩ = false := fun o => (Below.frozen hE1 (p := ⟨w.heap.size, o, none⟩) (by first | omega | (simp; omega) | simp)).trans (by go_simp)
  have lz1 := hE1.size
  simp at lz1
  have n1 : w.heap.size < w1.heap.size := by omega
  have HX1 := Lib.hid (HX0.out.trans hE1)
  clear hE1 lz1 HX0
  have hnil : walkP t place = [] → LsSaid (walkP t place) w (.returned (.slice none 0 0)) w1 := fun h => by
    rw [h]; exact ⟨none, 0, rfl, Ow.nil _ _, HX1.out⟩
  have HNIL := Lib.hid hnil
  clear hnil
  cases hr : rightTw t with
  | false =>
    have HR : Hid (walkP t place = []) := Lib.hid (by rw [HH.out, hr]; rfl)
    clear hr HH
    go_wp2_with fail
    exact bodyPost_ret (v := .slice none 0 0) (by simp [results, Tryd.results16, go_sem]) rfl (HNIL.out HR.out)
  | true =>
    obtain ⟨g1, g2, g3, g4, g5⟩ := HRF.out hr
    by_cases hp0 : place < 0
    · have hd0 : decide (place < 0) = true := decide_eq_true hp0
      have HR : Hid (walkP t place = []) := Lib.hid (by rw [HH.out, if_neg (by omega)])
      clear hr HH hp0 g2 g4 g5
      go_wp2_with fail
      exact bodyPost_ret (v := .slice none 0 0) (by simp [results, Tryd.results16, go_sem]) rfl (HNIL.out HR.out)
    · have hd0 : decide (place < 0) = false := decide_eq_false hp0
      obtain ⟨pl, rfl⟩ : ∃ pl : Nat, place = (pl : Int) := ⟨place.toNat, by omega⟩
      by_cases hpn : t.heights.length ≤ pl
      · have hd1 : decide ((t.heights.length : Int) ≤ (pl : Int)) = true := decide_eq_true (by omega)
        have hd2 : decide (t.heights.length ≤ pl) = true := decide_eq_true hpn
        have HR : Hid (walkP t pl = []) := Lib.hid (by rw [HH.out, if_neg (by omega)])
        clear hr HH hp0 g4 g5
        go_wp2_with fail
        exact bodyPost_ret (v := .slice none 0 0) (by simp [results, Tryd.results16, go_sem]) rfl (HNIL.out HR.out)
      · have hd1 : decide ((t.heights.length : Int) ≤ (pl : Int)) = false := decide_eq_false (by omega)
        have hd2 : decide (t.heights.length ≤ pl) = false := decide_eq_false hpn
        obtain ⟨hs, hhs⟩ : ∃ hs, t.heights = hs := ⟨_, rfl⟩
        have HHP : Hid (headP t = ((headF hs hs.length : Nat) : Int)) := Lib.hid (by unfold headP; rw [hr, if_pos rfl, hhs])
        have HR : Hid (walkP t pl = walkF hs (hs.getD (headF hs hs.length) 0) hs.length pl) := Lib.hid (by rw [HH.out, if_pos ⟨hr, by omega, by omega⟩, hhs, Int.toNat_natCast])
        clear HH HNIL
        rw [hhs] at HB g1 g2 g3 g4 g5 p1 hpn hd1 hd2
        have hpm : pl < hs.length := by omega
        have hnx : t.next.length = hs.length := by rw [g5, List.length_map, List.length_range]
        have HG4 := Lib.hid g4
        have HG5 := Lib.hid g5
        have HNX := Lib.hid hnx
        have HHS := Lib.hid hhs
        have hnxI : (t.next.length : Int) = hs.length := by omega
        have hn9 : (hs.length : Int) ≤ 1000 := by omega
        clear hr HRF g2 g4 g5 hnx
        have hq0 : (0 : Int) ≤ pl := by omega
        obtain ⟨f1, f2, _⟩ := headF_good hs hs.length (Nat.le_refl _)
        have fq : headF hs hs.length < hs.length := by rcases f1 with h | h <;> omega
        obtain ⟨q, hq⟩ : ∃ q, headF hs hs.length = q := ⟨_, rfl⟩
        rw [hq] at HHP HR f2 fq
        obtain ⟨bl, ol, rfl, hcl⟩ := (ints_of_rd (HB.out.ext HX1.out)).cells (by omega)
        have z0 := hcl q fq
        obtain ⟨most, hmost⟩ : ∃ most, hs.getD q 0 = most := ⟨_, rfl⟩
        rw [hmost] at HR f2 z0
        have HMX : Hid (∃ p, p < hs.length ∧ most ≤ hs.getD p 0) := Lib.hid ⟨q, fq, by rw [hmost]; exact Int.le_refl _⟩
        have hfq : (q : Int) < hs.length := by omega
        have hq1 : (0 : Int) ≤ q := by omega
        have HMAX : Hid (mostL hs = most) := Lib.hid (by rw [(most_head (hs := hs) g3).2.1, hq, hmost])
        clear f1 f2 hq hmost
        have lbl : bl < w1.heap.size := World.block_lt_of_cell? _ _ z0
        have HC := Lib.hid hcl
        clear hcl
        go_wp2_with fail
        refine (maxI hs (some ⟨bl, ol, none⟩) d w1 (HB.out.ext HX1.out) (fun e => g3 (by rw [e]; rfl)) (by omega)).mono ?_
        rw [HMAX.out]
        rintro ed w2 ⟨rfl, rfl⟩
        have HX2 : Hid (Ext w1 w1) := Lib.hid (Ext.refl w1)
        clear p0 z0
        go_wp2_with fail
        obtain ⟨W, hW⟩ : ∃ W, walkF hs most hs.length pl = W := ⟨_, rfl⟩
        rw [hW] at HR
        have HW := Lib.hid hW
        clear hW
        go_loopw [1, 6] (fun a v wr => ∃ (acc : List Int) (j m : Nat), j < hs.length ∧ a = .int .i64 j ∧ goK hs most j ≤ m ∧ acc.length + m ≤ 1001 ∧ W = acc ++ tailF hs most m j ∧ Ow kInt w1.heap.size wr v acc ∧ Ext w1 wr) (fun a _ _ => goK hs most (intOf a).toNat)
        case atStart =>
          refine ⟨[(pl : Int)], pl, hs.length, hpm, rfl, ?_, by rw [List.length_singleton]; omega, by rw [← HW.out, walkF_cons]; rfl, ?_, (Ext.refl _).alloc _⟩
          · obtain ⟨p, h1, h2⟩ := HMX.out
            obtain ⟨k, h3, h4⟩ := most_round hs pl hpm p h1
            exact Nat.le_of_lt (goK_spec hs most pl ⟨k, h3, by rw [h4]; exact h2⟩).1
          · exact Ow.lit (K := kInt) w1 [(pl : Int)] #[.int .i64 pl] rfl rfl rfl (Nat.le_refl _) (by simp [maxLen]) (fun x hx => by rw [List.mem_singleton] at hx; subst hx; exact HPL.out)
        case round =>
          obtain ⟨acc, j, m, hj, rfl, hg, hal, hw, hO, hX⟩ := hrel
          have HO := Lib.hid hO
          have HX := Lib.hid hX
          have HXA := Lib.hid (HX2.out.trans hX)
          replace p1 := Ext.cell hX p1
          replace p2 := Ext.cell hX p2
          have lw : w.heap.size < wr.heap.size := World.block_lt_of_cell? _ _ p1
          have hzr := HXA.out.size
          have hzq := HX.out.size
          have z1 := Ext.cell HXA.out (HC.out j hj)
          have lbl2 : bl < wr.heap.size := World.block_lt_of_cell? _ _ z1
          have hj0 : (0 : Int) ≤ j := by omega
          have hj1 : (j : Int) < hs.length := by omega
          have hj2 : (j : Int) < t.next.length := by omega
          obtain ⟨q1, q2⟩ := HG4.out j hj
          obtain ⟨A2, c2, hv, hc⟩ := HO.out.slice
          subst hv
          have HAL := Lib.hid hal
          have HWA := Lib.hid hw
          clear hO hX hw
          by_cases hlt : hs.getD j 0 < most
          · obtain ⟨s1, s2⟩ := walk_step hj q1 hlt HMX.out
            obtain ⟨m', rfl⟩ : ∃ m', m = m' + 1 := ⟨m - 1, by omega⟩
            have htg := tail_go m' hlt
            obtain ⟨y, hy⟩ : ∃ y, (hs.getD j 0).toNat - 1 = y := ⟨_, rfl⟩
            rw [hy] at s1 s2 htg
            obtain ⟨u, hu⟩ : ∃ u, hs.getD j 0 = u := ⟨_, rfl⟩
            have hyl : y < (hs.getD j 0).toNat := by omega
            have hna := nextsP_at hs j y hyl
            have hnl := nextsP_len hs j
            obtain ⟨x, hx⟩ : ∃ x, nextP hs j y = x := ⟨_, rfl⟩
            rw [hx] at s1 s2 htg hna
            obtain ⟨b, o, A1, c1, hNb, zr, rr⟩ := (HN.out.ext (HX1.out.trans HXA.out)).row j (by rw [HNX.out]; exact hj)
            have hrow : t.next.getD j [] = nextsP hs j := by
              rw [HG5.out, List.getD_eq_getElem?_getD, List.getElem?_map, List.getElem?_range hj]; rfl
            rw [hrow] at zr rr
            obtain ⟨b1, o1, hA1, hcl1⟩ := (ints_of_rd rr).cells (by omega)
            have zx := hcl1 y (by omega)
            rw [hna] at zx
            subst hNb hA1
            obtain ⟨r, hr⟩ : ∃ r, (nextsP hs j).length = r := ⟨_, rfl⟩
            rw [hr] at zr hnl
            have hyr : (y : Int) < r := by omega
            have hy0 : (0 : Int) ≤ y := by omega
            have hyu : u - 1 = (y : Int) := by omega
            rw [hu] at hlt q1 q2 z1
            have hd3 : decide (u < most) = true := decide_eq_true hlt
            have lb : b < wr.heap.size := World.block_lt_of_cell? _ _ zr
            have lb1 : b1 < wr.heap.size := World.block_lt_of_cell? _ _ zx
            have hyb : IntKind.i64.wrap (y : Int) = y := IntWalk.i64_in _ (by omega)
            have KZ : Hid (∀ w', Ext wr w' → w'.cell? ⟨w.heap.size, 1, none⟩ = some (.slice (some ⟨bl, ol, none⟩) hs.length d) ∧ w'.cell? ⟨w.heap.size, 2, none⟩ = some (.slice (some ⟨b, o, none⟩) t.next.length e) ∧ w'.cell? ⟨bl, ol + j, none⟩ = some (.int .i64 u) ∧ w'.cell? ⟨b, o + j, none⟩ = some (.slice (some ⟨b1, o1, none⟩) r c1) ∧ w'.cell? ⟨b1, o1 + y, none⟩ = some (.int .i64 x)) := Lib.hid (fun w' hE => ⟨hE.cell p1, hE.cell p2, hE.cell z1, hE.cell zr, hE.cell zx⟩)
            have HS := Lib.hid (And.intro s1 (And.intro s2 htg))
            have HGM := Lib.hid hg
            clear hlt q1 q2 hu hy hyl hna hnl hx rr hrow hcl1 hr s1 s2 htg hg hal
            go_wp2_with fail
            clear p1 p2 z1 zr zx
            refine wp_region_class (Ext wr) (by kernel_rfl) (by kernel_rfl) (Ext.refl _).drew ?_
            try simp only [List.append_eq, List.cons_append, List.nil_append]
            repeat (first
              | go_big_quiet_skip
              | (go_big_quiet_want
                 first
                 | (go_big_quiet_op; go_big_quiet_on)
                 | (unfold Oper.quiet
                    apply Exists.intro
                    refine ⟨fun w' hC => ?_, ?_⟩
                    · (obtain ⟨k1, k2, k3, k4, k5⟩ := KZ.out w' hC
                       unfold Oper.quietAt
                       go_simp
                       first
                       | exact rfl)
                    go_simp
                    go_big_quiet_on)))
            refine wpQuiet_nil ?_
            intro w9 hC9
            have HC9 := Lib.hid hC9
            have hz9 := hC9.size
            clear hC9
            go_wp2_with (at_builtin; refine kInt.wpList_app (by rfl) (.tmp 46) (.tmp 48) (by rfl) (by rfl) w1.heap.size _ acc (by rfl) (HO.out.ext (HC9.out.trans ((Ext.refl _).alloc _))) _ [(x : Int)] (by rfl) (one_at (heap_alloc_new _ _) (in64_nat x (by have := HS.out.1; omega))) (by rw [List.length_singleton]; have := HAL.out; omega) (by simp; omega) ?_; intro v' w8 hown9 hgrow9 hat9)
            have H9 := Lib.hid (And.intro hown9 hgrow9)
            clear hown9 hgrow9 hat9
            try go_wp2_with fail
            go_roundw
            case rel =>
              obtain ⟨hown9, hgrow9⟩ := H9.out
              obtain ⟨s1, s2, s3⟩ := HS.out
              refine ⟨acc ++ [(x : Int)], x, m', s1, by go_num, by have := HGM.out; omega, by rw [List.length_append, List.length_singleton]; have := HAL.out; omega, by rw [HWA.out, s3, List.append_assoc]; rfl, hown9, ?_⟩
              exact Ext.grown (HX.out.trans (HC9.out.alloc _)) hgrow9 (fun b hb => (HO.out.lt b hb).1)
            case measure => obtain ⟨s1, s2, s3⟩ := HS.out; simp [intOf]; omega
          · have htd := tail_done m hlt
            obtain ⟨u, hu⟩ : ∃ u, hs.getD j 0 = u := ⟨_, rfl⟩
            rw [hu] at hlt q1 q2 z1
            have hd3 : decide (u < most) = false := decide_eq_false hlt
            have HWE : Hid (W = acc) := Lib.hid (by rw [HWA.out, htd, List.append_nil])
            clear hu hlt q1 q2 htd hg hal
            go_wp2_with fail
            exact bodyPost_ret (v := .slice A2 acc.length c2) (by simp [results, Tryd.results16, go_sem]) rfl (by rw [HR.out, HWE.out]; exact ⟨A2, c2, rfl, HO.out.mono (by have h7 := HX2.out.size; omega), HX1.out.trans HXA.out⟩)
theorem Plain.same_right (s t : Tw) : (rightTw s && rightTw t && decide (s.tokens = t.tokens) && decide (s.heights = t.heights)) = (rightTw s && decide (s = t)) := by
  rw [Bool.eq_iff_iff]
  simp only [Bool.and_eq_true, decide_eq_true_eq]
  constructor
  · rintro ⟨⟨⟨h1, h2⟩, h3⟩, h4⟩
    refine ⟨h1, ?_⟩
    rw [((rightTw_iff s).1 h1).2, ((rightTw_iff t).1 h2).2, h3, h4]
  · rintro ⟨h1, rfl⟩
    exact ⟨⟨⟨h1, h1⟩, rfl⟩, rfl⟩
set_option maxHeartbeats 3200000 in
set_option maxRecDepth 100000 in
theorem psame14_any (s t : Tw) (A B N A' B' N' : Option Addr) (c d e c' d' e' : Nat) (w : World) (hs : TwR w s A B N c d e) (ht : TwR w t A' B' N' c' d' e') :
    Calls Tryd.prog 18 #[towV A s.tokens.length c B s.heights.length d N s.next.length e, towV A' t.tokens.length c' B' t.heights.length d' N' t.next.length e'] w fun ed w' => ed = .returned (.bool (rightTw s && decide (s = t))) ∧ Ext w w' := by
  rw [← same_right]
  have hrs := fun h => right_facts (t := s) h
  have HS := Lib.hid hs
  have HT := Lib.hid ht
  obtain ⟨b1, hb1⟩ : ∃ b, rightTw s = b := ⟨_, rfl⟩
  obtain ⟨b2, hb2⟩ : ∃ b, rightTw t = b := ⟨_, rfl⟩
  obtain ⟨b3, hb3⟩ : ∃ b, decide (s.tokens = t.tokens) = b := ⟨_, rfl⟩
  obtain ⟨b4, hb4⟩ : ∃ b, decide (s.heights = t.heights) = b := ⟨_, rfl⟩
  rw [hb1] at hrs
  rw [hb1, hb2, hb3, hb4]
  have HR1 := Lib.hid (fun w' (hE : Ext w w') => pright14_any s A B N c d e w' (hs.ext hE))
  have HR2 := Lib.hid (fun w' (hE : Ext w w') => pright14_any t A' B' N' c' d' e' w' (ht.ext hE))
  rw [hb1] at HR1
  rw [hb2] at HR2
  have HE3 := Lib.hid (fun (h : s.tokens.length ≤ 1048576) w' (hE : Ext w w') => equalI s.tokens t.tokens A A' c c' w' (hs.tok.ext hE) (ht.tok.ext hE) h)
  have HE4 := Lib.hid (fun (h : s.heights.length ≤ 1048576) w' (hE : Ext w w') => equalI s.heights t.heights B B' d d' w' (hs.hts.ext hE) (ht.hts.ext hE) h)
  rw [hb3] at HE3
  rw [hb4] at HE4
  have HRS := Lib.hid hrs
  clear hb1 hb2 hb3 hb4 hs ht hrs
  have HX0 : Hid (Ext w ((w.alloc (.cells #[.slice A s.tokens.length c, .slice B s.heights.length d, .slice N s.next.length e] 27)).alloc (.cells #[.slice A' t.tokens.length c', .slice B' t.heights.length d', .slice N' t.next.length e'] 27))) := Lib.hid (((Ext.refl w).alloc _).alloc _)
  go_enter Tryd.func18, Tryd.ntmps18
  go_wp2_with fail
  refine (HR1.out _ HX0.out).mono ?_
  rintro ed w1 ⟨rfl, hE1⟩
  have p0 : w1.cell? ⟨w.heap.size, 0, none⟩ = some (.slice A s.tokens.length c) := Ext.cell hE1 (by go_simp)
  have p1 : w1.cell? ⟨w.heap.size, 1, none⟩ = some (.slice B s.heights.length d) := Ext.cell hE1 (by go_simp)
  have p2 : w1.cell? ⟨w.heap.size, 2, none⟩ = some (.slice N s.next.length e) := Ext.cell hE1 (by go_simp)
  have pf : ∀ o, w1.frozen? ⟨w.heap.size, o, none⟩ = false := fun o => (Below.frozen hE1 (p := ⟨w.heap.size, o, none⟩) (by first | omega | (simp; omega) | simp)).trans (by go_simp)
  have q0 : w1.cell? ⟨w.heap.size + 1, 0, none⟩ = some (.slice A' t.tokens.length c') := Ext.cell hE1 (by go_simp)
  have q1 : w1.cell? ⟨w.heap.size + 1, 1, none⟩ = some (.slice B' t.heights.length d') := Ext.cell hE1 (by go_simp)
  have q2 : w1.cell? ⟨w.heap.size + 1, 2, none⟩ = some (.slice N' t.next.length e') := Ext.cell hE1 (by go_simp)
  have qf : ∀ o, w1.frozen? ⟨w.heap.size + 1, o, none⟩ = false := fun o => (Below.frozen hE1 (p := ⟨w.heap.size + 1, o, none⟩) (by first | omega | (simp; omega) | simp)).trans (by go_simp)
  have HX1 := Lib.hid (HX0.out.trans hE1)
  clear hE1 HX0 HR1
  cases b1 with
  | false =>
    go_wp2_with fail
    go_ret
    exact ⟨ret_bool (by simp), HX1.out⟩
  | true =>
    obtain ⟨g1, g2, _⟩ := HRS.out rfl
    have HL : Hid (s.tokens.length ≤ 1048576 ∧ s.heights.length ≤ 1048576) := Lib.hid ⟨by omega, by omega⟩
    clear g1 g2 HRS
    go_wp2_with fail
    refine (HR2.out _ HX1.out).mono ?_
    rintro ed w2 ⟨rfl, hE2⟩
    replace p0 := hE2.cell p0
    replace p1 := hE2.cell p1
    replace q0 := hE2.cell q0
    replace q1 := hE2.cell q1
    have HX2 := Lib.hid (HX1.out.trans hE2)
    clear hE2 p2 q2 pf qf
    cases b2 with
    | false =>
      go_wp2_with fail
      go_ret
      exact ⟨ret_bool (by simp), HX2.out⟩
    | true =>
      go_wp2_with fail
      refine (HE3.out HL.out.1 _ HX2.out).mono ?_
      rintro ed w3 ⟨rfl, hE3⟩
      replace p1 := hE3.cell p1
      replace q1 := hE3.cell q1
      have HX3 := Lib.hid (HX2.out.trans hE3)
      clear hE3 p0 q0
      cases b3 with
      | false =>
        go_wp2_with fail
        go_ret
        exact ⟨ret_bool (by simp), HX3.out⟩
      | true =>
        go_wp2_with fail
        refine (HE4.out HL.out.2 _ HX3.out).mono ?_
        rintro ed w4 ⟨rfl, hE4⟩
        have HX4 := Lib.hid (HX3.out.trans hE4)
        clear hE4 p1 q1
        go_wp2_with fail
        go_ret
        exact ⟨ret_bool (by simp), HX4.out⟩
end Go.Proofs.YtfkidgpjejcblaaDoor

/- Plain words of a tower's laws: levels go round, walks end at the greatest height, levels add up. No program in it. -/
namespace Go.Proofs.YtfkidgpjejcblaaDoor.Plain
/-- places above a level -/
def lv (hs : List Int) (h : Int) : List Nat := (List.range hs.length).filter (fun i => decide (h < hs.getD i 0))
theorem levelF_lv (hs : List Int) (h : Int) : levelF hs h = (lv hs h).map (fun i : Nat => (i : Int)) := rfl
theorem lv_mem (hs : List Int) (h : Int) (i : Nat) : i ∈ lv hs h ↔ i < hs.length ∧ h < hs.getD i 0 := by
  unfold lv; rw [List.mem_filter, List.mem_range, decide_eq_true_eq]
theorem lv_rise (hs : List Int) (h : Int) : (lv hs h).Pairwise (· < ·) := List.pairwise_lt_range.filter _
theorem nat_mem {l : List Nat} {i : Nat} (h : i < l.length) : l.getD i 0 ∈ l := by
  rw [List.getD_eq_getElem?_getD, List.getElem?_eq_getElem h]; exact List.getElem_mem h
theorem rise_lt {l : List Nat} (hp : l.Pairwise (· < ·)) {a b : Nat} (h : a < b) (hb : b < l.length) : l.getD a 0 < l.getD b 0 := by
  rw [List.pairwise_iff_getElem] at hp
  have := hp a b (by omega) hb h
  rw [List.getD_eq_getElem?_getD, List.getD_eq_getElem?_getD, List.getElem?_eq_getElem (by omega), List.getElem?_eq_getElem hb]
  exact this
theorem rise_at {l : List Nat} {x : Nat} (hx : x ∈ l) : ∃ j, j < l.length ∧ l.getD j 0 = x := by
  obtain ⟨j, hj, e⟩ := List.getElem_of_mem hx
  exact ⟨j, hj, by rw [List.getD_eq_getElem?_getD, List.getElem?_eq_getElem hj]; exact e⟩
/-- along a level one comes to the next one, and round -/
theorem lv_round {hs : List Int} {h : Nat} {i : Nat} (hi : i < (lv hs h).length) : nextP hs ((lv hs h).getD i 0) h = (lv hs h).getD ((i + 1) % (lv hs h).length) 0 := by
  have hp := lv_rise hs h
  have hm := lv_mem hs h
  obtain ⟨l, hl⟩ : ∃ l, lv hs h = l := ⟨_, rfl⟩
  rw [hl] at hi hp hm ⊢
  obtain ⟨a1, a2⟩ := (hm _).1 (nat_mem hi)
  obtain ⟨p, hpp⟩ : ∃ p, l.getD i 0 = p := ⟨_, rfl⟩
  rw [hpp] at a1 a2 ⊢
  have hno : ∀ q, q < hs.length → (∀ j, j < l.length → l.getD j 0 ≠ q) → decide ((h : Int) < hs.getD q 0) = false := fun q hq hn => by
    rw [decide_eq_false_iff_not]
    intro hc
    obtain ⟨j, h1, h2⟩ := rise_at ((hm q).2 ⟨hq, hc⟩)
    exact hn j h1 h2
  unfold nextP
  rcases Nat.lt_or_ge (i + 1) l.length with hlt | hge
  · rw [Nat.mod_eq_of_lt hlt]
    obtain ⟨b1, b2⟩ := (hm _).1 (nat_mem hlt)
    have hpq := rise_lt hp (Nat.lt_succ_self i) hlt
    rw [hpp] at hpq
    obtain ⟨p', hp'⟩ : ∃ p', l.getD (i + 1) 0 = p' := ⟨_, rfl⟩
    rw [Nat.succ_eq_add_one, hp'] at hpq
    rw [hp'] at b1 b2 ⊢
    rw [farK_of (above hs p h) hs.length (p' - p) (by omega) (by omega) (fun j h1 h2 => ?_) (by unfold above; rw [show p + (p' - p) = p' by omega, Nat.mod_eq_of_lt b1]; exact decide_eq_true b2), show p + (p' - p) = p' by omega, Nat.mod_eq_of_lt b1]
    unfold above
    rw [Nat.mod_eq_of_lt (by omega)]
    refine hno _ (by omega) fun k hk e => ?_
    rcases Nat.lt_or_ge k (i + 1) with h3 | h3
    · have : l.getD k 0 ≤ p := by
        rcases Nat.lt_or_ge k i with h4 | h4
        · have := rise_lt hp h4 hi; omega
        · obtain rfl : k = i := by omega
          omega
      omega
    · have : p' ≤ l.getD k 0 := by
        rcases Nat.lt_or_ge (i + 1) k with h4 | h4
        · have := rise_lt hp h4 hk; omega
        · obtain rfl : k = i + 1 := by omega
          omega
      omega
  · have hle9 : l.length = i + 1 := by omega
    rw [hle9, Nat.mod_self]
    have h0 : 0 < l.length := by omega
    obtain ⟨b1, b2⟩ := (hm _).1 (nat_mem h0)
    have hle : l.getD 0 0 ≤ p := by
      rcases Nat.eq_zero_or_pos i with e | e
      · subst e; omega
      · have := rise_lt hp e hi; omega
    obtain ⟨p', hp'⟩ : ∃ p', l.getD 0 0 = p' := ⟨_, rfl⟩
    rw [hp'] at b1 b2 hle ⊢
    rw [farK_of (above hs p h) hs.length (p' + hs.length - p) (by omega) (by omega) (fun j h1 h2 => ?_) (by unfold above; rw [show p + (p' + hs.length - p) = p' + hs.length by omega, Nat.add_mod_right, Nat.mod_eq_of_lt b1]; exact decide_eq_true b2), show p + (p' + hs.length - p) = p' + hs.length by omega, Nat.add_mod_right, Nat.mod_eq_of_lt b1]
    unfold above
    rcases Nat.lt_or_ge (p + j) hs.length with h3 | h3
    · rw [Nat.mod_eq_of_lt h3]
      refine hno _ h3 fun k hk e => ?_
      have : l.getD k 0 ≤ p := by
        rcases Nat.lt_or_ge k i with h4 | h4
        · have := rise_lt hp h4 hi; omega
        · obtain rfl : k = i := by omega
          omega
      omega
    · rw [show p + j = (p + j - hs.length) + hs.length by omega, Nat.add_mod_right, Nat.mod_eq_of_lt (by omega)]
      refine hno _ (by omega) fun k hk e => ?_
      have : p' ≤ l.getD k 0 := by
        rcases Nat.eq_zero_or_pos k with h4 | h4
        · subst h4; omega
        · have := rise_lt hp h4 hk; omega
      omega
/-- a walk, as places -/
structure Wk (hs : List Int) (most : Int) (i : Nat) (ws : List Nat) : Prop where
  pos : 0 < ws.length
  first : ws.getD 0 0 = i
  inn : ∀ j, j < ws.length → ws.getD j 0 < hs.length
  up : ∀ j, j + 1 < ws.length → hs.getD (ws.getD j 0) 0 ≤ hs.getD (ws.getD (j + 1) 0) 0 ∧ hs.getD (ws.getD j 0) 0 < most
  last : hs.getD (ws.getD (ws.length - 1) 0) 0 = most
  len : ws.length ≤ goK hs most i + 1
theorem walk_good {hs : List Int} {most : Int} (h1 : ∀ j, j < hs.length → 1 ≤ hs.getD j 0) (hm : ∀ j, j < hs.length → hs.getD j 0 ≤ most) (hex : ∃ p, p < hs.length ∧ most ≤ hs.getD p 0) :
    ∀ m i, i < hs.length → goK hs most i ≤ m → ∃ ws : List Nat, walkF hs most m i = ws.map (fun i : Nat => (i : Int)) ∧ Wk hs most i ws := by
  intro m
  have one : ∀ i, i < hs.length → ¬ hs.getD i 0 < most → Wk hs most i [i] := fun i hi hn => ⟨by simp, rfl, fun j hj => by
    obtain rfl : j = 0 := by simp at hj; omega
    exact hi, fun j hj => by simp at hj, by have := hm i hi; show hs.getD i 0 = most; omega, by simp⟩
  have at0 : ∀ i, i < hs.length → goK hs most i = 0 → ¬ hs.getD i 0 < most := fun i hi h0 => by
    obtain ⟨p, hp1, hp2⟩ := hex
    obtain ⟨k, h3, h4⟩ := most_round hs i hi p hp1
    obtain ⟨_, g2, _⟩ := goK_spec hs most i ⟨k, h3, by rw [h4]; exact hp2⟩
    rw [h0, Nat.add_zero, Nat.mod_eq_of_lt hi] at g2
    omega
  induction m with
  | zero => exact fun i hi hg => ⟨[i], rfl, one i hi (at0 i hi (by omega))⟩
  | succ m ih =>
    intro i hi hg
    by_cases hlt : hs.getD i 0 < most
    · obtain ⟨s1, s2, s3⟩ := walk_step hi (h1 i hi) hlt hex
      obtain ⟨ws, e, W⟩ := ih _ s1 (by omega)
      refine ⟨i :: ws, by rw [walkF, if_pos hlt, e]; rfl, ⟨by simp, rfl, fun j hj => ?_, fun j hj => ?_, ?_, ?_⟩⟩
      · rcases j with _ | j
        · exact hi
        · exact W.inn j (by simpa using hj)
      · rcases j with _ | j
        · show hs.getD i 0 ≤ hs.getD (ws.getD 0 0) 0 ∧ _
          rw [W.first]; exact ⟨s3, hlt⟩
        · exact W.up j (by simpa using hj)
      · have h9 := W.last
        have h8 := W.pos
        rw [show (i :: ws).length - 1 = (ws.length - 1) + 1 by rw [List.length_cons]; omega, List.getD_cons_succ]
        exact h9
      · have h9 := W.len
        rw [List.length_cons]; omega
    · exact ⟨[i], by rw [walkF, if_neg hlt]; rfl, one i hi hlt⟩
theorem lv_len (hs : List Int) (h : Int) : (lv hs h).length = hs.countP (fun x => decide (h < x)) := by
  unfold lv
  rw [← List.countP_eq_length_filter]
  have e : hs = (List.range hs.length).map (fun i => hs.getD i 0) := by
    apply List.ext_getElem?
    intro i
    rw [List.getElem?_map]
    by_cases hi : i < hs.length
    · rw [List.getElem?_range hi, List.getElem?_eq_getElem hi, Option.map_some, List.getD_eq_getElem?_getD, List.getElem?_eq_getElem hi]; rfl
    · rw [List.getElem?_eq_none (by omega), List.getElem?_eq_none (by simpa using hi)]; rfl
  conv => rhs; rw [e]
  rw [List.countP_map]; rfl
/-- how many nodes the lowest k levels have -/
def lvs (hs : List Int) : Nat → Nat
  | 0 => 0
  | k + 1 => lvs hs k + (lv hs k).length
theorem lvs_cons (x : Int) (hs : List Int) (hx : 0 ≤ x) : ∀ k : Nat, lvs (x :: hs) k = lvs hs k + min x.toNat k
  | 0 => by simp [lvs]
  | k + 1 => by
    rw [lvs, lvs, lvs_cons x hs hx k, lv_len, lv_len, List.countP_cons]
    by_cases h : (k : Int) < x
    · rw [if_pos (decide_eq_true h)]; omega
    · rw [if_neg (by rw [decide_eq_true_eq]; exact h)]; omega
theorem lvs_all : ∀ (hs : List Int), (∀ x ∈ hs, 1 ≤ x ∧ x ≤ 8) → (lvs hs 9 : Int) = hs.sum
  | [], _ => by simp [lvs, lv]
  | x :: hs, h => by
    have h1 := h x (by simp)
    have h2 := lvs_all hs (fun y hy => h y (by simp [hy]))
    rw [lvs_cons x hs (by omega), List.sum_cons]
    omega
theorem lv_less (hs : List Int) (k : Nat) : (lv hs ((k : Int) + 1)).length ≤ (lv hs k).length := by
  rw [lv_len, lv_len]
  refine List.countP_mono_left fun x _ h => ?_
  rw [decide_eq_true_eq] at h ⊢
  omega
theorem lv_zero (hs : List Int) (h : ∀ x ∈ hs, 1 ≤ x ∧ x ≤ 8) : (lv hs 0).length = hs.length := by
  rw [lv_len, List.countP_eq_length]
  intro x hx
  have := h x hx
  rw [decide_eq_true_eq]; omega
theorem lv_top (hs : List Int) (h : ∀ x ∈ hs, 1 ≤ x ∧ x ≤ 8) : (lv hs 8).length = 0 := by
  rw [lv_len, List.countP_eq_zero]
  intro x hx
  have := h x hx
  rw [decide_eq_true_eq]; omega
theorem lvs_le (hs : List Int) : ∀ k, lvs hs k ≤ k * hs.length
  | 0 => by simp [lvs]
  | k + 1 => by
    have := lvs_le hs k
    have h2 : (lv hs k).length ≤ hs.length := by rw [lv_len]; exact List.countP_le_length
    rw [lvs, Nat.add_mul]; omega
theorem sum_takeI {l : List Int} {k : Nat} (h : k < l.length) : (l.take (k + 1)).sum = (l.take k).sum + l.getD k 0 := by
  rw [List.take_succ_eq_append_getElem h, List.sum_append, List.getD_eq_getElem?_getD, List.getElem?_eq_getElem h]; simp
theorem sum_bd (hs : List Int) (h : ∀ x ∈ hs, 1 ≤ x ∧ x ≤ 8) : ∀ k, k ≤ hs.length → (0 : Int) ≤ (hs.take k).sum ∧ (hs.take k).sum ≤ 8 * k
  | 0, _ => by simp
  | k + 1, hk => by
    have := sum_bd hs h k (by omega)
    rw [sum_takeI (by omega)]
    have hx : hs.getD k 0 ∈ hs := by rw [List.getD_eq_getElem?_getD, List.getElem?_eq_getElem (by omega)]; exact List.getElem_mem _
    have := h _ hx
    omega
end Go.Proofs.YtfkidgpjejcblaaDoor.Plain

/- Calls of towers with answers named; the fixed fact of tower's statements. Written by wip/mk_t14law.py. -/
namespace Go.Proofs.YtfkidgpjejcblaaDoor
open Go.BigFrame
open Go.RowKit Go.Proofs.YtfkidgpjejcblaaDoor.Plain

/-- a tower that reads so, its lengths by letters -/
structure TwA (w : World) (tk hs : List Int) (nx : List (List Int)) (n m k : Nat) (A B N : Option Addr) (c d e : Nat) : Prop where
  r : TwR w ⟨tk, hs, nx⟩ A B N c d e
  hn : tk.length = n
  hm : hs.length = m
  hk : nx.length = k
theorem TwA.ext {w W : World} {tk hs : List Int} {nx : List (List Int)} {n m k : Nat} {A B N : Option Addr} {c d e : Nat} (h : TwA w tk hs nx n m k A B N c d e) (hE : Ext w W) : TwA W tk hs nx n m k A B N c d e := ⟨h.r.ext hE, h.hn, h.hm, h.hk⟩
theorem TwR.ofSaid {w : World} {B' : Nat} {t : Tw} {A B N : Option Addr} {c d e : Nat} (h1 : Ow kInt B' w (.slice A t.tokens.length c) t.tokens) (h2 : Ow kInt B' w (.slice B t.heights.length d) t.heights) (h3 : Oww B' w (.slice N t.next.length e) t.next) : TwR w t A B N c d e := ⟨h1.rd, h2.rd, h3.rdd⟩
theorem pbuild14_to (tk hs : List Int) (n m : Nat) (A B : Option Addr) (c d : Nat) (rt rh : List Int) (rn : List (List Int)) (a b k : Nat) (er : Int) (w : World) (hA : Rd kInt w (.slice A n c) tk) (hn : tk.length = n) (hB : Rd kInt w (.slice B m d) hs) (hm : hs.length = m) (he : buildP tk hs = (⟨rt, rh, rn⟩, er)) (ha : rt.length = a) (hb : rh.length = b) (hk : rn.length = k) :
    Calls Tryd.prog 8 #[.slice A n c, .slice B m d] w fun ed w' => ∃ (A B N : Option Addr) (c d e : Nat), ed = .returned (.tuple #[towV A a c B b d N k e, .int .i64 er]) ∧ TwA w' rt rh rn a b k A B N c d e ∧ Ext w w' := by
  subst hn hm ha hb hk
  have h := pbuild14_any tk hs A B c d w hA hB
  rw [he] at h
  exact h.mono fun _ _ ⟨A, B, N, c, d, e, h1, h2, h3, h4, h5⟩ => ⟨A, B, N, c, d, e, h1, ⟨TwR.ofSaid (t := ⟨rt, rh, rn⟩) h2 h3 h4, rfl, rfl, rfl⟩, h5⟩
theorem phead14_to (tk hs : List Int) (nx : List (List Int)) (n m k : Nat) (A B N : Option Addr) (c d e : Nat) (r : Int) (w : World) (h : TwA w tk hs nx n m k A B N c d e) (he : headP ⟨tk, hs, nx⟩ = r) :
    Calls Tryd.prog 15 #[towV A n c B m d N k e] w fun ed w' => ed = .returned (.int .i64 r) ∧ Ext w w' := by
  obtain ⟨h, rfl, rfl, rfl⟩ := h
  subst he
  exact phead14_any ⟨tk, hs, nx⟩ A B N c d e w h
theorem pright14_to (tk hs : List Int) (nx : List (List Int)) (n m k : Nat) (A B N : Option Addr) (c d e : Nat) (r : Bool) (w : World) (h : TwA w tk hs nx n m k A B N c d e) (he : rightTw ⟨tk, hs, nx⟩ = r) :
    Calls Tryd.prog 17 #[towV A n c B m d N k e] w fun ed w' => ed = .returned (.bool r) ∧ Ext w w' := by
  obtain ⟨h, rfl, rfl, rfl⟩ := h
  subst he
  exact pright14_any ⟨tk, hs, nx⟩ A B N c d e w h
theorem pwalk14_to (tk hs : List Int) (nx : List (List Int)) (n m k : Nat) (A B N : Option Addr) (c d e : Nat) (p : Int) (r : List Int) (q : Nat) (w : World) (h : TwA w tk hs nx n m k A B N c d e) (hp : in64 p) (he : walkP ⟨tk, hs, nx⟩ p = r) (hq : r.length = q) :
    Calls Tryd.prog 16 #[towV A n c B m d N k e, .int .i64 p] w fun ed w' => ∃ (L : Option Addr) (l : Nat), ed = .returned (.slice L q l) ∧ Ow kInt w.heap.size w' (.slice L q l) r ∧ Ext w w' := by
  obtain ⟨h, rfl, rfl, rfl⟩ := h
  subst he hq
  exact pwalk14_any ⟨tk, hs, nx⟩ p A B N c d e w h hp
theorem plevel14_to (tk hs : List Int) (nx : List (List Int)) (n m k : Nat) (A B N : Option Addr) (c d e : Nat) (p : Int) (r : List Int) (q : Nat) (w : World) (h : TwA w tk hs nx n m k A B N c d e) (he : levelP ⟨tk, hs, nx⟩ p = r) (hq : r.length = q) :
    Calls Tryd.prog 14 #[towV A n c B m d N k e, .int .i64 p] w fun ed w' => ∃ (L : Option Addr) (l : Nat), ed = .returned (.slice L q l) ∧ Ow kInt w.heap.size w' (.slice L q l) r ∧ Ext w w' := by
  obtain ⟨h, rfl, rfl, rfl⟩ := h
  subst he hq
  exact plevel14_any ⟨tk, hs, nx⟩ p A B N c d e w h
theorem pheights14_to (l : List Int) (s : List Nat) (ln sn : Nat) (L S : Option Addr) (lc sc : Nat) (r : List Int) (q : Nat) (w : World) (hL : Rd kInt w (.slice L ln lc) l) (hln : l.length = ln) (hS : Rd kU32 w (.slice S sn sc) (zs s)) (hsn : s.length = sn) (hl : l.length ≤ 100000) (he : l.map (htP s) = r) (hq : r.length = q) (hTb : Tab w) :
    Calls Tryd.prog 12 #[.slice L ln lc, .slice S sn sc] w fun ed w' => ∃ (L : Option Addr) (l : Nat), ed = .returned (.slice L q l) ∧ Ow kInt w.heap.size w' (.slice L q l) r ∧ Ext w w' := by
  subst hln hsn he hq
  exact pheights14_any l s L S lc sc w hL hS hl hTb
theorem psame14_to (tk hs : List Int) (nx : List (List Int)) (n m k : Nat) (A B N : Option Addr) (c d e : Nat) (w : World) (h : TwA w tk hs nx n m k A B N c d e) (hr : rightTw ⟨tk, hs, nx⟩ = true) :
    Calls Tryd.prog 18 #[towV A n c B m d N k e, towV A n c B m d N k e] w fun ed w' => ed = .returned (.bool true) ∧ Ext w w' := by
  obtain ⟨h, rfl, rfl, rfl⟩ := h
  have h9 := psame14_any ⟨tk, hs, nx⟩ ⟨tk, hs, nx⟩ A B N A B N c d e c d e w h h
  rw [hr, decide_eq_true rfl] at h9
  exact h9
set_option maxHeartbeats 6400000 in
set_option maxRecDepth 100000 in
theorem toweralive_any (w : World) (hTb : Tab w) : Calls Tryd.prog 7 #[] w fun ed w' => ed = .returned (.bool true) ∧ Ext w w' := by
  have he1 : buildP [7, 3, 9, 4] [1, 3, 2, 1] = (⟨[7, 3, 9, 4], [1, 3, 2, 1], [[1], [2, 2, 1], [3, 1], [0]]⟩, 0) := by decide +kernel
  have he2 : buildP [7, 7] [1, 1] = (⟨[], [], []⟩, 1) := by decide +kernel
  have he3 : headP ⟨[7, 3, 9, 4], [1, 3, 2, 1], [[1], [2, 2, 1], [3, 1], [0]]⟩ = 1 := by decide +kernel
  have he4 : walkP ⟨[7, 3, 9, 4], [1, 3, 2, 1], [[1], [2, 2, 1], [3, 1], [0]]⟩ 2 = [2, 1] := by decide +kernel
  have he5 : walkP ⟨[7, 3, 9, 4], [1, 3, 2, 1], [[1], [2, 2, 1], [3, 1], [0]]⟩ 3 = [3, 0, 1] := by decide +kernel
  have he6 : levelP ⟨[7, 3, 9, 4], [1, 3, 2, 1], [[1], [2, 2, 1], [3, 1], [0]]⟩ 1 = [1, 2] := by decide +kernel
  have he7 : [0, 1, -1].map (htP [4, 1]) = [3, 1, 1] := by decide +kernel
  have he8 : rightTw ⟨[7, 3, 9, 4], [1, 3, 2, 1], [[1], [2, 2, 1], [3, 1], [0]]⟩ = true := by decide +kernel
  have H1 := Lib.hid he1
  have H2 := Lib.hid he2
  have H3 := Lib.hid he3
  have H4 := Lib.hid he4
  have H5 := Lib.hid he5
  have H6 := Lib.hid he6
  have H7 := Lib.hid he7
  have H8 := Lib.hid he8
  clear he1 he2 he3 he4 he5 he6 he7 he8
  have HTB := Lib.hid hTb
  clear hTb
  have HX0 : Hid (Ext w w) := Lib.hid (Ext.refl w)
  go_enter Tryd.func7, Tryd.ntmps7
  go_wp2_with fail
  refine (pbuild14_to [7, 3, 9, 4] [1, 3, 2, 1] 4 4 (some ⟨w.heap.size, 0, none⟩) (some ⟨w.heap.size + 1, 0, none⟩) 4 4 [7, 3, 9, 4] [1, 3, 2, 1] [[1], [2, 2, 1], [3, 1], [0]] 4 4 4 0 _ ((int_list w [7, 3, 9, 4] _ 4 #[.int .i64 7, .int .i64 3, .int .i64 9, .int .i64 4] rfl rfl (by simp) (by decide) (by decide)).ext ((Ext.refl _).alloc _)) rfl (int_list (w.alloc (.cells #[.int .i64 7, .int .i64 3, .int .i64 9, .int .i64 4] 3)) [1, 3, 2, 1] _ 4 #[.int .i64 1, .int .i64 3, .int .i64 2, .int .i64 1] rfl rfl (by simp) (by decide) (by decide)) rfl H1.out rfl rfl rfl).mono ?_
  rintro ed w1 ⟨A1, B1, N1, c1, d1, e1, rfl, hT1, hE1⟩
  obtain ⟨bN, oN, R0, r0, eN, y0, hR0⟩ := hT1.r.nxt.row 0 (by decide)
  subst eN
  obtain ⟨b1, o1, R1, r1, eN, y1, hR1⟩ := hT1.r.nxt.row 1 (by decide)
  cases eN
  obtain ⟨b2, o2, R2, r2, eN, y2, hR2⟩ := hT1.r.nxt.row 2 (by decide)
  cases eN
  replace y0 : w1.cell? ⟨bN, oN, none⟩ = some (.slice R0 1 r0) := y0
  replace y1 : w1.cell? ⟨bN, oN + 1, none⟩ = some (.slice R1 3 r1) := y1
  replace y2 : w1.cell? ⟨bN, oN + 2, none⟩ = some (.slice R2 2 r2) := y2
  have lbN : bN < w1.heap.size := World.block_lt_of_cell? _ _ y0
  have hF1 := (((Ext.refl w).alloc (.cells #[.int .i64 7, .int .i64 3, .int .i64 9, .int .i64 4] 3)).alloc (.cells #[.int .i64 1, .int .i64 3, .int .i64 2, .int .i64 1] 3)).trans hE1
  have HX1 := Lib.hid (HX0.out.trans hF1)
  have HT_1 := Lib.hid (hT1)
  have HR0_1 := Lib.hid (hR0)
  have HR1_1 := Lib.hid (hR1)
  have HR2_1 := Lib.hid (hR2)
  clear hE1 hF1 HX0
  go_wp2_with fail
  refine (pbuild14_to [7, 7] [1, 1] 2 2 (some ⟨w1.heap.size + 1, 0, none⟩) (some ⟨w1.heap.size + 1 + 1, 0, none⟩) 2 2 [] [] [] 0 0 0 1 _ ((int_list (w1.alloc (.cells #[.slice A1 4 c1, .slice B1 4 d1, .slice (some ⟨bN, oN, none⟩) 4 e1] 27)) [7, 7] _ 2 #[.int .i64 7, .int .i64 7] rfl rfl (by simp) (by decide) (by decide)).ext ((Ext.refl _).alloc _)) rfl (int_list ((w1.alloc (.cells #[.slice A1 4 c1, .slice B1 4 d1, .slice (some ⟨bN, oN, none⟩) 4 e1] 27)).alloc (.cells #[.int .i64 7, .int .i64 7] 3)) [1, 1] _ 2 #[.int .i64 1, .int .i64 1] rfl rfl (by simp) (by decide) (by decide)) rfl H2.out rfl rfl rfl).mono ?_
  rintro ed w2 ⟨A2, B2, N2, c2, d2, e2, rfl, hT2, hE2⟩
  have hF2 := ((((Ext.refl w1).alloc (.cells #[.slice A1 4 c1, .slice B1 4 d1, .slice (some ⟨bN, oN, none⟩) 4 e1] 27)).alloc (.cells #[.int .i64 7, .int .i64 7] 3)).alloc (.cells #[.int .i64 1, .int .i64 1] 3)).trans hE2
  replace y0 := Ext.cell hF2 y0
  replace y1 := Ext.cell hF2 y1
  replace y2 := Ext.cell hF2 y2
  have lb2_0 : bN < w2.heap.size := by have := Ext.size hF2; omega
  have HX2 := Lib.hid (HX1.out.trans hF2)
  have HT_2 := Lib.hid (HT_1.out.ext hF2)
  have HR0_2 := Lib.hid (HR0_1.out.ext hF2)
  have HR1_2 := Lib.hid (HR1_1.out.ext hF2)
  have HR2_2 := Lib.hid (HR2_1.out.ext hF2)
  have p0 : w2.cell? ⟨w1.heap.size, 0, none⟩ = some (.slice A1 4 c1) := Ext.cell hE2 (by go_simp)
  have p1 : w2.cell? ⟨w1.heap.size, 1, none⟩ = some (.slice B1 4 d1) := Ext.cell hE2 (by go_simp)
  have p2 : w2.cell? ⟨w1.heap.size, 2, none⟩ = some (.slice (some ⟨bN, oN, none⟩) 4 e1) := Ext.cell hE2 (by go_simp)
  have lb_p : w1.heap.size < w2.heap.size := World.block_lt_of_cell? _ _ p0
  clear hE2 hF2 HX1 HT_1 HR0_1 HR1_1 HR2_1 lbN
  go_wp2_with fail
  refine (ints_e _ _ [1] [1] _ (HR0_2.out.ext (((Ext.refl _).alloc _).alloc _)) (int_list (w2.alloc (.cells #[.slice A2 0 c2, .slice B2 0 d2, .slice N2 0 e2] 27)) [1] _ 1 #[.int .i64 1] rfl rfl (by simp) (by decide) (by decide))).mono ?_
  rintro ed w3 ⟨rfl, hE3⟩
  rw [show sameB [1] [1] = true by decide +kernel]
  have hF3 := (((Ext.refl w2).alloc (.cells #[.slice A2 0 c2, .slice B2 0 d2, .slice N2 0 e2] 27)).alloc (.cells #[.int .i64 1] 3)).trans hE3
  replace y0 := Ext.cell hF3 y0
  replace y1 := Ext.cell hF3 y1
  replace y2 := Ext.cell hF3 y2
  replace p0 := Ext.cell hF3 p0
  replace p1 := Ext.cell hF3 p1
  replace p2 := Ext.cell hF3 p2
  have lb3_0 : bN < w3.heap.size := by have := Ext.size hF3; omega
  have lb3_1 : w1.heap.size < w3.heap.size := by have := Ext.size hF3; omega
  have HX3 := Lib.hid (HX2.out.trans hF3)
  have HT_3 := Lib.hid (HT_2.out.ext hF3)
  have HR0_3 := Lib.hid (HR0_2.out.ext hF3)
  have HR1_3 := Lib.hid (HR1_2.out.ext hF3)
  have HR2_3 := Lib.hid (HR2_2.out.ext hF3)
  clear hE3 hF3 HX2 HT_2 HR0_2 HR1_2 HR2_2 lb2_0 lb_p
  go_wp2_with fail
  clear HR0_3
  refine (ints_e _ _ [2, 2, 1] [2, 2, 1] _ (HR1_3.out.ext ((Ext.refl _).alloc _)) (int_list w3 [2, 2, 1] _ 3 #[.int .i64 2, .int .i64 2, .int .i64 1] rfl rfl (by simp) (by decide) (by decide))).mono ?_
  rintro ed w4 ⟨rfl, hE4⟩
  rw [show sameB [2, 2, 1] [2, 2, 1] = true by decide +kernel]
  have hF4 := ((Ext.refl w3).alloc (.cells #[.int .i64 2, .int .i64 2, .int .i64 1] 3)).trans hE4
  replace y0 := Ext.cell hF4 y0
  replace y1 := Ext.cell hF4 y1
  replace y2 := Ext.cell hF4 y2
  replace p0 := Ext.cell hF4 p0
  replace p1 := Ext.cell hF4 p1
  replace p2 := Ext.cell hF4 p2
  have lb4_0 : bN < w4.heap.size := by have := Ext.size hF4; omega
  have lb4_1 : w1.heap.size < w4.heap.size := by have := Ext.size hF4; omega
  have HX4 := Lib.hid (HX3.out.trans hF4)
  have HT_4 := Lib.hid (HT_3.out.ext hF4)
  have HR1_4 := Lib.hid (HR1_3.out.ext hF4)
  have HR2_4 := Lib.hid (HR2_3.out.ext hF4)
  clear hE4 hF4 HX3 HT_3 HR1_3 HR2_3 lb3_0 lb3_1
  go_wp2_with fail
  clear HR1_4
  refine (ints_e _ _ [3, 1] [3, 1] _ (HR2_4.out.ext ((Ext.refl _).alloc _)) (int_list w4 [3, 1] _ 2 #[.int .i64 3, .int .i64 1] rfl rfl (by simp) (by decide) (by decide))).mono ?_
  rintro ed w5 ⟨rfl, hE5⟩
  rw [show sameB [3, 1] [3, 1] = true by decide +kernel]
  have hF5 := ((Ext.refl w4).alloc (.cells #[.int .i64 3, .int .i64 1] 3)).trans hE5
  replace y0 := Ext.cell hF5 y0
  replace y1 := Ext.cell hF5 y1
  replace y2 := Ext.cell hF5 y2
  replace p0 := Ext.cell hF5 p0
  replace p1 := Ext.cell hF5 p1
  replace p2 := Ext.cell hF5 p2
  have lb5_0 : bN < w5.heap.size := by have := Ext.size hF5; omega
  have lb5_1 : w1.heap.size < w5.heap.size := by have := Ext.size hF5; omega
  have HX5 := Lib.hid (HX4.out.trans hF5)
  have HT_5 := Lib.hid (HT_4.out.ext hF5)
  have HR2_5 := Lib.hid (HR2_4.out.ext hF5)
  clear hE5 hF5 HX4 HT_4 HR2_4 lb4_0 lb4_1
  go_wp2_with fail
  clear HR2_5
  refine (phead14_to [7, 3, 9, 4] [1, 3, 2, 1] [[1], [2, 2, 1], [3, 1], [0]] 4 4 4 A1 B1 (some ⟨bN, oN, none⟩) c1 d1 e1 1 _ HT_5.out H3.out).mono ?_
  rintro ed w6 ⟨rfl, hE6⟩
  replace y0 := Ext.cell hE6 y0
  replace y1 := Ext.cell hE6 y1
  replace y2 := Ext.cell hE6 y2
  replace p0 := Ext.cell hE6 p0
  replace p1 := Ext.cell hE6 p1
  replace p2 := Ext.cell hE6 p2
  have lb6_0 : bN < w6.heap.size := by have := Ext.size hE6; omega
  have lb6_1 : w1.heap.size < w6.heap.size := by have := Ext.size hE6; omega
  have HX6 := Lib.hid (HX5.out.trans hE6)
  have HT_6 := Lib.hid (HT_5.out.ext hE6)
  clear hE6 HX5 HT_5 lb5_0 lb5_1
  go_wp2_with fail
  refine (pwalk14_to [7, 3, 9, 4] [1, 3, 2, 1] [[1], [2, 2, 1], [3, 1], [0]] 4 4 4 A1 B1 (some ⟨bN, oN, none⟩) c1 d1 e1 2 [2, 1] 2 _ HT_6.out (by decide) H4.out rfl).mono ?_
  rintro ed w7 ⟨Lu, lu, rfl, hOu, hE7⟩
  replace y0 := Ext.cell hE7 y0
  replace y1 := Ext.cell hE7 y1
  replace y2 := Ext.cell hE7 y2
  replace p0 := Ext.cell hE7 p0
  replace p1 := Ext.cell hE7 p1
  replace p2 := Ext.cell hE7 p2
  have lb7_0 : bN < w7.heap.size := by have := Ext.size hE7; omega
  have lb7_1 : w1.heap.size < w7.heap.size := by have := Ext.size hE7; omega
  have HX7 := Lib.hid (HX6.out.trans hE7)
  have HT_7 := Lib.hid (HT_6.out.ext hE7)
  have Hu_7 := Lib.hid (hOu.rd)
  clear hE7 HX6 HT_6 lb6_0 lb6_1
  go_wp2_with fail
  refine (ints_e _ _ [2, 1] [2, 1] _ (Hu_7.out.ext ((Ext.refl _).alloc _)) (int_list w7 [2, 1] _ 2 #[.int .i64 2, .int .i64 1] rfl rfl (by simp) (by decide) (by decide))).mono ?_
  rintro ed w8 ⟨rfl, hE8⟩
  rw [show sameB [2, 1] [2, 1] = true by decide +kernel]
  have hF8 := ((Ext.refl w7).alloc (.cells #[.int .i64 2, .int .i64 1] 3)).trans hE8
  replace y0 := Ext.cell hF8 y0
  replace y1 := Ext.cell hF8 y1
  replace y2 := Ext.cell hF8 y2
  replace p0 := Ext.cell hF8 p0
  replace p1 := Ext.cell hF8 p1
  replace p2 := Ext.cell hF8 p2
  have lb8_0 : bN < w8.heap.size := by have := Ext.size hF8; omega
  have lb8_1 : w1.heap.size < w8.heap.size := by have := Ext.size hF8; omega
  have HX8 := Lib.hid (HX7.out.trans hF8)
  have HT_8 := Lib.hid (HT_7.out.ext hF8)
  have Hu_8 := Lib.hid (Hu_7.out.ext hF8)
  clear hE8 hF8 HX7 HT_7 Hu_7 lb7_0 lb7_1
  go_wp2_with fail
  clear Hu_8
  refine (pwalk14_to [7, 3, 9, 4] [1, 3, 2, 1] [[1], [2, 2, 1], [3, 1], [0]] 4 4 4 A1 B1 (some ⟨bN, oN, none⟩) c1 d1 e1 3 [3, 0, 1] 3 _ HT_8.out (by decide) H5.out rfl).mono ?_
  rintro ed w9 ⟨Lv, lv, rfl, hOv, hE9⟩
  replace y0 := Ext.cell hE9 y0
  replace y1 := Ext.cell hE9 y1
  replace y2 := Ext.cell hE9 y2
  replace p0 := Ext.cell hE9 p0
  replace p1 := Ext.cell hE9 p1
  replace p2 := Ext.cell hE9 p2
  have lb9_0 : bN < w9.heap.size := by have := Ext.size hE9; omega
  have lb9_1 : w1.heap.size < w9.heap.size := by have := Ext.size hE9; omega
  have HX9 := Lib.hid (HX8.out.trans hE9)
  have HT_9 := Lib.hid (HT_8.out.ext hE9)
  have Hv_9 := Lib.hid (hOv.rd)
  clear hE9 HX8 HT_8 lb8_0 lb8_1
  go_wp2_with fail
  refine (ints_e _ _ [3, 0, 1] [3, 0, 1] _ (Hv_9.out.ext ((Ext.refl _).alloc _)) (int_list w9 [3, 0, 1] _ 3 #[.int .i64 3, .int .i64 0, .int .i64 1] rfl rfl (by simp) (by decide) (by decide))).mono ?_
  rintro ed w10 ⟨rfl, hE10⟩
  rw [show sameB [3, 0, 1] [3, 0, 1] = true by decide +kernel]
  have hF10 := ((Ext.refl w9).alloc (.cells #[.int .i64 3, .int .i64 0, .int .i64 1] 3)).trans hE10
  replace y0 := Ext.cell hF10 y0
  replace y1 := Ext.cell hF10 y1
  replace y2 := Ext.cell hF10 y2
  replace p0 := Ext.cell hF10 p0
  replace p1 := Ext.cell hF10 p1
  replace p2 := Ext.cell hF10 p2
  have lb10_0 : bN < w10.heap.size := by have := Ext.size hF10; omega
  have lb10_1 : w1.heap.size < w10.heap.size := by have := Ext.size hF10; omega
  have HX10 := Lib.hid (HX9.out.trans hF10)
  have HT_10 := Lib.hid (HT_9.out.ext hF10)
  have Hv_10 := Lib.hid (Hv_9.out.ext hF10)
  clear hE10 hF10 HX9 HT_9 Hv_9 lb9_0 lb9_1
  go_wp2_with fail
  clear Hv_10
  refine (plevel14_to [7, 3, 9, 4] [1, 3, 2, 1] [[1], [2, 2, 1], [3, 1], [0]] 4 4 4 A1 B1 (some ⟨bN, oN, none⟩) c1 d1 e1 1 [1, 2] 2 _ HT_10.out H6.out rfl).mono ?_
  rintro ed w11 ⟨Lx, lx, rfl, hOx, hE11⟩
  replace y0 := Ext.cell hE11 y0
  replace y1 := Ext.cell hE11 y1
  replace y2 := Ext.cell hE11 y2
  replace p0 := Ext.cell hE11 p0
  replace p1 := Ext.cell hE11 p1
  replace p2 := Ext.cell hE11 p2
  have lb11_0 : bN < w11.heap.size := by have := Ext.size hE11; omega
  have lb11_1 : w1.heap.size < w11.heap.size := by have := Ext.size hE11; omega
  have HX11 := Lib.hid (HX10.out.trans hE11)
  have HT_11 := Lib.hid (HT_10.out.ext hE11)
  have Hx_11 := Lib.hid (hOx.rd)
  clear hE11 HX10 HT_10 lb10_0 lb10_1
  go_wp2_with fail
  refine (ints_e _ _ [1, 2] [1, 2] _ (Hx_11.out.ext ((Ext.refl _).alloc _)) (int_list w11 [1, 2] _ 2 #[.int .i64 1, .int .i64 2] rfl rfl (by simp) (by decide) (by decide))).mono ?_
  rintro ed w12 ⟨rfl, hE12⟩
  rw [show sameB [1, 2] [1, 2] = true by decide +kernel]
  have hF12 := ((Ext.refl w11).alloc (.cells #[.int .i64 1, .int .i64 2] 3)).trans hE12
  replace y0 := Ext.cell hF12 y0
  replace y1 := Ext.cell hF12 y1
  replace y2 := Ext.cell hF12 y2
  replace p0 := Ext.cell hF12 p0
  replace p1 := Ext.cell hF12 p1
  replace p2 := Ext.cell hF12 p2
  have lb12_0 : bN < w12.heap.size := by have := Ext.size hF12; omega
  have lb12_1 : w1.heap.size < w12.heap.size := by have := Ext.size hF12; omega
  have HX12 := Lib.hid (HX11.out.trans hF12)
  have HT_12 := Lib.hid (HT_11.out.ext hF12)
  have Hx_12 := Lib.hid (Hx_11.out.ext hF12)
  clear hE12 hF12 HX11 HT_11 Hx_11 lb11_0 lb11_1
  go_wp2_with fail
  clear Hx_12
  refine (pheights14_to [0, 1, -1] [4, 1] 3 2 (some ⟨w12.heap.size, 0, none⟩) (some ⟨w12.heap.size + 1, 0, none⟩) 3 2 [3, 1, 1] 3 _ ((int_list w12 [0, 1, -1] _ 3 #[.int .i64 0, .int .i64 1, .int .i64 (-1)] rfl rfl (by simp) (by decide) (by decide)).ext ((Ext.refl _).alloc _)) rfl (u32_list (w12.alloc (.cells #[.int .i64 0, .int .i64 1, .int .i64 (-1)] 3)) [4, 1] _ 2 #[.int .u32 4, .int .u32 1] rfl rfl (by simp) (by decide) (by decide)) rfl (by decide) H7.out rfl (((HX12.out.alloc _).alloc _).tab HTB.out)).mono ?_
  rintro ed w13 ⟨Lh, lh, rfl, hOh, hE13⟩
  have hF13 := (((Ext.refl w12).alloc (.cells #[.int .i64 0, .int .i64 1, .int .i64 (-1)] 3)).alloc (.cells #[.int .u32 4, .int .u32 1] 38)).trans hE13
  replace y0 := Ext.cell hF13 y0
  replace y1 := Ext.cell hF13 y1
  replace y2 := Ext.cell hF13 y2
  replace p0 := Ext.cell hF13 p0
  replace p1 := Ext.cell hF13 p1
  replace p2 := Ext.cell hF13 p2
  have lb13_0 : bN < w13.heap.size := by have := Ext.size hF13; omega
  have lb13_1 : w1.heap.size < w13.heap.size := by have := Ext.size hF13; omega
  have HX13 := Lib.hid (HX12.out.trans hF13)
  have HT_13 := Lib.hid (HT_12.out.ext hF13)
  have Hh_13 := Lib.hid (hOh.rd)
  clear hE13 hF13 HX12 HT_12 lb12_0 lb12_1
  go_wp2_with fail
  refine (ints_e _ _ [3, 1, 1] [3, 1, 1] _ (Hh_13.out.ext ((Ext.refl _).alloc _)) (int_list w13 [3, 1, 1] _ 3 #[.int .i64 3, .int .i64 1, .int .i64 1] rfl rfl (by simp) (by decide) (by decide))).mono ?_
  rintro ed w14 ⟨rfl, hE14⟩
  rw [show sameB [3, 1, 1] [3, 1, 1] = true by decide +kernel]
  have hF14 := ((Ext.refl w13).alloc (.cells #[.int .i64 3, .int .i64 1, .int .i64 1] 3)).trans hE14
  replace y0 := Ext.cell hF14 y0
  replace y1 := Ext.cell hF14 y1
  replace y2 := Ext.cell hF14 y2
  replace p0 := Ext.cell hF14 p0
  replace p1 := Ext.cell hF14 p1
  replace p2 := Ext.cell hF14 p2
  have lb14_0 : bN < w14.heap.size := by have := Ext.size hF14; omega
  have lb14_1 : w1.heap.size < w14.heap.size := by have := Ext.size hF14; omega
  have HX14 := Lib.hid (HX13.out.trans hF14)
  have HT_14 := Lib.hid (HT_13.out.ext hF14)
  have Hh_14 := Lib.hid (Hh_13.out.ext hF14)
  clear hE14 hF14 HX13 HT_13 Hh_13 lb13_0 lb13_1
  go_wp2_with fail
  clear Hh_14
  refine (pright14_to [7, 3, 9, 4] [1, 3, 2, 1] [[1], [2, 2, 1], [3, 1], [0]] 4 4 4 A1 B1 (some ⟨bN, oN, none⟩) c1 d1 e1 true _ HT_14.out H8.out).mono ?_
  rintro ed w15 ⟨rfl, hE15⟩
  replace y0 := Ext.cell hE15 y0
  replace y1 := Ext.cell hE15 y1
  replace y2 := Ext.cell hE15 y2
  replace p0 := Ext.cell hE15 p0
  replace p1 := Ext.cell hE15 p1
  replace p2 := Ext.cell hE15 p2
  have lb15_0 : bN < w15.heap.size := by have := Ext.size hE15; omega
  have lb15_1 : w1.heap.size < w15.heap.size := by have := Ext.size hE15; omega
  have HX15 := Lib.hid (HX14.out.trans hE15)
  have HT_15 := Lib.hid (HT_14.out.ext hE15)
  clear hE15 HX14 HT_14 lb14_0 lb14_1
  go_wp2_with fail
  refine (psame14_to [7, 3, 9, 4] [1, 3, 2, 1] [[1], [2, 2, 1], [3, 1], [0]] 4 4 4 A1 B1 (some ⟨bN, oN, none⟩) c1 d1 e1 _ HT_15.out H8.out).mono ?_
  rintro ed w16 ⟨rfl, hE16⟩
  replace y0 := Ext.cell hE16 y0
  replace y1 := Ext.cell hE16 y1
  replace y2 := Ext.cell hE16 y2
  replace p0 := Ext.cell hE16 p0
  replace p1 := Ext.cell hE16 p1
  replace p2 := Ext.cell hE16 p2
  have lb16_0 : bN < w16.heap.size := by have := Ext.size hE16; omega
  have lb16_1 : w1.heap.size < w16.heap.size := by have := Ext.size hE16; omega
  have HX16 := Lib.hid (HX15.out.trans hE16)
  have HT_16 := Lib.hid (HT_15.out.ext hE16)
  clear hE16 HX15 HT_15 lb15_0 lb15_1
  go_wp2_with fail
  go_ret
  exact ⟨ret_bool (by first | rfl | simp), HX16.out⟩
end Go.Proofs.YtfkidgpjejcblaaDoor

/- Towers built, by letters; the laws' beginnings. Written by wip/mk_t14law.py. -/
namespace Go.Proofs.YtfkidgpjejcblaaDoor
open Go.BigFrame
open Go.RowKit Go.Proofs.YtfkidgpjejcblaaDoor.Plain

theorem pbuild14_lt (tk hs : List Int) (A B : Option Addr) (c d : Nat) (t : Tw) (er : Int) (w : World) (hA : Rd kInt w (.slice A tk.length c) tk) (hB : Rd kInt w (.slice B hs.length d) hs) (he : buildP tk hs = (t, er)) :
    Calls Tryd.prog 8 #[.slice A tk.length c, .slice B hs.length d] w fun ed w' => ∃ (A B N : Option Addr) (c d e : Nat), ed = .returned (.tuple #[towV A t.tokens.length c B t.heights.length d N t.next.length e, .int .i64 er]) ∧ TwR w' t A B N c d e ∧ Ext w w' := by
  have h := pbuild14_any tk hs A B c d w hA hB
  rw [he] at h
  exact h.mono fun _ _ ⟨A, B, N, c, d, e, h1, h2, h3, h4, h5⟩ => ⟨A, B, N, c, d, e, h1, TwR.ofSaid h2 h3 h4, h5⟩
theorem rbuild14_lt (tk hs : List Int) (A B : Option Addr) (c d : Nat) (t : Tw) (er : Int) (w : World) (hA : Rd kInt w (.slice A tk.length c) tk) (hB : Rd kInt w (.slice B hs.length d) hs) (he : buildP tk hs = (t, er)) :
    Calls Tryd.prog 9 #[.slice A tk.length c, .slice B hs.length d] w fun ed w' => ∃ (A B N : Option Addr) (c d e : Nat), ed = .returned (.tuple #[towV A t.tokens.length c B t.heights.length d N t.next.length e, .int .i64 er]) ∧ TwR w' t A B N c d e ∧ Ext w w' := by
  have h := rbuild14_any tk hs A B c d w hA hB
  rw [he] at h
  exact h.mono fun _ _ ⟨A, B, N, c, d, e, h1, h2, h3, h4, h5⟩ => ⟨A, B, N, c, d, e, h1, TwR.ofSaid h2 h3 h4, h5⟩
/-- what was built -/
theorem Plain.built_facts {tk hs : List Int} {t : Tw} (h : buildP tk hs = (t, 0)) : mayB tk hs = true ∧ t = twOf tk hs ∧ rightTw t = true ∧ hs.length = tk.length ∧ tk.length ≠ 0 ∧ ∀ x ∈ hs, 1 ≤ x ∧ x ≤ 8 := by
  unfold buildP at h
  split at h
  · rename_i hm
    have ht : twOf tk hs = t := congrArg Prod.fst h
    obtain ⟨_, h2, h3, h4⟩ := (mayB_iff tk hs).1 hm
    exact ⟨hm, ht.symm, by rw [← ht]; exact right_built hm, h3, h2, h4⟩
  · cases congrArg Prod.snd h
theorem Plain.built_not {tk hs : List Int} {t : Tw} (h : buildP tk hs = (t, 1)) : t = noTw := by
  unfold buildP at h
  split at h
  · cases congrArg Prod.snd h
  · exact (congrArg Prod.fst h).symm
theorem Plain.noTw_wrong : rightTw noTw = false := by decide +kernel
end Go.Proofs.YtfkidgpjejcblaaDoor
