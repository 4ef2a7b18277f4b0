/- A cell is given back; whether a handle is good. -/
import Derived.Test.YtbkheglogmkbgaaFree
namespace Go.Proofs.Ytbkheglogmkbgaa
open Go.RowKit Go.Proofs.Ytbkheglogmkbgaa.Plain

theorem grow_cell {w w' : World} {row : Option Nat} (hg : w.grownBy w' row) {b : Nat} (hb : b < w.heap.size) (hne : some b ≠ row) :
    (∀ o, w'.cell? ⟨b, o, none⟩ = w.cell? ⟨b, o, none⟩) ∧ (∀ o, w'.frozen? ⟨b, o, none⟩ = w.frozen? ⟨b, o, none⟩) :=
  ⟨fun o => World.cell?_of_block (a := ⟨b, o, none⟩) (hg.block b hb hne), fun o => World.frozen?_of_block (a := ⟨b, o, none⟩) (hg.block b hb hne)⟩

set_option maxHeartbeats 800000 in
theorem Good_any (A B : Option Addr) (c d : Nat) (gs xs : List Int) (hc hg : Int) (w : World) (h : Ints w (.slice A gs.length c) gs) (h' : Ints w (.slice B xs.length d) xs)
    (bc : -9223372036854775808 ≤ hc ∧ hc ≤ 9223372036854775807) :
    Calls Try.prog 9 #[.agg #[.slice A gs.length c, .slice B xs.length d], .agg #[.int .i64 hc, .int .i64 hg]] w fun e w' => e = .returned (.bool (rightB gs xs && goodB gs xs hc hg)) ∧ Ext w w' := by
  have HG := Lib.hid h
  have HX := Lib.hid h'
  clear h h'
  cases hr : rightB gs xs with
  | false =>
    have HR := Lib.hid hr
    clear hr
    go_enter Try.func9, Try.ntmps9
    go_wp2_with fail
    refine (free_no _ _ _ _ _ _ _ (HG.out.ext (((Ext.refl w).alloc _).alloc _)) (HX.out.ext (((Ext.refl w).alloc _).alloc _)) HR.out).mono ?_
    rintro e w1 ⟨rfl, hE⟩
    obtain ⟨hc1, hf1⟩ := bcell hE
    go_wp2
    go_ret
    exact ⟨rfl, (((Ext.refl w).alloc _).alloc _).trans hE⟩
  | true =>
    have HR := Lib.hid hr
    clear hr
    go_enter Try.func9, Try.ntmps9
    go_wp2_with fail
    refine (free_yes _ _ _ _ _ _ _ (HG.out.ext (((Ext.refl w).alloc _).alloc _)) (HX.out.ext (((Ext.refl w).alloc _).alloc _)) HR.out).mono ?_
    rintro e w1 ⟨b, rfl, hS, hE⟩
    obtain ⟨hc1, hf1⟩ := bcell hE
    have HS := Lib.hid hS
    have HE := Lib.hid hE
    clear hS hE
    go_wp2_with fail
    refine (good_any _ _ _ _ _ _ _ _ _ _ (HG.out.ext ((((Ext.refl w).alloc _).alloc _).trans HE.out)) HS.out bc).mono ?_
    rintro e w2 ⟨rfl, hE2⟩
    go_wp2
    all_goals go_ret
    all_goals exact ⟨ret_bool (by simp), ((((Ext.refl w).alloc _).alloc _).trans HE.out).trans hE2⟩

/-- what Give leaves -/
def GiveSaid (w : World) (gs xs : List Int) (hc hg : Int) (e : Ending) (w' : World) : Prop :=
  ∃ A c B d, e = .returned (.tuple #[.agg #[.slice A gs.length c, .slice B (giveX gs xs hc hg).length d], .int .i64 (giveE gs xs hc hg)]) ∧
    Ints w' (.slice A gs.length c) gs ∧ Ints w' (.slice B (giveX gs xs hc hg).length d) (giveX gs xs hc hg) ∧ Ext w w'
/-- .. in memory of its own -/
def GiveFar (w : World) (gs xs : List Int) (hc hg : Int) (e : Ending) (w' : World) : Prop :=
  ∃ A c B d, e = .returned (.tuple #[.agg #[.slice A gs.length c, .slice B (giveX gs xs hc hg).length d], .int .i64 (giveE gs xs hc hg)]) ∧
    Ints w' (.slice A gs.length c) gs ∧ Ints w' (.slice B (giveX gs xs hc hg).length d) (giveX gs xs hc hg) ∧ Ext w w' ∧ From w.heap.size A ∧ From w.heap.size B

theorem giveSaid_err {w w' : World} {gs xs : List Int} {hc hg E : Int} {A B : Option Addr} {c d : Nat} (hE : giveE gs xs hc hg = E) (h0 : E ≠ 0) (h1 : Ints w' (.slice A gs.length c) gs) (h2 : Ints w' (.slice B xs.length d) xs) (hx : Ext w w') (hA : From w.heap.size A) (hB : From w.heap.size B) :
    GiveFar w gs xs hc hg (.returned (.tuple #[.agg #[.slice A gs.length c, .slice B xs.length d], .int .i64 E])) w' := by
  have hX : giveX gs xs hc hg = xs := by unfold giveX; rw [if_neg (by omega)]
  refine ⟨A, c, B, d, ?_, h1, ?_, hx, hA, hB⟩
  · rw [hX, hE]
  · rw [hX]; exact h2

set_option maxHeartbeats 800000 in
theorem give_no (A B : Option Addr) (c d : Nat) (gs xs : List Int) (hc hg : Int) (w : World) (h : Ints w (.slice A gs.length c) gs) (h' : Ints w (.slice B xs.length d) xs) (hl : gs.length ≤ 300) (hl' : xs.length ≤ 300)
    (hr : rightB gs xs = false) :
    Calls Try.prog 8 #[.agg #[.slice A gs.length c, .slice B xs.length d], .agg #[.int .i64 hc, .int .i64 hg]] w (GiveFar w gs xs hc hg) := by
  have HG := Lib.hid h
  have HX := Lib.hid h'
  have HR := Lib.hid hr
  clear h h' hr
  go_enter Try.func8, Try.ntmps8
  go_wp2_with fail
  refine (copied_any _ _ _ _ _ (HG.out.ext ((((Ext.refl w).alloc _).alloc _).alloc _)) (HX.out.ext ((((Ext.refl w).alloc _).alloc _).alloc _)) (by omega) (by omega)).mono ?_
  rintro e w1 ⟨A1, c1, B1, d1, rfl, ho1, ho2, hE1, hd1⟩
  obtain ⟨hc1, hf1⟩ := bcell hE1
  have hz1 := hE1.size
  simp at hz1
  have l0 : w.heap.size < w1.heap.size := by omega
  have l1 : w.heap.size + 1 < w1.heap.size := by omega
  have l2 : w.heap.size + 1 + 1 < w1.heap.size := by omega
  have HO1 := Lib.hid ho1
  have HO2 := Lib.hid ho2
  have HE1 := Lib.hid hE1
  have HD1 := Lib.hid hd1
  clear ho1 ho2 hE1 hd1
  go_wp2_with fail
  refine (free_no _ _ _ _ _ _ _ (HG.out.ext ((((((Ext.refl w).alloc _).alloc _).alloc _).trans HE1.out).alloc _)) (HX.out.ext ((((((Ext.refl w).alloc _).alloc _).alloc _).trans HE1.out).alloc _)) HR.out).mono ?_
  rintro e w2 ⟨rfl, hE2⟩
  obtain ⟨hc2, hf2⟩ := bcell hE2
  have hz2 := hE2.size
  simp at hz2
  have m0 : w.heap.size < w1.heap.size + 1 := by omega
  have m1 : w.heap.size + 1 < w1.heap.size + 1 := by omega
  have m2 : w.heap.size + 1 + 1 < w1.heap.size + 1 := by omega
  go_wp2
  have hX := ((((Ext.refl w).alloc _).alloc _).alloc _).trans ((HE1.out.alloc _).trans hE2)
  refine bodyPost_ret (v := .tuple #[.agg #[.slice A1 gs.length c1, .slice B1 xs.length d1], .int .i64 1]) (by simp [results, Try.results8, go_sem, hc2, hc1, l0, l1, l2, m0, m1, m2]) rfl
    (giveSaid_err (by unfold giveE; rw [if_pos HR.out]) (by decide) ?_ ?_ ?_ (HO1.out.from.mono (by simp; omega)) (HO2.out.from.mono (by simp; omega)))
  · exact (((HO1.out.ext (((Ext.refl _).alloc _).trans hE2)).setBelow (by simp) _).setBelow (by simp) _).ints
  · exact (((HO2.out.ext (((Ext.refl _).alloc _).trans hE2)).setBelow (by simp) _).setBelow (by simp) _).ints
  · exact (hX.setCell (by simp; omega) _).setCell (by simp; omega) _

set_option maxHeartbeats 800000 in
theorem give_stale (A B : Option Addr) (c d : Nat) (gs xs : List Int) (hc hg : Int) (w : World) (h : Ints w (.slice A gs.length c) gs) (h' : Ints w (.slice B xs.length d) xs) (hl : gs.length ≤ 300) (hl' : xs.length ≤ 300)
    (hr : rightB gs xs = true) (hgd : goodB gs xs hc hg = false) (bc : -9223372036854775808 ≤ hc ∧ hc ≤ 9223372036854775807) :
    Calls Try.prog 8 #[.agg #[.slice A gs.length c, .slice B xs.length d], .agg #[.int .i64 hc, .int .i64 hg]] w (GiveFar w gs xs hc hg) := by
  have HGD := Lib.hid hgd
  clear hgd
  have HG := Lib.hid h
  have HX := Lib.hid h'
  have HR := Lib.hid hr
  clear h h' hr
  go_enter Try.func8, Try.ntmps8
  go_wp2_with fail
  refine (copied_any _ _ _ _ _ (HG.out.ext ((((Ext.refl w).alloc _).alloc _).alloc _)) (HX.out.ext ((((Ext.refl w).alloc _).alloc _).alloc _)) (by omega) (by omega)).mono ?_
  rintro e w1 ⟨A1, c1, B1, d1, rfl, ho1, ho2, hE1, hd1⟩
  obtain ⟨hc1, hf1⟩ := bcell hE1
  have hz1 := hE1.size
  simp at hz1
  have l0 : w.heap.size < w1.heap.size := by omega
  have l1 : w.heap.size + 1 < w1.heap.size := by omega
  have l2 : w.heap.size + 1 + 1 < w1.heap.size := by omega
  have HO1 := Lib.hid ho1
  have HO2 := Lib.hid ho2
  have HE1 := Lib.hid hE1
  have HD1 := Lib.hid hd1
  clear ho1 ho2 hE1 hd1
  go_wp2_with fail
  refine (free_yes _ _ _ _ _ _ _ (HG.out.ext ((((((Ext.refl w).alloc _).alloc _).alloc _).trans HE1.out).alloc _)) (HX.out.ext ((((((Ext.refl w).alloc _).alloc _).alloc _).trans HE1.out).alloc _)) HR.out).mono ?_
  rintro e w2 ⟨b, rfl, hS, hE2⟩
  obtain ⟨hc2, hf2⟩ := bcell hE2
  have hz2 := hE2.size
  simp at hz2
  have m0 : w.heap.size < w1.heap.size + 1 := by omega
  have m1 : w.heap.size + 1 < w1.heap.size + 1 := by omega
  have m2 : w.heap.size + 1 + 1 < w1.heap.size + 1 := by omega
  have HS := Lib.hid hS
  have HE2 := Lib.hid hE2
  clear hS hE2
  go_wp2_with fail
  refine (good_any _ _ _ _ _ _ _ _ _ _ (HG.out.ext (((((Ext.refl w).alloc _).alloc _).alloc _).trans ((HE1.out.alloc _).trans HE2.out))) HS.out bc).mono ?_
  rw [HGD.out]
  rintro e w3 ⟨rfl, hE3⟩
  obtain ⟨hc3, hf3⟩ := bcell hE3
  have hz3 := hE3.size
  have p0 : w1.heap.size < w2.heap.size := by omega
  have p1 : w.heap.size + 1 < w2.heap.size := by omega
  have p2 : w.heap.size + 1 + 1 < w2.heap.size := by omega
  go_wp2
  have hX := (((((Ext.refl w).alloc _).alloc _).alloc _).trans ((HE1.out.alloc _).trans HE2.out)).trans hE3
  refine bodyPost_ret (v := .tuple #[.agg #[.slice A1 gs.length c1, .slice B1 xs.length d1], .int .i64 3]) (by simp [results, Try.results8, go_sem, hc3, hc2, hc1, l0, l1, l2, m0, m1, m2, p0, p1, p2]) rfl
    (giveSaid_err (by unfold giveE; rw [if_neg (by rw [HR.out]; decide), if_pos HGD.out]) (by decide) ?_ ?_ ?_ (HO1.out.from.mono (by simp; omega)) (HO2.out.from.mono (by simp; omega)))
  · exact (((HO1.out.ext ((((Ext.refl _).alloc _).trans HE2.out).trans hE3)).setBelow (by simp) _).setBelow (by simp) _).ints
  · exact (((HO2.out.ext ((((Ext.refl _).alloc _).trans HE2.out).trans hE3)).setBelow (by simp) _).setBelow (by simp) _).ints
  · exact (hX.setCell (by simp; omega) _).setCell (by simp; omega) _

set_option maxHeartbeats 800000 in
theorem give_ok (A B : Option Addr) (c d : Nat) (gs xs : List Int) (hc hg : Int) (w : World) (h : Ints w (.slice A gs.length c) gs) (h' : Ints w (.slice B xs.length d) xs) (hl : gs.length ≤ 300) (hl' : xs.length ≤ 300)
    (hr : rightB gs xs = true) (hgd : goodB gs xs hc hg = true) (bc : -9223372036854775808 ≤ hc ∧ hc ≤ 9223372036854775807) :
    Calls Try.prog 8 #[.agg #[.slice A gs.length c, .slice B xs.length d], .agg #[.int .i64 hc, .int .i64 hg]] w (GiveFar w gs xs hc hg) := by
  have HGD := Lib.hid hgd
  clear hgd
  have HG := Lib.hid h
  have HX := Lib.hid h'
  have HR := Lib.hid hr
  clear h h' hr
  go_enter Try.func8, Try.ntmps8
  go_wp2_with fail
  refine (copied_any _ _ _ _ _ (HG.out.ext ((((Ext.refl w).alloc _).alloc _).alloc _)) (HX.out.ext ((((Ext.refl w).alloc _).alloc _).alloc _)) (by omega) (by omega)).mono ?_
  rintro e w1 ⟨A1, c1, B1, d1, rfl, ho1, ho2, hE1, hd1⟩
  obtain ⟨hc1, hf1⟩ := bcell hE1
  have hz1 := hE1.size
  simp at hz1
  have l0 : w.heap.size < w1.heap.size := by omega
  have l1 : w.heap.size + 1 < w1.heap.size := by omega
  have l2 : w.heap.size + 1 + 1 < w1.heap.size := by omega
  have HO1 := Lib.hid ho1
  have HO2 := Lib.hid ho2
  have HE1 := Lib.hid hE1
  have HD1 := Lib.hid hd1
  clear ho1 ho2 hE1 hd1
  go_wp2_with fail
  refine (free_yes _ _ _ _ _ _ _ (HG.out.ext ((((((Ext.refl w).alloc _).alloc _).alloc _).trans HE1.out).alloc _)) (HX.out.ext ((((((Ext.refl w).alloc _).alloc _).alloc _).trans HE1.out).alloc _)) HR.out).mono ?_
  rintro e w2 ⟨b, rfl, hS, hE2⟩
  obtain ⟨hc2, hf2⟩ := bcell hE2
  have hz2 := hE2.size
  simp at hz2
  have m0 : w.heap.size < w1.heap.size + 1 := by omega
  have m1 : w.heap.size + 1 < w1.heap.size + 1 := by omega
  have m2 : w.heap.size + 1 + 1 < w1.heap.size + 1 := by omega
  have HS := Lib.hid hS
  have HE2 := Lib.hid hE2
  clear hS hE2
  go_wp2_with fail
  refine (good_any _ _ _ _ _ _ _ _ _ _ (HG.out.ext (((((Ext.refl w).alloc _).alloc _).alloc _).trans ((HE1.out.alloc _).trans HE2.out))) HS.out bc).mono ?_
  rw [HGD.out]
  rintro e w3 ⟨rfl, hE3⟩
  obtain ⟨hc3, hf3⟩ := bcell hE3
  have hz3 := hE3.size
  have p0 : w1.heap.size < w2.heap.size := by omega
  have p1 : w.heap.size + 1 < w2.heap.size := by omega
  have p2 : w.heap.size + 1 + 1 < w2.heap.size := by omega
  have p3 : w1.heap.size < w3.heap.size := by omega
  have p4 : w.heap.size + 1 < w3.heap.size := by omega
  have p5 : w.heap.size + 1 + 1 < w3.heap.size := by omega
  have HE3 := Lib.hid hE3
  clear hE3
  have hO2 := Lib.hid ((HO2.out.ext ((((Ext.refl _).alloc _).trans HE2.out).trans HE3.out)).ext ((Ext.refl w3).alloc (.cells #[.int .i64 hc] 3)))
  have p6 : w1.heap.size < w3.heap.size + 1 := by omega
  have p7 : w.heap.size + 1 < w3.heap.size + 1 := by omega
  have p8 : w.heap.size + 1 + 1 < w3.heap.size + 1 := by omega
  have hlt2 := HO2.out.lt
  simp at hlt2
  have q1 : some w1.heap.size ≠ Value.ownBlock (.slice B1 xs.length d1) := fun e => by have := hlt2 _ e.symm; omega
  have q2 : some (w.heap.size + 1 + 1) ≠ Value.ownBlock (.slice B1 xs.length d1) := fun e => by have := hlt2 _ e.symm; omega
  have Q1 := Lib.hid q1
  have Q2 := Lib.hid q2
  have HLT := Lib.hid hlt2
  clear q1 q2 hlt2
  go_wp2_with (at_builtin; refine wpList_app rfl _ _ rfl rfl _ _ xs rfl hO2.out _ [hc] rfl (Ints.one w3 hc 1 (Nat.le_refl _) bc) (by simp; omega) (by simp; omega) ?_; intro u w4 hown hgrow hat; obtain ⟨A5, c5, rfl, hcap5⟩ := hown.shape; obtain ⟨g1, g2⟩ := grow_cell hgrow (by simp; omega) Q1.out; obtain ⟨g3, g4⟩ := grow_cell hgrow (by simp; omega) Q2.out; have HOW := Lib.hid hown; have HAT := Lib.hid hat; have HGR := Lib.hid hgrow; clear hown hat hgrow)
  have e0 : giveE gs xs hc hg = 0 := by unfold giveE; rw [if_neg (by rw [HR.out]; decide), if_neg (by rw [HGD.out]; decide)]
  have e1 : giveX gs xs hc hg = xs ++ [hc] := by unfold giveX; rw [if_pos e0]
  have e2 : (giveX gs xs hc hg).length = xs.length + 1 := by rw [e1]; simp
  refine bodyPost_ret (v := .tuple #[.agg #[.slice A1 gs.length c1, .slice A5 (xs.length + 1) c5], .int .i64 0]) (by simp [results, Try.results8, go_sem, hc3, hc2, hc1, g1, g3, l0, l1, l2, m0, m1, m2, p0, p1, p2, p3, p4, p5, p6, p7, p8]) rfl
    ⟨A1, c1, A5, c5, ?_, ?_, ?_, ?_, HO1.out.from.mono (by simp; omega), HOW.out.from.mono (by simp; omega)⟩
  · rw [e2, e0]
  · have h3 := (((HO1.out.ext ((((Ext.refl _).alloc _).trans HE2.out).trans HE3.out)).ext ((Ext.refl w3).alloc (.cells #[.int .i64 hc] 3))).kept HGR.out (by
      cases hA : Value.ownBlock (.slice A1 gs.length c1) with
      | none => exact .inl rfl
      | some g => exact .inr (fun e => HD1.out g hA e.symm)))
    have h4 := h3.setOther (p := ⟨w1.heap.size, 1, none⟩) (fun e => by have := (HO1.out.lt _ e).2; simp at this) (.slice A5 (xs.length + 1) c5)
    exact ((h4.setBelow (by simp) _).setBelow (by simp) _).ints
  · rw [e2, e1]
    have h3 := HOW.out
    have h4 := h3.setOther (p := ⟨w1.heap.size, 1, none⟩) (fun e => by
      rcases HAT.out with h | h
      · rw [h] at e; exact Q1.out e.symm
      · rw [h] at e; simp at e; omega) (.slice A5 (xs.length + 1) c5)
    have h5 := ((h4.setBelow (p := ⟨w.heap.size + 1 + 1, 0, none⟩) (by simp) (.slice A1 gs.length c1)).setBelow (p := ⟨w.heap.size + 1 + 1, 1, none⟩) (by simp) (.slice A5 (xs.length + 1) c5)).ints
    simpa using h5
  · have hX := (((((Ext.refl w).alloc _).alloc _).alloc _).trans ((HE1.out.alloc _).trans HE2.out)).trans HE3.out
    have hX' := (hX.alloc (.cells #[.int .i64 hc] 3)).grown HGR.out (fun k hk => by have := (HLT.out k hk).1; omega)
    exact ((hX'.setCell (by simp; omega) _).setCell (by simp; omega) _).setCell (by simp; omega) _

theorem give_far (A B : Option Addr) (c d : Nat) (gs xs : List Int) (hc hg : Int) (w : World) (h : Ints w (.slice A gs.length c) gs) (h' : Ints w (.slice B xs.length d) xs) (hl : gs.length ≤ 300) (hl' : xs.length ≤ 300)
    (bc : -9223372036854775808 ≤ hc ∧ hc ≤ 9223372036854775807) :
    Calls Try.prog 8 #[.agg #[.slice A gs.length c, .slice B xs.length d], .agg #[.int .i64 hc, .int .i64 hg]] w (GiveFar w gs xs hc hg) := by
  cases hr : rightB gs xs with
  | false => exact give_no A B c d gs xs hc hg w h h' hl hl' hr
  | true =>
    cases hgd : goodB gs xs hc hg with
    | false => exact give_stale A B c d gs xs hc hg w h h' hl hl' hr hgd bc
    | true => exact give_ok A B c d gs xs hc hg w h h' hl hl' hr hgd bc
theorem give_any (A B : Option Addr) (c d : Nat) (gs xs : List Int) (hc hg : Int) (w : World) (h : Ints w (.slice A gs.length c) gs) (h' : Ints w (.slice B xs.length d) xs) (hl : gs.length ≤ 300) (hl' : xs.length ≤ 300)
    (bc : -9223372036854775808 ≤ hc ∧ hc ≤ 9223372036854775807) :
    Calls Try.prog 8 #[.agg #[.slice A gs.length c, .slice B xs.length d], .agg #[.int .i64 hc, .int .i64 hg]] w (GiveSaid w gs xs hc hg) :=
  (give_far A B c d gs xs hc hg w h h' hl hl' bc).mono fun _ _ ⟨A, c, B, d, he, hi, hj, hE, _⟩ => ⟨A, c, B, d, he, hi, hj, hE⟩
end Go.Proofs.Ytbkheglogmkbgaa
