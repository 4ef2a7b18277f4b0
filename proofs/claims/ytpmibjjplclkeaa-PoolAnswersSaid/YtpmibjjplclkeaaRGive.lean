/- The document's own answers: a cell is given back. -/
import Derived.Test.YtpmibjjplclkeaaPair
import Derived.Test.YtpmibjjplclkeaaRGood
namespace Go.Proofs.Ytpmibjjplclkeaa
open Go.RowKit Go.Proofs.Ytpmibjjplclkeaa.Plain

theorem intsOne {w : World} {x : Nat} {n : Int} (h : w.heap[x]? = some (.cells #[.int .i64 n] 3 (0, 0))) (hb : -9223372036854775808 ≤ n ∧ n ≤ 9223372036854775807) : Ints w (.slice (some ⟨x, 0, none⟩) 1 1) [n] := by
  refine ⟨by simp [maxLen], by simpa using hb, _, 1, rfl, by simp, fun _ => ⟨x, 0, rfl, fun j hj => ?_⟩⟩
  obtain rfl : j = 0 := by simp at hj; omega
  exact (cell_of_row _ _ _ _ _ _ h).trans rfl

set_option maxHeartbeats 800000 in
theorem rgive_no (A B : Option Addr) (c d : Nat) (gs xs : List Int) (hc hg : Int) (w : World) (h : Ints w (.slice A gs.length c) gs) (h' : Ints w (.slice B xs.length d) xs) (hl : gs.length ≤ 300) (hl' : xs.length ≤ 300) (hr : rightB gs xs = false) :
    Calls Try.prog 12 #[.agg #[.slice A gs.length c, .slice B xs.length d], .agg #[.int .i64 hc, .int .i64 hg]] w (GiveSaid w gs xs hc hg) := by
  have HG := Lib.hid h
  have HX := Lib.hid h'
  have HR := Lib.hid hr
  clear h h' hr
  go_enter Try.func12, Try.ntmps12
  go_wp2_with fail
  refine (rright_any _ _ _ _ _ _ _ (HG.out.ext ((((Ext.refl w).alloc _).alloc _).alloc _)) (HX.out.ext ((((Ext.refl w).alloc _).alloc _).alloc _))).mono ?_
  rw [HR.out]
  rintro e w1 ⟨rfl, hE1⟩
  obtain ⟨hc1, hf1⟩ := bcell hE1
  have hz1 := hE1.size
  simp at hz1
  have l0 : w.heap.size < w1.heap.size := by omega
  have l1 : w.heap.size + 1 < w1.heap.size := by omega
  have l2 : w.heap.size + 1 + 1 < w1.heap.size := by omega
  have HE1 := Lib.hid (((((Ext.refl w).alloc _).alloc _).alloc _).trans hE1)
  go_wp2
  refine bodyPost_ret (v := .tuple #[.agg #[.slice A gs.length c, .slice B xs.length d], .int .i64 1]) (by simp [results, Try.results12, go_sem, hc1, l0, l1, l2]) rfl
    (giveSaid_err (by unfold giveE; rw [if_pos HR.out]) (by decide) ?_ ?_ ?_)
  · exact ((HG.out.ext HE1.out).setNot (p := ⟨w.heap.size + 1 + 1, 0, none⟩) (u := .slice none 0 0) (by go_simp) (by intro k n; simp) _).setNot (p := ⟨w.heap.size + 1 + 1, 1, none⟩) (u := .slice none 0 0) (by go_simp) (by intro k n; simp) _
  · exact ((HX.out.ext HE1.out).setNot (p := ⟨w.heap.size + 1 + 1, 0, none⟩) (u := .slice none 0 0) (by go_simp) (by intro k n; simp) _).setNot (p := ⟨w.heap.size + 1 + 1, 1, none⟩) (u := .slice none 0 0) (by go_simp) (by intro k n; simp) _
  · exact (HE1.out.setCell (by simp; try omega) _).setCell (by simp; try omega) _

set_option maxHeartbeats 800000 in
theorem rgive_stale (A B : Option Addr) (c d : Nat) (gs xs : List Int) (hc hg : Int) (w : World) (h : Ints w (.slice A gs.length c) gs) (h' : Ints w (.slice B xs.length d) xs) (hl : gs.length ≤ 300) (hl' : xs.length ≤ 300) (hr : rightB gs xs = true) (hgd : goodB gs xs hc hg = false) (bc : -9223372036854775808 ≤ hc ∧ hc ≤ 9223372036854775807) (bg : -9223372036854775808 ≤ hg ∧ hg ≤ 9223372036854775807) :
    Calls Try.prog 12 #[.agg #[.slice A gs.length c, .slice B xs.length d], .agg #[.int .i64 hc, .int .i64 hg]] w (GiveSaid w gs xs hc hg) := by
  have HGD := Lib.hid hgd
  clear hgd
  have HG := Lib.hid h
  have HX := Lib.hid h'
  have HR := Lib.hid hr
  clear h h' hr
  go_enter Try.func12, Try.ntmps12
  go_wp2_with fail
  refine (rright_any _ _ _ _ _ _ _ (HG.out.ext ((((Ext.refl w).alloc _).alloc _).alloc _)) (HX.out.ext ((((Ext.refl w).alloc _).alloc _).alloc _))).mono ?_
  rw [HR.out]
  rintro e w1 ⟨rfl, hE1⟩
  obtain ⟨hc1, hf1⟩ := bcell hE1
  have hz1 := hE1.size
  simp at hz1
  have l0 : w.heap.size < w1.heap.size := by omega
  have l1 : w.heap.size + 1 < w1.heap.size := by omega
  have l2 : w.heap.size + 1 + 1 < w1.heap.size := by omega
  have HE1 := Lib.hid (((((Ext.refl w).alloc _).alloc _).alloc _).trans hE1)
  clear hE1
  go_wp2_with fail
  refine (rgood_any _ _ _ _ _ _ _ _ _ (HG.out.ext HE1.out) (HX.out.ext HE1.out) (by omega) bc bg).mono ?_
  rw [HR.out, HGD.out]
  rintro e w2 ⟨rfl, hE2⟩
  have c0 : w2.cell? ⟨w.heap.size, 0, none⟩ = some (.slice A gs.length c) := hE2.cell (by go_simp)
  have c1 : w2.cell? ⟨w.heap.size, 1, none⟩ = some (.slice B xs.length d) := hE2.cell (by go_simp)
  have c2 : w2.cell? ⟨w.heap.size + 1, 0, none⟩ = some (.int .i64 hc) := hE2.cell (by go_simp)
  have c3 : w2.cell? ⟨w.heap.size + 1 + 1, 0, none⟩ = some (.slice none 0 0) := hE2.cell (by go_simp)
  have c4 : w2.cell? ⟨w.heap.size + 1 + 1, 1, none⟩ = some (.slice none 0 0) := hE2.cell (by go_simp)
  have c5 : ∀ o, w2.frozen? ⟨w.heap.size + 1 + 1, o, none⟩ = false := fun o => (Below.frozen hE2 (p := ⟨w.heap.size + 1 + 1, o, none⟩) l2).trans (by rw [hf1 _ _ (by simp)]; exact frozen_of_row _ _ o _ _ (hp_new (by simp)))
  have hz2 := hE2.size
  have p0 : w.heap.size < w2.heap.size := by omega
  have p1 : w.heap.size + 1 < w2.heap.size := by omega
  have p2 : w.heap.size + 1 + 1 < w2.heap.size := by omega
  have n1 : w.heap.size + 1 + 1 ≠ w.heap.size := by omega
  have n2 : w.heap.size ≠ w.heap.size + 1 + 1 := by omega
  have HE2 := Lib.hid (HE1.out.trans hE2)
  clear hE2 hc1 hf1
  go_wp2
  refine bodyPost_ret (v := .tuple #[.agg #[.slice A gs.length c, .slice B xs.length d], .int .i64 3]) (by simp [results, Try.results12, go_sem, c3, c4]) rfl
    (giveSaid_err (by unfold giveE; rw [if_neg (by rw [HR.out]; decide), if_pos HGD.out]) (by decide) ?_ ?_ ?_)
  · exact ((HG.out.ext HE2.out).setNot (p := ⟨w.heap.size + 1 + 1, 0, none⟩) (u := .slice none 0 0) (by go_simp) (by intro k n; simp) _).setNot (p := ⟨w.heap.size + 1 + 1, 1, none⟩) (u := .slice none 0 0) (by go_simp) (by intro k n; simp) _
  · exact ((HX.out.ext HE2.out).setNot (p := ⟨w.heap.size + 1 + 1, 0, none⟩) (u := .slice none 0 0) (by go_simp) (by intro k n; simp) _).setNot (p := ⟨w.heap.size + 1 + 1, 1, none⟩) (u := .slice none 0 0) (by go_simp) (by intro k n; simp) _
  · exact (HE2.out.setCell (by simp; try omega) _).setCell (by simp; try omega) _

set_option maxHeartbeats 4000000 in
set_option maxRecDepth 100000 in
theorem rgive_ok (A B : Option Addr) (c d : Nat) (gs xs : List Int) (hc hg : Int) (w : World) (h : Ints w (.slice A gs.length c) gs) (h' : Ints w (.slice B xs.length d) xs) (hl : gs.length ≤ 300) (hl' : xs.length ≤ 300) (hr : rightB gs xs = true) (hgd : goodB gs xs hc hg = true) (bc : -9223372036854775808 ≤ hc ∧ hc ≤ 9223372036854775807) (bg : -9223372036854775808 ≤ hg ∧ hg ≤ 9223372036854775807) :
    Calls Try.prog 12 #[.agg #[.slice A gs.length c, .slice B xs.length d], .agg #[.int .i64 hc, .int .i64 hg]] w (GiveSaid w gs xs hc hg) := by
  have HGD := Lib.hid hgd
  clear hgd
  have HG := Lib.hid h
  have HX := Lib.hid h'
  have HR := Lib.hid hr
  clear h h' hr
  go_enter Try.func12, Try.ntmps12
  go_wp2_with fail
  refine (rright_any _ _ _ _ _ _ _ (HG.out.ext ((((Ext.refl w).alloc _).alloc _).alloc _)) (HX.out.ext ((((Ext.refl w).alloc _).alloc _).alloc _))).mono ?_
  rw [HR.out]
  rintro e w1 ⟨rfl, hE1⟩
  obtain ⟨hc1, hf1⟩ := bcell hE1
  have hz1 := hE1.size
  simp at hz1
  have l0 : w.heap.size < w1.heap.size := by omega
  have l1 : w.heap.size + 1 < w1.heap.size := by omega
  have l2 : w.heap.size + 1 + 1 < w1.heap.size := by omega
  have HE1 := Lib.hid (((((Ext.refl w).alloc _).alloc _).alloc _).trans hE1)
  clear hE1
  go_wp2_with fail
  refine (rgood_any _ _ _ _ _ _ _ _ _ (HG.out.ext HE1.out) (HX.out.ext HE1.out) (by omega) bc bg).mono ?_
  rw [HR.out, HGD.out]
  rintro e w2 ⟨rfl, hE2⟩
  have c0 : w2.cell? ⟨w.heap.size, 0, none⟩ = some (.slice A gs.length c) := hE2.cell (by go_simp)
  have c1 : w2.cell? ⟨w.heap.size, 1, none⟩ = some (.slice B xs.length d) := hE2.cell (by go_simp)
  have c2 : w2.cell? ⟨w.heap.size + 1, 0, none⟩ = some (.int .i64 hc) := hE2.cell (by go_simp)
  have c3 : w2.cell? ⟨w.heap.size + 1 + 1, 0, none⟩ = some (.slice none 0 0) := hE2.cell (by go_simp)
  have c4 : w2.cell? ⟨w.heap.size + 1 + 1, 1, none⟩ = some (.slice none 0 0) := hE2.cell (by go_simp)
  have c5 : ∀ o, w2.frozen? ⟨w.heap.size + 1 + 1, o, none⟩ = false := fun o => (Below.frozen hE2 (p := ⟨w.heap.size + 1 + 1, o, none⟩) l2).trans (by rw [hf1 _ _ (by simp)]; exact frozen_of_row _ _ o _ _ (hp_new (by simp)))
  have hz2 := hE2.size
  have p0 : w.heap.size < w2.heap.size := by omega
  have p1 : w.heap.size + 1 < w2.heap.size := by omega
  have p2 : w.heap.size + 1 + 1 < w2.heap.size := by omega
  have n1 : w.heap.size + 1 + 1 ≠ w.heap.size := by omega
  have n2 : w.heap.size ≠ w.heap.size + 1 + 1 := by omega
  have HE2 := Lib.hid (HE1.out.trans hE2)
  clear hE2 hc1 hf1
  go_wp2_with fail
  go_region_held3 (fun w' => w'.cell? ⟨w.heap.size, 0, none⟩ = some (.slice A gs.length c) ∧ w'.cell? ⟨w.heap.size, 1, none⟩ = some (.slice B xs.length d) ∧ w'.cell? ⟨w.heap.size + 1, 0, none⟩ = some (.int .i64 hc))
    (first | go_keep | exact ⟨k61, k62, k63⟩ | exact ⟨k51, k52, k53⟩ | exact ⟨(World.cell?_setCell_other _ _ _ _ (by intro h; injection h with h1; omega)).trans ((World.cell?_setCell_other _ _ _ _ (by intro h; injection h with h1; omega)).trans k61), (World.cell?_setCell_other _ _ _ _ (by intro h; injection h with h1; omega)).trans ((World.cell?_setCell_other _ _ _ _ (by intro h; injection h with h1; omega)).trans k62), (World.cell?_setCell_other _ _ _ _ (by intro h; injection h with h1; omega)).trans ((World.cell?_setCell_other _ _ _ _ (by intro h; injection h with h1; omega)).trans k63)⟩ | (trace_state; fail))
    (first
      | (refine step_app rfl _ _ rfl rfl _ _ [] rfl (ownEmpty (by repeat (first | exact hp_new (by simp; done) | refine (hp_old (by first | omega | (simp; done) | (simp; omega))).trans ?_ | refine (gb5 _ (by first | omega | (simp; done) | (simp; omega)) (by first | omega | (simp; done) | (simp; omega))).trans ?_))) _ xs rfl (HX.out.ext (HE2.out.trans (by repeat (first | exact Ext.refl _ | assumption | apply Ext.alloc | apply Ext.drew)))) (by simp; omega) (by first | omega | (simp; done) | (simp; omega)) ?_
         intro u5 w5 hown5 hgrow5 hat5
         obtain ⟨gc5, gf5, gb5⟩ := growAll hgrow5
         have hX5 := ext_app (w0 := w2) (by repeat (first | exact Ext.refl _ | assumption | apply Ext.alloc | apply Ext.drew)) (by first | omega | (simp; done) | (simp; omega)) hgrow5
         have zz5 := hX5.size
         have yy5 := hgrow5.size
         try simp at yy5
         obtain ⟨A5, e5, hu5, _⟩ := hown5.shape
         simp only [List.nil_append] at hu5 hown5
         subst hu5
         have k51 := hX5.cell c0
         have k52 := hX5.cell c1
         have k53 := hX5.cell c2)
      | (refine step_app rfl _ _ rfl rfl _ _ xs rfl (hown5.ext (by repeat (first | exact Ext.refl _ | assumption | apply Ext.alloc | apply Ext.drew))) _ [hc] rfl (intsOne (by repeat (first | exact hp_new (by simp; done) | refine (hp_old (by first | omega | (simp; done) | (simp; omega))).trans ?_ | refine (gb5 _ (by first | omega | (simp; done) | (simp; omega)) (by first | omega | (simp; done) | (simp; omega))).trans ?_)) bc) (by simp; omega) (by first | omega | (simp; done) | (simp; omega)) ?_
         intro u6 w6 hown6 hgrow6 hat6
         have hX6 : Ext w2 w6 := Ext.grown (by repeat (first | exact Ext.refl _ | assumption | apply Ext.alloc | apply Ext.drew)) hgrow6 (fun k hk => by have := (hown5.lt k hk).1; first | omega | (simp at this; omega))
         obtain ⟨A6, e6, hu6, _⟩ := hown6.shape
         have hl6 : (xs ++ [hc]).length = xs.length + 1 := by simp
         rw [hl6] at hu6
         subst hu6
         have k61 := hX6.cell c0
         have k62 := hX6.cell c1
         have k63 := hX6.cell c2
         have k64 := hX6.cell c3
         have k65 := hX6.cell c4
         have k66 : ∀ o, w6.frozen? ⟨w.heap.size + 1 + 1, o, none⟩ = false := fun o => (Below.frozen hX6 (p := ⟨w.heap.size + 1 + 1, o, none⟩) p2).trans (c5 o)
         have HO6 := Lib.hid hown6
         have HX6 := Lib.hid hX6
         clear hown6 hX6 hgrow6 hat6 hl6))
  all_goals
    go_wp2
    have e0 : giveE gs xs hc hg = 0 := by unfold giveE; rw [if_neg (by rw [HR.out]; decide), if_neg (by rw [HGD.out]; decide)]
    have e1 : giveX gs xs hc hg = xs ++ [hc] := by unfold giveX; rw [if_pos e0]
    have e2 : (giveX gs xs hc hg).length = xs.length + 1 := by rw [e1]; simp
    refine bodyPost_ret (v := .tuple #[.agg #[.slice A gs.length c, .slice A6 (xs.length + 1) e6], .int .i64 0]) (by simp [results, Try.results12, go_sem, k64, k65]) rfl ⟨A, c, A6, e6, ?_, ?_, ?_, ?_⟩
    · rw [e2, e0]
    · exact ((HG.out.ext (HE2.out.trans HX6.out)).setNot (p := ⟨w.heap.size + 1 + 1, 0, none⟩) (u := .slice none 0 0) k64 (by intro k n; simp) _).setNot (p := ⟨w.heap.size + 1 + 1, 1, none⟩) (u := .slice none 0 0) (by go_simp) (by intro k n; simp) _
    · rw [e2, e1]
      exact ((HO6.out.setBelow (p := ⟨w.heap.size + 1 + 1, 0, none⟩) (by first | omega | (simp; omega)) (.slice A gs.length c)).setBelow (p := ⟨w.heap.size + 1 + 1, 1, none⟩) (by first | omega | (simp; omega)) (.slice A6 (xs.length + 1) e6)).ints
    · exact (((HE2.out.trans HX6.out).setCell (p := ⟨w.heap.size + 1 + 1, 0, none⟩) (by simp; omega) _).setCell (p := ⟨w.heap.size + 1 + 1, 1, none⟩) (by simp; omega) _)

theorem rgive_any (A B : Option Addr) (c d : Nat) (gs xs : List Int) (hc hg : Int) (w : World) (h : Ints w (.slice A gs.length c) gs) (h' : Ints w (.slice B xs.length d) xs) (hl : gs.length ≤ 300) (hl' : xs.length ≤ 300)
    (bc : -9223372036854775808 ≤ hc ∧ hc ≤ 9223372036854775807) (bg : -9223372036854775808 ≤ hg ∧ hg ≤ 9223372036854775807) :
    Calls Try.prog 12 #[.agg #[.slice A gs.length c, .slice B xs.length d], .agg #[.int .i64 hc, .int .i64 hg]] w (GiveSaid w gs xs hc hg) := by
  cases hr : rightB gs xs with
  | false => exact rgive_no A B c d gs xs hc hg w h h' hl hl' hr
  | true =>
    cases hgd : goodB gs xs hc hg with
    | false => exact rgive_stale A B c d gs xs hc hg w h h' hl hl' hr hgd bc bg
    | true => exact rgive_ok A B c d gs xs hc hg w h h' hl hl' hr hgd bc bg
end Go.Proofs.Ytpmibjjplclkeaa
