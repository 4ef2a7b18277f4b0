/- A cell is taken. -/
import Derived.Test.YtbkheglogmkbgaaFree
namespace Go.Proofs.Ytbkheglogmkbgaa
open Go.RowKit Go.Proofs.Ytbkheglogmkbgaa.Plain

/-- what Take and its like leave -/
def TakeSaid (w : World) (gs xs : List Int) (e : Ending) (w' : World) : Prop :=
  ∃ A c B d, e = .returned (.tuple #[.agg #[.slice A (takeG gs xs).length c, .slice B (takeX gs xs).length d], .agg #[.int .i64 (takeC gs xs), .int .i64 (takeN gs xs)], .int .i64 (takeE gs xs)]) ∧
    Ints w' (.slice A (takeG gs xs).length c) (takeG gs xs) ∧ Ints w' (.slice B (takeX gs xs).length d) (takeX gs xs) ∧ Ext w w'

/-- .. in memory of its own -/
def TakeFar (w : World) (gs xs : List Int) (e : Ending) (w' : World) : Prop :=
  ∃ A c B d, e = .returned (.tuple #[.agg #[.slice A (takeG gs xs).length c, .slice B (takeX gs xs).length d], .agg #[.int .i64 (takeC gs xs), .int .i64 (takeN gs xs)], .int .i64 (takeE gs xs)]) ∧
    Ints w' (.slice A (takeG gs xs).length c) (takeG gs xs) ∧ Ints w' (.slice B (takeX gs xs).length d) (takeX gs xs) ∧ Ext w w' ∧ From w.heap.size A ∧ From w.heap.size B

theorem takeSaid_err {w w' : World} {gs xs : List Int} {E : Int} {A B : Option Addr} {c d : Nat} (hE : takeE gs xs = E) (h0 : E ≠ 0) (h1 : Ints w' (.slice A gs.length c) gs) (h2 : Ints w' (.slice B xs.length d) xs) (hx : Ext w w') (hA : From w.heap.size A) (hB : From w.heap.size B) :
    TakeFar w gs xs (.returned (.tuple #[.agg #[.slice A gs.length c, .slice B xs.length d], .agg #[.int .i64 0, .int .i64 0], .int .i64 E])) w' := by
  have hG : takeG gs xs = gs := by unfold takeG; rw [if_neg (by omega)]
  have hX : takeX gs xs = xs := by unfold takeX; rw [if_neg (by omega)]
  have hC : takeC gs xs = 0 := by unfold takeC; rw [if_neg (by omega)]
  have hN : takeN gs xs = 0 := by unfold takeN; rw [if_neg (by omega)]
  refine ⟨A, c, B, d, ?_, ?_, ?_, hx, hA, hB⟩
  · rw [hG, hX, hC, hN, hE]
  · rw [hG]; exact h1
  · rw [hX]; exact h2

set_option maxHeartbeats 800000 in
theorem take_no (A B : Option Addr) (c d : Nat) (gs xs : List Int) (w : World) (h : Ints w (.slice A gs.length c) gs) (h' : Ints w (.slice B xs.length d) xs) (hl : gs.length ≤ 300) (hl' : xs.length ≤ 300)
    (hr : rightB gs xs = false) : Calls Try.prog 7 #[.agg #[.slice A gs.length c, .slice B xs.length d]] w (TakeFar w gs xs) := by
  have HG := Lib.hid h
  have HX := Lib.hid h'
  have HR := Lib.hid hr
  clear h h' hr
  go_enter Try.func7, Try.ntmps7
  go_wp2_with fail
  refine (copied_any _ _ _ _ _ (HG.out.ext ((((Ext.refl w).alloc _).alloc _).alloc _)) (HX.out.ext ((((Ext.refl w).alloc _).alloc _).alloc _)) (by omega) (by omega)).mono ?_
  rintro e w1 ⟨A1, c1, B1, d1, rfl, ho1, ho2, hE1, hd1⟩
  obtain ⟨hc1, hf1⟩ := bcell hE1
  have hz1 := hE1.size
  simp at hz1
  have l0 : w.heap.size < w1.heap.size := by omega
  have l1 : w.heap.size + 1 < w1.heap.size := by omega
  have l2 : w.heap.size + 1 + 1 < w1.heap.size := by omega
  have HO1 := Lib.hid ho1
  have HO2 := Lib.hid ho2
  have HE1 := Lib.hid hE1
  clear ho1 ho2 hE1 hd1
  go_wp2_with fail
  refine (right_any _ _ _ _ _ _ _ (HG.out.ext ((((((Ext.refl w).alloc _).alloc _).alloc _).trans HE1.out).alloc _)) (HX.out.ext ((((((Ext.refl w).alloc _).alloc _).alloc _).trans HE1.out).alloc _))).mono ?_
  rw [HR.out]
  rintro e w2 ⟨rfl, hE2⟩
  obtain ⟨hc2, hf2⟩ := bcell hE2
  have hz2 := hE2.size
  simp at hz2
  have m0 : w.heap.size < w1.heap.size + 1 := by omega
  have m1 : w.heap.size + 1 < w1.heap.size + 1 := by omega
  have m2 : w.heap.size + 1 + 1 < w1.heap.size + 1 := by omega
  go_wp2
  have hX := ((((Ext.refl w).alloc _).alloc _).alloc _).trans ((HE1.out.alloc _).trans hE2)
  refine bodyPost_ret (v := .tuple #[.agg #[.slice A1 gs.length c1, .slice B1 xs.length d1], .agg #[.int .i64 0, .int .i64 0], .int .i64 1]) (by simp [results, Try.results7, go_sem, hc2, hc1, l0, l1, l2, m0, m1, m2]) rfl
    (takeSaid_err (by unfold takeE; rw [if_pos HR.out]) (by decide) ?_ ?_ ?_ (HO1.out.from.mono (by simp; omega)) (HO2.out.from.mono (by simp; omega)))
  · exact (((((HO1.out.ext (((Ext.refl _).alloc _).trans hE2)).setBelow (by simp) _).setBelow (by simp) _).setBelow (by simp) _).setBelow (by simp) _).ints
  · exact (((((HO2.out.ext (((Ext.refl _).alloc _).trans hE2)).setBelow (by simp) _).setBelow (by simp) _).setBelow (by simp) _).setBelow (by simp) _).ints
  · exact (((hX.setCell (by simp) _).setCell (by simp) _).setCell (by simp; omega) _).setCell (by simp; omega) _
set_option maxHeartbeats 800000 in
theorem take_empty (A B : Option Addr) (c d : Nat) (gs xs : List Int) (w : World) (h : Ints w (.slice A gs.length c) gs) (h' : Ints w (.slice B xs.length d) xs) (hl : gs.length ≤ 300) (hl' : xs.length ≤ 300)
    (hr : rightB gs xs = true) (hx0 : xs.length < 1) : Calls Try.prog 7 #[.agg #[.slice A gs.length c, .slice B xs.length d]] w (TakeFar w gs xs) := by
  have HE : Hid (takeE gs xs = 2) := Lib.hid (by unfold takeE; rw [if_neg (by rw [hr]; decide), if_pos (by omega)])
  have HG := Lib.hid h
  have HX := Lib.hid h'
  have HR := Lib.hid hr
  clear h h' hr
  go_enter Try.func7, Try.ntmps7
  go_wp2_with fail
  refine (copied_any _ _ _ _ _ (HG.out.ext ((((Ext.refl w).alloc _).alloc _).alloc _)) (HX.out.ext ((((Ext.refl w).alloc _).alloc _).alloc _)) (by omega) (by omega)).mono ?_
  rintro e w1 ⟨A1, c1, B1, d1, rfl, ho1, ho2, hE1, hd1⟩
  obtain ⟨hc1, hf1⟩ := bcell hE1
  have hz1 := hE1.size
  simp at hz1
  have l0 : w.heap.size < w1.heap.size := by omega
  have l1 : w.heap.size + 1 < w1.heap.size := by omega
  have l2 : w.heap.size + 1 + 1 < w1.heap.size := by omega
  have HO1 := Lib.hid ho1
  have HO2 := Lib.hid ho2
  have HE1 := Lib.hid hE1
  have HD1 := Lib.hid hd1
  clear ho1 ho2 hE1 hd1
  go_wp2_with fail
  refine (right_any _ _ _ _ _ _ _ (HG.out.ext ((((((Ext.refl w).alloc _).alloc _).alloc _).trans HE1.out).alloc _)) (HX.out.ext ((((((Ext.refl w).alloc _).alloc _).alloc _).trans HE1.out).alloc _))).mono ?_
  rw [HR.out]
  rintro e w2 ⟨rfl, hE2⟩
  obtain ⟨hc2, hf2⟩ := bcell hE2
  have hz2 := hE2.size
  simp at hz2
  have m0 : w.heap.size < w1.heap.size + 1 := by omega
  have m1 : w.heap.size + 1 < w1.heap.size + 1 := by omega
  have m2 : w.heap.size + 1 + 1 < w1.heap.size + 1 := by omega
  go_wp2
  have hX := ((((Ext.refl w).alloc _).alloc _).alloc _).trans ((HE1.out.alloc _).trans hE2)
  refine bodyPost_ret (v := .tuple #[.agg #[.slice A1 gs.length c1, .slice B1 xs.length d1], .agg #[.int .i64 0, .int .i64 0], .int .i64 2]) (by simp [results, Try.results7, go_sem, hc2, hc1, l0, l1, l2, m0, m1, m2]) rfl
    (takeSaid_err HE.out (by decide) ?_ ?_ ?_ (HO1.out.from.mono (by simp; omega)) (HO2.out.from.mono (by simp; omega)))
  · exact (((((HO1.out.ext (((Ext.refl _).alloc _).trans hE2)).setBelow (by simp) _).setBelow (by simp) _).setBelow (by simp) _).setBelow (by simp) _).ints
  · exact (((((HO2.out.ext (((Ext.refl _).alloc _).trans hE2)).setBelow (by simp) _).setBelow (by simp) _).setBelow (by simp) _).setBelow (by simp) _).ints
  · exact (((hX.setCell (by simp) _).setCell (by simp) _).setCell (by simp; omega) _).setCell (by simp; omega) _

set_option maxHeartbeats 800000 in
theorem take_old (A B : Option Addr) (c d : Nat) (gs xs : List Int) (w : World) (h : Ints w (.slice A gs.length c) gs) (h' : Ints w (.slice B xs.length d) xs) (hl : gs.length ≤ 300) (hl' : xs.length ≤ 300)
    (hr : rightB gs xs = true) (hx0 : 0 < xs.length) (hx1 : gs.getD (lastD xs).toNat 0 = 1073741824) : Calls Try.prog 7 #[.agg #[.slice A gs.length c, .slice B xs.length d]] w (TakeFar w gs xs) := by
  obtain ⟨h1g, h1g', hgb, hnd, hin, hle⟩ := right_parts gs xs hr
  have hlm := hin _ (last_mem xs hx0)
  have HL : Hid (lastD xs = xs.getD (xs.length - 1) 0) := Lib.hid rfl
  obtain ⟨q, hq⟩ : ∃ q : Nat, lastD xs = q := ⟨(lastD xs).toNat, by omega⟩
  have hql : q < gs.length := by omega
  have HQ := Lib.hid hq
  have hgq := hgb q hql
  have HIN := Lib.hid hin
  have HGB := Lib.hid hgb
  have HND := Lib.hid hnd
  clear hlm hin hgb hnd
  have HE : Hid (takeE gs xs = 2) := Lib.hid (by unfold takeE; rw [if_neg (by rw [hr]; decide), if_neg (by omega), HQ.out, Int.toNat_natCast, if_pos (by rw [HQ.out, Int.toNat_natCast] at hx1; exact hx1)])
  have hy : gs.getD q 0 = 1073741824 := by rw [HQ.out, Int.toNat_natCast] at hx1; exact hx1
  have HY := Lib.hid hy
  clear hx1 hq hy
  have HG := Lib.hid h
  have HX := Lib.hid h'
  have HR := Lib.hid hr
  clear h h' hr
  go_enter Try.func7, Try.ntmps7
  go_wp2_with fail
  refine (copied_any _ _ _ _ _ (HG.out.ext ((((Ext.refl w).alloc _).alloc _).alloc _)) (HX.out.ext ((((Ext.refl w).alloc _).alloc _).alloc _)) (by omega) (by omega)).mono ?_
  rintro e w1 ⟨A1, c1, B1, d1, rfl, ho1, ho2, hE1, hd1⟩
  obtain ⟨hc1, hf1⟩ := bcell hE1
  have hz1 := hE1.size
  simp at hz1
  have l0 : w.heap.size < w1.heap.size := by omega
  have l1 : w.heap.size + 1 < w1.heap.size := by omega
  have l2 : w.heap.size + 1 + 1 < w1.heap.size := by omega
  have HO1 := Lib.hid ho1
  have HO2 := Lib.hid ho2
  have HE1 := Lib.hid hE1
  have HD1 := Lib.hid hd1
  obtain ⟨g, rfl, hgB, hgw, hgc, hgf, hgs⟩ := ho1.pos h1g
  obtain ⟨f, rfl, hfB, hfw, hfc, hff, hfs⟩ := ho2.pos hx0
  simp at hgB hfB
  have kg := hgc q hql
  rw [HY.out] at kg
  have kf := hfc (xs.length - 1) (by omega)
  rw [← HL.out, HQ.out] at kf
  have HGS := Lib.hid hgs
  have hfg := hgf q
  clear hgc hgs hfc hfs hgf hff
  clear ho1 ho2 hE1 hd1
  go_wp2_with fail
  refine (right_any _ _ _ _ _ _ _ (HG.out.ext ((((((Ext.refl w).alloc _).alloc _).alloc _).trans HE1.out).alloc _)) (HX.out.ext ((((((Ext.refl w).alloc _).alloc _).alloc _).trans HE1.out).alloc _))).mono ?_
  rw [HR.out]
  rintro e w2 ⟨rfl, hE2⟩
  obtain ⟨hc2, hf2⟩ := bcell hE2
  have hz2 := hE2.size
  simp at hz2
  have m0 : w.heap.size < w1.heap.size + 1 := by omega
  have m1 : w.heap.size + 1 < w1.heap.size + 1 := by omega
  have m2 : w.heap.size + 1 + 1 < w1.heap.size + 1 := by omega
  go_wp2
  have hX := ((((Ext.refl w).alloc _).alloc _).alloc _).trans ((HE1.out.alloc _).trans hE2)
  refine bodyPost_ret (v := .tuple #[.agg #[.slice (some ⟨g, 0, none⟩) gs.length c1, .slice (some ⟨f, 0, none⟩) xs.length d1], .agg #[.int .i64 0, .int .i64 0], .int .i64 2]) (by simp [results, Try.results7, go_sem, hc2, hc1, l0, l1, l2, m0, m1, m2]) rfl
    (takeSaid_err HE.out (by decide) ?_ ?_ ?_ (HO1.out.from.mono (by simp; omega)) (HO2.out.from.mono (by simp; omega)))
  · exact (((((HO1.out.ext (((Ext.refl _).alloc _).trans hE2)).setBelow (by simp) _).setBelow (by simp) _).setBelow (by simp) _).setBelow (by simp) _).ints
  · exact (((((HO2.out.ext (((Ext.refl _).alloc _).trans hE2)).setBelow (by simp) _).setBelow (by simp) _).setBelow (by simp) _).setBelow (by simp) _).ints
  · exact (((hX.setCell (by simp) _).setCell (by simp) _).setCell (by simp; omega) _).setCell (by simp; omega) _
set_option maxHeartbeats 800000 in
theorem take_ok (A B : Option Addr) (c d : Nat) (gs xs : List Int) (w : World) (h : Ints w (.slice A gs.length c) gs) (h' : Ints w (.slice B xs.length d) xs) (hl : gs.length ≤ 300) (hl' : xs.length ≤ 300)
    (hr : rightB gs xs = true) (hx0 : 0 < xs.length) (hx1 : ¬ gs.getD (lastD xs).toNat 0 = 1073741824) : Calls Try.prog 7 #[.agg #[.slice A gs.length c, .slice B xs.length d]] w (TakeFar w gs xs) := by
  obtain ⟨h1g, h1g', hgb, hnd, hin, hle⟩ := right_parts gs xs hr
  have hlm := hin _ (last_mem xs hx0)
  have HL : Hid (lastD xs = xs.getD (xs.length - 1) 0) := Lib.hid rfl
  obtain ⟨q, hq⟩ : ∃ q : Nat, lastD xs = q := ⟨(lastD xs).toNat, by omega⟩
  have hql : q < gs.length := by omega
  have HQ := Lib.hid hq
  have hgq := hgb q hql
  have HIN := Lib.hid hin
  have HGB := Lib.hid hgb
  have HND := Lib.hid hnd
  clear hlm hin hgb hnd
  have HE : Hid (takeE gs xs = 0) := Lib.hid (by unfold takeE; rw [if_neg (by rw [hr]; decide), if_neg (by omega), if_neg hx1])
  obtain ⟨y, hy⟩ : ∃ y, gs.getD q 0 = y := ⟨_, rfl⟩
  have hy1 : (y == 1073741824) = false := by
    rw [HQ.out, Int.toNat_natCast, hy] at hx1
    simpa using hx1
  have hy2 : y < 1073741824 := by
    rw [HQ.out, Int.toNat_natCast, hy] at hx1
    omega
  rw [hy] at hgq
  have HY := Lib.hid hy
  clear hx1 hq hy
  have HG := Lib.hid h
  have HX := Lib.hid h'
  have HR := Lib.hid hr
  clear h h' hr
  go_enter Try.func7, Try.ntmps7
  go_wp2_with fail
  refine (copied_any _ _ _ _ _ (HG.out.ext ((((Ext.refl w).alloc _).alloc _).alloc _)) (HX.out.ext ((((Ext.refl w).alloc _).alloc _).alloc _)) (by omega) (by omega)).mono ?_
  rintro e w1 ⟨A1, c1, B1, d1, rfl, ho1, ho2, hE1, hd1⟩
  obtain ⟨hc1, hf1⟩ := bcell hE1
  have hz1 := hE1.size
  simp at hz1
  have l0 : w.heap.size < w1.heap.size := by omega
  have l1 : w.heap.size + 1 < w1.heap.size := by omega
  have l2 : w.heap.size + 1 + 1 < w1.heap.size := by omega
  have HO1 := Lib.hid ho1
  have HO2 := Lib.hid ho2
  have HE1 := Lib.hid hE1
  have HD1 := Lib.hid hd1
  obtain ⟨g, rfl, hgB, hgw, hgc, hgf, hgs⟩ := ho1.pos h1g
  obtain ⟨f, rfl, hfB, hfw, hfc, hff, hfs⟩ := ho2.pos hx0
  simp at hgB hfB
  have kg := hgc q hql
  rw [HY.out] at kg
  have kf := hfc (xs.length - 1) (by omega)
  rw [← HL.out, HQ.out] at kf
  have HGS := Lib.hid hgs
  have hfg := hgf q
  clear hgc hgs hfc hfs hgf hff
  obtain ⟨_, _, hsh, hdd⟩ := ho2.shape
  have hdd1 : (xs.length : Int) - 1 ≤ (d1 : Int) := by cases hsh; omega
  clear hdd hsh
  clear ho1 ho2 hE1 hd1
  go_wp2_with fail
  refine (right_any _ _ _ _ _ _ _ (HG.out.ext ((((((Ext.refl w).alloc _).alloc _).alloc _).trans HE1.out).alloc _)) (HX.out.ext ((((((Ext.refl w).alloc _).alloc _).alloc _).trans HE1.out).alloc _))).mono ?_
  rw [HR.out]
  rintro e w2 ⟨rfl, hE2⟩
  obtain ⟨hc2, hf2⟩ := bcell hE2
  have hz2 := hE2.size
  simp at hz2
  have m0 : w.heap.size < w1.heap.size + 1 := by omega
  have m1 : w.heap.size + 1 < w1.heap.size + 1 := by omega
  have m2 : w.heap.size + 1 + 1 < w1.heap.size + 1 := by omega
  have kg2 : w2.cell? ⟨g, q, none⟩ = some (.int .i64 y) := by rw [hc2 g q (by simp; omega), World.cell?_alloc_lt _ _ _ hgw]; exact kg
  have n1 : g ≠ w1.heap.size := by omega
  have n2 : w1.heap.size ≠ g := by omega
  have n3 : w.heap.size + 1 ≠ g := by omega
  have n4 : w.heap.size + 1 + 1 ≠ g := by omega
  have n5 : w.heap.size + 1 ≠ w1.heap.size := by omega
  have n6 : w.heap.size + 1 + 1 ≠ w1.heap.size := by omega
  go_wp2
  go_region
  go_wp2
  have e1 : takeG gs xs = gs.set q (y + 1) := by unfold takeG; rw [if_pos HE.out, HQ.out, Int.toNat_natCast, HY.out]
  have e2 : takeX gs xs = xs.take (xs.length - 1) := by unfold takeX; rw [if_pos HE.out]
  have e3 : takeC gs xs = q := by unfold takeC; rw [if_pos HE.out, HQ.out]
  have e4 : takeN gs xs = y + 1 := by unfold takeN; rw [if_pos HE.out, HQ.out, Int.toNat_natCast, HY.out]
  have e5 : (takeG gs xs).length = gs.length := by rw [e1, List.length_set]
  have e6 : (takeX gs xs).length = xs.length - 1 := by rw [e2, List.length_take]; omega
  refine bodyPost_ret (v := .tuple #[.agg #[.slice (some ⟨g, 0, none⟩) gs.length c1, .slice (some ⟨f, 0, none⟩) (xs.length - 1) d1], .agg #[.int .i64 q, .int .i64 (y + 1)], .int .i64 0]) (by simp [results, Try.results7, go_sem, hc2, hc1, l0, l1, l2, m0, m1, m2, n1, n2, n3, n4, n5, n6]) rfl
    ⟨some ⟨g, 0, none⟩, c1, some ⟨f, 0, none⟩, d1, ?_, ?_, ?_, ?_, HO1.out.from.mono (by simp; omega), HO2.out.from.mono (by simp; omega)⟩
  · rw [e5, e6, e3, e4, HE.out]
  · rw [e5, e1]
    have hW := (((Ext.refl w1).alloc (.cells #[.slice (some ⟨g, 0, none⟩) gs.length c1, .slice (some ⟨f, 0, none⟩) xs.length d1] 26)).trans hE2).setCell (p := ⟨w1.heap.size, 1, none⟩) (Nat.le_refl _) (.slice (some ⟨f, 0, none⟩) (xs.length - 1) d1)
    have hS := ((HO1.out.ext hW).set (j := q) (u := y + 1) hql (by omega))
    have hS' := (((hS.setBelow (p := ⟨w.heap.size + 1, 0, none⟩) (by simp) (.slice (some ⟨g, 0, none⟩) gs.length c1)).setBelow (p := ⟨w.heap.size + 1, 1, none⟩) (by simp) (.slice (some ⟨f, 0, none⟩) (xs.length - 1) d1)).setBelow (p := ⟨w.heap.size + 1 + 1, 0, none⟩) (by simp) (.int .i64 q)).setBelow (p := ⟨w.heap.size + 1 + 1, 1, none⟩) (by simp) (.int .i64 (y + 1))
    have hi := hS'.ints.ext (Ext.refl _).drew
    exact hi
  · rw [e6, e2]
    have hW := (((Ext.refl w1).alloc (.cells #[.slice (some ⟨g, 0, none⟩) gs.length c1, .slice (some ⟨f, 0, none⟩) xs.length d1] 26)).trans hE2).setCell (p := ⟨w1.heap.size, 1, none⟩) (Nat.le_refl _) (.slice (some ⟨f, 0, none⟩) (xs.length - 1) d1)
    have hS := ((HO2.out.ext hW).take (xs.length - 1) (by omega) hx0).setOther (p := ⟨g, q, none⟩) (HD1.out g rfl) (.int .i64 (y + 1))
    have hS' := (((hS.setBelow (p := ⟨w.heap.size + 1, 0, none⟩) (by simp) (.slice (some ⟨g, 0, none⟩) gs.length c1)).setBelow (p := ⟨w.heap.size + 1, 1, none⟩) (by simp) (.slice (some ⟨f, 0, none⟩) (xs.length - 1) d1)).setBelow (p := ⟨w.heap.size + 1 + 1, 0, none⟩) (by simp) (.int .i64 q)).setBelow (p := ⟨w.heap.size + 1 + 1, 1, none⟩) (by simp) (.int .i64 (y + 1))
    exact hS'.ints.ext (Ext.refl _).drew
  · have hX := ((((Ext.refl w).alloc _).alloc _).alloc _).trans ((HE1.out.alloc _).trans hE2)
    exact ((((((hX.setCell (by simp; omega) _).setCell (by simp; omega) _).setCell (by simp) _).setCell (by simp) _).setCell (by simp; omega) _).setCell (by simp; omega) _).drew

theorem take_far (A B : Option Addr) (c d : Nat) (gs xs : List Int) (w : World) (h : Ints w (.slice A gs.length c) gs) (h' : Ints w (.slice B xs.length d) xs) (hl : gs.length ≤ 300) (hl' : xs.length ≤ 300) :
    Calls Try.prog 7 #[.agg #[.slice A gs.length c, .slice B xs.length d]] w (TakeFar w gs xs) := by
  cases hr : rightB gs xs with
  | false => exact take_no A B c d gs xs w h h' hl hl' hr
  | true =>
    by_cases hx : xs.length < 1
    · exact take_empty A B c d gs xs w h h' hl hl' hr hx
    · by_cases h1 : gs.getD (lastD xs).toNat 0 = 1073741824
      · exact take_old A B c d gs xs w h h' hl hl' hr (by omega) h1
      · exact take_ok A B c d gs xs w h h' hl hl' hr (by omega) h1
theorem take_any (A B : Option Addr) (c d : Nat) (gs xs : List Int) (w : World) (h : Ints w (.slice A gs.length c) gs) (h' : Ints w (.slice B xs.length d) xs) (hl : gs.length ≤ 300) (hl' : xs.length ≤ 300) :
    Calls Try.prog 7 #[.agg #[.slice A gs.length c, .slice B xs.length d]] w (TakeSaid w gs xs) :=
  (take_far A B c d gs xs w h h' hl hl').mono fun _ _ ⟨A, c, B, d, he, hi, hj, hE, _⟩ => ⟨A, c, B, d, he, hi, hj, hE⟩
end Go.Proofs.Ytbkheglogmkbgaa
