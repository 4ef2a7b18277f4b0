/- The document's own answers: a cell is taken. -/
import Derived.Test.YtpmibjjplclkeaaPair
import Derived.Test.YtpmibjjplclkeaaRRight
import Derived.IntWalk
namespace Go.Proofs.Ytpmibjjplclkeaa
open Go.RowKit Go.Proofs.Ytpmibjjplclkeaa.Plain

set_option maxHeartbeats 800000 in
theorem rtake_no (A B : Option Addr) (c d : Nat) (gs xs : List Int) (w : World) (h : Ints w (.slice A gs.length c) gs) (h' : Ints w (.slice B xs.length d) xs) (hl : gs.length ≤ 300) (hl' : xs.length ≤ 300) (hr : rightB gs xs = false) :
    Calls Try.prog 10 #[.agg #[.slice A gs.length c, .slice B xs.length d]] w (TakeSaid w gs xs) := by
  have HG := Lib.hid h
  have HX := Lib.hid h'
  have HR := Lib.hid hr
  clear h h' hr
  go_enter Try.func10, Try.ntmps10
  go_wp2_with fail
  refine (rright_any _ _ _ _ _ _ _ (HG.out.ext ((((Ext.refl w).alloc _).alloc _).alloc _)) (HX.out.ext ((((Ext.refl w).alloc _).alloc _).alloc _))).mono ?_
  rw [HR.out]
  rintro e w1 ⟨rfl, hE1⟩
  have c0 : w1.cell? ⟨w.heap.size, 0, none⟩ = some (.slice A gs.length c) := hE1.cell (by go_simp)
  have c1 : w1.cell? ⟨w.heap.size, 1, none⟩ = some (.slice B xs.length d) := hE1.cell (by go_simp)
  have c2 : w1.cell? ⟨w.heap.size + 1, 0, none⟩ = some (.slice none 0 0) := hE1.cell (by go_simp)
  have c3 : w1.cell? ⟨w.heap.size + 1, 1, none⟩ = some (.slice none 0 0) := hE1.cell (by go_simp)
  have c4 : w1.cell? ⟨w.heap.size + 1 + 1, 0, none⟩ = some (.int .i64 0) := hE1.cell (by go_simp)
  have c5 : w1.cell? ⟨w.heap.size + 1 + 1, 1, none⟩ = some (.int .i64 0) := hE1.cell (by go_simp)
  have hz1 := hE1.size
  simp at hz1
  have f1 : ∀ o, w1.frozen? ⟨w.heap.size + 1, o, none⟩ = false := fun o => (Below.frozen hE1 (p := ⟨w.heap.size + 1, o, none⟩) (by simp)).trans (by
    rw [Below.frozen (B := w.heap.size + 1 + 1) ((Below.refl _ ((w.alloc _).alloc _)).alloc (by simp) _) (by simp)]; exact frozen_of_row _ _ o _ _ (hp_new (by simp)))
  have f2 : ∀ o, w1.frozen? ⟨w.heap.size + 1 + 1, o, none⟩ = false := fun o => (Below.frozen hE1 (p := ⟨w.heap.size + 1 + 1, o, none⟩) (by simp)).trans (frozen_of_row _ _ o _ _ (hp_new (by simp)))
  have l0 : w.heap.size < w1.heap.size := by omega
  have l1 : w.heap.size + 1 < w1.heap.size := by omega
  have l2 : w.heap.size + 1 + 1 < w1.heap.size := by omega
  have HE1 := Lib.hid (((((Ext.refl w).alloc _).alloc _).alloc _).trans hE1)
  clear hE1
  go_wp2
  have hX := HE1.out
  refine bodyPost_ret (v := .tuple #[.agg #[.slice A gs.length c, .slice B xs.length d], .agg #[.int .i64 0, .int .i64 0], .int .i64 1]) (by simp [results, Try.results10, go_sem, c2, c3, c4, c5, l0, l1, l2]) rfl
    (takeSaid_err (by unfold takeE; rw [if_pos HR.out]) (by decide) (HG.out.ext ((((hX.setCell (p := ⟨w.heap.size + 1, 0, none⟩) (by simp) _).setCell (p := ⟨w.heap.size + 1, 1, none⟩) (by simp) _).setCell (p := ⟨w.heap.size + 1 + 1, 0, none⟩) (by simp; omega) _).setCell (p := ⟨w.heap.size + 1 + 1, 1, none⟩) (by simp; omega) _))
      (HX.out.ext ((((hX.setCell (p := ⟨w.heap.size + 1, 0, none⟩) (by simp) _).setCell (p := ⟨w.heap.size + 1, 1, none⟩) (by simp) _).setCell (p := ⟨w.heap.size + 1 + 1, 0, none⟩) (by simp; omega) _).setCell (p := ⟨w.heap.size + 1 + 1, 1, none⟩) (by simp; omega) _))
      ((((hX.setCell (p := ⟨w.heap.size + 1, 0, none⟩) (by simp) _).setCell (p := ⟨w.heap.size + 1, 1, none⟩) (by simp) _).setCell (p := ⟨w.heap.size + 1 + 1, 0, none⟩) (by simp; omega) _).setCell (p := ⟨w.heap.size + 1 + 1, 1, none⟩) (by simp; omega) _))

set_option maxHeartbeats 800000 in
theorem rtake_empty (A B : Option Addr) (c d : Nat) (gs xs : List Int) (w : World) (h : Ints w (.slice A gs.length c) gs) (h' : Ints w (.slice B xs.length d) xs) (hl : gs.length ≤ 300) (hl' : xs.length ≤ 300) (hr : rightB gs xs = true) (hx0 : xs.length < 1) :
    Calls Try.prog 10 #[.agg #[.slice A gs.length c, .slice B xs.length d]] w (TakeSaid w gs xs) := by
  have HE : Hid (takeE gs xs = 2) := Lib.hid (by unfold takeE; rw [if_neg (by rw [hr]; decide), if_pos (by omega)])
  have e0 : ((xs.length : Int) == 0) = true := by rw [beq_iff_eq]; omega
  have HE0 := Lib.hid e0
  clear e0
  have HG := Lib.hid h
  have HX := Lib.hid h'
  have HR := Lib.hid hr
  clear h h' hr
  go_enter Try.func10, Try.ntmps10
  go_wp2_with fail
  refine (rright_any _ _ _ _ _ _ _ (HG.out.ext ((((Ext.refl w).alloc _).alloc _).alloc _)) (HX.out.ext ((((Ext.refl w).alloc _).alloc _).alloc _))).mono ?_
  rw [HR.out]
  rintro e w1 ⟨rfl, hE1⟩
  have c0 : w1.cell? ⟨w.heap.size, 0, none⟩ = some (.slice A gs.length c) := hE1.cell (by go_simp)
  have c1 : w1.cell? ⟨w.heap.size, 1, none⟩ = some (.slice B xs.length d) := hE1.cell (by go_simp)
  have c2 : w1.cell? ⟨w.heap.size + 1, 0, none⟩ = some (.slice none 0 0) := hE1.cell (by go_simp)
  have c3 : w1.cell? ⟨w.heap.size + 1, 1, none⟩ = some (.slice none 0 0) := hE1.cell (by go_simp)
  have c4 : w1.cell? ⟨w.heap.size + 1 + 1, 0, none⟩ = some (.int .i64 0) := hE1.cell (by go_simp)
  have c5 : w1.cell? ⟨w.heap.size + 1 + 1, 1, none⟩ = some (.int .i64 0) := hE1.cell (by go_simp)
  have hz1 := hE1.size
  simp at hz1
  have f1 : ∀ o, w1.frozen? ⟨w.heap.size + 1, o, none⟩ = false := fun o => (Below.frozen hE1 (p := ⟨w.heap.size + 1, o, none⟩) (by simp)).trans (by
    rw [Below.frozen (B := w.heap.size + 1 + 1) ((Below.refl _ ((w.alloc _).alloc _)).alloc (by simp) _) (by simp)]; exact frozen_of_row _ _ o _ _ (hp_new (by simp)))
  have f2 : ∀ o, w1.frozen? ⟨w.heap.size + 1 + 1, o, none⟩ = false := fun o => (Below.frozen hE1 (p := ⟨w.heap.size + 1 + 1, o, none⟩) (by simp)).trans (frozen_of_row _ _ o _ _ (hp_new (by simp)))
  have l0 : w.heap.size < w1.heap.size := by omega
  have l1 : w.heap.size + 1 < w1.heap.size := by omega
  have l2 : w.heap.size + 1 + 1 < w1.heap.size := by omega
  have HE1 := Lib.hid (((((Ext.refl w).alloc _).alloc _).alloc _).trans hE1)
  clear hE1
  have e0 := HE0.out
  go_wp2
  go_quiet (fail)
  go_wp2
  have hX := (HE1.out.drewN nq)
  refine bodyPost_ret (v := .tuple #[.agg #[.slice A gs.length c, .slice B xs.length d], .agg #[.int .i64 0, .int .i64 0], .int .i64 2]) (by simp [results, Try.results10, go_sem, c2, c3, c4, c5, l0, l1, l2]) rfl
    (takeSaid_err HE.out (by decide) (HG.out.ext ((((hX.setCell (p := ⟨w.heap.size + 1, 0, none⟩) (by simp) _).setCell (p := ⟨w.heap.size + 1, 1, none⟩) (by simp) _).setCell (p := ⟨w.heap.size + 1 + 1, 0, none⟩) (by simp; omega) _).setCell (p := ⟨w.heap.size + 1 + 1, 1, none⟩) (by simp; omega) _))
      (HX.out.ext ((((hX.setCell (p := ⟨w.heap.size + 1, 0, none⟩) (by simp) _).setCell (p := ⟨w.heap.size + 1, 1, none⟩) (by simp) _).setCell (p := ⟨w.heap.size + 1 + 1, 0, none⟩) (by simp; omega) _).setCell (p := ⟨w.heap.size + 1 + 1, 1, none⟩) (by simp; omega) _))
      ((((hX.setCell (p := ⟨w.heap.size + 1, 0, none⟩) (by simp) _).setCell (p := ⟨w.heap.size + 1, 1, none⟩) (by simp) _).setCell (p := ⟨w.heap.size + 1 + 1, 0, none⟩) (by simp; omega) _).setCell (p := ⟨w.heap.size + 1 + 1, 1, none⟩) (by simp; omega) _))

set_option maxHeartbeats 1600000 in
theorem rtake_old (A B : Option Addr) (c d : Nat) (gs xs : List Int) (w : World) (h : Ints w (.slice A gs.length c) gs) (h' : Ints w (.slice B xs.length d) xs) (hl : gs.length ≤ 300) (hl' : xs.length ≤ 300) (hr : rightB gs xs = true) (hx0 : 0 < xs.length) (hx1 : gs.getD (lastD xs).toNat 0 = 1073741824) :
    Calls Try.prog 10 #[.agg #[.slice A gs.length c, .slice B xs.length d]] w (TakeSaid w gs xs) := by
  obtain ⟨h1g, h1g', hgb, hnd, hin, hle⟩ := right_parts gs xs hr
  have hlm := hin _ (last_mem xs hx0)
  have HL : Hid (lastD xs = xs.getD (xs.length - 1) 0) := Lib.hid rfl
  obtain ⟨q, hq⟩ : ∃ q : Nat, lastD xs = q := ⟨(lastD xs).toNat, by omega⟩
  have hql : q < gs.length := by omega
  have HQ := Lib.hid hq
  have hgq := hgb q hql
  clear hlm hin hgb hnd
  have HE : Hid (takeE gs xs = 2) := Lib.hid (by unfold takeE; rw [if_neg (by rw [hr]; decide), if_neg (by omega), if_pos hx1])
  have hy : gs.getD q 0 = 1073741824 := by rw [HQ.out, Int.toNat_natCast] at hx1; exact hx1
  have HY := Lib.hid hy
  clear hx1 hq hy
  have HG := Lib.hid h
  have HX := Lib.hid h'
  have HR := Lib.hid hr
  clear h h' hr
  go_enter Try.func10, Try.ntmps10
  go_wp2_with fail
  refine (rright_any _ _ _ _ _ _ _ (HG.out.ext ((((Ext.refl w).alloc _).alloc _).alloc _)) (HX.out.ext ((((Ext.refl w).alloc _).alloc _).alloc _))).mono ?_
  rw [HR.out]
  rintro e w1 ⟨rfl, hE1⟩
  have c0 : w1.cell? ⟨w.heap.size, 0, none⟩ = some (.slice A gs.length c) := hE1.cell (by go_simp)
  have c1 : w1.cell? ⟨w.heap.size, 1, none⟩ = some (.slice B xs.length d) := hE1.cell (by go_simp)
  have c2 : w1.cell? ⟨w.heap.size + 1, 0, none⟩ = some (.slice none 0 0) := hE1.cell (by go_simp)
  have c3 : w1.cell? ⟨w.heap.size + 1, 1, none⟩ = some (.slice none 0 0) := hE1.cell (by go_simp)
  have c4 : w1.cell? ⟨w.heap.size + 1 + 1, 0, none⟩ = some (.int .i64 0) := hE1.cell (by go_simp)
  have c5 : w1.cell? ⟨w.heap.size + 1 + 1, 1, none⟩ = some (.int .i64 0) := hE1.cell (by go_simp)
  have hz1 := hE1.size
  simp at hz1
  have f1 : ∀ o, w1.frozen? ⟨w.heap.size + 1, o, none⟩ = false := fun o => (Below.frozen hE1 (p := ⟨w.heap.size + 1, o, none⟩) (by simp)).trans (by
    rw [Below.frozen (B := w.heap.size + 1 + 1) ((Below.refl _ ((w.alloc _).alloc _)).alloc (by simp) _) (by simp)]; exact frozen_of_row _ _ o _ _ (hp_new (by simp)))
  have f2 : ∀ o, w1.frozen? ⟨w.heap.size + 1 + 1, o, none⟩ = false := fun o => (Below.frozen hE1 (p := ⟨w.heap.size + 1 + 1, o, none⟩) (by simp)).trans (frozen_of_row _ _ o _ _ (hp_new (by simp)))
  have l0 : w.heap.size < w1.heap.size := by omega
  have l1 : w.heap.size + 1 < w1.heap.size := by omega
  have l2 : w.heap.size + 1 + 1 < w1.heap.size := by omega
  have HE1 := Lib.hid (((((Ext.refl w).alloc _).alloc _).alloc _).trans hE1)
  clear hE1
  obtain ⟨ga, goff, rfl, hgc⟩ := HG.out.cells h1g
  obtain ⟨fa, foff, rfl, hfc⟩ := HX.out.cells hx0
  have kg := HE1.out.cell (hgc q hql)
  have kf := HE1.out.cell (hfc (xs.length - 1) (by omega))
  rw [← HL.out, HQ.out] at kf
  have e0 : ((xs.length : Int) == 0) = false := by rw [beq_eq_false_iff_ne]; omega
  have i0 : (0 : Int) ≤ (xs.length : Int) - 1 := by omega
  have i1 : (xs.length : Int) - 1 < (xs.length : Int) := by omega
  have i2 : ((xs.length : Int) - 1).toNat = xs.length - 1 := by omega
  have i3 : (0 : Int) ≤ (q : Int) := by omega
  have i4 : (q : Int) < (gs.length : Int) := by omega
  clear hgc hfc
  rw [HY.out] at kg
  go_wp2
  go_quiet (fail)
  go_wp2
  have hX := (HE1.out.drewN nq)
  refine bodyPost_ret (v := .tuple #[.agg #[.slice (some ⟨ga, goff, none⟩) gs.length c, .slice (some ⟨fa, foff, none⟩) xs.length d], .agg #[.int .i64 0, .int .i64 0], .int .i64 2]) (by simp [results, Try.results10, go_sem, c2, c3, c4, c5, l0, l1, l2]) rfl
    (takeSaid_err HE.out (by decide) (HG.out.ext ((((hX.setCell (p := ⟨w.heap.size + 1, 0, none⟩) (by simp) _).setCell (p := ⟨w.heap.size + 1, 1, none⟩) (by simp) _).setCell (p := ⟨w.heap.size + 1 + 1, 0, none⟩) (by simp; omega) _).setCell (p := ⟨w.heap.size + 1 + 1, 1, none⟩) (by simp; omega) _))
      (HX.out.ext ((((hX.setCell (p := ⟨w.heap.size + 1, 0, none⟩) (by simp) _).setCell (p := ⟨w.heap.size + 1, 1, none⟩) (by simp) _).setCell (p := ⟨w.heap.size + 1 + 1, 0, none⟩) (by simp; omega) _).setCell (p := ⟨w.heap.size + 1 + 1, 1, none⟩) (by simp; omega) _))
      ((((hX.setCell (p := ⟨w.heap.size + 1, 0, none⟩) (by simp) _).setCell (p := ⟨w.heap.size + 1, 1, none⟩) (by simp) _).setCell (p := ⟨w.heap.size + 1 + 1, 0, none⟩) (by simp; omega) _).setCell (p := ⟨w.heap.size + 1 + 1, 1, none⟩) (by simp; omega) _))

def VT (w0 : World) (p : Nat) (A B : Option Addr) (c d : Nat) (gs xs : List Int) : Nat → World → List Value → Value → Prop
  | 0, w, _, v => EmptyAt w0.heap.size w v
  | 1, _, _, v => v = .pointer (some ⟨p, 0, none⟩)
  | 2, _, _, v => v = .slice A gs.length c
  | 3, w, _, v => OwnAt w0.heap.size w v gs
  | 4, w, _, v => EmptyAt w0.heap.size w v
  | 5, _, _, v => v = .pointer (some ⟨p, 1, none⟩)
  | 6, _, _, v => v = .slice B xs.length d
  | 7, _, _, v => v = .int .i64 (xs.length : Int)
  | 8, _, _, v => v = .int .i64 ((xs.length : Int) - 1)
  | 9, _, _, v => v = .slice B (xs.length - 1) d
  | 10, w, ds, v => OwnAt w0.heap.size w v (xs.take (xs.length - 1)) ∧ (0 < (xs.take (xs.length - 1)).length → ∀ k, v.ownBlock = some k → (ds.getD 2 undef).ownBlock ≠ some k)
  | 11, _, ds, v => v = .agg #[ds.getD 0 undef, ds.getD 1 undef]
  | 12, w, _, v => BoxAt w0.heap.size w v #[.slice none 0 0, .slice none 0 0] 24
  | _, _, _, _ => True
theorem VT_ext (w0 : World) (p : Nat) (A B : Option Addr) (c d : Nat) (gs xs : List Int) : ∀ i w w' ds v, VT w0 p A B c d gs xs i w ds v → Ext w w' → VT w0 p A B c d gs xs i w' ds v
  | 0, _, _, _, _, h, hE => EmptyAt.ext h hE
  | 1, _, _, _, _, h, _ => h
  | 2, _, _, _, _, h, _ => h
  | 3, _, _, _, _, h, hE => OwnAt.ext h hE
  | 4, _, _, _, _, h, hE => EmptyAt.ext h hE
  | 5, _, _, _, _, h, _ => h
  | 6, _, _, _, _, h, _ => h
  | 7, _, _, _, _, h, _ => h
  | 8, _, _, _, _, h, _ => h
  | 9, _, _, _, _, h, _ => h
  | 10, _, _, _, _, h, hE => ⟨OwnAt.ext h.1 hE, h.2⟩
  | 11, _, _, _, _, h, _ => h
  | 12, _, _, _, _, h, hE => BoxAt.ext h hE
  | _ + 13, _, _, _, _, _, _ => trivial
section
variable (w0 : World) (p : Nat) (A B : Option Addr) (c d : Nat) (gs xs : List Int) (w : World) (ds : List Value) (v : Value)
theorem VT_i0 (h : EmptyAt w0.heap.size w v) : VT w0 p A B c d gs xs 0 w ds v := h
theorem VT_e0 (h : VT w0 p A B c d gs xs 0 w ds v) : EmptyAt w0.heap.size w v := h
theorem VT_i1 (h : v = .pointer (some ⟨p, 0, none⟩)) : VT w0 p A B c d gs xs 1 w ds v := h
theorem VT_e1 (h : VT w0 p A B c d gs xs 1 w ds v) : v = .pointer (some ⟨p, 0, none⟩) := h
theorem VT_i2 (h : v = .slice A gs.length c) : VT w0 p A B c d gs xs 2 w ds v := h
theorem VT_e2 (h : VT w0 p A B c d gs xs 2 w ds v) : v = .slice A gs.length c := h
theorem VT_i3 (h : OwnAt w0.heap.size w v gs) : VT w0 p A B c d gs xs 3 w ds v := h
theorem VT_e3 (h : VT w0 p A B c d gs xs 3 w ds v) : OwnAt w0.heap.size w v gs := h
theorem VT_i4 (h : EmptyAt w0.heap.size w v) : VT w0 p A B c d gs xs 4 w ds v := h
theorem VT_e4 (h : VT w0 p A B c d gs xs 4 w ds v) : EmptyAt w0.heap.size w v := h
theorem VT_i5 (h : v = .pointer (some ⟨p, 1, none⟩)) : VT w0 p A B c d gs xs 5 w ds v := h
theorem VT_e5 (h : VT w0 p A B c d gs xs 5 w ds v) : v = .pointer (some ⟨p, 1, none⟩) := h
theorem VT_i6 (h : v = .slice B xs.length d) : VT w0 p A B c d gs xs 6 w ds v := h
theorem VT_e6 (h : VT w0 p A B c d gs xs 6 w ds v) : v = .slice B xs.length d := h
theorem VT_i7 (h : v = .int .i64 (xs.length : Int)) : VT w0 p A B c d gs xs 7 w ds v := h
theorem VT_e7 (h : VT w0 p A B c d gs xs 7 w ds v) : v = .int .i64 (xs.length : Int) := h
theorem VT_i8 (h : v = .int .i64 ((xs.length : Int) - 1)) : VT w0 p A B c d gs xs 8 w ds v := h
theorem VT_e8 (h : VT w0 p A B c d gs xs 8 w ds v) : v = .int .i64 ((xs.length : Int) - 1) := h
theorem VT_i9 (h : v = .slice B (xs.length - 1) d) : VT w0 p A B c d gs xs 9 w ds v := h
theorem VT_e9 (h : VT w0 p A B c d gs xs 9 w ds v) : v = .slice B (xs.length - 1) d := h
theorem VT_i10 (h : OwnAt w0.heap.size w v (xs.take (xs.length - 1)) ∧ (0 < (xs.take (xs.length - 1)).length → ∀ k, v.ownBlock = some k → (ds.getD 2 undef).ownBlock ≠ some k)) : VT w0 p A B c d gs xs 10 w ds v := h
theorem VT_e10 (h : VT w0 p A B c d gs xs 10 w ds v) : OwnAt w0.heap.size w v (xs.take (xs.length - 1)) ∧ (0 < (xs.take (xs.length - 1)).length → ∀ k, v.ownBlock = some k → (ds.getD 2 undef).ownBlock ≠ some k) := h
theorem VT_i11 (h : v = .agg #[ds.getD 0 undef, ds.getD 1 undef]) : VT w0 p A B c d gs xs 11 w ds v := h
theorem VT_e11 (h : VT w0 p A B c d gs xs 11 w ds v) : v = .agg #[ds.getD 0 undef, ds.getD 1 undef] := h
theorem VT_i12 (h : BoxAt w0.heap.size w v #[.slice none 0 0, .slice none 0 0] 24) : VT w0 p A B c d gs xs 12 w ds v := h
theorem VT_e12 (h : VT w0 p A B c d gs xs 12 w ds v) : BoxAt w0.heap.size w v #[.slice none 0 0, .slice none 0 0] 24 := h
theorem VT_j10 (u : Value) (hu : ds.getD 2 undef = u) (h : OwnAt w0.heap.size w v (xs.take (xs.length - 1))) (h2 : 0 < (xs.take (xs.length - 1)).length → ∀ k, v.ownBlock = some k → u.ownBlock ≠ some k) : VT w0 p A B c d gs xs 10 w ds v := by subst hu; exact ⟨h, h2⟩
end
theorem Ints.take {w : World} {A : Option Addr} {n c k : Nat} {xs : List Int} (h : Ints w (.slice A n c) xs) (hk : k ≤ xs.length) : Ints w (.slice A k c) (xs.take k) := by
  obtain ⟨h1, h2, A', c', he, hc, h3⟩ := h
  cases he
  have hl : (xs.take k).length = k := by rw [List.length_take]; omega
  refine ⟨by omega, fun x hx => h2 x (List.mem_of_mem_take hx), A, c, by rw [hl], by omega, fun h0 => ?_⟩
  obtain ⟨b, off, hA, hcc⟩ := h3 (by omega)
  refine ⟨b, off, hA, fun j hj => ?_⟩
  rw [hcc j (by omega)]
  congr 2
  simp only [List.getD_eq_getElem?_getD]
  rw [List.getElem?_take_of_lt (by omega)]

set_option maxHeartbeats 4000000 in
set_option maxRecDepth 100000 in
theorem rtake_ok (A B : Option Addr) (c d : Nat) (gs xs : List Int) (w : World) (h : Ints w (.slice A gs.length c) gs) (h' : Ints w (.slice B xs.length d) xs) (hl : gs.length ≤ 300) (hl' : xs.length ≤ 300) (hr : rightB gs xs = true) (hx0 : 0 < xs.length) (hx1 : ¬ gs.getD (lastD xs).toNat 0 = 1073741824) :
    Calls Try.prog 10 #[.agg #[.slice A gs.length c, .slice B xs.length d]] w (TakeSaid w gs xs) := by
  obtain ⟨h1g, h1g', hgb, hnd, hin, hle⟩ := right_parts gs xs hr
  have hlm := hin _ (last_mem xs hx0)
  have HL : Hid (lastD xs = xs.getD (xs.length - 1) 0) := Lib.hid rfl
  obtain ⟨q, hq⟩ : ∃ q : Nat, lastD xs = q := ⟨(lastD xs).toNat, by omega⟩
  have hql : q < gs.length := by omega
  have HQ := Lib.hid hq
  have hgq := hgb q hql
  clear hlm hin hgb hnd
  have HE : Hid (takeE gs xs = 0) := Lib.hid (by unfold takeE; rw [if_neg (by rw [hr]; decide), if_neg (by omega), if_neg hx1])
  obtain ⟨y, hy⟩ : ∃ y, gs.getD q 0 = y := ⟨_, rfl⟩
  have hy1 : (y == 1073741824) = false := by
    rw [HQ.out, Int.toNat_natCast, hy] at hx1
    simpa using hx1
  have hy2 : y < 1073741824 := by
    rw [HQ.out, Int.toNat_natCast, hy] at hx1
    omega
  rw [hy] at hgq
  have HY := Lib.hid hy
  clear hx1 hq hy
  have HG := Lib.hid h
  have HX := Lib.hid h'
  have HR := Lib.hid hr
  clear h h' hr
  go_enter Try.func10, Try.ntmps10
  go_wp2_with fail
  refine (rright_any _ _ _ _ _ _ _ (HG.out.ext ((((Ext.refl w).alloc _).alloc _).alloc _)) (HX.out.ext ((((Ext.refl w).alloc _).alloc _).alloc _))).mono ?_
  rw [HR.out]
  rintro e w1 ⟨rfl, hE1⟩
  have c0 : w1.cell? ⟨w.heap.size, 0, none⟩ = some (.slice A gs.length c) := hE1.cell (by go_simp)
  have c1 : w1.cell? ⟨w.heap.size, 1, none⟩ = some (.slice B xs.length d) := hE1.cell (by go_simp)
  have c2 : w1.cell? ⟨w.heap.size + 1, 0, none⟩ = some (.slice none 0 0) := hE1.cell (by go_simp)
  have c3 : w1.cell? ⟨w.heap.size + 1, 1, none⟩ = some (.slice none 0 0) := hE1.cell (by go_simp)
  have c4 : w1.cell? ⟨w.heap.size + 1 + 1, 0, none⟩ = some (.int .i64 0) := hE1.cell (by go_simp)
  have c5 : w1.cell? ⟨w.heap.size + 1 + 1, 1, none⟩ = some (.int .i64 0) := hE1.cell (by go_simp)
  have hz1 := hE1.size
  simp at hz1
  have f1 : ∀ o, w1.frozen? ⟨w.heap.size + 1, o, none⟩ = false := fun o => (Below.frozen hE1 (p := ⟨w.heap.size + 1, o, none⟩) (by simp)).trans (by
    rw [Below.frozen (B := w.heap.size + 1 + 1) ((Below.refl _ ((w.alloc _).alloc _)).alloc (by simp) _) (by simp)]; exact frozen_of_row _ _ o _ _ (hp_new (by simp)))
  have f2 : ∀ o, w1.frozen? ⟨w.heap.size + 1 + 1, o, none⟩ = false := fun o => (Below.frozen hE1 (p := ⟨w.heap.size + 1 + 1, o, none⟩) (by simp)).trans (frozen_of_row _ _ o _ _ (hp_new (by simp)))
  have l0 : w.heap.size < w1.heap.size := by omega
  have l1 : w.heap.size + 1 < w1.heap.size := by omega
  have l2 : w.heap.size + 1 + 1 < w1.heap.size := by omega
  have HE1 := Lib.hid (((((Ext.refl w).alloc _).alloc _).alloc _).trans hE1)
  clear hE1
  obtain ⟨ga, goff, rfl, hgc⟩ := HG.out.cells h1g
  obtain ⟨fa, foff, rfl, hfc⟩ := HX.out.cells hx0
  have kg := HE1.out.cell (hgc q hql)
  have kf := HE1.out.cell (hfc (xs.length - 1) (by omega))
  rw [← HL.out, HQ.out] at kf
  have e0 : ((xs.length : Int) == 0) = false := by rw [beq_eq_false_iff_ne]; omega
  have i0 : (0 : Int) ≤ (xs.length : Int) - 1 := by omega
  have i1 : (xs.length : Int) - 1 < (xs.length : Int) := by omega
  have i2 : ((xs.length : Int) - 1).toNat = xs.length - 1 := by omega
  have i3 : (0 : Int) ≤ (q : Int) := by omega
  have i4 : (q : Int) < (gs.length : Int) := by omega
  clear hgc hfc
  rw [HY.out] at kg
  obtain ⟨_, _, _, _, hsh, hdd, _⟩ := id HX.out
  have hdd1 : (xs.length : Int) - 1 ≤ (d : Int) := by cases hsh; omega
  have HG1 := Lib.hid (HG.out.ext HE1.out)
  have HX1 := Lib.hid ((HX.out.ext HE1.out).take (k := xs.length - 1) (by omega))
  clear hdd hsh
  go_wp2
  go_quiet (fail)
  go_upto_region 7 with fail
  go_cut [7] (fun s wx => NewPool (w1.drewN nq) gs (xs.take (xs.length - 1)) s wx)
  case first =>
    refine Mono.wp_region_mono 13 (VT (w1.drewN nq) w.heap.size (some ⟨ga, goff, none⟩) (some ⟨fa, foff, none⟩) c d gs xs) (by kernel_rfl) (by kernel_rfl) (VT_ext (w1.drewN nq) w.heap.size (some ⟨ga, goff, none⟩) (some ⟨fa, foff, none⟩) c d gs xs) ?_ ?_
    · intro i o hi ho vals w5 hE hcl
      have hi' : i = 0 ∨ i = 1 ∨ i = 2 ∨ i = 3 ∨ i = 4 ∨ i = 5 ∨ i = 6 ∨ i = 7 ∨ i = 8 ∨ i = 9 ∨ i = 10 ∨ i = 11 ∨ i = 12 := by omega
      rcases hi' with rfl | rfl | rfl | rfl | rfl | rfl | rfl | rfl | rfl | rfl | rfl | rfl | rfl
      · simp only [List.getElem?_cons_succ, List.getElem?_cons_zero, Option.some.injEq] at ho
        subst ho
        rw [if_pos (Mono.wanted_none rfl)]
        refine Mono.yields_same (.slice (some ⟨w5.heap.size, 0, none⟩) 0 0) (w5.alloc (.cells #[] 3)) ?_ ⟨(Ext.refl _).alloc _, VT_i0 _ _ _ _ _ _ _ _ _ _ _ ⟨w5.heap.size, rfl, hE.size, hp_new rfl⟩⟩
        simp only [Mono.all, List.take, Act.put]
        go_simp
      · simp only [List.getElem?_cons_succ, List.getElem?_cons_zero, Option.some.injEq] at ho
        subst ho
        rw [if_pos (Mono.wanted_none rfl)]
        refine Mono.yields_same (.pointer (some ⟨w.heap.size, 0, none⟩)) w5 ?_ ⟨Ext.refl _, VT_i1 _ _ _ _ _ _ _ _ _ _ _ rfl⟩
        simp only [Mono.all, List.take, Act.put]
        go_simp
      · simp only [List.getElem?_cons_succ, List.getElem?_cons_zero, Option.some.injEq] at ho
        subst ho
        rw [if_pos (Mono.wanted_none rfl)]
        have h1 := VT_e1 _ _ _ _ _ _ _ _ _ _ _ (hcl 1 (by kernel_rfl))
        have k1 := hE.cell c0
        clear hcl
        refine Mono.yields_same (.slice (some ⟨ga, goff, none⟩) gs.length c) w5 ?_ ⟨Ext.refl _, VT_i2 _ _ _ _ _ _ _ _ _ _ _ rfl⟩
        simp only [Mono.all, List.take, Act.put]
        go_simp
      · simp only [List.getElem?_cons_succ, List.getElem?_cons_zero, Option.some.injEq] at ho
        subst ho
        rw [if_pos (Mono.wanted_none rfl)]
        have h0 := VT_e0 _ _ _ _ _ _ _ _ _ _ _ (hcl 0 (by kernel_rfl))
        have h2 := VT_e2 _ _ _ _ _ _ _ _ _ _ _ (hcl 2 (by kernel_rfl))
        obtain ⟨v', w', hr, hX, hO, hb⟩ := app_empty h0 (HG1.out.ext (((Ext.refl w1).drewN nq).trans hE)) (by omega) hE.size
        exact yields_app (v := vals 0) (y := .slice (some ⟨ga, goff, none⟩) gs.length c) (.tmp 41) (.tmp 43) rfl rfl (by kernel_rfl) (by rw [← h2]; kernel_rfl) hr ⟨hX, VT_i3 _ _ _ _ _ _ _ _ _ _ _ hO⟩
      · simp only [List.getElem?_cons_succ, List.getElem?_cons_zero, Option.some.injEq] at ho
        subst ho
        rw [if_pos (Mono.wanted_none rfl)]
        refine Mono.yields_same (.slice (some ⟨w5.heap.size, 0, none⟩) 0 0) (w5.alloc (.cells #[] 3)) ?_ ⟨(Ext.refl _).alloc _, VT_i4 _ _ _ _ _ _ _ _ _ _ _ ⟨w5.heap.size, rfl, hE.size, hp_new rfl⟩⟩
        simp only [Mono.all, List.take, Act.put]
        go_simp
      · simp only [List.getElem?_cons_succ, List.getElem?_cons_zero, Option.some.injEq] at ho
        subst ho
        rw [if_pos (Mono.wanted_none rfl)]
        refine Mono.yields_same (.pointer (some ⟨w.heap.size, 1, none⟩)) w5 ?_ ⟨Ext.refl _, VT_i5 _ _ _ _ _ _ _ _ _ _ _ rfl⟩
        simp only [Mono.all, List.take, Act.put]
        go_simp
      · simp only [List.getElem?_cons_succ, List.getElem?_cons_zero, Option.some.injEq] at ho
        subst ho
        rw [if_pos (Mono.wanted_none rfl)]
        have h1 := VT_e5 _ _ _ _ _ _ _ _ _ _ _ (hcl 5 (by kernel_rfl))
        have k1 := hE.cell c1
        clear hcl
        refine Mono.yields_same (.slice (some ⟨fa, foff, none⟩) xs.length d) w5 ?_ ⟨Ext.refl _, VT_i6 _ _ _ _ _ _ _ _ _ _ _ rfl⟩
        simp only [Mono.all, List.take, Act.put]
        go_simp
      · simp only [List.getElem?_cons_succ, List.getElem?_cons_zero, Option.some.injEq] at ho
        subst ho
        rw [if_pos (Mono.wanted_none rfl)]
        refine Mono.yields_same (.int .i64 (xs.length : Int)) w5 ?_ ⟨Ext.refl _, VT_i7 _ _ _ _ _ _ _ _ _ _ _ rfl⟩
        simp only [Mono.all, List.take, Act.put]
        go_simp
      · simp only [List.getElem?_cons_succ, List.getElem?_cons_zero, Option.some.injEq] at ho
        subst ho
        rw [if_pos (Mono.wanted_none rfl)]
        have h1 := VT_e7 _ _ _ _ _ _ _ _ _ _ _ (hcl 7 (by kernel_rfl))
        clear hcl
        refine Mono.yields_same (.int .i64 ((xs.length : Int) - 1)) w5 ?_ ⟨Ext.refl _, VT_i8 _ _ _ _ _ _ _ _ _ _ _ rfl⟩
        simp only [Mono.all, List.take, Act.put]
        go_simp
        exact IntWalk.i64_in _ (by omega)
      · simp only [List.getElem?_cons_succ, List.getElem?_cons_zero, Option.some.injEq] at ho
        subst ho
        rw [if_pos (Mono.wanted_none rfl)]
        have h1 := VT_e6 _ _ _ _ _ _ _ _ _ _ _ (hcl 6 (by kernel_rfl))
        have h2 := VT_e8 _ _ _ _ _ _ _ _ _ _ _ (hcl 8 (by kernel_rfl))
        clear hcl
        refine Mono.yields_same (.slice (some ⟨fa, foff, none⟩) (xs.length - 1) d) w5 ?_ ⟨Ext.refl _, VT_i9 _ _ _ _ _ _ _ _ _ _ _ rfl⟩
        simp only [Mono.all, List.take, Act.put]
        go_simp
        intro hlt9
        omega
      · simp only [List.getElem?_cons_succ, List.getElem?_cons_zero, Option.some.injEq] at ho
        subst ho
        rw [if_pos (Mono.wanted_none rfl)]
        have h0 := VT_e4 _ _ _ _ _ _ _ _ _ _ _ (hcl 4 (by kernel_rfl))
        have h2 := VT_e9 _ _ _ _ _ _ _ _ _ _ _ (hcl 9 (by kernel_rfl))
        obtain ⟨A3, c3, e3, ho3⟩ := VT_e3 _ _ _ _ _ _ _ _ _ _ _ (hcl 3 (by kernel_rfl))
        have hlt : (xs.take (xs.length - 1)).length ≤ 1048576 := by rw [List.length_take]; omega
        obtain ⟨v', w', hr, hX, hO, hb⟩ := app_empty h0 (HX1.out.ext (((Ext.refl w1).drewN nq).trans hE)) hlt hE.size
        refine yields_app (v := vals 4) (y := .slice (some ⟨fa, foff, none⟩) (xs.length - 1) d) (.tmp 45) (.tmp 50) rfl rfl (by kernel_rfl) (by rw [← h2]; kernel_rfl) hr ⟨hX, VT_j10 _ _ _ _ _ _ _ _ _ _ _ (vals 3) (by kernel_rfl) hO (fun h k hk => ?_)⟩
        intro he
        rw [e3] at he
        have := (ho3.lt k he).2
        rw [hb h] at hk
        cases hk
        omega
      · simp only [List.getElem?_cons_succ, List.getElem?_cons_zero, Option.some.injEq] at ho
        subst ho
        rw [if_pos (Mono.wanted_none rfl)]
        obtain ⟨A3, c3, e3, ho3⟩ := VT_e3 _ _ _ _ _ _ _ _ _ _ _ (hcl 3 (by kernel_rfl))
        obtain ⟨A7, c7, e7, ho7⟩ := (VT_e10 _ _ _ _ _ _ _ _ _ _ _ (hcl 10 (by kernel_rfl))).1
        clear hcl
        refine Mono.yields_same (.agg #[vals 3, vals 10]) w5 ?_ ⟨Ext.refl _, VT_i11 _ _ _ _ _ _ _ _ _ _ _ (by kernel_rfl)⟩
        rw [e3, e7]
        simp only [Mono.all, List.take, Act.put]
        go_simp
      · simp only [List.getElem?_cons_succ, List.getElem?_cons_zero, Option.some.injEq] at ho
        subst ho
        rw [if_pos (Mono.wanted_none rfl)]
        refine Mono.yields_same (.pointer (some ⟨w5.heap.size, 0, none⟩)) (w5.alloc (.cells #[.slice none 0 0, .slice none 0 0] 24)) ?_ ⟨(Ext.refl _).alloc _, VT_i12 _ _ _ _ _ _ _ _ _ _ _ ⟨w5.heap.size, rfl, hE.size, hp_new rfl⟩⟩
        simp only [Mono.all, List.take, Act.put]
        go_simp
    · intro vals w5 hE hv
      obtain ⟨A3, c3', e3, ho3⟩ := VT_e3 _ _ _ _ _ _ _ _ _ _ _ (hv 3 (by omega))
      obtain ⟨⟨A7, c7, e7, ho7⟩, hb7⟩ := VT_e10 _ _ _ _ _ _ _ _ _ _ _ (hv 10 (by omega))
      obtain ⟨g, e9, hg9, hblk⟩ := VT_e12 _ _ _ _ _ _ _ _ _ _ _ (hv 12 (by omega))
      have e8 : vals 11 = .agg #[vals 3, vals 10] := (VT_e11 _ _ _ _ _ _ _ _ _ _ _ (hv 11 (by omega))).trans (by kernel_rfl)
      have hb : 0 < (xs.take (xs.length - 1)).length → ∀ k, Value.ownBlock (.slice A7 (xs.take (xs.length - 1)).length c7) = some k → Value.ownBlock (.slice A3 gs.length c3') ≠ some k := fun h k hk => by
        have := hb7 h k (by rw [e7]; exact hk)
        have e : ((List.map vals [4, 9, 3]).getD 2 undef) = vals 3 := rfl
        rw [← e3]
        exact this
      have HB := Lib.hid hb
      have HO3 := Lib.hid ho3
      have HO7 := Lib.hid ho7
      have HBLK := Lib.hid hblk
      have HEE := Lib.hid hE
      have k0 : w5.cell? ⟨g, 0, none⟩ = some (.slice none 0 0) := (cell_of_row w5 g 0 _ _ _ hblk).trans rfl
      have k1 : w5.cell? ⟨g, 1, none⟩ = some (.slice none 0 0) := (cell_of_row w5 g 1 _ _ _ hblk).trans rfl
      have k2 : ∀ o, w5.frozen? ⟨g, o, none⟩ = false := fun o => frozen_of_row _ _ o _ _ hblk
      rw [e3, e7] at e8
      clear hv hb7 hb ho3 ho7 hblk hE
      have hlx : (xs.take (xs.length - 1)).length = xs.length - 1 := by rw [List.length_take]; omega
      rw [hlx] at e8
      have HT := Lib.hid (tail_pool HEE.out HO3.out HO7.out HB.out hg9 HBLK.out)
      rw [hlx] at HT
      clear hlx
      simp only [Mono.all, List.take, List.drop, Act.put]
      rw [e8, e9]
      go_wp2
      go_meet
      exact HT.out
  case rest =>
    obtain ⟨g, A3, c3', B3, d3, rfl, hg1, hg2, k0, k1, k2, ho3, ho7, ⟨hdj, hfar3, hfar7⟩, hE⟩ := hcut
    obtain ⟨g3, rfl, hg3a, hg3b, hcells, hfrz, _⟩ := ho3.pos h1g
    simp at hg1 hg3a
    have kq := hcells q hql
    rw [HY.out] at kq
    have fq := hfrz q
    have m2 := hE.cell (show (w1.drewN nq).cell? ⟨w.heap.size + 1, 0, none⟩ = some (.slice none 0 0) from by simpa using c2)
    have m3 := hE.cell (show (w1.drewN nq).cell? ⟨w.heap.size + 1, 1, none⟩ = some (.slice none 0 0) from by simpa using c3)
    have m4 := hE.cell (show (w1.drewN nq).cell? ⟨w.heap.size + 1 + 1, 0, none⟩ = some (.int .i64 0) from by simpa using c4)
    have m5 := hE.cell (show (w1.drewN nq).cell? ⟨w.heap.size + 1 + 1, 1, none⟩ = some (.int .i64 0) from by simpa using c5)
    have fr1 : ∀ o, wc.frozen? ⟨w.heap.size + 1, o, none⟩ = false := fun o => (Below.frozen hE (p := ⟨w.heap.size + 1, o, none⟩) (by simpa using l1)).trans (by simpa using f1 o)
    have fr2 : ∀ o, wc.frozen? ⟨w.heap.size + 1 + 1, o, none⟩ = false := fun o => (Below.frozen hE (p := ⟨w.heap.size + 1 + 1, o, none⟩) (by simpa using l2)).trans (by simpa using f2 o)
    have n0 : g3 ≠ g := fun e => hfar3 (by rw [e]; rfl)
    have n1 : g ≠ g3 := Ne.symm n0
    have n2 : w.heap.size + 1 ≠ g3 := by omega
    have n3 : w.heap.size + 1 + 1 ≠ g3 := by omega
    have n4 : g3 ≠ w.heap.size + 1 := by omega
    have n5 : g3 ≠ w.heap.size + 1 + 1 := by omega
    have n6 : g ≠ w.heap.size + 1 := by omega
    have n7 : g ≠ w.heap.size + 1 + 1 := by omega
    have n8 : w.heap.size + 1 ≠ g := by omega
    have n9 : w.heap.size + 1 + 1 ≠ g := by omega
    have hlx : (xs.take (xs.length - 1)).length = xs.length - 1 := by rw [List.length_take]; omega
    rw [hlx] at k1 ho7 hdj
    have HO3 := Lib.hid ho3
    have HO7 := Lib.hid ho7
    have HDJ := Lib.hid hdj
    have HLX := Lib.hid hlx
    have HEW := Lib.hid ((HE1.out.drewN nq).trans hE)
    clear hcells hfrz ho3 ho7 hdj hlx hE c0 c1 c2 c3 c4 c5 f1 f2 hfar3 hfar7 kg kf i2
    go_wp2
    go_region
    go_wp2
    have e1 : takeG gs xs = gs.set q (y + 1) := by unfold takeG; rw [if_pos HE.out, HQ.out, Int.toNat_natCast, HY.out]
    have e2 : takeX gs xs = xs.take (xs.length - 1) := by unfold takeX; rw [if_pos HE.out]
    have e3 : takeC gs xs = q := by unfold takeC; rw [if_pos HE.out, HQ.out]
    have e4 : takeN gs xs = y + 1 := by unfold takeN; rw [if_pos HE.out, HQ.out, Int.toNat_natCast, HY.out]
    have e5 : (takeG gs xs).length = gs.length := by rw [e1, List.length_set]
    have e6 : (takeX gs xs).length = xs.length - 1 := by rw [e2]; exact HLX.out
    have hB : ∀ B', B' = (w1.drewN nq).heap.size → w.heap.size + 1 + 1 < B' := fun B' h => by subst h; simp; omega
    refine bodyPost_ret (v := .tuple #[.agg #[.slice (some ⟨g3, 0, none⟩) gs.length c3', .slice B3 (xs.length - 1) d3], .agg #[.int .i64 q, .int .i64 (y + 1)], .int .i64 0]) (by simp [results, Try.results10, go_sem, m2, m3, m4, m5, n0, n1, n2, n3, n4, n5, n6, n7, n8, n9]) rfl
      ⟨some ⟨g3, 0, none⟩, c3', B3, d3, ?_, ?_, ?_, ?_⟩
    · rw [e5, e6, e3, e4, HE.out]
    · rw [e5, e1]
      have hS := HO3.out.set (j := q) (u := y + 1) hql (by omega)
      have hS' := (((hS.setBelow (p := ⟨w.heap.size + 1, 0, none⟩) (by simp; omega) (.slice (some ⟨g3, 0, none⟩) gs.length c3')).setBelow (p := ⟨w.heap.size + 1, 1, none⟩) (by simp; omega) (.slice B3 (xs.length - 1) d3)).setBelow (p := ⟨w.heap.size + 1 + 1, 0, none⟩) (by simp; omega) (.int .i64 q)).setBelow (p := ⟨w.heap.size + 1 + 1, 1, none⟩) (by simp; omega) (.int .i64 (y + 1))
      exact hS'.ints.ext (Ext.refl _).drew
    · rw [e6, e2]
      by_cases h0 : 0 < xs.length - 1
      · have hS := HO7.out.setOther (p := ⟨g3, q, none⟩) (fun e => HDJ.out h0 _ e rfl) (.int .i64 (y + 1))
        have hS' := (((hS.setBelow (p := ⟨w.heap.size + 1, 0, none⟩) (by simp; omega) (.slice (some ⟨g3, 0, none⟩) gs.length c3')).setBelow (p := ⟨w.heap.size + 1, 1, none⟩) (by simp; omega) (.slice B3 (xs.length - 1) d3)).setBelow (p := ⟨w.heap.size + 1 + 1, 0, none⟩) (by simp; omega) (.int .i64 q)).setBelow (p := ⟨w.heap.size + 1 + 1, 1, none⟩) (by simp; omega) (.int .i64 (y + 1))
        exact hS'.ints.ext (Ext.refl _).drew
      · have hz : xs.length - 1 = 0 := by omega
        rw [hz, List.take_zero]
        exact Ints.nil _ _ _
    · exact (((((HEW.out.setCell (by simp; try omega) _).setCell (by simp; try omega) _).setCell (by simp; try omega) _).setCell (by simp; try omega) _).setCell (by simp; try omega) _).drew

theorem rtake_any (A B : Option Addr) (c d : Nat) (gs xs : List Int) (w : World) (h : Ints w (.slice A gs.length c) gs) (h' : Ints w (.slice B xs.length d) xs) (hl : gs.length ≤ 300) (hl' : xs.length ≤ 300) :
    Calls Try.prog 10 #[.agg #[.slice A gs.length c, .slice B xs.length d]] w (TakeSaid w gs xs) := by
  cases hr : rightB gs xs with
  | false => exact rtake_no A B c d gs xs w h h' hl hl' hr
  | true =>
    by_cases hx : xs.length < 1
    · exact rtake_empty A B c d gs xs w h h' hl hl' hr hx
    · by_cases h1 : gs.getD (lastD xs).toNat 0 = 1073741824
      · exact rtake_old A B c d gs xs w h h' hl hl' hr (by omega) h1
      · exact rtake_ok A B c d gs xs w h h' hl hl' hr (by omega) h1
end Go.Proofs.Ytpmibjjplclkeaa
