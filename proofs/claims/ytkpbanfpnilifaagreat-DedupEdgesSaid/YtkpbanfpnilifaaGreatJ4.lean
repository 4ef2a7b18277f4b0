/- Joined by wip/merge.py: R5E, CrRun, CrTk, DrP, DrO, DrW, R6A, TBeginN, CrBegin, R5F, R6B, R6C. -/
import Derived.Test.YtkpbanfpnilifaaGreatJ3
import Derived.BigRegion
import Derived.Deep.DeepCutAuto
import Derived.Deep.RegionHeld3
import Derived.Deep.RegionLaw
import Derived.BigQuiet
set_option linter.unusedVariables false
set_option linter.unusedSimpArgs false
set_option linter.unnecessarySimpa false
/- The document's Step of a crew (ref05). -/
namespace Go.Proofs.YtkpbanfpnilifaaGreat
open Go.BigFrame
open Go.RowKit Go.Proofs.YtkpbanfpnilifaaGreat.Plain

def R5P (w0 : World) (row : Option Nat) (V e0 P m e1 nh ch B : Nat) (Ah : Option Addr) (xs : List Nat) (x y : Int) : Nat → World → List Value → Value → Prop
  | 0, w, ds, v => v = .pointer (some ⟨V, 3, none⟩)
  | 1, w, ds, v => v = .slice (some ⟨e0, 0, none⟩) m e1
  | 2, w, ds, v => v = .int .i64 P
  | 3, w, ds, v => v = .pointer (some ⟨V, 3, none⟩)
  | 4, w, ds, v => v = .slice (some ⟨e0, 0, none⟩) m e1
  | 5, w, ds, v => v = .int .i64 P
  | 6, w, ds, v => v = .pointer (some ⟨e0, P, none⟩)
  | 7, w, ds, v => v = .slice Ah nh ch
  | 8, w, ds, v => v = .int .i64 y
  | 9, w, ds, v => v = .int .i64 x
  | 10, w, ds, v => ∃ p, v = .slice (some ⟨p, 0, none⟩) 2 2 ∧ Ow kInt w0.heap.size w (.slice (some ⟨p, 0, none⟩) 2 2) [y, x]
  | 11, w, ds, v => AppAt kInt B w v (zs xs ++ [y, x]) (.slice Ah nh ch) w0.heap.size
  | _, _, _, _ => True
theorem R5P_ext (w0 : World) (row : Option Nat) (V e0 P m e1 nh ch B : Nat) (Ah : Option Addr) (xs : List Nat) (x y : Int) : ∀ i w w' ds v, R5P w0 row V e0 P m e1 nh ch B Ah xs x y i w ds v → Ext w w' → R5P w0 row V e0 P m e1 nh ch B Ah xs x y i w' ds v
  | 0, _, _, _, _, h, _ => h
  | 1, _, _, _, _, h, _ => h
  | 2, _, _, _, _, h, _ => h
  | 3, _, _, _, _, h, _ => h
  | 4, _, _, _, _, h, _ => h
  | 5, _, _, _, _, h, _ => h
  | 6, _, _, _, _, h, _ => h
  | 7, _, _, _, _, h, _ => h
  | 8, _, _, _, _, h, _ => h
  | 9, _, _, _, _, h, _ => h
  | 10, _, _, _, _, h, hE => (by obtain ⟨p, h1, h2⟩ := h; exact ⟨p, h1, h2.ext hE⟩)
  | 11, _, _, _, _, h, hE => h.ext hE
  | _ + 12, _, _, _, _, _, _ => trivial
theorem R5P_sw (w0 : World) (row : Option Nat) (V e0 P m e1 nh ch B : Nat) (Ah : Option Addr) (xs : List Nat) (x y : Int) (hrow : ∀ b, row = some b → b < w0.heap.size) : ∀ i w w' ds v, i ≠ 11 → R5P w0 row V e0 P m e1 nh ch B Ah xs x y i w ds v → Wr row w w' → R5P w0 row V e0 P m e1 nh ch B Ah xs x y i w' ds v
  | 0, _, _, _, _, _, h, _ => h
  | 1, _, _, _, _, _, h, _ => h
  | 2, _, _, _, _, _, h, _ => h
  | 3, _, _, _, _, _, h, _ => h
  | 4, _, _, _, _, _, h, _ => h
  | 5, _, _, _, _, _, h, _ => h
  | 6, _, _, _, _, _, h, _ => h
  | 7, _, _, _, _, _, h, _ => h
  | 8, _, _, _, _, _, h, _ => h
  | 9, _, _, _, _, _, h, _ => h
  | 10, _, _, _, _, _, h, hE => (by obtain ⟨p, h1, h2⟩ := h; exact ⟨p, h1, h2.sw hE hrow⟩)
  | 11, _, _, _, _, hq, _, _ => absurd rfl hq
  | _ + 12, _, _, _, _, _, _, _ => trivial
section
variable (w0 : World) (row : Option Nat) (V e0 P m e1 nh ch B : Nat) (Ah : Option Addr) (xs : List Nat) (x y : Int) (w : World) (ds : List Value) (v : Value)
theorem R5P_i0 (h : v = .pointer (some ⟨V, 3, none⟩)) : R5P w0 row V e0 P m e1 nh ch B Ah xs x y 0 w ds v := h
theorem R5P_e0 (h : R5P w0 row V e0 P m e1 nh ch B Ah xs x y 0 w ds v) : v = .pointer (some ⟨V, 3, none⟩) := h
theorem R5P_i1 (h : v = .slice (some ⟨e0, 0, none⟩) m e1) : R5P w0 row V e0 P m e1 nh ch B Ah xs x y 1 w ds v := h
theorem R5P_e1 (h : R5P w0 row V e0 P m e1 nh ch B Ah xs x y 1 w ds v) : v = .slice (some ⟨e0, 0, none⟩) m e1 := h
theorem R5P_i2 (h : v = .int .i64 P) : R5P w0 row V e0 P m e1 nh ch B Ah xs x y 2 w ds v := h
theorem R5P_e2 (h : R5P w0 row V e0 P m e1 nh ch B Ah xs x y 2 w ds v) : v = .int .i64 P := h
theorem R5P_i3 (h : v = .pointer (some ⟨V, 3, none⟩)) : R5P w0 row V e0 P m e1 nh ch B Ah xs x y 3 w ds v := h
theorem R5P_e3 (h : R5P w0 row V e0 P m e1 nh ch B Ah xs x y 3 w ds v) : v = .pointer (some ⟨V, 3, none⟩) := h
theorem R5P_i4 (h : v = .slice (some ⟨e0, 0, none⟩) m e1) : R5P w0 row V e0 P m e1 nh ch B Ah xs x y 4 w ds v := h
theorem R5P_e4 (h : R5P w0 row V e0 P m e1 nh ch B Ah xs x y 4 w ds v) : v = .slice (some ⟨e0, 0, none⟩) m e1 := h
theorem R5P_i5 (h : v = .int .i64 P) : R5P w0 row V e0 P m e1 nh ch B Ah xs x y 5 w ds v := h
theorem R5P_e5 (h : R5P w0 row V e0 P m e1 nh ch B Ah xs x y 5 w ds v) : v = .int .i64 P := h
theorem R5P_i6 (h : v = .pointer (some ⟨e0, P, none⟩)) : R5P w0 row V e0 P m e1 nh ch B Ah xs x y 6 w ds v := h
theorem R5P_e6 (h : R5P w0 row V e0 P m e1 nh ch B Ah xs x y 6 w ds v) : v = .pointer (some ⟨e0, P, none⟩) := h
theorem R5P_i7 (h : v = .slice Ah nh ch) : R5P w0 row V e0 P m e1 nh ch B Ah xs x y 7 w ds v := h
theorem R5P_e7 (h : R5P w0 row V e0 P m e1 nh ch B Ah xs x y 7 w ds v) : v = .slice Ah nh ch := h
theorem R5P_i8 (h : v = .int .i64 y) : R5P w0 row V e0 P m e1 nh ch B Ah xs x y 8 w ds v := h
theorem R5P_e8 (h : R5P w0 row V e0 P m e1 nh ch B Ah xs x y 8 w ds v) : v = .int .i64 y := h
theorem R5P_i9 (h : v = .int .i64 x) : R5P w0 row V e0 P m e1 nh ch B Ah xs x y 9 w ds v := h
theorem R5P_e9 (h : R5P w0 row V e0 P m e1 nh ch B Ah xs x y 9 w ds v) : v = .int .i64 x := h
theorem R5P_i10 (h : ∃ p, v = .slice (some ⟨p, 0, none⟩) 2 2 ∧ Ow kInt w0.heap.size w (.slice (some ⟨p, 0, none⟩) 2 2) [y, x]) : R5P w0 row V e0 P m e1 nh ch B Ah xs x y 10 w ds v := h
theorem R5P_e10 (h : R5P w0 row V e0 P m e1 nh ch B Ah xs x y 10 w ds v) : ∃ p, v = .slice (some ⟨p, 0, none⟩) 2 2 ∧ Ow kInt w0.heap.size w (.slice (some ⟨p, 0, none⟩) 2 2) [y, x] := h
theorem R5P_i11 (h : AppAt kInt B w v (zs xs ++ [y, x]) (.slice Ah nh ch) w0.heap.size) : R5P w0 row V e0 P m e1 nh ch B Ah xs x y 11 w ds v := h
theorem R5P_e11 (h : R5P w0 row V e0 P m e1 nh ch B Ah xs x y 11 w ds v) : AppAt kInt B w v (zs xs ++ [y, x]) (.slice Ah nh ch) w0.heap.size := h
end

/-- behind the popping -/
def PopCut (w5 : World) (F P K : Nat) (xs : List Nat) (r k q : Value) (wx : World) : Prop :=
  Ext w5 wx ∧ ∃ e : Int, q = .int .i64 e ∧ ((F = P ∧ e = 0 ∧ ∃ x : Hd, r = x.v ∧ k = .int .i64 K ∧ x.n = xs.length ∧ Ow kInt w5.heap.size wx x.v (zs xs)) ∨ (F ≠ P ∧ e = 4))
/-- behind the taking -/
def TakenCut (w1 : World) (B V g m : Nat) (c : Cw) (ev : Ev) (A1 B1 : Option Addr) (e0 e1 a1 b1 : Nat) (wx : World) : Prop := ∃ L, S5At w1 wx B V (V + 1) g m c ev A1 B1 e0 e1 a1 b1 L
/-- what the document's Step leaves -/
def R5Said (g m : Nat) (r : Cw × Ev) (w : World) (ed : Ending) (w' : World) : Prop :=
  ∃ (A B : Option Addr) (e0 a b e : Nat), m ≤ e ∧ ed = .returned (.tuple #[crewV A B e0 0 a b e g m r.1, evV r.2, .int .i64 0]) ∧ CrewO (fun x => x < w.heap.size) w' m r.1 A B e0 0 a b ∧ Ext w w'

set_option maxHeartbeats 6400000 in
set_option maxRecDepth 100000 in
theorem rstep5_any (A B : Option Addr) (eb eo a b e g n m : Nat) (c : Cw) (done : Nat) (G : List Nat) (p q : Int) (w : World) (h : CrewAt w m c A B eb eo a b) (me : m ≤ e) (hI : CwI g n m c done G)
    (n1 : 1 ≤ n) (n2 : n ≤ 900) (g1 : 1 ≤ g) (g2 : g ≤ 100) (m1 : 1 ≤ m) (m2 : m ≤ 8) (hst : c.st < 100000) (hid : c.id < 100000) (hp : in64 p) (hq : in64 q) :
    Calls Tryz.prog 62 #[crewV A B eb eo a b e g m c, .int .i64 p, .int .i64 q] w (R5Said g m (stepP g m c p q) w) := by
  have H := Lib.hid h
  have HI := Lib.hid hI
  have HPQ := Lib.hid (And.intro hp hq)
  have hfew := hI.few g1 n1
  have HLT : Hid (c.ts.length ≤ 4000) := Lib.hid (by omega)
  have HLN : Hid (c.dn.length ≤ 4000) := Lib.hid (by rw [(CrI.inv hI).dl]; omega)
  have HLH : Hid (∀ j, (c.D.getD j []).length ≤ 4000) := Lib.hid (by
    intro j
    have h2 := (CrI.fresh hI).2.2.2
    by_cases hj : j < c.D.length
    · have h3 := (held_at c.D j hj).length_eq
      rw [List.length_append] at h3
      omega
    · rw [List.getD_eq_getElem?_getD, List.getElem?_eq_none (by omega)]; simp)
  have s1 : (0 : Int) ≤ (c.st : Int) := by omega
  have s2 : (c.st : Int) ≤ 99999 := by omega
  have s3 : (0 : Int) ≤ (c.id : Int) := by omega
  have s4 : (c.id : Int) ≤ 99999 := by omega
  have s5 : (1 : Int) ≤ m := by omega
  have s6 : (m : Int) ≤ 8 := by omega
  clear h hI hp hq hfew
  go_enter Tryz.func62, Tryz.ntmps62
  go_wp2_with fail
  refine (rright5_yes A B eb eo a b e g n m c _ _ _ (H.out.ext ((((Ext.refl _).alloc _).alloc _).alloc _)) HI.out n1 n2 g1 g2 m1 m2 (by omega) (by omega)).mono ?_
  rintro ed w1 ⟨rfl, hE1⟩
  have k0 : w1.cell? ⟨w.heap.size, 0, none⟩ = some (.slice A c.ts.length a) := Ext.cell hE1 (by go_simp)
  have k1 : w1.cell? ⟨w.heap.size, 1, none⟩ = some (.int .i64 g) := Ext.cell hE1 (by go_simp)
  have k2 : w1.cell? ⟨w.heap.size, 2, none⟩ = some (.slice B c.dn.length b) := Ext.cell hE1 (by go_simp)
  have k3 : w1.cell? ⟨w.heap.size, 3, none⟩ = some (.slice (some ⟨eb, eo, none⟩) m e) := Ext.cell hE1 (by go_simp)
  have k4 : w1.cell? ⟨w.heap.size, 4, none⟩ = some (.bool c.over) := Ext.cell hE1 (by go_simp)
  have k5 : w1.cell? ⟨w.heap.size, 5, none⟩ = some (.int .i64 c.st) := Ext.cell hE1 (by go_simp)
  have k6 : w1.cell? ⟨w.heap.size, 6, none⟩ = some (.int .i64 c.id) := Ext.cell hE1 (by go_simp)
  have kf : ∀ o, w1.frozen? ⟨w.heap.size, o, none⟩ = false := fun o => (Below.frozen hE1 (p := ⟨w.heap.size, o, none⟩) (by first | omega | (simp; omega) | simp)).trans (by go_simp)
  have r0 : w1.cell? ⟨w.heap.size + 1, 0, none⟩ = some (.slice none 0 0) := Ext.cell hE1 (by go_simp)
  have r1 : w1.cell? ⟨w.heap.size + 1, 1, none⟩ = some (.int .i64 0) := Ext.cell hE1 (by go_simp)
  have r2 : w1.cell? ⟨w.heap.size + 1, 2, none⟩ = some (.slice none 0 0) := Ext.cell hE1 (by go_simp)
  have r3 : w1.cell? ⟨w.heap.size + 1, 3, none⟩ = some (.slice none 0 0) := Ext.cell hE1 (by go_simp)
  have r4 : w1.cell? ⟨w.heap.size + 1, 4, none⟩ = some (.bool false) := Ext.cell hE1 (by go_simp)
  have r5 : w1.cell? ⟨w.heap.size + 1, 5, none⟩ = some (.int .i64 0) := Ext.cell hE1 (by go_simp)
  have r6 : w1.cell? ⟨w.heap.size + 1, 6, none⟩ = some (.int .i64 0) := Ext.cell hE1 (by go_simp)
  have rf : ∀ o, w1.frozen? ⟨w.heap.size + 1, o, none⟩ = false := fun o => (Below.frozen hE1 (p := ⟨w.heap.size + 1, o, none⟩) (by first | omega | (simp; omega) | simp)).trans (by go_simp)
  have s0 : w1.cell? ⟨w.heap.size + 1 + 1, 0, none⟩ = some (.int .i64 0) := Ext.cell hE1 (by go_simp)
  have s1 : w1.cell? ⟨w.heap.size + 1 + 1, 1, none⟩ = some (.int .i64 0) := Ext.cell hE1 (by go_simp)
  have s2 : w1.cell? ⟨w.heap.size + 1 + 1, 2, none⟩ = some (.int .i64 0) := Ext.cell hE1 (by go_simp)
  have s3 : w1.cell? ⟨w.heap.size + 1 + 1, 3, none⟩ = some (.bool false) := Ext.cell hE1 (by go_simp)
  have sf : ∀ o, w1.frozen? ⟨w.heap.size + 1 + 1, o, none⟩ = false := fun o => (Below.frozen hE1 (p := ⟨w.heap.size + 1 + 1, o, none⟩) (by first | omega | (simp; omega) | simp)).trans (by go_simp)
  have hz1 := hE1.size
  simp at hz1
  have HX1 := Lib.hid (((((Ext.refl w).alloc _).alloc _).alloc _).trans hE1)
  clear hE1
  go_wp2_with fail
  refine (rcut_any _ _ _ HPQ.out.1 m1 m2).mono ?_
  rintro ed wx ⟨rfl, rfl⟩
  go_wp2_with fail
  refine (rcut_any _ _ _ HPQ.out.2 m1 m2).mono ?_
  rintro ed wx ⟨rfl, rfl⟩
  go_wp2_with fail
  refine (r5copy_any A B eb eo a b e g m c _ (H.out.ext HX1.out) me m1 m2 HLT.out HLN.out (fun j => Nat.le_trans (HLH.out j) (by omega))).mono ?_
  rintro ed w4 ⟨A1, B1, e0, a1, b1, e1, L, rfl, hO, hE4⟩
  have hz4 := hE4.size
  obtain ⟨V, hV⟩ : ∃ V, w4.heap.size = V := ⟨_, rfl⟩
  go_upto_region 10 with fail
  have hS5 := S5At.begin (g := g) (ev := ⟨cutN m p, -1, -1, false⟩) hO hE4 (Nat.le_refl _) hz4 (c.st + 1)
  have hE5 : Ext w4 ((w4.alloc (.cells #[.slice A1 c.ts.length a1, .int .i64 g, .slice B1 c.dn.length b1, .slice (some ⟨e0, 0, none⟩) m e1, .bool c.over, .int .i64 ((c.st : Int) + 1), .int .i64 c.id] 81)).alloc (.cells #[.int .i64 (cutN m p), .int .i64 (-1), .int .i64 (-1), .bool false] 106)) := ((Ext.refl w4).alloc _).alloc _
  obtain ⟨c1, hc1⟩ : ∃ c1 : Cw, (⟨c.ts, c.dn, c.D, c.over, c.st + 1, c.id⟩ : Cw) = c1 := ⟨_, rfl⟩
  have HS5 : Hid (S5At w1 ((w4.alloc (.cells #[.slice A1 c.ts.length a1, .int .i64 g, .slice B1 c.dn.length b1, .slice (some ⟨e0, 0, none⟩) m e1, .bool c.over, .int .i64 ((c.st : Int) + 1), .int .i64 c.id] 81)).alloc (.cells #[.int .i64 (cutN m p), .int .i64 (-1), .int .i64 (-1), .bool false] 106)) w1.heap.size V (V + 1) g m c1 ⟨cutN m p, -1, -1, false⟩ A1 B1 e0 e1 a1 b1 L) := Lib.hid (by rw [← hc1, ← hV]; exact hS5)
  have HC1 := Lib.hid hc1
  have HZ5 : Hid (w1.heap.size ≤ ((w4.alloc (.cells #[.slice A1 c.ts.length a1, .int .i64 g, .slice B1 c.dn.length b1, .slice (some ⟨e0, 0, none⟩) m e1, .bool c.over, .int .i64 ((c.st : Int) + 1), .int .i64 c.id] 81)).alloc (.cells #[.int .i64 (cutN m p), .int .i64 (-1), .int .i64 (-1), .bool false] 106)).heap.size) := Lib.hid (by simp; omega)
  rw [hV] at *
  clear hS5 hO hc1
  generalize hw5 : ((w4.alloc (.cells #[.slice A1 c.ts.length a1, .int .i64 g, .slice B1 c.dn.length b1, .slice (some ⟨e0, 0, none⟩) m e1, .bool c.over, .int .i64 ((c.st : Int) + 1), .int .i64 c.id] 81)).alloc (.cells #[.int .i64 (cutN m p), .int .i64 (-1), .int .i64 (-1), .bool false] 106)) = w5 at *
  clear hw5 hE5
  obtain ⟨hs0, hds⟩ := H.out.deq
  have HDS := Lib.hid hds
  have HDL : Hid (c.D.length = m) := Lib.hid hds.1
  have hP := cutN_lt m p m1
  have hQ := cutN_lt m q m1
  obtain ⟨P, hPP⟩ : ∃ P, cutN m p = P := ⟨_, rfl⟩
  obtain ⟨Q, hQQ⟩ : ∃ Q, cutN m q = Q := ⟨_, rfl⟩
  have hstep : stepP g m c p q = match srcN c.D P Q with
    | none => (⟨c.ts, c.dn, c.D, c.over, c.st + 1, c.id + 1⟩, ⟨P, -1, -1, false⟩)
    | some F => goP g c P F := by rw [← hPP, ← hQQ]; rfl
  rw [hPP] at hP HS5 ⊢
  rw [hQQ] at hQ ⊢
  have HSTEP := Lib.hid hstep
  have hP0 : (0 : Int) ≤ P := by omega
  have hP1 : (P : Int) < m := by omega
  have hQ0 : (0 : Int) ≤ Q := by omega
  have hQ1 : (Q : Int) < m := by omega
  have HXW : Hid (Ext w w5) := Lib.hid (HX1.out.trans HS5.out.ext)
  have leb : eb < w.heap.size := HDS.out.lt m1
  obtain ⟨zP, nP, rP⟩ := hds.2 P hP
  obtain ⟨zQ, nQ, rQ⟩ := hds.2 Q hQ
  obtain ⟨⟨Ap, np, cp⟩, hhp⟩ : ∃ x, hs0 P = x := ⟨_, rfl⟩
  obtain ⟨⟨Aq, nq, cq⟩, hhq⟩ : ∃ x, hs0 Q = x := ⟨_, rfl⟩
  rw [hhp] at zP nP rP
  rw [hhq] at zQ nQ rQ
  unfold Hd.v at zP zQ rP rQ
  simp only at zP zQ rP rQ nP nQ
  have HRP := Lib.hid rP
  have HRQ := Lib.hid rQ
  have HNP := Lib.hid nP
  have HNQ := Lib.hid nQ
  have kE := HS5.out.ext
  have HZP : Hid (w1.cell? ⟨eb, eo + P, none⟩ = some (.slice Ap np cp)) := Lib.hid (HX1.out.cell zP)
  have HZQ : Hid (w1.cell? ⟨eb, eo + Q, none⟩ = some (.slice Aq nq cq)) := Lib.hid (HX1.out.cell zQ)
  have HK : Hid (∀ W, Ext w1 W → W.cell? ⟨w.heap.size, 0, none⟩ = some (.slice A c.ts.length a) ∧ W.cell? ⟨w.heap.size, 1, none⟩ = some (.int .i64 g) ∧ W.cell? ⟨w.heap.size, 2, none⟩ = some (.slice B c.dn.length b) ∧ W.cell? ⟨w.heap.size, 3, none⟩ = some (.slice (some ⟨eb, eo, none⟩) m e)) := Lib.hid fun W hE => ⟨hE.cell k0, hE.cell k1, hE.cell k2, hE.cell k3⟩
  have HR : Hid (∀ W, Ext w1 W → W.cell? ⟨w.heap.size + 1, 0, none⟩ = some (.slice none 0 0) ∧ W.cell? ⟨w.heap.size + 1, 1, none⟩ = some (.int .i64 0) ∧ W.cell? ⟨w.heap.size + 1, 2, none⟩ = some (.slice none 0 0) ∧ W.cell? ⟨w.heap.size + 1, 3, none⟩ = some (.slice none 0 0) ∧ W.cell? ⟨w.heap.size + 1, 4, none⟩ = some (.bool false) ∧ W.cell? ⟨w.heap.size + 1, 5, none⟩ = some (.int .i64 0) ∧ W.cell? ⟨w.heap.size + 1, 6, none⟩ = some (.int .i64 0) ∧ W.cell? ⟨w.heap.size + 1 + 1, 0, none⟩ = some (.int .i64 0) ∧ W.cell? ⟨w.heap.size + 1 + 1, 1, none⟩ = some (.int .i64 0) ∧ W.cell? ⟨w.heap.size + 1 + 1, 2, none⟩ = some (.int .i64 0) ∧ W.cell? ⟨w.heap.size + 1 + 1, 3, none⟩ = some (.bool false) ∧ (∀ o, W.frozen? ⟨w.heap.size + 1, o, none⟩ = false) ∧ (∀ o, W.frozen? ⟨w.heap.size + 1 + 1, o, none⟩ = false)) := Lib.hid fun W hE => ⟨hE.cell r0, hE.cell r1, hE.cell r2, hE.cell r3, hE.cell r4, hE.cell r5, hE.cell r6, hE.cell s0, hE.cell s1, hE.cell s2, hE.cell s3, fun o => (Below.frozen hE (p := ⟨w.heap.size + 1, o, none⟩) (by show w.heap.size + 1 < w1.heap.size; omega)).trans (rf o), fun o => (Below.frozen hE (p := ⟨w.heap.size + 1 + 1, o, none⟩) (by show w.heap.size + 1 + 1 < w1.heap.size; omega)).trans (sf o)⟩
  clear hds hstep hPP hQQ zP zQ nP nQ rP rQ hhp hhq k0 k1 k2 k3 k4 k5 k6 kf r0 r1 r2 r3 r4 r5 r6 rf s0 s1 s2 s3 sf
  cases hsrc : srcN c.D P Q with
  | none =>
    obtain ⟨eP, eQ⟩ := srcN_none hsrc
    have HRES : Hid (stepP g m c p q = (⟨c.ts, c.dn, c.D, c.over, c.st + 1, c.id + 1⟩, ⟨P, -1, -1, false⟩)) := Lib.hid (by rw [HSTEP.out, hsrc])
    have hnp : np = 0 := by rw [HNP.out, eP]; rfl
    have hnq : nq = 0 := by rw [HNQ.out, eQ]; rfl
    subst hnp hnq
    clear hsrc eP eQ
    have hzp := kE.cell HZP.out
    have hzq := kE.cell HZQ.out
    obtain ⟨k0, k1, k2, k3⟩ := HK.out w5 kE
    go_wp2_with fail
    refine (rpop_any Ap cp [] w5 (Ints.nil _ _ _) (by decide)).mono ?_
    rintro ed w6 ⟨A6, c6, rfl, _, hE6⟩
    rw [show popE [] = 4 from rfl]
    have hS6 := HS5.out.ext' hE6
    have HS6 := Lib.hid hS6
    have hzq6 := hE6.cell hzq
    obtain ⟨k0', k1', k2', k3'⟩ := HK.out w6 hS6.ext
    clear k0 k1 k2 k3 hzp hzq hE6 hS6
    go_wp2_with fail
    refine (rsteal_any Aq cq [] w6 (Ints.nil _ _ _) (by decide)).mono ?_
    rintro ed w7 ⟨A7, c7, rfl, _, hE7⟩
    rw [show popE [] = 4 from rfl]
    have hS7 := HS6.out.ext' hE7
    have HS7 := Lib.hid hS7
    have v6 : w7.cell? ⟨V, 6, none⟩ = some (.int .i64 c1.id) := (cell_of_row w7 V 6 _ _ _ hS7.box).trans rfl
    rw [show c1.id = c.id by rw [← HC1.out]] at v6
    have vf := fun o => frozen_of_row w7 V o _ _ hS7.box
    have lv := block_lt hS7.box
    clear hE7 hS7 hzq6 k0' k1' k2' k3'
    go_upto_region 19 with fail
    have hS8 := HS7.out.idle (c.id + 1)
    have HS8 := Lib.hid hS8
    obtain ⟨cx, hcx⟩ : ∃ x : Cw, (⟨c1.ts, c1.dn, c1.D, c1.over, c1.st, c.id + 1⟩ : Cw) = x := ⟨_, rfl⟩
    obtain ⟨ex, hex⟩ : ∃ x : Ev, (⟨P, -1, -1, false⟩ : Ev) = x := ⟨_, rfl⟩
    have HSX : S5At w1 (w7.setCell ⟨V, 6, none⟩ (.int .i64 ((c.id : Int) + 1))) w1.heap.size V (V + 1) g m (⟨c1.ts, c1.dn, c1.D, c1.over, c1.st, c.id + 1⟩ : Cw) (⟨P, -1, -1, false⟩ : Ev) A1 B1 e0 e1 a1 b1 L := HS8.out
    rw [hcx, hex] at HSX
    have hrs : stepP g m c p q = (cx, ex) := by rw [HRES.out, ← hcx, ← hex]; rw [← HC1.out]
    have HSX := Lib.hid HSX
    have HRS := Lib.hid hrs
    have hme : m ≤ e1 := by
      obtain ⟨A', c', hh, hl⟩ := HSX.out.dq.row.slice
      cases hh
      have := HSX.out.dq.len
      omega
    have hxx := HSX.out.ext
    have hvl := HSX.out.vl
    have v0 : (w7.setCell ⟨V, 6, none⟩ (.int .i64 ((c.id : Int) + 1))).cell? ⟨V, 0, none⟩ = some (.slice A1 cx.ts.length a1) := (cell_of_row _ V 0 _ _ _ HSX.out.box).trans rfl
    have v1 : (w7.setCell ⟨V, 6, none⟩ (.int .i64 ((c.id : Int) + 1))).cell? ⟨V, 1, none⟩ = some (.int .i64 g) := (cell_of_row _ V 1 _ _ _ HSX.out.box).trans rfl
    have v2 : (w7.setCell ⟨V, 6, none⟩ (.int .i64 ((c.id : Int) + 1))).cell? ⟨V, 2, none⟩ = some (.slice B1 cx.dn.length b1) := (cell_of_row _ V 2 _ _ _ HSX.out.box).trans rfl
    have v3 : (w7.setCell ⟨V, 6, none⟩ (.int .i64 ((c.id : Int) + 1))).cell? ⟨V, 3, none⟩ = some (.slice (some ⟨e0, 0, none⟩) m e1) := (cell_of_row _ V 3 _ _ _ HSX.out.box).trans rfl
    have v4 : (w7.setCell ⟨V, 6, none⟩ (.int .i64 ((c.id : Int) + 1))).cell? ⟨V, 4, none⟩ = some (.bool cx.over) := (cell_of_row _ V 4 _ _ _ HSX.out.box).trans rfl
    have v5 : (w7.setCell ⟨V, 6, none⟩ (.int .i64 ((c.id : Int) + 1))).cell? ⟨V, 5, none⟩ = some (.int .i64 cx.st) := (cell_of_row _ V 5 _ _ _ HSX.out.box).trans rfl
    have v6 : (w7.setCell ⟨V, 6, none⟩ (.int .i64 ((c.id : Int) + 1))).cell? ⟨V, 6, none⟩ = some (.int .i64 cx.id) := (cell_of_row _ V 6 _ _ _ HSX.out.box).trans rfl
    have v7 : (w7.setCell ⟨V, 6, none⟩ (.int .i64 ((c.id : Int) + 1))).cell? ⟨V + 1, 0, none⟩ = some (.int .i64 ex.wk) := (cell_of_row _ (V + 1) 0 _ _ _ HSX.out.ebx).trans rfl
    have v8 : (w7.setCell ⟨V, 6, none⟩ (.int .i64 ((c.id : Int) + 1))).cell? ⟨V + 1, 1, none⟩ = some (.int .i64 ex.fr) := (cell_of_row _ (V + 1) 1 _ _ _ HSX.out.ebx).trans rfl
    have v9 : (w7.setCell ⟨V, 6, none⟩ (.int .i64 ((c.id : Int) + 1))).cell? ⟨V + 1, 2, none⟩ = some (.int .i64 ex.tk) := (cell_of_row _ (V + 1) 2 _ _ _ HSX.out.ebx).trans rfl
    have v10 : (w7.setCell ⟨V, 6, none⟩ (.int .i64 ((c.id : Int) + 1))).cell? ⟨V + 1, 3, none⟩ = some (.bool ex.pt) := (cell_of_row _ (V + 1) 3 _ _ _ HSX.out.ebx).trans rfl
    obtain ⟨y0, y1, y2, y3, y4, y5, y6, x0, x1, x2, x3, yf, xf⟩ := HR.out (w7.setCell ⟨V, 6, none⟩ (.int .i64 ((c.id : Int) + 1))) hxx
    have l8 := block_lt HSX.out.box
    have l9 := block_lt HSX.out.ebx
    generalize w7.setCell ⟨V, 6, none⟩ (.int .i64 ((c.id : Int) + 1)) = w9 at *
    have l6 : w.heap.size + 1 + 1 < w9.heap.size := by have := hxx.size; omega
    have l7 : w.heap.size + 1 < w9.heap.size := by omega
    have nV1 : ¬ w.heap.size + 1 = V := by omega
    have nV2 : ¬ w.heap.size + 1 + 1 = V := by omega
    have nV3 : ¬ V = w.heap.size + 1 := by omega
    have nV4 : ¬ V = w.heap.size + 1 + 1 := by omega
    have nQ1 : ¬ w.heap.size + 1 = V + 1 := by omega
    have nQ2 : ¬ w.heap.size + 1 + 1 = V + 1 := by omega
    have nQ3 : ¬ V + 1 = w.heap.size + 1 := by omega
    have nQ4 : ¬ V + 1 = w.heap.size + 1 + 1 := by omega
    clear hxx hrs hcx hex
    go_cut [8] (fun z wx => z = .int .i64 0 ∧ Boxed wx (w.heap.size + 1) (w.heap.size + 1 + 1) A1 B1 e0 a1 b1 e1 g m cx ex ∧ Grew (fun x => x = w.heap.size + 1 ∨ x = w.heap.size + 1 + 1) w9 wx)
    case first =>
      go_region
      all_goals go_wp2_with fail
      all_goals go_meet
      all_goals first
        | (with_reducible exact ⟨rfl, Boxed.one' (by omega) (by omega) y0 y1 y2 y3 y4 y5 y6 x0 x1 x2 x3⟩)
        | (with_reducible exact ⟨rfl, Boxed.two' (by omega) (by omega) y0 y1 y2 y3 y4 y5 y6 x0 x1 x2 x3⟩)
    case rest =>
    obtain ⟨rfl, hBx, hG7⟩ := hcut
    obtain ⟨j0, j1, j2, j3, j4, j5, j6, i0, i1, i2, i3⟩ := hBx
    have HG7 := Lib.hid hG7
    clear hG7 y0 y1 y2 y3 y4 y5 y6 x0 x1 x2 x3 yf xf v0 v1 v2 v3 v4 v5 v6 v7 v8 v9 v10 l6 l7 l8 l9
    go_wp2_with fail
    rw [HRS.out]
    refine bodyPost_ret (v := .tuple #[crewV A1 B1 e0 0 a1 b1 e1 g m cx, evV ex, .int .i64 0]) (by simp [results, Tryz.results62, go_sem, j0, j1, j2, j3, j4, j5, j6, i0, i1, i2, i3]) rfl ⟨A1, B1, e0, a1, b1, e1, hme, rfl, ?_, ?_⟩
    · have hb := HSX.out.bl
      exact ((HSX.out.crew).mono m1 (T := fun x => x < w.heap.size + 3) (fun x _ hx => by omega)).later m1 (hG := HG7.out.mono (fun x _ hx => by rcases hx with rfl | rfl <;> omega)) (fun x _ hx => by omega)
    · exact HG7.out.toExt (HX1.out.trans HSX.out.ext) (fun b hb => by rcases hb with rfl | rfl <;> omega)
  | some F => 
    obtain ⟨hne, hor⟩ := srcN_some hsrc
    have hF : F < m := by rcases hor with rfl | ⟨rfl, _⟩; exact hP; exact hQ
    have HRES : Hid (stepP g m c p q = goP g c P F) := Lib.hid (by rw [HSTEP.out, hsrc])
    have hdl := HDL.out
    have hE := take_held (P := P) (by omega : F < c.D.length) hne
    obtain ⟨K, hK⟩ : ∃ K, (takeN c.D P F).1 = K := ⟨_, rfl⟩
    obtain ⟨xs, hxs⟩ : ∃ xs, (takeN c.D P F).2 = xs := ⟨_, rfl⟩
    have hKm : K ∈ held c.D := by rw [← hK]; exact hE.mem_iff.2 (by simp)
    have hOI := CrI.inv HI.out
    have hKl := hOI.lt K hKm
    have hw0 := hOI.w0 K hKm
    have HKK := Lib.hid (And.intro hK hxs)
    have HKM := Lib.hid hKm
    clear hsrc hE hdl hOI
    have hzp := kE.cell HZP.out
    obtain ⟨k0, k1, k2, k3⟩ := HK.out w5 kE
    go_cut [12, 13, 14] (fun r k q wx => PopCut w5 F P K xs r k q wx)
    case first =>
      by_cases e : F = P
      · subst e
        have hne' : 0 < (zs (c.D.getD F [])).length := by rw [zs_len]; exact List.length_pos_iff.2 hne
        obtain ⟨p1, p2, p3⟩ := pop_zs _ hne
        have HPZ : Hid (popL (zs (c.D.getD F [])) = zs xs ∧ lastD (zs (c.D.getD F [])) = ((K : Nat) : Int) ∧ popE (zs (c.D.getD F [])) = 0) := Lib.hid (by
          have e1 := HKK.out.1
          have e2 := HKK.out.2
          unfold takeN at e1 e2
          rw [if_pos rfl] at e1 e2
          simp only at e1 e2
          rw [p1, p2, p3, e1, e2]; exact ⟨rfl, rfl, rfl⟩)
        have hnn : np = (zs (c.D.getD F [])).length := by rw [zs_len]; exact HNP.out
        have HIN : Hid (Ints w5 (.slice Ap (zs (c.D.getD F [])).length cp) (zs (c.D.getD F []))) := Lib.hid (by rw [← hnn]; exact ints_of_rd (HRP.out.rd.ext HXW.out))
        have HLL : Hid ((zs (c.D.getD F [])).length ≤ 4000) := Lib.hid (by rw [zs_len]; exact HLH.out F)
        subst hnn
        clear p1 p2 p3
        go_wp2_with fail
        refine (rpop_own Ap cp _ w5 HIN.out HLL.out hne').mono ?_
        rintro ed w6 ⟨A6, c6, rfl, hO6, hE6⟩
        rw [HPZ.out.1, HPZ.out.2.1, HPZ.out.2.2] at *
        have HO6 := Lib.hid hO6
        have HE6 := Lib.hid hE6
        clear hO6 hE6
        go_wp2_with fail
        go_meet
        exact ⟨HE6.out, 0, rfl, .inl ⟨rfl, rfl, ⟨A6, (zs xs).length, c6⟩, rfl, rfl, zs_len xs, ow_of_own HO6.out⟩⟩
      · have eP : c.D.getD P [] = [] := by
          rcases hor with h | ⟨_, _, h⟩
          · exact absurd h e
          · exact h
        have hnp : np = 0 := by rw [HNP.out, eP]; rfl
        subst hnp
        have HEE := Lib.hid e
        clear eP e
        go_wp2_with fail
        refine (rpop_any Ap cp [] w5 (Ints.nil _ _ _) (by decide)).mono ?_
        rintro ed w6 ⟨A6, c6, rfl, _, hE6⟩
        rw [show popE [] = 4 from rfl]
        have HE6 := Lib.hid hE6
        clear hE6
        go_wp2_with fail
        go_meet
        exact ⟨HE6.out, 4, rfl, .inr ⟨HEE.out, rfl⟩⟩
    case rest =>
    generalize wc = w6 at *
    obtain ⟨hE6, ec, rfl, hpop⟩ := hcut
    have hS6 := HS5.out.ext' hE6
    have HS6 := Lib.hid hS6
    have HE65 := Lib.hid hE6
    have HB5 : Hid (w1.heap.size ≤ w5.heap.size) := HZ5
    have v3 : w6.cell? ⟨V, 3, none⟩ = some (.slice (some ⟨e0, 0, none⟩) m e1) := (cell_of_row w6 V 3 _ _ _ hS6.box).trans rfl
    obtain ⟨z0, zf⟩ := hS6.head hF
    have q0 : w6.cell? ⟨V + 1, 1, none⟩ = some (.int .i64 (-1)) := (cell_of_row w6 (V + 1) 1 _ _ _ hS6.ebx).trans rfl
    have q1 : w6.cell? ⟨V + 1, 2, none⟩ = some (.int .i64 (-1)) := (cell_of_row w6 (V + 1) 2 _ _ _ hS6.ebx).trans rfl
    have qf := fun o => frozen_of_row w6 (V + 1) o _ _ hS6.ebx
    have n1 : e0 ≠ V := fun hh => hS6.dq.row.notBox hS6.box (by decide) (by rw [hh]; rfl)
    have n2 : e0 ≠ V + 1 := fun hh => hS6.dq.row.notBox hS6.ebx (by decide) (by rw [hh]; rfl)
    have le0 := (hS6.dq.row.lt e0 rfl).2
    have lQ := block_lt hS6.ebx
    obtain ⟨k0', k1', k2', k3'⟩ := HK.out w6 hS6.ext
    have HZQ6 : Hid (w6.cell? ⟨eb, eo + Q, none⟩ = some (.slice Aq nq cq)) := Lib.hid (hS6.ext.cell HZQ.out)
    have hF0 : (0 : Int) ≤ F := by omega
    have hF1 : (F : Int) < m := by omega
    obtain ⟨hx, hhx⟩ : ∃ x : Hd, L.getD F hd0 = x := ⟨_, rfl⟩
    obtain ⟨Ax, nx, cx⟩ := hx
    rw [hhx] at z0
    unfold Hd.v at z0
    simp only at z0
    clear hS6 k0 k1 k2 k3 hzp hE6 hhx
    go_upto_if 65 with fail
    go_cut [] (fun wx => TakenCut w1 w1.heap.size V g m ⟨c1.ts, c1.dn, c1.D.set F xs, c1.over, c1.st, c1.id⟩ ⟨P, F, K, false⟩ A1 B1 e0 e1 a1 b1 wx)
    case first =>
      rcases hpop with ⟨e, rfl, x, rfl, rfl, hxn, hxo⟩ | ⟨e, rfl⟩
      · subst e
        have HXO := Lib.hid (And.intro hxn hxo)
        clear hxn hxo
        go_wp2_with fail
        go_meet
        exact ⟨_, HS5.out.take HE65.out HB5.out hF HXO.out.2 HXO.out.1 _ _⟩
      · have hFQ : F = Q := by
          rcases hor with h | ⟨h, _, _⟩
          · exact absurd h e
          · exact h
        have HEE := Lib.hid e
        clear e hor
        subst hFQ
        have hne' : 0 < (zs (c.D.getD F [])).length := by rw [zs_len]; exact List.length_pos_iff.2 hne
        obtain ⟨p1, p2, p3⟩ := steal_zs _ hne
        have HPZ : Hid (stealL (zs (c.D.getD F [])) = zs xs ∧ topD (zs (c.D.getD F [])) = ((K : Nat) : Int) ∧ popE (zs (c.D.getD F [])) = 0) := Lib.hid (by
          have e1 := HKK.out.1
          have e2 := HKK.out.2
          unfold takeN at e1 e2
          rw [if_neg HEE.out] at e1 e2
          simp only at e1 e2
          rw [p1, p2, p3, e1, e2]; exact ⟨rfl, rfl, rfl⟩)
        have hnn : nq = (zs (c.D.getD F [])).length := by rw [zs_len]; exact HNQ.out
        have HIN : Hid (Ints w6 (.slice Aq (zs (c.D.getD F [])).length cq) (zs (c.D.getD F []))) := Lib.hid (by rw [← hnn]; exact ints_of_rd (HRQ.out.rd.ext (HXW.out.trans HE65.out)))
        have HLL : Hid ((zs (c.D.getD F [])).length ≤ 4000) := Lib.hid (by rw [zs_len]; exact HLH.out F)
        subst hnn
        clear p1 p2 p3
        have hzq6 := HZQ6.out
        go_wp2_with fail
        refine (rsteal_own Aq cq _ w6 HIN.out HLL.out hne').mono ?_
        rintro ed w7 ⟨A6, c6, rfl, hO6, hE7⟩
        rw [HPZ.out.1, HPZ.out.2.1, HPZ.out.2.2] at *
        have HO6 := Lib.hid hO6
        have HE7 := Lib.hid hE7
        have v3' := hE7.cell v3
        have z0' := hE7.cell z0
        have q0' := hE7.cell q0
        have q1' := hE7.cell q1
        have zf' := fun o => (Below.frozen hE7 (p := ⟨e0, o, none⟩) le0).trans (zf o)
        have qf' := fun o => (Below.frozen hE7 (p := ⟨V + 1, o, none⟩) lQ).trans (qf o)
        have hz7 := hE7.size
        have le0' : e0 < w7.heap.size := by omega
        have lQ' : V + 1 < w7.heap.size := by omega
        clear hO6 hE7 v3 z0 q0 q1 zf qf hzq6
        go_wp2_with fail
        go_meet
        exact ⟨_, HS6.out.take HE7.out (Nat.le_trans HB5.out HE65.out.size) hF (x := ⟨A6, (zs xs).length, c6⟩) (ow_of_own HO6.out) (zs_len xs) _ _⟩
    case rest =>
    obtain ⟨L2, hS⟩ := hcut
    generalize wc = w7 at *
    have HS := Lib.hid hS
    clear hpop v3 z0 zf q0 q1 qf k0' k1' k2' k3' le0 lQ n1 n2 hne
    obtain ⟨k0, k1, k2, k3⟩ := HK.out w7 hS.ext
    have q2 : w7.cell? ⟨V + 1, 2, none⟩ = some (.int .i64 K) := (cell_of_row w7 (V + 1) 2 _ _ _ hS.ebx).trans rfl
    have HB7 : Hid (w1.heap.size ≤ w7.heap.size) := Lib.hid hS.ext.size
    have HXW7 : Hid (Ext w w7) := Lib.hid (HX1.out.trans hS.ext)
    have HGI : Hid (in64 (g : Int)) := Lib.hid (by unfold in64; omega)
    have HKI : Hid (in64 (K : Int)) := Lib.hid (by have := HLT.out; unfold in64; omega)
    have HDN : Hid (c.dn.length = n) := Lib.hid (CrI.inv HI.out).dl
    have HTS := Lib.hid (H.out.tsk.rd.ext HXW7.out)
    have HDS7 := Lib.hid (H.out.dns.rd.ext HXW7.out)
    have HGR : Hid (wGreat c.ts (g : Int) c.dn.length (K : Int) = decide (g < sz c.ts K)) := Lib.hid (by rw [HDN.out]; exact (CrI.inv HI.out).greatB g1 g2 n1 n2 K HKM.out)
    have HWR : Hid (wRight c.ts (g : Int) c.dn.length = true) := Lib.hid (by rw [HDN.out]; exact (CrI.inv HI.out).right g1 g2 n1 n2)
    clear hS
    go_upto_region 20 with fail
    go_wp2_with fail
    refine (rgreat_any A B a b c.dn.length c.ts (g : Int) (K : Int) w7 HTS.out (by have := HLN.out; omega) HGI.out HKI.out).mono ?_
    rw [HGR.out]
    rintro ed w8 ⟨rfl, hE8⟩
    have HE8 := Lib.hid hE8
    have hS8 := HS.out.ext' hE8
    have HS8 := Lib.hid hS8
    obtain ⟨k0', k1', k2', k3'⟩ := HK.out w8 hS8.ext
    have q2' := hE8.cell q2
    clear hE8 hS8 k0 k1 k2 k3 q2
    by_cases hz : g < sz c.ts K
    · rw [decide_eq_true hz]
      have HPE : Hid (partErr c.ts (g : Int) c.dn.length (K : Int) = 0) := Lib.hid (by
        have hh : wHas c.ts.length (K : Int) = true := by unfold wHas; simp; omega
        have e : tkAt c.ts (K : Int) = T c.ts K := by unfold tkAt; rw [Int.toNat_natCast]
        unfold partErr
        rw [if_neg (by rw [HWR.out]; decide), if_neg (by rw [hh]; decide), if_neg (by rw [HGR.out, decide_eq_true hz]; decide), e, if_neg (by rw [hw0]; decide), if_neg (by have := HI.out.few g1 n1; omega)])
      have HGO : Hid (goP g c P F = (⟨partedTs c.ts K, c.dn, (c.D.set F xs).set P ((c.D.set F xs).getD P [] ++ [c.ts.length + 1, c.ts.length]), c.over, c.st + 1, c.id⟩, ⟨P, F, K, true⟩)) := Lib.hid (by
        unfold goP
        rw [HKK.out.1, HKK.out.2]
        simp only
        rw [if_pos hz]; rfl)
      go_wp2_with fail
      refine (rpart_any A B a b c.ts c.dn (g : Int) (K : Int) w8 (HTS.out.ext HE8.out) (HDS7.out.ext HE8.out) HGI.out HKI.out).mono ?_
      rintro ed w9 (⟨h1, _⟩ | ⟨_, A2, a2, B2, b2, rfl, hT, hD, hA, hB, hE9⟩)
      · exact absurd HPE.out h1
      rw [Int.toNat_natCast] at *
      have HT := Lib.hid (And.intro hT hA)
      have HD := Lib.hid (And.intro hD hB)
      have HE9 := Lib.hid hE9
      have hS9 := HS8.out.ext' hE9
      have v0 : w9.cell? ⟨V, 0, none⟩ = some (.slice A1 c1.ts.length a1) := (cell_of_row w9 V 0 _ _ _ hS9.box).trans rfl
      have v1 : w9.cell? ⟨V, 1, none⟩ = some (.int .i64 g) := (cell_of_row w9 V 1 _ _ _ hS9.box).trans rfl
      have v2 : w9.cell? ⟨V, 2, none⟩ = some (.slice B1 c1.dn.length b1) := (cell_of_row w9 V 2 _ _ _ hS9.box).trans rfl
      have vf := fun o => frozen_of_row w9 V o _ _ hS9.box
      have q3 : w9.cell? ⟨V + 1, 3, none⟩ = some (.bool false) := (cell_of_row w9 (V + 1) 3 _ _ _ hS9.ebx).trans rfl
      have qf := fun o => frozen_of_row w9 (V + 1) o _ _ hS9.ebx
      have lV := block_lt hS9.box
      have lQ := block_lt hS9.ebx
      clear hT hD hA hB hE9 hS9 k0' k1' k2' k3' q2'
      go_upto_region 25 with fail
      have hSA := (HS8.out.work (HE9.out.alloc (.cells #[.slice A2 (partedTs c.ts K).length a2, .int .i64 g, .slice B2 c.dn.length b2] 78)) (Nat.le_trans HB7.out HE8.out.size) (HT.out.1.ext ((Ext.refl _).alloc _)) (HD.out.1.ext ((Ext.refl _).alloc _)) HT.out.2 HD.out.2).parted true
      have HSA : Hid (S5At w1 ((((((w9.setCell ⟨V, 0, none⟩ (.slice A2 (partedTs c.ts K).length a2)).setCell ⟨V, 1, none⟩ (.int .i64 g)).setCell ⟨V, 2, none⟩ (.slice B2 c.dn.length b2)).setCell ⟨V + 1, 3, none⟩ (.bool true)).alloc (.cells #[.slice A2 (partedTs c.ts K).length a2, .int .i64 g, .slice B2 c.dn.length b2] 78))) w1.heap.size V (V + 1) g m ⟨partedTs c.ts K, c.dn, c1.D.set F xs, c1.over, c1.st, c1.id⟩ ⟨P, F, K, true⟩ A2 B2 e0 e1 a2 b2 L2) := Lib.hid (by
        have h9 := hSA
        rw [World.setCell_alloc_past (n := V) (i := 0), World.setCell_alloc_past (n := V) (i := 1), World.setCell_alloc_past (n := V) (i := 2), World.setCell_alloc_past (n := V + 1) (i := 3)] at h9
        · exact h9
        all_goals first | exact lV | exact lQ | (simp only [World.size_setCell]; first | exact lV | exact lQ) | (simp; omega))
      clear hSA v0 v1 v2 vf q3 qf lV lQ
      generalize (((((w9.setCell ⟨V, 0, none⟩ (.slice A2 (partedTs c.ts K).length a2)).setCell ⟨V, 1, none⟩ (.int .i64 g)).setCell ⟨V, 2, none⟩ (.slice B2 c.dn.length b2)).setCell ⟨V + 1, 3, none⟩ (.bool true)).alloc (.cells #[.slice A2 (partedTs c.ts K).length a2, .int .i64 g, .slice B2 c.dn.length b2] 78)) = wA at *
      have hSA := HSA.out
      have qv : wA.cell? ⟨V, 3, none⟩ = some (.slice (some ⟨e0, 0, none⟩) m e1) := (cell_of_row wA V 3 _ _ _ hSA.box).trans rfl
      obtain ⟨qh, zf⟩ := hSA.head hP
      obtain ⟨hh, hhh⟩ : ∃ x : Hd, L2.getD P hd0 = x := ⟨_, rfl⟩
      obtain ⟨Ah, nh, ch⟩ := hh
      obtain ⟨row, hrw0⟩ : ∃ row, (L2.getD P hd0).v.ownBlock = row := ⟨_, rfl⟩
      have hLP := (hSA.dq.els P hP).2
      have nV : ¬ row = some V := by rw [← hrw0]; exact hLP.notBox hSA.box (by decide)
      have nE : ¬ row = some e0 := by rw [← hrw0]; exact fun e => Ow.far (by decide) hLP hSA.dq.row e0 e rfl
      have hrow : ∀ b, row = some b → b < wA.heap.size := fun b e => (hLP.lt b (hrw0.trans e)).2
      obtain ⟨ys, hys⟩ : ∃ ys, (c1.D.set F xs).getD P [] = ys := ⟨_, rfl⟩
      have hLP2 : Ow kInt w1.heap.size wA (L2.getD P hd0).v (zs ys) := by rw [← hys]; exact hLP
      have hys4 : ys.length ≤ 5000 := by
        have := HLH.out P
        rw [← hys, ← HC1.out]
        show ((c.D.set F xs).getD P []).length ≤ 5000
        rw [getD_setL _ _ _ _ _ (by have := HDL.out; omega)]
        by_cases e : P = F
        · rw [if_pos e]
          have h1 := HKK.out.2
          have h2 := HLH.out F
          unfold takeN at h1
          rw [← h1]
          split
          · show (List.dropLast _).length ≤ _
            rw [List.length_dropLast]; omega
          · show (List.tail _).length ≤ _
            rw [List.length_tail]; omega
        · rw [if_neg e]; omega
      rw [hhh] at qh hLP2
      have hrw : Value.ownBlock (.slice Ah nh ch) = row := by rw [← hrw0, hhh]
      have HRW0 := Lib.hid hrw0
      have HPW : Hid (Ow kInt w1.heap.size wA (.slice Ah nh ch) (zs ys)) := Lib.hid hLP2
      unfold Hd.v at qh
      simp only at qh
      have HLL : Hid ((zs ys).length + 2 ≤ 1048576) := Lib.hid (by rw [zs_len]; omega)
      obtain ⟨x, hx⟩ : ∃ x : Int, ((c.ts.length : Nat) : Int) = x := ⟨_, rfl⟩
      obtain ⟨y, hy⟩ : ∃ y : Int, ((c.ts.length : Nat) : Int) + 1 = y := ⟨_, rfl⟩
      have HXY : Hid (∀ z ∈ [y, x], kInt.ok z) := Lib.hid (by
        have := HLT.out
        intro z hz
        simp only [List.mem_cons, List.not_mem_nil, or_false] at hz
        show -9223372036854775808 ≤ z ∧ z ≤ 9223372036854775807
        rcases hz with rfl | rfl <;> omega)
      have HXX := Lib.hid (And.intro hx hy)
      have HYS := Lib.hid hys
      have HHH := Lib.hid hhh
      have HZF := Lib.hid zf
      have HBS : Hid (w1.heap.size ≤ wA.heap.size) := Lib.hid hSA.ext.size
      have le0 := (hSA.dq.row.lt e0 rfl).2
      rw [hy, hx]
      clear hSA hLP hLP2 hhh hrw0 hys hx hy zf
      obtain ⟨B9, hB9⟩ : ∃ B9, w1.heap.size = B9 := ⟨_, rfl⟩
      have HB9 := Lib.hid hB9
      rw [hB9] at HBS HPW
      clear hB9
      refine MonoW.wp_region_write 12 11 (Wr row) (R5P wA row V e0 P m e1 nh ch B9 Ah ys x y) (by kernel_rfl) (by kernel_rfl) (Wr.of row) (Wr.tr row) (R5P_ext wA row V e0 P m e1 nh ch B9 Ah ys x y) (R5P_sw wA row V e0 P m e1 nh ch B9 Ah ys x y hrow) ?_ ?_
      · intro i o hi ho vals w5 hE hQ hcl
        have hi' : i = 0 ∨ i = 1 ∨ i = 2 ∨ i = 3 ∨ i = 4 ∨ i = 5 ∨ i = 6 ∨ i = 7 ∨ i = 8 ∨ i = 9 ∨ i = 10 ∨ i = 11 := by omega
        rcases hi' with rfl | rfl | rfl | rfl | rfl | rfl | rfl | rfl | rfl | rfl | rfl | rfl
        · simp only [List.getElem?_cons_succ, List.getElem?_cons_zero, Option.some.injEq] at ho
          subst ho
          rw [if_pos (Mono.wanted_none rfl)]
          clear hcl
          refine Mono.yields_same (.pointer (some ⟨V, 3, none⟩)) w5 ?_ ⟨MonoW.Out.of (Wr.of row) (Ext.refl _), R5P_i0 _ _ _ _ _ _ _ _ _ _ _ _ _ _ _ _ _ rfl⟩
          simp only [Mono.all, List.take, Act.put]
          go_simp
        · simp only [List.getElem?_cons_succ, List.getElem?_cons_zero, Option.some.injEq] at ho
          subst ho
          rw [if_pos (Mono.wanted_none rfl)]
          have h1 : vals 0 = .pointer (some ⟨V, 3, none⟩) := R5P_e0 _ _ _ _ _ _ _ _ _ _ _ _ _ _ _ _ _ (hcl 0 (by kernel_rfl))
          have k1 := hE.cell qv nV
          clear hcl
          refine Mono.yields_same (.slice (some ⟨e0, 0, none⟩) m e1) w5 ?_ ⟨MonoW.Out.of (Wr.of row) (Ext.refl _), R5P_i1 _ _ _ _ _ _ _ _ _ _ _ _ _ _ _ _ _ rfl⟩
          simp only [Mono.all, List.take, Act.put]
          go_simp
        · simp only [List.getElem?_cons_succ, List.getElem?_cons_zero, Option.some.injEq] at ho
          subst ho
          rw [if_pos (Mono.wanted_none rfl)]
          clear hcl
          refine Mono.yields_same (.int .i64 P) w5 ?_ ⟨MonoW.Out.of (Wr.of row) (Ext.refl _), R5P_i2 _ _ _ _ _ _ _ _ _ _ _ _ _ _ _ _ _ rfl⟩
          simp only [Mono.all, List.take, Act.put]
          go_simp
        · simp only [List.getElem?_cons_succ, List.getElem?_cons_zero, Option.some.injEq] at ho
          subst ho
          rw [if_pos (Mono.wanted_none rfl)]
          clear hcl
          refine Mono.yields_same (.pointer (some ⟨V, 3, none⟩)) w5 ?_ ⟨MonoW.Out.of (Wr.of row) (Ext.refl _), R5P_i3 _ _ _ _ _ _ _ _ _ _ _ _ _ _ _ _ _ rfl⟩
          simp only [Mono.all, List.take, Act.put]
          go_simp
        · simp only [List.getElem?_cons_succ, List.getElem?_cons_zero, Option.some.injEq] at ho
          subst ho
          rw [if_pos (Mono.wanted_none rfl)]
          have h1 : vals 3 = .pointer (some ⟨V, 3, none⟩) := R5P_e3 _ _ _ _ _ _ _ _ _ _ _ _ _ _ _ _ _ (hcl 3 (by kernel_rfl))
          have k1 := hE.cell qv nV
          clear hcl
          refine Mono.yields_same (.slice (some ⟨e0, 0, none⟩) m e1) w5 ?_ ⟨MonoW.Out.of (Wr.of row) (Ext.refl _), R5P_i4 _ _ _ _ _ _ _ _ _ _ _ _ _ _ _ _ _ rfl⟩
          simp only [Mono.all, List.take, Act.put]
          go_simp
        · simp only [List.getElem?_cons_succ, List.getElem?_cons_zero, Option.some.injEq] at ho
          subst ho
          rw [if_pos (Mono.wanted_none rfl)]
          clear hcl
          refine Mono.yields_same (.int .i64 P) w5 ?_ ⟨MonoW.Out.of (Wr.of row) (Ext.refl _), R5P_i5 _ _ _ _ _ _ _ _ _ _ _ _ _ _ _ _ _ rfl⟩
          simp only [Mono.all, List.take, Act.put]
          go_simp
        · simp only [List.getElem?_cons_succ, List.getElem?_cons_zero, Option.some.injEq] at ho
          subst ho
          rw [if_pos (Mono.wanted_none rfl)]
          have h4 : vals 4 = .slice (some ⟨e0, 0, none⟩) m e1 := R5P_e4 _ _ _ _ _ _ _ _ _ _ _ _ _ _ _ _ _ (hcl 4 (by kernel_rfl))
          have h5 : vals 5 = .int .i64 P := R5P_e5 _ _ _ _ _ _ _ _ _ _ _ _ _ _ _ _ _ (hcl 5 (by kernel_rfl))
          clear hcl
          refine Mono.yields_same (.pointer (some ⟨e0, P, none⟩)) w5 ?_ ⟨MonoW.Out.of (Wr.of row) (Ext.refl _), R5P_i6 _ _ _ _ _ _ _ _ _ _ _ _ _ _ _ _ _ rfl⟩
          simp only [Mono.all, List.take, Act.put]
          go_simp
        · simp only [List.getElem?_cons_succ, List.getElem?_cons_zero, Option.some.injEq] at ho
          subst ho
          rw [if_pos (Mono.wanted_none rfl)]
          have h1 : vals 6 = .pointer (some ⟨e0, P, none⟩) := R5P_e6 _ _ _ _ _ _ _ _ _ _ _ _ _ _ _ _ _ (hcl 6 (by kernel_rfl))
          have k1 := hE.cell qh nE
          clear hcl
          refine Mono.yields_same (.slice Ah nh ch) w5 ?_ ⟨MonoW.Out.of (Wr.of row) (Ext.refl _), R5P_i7 _ _ _ _ _ _ _ _ _ _ _ _ _ _ _ _ _ rfl⟩
          simp only [Mono.all, List.take, Act.put]
          go_simp
        · simp only [List.getElem?_cons_succ, List.getElem?_cons_zero, Option.some.injEq] at ho
          subst ho
          rw [if_pos (Mono.wanted_none rfl)]
          clear hcl
          refine Mono.yields_same (.int .i64 y) w5 ?_ ⟨MonoW.Out.of (Wr.of row) (Ext.refl _), R5P_i8 _ _ _ _ _ _ _ _ _ _ _ _ _ _ _ _ _ rfl⟩
          simp only [Mono.all, List.take, Act.put]
          go_simp
        · simp only [List.getElem?_cons_succ, List.getElem?_cons_zero, Option.some.injEq] at ho
          subst ho
          rw [if_pos (Mono.wanted_none rfl)]
          clear hcl
          refine Mono.yields_same (.int .i64 x) w5 ?_ ⟨MonoW.Out.of (Wr.of row) (Ext.refl _), R5P_i9 _ _ _ _ _ _ _ _ _ _ _ _ _ _ _ _ _ rfl⟩
          simp only [Mono.all, List.take, Act.put]
          go_simp
        · simp only [List.getElem?_cons_succ, List.getElem?_cons_zero, Option.some.injEq] at ho
          subst ho
          rw [if_pos (Mono.wanted_none rfl)]
          have h8 : vals 8 = .int .i64 y := (R5P_e8 _ _ _ _ _ _ _ _ _ _ _ _ _ _ _ _ _ (hcl 8 (by kernel_rfl)))
          have h9 : vals 9 = .int .i64 x := (R5P_e9 _ _ _ _ _ _ _ _ _ _ _ _ _ _ _ _ _ (hcl 9 (by kernel_rfl)))
          clear hcl
          refine Mono.yields_same (.slice (some ⟨w5.heap.size, 0, none⟩) 2 2) (w5.alloc (.cells #[.int .i64 y, .int .i64 x] kInt.e)) ?_ ⟨MonoW.Out.of (Wr.of row) ((Ext.refl _).alloc _), R5P_i10 _ _ _ _ _ _ _ _ _ _ _ _ _ _ _ _ _ ⟨_, rfl, Ow.lit w5 [y, x] _ rfl rfl rfl hE.size (by unfold maxLen; omega) HXY.out⟩⟩
          simp only [Mono.all, List.take, Act.put, kInt]
          go_simp
        · simp only [List.getElem?_cons_succ, List.getElem?_cons_zero, Option.some.injEq] at ho
          subst ho
          rw [if_pos (Mono.wanted_none rfl)]
          obtain ⟨p, h10, o10⟩ := (R5P_e10 _ _ _ _ _ _ _ _ _ _ _ _ _ _ _ _ _ (hcl 10 (by kernel_rfl)))
          have h7 : vals 7 = .slice Ah nh ch := (R5P_e7 _ _ _ _ _ _ _ _ _ _ _ _ _ _ _ _ _ (hcl 7 (by kernel_rfl)))
          have hX := hQ rfl
          clear hcl
          refine Kd.yields_grow kInt (B := B9) (n := wA.heap.size) (q := 11) (.tmp 137) (.tmp 140) (v := .slice Ah nh ch) (y := .slice (some ⟨p, 0, none⟩) 2 2) (xs := zs ys) (ys := [y, x]) (HPW.out.ext hX) o10.rd HLL.out (Nat.le_trans HBS.out hX.size) hX.size rfl rfl (by rw [← h7]; kernel_rfl) (by rw [← h10]; kernel_rfl) ?_
          intro v' w' hA hO
          exact ⟨by rw [← hrw]; exact hO, R5P_i11 _ _ _ _ _ _ _ _ _ _ _ _ _ _ _ _ _ hA⟩
      · intro vals w5 hE hv
        have ee1 := R5P_e1 _ _ _ _ _ _ _ _ _ _ _ _ _ _ _ _ _ (hv 1 (by omega))
        have ee4 := R5P_e4 _ _ _ _ _ _ _ _ _ _ _ _ _ _ _ _ _ (hv 4 (by omega))
        have ee7 := R5P_e7 _ _ _ _ _ _ _ _ _ _ _ _ _ _ _ _ _ (hv 7 (by omega))
        have hA := (R5P_e11 _ _ _ _ _ _ _ _ _ _ _ _ _ _ _ _ _ (hv 11 (by omega)))
        have ee2 := (R5P_e2 _ _ _ _ _ _ _ _ _ _ _ _ _ _ _ _ _ (hv 2 (by omega)))
        have HA : Hid (AppAt kInt w1.heap.size w5 (vals 11) (zs (ys ++ [c.ts.length + 1, c.ts.length])) (L2.getD P hd0).v wA.heap.size) := Lib.hid (by
          rw [HHH.out, HB9.out, zs_app]
          have e2 : zs [c.ts.length + 1, c.ts.length] = [y, x] := by rw [← HXX.out.1, ← HXX.out.2]; rfl
          rw [e2]
          exact hA)
        have HG : Hid (Wr (L2.getD P hd0).v.ownBlock wA w5) := Lib.hid (by rw [HRW0.out]; exact hE)
        obtain ⟨zx, e11, hSP⟩ := HSA.out.push (Nat.le_trans (Nat.le_of_eq HB9.out) HBS.out) hP HG.out HA.out
        rw [e11] at hSP
        have HSP := Lib.hid hSP
        have qh5 := hE.cell qh nE
        have zf5 := fun o => (Grew.frozen hE (b := e0) le0 nE o).trans (HZF.out o)
        have le5 : e0 < w5.heap.size := Nat.lt_of_lt_of_le le0 hE.size
        clear hA hv hSP hE
        obtain ⟨Az, nz, cz⟩ := zx
        simp only [Mono.all, List.take, List.drop, Act.put]
        rw [e11]
        go_upto_region 26 with fail
        obtain ⟨cx, hcx⟩ : ∃ x : Cw, (⟨partedTs c.ts K, c.dn, (c1.D.set F xs).set P (ys ++ [c.ts.length + 1, c.ts.length]), c1.over, c1.st, c1.id⟩ : Cw) = x := ⟨_, rfl⟩
        obtain ⟨ex, hex⟩ : ∃ x : Ev, (⟨P, F, K, true⟩ : Ev) = x := ⟨_, rfl⟩
        have HSX : S5At w1 (w5.setCell ⟨e0, P, none⟩ (Hd.v ⟨Az, nz, cz⟩)) w1.heap.size V (V + 1) g m (⟨partedTs c.ts K, c.dn, (c1.D.set F xs).set P (ys ++ [c.ts.length + 1, c.ts.length]), c1.over, c1.st, c1.id⟩ : Cw) (⟨P, F, K, true⟩ : Ev) A2 B2 e0 e1 a2 b2 (L2.set P ⟨Az, nz, cz⟩) := HSP.out
        rw [hcx, hex] at HSX
        have hrs : stepP g m c p q = (cx, ex) := by rw [HRES.out, ← hcx, ← hex]; rw [HGO.out, ← HYS.out, ← HC1.out]
        have HSX := Lib.hid HSX
        have HRS := Lib.hid hrs
        have hme : m ≤ e1 := by
          obtain ⟨A', c', hh, hl⟩ := HSX.out.dq.row.slice
          cases hh
          have := HSX.out.dq.len
          omega
        have hxx := HSX.out.ext
        have hvl := HSX.out.vl
        have v0 : (w5.setCell ⟨e0, P, none⟩ (Hd.v ⟨Az, nz, cz⟩)).cell? ⟨V, 0, none⟩ = some (.slice A2 cx.ts.length a2) := (cell_of_row _ V 0 _ _ _ HSX.out.box).trans rfl
        have v1 : (w5.setCell ⟨e0, P, none⟩ (Hd.v ⟨Az, nz, cz⟩)).cell? ⟨V, 1, none⟩ = some (.int .i64 g) := (cell_of_row _ V 1 _ _ _ HSX.out.box).trans rfl
        have v2 : (w5.setCell ⟨e0, P, none⟩ (Hd.v ⟨Az, nz, cz⟩)).cell? ⟨V, 2, none⟩ = some (.slice B2 cx.dn.length b2) := (cell_of_row _ V 2 _ _ _ HSX.out.box).trans rfl
        have v3 : (w5.setCell ⟨e0, P, none⟩ (Hd.v ⟨Az, nz, cz⟩)).cell? ⟨V, 3, none⟩ = some (.slice (some ⟨e0, 0, none⟩) m e1) := (cell_of_row _ V 3 _ _ _ HSX.out.box).trans rfl
        have v4 : (w5.setCell ⟨e0, P, none⟩ (Hd.v ⟨Az, nz, cz⟩)).cell? ⟨V, 4, none⟩ = some (.bool cx.over) := (cell_of_row _ V 4 _ _ _ HSX.out.box).trans rfl
        have v5 : (w5.setCell ⟨e0, P, none⟩ (Hd.v ⟨Az, nz, cz⟩)).cell? ⟨V, 5, none⟩ = some (.int .i64 cx.st) := (cell_of_row _ V 5 _ _ _ HSX.out.box).trans rfl
        have v6 : (w5.setCell ⟨e0, P, none⟩ (Hd.v ⟨Az, nz, cz⟩)).cell? ⟨V, 6, none⟩ = some (.int .i64 cx.id) := (cell_of_row _ V 6 _ _ _ HSX.out.box).trans rfl
        have v7 : (w5.setCell ⟨e0, P, none⟩ (Hd.v ⟨Az, nz, cz⟩)).cell? ⟨V + 1, 0, none⟩ = some (.int .i64 ex.wk) := (cell_of_row _ (V + 1) 0 _ _ _ HSX.out.ebx).trans rfl
        have v8 : (w5.setCell ⟨e0, P, none⟩ (Hd.v ⟨Az, nz, cz⟩)).cell? ⟨V + 1, 1, none⟩ = some (.int .i64 ex.fr) := (cell_of_row _ (V + 1) 1 _ _ _ HSX.out.ebx).trans rfl
        have v9 : (w5.setCell ⟨e0, P, none⟩ (Hd.v ⟨Az, nz, cz⟩)).cell? ⟨V + 1, 2, none⟩ = some (.int .i64 ex.tk) := (cell_of_row _ (V + 1) 2 _ _ _ HSX.out.ebx).trans rfl
        have v10 : (w5.setCell ⟨e0, P, none⟩ (Hd.v ⟨Az, nz, cz⟩)).cell? ⟨V + 1, 3, none⟩ = some (.bool ex.pt) := (cell_of_row _ (V + 1) 3 _ _ _ HSX.out.ebx).trans rfl
        obtain ⟨y0, y1, y2, y3, y4, y5, y6, x0, x1, x2, x3, yf, xf⟩ := HR.out (w5.setCell ⟨e0, P, none⟩ (Hd.v ⟨Az, nz, cz⟩)) hxx
        have l8 := block_lt HSX.out.box
        have l9 := block_lt HSX.out.ebx
        generalize w5.setCell ⟨e0, P, none⟩ (Hd.v ⟨Az, nz, cz⟩) = w9 at *
        have l6 : w.heap.size + 1 + 1 < w9.heap.size := by have := hxx.size; omega
        have l7 : w.heap.size + 1 < w9.heap.size := by omega
        have nV1 : ¬ w.heap.size + 1 = V := by omega
        have nV2 : ¬ w.heap.size + 1 + 1 = V := by omega
        have nV3 : ¬ V = w.heap.size + 1 := by omega
        have nV4 : ¬ V = w.heap.size + 1 + 1 := by omega
        have nQ1 : ¬ w.heap.size + 1 = V + 1 := by omega
        have nQ2 : ¬ w.heap.size + 1 + 1 = V + 1 := by omega
        have nQ3 : ¬ V + 1 = w.heap.size + 1 := by omega
        have nQ4 : ¬ V + 1 = w.heap.size + 1 + 1 := by omega
        clear hxx hrs hcx hex
        go_cut [8] (fun z wx => z = .int .i64 0 ∧ Boxed wx (w.heap.size + 1) (w.heap.size + 1 + 1) A2 B2 e0 a2 b2 e1 g m cx ex ∧ Grew (fun x => x = w.heap.size + 1 ∨ x = w.heap.size + 1 + 1) w9 wx)
        case first =>
          go_region
          all_goals go_wp2_with fail
          all_goals go_meet
          all_goals first
            | (with_reducible exact ⟨rfl, Boxed.one' (by omega) (by omega) y0 y1 y2 y3 y4 y5 y6 x0 x1 x2 x3⟩)
            | (with_reducible exact ⟨rfl, Boxed.two' (by omega) (by omega) y0 y1 y2 y3 y4 y5 y6 x0 x1 x2 x3⟩)
        case rest =>
        obtain ⟨rfl, hBx, hG7⟩ := hcut
        obtain ⟨j0, j1, j2, j3, j4, j5, j6, i0, i1, i2, i3⟩ := hBx
        have HG7 := Lib.hid hG7
        clear hG7 y0 y1 y2 y3 y4 y5 y6 x0 x1 x2 x3 yf xf v0 v1 v2 v3 v4 v5 v6 v7 v8 v9 v10 l6 l7 l8 l9
        go_wp2_with fail
        rw [HRS.out]
        refine bodyPost_ret (v := .tuple #[crewV A2 B2 e0 0 a2 b2 e1 g m cx, evV ex, .int .i64 0]) (by simp [results, Tryz.results62, go_sem, j0, j1, j2, j3, j4, j5, j6, i0, i1, i2, i3]) rfl ⟨A2, B2, e0, a2, b2, e1, hme, rfl, ?_, ?_⟩
        · have hb := HSX.out.bl
          exact ((HSX.out.crew).mono m1 (T := fun x => x < w.heap.size + 3) (fun x _ hx => by omega)).later m1 (hG := HG7.out.mono (fun x _ hx => by rcases hx with rfl | rfl <;> omega)) (fun x _ hx => by omega)
        · exact HG7.out.toExt (HX1.out.trans HSX.out.ext) (fun b hb => by rcases hb with rfl | rfl <;> omega)
    · rw [decide_eq_false hz]
      have HPE : Hid (doErr c.ts (g : Int) c.dn (K : Int) = 0) := Lib.hid (doErr_zero HWR.out hKl (by rw [HGR.out]; exact decide_eq_false hz) hw0 (by
        have hO := CrI.inv HI.out
        obtain ⟨z1, z2, z3⟩ := hO.szpos K HKM.out
        have ht := hO.task K hKl
        exact (hO.cov (T c.ts K).lo.toNat (by omega)).2 ⟨K, HKM.out, by omega, by omega⟩))
      obtain ⟨us, ov, hcl⟩ : ∃ us ov, climb (c.ts.length + 1) c.ts (T c.ts K).up = (us, ov) := ⟨_, _, rfl⟩
      have hul : us.length = c.ts.length := by have := climb_len (c.ts.length + 1) c.ts (T c.ts K).up; rw [hcl] at this; exact this
      obtain ⟨dn', hmk⟩ : ∃ dn', marked c.dn (T c.ts K).lo.toNat (T c.ts K).hi.toNat = dn' := ⟨_, rfl⟩
      have hml : dn'.length = c.dn.length := by
        have hO := CrI.inv HI.out
        have ht := hO.task K hKl
        have hd := HDN.out
        rw [← hmk]; exact marked_len _ _ _ (by omega) (by omega)
      have hov : c.over = false := by
        rw [CrI.ov HI.out, decide_eq_false_iff_not]
        intro e; have := HKM.out; rw [e] at this; cases this
      have HGO : Hid (goP g c P F = (⟨us, dn', c.D.set F xs, ov, c.st + 1, c.id⟩, ⟨P, F, K, false⟩)) := Lib.hid (by
        unfold goP
        rw [HKK.out.1, HKK.out.2]
        simp only
        rw [if_neg hz, hcl, hmk, hov]; rfl)
      have HOV := Lib.hid hov
      have HCL : Hid (climb (c.ts.length + 1) c.ts (c.ts.getD K tk0).up = (us, ov)) := Lib.hid hcl
      have HMK : Hid (marked c.dn (c.ts.getD K tk0).lo.toNat (c.ts.getD K tk0).hi.toNat = dn') := Lib.hid hmk
      have HUL := Lib.hid (And.intro hul hml)
      clear hcl hmk hov hul hml
      go_wp2_with fail
      refine (rdo_any A B a b c.ts c.dn (g : Int) (K : Int) w8 (HTS.out.ext HE8.out) (HDS7.out.ext HE8.out) HGI.out HKI.out).mono ?_
      rintro ed w9 (⟨h1, _⟩ | ⟨_, A2, a2, B2, b2, rfl, hT, hD, hA, hB, hE9⟩)
      · exact absurd HPE.out h1
      rw [Int.toNat_natCast] at *
      rw [HCL.out, ← HUL.out.1] at hT
      rw [HMK.out, ← HUL.out.2] at hD
      rw [HCL.out, ← HUL.out.1, ← HUL.out.2]
      have HT := Lib.hid (And.intro hT hA)
      have HD := Lib.hid (And.intro hD hB)
      have HE9 := Lib.hid hE9
      have hS9 := HS8.out.ext' hE9
      have v0 : w9.cell? ⟨V, 0, none⟩ = some (.slice A1 c1.ts.length a1) := (cell_of_row w9 V 0 _ _ _ hS9.box).trans rfl
      have v1 : w9.cell? ⟨V, 1, none⟩ = some (.int .i64 g) := (cell_of_row w9 V 1 _ _ _ hS9.box).trans rfl
      have v2 : w9.cell? ⟨V, 2, none⟩ = some (.slice B1 c1.dn.length b1) := (cell_of_row w9 V 2 _ _ _ hS9.box).trans rfl
      have v4 : w9.cell? ⟨V, 4, none⟩ = some (.bool c1.over) := (cell_of_row w9 V 4 _ _ _ hS9.box).trans rfl
      rw [show c1.over = false by rw [← HC1.out]; exact HOV.out] at v4
      have vf := fun o => frozen_of_row w9 V o _ _ hS9.box
      have lV := block_lt hS9.box
      clear hT hD hA hB hE9 hS9 k0' k1' k2' k3' q2'
      go_upto_region 32 with fail
      have hSA := (HS8.out.work (HE9.out.alloc (.cells #[.slice A2 us.length a2, .int .i64 g, .slice B2 dn'.length b2] 78)) (Nat.le_trans HB7.out HE8.out.size) (HT.out.1.ext ((Ext.refl _).alloc _)) (HD.out.1.ext ((Ext.refl _).alloc _)) HT.out.2 HD.out.2).over ov
      have HSA : Hid (S5At w1 ((((((w9.setCell ⟨V, 0, none⟩ (.slice A2 us.length a2)).setCell ⟨V, 1, none⟩ (.int .i64 g)).setCell ⟨V, 2, none⟩ (.slice B2 dn'.length b2)).setCell ⟨V, 4, none⟩ (.bool ov)).alloc (.cells #[.slice A2 us.length a2, .int .i64 g, .slice B2 dn'.length b2] 78))) w1.heap.size V (V + 1) g m ⟨us, dn', c1.D.set F xs, ov, c1.st, c1.id⟩ ⟨P, F, K, false⟩ A2 B2 e0 e1 a2 b2 L2) := Lib.hid (by
        have h9 := hSA
        rw [World.setCell_alloc_past (n := V) (i := 0), World.setCell_alloc_past (n := V) (i := 1), World.setCell_alloc_past (n := V) (i := 2), World.setCell_alloc_past (n := V) (i := 4)] at h9
        · exact h9
        all_goals first | exact lV | exact lQ | (simp only [World.size_setCell]; first | exact lV | exact lQ) | (simp; omega))
      clear hSA v0 v1 v2 v4 vf lV
      obtain ⟨cx, hcx⟩ : ∃ x : Cw, (⟨us, dn', c1.D.set F xs, ov, c1.st, c1.id⟩ : Cw) = x := ⟨_, rfl⟩
      obtain ⟨ex, hex⟩ : ∃ x : Ev, (⟨P, F, K, false⟩ : Ev) = x := ⟨_, rfl⟩
      have HSX : S5At w1 ((((((w9.setCell ⟨V, 0, none⟩ (.slice A2 us.length a2)).setCell ⟨V, 1, none⟩ (.int .i64 g)).setCell ⟨V, 2, none⟩ (.slice B2 dn'.length b2)).setCell ⟨V, 4, none⟩ (.bool ov)).alloc (.cells #[.slice A2 us.length a2, .int .i64 g, .slice B2 dn'.length b2] 78))) w1.heap.size V (V + 1) g m (⟨us, dn', c1.D.set F xs, ov, c1.st, c1.id⟩ : Cw) (⟨P, F, K, false⟩ : Ev) A2 B2 e0 e1 a2 b2 L2 := HSA.out
      rw [hcx, hex] at HSX
      have hrs : stepP g m c p q = (cx, ex) := by rw [HRES.out, ← hcx, ← hex]; rw [HGO.out, ← HC1.out]
      have HSX := Lib.hid HSX
      have HRS := Lib.hid hrs
      have hme : m ≤ e1 := by
        obtain ⟨A', c', hh, hl⟩ := HSX.out.dq.row.slice
        cases hh
        have := HSX.out.dq.len
        omega
      have hxx := HSX.out.ext
      have hvl := HSX.out.vl
      have v0 : ((((((w9.setCell ⟨V, 0, none⟩ (.slice A2 us.length a2)).setCell ⟨V, 1, none⟩ (.int .i64 g)).setCell ⟨V, 2, none⟩ (.slice B2 dn'.length b2)).setCell ⟨V, 4, none⟩ (.bool ov)).alloc (.cells #[.slice A2 us.length a2, .int .i64 g, .slice B2 dn'.length b2] 78))).cell? ⟨V, 0, none⟩ = some (.slice A2 cx.ts.length a2) := (cell_of_row _ V 0 _ _ _ HSX.out.box).trans rfl
      have v1 : ((((((w9.setCell ⟨V, 0, none⟩ (.slice A2 us.length a2)).setCell ⟨V, 1, none⟩ (.int .i64 g)).setCell ⟨V, 2, none⟩ (.slice B2 dn'.length b2)).setCell ⟨V, 4, none⟩ (.bool ov)).alloc (.cells #[.slice A2 us.length a2, .int .i64 g, .slice B2 dn'.length b2] 78))).cell? ⟨V, 1, none⟩ = some (.int .i64 g) := (cell_of_row _ V 1 _ _ _ HSX.out.box).trans rfl
      have v2 : ((((((w9.setCell ⟨V, 0, none⟩ (.slice A2 us.length a2)).setCell ⟨V, 1, none⟩ (.int .i64 g)).setCell ⟨V, 2, none⟩ (.slice B2 dn'.length b2)).setCell ⟨V, 4, none⟩ (.bool ov)).alloc (.cells #[.slice A2 us.length a2, .int .i64 g, .slice B2 dn'.length b2] 78))).cell? ⟨V, 2, none⟩ = some (.slice B2 cx.dn.length b2) := (cell_of_row _ V 2 _ _ _ HSX.out.box).trans rfl
      have v3 : ((((((w9.setCell ⟨V, 0, none⟩ (.slice A2 us.length a2)).setCell ⟨V, 1, none⟩ (.int .i64 g)).setCell ⟨V, 2, none⟩ (.slice B2 dn'.length b2)).setCell ⟨V, 4, none⟩ (.bool ov)).alloc (.cells #[.slice A2 us.length a2, .int .i64 g, .slice B2 dn'.length b2] 78))).cell? ⟨V, 3, none⟩ = some (.slice (some ⟨e0, 0, none⟩) m e1) := (cell_of_row _ V 3 _ _ _ HSX.out.box).trans rfl
      have v4 : ((((((w9.setCell ⟨V, 0, none⟩ (.slice A2 us.length a2)).setCell ⟨V, 1, none⟩ (.int .i64 g)).setCell ⟨V, 2, none⟩ (.slice B2 dn'.length b2)).setCell ⟨V, 4, none⟩ (.bool ov)).alloc (.cells #[.slice A2 us.length a2, .int .i64 g, .slice B2 dn'.length b2] 78))).cell? ⟨V, 4, none⟩ = some (.bool cx.over) := (cell_of_row _ V 4 _ _ _ HSX.out.box).trans rfl
      have v5 : ((((((w9.setCell ⟨V, 0, none⟩ (.slice A2 us.length a2)).setCell ⟨V, 1, none⟩ (.int .i64 g)).setCell ⟨V, 2, none⟩ (.slice B2 dn'.length b2)).setCell ⟨V, 4, none⟩ (.bool ov)).alloc (.cells #[.slice A2 us.length a2, .int .i64 g, .slice B2 dn'.length b2] 78))).cell? ⟨V, 5, none⟩ = some (.int .i64 cx.st) := (cell_of_row _ V 5 _ _ _ HSX.out.box).trans rfl
      have v6 : ((((((w9.setCell ⟨V, 0, none⟩ (.slice A2 us.length a2)).setCell ⟨V, 1, none⟩ (.int .i64 g)).setCell ⟨V, 2, none⟩ (.slice B2 dn'.length b2)).setCell ⟨V, 4, none⟩ (.bool ov)).alloc (.cells #[.slice A2 us.length a2, .int .i64 g, .slice B2 dn'.length b2] 78))).cell? ⟨V, 6, none⟩ = some (.int .i64 cx.id) := (cell_of_row _ V 6 _ _ _ HSX.out.box).trans rfl
      have v7 : ((((((w9.setCell ⟨V, 0, none⟩ (.slice A2 us.length a2)).setCell ⟨V, 1, none⟩ (.int .i64 g)).setCell ⟨V, 2, none⟩ (.slice B2 dn'.length b2)).setCell ⟨V, 4, none⟩ (.bool ov)).alloc (.cells #[.slice A2 us.length a2, .int .i64 g, .slice B2 dn'.length b2] 78))).cell? ⟨V + 1, 0, none⟩ = some (.int .i64 ex.wk) := (cell_of_row _ (V + 1) 0 _ _ _ HSX.out.ebx).trans rfl
      have v8 : ((((((w9.setCell ⟨V, 0, none⟩ (.slice A2 us.length a2)).setCell ⟨V, 1, none⟩ (.int .i64 g)).setCell ⟨V, 2, none⟩ (.slice B2 dn'.length b2)).setCell ⟨V, 4, none⟩ (.bool ov)).alloc (.cells #[.slice A2 us.length a2, .int .i64 g, .slice B2 dn'.length b2] 78))).cell? ⟨V + 1, 1, none⟩ = some (.int .i64 ex.fr) := (cell_of_row _ (V + 1) 1 _ _ _ HSX.out.ebx).trans rfl
      have v9 : ((((((w9.setCell ⟨V, 0, none⟩ (.slice A2 us.length a2)).setCell ⟨V, 1, none⟩ (.int .i64 g)).setCell ⟨V, 2, none⟩ (.slice B2 dn'.length b2)).setCell ⟨V, 4, none⟩ (.bool ov)).alloc (.cells #[.slice A2 us.length a2, .int .i64 g, .slice B2 dn'.length b2] 78))).cell? ⟨V + 1, 2, none⟩ = some (.int .i64 ex.tk) := (cell_of_row _ (V + 1) 2 _ _ _ HSX.out.ebx).trans rfl
      have v10 : ((((((w9.setCell ⟨V, 0, none⟩ (.slice A2 us.length a2)).setCell ⟨V, 1, none⟩ (.int .i64 g)).setCell ⟨V, 2, none⟩ (.slice B2 dn'.length b2)).setCell ⟨V, 4, none⟩ (.bool ov)).alloc (.cells #[.slice A2 us.length a2, .int .i64 g, .slice B2 dn'.length b2] 78))).cell? ⟨V + 1, 3, none⟩ = some (.bool ex.pt) := (cell_of_row _ (V + 1) 3 _ _ _ HSX.out.ebx).trans rfl
      obtain ⟨y0, y1, y2, y3, y4, y5, y6, x0, x1, x2, x3, yf, xf⟩ := HR.out ((((((w9.setCell ⟨V, 0, none⟩ (.slice A2 us.length a2)).setCell ⟨V, 1, none⟩ (.int .i64 g)).setCell ⟨V, 2, none⟩ (.slice B2 dn'.length b2)).setCell ⟨V, 4, none⟩ (.bool ov)).alloc (.cells #[.slice A2 us.length a2, .int .i64 g, .slice B2 dn'.length b2] 78))) hxx
      have l8 := block_lt HSX.out.box
      have l9 := block_lt HSX.out.ebx
      generalize (((((w9.setCell ⟨V, 0, none⟩ (.slice A2 us.length a2)).setCell ⟨V, 1, none⟩ (.int .i64 g)).setCell ⟨V, 2, none⟩ (.slice B2 dn'.length b2)).setCell ⟨V, 4, none⟩ (.bool ov)).alloc (.cells #[.slice A2 us.length a2, .int .i64 g, .slice B2 dn'.length b2] 78)) = w9 at *
      have l6 : w.heap.size + 1 + 1 < w9.heap.size := by have := hxx.size; omega
      have l7 : w.heap.size + 1 < w9.heap.size := by omega
      have nV1 : ¬ w.heap.size + 1 = V := by omega
      have nV2 : ¬ w.heap.size + 1 + 1 = V := by omega
      have nV3 : ¬ V = w.heap.size + 1 := by omega
      have nV4 : ¬ V = w.heap.size + 1 + 1 := by omega
      have nQ1 : ¬ w.heap.size + 1 = V + 1 := by omega
      have nQ2 : ¬ w.heap.size + 1 + 1 = V + 1 := by omega
      have nQ3 : ¬ V + 1 = w.heap.size + 1 := by omega
      have nQ4 : ¬ V + 1 = w.heap.size + 1 + 1 := by omega
      clear hxx hrs hcx hex
      go_cut [8] (fun z wx => z = .int .i64 0 ∧ Boxed wx (w.heap.size + 1) (w.heap.size + 1 + 1) A2 B2 e0 a2 b2 e1 g m cx ex ∧ Grew (fun x => x = w.heap.size + 1 ∨ x = w.heap.size + 1 + 1) w9 wx)
      case first =>
        go_region
        all_goals go_wp2_with fail
        all_goals go_meet
        all_goals first
          | (with_reducible exact ⟨rfl, Boxed.one' (by omega) (by omega) y0 y1 y2 y3 y4 y5 y6 x0 x1 x2 x3⟩)
          | (with_reducible exact ⟨rfl, Boxed.two' (by omega) (by omega) y0 y1 y2 y3 y4 y5 y6 x0 x1 x2 x3⟩)
      case rest =>
      obtain ⟨rfl, hBx, hG7⟩ := hcut
      obtain ⟨j0, j1, j2, j3, j4, j5, j6, i0, i1, i2, i3⟩ := hBx
      have HG7 := Lib.hid hG7
      clear hG7 y0 y1 y2 y3 y4 y5 y6 x0 x1 x2 x3 yf xf v0 v1 v2 v3 v4 v5 v6 v7 v8 v9 v10 l6 l7 l8 l9
      go_wp2_with fail
      rw [HRS.out]
      refine bodyPost_ret (v := .tuple #[crewV A2 B2 e0 0 a2 b2 e1 g m cx, evV ex, .int .i64 0]) (by simp [results, Tryz.results62, go_sem, j0, j1, j2, j3, j4, j5, j6, i0, i1, i2, i3]) rfl ⟨A2, B2, e0, a2, b2, e1, hme, rfl, ?_, ?_⟩
      · have hb := HSX.out.bl
        exact ((HSX.out.crew).mono m1 (T := fun x => x < w.heap.size + 3) (fun x _ hx => by omega)).later m1 (hG := HG7.out.mono (fun x _ hx => by rcases hx with rfl | rfl <;> omega)) (fun x _ hx => by omega)
      · exact HG7.out.toExt (HX1.out.trans HSX.out.ext) (fun b hb => by rcases hb with rfl | rfl <;> omega)
end Go.Proofs.YtkpbanfpnilifaaGreat

/- The program's Run of a crew. -/
namespace Go.Proofs.YtkpbanfpnilifaaGreat
open Go.BigFrame
open Go.RowKit Go.Proofs.YtkpbanfpnilifaaGreat.Plain

/-- events -/
def kEv : Kd Ev where
  t := 82
  e := 106
  n := 4
  cells := fun x => [.int .i64 x.wk, .int .i64 x.fr, .int .i64 x.tk, .bool x.pt]
  ok := fun x => in64 x.wk ∧ in64 x.fr ∧ in64 x.tk
  d := ev0
  z := .agg #[.int .i64 0, .int .i64 0, .int .i64 0, .bool false]
  bytes := 32
  ht := Tryz.underlying82
  info := by kernel_rfl
  hzs := rfl
  pos := by decide
  small := by decide
  len := fun _ => rfl
  one := fun a u hu => by simp at hu; rcases hu with rfl | rfl | rfl | rfl <;> rfl
theorem Plain.CwI.evOk {g n m : Nat} {c : Cw} {done : Nat} {G : List Nat} (h : CwI g n m c done G) (hg : 1 ≤ g) (hn : 1 ≤ n) (n2 : n ≤ 900) (hm : 1 ≤ m) (m2 : m ≤ 8) (p q : Int) : kEv.ok (stepP g m c p q).2 := by
  have hc := cutN_lt m p hm
  have hf := h.few hg hn
  show in64 (stepP g m c p q).2.wk ∧ in64 (stepP g m c p q).2.fr ∧ in64 (stepP g m c p q).2.tk
  rcases h.step hg hm p q with ⟨he, _⟩ | ⟨k, F, hF, _, _, he, _, _, _, hk, _⟩ | ⟨k, F, hF, _, _, he, _, _, _, hk, _⟩
  · rw [he]; exact ⟨by unfold in64; simp only; omega, by unfold in64; simp only; omega, by unfold in64; simp only; omega⟩
  · rw [he]; exact ⟨by unfold in64; simp only; omega, by unfold in64; simp only; omega, by unfold in64; simp only; omega⟩
  · rw [he]; exact ⟨by unfold in64; simp only; omega, by unfold in64; simp only; omega, by unfold in64; simp only; omega⟩
/-- .. behind a run -/
theorem Plain.CwI.run {g n m : Nat} (hg : 1 ≤ g) (hm : 1 ≤ m) : ∀ (l : List (Int × Int)) (c : Cw), (∃ done G, CwI g n m c done G) → ∃ done G, CwI g n m (runP g m c l).1 done G
  | [], _, h => h
  | x :: l, _, ⟨_, _, h⟩ => Plain.CwI.run hg hm l _ (h.stepD hg hm x.1 x.2)
theorem GoAt.later {S T : Nat → Prop} {w W : World} {V e0 g m : Nat} {c : Cw} {ev : Ev} {A B : Option Addr} {a b e : Nat} {hs : Nat → Hd} (h : GoAt S w V e0 g m c ev A B a b e hs) (hG : Grew S w W) (hV : W.heap[V]? = w.heap[V]?) (hE : W.heap[e0]? = w.heap[e0]?) (tV : T V) (tE : T e0) (tl : ∀ x, T x → x < W.heap.size) (hT : ∀ x, x < w.heap.size → T x → S x) : GoAt T W V e0 g m c ev A B a b e hs := by
  have cV : ∀ o, W.cell? ⟨V, o, none⟩ = w.cell? ⟨V, o, none⟩ := fun o => by simp only [World.cell?, hV]
  have cE : ∀ o, W.cell? ⟨e0, o, none⟩ = w.cell? ⟨e0, o, none⟩ := fun o => by simp only [World.cell?, hE]
  have fV : ∀ o, W.frozen? ⟨V, o, none⟩ = w.frozen? ⟨V, o, none⟩ := fun o => by simp only [World.frozen?, hV]
  have fE : ∀ o, W.frozen? ⟨e0, o, none⟩ = w.frozen? ⟨e0, o, none⟩ := fun o => by simp only [World.frozen?, hE]
  exact ⟨tV, tE, tl, h.ne, (cV 0).trans h.v0, (cV 1).trans h.v1, (cV 2).trans h.v2, (cV 3).trans h.v3, (cV 4).trans h.v4, (cV 5).trans h.v5, (cV 6).trans h.v6, (cV 7).trans h.v7, (cV 8).trans h.v8, (cV 9).trans h.v9, (cV 10).trans h.v10,
    fun o => (fV o).trans (h.fV o), fun o => (fE o).trans (h.fE o), h.me, h.tsk.later hG hT, h.dns.later hG hT, h.dl, fun j hj => (cE j).trans (h.hd j hj), h.hn, fun j hj => (h.hr j hj).later hG hT, h.hc⟩

theorem Ow.grew {α : Type} {K : Kd α} {S : Nat → Prop} {B : Nat} {w W : World} {v : Value} {xs : List α} (h : Ow K B w v xs) (hG : Grew S w W) (hS : ∀ k, v.ownBlock = some k → ¬ S k) : Ow K B W v xs := by
  obtain ⟨⟨h1, h2⟩, hb⟩ := h
  refine ⟨⟨h1, ?_⟩, hb⟩
  rcases h2 with h2 | ⟨g, cap, cur, hv, hg, hh, hr⟩
  · exact .inl h2
  · have hlt : g < w.heap.size := by
      rcases Nat.lt_or_ge g w.heap.size with hlt | hge
      · exact hlt
      · rw [Array.getElem?_eq_none hge] at hh; cases hh
    exact .inr ⟨g, cap, cur, hv, hg, (hG.block g hlt (hS g (by rw [hv]; rfl))).trans hh, hr⟩
end Go.Proofs.YtkpbanfpnilifaaGreat

/- Plain words of a run of steps: which tasks are gone at, each once. No program in it. -/
namespace Go.Proofs.YtkpbanfpnilifaaGreat.Plain

/-- the tasks that are gone at, as they came -/
def takenL (l : List Ev) : List Nat := l.filterMap fun e => if e.tk < 0 then none else some e.tk.toNat
theorem takenL_app (a b : List Ev) : takenL (a ++ b) = takenL a ++ takenL b := by unfold takenL; rw [List.filterMap_append]
theorem takenL_no (e : Ev) (h : e.tk < 0) : takenL [e] = [] := by unfold takenL; simp [h]
theorem takenL_yes (e : Ev) (k : Nat) (h : e.tk = k) : takenL [e] = [k] := by unfold takenL; simp [h]
theorem CwI.stepG {g n m : Nat} {c : Cw} {done : Nat} {G : List Nat} (h : CwI g n m c done G) (hg : 1 ≤ g) (hm : 1 ≤ m) (p q : Int) : ∃ done', CwI g n m (stepP g m c p q).1 done' (G ++ takenL [(stepP g m c p q).2]) := by
  rcases h.step hg hm p q with ⟨he, _, h'⟩ | ⟨k, F, _, _, _, he, _, _, _, _, h'⟩ | ⟨k, F, _, _, _, he, _, _, _, _, _, h'⟩
  · refine ⟨done, ?_⟩
    rw [takenL_no _ (by rw [he]; simp only; omega), List.append_nil]
    exact h'
  · exact ⟨done, by rw [takenL_yes _ k (by rw [he])]; exact h'⟩
  · exact ⟨_, by rw [takenL_yes _ k (by rw [he])]; exact h'⟩
/-- the end: how many are gone at, held, and over -/
theorem CwI.counts {g n m : Nat} {c : Cw} {done : Nat} {G : List Nat} (h : CwI g n m c done G) (hg : 1 ≤ g) (hn : 1 ≤ n) : G.length + (held c.D).length = c.ts.length ∧ c.ts.length ≤ cntT n g ∧ cntT n g ≤ 2 * n ∧ (c.over = true ↔ G.length = cntT n g) := by
  have h1 := (CrI.fresh h).2.2.2
  have h2 := (CrI.inv h).few hg hn
  refine ⟨h1, h2.1, by omega, ?_⟩
  have hov := CrI.ov h
  constructor
  · intro ho
    rw [ho] at hov
    have he : held c.D = [] := of_decide_eq_true hov.symm
    have hI := CrI.inv h
    rw [he] at hI h1
    have := hI.over.2.1
    simp only [List.length_nil] at h1
    omega
  · intro hl
    rw [hov, decide_eq_true_eq]
    exact List.eq_nil_of_length_eq_zero (by omega)
end Go.Proofs.YtkpbanfpnilifaaGreat.Plain

/- Plain words of a drain: round by round, until it is over; it ends. No program in it. -/
namespace Go.Proofs.YtkpbanfpnilifaaGreat.Plain

/-- the t-th pick of a drain: worker by worker, round by round -/
def dpick (m t : Nat) : Int × Int := (((t % m : Nat) : Int), ((t % m + 1 + t / m : Nat) : Int))
/-- .. until it is over; 'f' bounds the steps -/
def drainP (g m : Nat) : Nat → Nat → Cw → Cw × List Ev
  | 0, _, c => (c, [])
  | f + 1, t, c => if c.over = true then (c, []) else
    ((drainP g m f (t + 1) (stepP g m c (dpick m t).1 (dpick m t).2).1).1, (stepP g m c (dpick m t).1 (dpick m t).2).2 :: (drainP g m f (t + 1) (stepP g m c (dpick m t).1 (dpick m t).2).1).2)
theorem cutN_mod (m t : Nat) (hm : 1 ≤ m) : cutN m ((t % m : Nat) : Int) = t % m := by
  have h := Nat.mod_lt t (by omega : m > 0)
  unfold cutN
  rw [Int.emod_eq_of_lt (by omega) (by omega)]; omega
/-- a task waits at most k workers on from p -/
def near (m : Nat) (D : List (List Nat)) (p k : Nat) : Prop := ∃ j, j ≤ k ∧ D.getD ((p + j) % m) [] ≠ []
theorem near_of {m : Nat} {D : List (List Nat)} (hm : D.length = m) (h1 : 1 ≤ m) (h : held D ≠ []) (p : Nat) (hp : p < m) : near m D p (m - 1) := by
  have : ∃ q, q < m ∧ D.getD q [] ≠ [] := by
    apply Classical.byContradiction
    intro hn
    apply h
    unfold held
    rw [List.flatten_eq_nil_iff]
    intro l hl
    obtain ⟨i, hi, rfl⟩ := List.getElem_of_mem hl
    apply Classical.byContradiction
    intro hne
    exact hn ⟨i, by omega, by rw [getDp hi]; exact hne⟩
  obtain ⟨q, hq, hne⟩ := this
  by_cases hle : p ≤ q
  · exact ⟨q - p, by omega, by rw [show p + (q - p) = q by omega, Nat.mod_eq_of_lt hq]; exact hne⟩
  · refine ⟨q + m - p, by omega, ?_⟩
    rw [show p + (q + m - p) = q + m by omega, Nat.add_mod_right, Nat.mod_eq_of_lt hq]; exact hne
theorem mod_succ (m t : Nat) (_hm : 1 ≤ m) (j : Nat) : ((t + 1) % m + j) % m = (t % m + (j + 1)) % m := by
  rw [Nat.add_mod ((t + 1) % m) j, Nat.mod_mod, ← Nat.add_mod, Nat.add_mod (t % m) (j + 1), Nat.mod_mod, ← Nat.add_mod]
  congr 1; omega
/-- it ends -/
theorem drain_ends {g n m : Nat} (hg : 1 ≤ g) (hn : 1 ≤ n) (hm : 1 ≤ m) : ∀ (N t k : Nat) (c : Cw) (done : Nat) (G : List Nat), CwI g n m c done G → (c.over = false → near m c.D (t % m) k) → k < m → (cntT n g - G.length) * m + k + 1 ≤ N + m →
    (drainP g m N t c).1.over = true ∧ (drainP g m N t c).2.length + m ≤ (cntT n g - G.length) * m + k + 1 + m ∧ ∃ done', CwI g n m (drainP g m N t c).1 done' (G ++ takenL (drainP g m N t c).2)
  | 0, t, k, c, done, G, h, hk, hkm, hN => by
    obtain ⟨c1, c2, c3, c4⟩ := h.counts hg hn
    have hU : cntT n g - G.length = 0 := by
      rcases Nat.eq_zero_or_pos (cntT n g - G.length) with h0 | h0
      · exact h0
      · have : 1 * m ≤ (cntT n g - G.length) * m := Nat.mul_le_mul_right _ h0
        omega
    have hGl : G.length = cntT n g := by omega
    refine ⟨c4.2 hGl, by simp [drainP], ⟨done, by simpa [drainP, takenL] using h⟩⟩
  | N + 1, t, k, c, done, G, h, hk, hkm, hN => by
    obtain ⟨c1, c2, c3, c4⟩ := h.counts hg hn
    unfold drainP
    by_cases ho : c.over = true
    · rw [if_pos ho]
      exact ⟨ho, by simp, ⟨done, by simpa [takenL] using h⟩⟩
    · rw [if_neg ho]
      have hof : c.over = false := by simpa using ho
      have hGl : G.length < cntT n g := by
        rcases Nat.lt_or_ge G.length (cntT n g) with h1 | h1
        · exact h1
        · exact absurd (c4.2 (by omega)) ho
      obtain ⟨p, q, hpq⟩ : ∃ p q, dpick m t = (p, q) := ⟨_, _, rfl⟩
      have hp : p = ((t % m : Nat) : Int) := by unfold dpick at hpq; cases hpq; rfl
      rw [hpq]
      simp only
      have hwk : c.D.length = m := CrI.wk h
      have hcut : cutN m p = t % m := by rw [hp]; exact cutN_mod m t hm
      have hpr : ∀ x : Nat, (stepP g m c p q).2.tk = x → takenL [(stepP g m c p q).2] = [x] := fun x hx => takenL_yes _ x hx
      obtain ⟨d1, h1⟩ := h.stepG hg hm p q
      have nextNear : ∀ c' : Cw, ∀ dd GG, CwI g n m c' dd GG → c'.over = false → near m c'.D ((t + 1) % m) (m - 1) := fun c' dd GG hc' hov =>
        near_of (CrI.wk hc') hm (by have := (CrI.over_iff hc').2 hov; exact List.length_pos_iff.1 this) _ (Nat.mod_lt _ (by omega))
      have hmul : (cntT n g - G.length) * m = (cntT n g - (G.length + 1)) * m + m := by
        rw [show cntT n g - G.length = (cntT n g - (G.length + 1)) + 1 by omega, Nat.add_mul, Nat.one_mul]
      rcases h.step hg hm p q with ⟨he, h0, h'⟩ | ⟨x, F, _, _, _, he, _, _, _, _, h'⟩ | ⟨x, F, _, _, _, he, _, _, _, _, _, h'⟩
      · -- idle
        have hD : (stepP g m c p q).1.D = c.D := by rw [he]
        obtain ⟨j, hj, hne⟩ := hk hof
        have hj0 : j ≠ 0 := by
          intro e; subst e
          rw [Nat.add_zero, Nat.mod_mod] at hne
          rw [hcut] at h0
          exact hne h0
        have hne' : near m (stepP g m c p q).1.D ((t + 1) % m) (k - 1) := by
          refine ⟨j - 1, by omega, ?_⟩
          rw [hD, mod_succ m t hm, show j - 1 + 1 = j by omega]; exact hne
        have hl : (G ++ takenL [(stepP g m c p q).2]).length = G.length := by rw [takenL_no _ (by rw [he]; simp only; omega), List.append_nil]
        have ih := drain_ends hg hn hm N (t + 1) (k - 1) _ _ _ h1 (fun _ => hne') (by omega) (by rw [hl]; omega)
        rw [hl] at ih
        refine ⟨ih.1, by simp only [List.length_cons]; omega, ?_⟩
        obtain ⟨d2, h2⟩ := ih.2.2
        refine ⟨d2, ?_⟩
        have e : takenL ((stepP g m c p q).2 :: (drainP g m N (t + 1) (stepP g m c p q).1).2) = takenL [(stepP g m c p q).2] ++ takenL (drainP g m N (t + 1) (stepP g m c p q).1).2 := by rw [← takenL_app]; rfl
        rw [e, ← List.append_assoc]; exact h2
      all_goals
        have hl : (G ++ takenL [(stepP g m c p q).2]).length = G.length + 1 := by rw [hpr x (by rw [he]), List.length_append]; rfl
        have ih := drain_ends hg hn hm N (t + 1) (m - 1) _ _ _ h1 (fun hov => nextNear _ _ _ h1 hov) (by omega) (by rw [hl]; omega)
        rw [hl] at ih
        refine ⟨ih.1, by simp only [List.length_cons]; omega, ?_⟩
        obtain ⟨d2, h2⟩ := ih.2.2
        refine ⟨d2, ?_⟩
        have e : takenL ((stepP g m c p q).2 :: (drainP g m N (t + 1) (stepP g m c p q).1).2) = takenL [(stepP g m c p q).2] ++ takenL (drainP g m N (t + 1) (stepP g m c p q).1).2 := by rw [← takenL_app]; rfl
        rw [e, ← List.append_assoc]; exact h2
end Go.Proofs.YtkpbanfpnilifaaGreat.Plain

/- Plain words of leaves: the units, as they are done, each once. No program in it. -/
namespace Go.Proofs.YtkpbanfpnilifaaGreat.Plain

/-- a task's units -/
def unitsOf (t : Tk) : List Nat := List.range' t.lo.toNat (t.hi.toNat - t.lo.toNat)
theorem mem_unitsOf (t : Tk) (u : Nat) : u ∈ unitsOf t ↔ t.lo.toNat ≤ u ∧ u < t.hi.toNat := by unfold unitsOf; rw [List.mem_range'_1]; omega
theorem unitsOf_nodup (t : Tk) : (unitsOf t).Nodup := by unfold unitsOf; exact List.nodup_range'
/-- the units of those that weren't parted, nor idle, as they came -/
def orderL (ts : List Tk) (evs : List Ev) : List Nat := evs.flatMap fun e => if e.tk < 0 ∨ e.pt = true then [] else unitsOf (T ts e.tk.toNat)
theorem orderL_app (ts : List Tk) (a b : List Ev) : orderL ts (a ++ b) = orderL ts a ++ orderL ts b := by unfold orderL; rw [List.flatMap_append]
theorem orderL_nil (ts : List Tk) : orderL ts [] = [] := rfl
/-- tasks that were there are where they were -/
def Keeps (ts us : List Tk) : Prop := ts.length ≤ us.length ∧ ∀ k, k < ts.length → (T us k).lo = (T ts k).lo ∧ (T us k).hi = (T ts k).hi
theorem Keeps.refl (ts : List Tk) : Keeps ts ts := ⟨Nat.le_refl _, fun _ _ => ⟨rfl, rfl⟩⟩
theorem Keeps.trans {a b c : List Tk} (h : Keeps a b) (k : Keeps b c) : Keeps a c := ⟨Nat.le_trans h.1 k.1, fun i hi => ⟨(k.2 i (by have := h.1; omega)).1.trans (h.2 i hi).1, (k.2 i (by have := h.1; omega)).2.trans (h.2 i hi).2⟩⟩
theorem Keeps.same {ts us : List Tk} (h : SameBut ts us) : Keeps ts us := ⟨by rw [h.1]; exact Nat.le_refl _, fun k _ => ⟨(h.2 k).1, (h.2 k).2.1⟩⟩
theorem Keeps.parted (ts : List Tk) (k : Nat) (hk : k < ts.length) : Keeps ts (partedL ts k) := ⟨by rw [partedL_len]; omega, fun j hj => by
  rw [parted_at ts k hk]
  by_cases e : j = k
  · subst e; rw [if_pos rfl]; exact ⟨rfl, rfl⟩
  · rw [if_neg e, if_pos hj]; exact ⟨rfl, rfl⟩⟩
/-- events of tasks that there are -/
def evsIn (n : Nat) (evs : List Ev) : Prop := ∀ e ∈ evs, e.tk < n
theorem orderL_keeps {ts us : List Tk} (h : Keeps ts us) : ∀ (evs : List Ev), evsIn ts.length evs → orderL us evs = orderL ts evs
  | [], _ => rfl
  | e :: l, hi => by
    have ih := orderL_keeps h l (fun x hx => hi x (by simp [hx]))
    have e1 : ∀ vs, orderL vs (e :: l) = orderL vs [e] ++ orderL vs l := fun vs => by rw [← orderL_app]; rfl
    rw [e1, e1, ih]
    congr 1
    unfold orderL
    simp only [List.flatMap_cons, List.flatMap_nil, List.append_nil]
    by_cases hc : e.tk < 0 ∨ e.pt = true
    · rw [if_pos hc, if_pos hc]
    · rw [if_neg hc, if_neg hc]
      have hlt : e.tk < ts.length := hi e (by simp)
      obtain ⟨h1, h2⟩ := h.2 e.tk.toNat (by omega)
      unfold unitsOf; rw [h1, h2]
/-- what is done, as it came -/
def LI (n : Nat) (c : Cw) (L : List Nat) : Prop := L.Nodup ∧ ∀ u, u ∈ L ↔ u < n ∧ c.dn.getD u false = true
theorem LI.begin (n m : Nat) : LI n (beginC n m) [] := ⟨List.nodup_nil, fun u => by
  unfold beginC
  simp only [List.not_mem_nil, false_iff]
  rintro ⟨_, h⟩
  rw [List.getD_eq_getElem?_getD, List.getElem?_replicate] at h
  split at h <;> simp at h⟩
theorem stepP_keeps {g n m : Nat} {c : Cw} {done : Nat} {G : List Nat} (h : CwI g n m c done G) (hg : 1 ≤ g) (hm : 1 ≤ m) (p q : Int) : Keeps c.ts (stepP g m c p q).1.ts ∧ (stepP g m c p q).2.tk < c.ts.length := by
  rcases h.step hg hm p q with ⟨he, _⟩ | ⟨k, F, _, _, _, he, ht, _, _, hk, _⟩ | ⟨k, F, _, _, _, he, hs, _, _, hk, _⟩
  · rw [he]; exact ⟨Keeps.refl _, by simp only; omega⟩
  · rw [ht, he]; exact ⟨Keeps.parted _ _ hk, by simp only; omega⟩
  · rw [he]; exact ⟨Keeps.same hs, by simp only; omega⟩
theorem LI.step {g n m : Nat} {c : Cw} {done : Nat} {G L : List Nat} (hL : LI n c L) (h : CwI g n m c done G) (_hg : 1 ≤ g) (hm : 1 ≤ m) (p q : Int) : LI n (stepP g m c p q).1 (L ++ orderL c.ts [(stepP g m c p q).2]) := by
  have hwk : c.D.length = m := CrI.wk h
  unfold stepP
  cases hs : srcN c.D (cutN m p) (cutN m q) with
  | none =>
    simp only
    have e : orderL c.ts [(⟨cutN m p, -1, -1, false⟩ : Ev)] = [] := by unfold orderL; simp
    rw [e, List.append_nil]
    exact hL
  | some F =>
    obtain ⟨hne, hor⟩ := srcN_some hs
    have hF : F < m := by rcases hor with rfl | ⟨rfl, _⟩ <;> exact cutN_lt m _ hm
    have hE := take_held (P := cutN m p) (by omega : F < c.D.length) hne
    have hmem : (takeN c.D (cutN m p) F).1 ∈ held c.D := hE.mem_iff.2 (by simp)
    have hI := CrI.inv h
    have hlt := hI.lt _ hmem
    simp only
    unfold goP
    obtain ⟨k, hk⟩ : ∃ k, (takeN c.D (cutN m p) F).1 = k := ⟨_, rfl⟩
    rw [hk] at hmem hlt ⊢
    simp only
    by_cases hz : g < sz c.ts k
    · rw [if_pos hz]
      have e : orderL c.ts [(⟨cutN m p, F, k, true⟩ : Ev)] = [] := by unfold orderL; simp
      simp only
      rw [e, List.append_nil]
      exact hL
    · rw [if_neg hz]
      have htk := hI.task k hlt
      have e : orderL c.ts [(⟨cutN m p, F, k, false⟩ : Ev)] = unitsOf (T c.ts k) := by
        unfold orderL
        simp only [List.flatMap_cons, List.flatMap_nil, List.append_nil]
        rw [if_neg (by simp), Int.toNat_natCast]
      simp only
      rw [e]
      have hlo : (T c.ts k).lo.toNat ≤ (T c.ts k).hi.toNat := by omega
      have hhi : (T c.ts k).hi.toNat ≤ c.dn.length := by rw [hI.dl]; omega
      have hcov : ∀ u, (T c.ts k).lo.toNat ≤ u → u < (T c.ts k).hi.toNat → c.dn.getD u false = false := fun u h1 h2 => (hI.cov u (by omega)).2 ⟨k, hmem, by omega, by omega⟩
      refine ⟨?_, fun u => ?_⟩
      · rw [List.nodup_append]
        refine ⟨hL.1, unitsOf_nodup _, fun a ha b hb hab => ?_⟩
        subst hab
        rw [mem_unitsOf] at hb
        have h1 := ((hL.2 a).1 ha).2
        rw [hcov a hb.1 hb.2] at h1
        cases h1
      · rw [List.mem_append, mem_unitsOf, hL.2 u]
        show _ ↔ u < n ∧ (marked c.dn (T c.ts k).lo.toNat (T c.ts k).hi.toNat).getD u false = true
        rw [marked_getD _ _ _ hlo hhi]
        have hdl := hI.dl
        by_cases hu : (T c.ts k).lo.toNat ≤ u ∧ u < (T c.ts k).hi.toNat
        · rw [if_pos hu]
          exact ⟨fun _ => ⟨by omega, rfl⟩, fun _ => .inr hu⟩
        · rw [if_neg hu]
          exact ⟨fun hh => by rcases hh with hh | hh; exact hh; exact absurd hh hu, fun hh => .inl hh⟩
/-- over: each unit once -/
theorem LI.over {g n m : Nat} {c : Cw} {done : Nat} {G L : List Nat} (hL : LI n c L) (h : CwI g n m c done G) (ho : c.over = true) : L.Perm (List.range n) := by
  have hov := CrI.ov h
  rw [ho] at hov
  have he : held c.D = [] := of_decide_eq_true hov.symm
  have hI := CrI.inv h
  rw [he] at hI
  have hall := hI.over.2.2.1
  refine (List.perm_ext_iff_of_nodup hL.1 List.nodup_range).2 fun u => ?_
  rw [hL.2 u, List.mem_range]
  exact ⟨fun hh => hh.1, fun hu => ⟨hu, hall u hu⟩⟩
end Go.Proofs.YtkpbanfpnilifaaGreat.Plain

/- Plain words of work from its beginning to its end. No program in it. -/
namespace Go.Proofs.YtkpbanfpnilifaaGreat.Plain

/-- step by step, until it is over -/
def untilP (g m : Nat) : Cw → List (Int × Int) → Cw × List Ev
  | c, [] => (c, [])
  | c, x :: l => if c.over = true then (c, []) else ((untilP g m (stepP g m c x.1 x.2).1 l).1, (stepP g m c x.1 x.2).2 :: (untilP g m (stepP g m c x.1 x.2).1 l).2)
/-- the whole: picks, then round by round -/
def wholeP (g n m : Nat) (picks : List (Int × Int)) : Cw × List Ev :=
  ((drainP g m (m * cntT n g) 0 (untilP g m (beginC n m) picks).1).1, (untilP g m (beginC n m) picks).2 ++ (drainP g m (m * cntT n g) 0 (untilP g m (beginC n m) picks).1).2)

/-- what stands, of a crew behind some events -/
structure Been (g n m : Nat) (c : Cw) (evs : List Ev) : Prop where
  inv : ∃ done, CwI g n m c done (takenL evs)
  li : LI n c (orderL c.ts evs)
  ins : evsIn c.ts.length evs
  st : c.st = evs.length
  id : c.id ≤ evs.length
theorem Been.begin (g n m : Nat) (hn : 1 ≤ n) (hm : 1 ≤ m) : Been g n m (beginC n m) [] :=
  ⟨⟨0, CwI.begin g n m hn hm⟩, LI.begin n m, (fun e he => by cases he), rfl, Nat.le_refl _⟩
theorem Been.step {g n m : Nat} {c : Cw} {evs : List Ev} (h : Been g n m c evs) (hg : 1 ≤ g) (hm : 1 ≤ m) (p q : Int) : Been g n m (stepP g m c p q).1 (evs ++ [(stepP g m c p q).2]) := by
  obtain ⟨⟨done, hI⟩, hL, hi, hs, hd⟩ := h
  obtain ⟨hk, ht⟩ := stepP_keeps hI hg hm p q
  obtain ⟨d1, h1⟩ := hI.stepG hg hm p q
  obtain ⟨s1, s2, s3⟩ := stepP_st g m c p q
  refine ⟨⟨d1, by rw [takenL_app]; exact h1⟩, ?_, fun e he => ?_, by rw [s1, hs, List.length_append]; rfl, by rw [List.length_append]; simp only [List.length_singleton]; omega⟩
  · rw [orderL_app, orderL_keeps hk evs hi, orderL_keeps hk [(stepP g m c p q).2] (fun e he => by rw [List.mem_singleton] at he; rw [he]; exact ht)]
    exact hL.step hI hg hm p q
  · rcases List.mem_append.1 he with h' | h'
    · have := hi e h'; have := hk.1; omega
    · rw [List.mem_singleton] at h'; rw [h']; have := hk.1; omega
theorem Been.until {g n m : Nat} (hg : 1 ≤ g) (hm : 1 ≤ m) : ∀ (l : List (Int × Int)) (c : Cw) (evs : List Ev), Been g n m c evs → Been g n m (untilP g m c l).1 (evs ++ (untilP g m c l).2) ∧ (untilP g m c l).2.length ≤ l.length
  | [], c, evs, h => ⟨by simpa [untilP] using h, Nat.le_refl _⟩
  | x :: l, c, evs, h => by
    unfold untilP
    by_cases ho : c.over = true
    · rw [if_pos ho]; exact ⟨by simpa using h, by simp⟩
    · rw [if_neg ho]
      obtain ⟨h1, h2⟩ := Been.until hg hm l _ _ (h.step hg hm x.1 x.2)
      refine ⟨?_, by simp only [List.length_cons]; omega⟩
      rw [List.append_assoc] at h1
      exact h1
theorem Been.drain {g n m : Nat} (hg : 1 ≤ g) (hm : 1 ≤ m) : ∀ (N t : Nat) (c : Cw) (evs : List Ev), Been g n m c evs → Been g n m (drainP g m N t c).1 (evs ++ (drainP g m N t c).2)
  | 0, t, c, evs, h => by simpa [drainP] using h
  | N + 1, t, c, evs, h => by
    unfold drainP
    by_cases ho : c.over = true
    · rw [if_pos ho]; simpa using h
    · rw [if_neg ho]
      have h1 := Been.drain hg hm N (t + 1) _ _ (h.step hg hm (dpick m t).1 (dpick m t).2)
      rw [List.append_assoc] at h1
      exact h1
/-- the whole ends, each unit once, in so many steps at most -/
theorem whole_ends {g n m : Nat} (hg : 1 ≤ g) (hn : 1 ≤ n) (hm : 1 ≤ m) (picks : List (Int × Int)) :
    (wholeP g n m picks).1.over = true ∧ Been g n m (wholeP g n m picks).1 (wholeP g n m picks).2 ∧ (wholeP g n m picks).2.length ≤ picks.length + m * (cntT n g + 1) ∧ (orderL (wholeP g n m picks).1.ts (wholeP g n m picks).2).Perm (List.range n) := by
  obtain ⟨h1, h2⟩ := Been.until hg hm picks (beginC n m) [] (Been.begin g n m hn hm)
  rw [List.nil_append] at h1
  obtain ⟨d1, hI⟩ := h1.inv
  have hle : (cntT n g - (takenL (untilP g m (beginC n m) picks).2).length) * m + (m - 1) + 1 ≤ m * cntT n g + m := by
    have : (cntT n g - (takenL (untilP g m (beginC n m) picks).2).length) * m ≤ cntT n g * m := Nat.mul_le_mul_right _ (Nat.sub_le _ _)
    rw [Nat.mul_comm m]; omega
  have hnear : (untilP g m (beginC n m) picks).1.over = false → near m (untilP g m (beginC n m) picks).1.D (0 % m) (m - 1) := fun ho =>
    near_of (CrI.wk hI) hm (List.length_pos_iff.1 ((CrI.over_iff hI).2 ho)) _ (Nat.mod_lt _ (by omega))
  obtain ⟨e1, e2, _⟩ := drain_ends hg hn hm (m * cntT n g) 0 (m - 1) _ _ _ hI hnear (by omega) hle
  have h3 := Been.drain hg hm (m * cntT n g) 0 _ _ h1
  refine ⟨e1, h3, ?_, ?_⟩
  · show ((untilP g m (beginC n m) picks).2 ++ (drainP g m (m * cntT n g) 0 (untilP g m (beginC n m) picks).1).2).length ≤ _
    rw [List.length_append, Nat.mul_add, Nat.mul_one]
    omega
  · obtain ⟨_, h4⟩ := h3.inv
    exact h3.li.over h4 e1
end Go.Proofs.YtkpbanfpnilifaaGreat.Plain

/- The document's Drain of a crew (ref06). -/
namespace Go.Proofs.YtkpbanfpnilifaaGreat
open Go.BigFrame
open Go.RowKit Go.Proofs.YtkpbanfpnilifaaGreat.Plain

def R6P (w0 : World) (row : Option Nat) (cv ve vo : Value) (B : Nat) (evs : List Ev) (ev : Ev) : Nat → World → List Value → Value → Prop
  | 0, w, ds, v => v = cv
  | 1, w, ds, v => v = vo
  | 2, w, ds, v => v = ve
  | 3, w, ds, v => OneAt kEv w0.heap.size w v ev
  | 4, w, ds, v => AppAt kEv B w v (evs ++ [ev]) vo w0.heap.size
  | _, _, _, _ => True
theorem R6P_ext (w0 : World) (row : Option Nat) (cv ve vo : Value) (B : Nat) (evs : List Ev) (ev : Ev) : ∀ i w w' ds v, R6P w0 row cv ve vo B evs ev i w ds v → Ext w w' → R6P w0 row cv ve vo B evs ev i w' ds v
  | 0, _, _, _, _, h, _ => h
  | 1, _, _, _, _, h, _ => h
  | 2, _, _, _, _, h, _ => h
  | 3, _, _, _, _, h, hE => OneAt.ext h hE
  | 4, _, _, _, _, h, hE => h.ext hE
  | _ + 5, _, _, _, _, _, _ => trivial
theorem R6P_sw (w0 : World) (row : Option Nat) (cv ve vo : Value) (B : Nat) (evs : List Ev) (ev : Ev) (hrow : ∀ b, row = some b → b < w0.heap.size) : ∀ i w w' ds v, i ≠ 4 → R6P w0 row cv ve vo B evs ev i w ds v → Wr row w w' → R6P w0 row cv ve vo B evs ev i w' ds v
  | 0, _, _, _, _, _, h, _ => h
  | 1, _, _, _, _, _, h, _ => h
  | 2, _, _, _, _, _, h, _ => h
  | 3, _, _, _, _, _, h, hE => OneAt.sw h hE hrow
  | 4, _, _, _, _, hq, _, _ => absurd rfl hq
  | _ + 5, _, _, _, _, _, _, _ => trivial
section
variable (w0 : World) (row : Option Nat) (cv ve vo : Value) (B : Nat) (evs : List Ev) (ev : Ev) (w : World) (ds : List Value) (v : Value)
theorem R6P_i0 (h : v = cv) : R6P w0 row cv ve vo B evs ev 0 w ds v := h
theorem R6P_e0 (h : R6P w0 row cv ve vo B evs ev 0 w ds v) : v = cv := h
theorem R6P_i1 (h : v = vo) : R6P w0 row cv ve vo B evs ev 1 w ds v := h
theorem R6P_e1 (h : R6P w0 row cv ve vo B evs ev 1 w ds v) : v = vo := h
theorem R6P_i2 (h : v = ve) : R6P w0 row cv ve vo B evs ev 2 w ds v := h
theorem R6P_e2 (h : R6P w0 row cv ve vo B evs ev 2 w ds v) : v = ve := h
theorem R6P_i3 (h : OneAt kEv w0.heap.size w v ev) : R6P w0 row cv ve vo B evs ev 3 w ds v := h
theorem R6P_e3 (h : R6P w0 row cv ve vo B evs ev 3 w ds v) : OneAt kEv w0.heap.size w v ev := h
theorem R6P_i4 (h : AppAt kEv B w v (evs ++ [ev]) vo w0.heap.size) : R6P w0 row cv ve vo B evs ev 4 w ds v := h
theorem R6P_e4 (h : R6P w0 row cv ve vo B evs ev 4 w ds v) : AppAt kEv B w v (evs ++ [ev]) vo w0.heap.size := h
end

/-- what stands, t steps on -/
structure D6At (S : Nat → Prop) (w0 : World) (g n m : Nat) (c0 : Cw) (N t : Nat) (v : Value) (wr : World) (c : Cw) (evs : List Ev) (A B : Option Addr) (e0 eo a b e : Nat) : Prop where
  me : m ≤ e
  box : wr.heap[w0.heap.size]? = some (.cells #[.slice A c.ts.length a, .int .i64 g, .slice B c.dn.length b, .slice (some ⟨e0, eo, none⟩) m e, .bool c.over, .int .i64 c.st, .int .i64 c.id] 81)
  cr : CrewO (fun x => S x ∨ x = w0.heap.size ∨ x = w0.heap.size + 1 ∨ v.ownBlock = some x) wr m c A B e0 eo a b
  own : Ow kEv (w0.heap.size + 2) wr v evs
  tn : t ≤ N
  inv : ∃ done G, CwI g n m c done G
  st : c.st = c0.st + t
  id : c.id ≤ c0.id + t
  eq : drainP g m N 0 c0 = ((drainP g m (N - t) t c).1, evs ++ (drainP g m (N - t) t c).2)
  len : evs.length = t
  res : wr.heap[w0.heap.size + 1]? = some (.cells #[.slice none 0 0, .int .i64 0, .slice none 0 0, .slice none 0 0, .bool false, .int .i64 0, .int .i64 0] 81)
  ext : Ext w0 wr
theorem Plain.drainP_over (g m f t : Nat) (c : Cw) (h : c.over = true) : drainP g m f t c = (c, []) := by
  cases f with
  | zero => rfl
  | succ f => unfold drainP; rw [if_pos h]
theorem Plain.drainP_next (g m f t : Nat) (c : Cw) (h : c.over = false) : drainP g m (f + 1) t c = ((drainP g m f (t + 1) (stepP g m c (dpick m t).1 (dpick m t).2).1).1, (stepP g m c (dpick m t).1 (dpick m t).2).2 :: (drainP g m f (t + 1) (stepP g m c (dpick m t).1 (dpick m t).2).1).2) := by
  conv => lhs; unfold drainP
  rw [if_neg (by rw [h]; decide)]
theorem dpick_at (m k j : Nat) (hj : j < m) : dpick m (k * m + j) = ((j : Int), (j : Int) + 1 + k) := by
  unfold dpick
  rw [Nat.add_comm, Nat.add_mul_mod_self_right, Nat.mod_eq_of_lt hj, Nat.add_mul_div_right _ _ (by omega), Nat.div_eq_of_lt hj]
  simp
theorem set_box7 {w : World} {P : Nat} {T : TypeId} {v0 v1 v2 v3 v4 v5 v6 : Value} {fr : Nat × Nat} (h : w.heap[P]? = some (.cells #[v0, v1, v2, v3, v4, v5, v6] T fr)) (u0 u1 u2 u3 u4 u5 u6 : Value) :
    (((((((w.setCell ⟨P, 0, none⟩ u0).setCell ⟨P, 1, none⟩ u1).setCell ⟨P, 2, none⟩ u2).setCell ⟨P, 3, none⟩ u3).setCell ⟨P, 4, none⟩ u4).setCell ⟨P, 5, none⟩ u5).setCell ⟨P, 6, none⟩ u6).heap[P]? = some (.cells #[u0, u1, u2, u3, u4, u5, u6] T fr) := by
  have h0 : (w.setCell ⟨P, 0, none⟩ u0).heap[P]? = some (.cells #[u0, v1, v2, v3, v4, v5, v6] T fr) := by have := set_block (i := 0) h u0; simpa using this
  have h1 : ((w.setCell ⟨P, 0, none⟩ u0).setCell ⟨P, 1, none⟩ u1).heap[P]? = some (.cells #[u0, u1, v2, v3, v4, v5, v6] T fr) := by have := set_block (i := 1) h0 u1; simpa using this
  have h2 : (((w.setCell ⟨P, 0, none⟩ u0).setCell ⟨P, 1, none⟩ u1).setCell ⟨P, 2, none⟩ u2).heap[P]? = some (.cells #[u0, u1, u2, v3, v4, v5, v6] T fr) := by have := set_block (i := 2) h1 u2; simpa using this
  have h3 : ((((w.setCell ⟨P, 0, none⟩ u0).setCell ⟨P, 1, none⟩ u1).setCell ⟨P, 2, none⟩ u2).setCell ⟨P, 3, none⟩ u3).heap[P]? = some (.cells #[u0, u1, u2, u3, v4, v5, v6] T fr) := by have := set_block (i := 3) h2 u3; simpa using this
  have h4 : (((((w.setCell ⟨P, 0, none⟩ u0).setCell ⟨P, 1, none⟩ u1).setCell ⟨P, 2, none⟩ u2).setCell ⟨P, 3, none⟩ u3).setCell ⟨P, 4, none⟩ u4).heap[P]? = some (.cells #[u0, u1, u2, u3, u4, v5, v6] T fr) := by have := set_block (i := 4) h3 u4; simpa using this
  have h5 : ((((((w.setCell ⟨P, 0, none⟩ u0).setCell ⟨P, 1, none⟩ u1).setCell ⟨P, 2, none⟩ u2).setCell ⟨P, 3, none⟩ u3).setCell ⟨P, 4, none⟩ u4).setCell ⟨P, 5, none⟩ u5).heap[P]? = some (.cells #[u0, u1, u2, u3, u4, u5, v6] T fr) := by have := set_block (i := 5) h4 u5; simpa using this
  have h6 : (((((((w.setCell ⟨P, 0, none⟩ u0).setCell ⟨P, 1, none⟩ u1).setCell ⟨P, 2, none⟩ u2).setCell ⟨P, 3, none⟩ u3).setCell ⟨P, 4, none⟩ u4).setCell ⟨P, 5, none⟩ u5).setCell ⟨P, 6, none⟩ u6).heap[P]? = some (.cells #[u0, u1, u2, u3, u4, u5, u6] T fr) := by have := set_block (i := 6) h5 u6; simpa using this
  exact h6
/-- what Drain leaves -/
def R6Said (S : Nat → Prop) (g m : Nat) (r : Cw × List Ev) (w : World) (ed : Ending) (w' : World) : Prop :=
  ∃ (A B L : Option Addr) (e0 eo a b e l : Nat), m ≤ e ∧ ed = .returned (.tuple #[crewV A B e0 eo a b e g m r.1, .slice L r.2.length l, .int .i64 0]) ∧ CrewO S w' m r.1 A B e0 eo a b ∧ Ow kEv w.heap.size w' (.slice L r.2.length l) r.2 ∧ Ext w w'

set_option maxHeartbeats 1000000 in
set_option maxRecDepth 100000 in
theorem rdrain_any (S : Nat → Prop) (A B : Option Addr) (eb eo a b e g n m N : Nat) (c : Cw) (w : World) (hS : ∀ x, S x → x < w.heap.size) (h : CrewO S w m c A B eb eo a b) (me : m ≤ e) (hI : ∃ done G, CwI g n m c done G)
    (n1 : 1 ≤ n) (n2 : n ≤ 900) (g1 : 1 ≤ g) (g2 : g ≤ 100) (m1 : 1 ≤ m) (m2 : m ≤ 8) (hst : c.st + N ≤ 100000) (hid : c.id + N ≤ 100000) (hN : N ≤ 50000) (ho : (drainP g m N 0 c).1.over = true) :
    Calls Tryz.prog 63 #[crewV A B eb eo a b e g m c] w (R6Said S g m (drainP g m N 0 c) w) := by
  obtain ⟨done, G, hI⟩ := hI
  have H := Lib.hid h
  have HI := Lib.hid hI
  have HO := Lib.hid ho
  have HS := Lib.hid hS
  obtain ⟨hs0, hds⟩ := h.deq
  have HDS := Lib.hid ((h.at_ m1).deq)
  have HHL : Hid ((held c.D).length ≤ 4000) := Lib.hid (by
    have h1 := (CrI.fresh hI).2.2.2
    have h2 := hI.few g1 n1
    omega)
  clear h hI ho hds hS
  go_enter Tryz.func63, Tryz.ntmps63
  go_upto_region 1 with fail
  have hE1 : Ext w ((w.alloc (.cells #[.slice A c.ts.length a, .int .i64 g, .slice B c.dn.length b, .slice (some ⟨eb, eo, none⟩) m e, .bool c.over, .int .i64 c.st, .int .i64 c.id] 81)).alloc (.cells #[.slice none 0 0, .int .i64 0, .slice none 0 0, .slice none 0 0, .bool false, .int .i64 0, .int .i64 0] 81)) := ((Ext.refl w).alloc _).alloc _
  have HX1 := Lib.hid hE1
  have hbx : (((w.alloc (.cells #[.slice A c.ts.length a, .int .i64 g, .slice B c.dn.length b, .slice (some ⟨eb, eo, none⟩) m e, .bool c.over, .int .i64 c.st, .int .i64 c.id] 81)).alloc (.cells #[.slice none 0 0, .int .i64 0, .slice none 0 0, .slice none 0 0, .bool false, .int .i64 0, .int .i64 0] 81))).heap[w.heap.size]? = some (.cells #[.slice A c.ts.length a, .int .i64 g, .slice B c.dn.length b, .slice (some ⟨eb, eo, none⟩) m e, .bool c.over, .int .i64 c.st, .int .i64 c.id] 81) := block_keep (heap_alloc_new w _) ((Ext.refl _).alloc _)
  have hrs : (((w.alloc (.cells #[.slice A c.ts.length a, .int .i64 g, .slice B c.dn.length b, .slice (some ⟨eb, eo, none⟩) m e, .bool c.over, .int .i64 c.st, .int .i64 c.id] 81)).alloc (.cells #[.slice none 0 0, .int .i64 0, .slice none 0 0, .slice none 0 0, .bool false, .int .i64 0, .int .i64 0] 81))).heap[w.heap.size + 1]? = some (.cells #[.slice none 0 0, .int .i64 0, .slice none 0 0, .slice none 0 0, .bool false, .int .i64 0, .int .i64 0] 81) := heap_alloc2_new w _ _
  have HBX := Lib.hid (And.intro hbx hrs)
  generalize ((w.alloc (.cells #[.slice A c.ts.length a, .int .i64 g, .slice B c.dn.length b, .slice (some ⟨eb, eo, none⟩) m e, .bool c.over, .int .i64 c.st, .int .i64 c.id] 81)).alloc (.cells #[.slice none 0 0, .int .i64 0, .slice none 0 0, .slice none 0 0, .bool false, .int .i64 0, .int .i64 0] 81)) = w1 at *
  clear hbx hrs
  go_cut [23] (fun z wx => z = .bool false ∧ Ext w1 wx)
  case first =>
    have k0 : w1.cell? ⟨w.heap.size, 0, none⟩ = some (.slice A c.ts.length a) := (cell_of_row w1 (w.heap.size) 0 _ _ _ HBX.out.1).trans rfl
    have k1 : w1.cell? ⟨w.heap.size, 1, none⟩ = some (.int .i64 g) := (cell_of_row w1 (w.heap.size) 1 _ _ _ HBX.out.1).trans rfl
    have k2 : w1.cell? ⟨w.heap.size, 2, none⟩ = some (.slice B c.dn.length b) := (cell_of_row w1 (w.heap.size) 2 _ _ _ HBX.out.1).trans rfl
    have k3 : w1.cell? ⟨w.heap.size, 3, none⟩ = some (.slice (some ⟨eb, eo, none⟩) m e) := (cell_of_row w1 (w.heap.size) 3 _ _ _ HBX.out.1).trans rfl
    have k4 : w1.cell? ⟨w.heap.size, 4, none⟩ = some (.bool c.over) := (cell_of_row w1 (w.heap.size) 4 _ _ _ HBX.out.1).trans rfl
    have k5 : w1.cell? ⟨w.heap.size, 5, none⟩ = some (.int .i64 c.st) := (cell_of_row w1 (w.heap.size) 5 _ _ _ HBX.out.1).trans rfl
    have k6 : w1.cell? ⟨w.heap.size, 6, none⟩ = some (.int .i64 c.id) := (cell_of_row w1 (w.heap.size) 6 _ _ _ HBX.out.1).trans rfl
    have kf := fun o => frozen_of_row w1 (w.heap.size) o _ _ HBX.out.1
    go_wp2_with fail
    refine (rright5_yes A B eb eo a b e g n m c _ _ _ (((H.out).at_ m1).ext HX1.out) HI.out n1 n2 g1 g2 m1 m2 (by omega) (by omega)).mono ?_
    rintro ed w2 ⟨rfl, hE2⟩
    have HE2 := Lib.hid hE2
    have hb2 := block_keep HBX.out.1 hE2
    have q0 : w2.cell? ⟨w.heap.size, 0, none⟩ = some (.slice A c.ts.length a) := (cell_of_row w2 (w.heap.size) 0 _ _ _ hb2).trans rfl
    have q1 : w2.cell? ⟨w.heap.size, 1, none⟩ = some (.int .i64 g) := (cell_of_row w2 (w.heap.size) 1 _ _ _ hb2).trans rfl
    have q2 : w2.cell? ⟨w.heap.size, 2, none⟩ = some (.slice B c.dn.length b) := (cell_of_row w2 (w.heap.size) 2 _ _ _ hb2).trans rfl
    have q3 : w2.cell? ⟨w.heap.size, 3, none⟩ = some (.slice (some ⟨eb, eo, none⟩) m e) := (cell_of_row w2 (w.heap.size) 3 _ _ _ hb2).trans rfl
    have q4 : w2.cell? ⟨w.heap.size, 4, none⟩ = some (.bool c.over) := (cell_of_row w2 (w.heap.size) 4 _ _ _ hb2).trans rfl
    have q5 : w2.cell? ⟨w.heap.size, 5, none⟩ = some (.int .i64 c.st) := (cell_of_row w2 (w.heap.size) 5 _ _ _ hb2).trans rfl
    have q6 : w2.cell? ⟨w.heap.size, 6, none⟩ = some (.int .i64 c.id) := (cell_of_row w2 (w.heap.size) 6 _ _ _ hb2).trans rfl
    have qf := fun o => frozen_of_row w2 (w.heap.size) o _ _ hb2
    clear k0 k1 k2 k3 k4 k5 k6 kf hb2 hE2
    cases hov : c.over with
    | true =>
      rw [hov] at q4
      go_wp2_with fail
      go_meet
      exact ⟨rfl, HE2.out⟩
    | false =>
      have hpos := (CrI.over_iff HI.out).2 hov
      rw [hov] at q4
      obtain ⟨N0, hN0⟩ : ∃ N0, (held c.D).length = N0 := ⟨_, rfl⟩
      have HN0 := Lib.hid hN0
      rw [hN0] at hpos
      have hz : ((N0 : Int) == 0) = false := by simp; omega
      clear hN0
      go_wp2_with fail
      have hh := rheld_any A B eb eo a b e g m c _ w2 (HDS.out.choose_spec.ext (HX1.out.trans HE2.out)) m2 (by have := HHL.out; omega)
      unfold crewV at hh
      rw [hov] at hh
      refine hh.mono ?_
      clear hh
      rintro ed w3 ⟨rfl, hE3⟩
      rw [HN0.out]
      have HE3 := Lib.hid hE3
      clear hE3
      go_wp2_with fail
      go_meet
      exact ⟨rfl, HE2.out.trans HE3.out⟩
  case rest =>
  obtain ⟨rfl, hE2⟩ := hcut
  generalize wc = w3 at *
  have HD0 : Hid (D6At S w g n m c N 0 (.slice none 0 0) w3 c [] A B eb eo a b e) := Lib.hid ⟨me, block_keep HBX.out.1 hE2, H.out.later m1 (Grew.of (HX1.out.trans hE2)) (fun x hx hT => by
      rcases hT with hT | hT | hT | hT
      · exact hT
      · omega
      · omega
      · cases hT), Ow.nil _ _, Nat.zero_le _, ⟨_, _, HI.out⟩, rfl, Nat.le_refl _, by simp, rfl, block_keep HBX.out.2 hE2, HX1.out.trans hE2⟩
  clear hE2 HBX hE1
  have m3 : (m : Int) ≤ 8 := by omega
  go_wp2_with fail
  go_loopw [5, 6] (fun v r wr => ∃ k : Nat, k * m ≤ N ∧ r = .int .i64 k ∧ ∃ (c1 : Cw) (evs : List Ev) (A1 B1 : Option Addr) (e0 o1 a1 b1 e1 : Nat), D6At S w g n m c N (k * m) v wr c1 evs A1 B1 e0 o1 a1 b1 e1) (fun _ r _ => N - (intOf r).toNat)
  case atStart => exact ⟨0, by omega, rfl, _, _, _, _, _, _, _, _, _, by rw [Nat.zero_mul]; exact HD0.out⟩
  case round =>
    obtain ⟨k, hk, rfl, c0, evs0, A0, B0, e00, o0, a0, b0, e01, hD⟩ := hrel
    have HD := Lib.hid hD
    have hkN : (k : Int) ≤ 50000 := by
      have := Nat.le_mul_of_pos_right k m1
      omega
    have hk0 : (0 : Int) ≤ k := by omega
    clear hD
    go_wp2_with fail
    go_loopw [5, 7] (fun v p wr => ∃ j : Nat, j ≤ m ∧ p = .int .i64 j ∧ ∃ (c1 : Cw) (evs : List Ev) (A1 B1 : Option Addr) (e0 o1 a1 b1 e1 : Nat), D6At S w g n m c N (k * m + j) v wr c1 evs A1 B1 e0 o1 a1 b1 e1) (fun _ p _ => m - (intOf p).toNat)
    case atStart => exact ⟨0, by omega, rfl, _, _, _, _, _, _, _, _, _, HD.out⟩
    case round =>
      obtain ⟨j, hj, rfl, c1, evs, A1, B1, e0, o1, a1, b1, e1, hD⟩ := hrel
      have HD1 := Lib.hid hD
      have hj0 : (0 : Int) ≤ j := by omega
      have k0 : wr.cell? ⟨w.heap.size, 0, none⟩ = some (.slice A1 c1.ts.length a1) := (cell_of_row wr (w.heap.size) 0 _ _ _ hD.box).trans rfl
      have k1 : wr.cell? ⟨w.heap.size, 1, none⟩ = some (.int .i64 g) := (cell_of_row wr (w.heap.size) 1 _ _ _ hD.box).trans rfl
      have k2 : wr.cell? ⟨w.heap.size, 2, none⟩ = some (.slice B1 c1.dn.length b1) := (cell_of_row wr (w.heap.size) 2 _ _ _ hD.box).trans rfl
      have k3 : wr.cell? ⟨w.heap.size, 3, none⟩ = some (.slice (some ⟨e0, o1, none⟩) m e1) := (cell_of_row wr (w.heap.size) 3 _ _ _ hD.box).trans rfl
      have k4 : wr.cell? ⟨w.heap.size, 4, none⟩ = some (.bool c1.over) := (cell_of_row wr (w.heap.size) 4 _ _ _ hD.box).trans rfl
      have k5 : wr.cell? ⟨w.heap.size, 5, none⟩ = some (.int .i64 c1.st) := (cell_of_row wr (w.heap.size) 5 _ _ _ hD.box).trans rfl
      have k6 : wr.cell? ⟨w.heap.size, 6, none⟩ = some (.int .i64 c1.id) := (cell_of_row wr (w.heap.size) 6 _ _ _ hD.box).trans rfl
      have kf := fun o => frozen_of_row wr (w.heap.size) o _ _ hD.box
      clear hD
      by_cases hlt : j < m
      · have hlt' : (j : Int) < m := by omega
        cases hov : c1.over with
        | true =>
          rw [hov] at k4
          have heq := HD1.out.eq
          rw [drainP_over _ _ _ _ _ hov] at heq
          simp only [List.append_nil] at heq
          obtain ⟨L, cl, hv, hcl⟩ := HD1.out.own.slice
          subst hv
          have hrs := HD1.out.res
          have r0 : wr.cell? ⟨w.heap.size + 1, 0, none⟩ = some (.slice none 0 0) := (cell_of_row wr (w.heap.size + 1) 0 _ _ _ hrs).trans rfl
          have r1 : wr.cell? ⟨w.heap.size + 1, 1, none⟩ = some (.int .i64 0) := (cell_of_row wr (w.heap.size + 1) 1 _ _ _ hrs).trans rfl
          have r2 : wr.cell? ⟨w.heap.size + 1, 2, none⟩ = some (.slice none 0 0) := (cell_of_row wr (w.heap.size + 1) 2 _ _ _ hrs).trans rfl
          have r3 : wr.cell? ⟨w.heap.size + 1, 3, none⟩ = some (.slice none 0 0) := (cell_of_row wr (w.heap.size + 1) 3 _ _ _ hrs).trans rfl
          have r4 : wr.cell? ⟨w.heap.size + 1, 4, none⟩ = some (.bool false) := (cell_of_row wr (w.heap.size + 1) 4 _ _ _ hrs).trans rfl
          have r5 : wr.cell? ⟨w.heap.size + 1, 5, none⟩ = some (.int .i64 0) := (cell_of_row wr (w.heap.size + 1) 5 _ _ _ hrs).trans rfl
          have r6 : wr.cell? ⟨w.heap.size + 1, 6, none⟩ = some (.int .i64 0) := (cell_of_row wr (w.heap.size + 1) 6 _ _ _ hrs).trans rfl
          have rf := fun o => frozen_of_row wr (w.heap.size + 1) o _ _ hrs
          have HEQ := Lib.hid heq
          have HOV := Lib.hid hov
          have lR := block_lt hrs
          clear heq hov hrs
          go_wp2_with fail
          rw [HEQ.out]
          have hG7 : Grew (fun x => x = w.heap.size + 1) wr ((((((((wr.setCell ⟨w.heap.size + 1, 0, none⟩ (.slice A1 c1.ts.length a1)).setCell ⟨w.heap.size + 1, 1, none⟩ (.int .i64 g)).setCell ⟨w.heap.size + 1, 2, none⟩ (.slice B1 c1.dn.length b1)).setCell ⟨w.heap.size + 1, 3, none⟩ (.slice (some ⟨e0, o1, none⟩) m e1)).setCell ⟨w.heap.size + 1, 4, none⟩ (.bool true)).setCell ⟨w.heap.size + 1, 5, none⟩ (.int .i64 c1.st)).setCell ⟨w.heap.size + 1, 6, none⟩ (.int .i64 c1.id))) := (Grew.setCell (S := fun x => x = w.heap.size + 1) (p := ⟨w.heap.size + 1, 6, none⟩) (Grew.setCell (S := fun x => x = w.heap.size + 1) (p := ⟨w.heap.size + 1, 5, none⟩) (Grew.setCell (S := fun x => x = w.heap.size + 1) (p := ⟨w.heap.size + 1, 4, none⟩) (Grew.setCell (S := fun x => x = w.heap.size + 1) (p := ⟨w.heap.size + 1, 3, none⟩) (Grew.setCell (S := fun x => x = w.heap.size + 1) (p := ⟨w.heap.size + 1, 2, none⟩) (Grew.setCell (S := fun x => x = w.heap.size + 1) (p := ⟨w.heap.size + 1, 1, none⟩) (Grew.setCell (S := fun x => x = w.heap.size + 1) (p := ⟨w.heap.size + 1, 0, none⟩) (Grew.refl _ _) rfl _) rfl _) rfl _) rfl _) rfl _) rfl _) rfl _)
          refine bodyPost_ret (v := .tuple #[.agg #[.slice A1 c1.ts.length a1, .int .i64 g, .slice B1 c1.dn.length b1, .slice (some ⟨e0, o1, none⟩) m e1, .bool true, .int .i64 c1.st, .int .i64 c1.id], .slice L evs.length cl, .int .i64 0]) (by simp [results, Tryz.results63, go_sem]; go_simp) rfl ⟨A1, B1, L, e0, o1, a1, b1, e1, cl, HD1.out.me, by unfold crewV; rw [HOV.out], ?_, ?_, ?_⟩
          · exact HD1.out.cr.later m1 (hG7.mono (fun x _ hx => .inr (.inr (.inl hx)))) (fun x _ hx => .inl hx)
          · have ho := HD1.out.own.grew hG7 (fun x hx e => by have := (HD1.out.own.lt x hx).1; omega)
            exact ho.mono (by omega)
          · exact hG7.toExt HD1.out.ext (fun x hx => by rw [hx]; omega)
        | false =>
          have htN : k * m + j < N := by
            have h1 := HD1.out.tn
            rcases Nat.lt_or_ge (k * m + j) N with h2 | h2
            · exact h2
            · exfalso
              have h3 := HD1.out.eq
              have h4 := HO.out
              rw [h3, show N - (k * m + j) = 0 by omega] at h4
              have h5 : c1.over = true := h4
              rw [hov] at h5; cases h5
          obtain ⟨d1, G1, hI1⟩ := HD1.out.inv
          have hpos := (CrI.over_iff hI1).2 hov
          obtain ⟨N0, hN0⟩ : ∃ N0, (held c1.D).length = N0 := ⟨_, rfl⟩
          have HN0 := Lib.hid hN0
          rw [hN0] at hpos
          have hz : ((N0 : Int) == 0) = false := by simp; omega
          have HI1 := Lib.hid hI1
          have HN1 : Hid (N0 ≤ 4000) := Lib.hid (by
            have h1 := (CrI.fresh hI1).2.2.2
            have h2 := hI1.few g1 n1
            omega)
          have HTN := Lib.hid htN
          have HOV := Lib.hid hov
          clear hN0 hI1 htN
          rw [hov] at k4
          go_wp2_with fail
          have hh := rheld_any A1 B1 e0 o1 a1 b1 e1 g m c1 _ wr ((HD1.out.cr.at_ m1).deq.choose_spec) m2 (by have := HN0.out; have := HN1.out; omega)
          unfold crewV at hh
          rw [HOV.out] at hh
          refine hh.mono ?_
          clear hh
          rintro ed w5 ⟨rfl, hE5⟩
          rw [HN0.out]
          have hb5 := block_keep HD1.out.box hE5
          have l0 : w5.cell? ⟨w.heap.size, 0, none⟩ = some (.slice A1 c1.ts.length a1) := (cell_of_row w5 (w.heap.size) 0 _ _ _ hb5).trans rfl
          have l1 : w5.cell? ⟨w.heap.size, 1, none⟩ = some (.int .i64 g) := (cell_of_row w5 (w.heap.size) 1 _ _ _ hb5).trans rfl
          have l2 : w5.cell? ⟨w.heap.size, 2, none⟩ = some (.slice B1 c1.dn.length b1) := (cell_of_row w5 (w.heap.size) 2 _ _ _ hb5).trans rfl
          have l3 : w5.cell? ⟨w.heap.size, 3, none⟩ = some (.slice (some ⟨e0, o1, none⟩) m e1) := (cell_of_row w5 (w.heap.size) 3 _ _ _ hb5).trans rfl
          have l4 : w5.cell? ⟨w.heap.size, 4, none⟩ = some (.bool c1.over) := (cell_of_row w5 (w.heap.size) 4 _ _ _ hb5).trans rfl
          have l5 : w5.cell? ⟨w.heap.size, 5, none⟩ = some (.int .i64 c1.st) := (cell_of_row w5 (w.heap.size) 5 _ _ _ hb5).trans rfl
          have l6 : w5.cell? ⟨w.heap.size, 6, none⟩ = some (.int .i64 c1.id) := (cell_of_row w5 (w.heap.size) 6 _ _ _ hb5).trans rfl
          have lf := fun o => frozen_of_row w5 (w.heap.size) o _ _ hb5
          rw [HOV.out] at l4
          have HE5 := Lib.hid hE5
          clear hb5 hE5 k0 k1 k2 k3 k4 k5 k6 kf
          go_wp2_with fail
          have hh := rstep5_any A1 B1 e0 o1 a1 b1 e1 g n m c1 d1 G1 (j : Int) ((j : Int) + 1 + k) w5 ((HD1.out.cr.at_ m1).ext HE5.out) HD1.out.me HI1.out n1 n2 g1 g2 m1 m2 (by have := HD1.out.st; have := HTN.out; omega) (by have := HD1.out.id; have := HTN.out; omega) (by unfold in64; omega) (by unfold in64; omega)
          unfold crewV at hh
          rw [HOV.out] at hh
          refine hh.mono ?_
          clear hh
          have HEV : Hid (kEv.ok (stepP g m c1 (j : Int) ((j : Int) + 1 + k)).2) := Lib.hid (HI1.out.evOk g1 n1 n2 m1 m2 _ _)
          have HI5 : Hid (∃ done G, CwI g n m (stepP g m c1 (j : Int) ((j : Int) + 1 + k)).1 done G) := Lib.hid (HI1.out.stepD g1 m1 _ _)
          have HST := Lib.hid (stepP_st g m c1 (j : Int) ((j : Int) + 1 + k))
          obtain ⟨⟨c5, ev⟩, hr⟩ : ∃ x, stepP g m c1 (j : Int) ((j : Int) + 1 + k) = x := ⟨_, rfl⟩
          rw [hr] at HEV HI5 HST ⊢
          have HOKE : Hid (kEv.ok ev) := HEV
          have HR := Lib.hid hr
          rintro ed w6 ⟨A5, B5, e5, a5, b5, q5, hq5, rfl, hC5, hE6⟩
          have HC5 := Lib.hid (And.intro hq5 hC5)
          have HE6 := Lib.hid hE6
          clear hr hC5 hE6 hq5 l0 l1 l2 l3 l4 l5 l6 lf hpos hz
          go_upto_region 16 with fail
          have hz5 := HE5.out.size
          have hz6 := HE6.out.size
          have hzr := HD1.out.ext.size
          have hRr := block_lt HD1.out.res
          have HX8 : Hid (Ext w6 ((w6.alloc (.cells #[.slice A5 c5.ts.length a5, .int .i64 g, .slice B5 c5.dn.length b5, .slice (some ⟨e5, 0, none⟩) m q5, .bool c5.over, .int .i64 c5.st, .int .i64 c5.id] 81)).alloc (.cells #[.int .i64 ev.wk, .int .i64 ev.fr, .int .i64 ev.tk, .bool ev.pt] 106))) := Lib.hid (((Ext.refl w6).alloc _).alloc _)
          have HBX : Hid ((((w6.alloc (.cells #[.slice A5 c5.ts.length a5, .int .i64 g, .slice B5 c5.dn.length b5, .slice (some ⟨e5, 0, none⟩) m q5, .bool c5.over, .int .i64 c5.st, .int .i64 c5.id] 81)).alloc (.cells #[.int .i64 ev.wk, .int .i64 ev.fr, .int .i64 ev.tk, .bool ev.pt] 106))).heap[w6.heap.size]? = some (.cells #[.slice A5 c5.ts.length a5, .int .i64 g, .slice B5 c5.dn.length b5, .slice (some ⟨e5, 0, none⟩) m q5, .bool c5.over, .int .i64 c5.st, .int .i64 c5.id] 81)) := Lib.hid (block_keep (heap_alloc_new w6 _) ((Ext.refl _).alloc _))
          have HBY : Hid ((((w6.alloc (.cells #[.slice A5 c5.ts.length a5, .int .i64 g, .slice B5 c5.dn.length b5, .slice (some ⟨e5, 0, none⟩) m q5, .bool c5.over, .int .i64 c5.st, .int .i64 c5.id] 81)).alloc (.cells #[.int .i64 ev.wk, .int .i64 ev.fr, .int .i64 ev.tk, .bool ev.pt] 106))).heap[w6.heap.size + 1]? = some (.cells #[.int .i64 ev.wk, .int .i64 ev.fr, .int .i64 ev.tk, .bool ev.pt] 106)) := Lib.hid (heap_alloc2_new w6 _ _)
          generalize ((w6.alloc (.cells #[.slice A5 c5.ts.length a5, .int .i64 g, .slice B5 c5.dn.length b5, .slice (some ⟨e5, 0, none⟩) m q5, .bool c5.over, .int .i64 c5.st, .int .i64 c5.id] 81)).alloc (.cells #[.int .i64 ev.wk, .int .i64 ev.fr, .int .i64 ev.tk, .bool ev.pt] 106)) = w8 at *
          have hz8 := HX8.out.size
          have x0 : w8.cell? ⟨w6.heap.size, 0, none⟩ = some (.slice A5 c5.ts.length a5) := (cell_of_row w8 (w6.heap.size) 0 _ _ _ HBX.out).trans rfl
          have x1 : w8.cell? ⟨w6.heap.size, 1, none⟩ = some (.int .i64 g) := (cell_of_row w8 (w6.heap.size) 1 _ _ _ HBX.out).trans rfl
          have x2 : w8.cell? ⟨w6.heap.size, 2, none⟩ = some (.slice B5 c5.dn.length b5) := (cell_of_row w8 (w6.heap.size) 2 _ _ _ HBX.out).trans rfl
          have x3 : w8.cell? ⟨w6.heap.size, 3, none⟩ = some (.slice (some ⟨e5, 0, none⟩) m q5) := (cell_of_row w8 (w6.heap.size) 3 _ _ _ HBX.out).trans rfl
          have x4 : w8.cell? ⟨w6.heap.size, 4, none⟩ = some (.bool c5.over) := (cell_of_row w8 (w6.heap.size) 4 _ _ _ HBX.out).trans rfl
          have x5 : w8.cell? ⟨w6.heap.size, 5, none⟩ = some (.int .i64 c5.st) := (cell_of_row w8 (w6.heap.size) 5 _ _ _ HBX.out).trans rfl
          have x6 : w8.cell? ⟨w6.heap.size, 6, none⟩ = some (.int .i64 c5.id) := (cell_of_row w8 (w6.heap.size) 6 _ _ _ HBX.out).trans rfl
          have xf := fun o => frozen_of_row w8 (w6.heap.size) o _ _ HBX.out
          have y0 : w8.cell? ⟨w6.heap.size + 1, 0, none⟩ = some (.int .i64 ev.wk) := (cell_of_row w8 (w6.heap.size + 1) 0 _ _ _ HBY.out).trans rfl
          have y1 : w8.cell? ⟨w6.heap.size + 1, 1, none⟩ = some (.int .i64 ev.fr) := (cell_of_row w8 (w6.heap.size + 1) 1 _ _ _ HBY.out).trans rfl
          have y2 : w8.cell? ⟨w6.heap.size + 1, 2, none⟩ = some (.int .i64 ev.tk) := (cell_of_row w8 (w6.heap.size + 1) 2 _ _ _ HBY.out).trans rfl
          have y3 : w8.cell? ⟨w6.heap.size + 1, 3, none⟩ = some (.bool ev.pt) := (cell_of_row w8 (w6.heap.size + 1) 3 _ _ _ HBY.out).trans rfl
          have yf := fun o => frozen_of_row w8 (w6.heap.size + 1) o _ _ HBY.out
          obtain ⟨Ao, co, hv, hco⟩ := HD1.out.own.slice
          obtain ⟨no, hno⟩ : ∃ no, evs.length = no := ⟨_, rfl⟩
          rw [hno] at hv hco
          subst hv
          have HNO := Lib.hid hno
          obtain ⟨row, hrw⟩ : ∃ row, Value.ownBlock (.slice Ao no co) = row := ⟨_, rfl⟩
          have hrlt : ∀ x, row = some x → w.heap.size + 2 ≤ x ∧ x < wr.heap.size := fun x hx => HD1.out.own.lt x (hrw.trans hx)
          have hrow : ∀ x, row = some x → x < w8.heap.size := fun x hx => by have := hrlt x hx; omega
          have nX : ¬ row = some w6.heap.size := fun hh => by have := hrlt _ hh; omega
          have nY : ¬ row = some (w6.heap.size + 1) := fun hh => by have := hrlt _ hh; omega
          have HRL := Lib.hid hrlt
          have HE8 : Hid (Ext wr w8) := Lib.hid ((HE5.out.trans HE6.out).trans HX8.out)
          obtain ⟨B9, hB9⟩ : ∃ B9, w.heap.size + 2 = B9 := ⟨_, rfl⟩
          have HB9 := Lib.hid hB9
          have HO8 : Hid (Ow kEv B9 w8 (.slice Ao no co) evs) := Lib.hid (by rw [← hB9]; exact HD1.out.own.ext HE8.out)
          have HLL : Hid (evs.length + [ev].length ≤ 1048576) := Lib.hid (by have := HD1.out.len; have := HTN.out; simp; omega)
          have HBS : Hid (B9 ≤ w8.heap.size) := Lib.hid (by omega)
          have HSZ := Lib.hid (And.intro hz5 (And.intro hz6 (And.intro hz8 (And.intro hzr hRr))))
          clear hB9 hno hco hrlt hz5 hz6 hz8 hzr hRr
          refine MonoW.wp_region_write 5 4 (Wr row) (R6P w8 row (.agg #[.slice A5 c5.ts.length a5, .int .i64 g, .slice B5 c5.dn.length b5, .slice (some ⟨e5, 0, none⟩) m q5, .bool c5.over, .int .i64 c5.st, .int .i64 c5.id]) (.agg #[.int .i64 ev.wk, .int .i64 ev.fr, .int .i64 ev.tk, .bool ev.pt]) (.slice Ao no co) B9 evs ev) (by kernel_rfl) (by kernel_rfl) (Wr.of row) (Wr.tr row) (R6P_ext w8 row (.agg #[.slice A5 c5.ts.length a5, .int .i64 g, .slice B5 c5.dn.length b5, .slice (some ⟨e5, 0, none⟩) m q5, .bool c5.over, .int .i64 c5.st, .int .i64 c5.id]) (.agg #[.int .i64 ev.wk, .int .i64 ev.fr, .int .i64 ev.tk, .bool ev.pt]) (.slice Ao no co) B9 evs ev) (R6P_sw w8 row (.agg #[.slice A5 c5.ts.length a5, .int .i64 g, .slice B5 c5.dn.length b5, .slice (some ⟨e5, 0, none⟩) m q5, .bool c5.over, .int .i64 c5.st, .int .i64 c5.id]) (.agg #[.int .i64 ev.wk, .int .i64 ev.fr, .int .i64 ev.tk, .bool ev.pt]) (.slice Ao no co) B9 evs ev hrow) ?_ ?_
          · intro i o hi ho vals w5 hE hQ hcl
            have hi' : i = 0 ∨ i = 1 ∨ i = 2 ∨ i = 3 ∨ i = 4 := by omega
            rcases hi' with rfl | rfl | rfl | rfl | rfl
            · simp only [List.getElem?_cons_succ, List.getElem?_cons_zero, Option.some.injEq] at ho
              subst ho
              rw [if_pos (Mono.wanted_none rfl)]
              have l0 := hE.cell x0 nX
              have l1 := hE.cell x1 nX
              have l2 := hE.cell x2 nX
              have l3 := hE.cell x3 nX
              have l4 := hE.cell x4 nX
              have l5 := hE.cell x5 nX
              have l6 := hE.cell x6 nX
              clear hcl
              refine Mono.yields_same (.agg #[.slice A5 c5.ts.length a5, .int .i64 g, .slice B5 c5.dn.length b5, .slice (some ⟨e5, 0, none⟩) m q5, .bool c5.over, .int .i64 c5.st, .int .i64 c5.id]) w5 ?_ ⟨MonoW.Out.of (Wr.of row) (Ext.refl _), R6P_i0 _ _ _ _ _ _ _ _ _ _ _ rfl⟩
              simp only [Mono.all, List.take, Act.put]
              go_simp
            · simp only [List.getElem?_cons_succ, List.getElem?_cons_zero, Option.some.injEq] at ho
              subst ho
              rw [if_pos (Mono.wanted_none rfl)]
              clear hcl
              refine Mono.yields_same (.slice Ao no co) w5 ?_ ⟨MonoW.Out.of (Wr.of row) (Ext.refl _), R6P_i1 _ _ _ _ _ _ _ _ _ _ _ rfl⟩
              simp only [Mono.all, List.take, Act.put]
              go_simp
            · simp only [List.getElem?_cons_succ, List.getElem?_cons_zero, Option.some.injEq] at ho
              subst ho
              rw [if_pos (Mono.wanted_none rfl)]
              have l0 := hE.cell y0 nY
              have l1 := hE.cell y1 nY
              have l2 := hE.cell y2 nY
              have l3 := hE.cell y3 nY
              clear hcl
              refine Mono.yields_same (.agg #[.int .i64 ev.wk, .int .i64 ev.fr, .int .i64 ev.tk, .bool ev.pt]) w5 ?_ ⟨MonoW.Out.of (Wr.of row) (Ext.refl _), R6P_i2 _ _ _ _ _ _ _ _ _ _ _ rfl⟩
              simp only [Mono.all, List.take, Act.put]
              go_simp
            · simp only [List.getElem?_cons_succ, List.getElem?_cons_zero, Option.some.injEq] at ho
              subst ho
              rw [if_pos (Mono.wanted_none rfl)]
              have h2 : vals 2 = .agg #[.int .i64 ev.wk, .int .i64 ev.fr, .int .i64 ev.tk, .bool ev.pt] := (R6P_e2 _ _ _ _ _ _ _ _ _ _ _ (hcl 2 (by kernel_rfl)))
              clear hcl
              refine Mono.yields_same (.slice (some ⟨w5.heap.size, 0, none⟩) 1 1) (w5.alloc (.cells #[.int .i64 ev.wk, .int .i64 ev.fr, .int .i64 ev.tk, .bool ev.pt] kEv.e)) ?_ ⟨MonoW.Out.of (Wr.of row) ((Ext.refl _).alloc _), R6P_i3 _ _ _ _ _ _ _ _ _ _ _ (OneAt.made kEv w5 hE.size _ _ rfl HOKE.out)⟩
              simp only [Mono.all, List.take, Act.put, kEv]
              go_simp
            · simp only [List.getElem?_cons_succ, List.getElem?_cons_zero, Option.some.injEq] at ho
              subst ho
              rw [if_pos (Mono.wanted_none rfl)]
              obtain ⟨p, h3, o3⟩ := (R6P_e3 _ _ _ _ _ _ _ _ _ _ _ (hcl 3 (by kernel_rfl)))
              have h1 : vals 1 = .slice Ao no co := (R6P_e1 _ _ _ _ _ _ _ _ _ _ _ (hcl 1 (by kernel_rfl)))
              have hX := hQ rfl
              clear hcl
              refine Kd.yields_grow kEv (B := B9) (n := w8.heap.size) (q := 4) (.tmp 60) (.tmp 62) (v := .slice Ao no co) (y := .slice (some ⟨p, 0, none⟩) 1 1) (xs := evs) (ys := [ev]) (HO8.out.ext hX) o3.rd HLL.out (Nat.le_trans HBS.out hX.size) hX.size rfl rfl (by rw [← h1]; kernel_rfl) (by rw [← h3]; kernel_rfl) ?_
              intro v' w' hA hO
              exact ⟨by rw [← hrw]; exact hO, R6P_i4 _ _ _ _ _ _ _ _ _ _ _ hA⟩
          · intro vals w5 hE hv
            have hA := (R6P_e4 _ _ _ _ _ _ _ _ _ _ _ (hv 4 (by omega)))
            have ee0 := (R6P_e0 _ _ _ _ _ _ _ _ _ _ _ (hv 0 (by omega)))
            have ee3 := (R6P_e3 _ _ _ _ _ _ _ _ _ _ _ (hv 3 (by omega)))
            have HA := Lib.hid hA
            have HG := Lib.hid hE
            have hbP : w5.heap[w.heap.size]? = some (.cells #[.slice A1 c1.ts.length a1, .int .i64 g, .slice B1 c1.dn.length b1, .slice (some ⟨e0, o1, none⟩) m e1, .bool c1.over, .int .i64 c1.st, .int .i64 c1.id] 81) := block_wr (block_keep HD1.out.box HE8.out) hE (fun hh => by have := (HRL.out _ hh).1; omega)
            have z0 : w5.cell? ⟨w.heap.size, 0, none⟩ = some (.slice A1 c1.ts.length a1) := (cell_of_row w5 (w.heap.size) 0 _ _ _ hbP).trans rfl
            have z1 : w5.cell? ⟨w.heap.size, 1, none⟩ = some (.int .i64 g) := (cell_of_row w5 (w.heap.size) 1 _ _ _ hbP).trans rfl
            have z2 : w5.cell? ⟨w.heap.size, 2, none⟩ = some (.slice B1 c1.dn.length b1) := (cell_of_row w5 (w.heap.size) 2 _ _ _ hbP).trans rfl
            have z3 : w5.cell? ⟨w.heap.size, 3, none⟩ = some (.slice (some ⟨e0, o1, none⟩) m e1) := (cell_of_row w5 (w.heap.size) 3 _ _ _ hbP).trans rfl
            have z4 : w5.cell? ⟨w.heap.size, 4, none⟩ = some (.bool c1.over) := (cell_of_row w5 (w.heap.size) 4 _ _ _ hbP).trans rfl
            have z5 : w5.cell? ⟨w.heap.size, 5, none⟩ = some (.int .i64 c1.st) := (cell_of_row w5 (w.heap.size) 5 _ _ _ hbP).trans rfl
            have z6 : w5.cell? ⟨w.heap.size, 6, none⟩ = some (.int .i64 c1.id) := (cell_of_row w5 (w.heap.size) 6 _ _ _ hbP).trans rfl
            have zf := fun o => frozen_of_row w5 (w.heap.size) o _ _ hbP
            have lP := block_lt hbP
            have HBP := Lib.hid hbP
            clear hA hbP hE ee3
            simp only [Mono.all, List.take, List.drop, Act.put]
            go_wp2_with fail
            go_roundw
            case rel =>
              have hB := HB9.out
              obtain ⟨z5, z6, z8, zr, zR⟩ := HSZ.out
              have hGP : Grew (fun x => x = w.heap.size) w5 ((((((((w5.setCell ⟨w.heap.size, 0, none⟩ (.slice A5 c5.ts.length a5)).setCell ⟨w.heap.size, 1, none⟩ (.int .i64 g)).setCell ⟨w.heap.size, 2, none⟩ (.slice B5 c5.dn.length b5)).setCell ⟨w.heap.size, 3, none⟩ (.slice (some ⟨e5, 0, none⟩) m q5)).setCell ⟨w.heap.size, 4, none⟩ (.bool c5.over)).setCell ⟨w.heap.size, 5, none⟩ (.int .i64 c5.st)).setCell ⟨w.heap.size, 6, none⟩ (.int .i64 c5.id))) := (Grew.setCell (S := fun x => x = w.heap.size) (p := ⟨w.heap.size, 6, none⟩) (Grew.setCell (S := fun x => x = w.heap.size) (p := ⟨w.heap.size, 5, none⟩) (Grew.setCell (S := fun x => x = w.heap.size) (p := ⟨w.heap.size, 4, none⟩) (Grew.setCell (S := fun x => x = w.heap.size) (p := ⟨w.heap.size, 3, none⟩) (Grew.setCell (S := fun x => x = w.heap.size) (p := ⟨w.heap.size, 2, none⟩) (Grew.setCell (S := fun x => x = w.heap.size) (p := ⟨w.heap.size, 1, none⟩) (Grew.setCell (S := fun x => x = w.heap.size) (p := ⟨w.heap.size, 0, none⟩) (Grew.refl _ _) rfl _) rfl _) rfl _) rfl _) rfl _) rfl _) rfl _)
              have hGr : Grew (fun x => x = w.heap.size ∨ row = some x) w8 ((((((((w5.setCell ⟨w.heap.size, 0, none⟩ (.slice A5 c5.ts.length a5)).setCell ⟨w.heap.size, 1, none⟩ (.int .i64 g)).setCell ⟨w.heap.size, 2, none⟩ (.slice B5 c5.dn.length b5)).setCell ⟨w.heap.size, 3, none⟩ (.slice (some ⟨e5, 0, none⟩) m q5)).setCell ⟨w.heap.size, 4, none⟩ (.bool c5.over)).setCell ⟨w.heap.size, 5, none⟩ (.int .i64 c5.st)).setCell ⟨w.heap.size, 6, none⟩ (.int .i64 c5.id))) := (Grew.mono HG.out (fun x _ hx => .inr hx)).trans (hGP.mono (fun x _ hx => .inl hx))
              have hE9 : Ext w8 w5 → True := fun _ => trivial
              have hval := HA.out.1.grew hGP (fun x hx e => by have := (HA.out.1.lt x hx).1; omega)
              obtain ⟨hs1, hs2, hs3⟩ := HST.out
              have hst' := HD1.out.st
              have hid' := HD1.out.id
              have htn := HTN.out
              have hst1 : c5.st = c1.st + 1 := hs1
              have hid1 : c5.id ≤ c1.id + 1 := hs3
              refine ⟨j + 1, by omega, by go_num, c5, evs ++ [ev], A5, B5, e5, 0, a5, b5, q5, HC5.out.1, set_box7 HBP.out _ _ _ _ _ _ _, ?_, ?_, by omega, HI5.out, by omega, by omega, ?_, by have := HD1.out.len; rw [List.length_append, this]; rfl, ?_, ?_⟩
              · refine HC5.out.2.later m1 (W := (((((((w5.setCell ⟨w.heap.size, 0, none⟩ (.slice A5 c5.ts.length a5)).setCell ⟨w.heap.size, 1, none⟩ (.int .i64 g)).setCell ⟨w.heap.size, 2, none⟩ (.slice B5 c5.dn.length b5)).setCell ⟨w.heap.size, 3, none⟩ (.slice (some ⟨e5, 0, none⟩) m q5)).setCell ⟨w.heap.size, 4, none⟩ (.bool c5.over)).setCell ⟨w.heap.size, 5, none⟩ (.int .i64 c5.st)).setCell ⟨w.heap.size, 6, none⟩ (.int .i64 c5.id))) ((Grew.of HX8.out).trans (hGr.mono (fun x hx hh => ?_))) (fun x hx hT => ?_)
                · rcases hh with hh | hh
                  · omega
                  · have := (HRL.out x hh).2; omega
                · rcases hT with hT | hT | hT | hT
                  · have := HS.out x hT; omega
                  · omega
                  · omega
                  · rcases HA.out.2 with h9 | ⟨p, h9, h10⟩
                    · rw [h9, hrw] at hT
                      have := (HRL.out x hT).2; omega
                    · rw [h9] at hT; cases hT; omega
              · rw [hB]; exact hval
              · have h9 := HD1.out.eq
                rw [show N - (k * m + j) = (N - (k * m + (j + 1))) + 1 by omega, drainP_next _ _ _ _ _ HOV.out, dpick_at m k j hlt, HR.out] at h9
                rw [h9, List.append_assoc, Nat.add_assoc]
                rfl
              · exact block_wr (block_keep HD1.out.res HE8.out) hGr (fun hh => by
                  rcases hh with hh | hh
                  · omega
                  · have := (HRL.out _ hh).1; omega)
              · exact hGr.toExt (HD1.out.ext.trans HE8.out) (fun x hx => by
                  rcases hx with hx | hx
                  · omega
                  · have := (HRL.out _ hx).1; omega)
            case measure => simp [intOf]; omega
      · obtain rfl : j = m := by omega
        go_wp2_with fail
        go_roundw
        case rel =>
          have h9 : (k + 1) * j = k * j + j := Nat.succ_mul k j
          exact ⟨k + 1, by rw [h9]; exact HD1.out.tn, by go_num, _, _, _, _, _, _, _, _, _, by rw [h9]; exact HD1.out⟩
        case measure =>
          have h9 := HD1.out.tn
          have h8 : k ≤ k * j := Nat.le_mul_of_pos_right k m1
          simp [intOf]; omega
end Go.Proofs.YtkpbanfpnilifaaGreat

/- The program's Begin of work, in new memory. -/
namespace Go.Proofs.YtkpbanfpnilifaaGreat
open Go.RowKit Go.Proofs.YtkpbanfpnilifaaGreat.Plain

def BeginNew (w : World) (n g : Int) (e : Ending) (w' : World) : Prop :=
  ∃ A c B d, e = .returned (.tuple #[.agg #[.slice A 1 c, .int .i64 g, .slice B n.toNat d], .int .i64 0]) ∧
    Rd kTask w' (.slice A 1 c) [⟨0, n, -1, 0⟩] ∧ Rd kBool w' (.slice B n.toNat d) (List.replicate n.toNat false) ∧ From w.heap.size A ∧ From w.heap.size B ∧ Ext w w'
set_option maxHeartbeats 800000 in
set_option maxRecDepth 100000 in
theorem pbegin_new (n g : Int) (w : World) (hn : in64 n) (hg : in64 g) (hc : cOk n g = true) :
    Calls Tryz.prog 66 #[.int .i64 n, .int .i64 g] w (BeginNew w n g) := by
  have HN := Lib.hid hn
  have HG := Lib.hid hg
  have HC := Lib.hid hc
  obtain ⟨a1, a2, a3, a4⟩ : 1 ≤ n ∧ n ≤ 1000 ∧ 1 ≤ g ∧ g ≤ 100 := by unfold cOk at hc; simp only [Bool.and_eq_true, decide_eq_true_eq] at hc; omega
  obtain ⟨N, rfl⟩ : ∃ N : Nat, n = N := ⟨n.toNat, by omega⟩
  clear hc hn hg
  obtain ⟨C, hmk, hown⟩ := kBool.make false rfl trivial N (by omega)
  have hmk' : ∀ w : World, (Instr.makeSlice 55 (.int .i64 N) (.int .i64 N)).run Tryz.prog w = .ok (.slice (some ⟨w.heap.size, 0, none⟩) N N) (w.alloc (.cells C 4)) := hmk
  have HO := Lib.hid hown
  clear hmk hown
  go_enter Tryz.func66, Tryz.ntmps66
  go_wp2_with fail
  refine (sized_any _ _ _ HN.out HG.out).mono ?_
  rintro e w1 ⟨he, rfl⟩
  rw [HC.out] at he
  subst he
  go_wp2_with fail
  go_region
  all_goals (try go_wp2)
  · refine bodyPost_ret (v := .tuple #[.agg #[.slice (some ⟨w.heap.size + 1 + 1, 0, none⟩) 1 1, .int .i64 g, .slice (some ⟨w.heap.size + 1 + 1 + 1, 0, none⟩) N N], .int .i64 0]) (by simp [results, Tryz.results66, go_sem]) rfl ⟨_, 1, _, N, rfl, ?_, ?_, fun a ha => by cases ha; simp only; omega, fun a ha => by cases ha; simp only; omega, ?_⟩
    · exact (Ow.lit (K := kTask) (B := 0) (p := w.heap.size + 1 + 1) _ [⟨0, N, -1, 0⟩] #[.int .i64 0, .int .i64 N, .int .i64 (-1), .int .i64 0] rfl rfl (by simp) (Nat.zero_le _) (by simp [maxLen]) (by intro x hx; simp only [List.mem_singleton] at hx; subst hx; exact tk_ok (by unfold in64; omega) (by unfold in64; omega) (by unfold in64; omega) (by unfold in64; omega))).rd.ext ((Ext.refl _).alloc _).drew
    · exact (HO.out _ 0 (w.heap.size + 1 + 1 + 1) (by simp) (Nat.zero_le _)).rd.ext (Ext.refl _).drew
    · exact (((((Ext.refl w).alloc _).alloc _).alloc _).alloc _).drew
  · refine bodyPost_ret (v := .tuple #[.agg #[.slice (some ⟨w.heap.size + 1 + 1 + 1, 0, none⟩) 1 1, .int .i64 g, .slice (some ⟨w.heap.size + 1 + 1, 0, none⟩) N N], .int .i64 0]) (by simp [results, Tryz.results66, go_sem]) rfl ⟨_, 1, _, N, rfl, ?_, ?_, fun a ha => by cases ha; simp only; omega, fun a ha => by cases ha; simp only; omega, ?_⟩
    · exact (Ow.lit (K := kTask) (B := 0) (p := w.heap.size + 1 + 1 + 1) _ [⟨0, N, -1, 0⟩] #[.int .i64 0, .int .i64 N, .int .i64 (-1), .int .i64 0] rfl rfl (by simp) (Nat.zero_le _) (by simp [maxLen]) (by intro x hx; simp only [List.mem_singleton] at hx; subst hx; exact tk_ok (by unfold in64; omega) (by unfold in64; omega) (by unfold in64; omega) (by unfold in64; omega))).rd.ext (Ext.refl _).drew
    · exact (HO.out _ 0 (w.heap.size + 1 + 1) (by simp) (Nat.zero_le _)).rd.ext ((Ext.refl _).alloc _).drew
    · exact (((((Ext.refl w).alloc _).alloc _).alloc _).alloc _).drew
end Go.Proofs.YtkpbanfpnilifaaGreat

/- The program's Begin of a crew. -/
namespace Go.Proofs.YtkpbanfpnilifaaGreat
open Go.BigFrame
open Go.RowKit Go.Proofs.YtkpbanfpnilifaaGreat.Plain

/-- but for two blocks -/
abbrev GrewTwo (w : World) (X Y : Nat) (W : World) : Prop := Grew (fun x => x = X ∨ x = Y) w W
/-- .. in memory that is new -/
def CBeginOff (n g m : Nat) (w : World) (ed : Ending) (w' : World) : Prop :=
  ∃ (A B : Option Addr) (e0 a b : Nat), ed = .returned (.tuple #[crewV A B e0 0 a b m g m (beginC n m), .int .i64 0]) ∧ CrewO (fun x => x < w.heap.size) w' m (beginC n m) A B e0 0 a b ∧ Ext w w'
set_option maxHeartbeats 800000 in
set_option maxRecDepth 100000 in
theorem cbegin_off (n g m : Nat) (w : World) (n1 : 1 ≤ n) (n2 : n ≤ 1000) (g1 : 1 ≤ g) (g2 : g ≤ 100) (m1 : 1 ≤ m) (m2 : m ≤ 8) :
    Calls Tryz.prog 56 #[.int .i64 n, .int .i64 g, .int .i64 m] w (CBeginOff n g m w) := by
  have HCK : Hid (cOk (n : Int) (g : Int) = true) := Lib.hid (by unfold cOk; simp; omega)
  have HNI : Hid (in64 (n : Int)) := Lib.hid (in64_nat n (by omega))
  have HGI : Hid (in64 (g : Int)) := Lib.hid (in64_nat g (by omega))
  have m3 : (1 : Int) ≤ m := by omega
  have m4 : (m : Int) ≤ 8 := by omega
  have m5 : (0 : Int) < m := by omega
  have m6 : 0 < m := by omega
  obtain ⟨C, hmk, hmown⟩ := kRow.make hd0 rfl trivial m (by omega)
  have HMK := Lib.hid hmown
  have hmk2 : ∀ w : World, (Instr.makeSlice 79 (.int .i64 m) (.int .i64 m)).run Tryz.prog w = .ok (.slice (some ⟨w.heap.size, 0, none⟩) m m) (w.alloc (.cells C 29)) := hmk
  clear hmk hmown
  go_enter Tryz.func56, Tryz.ntmps56
  go_wp2_with ((go_at_call 65; refine (manned_yes m _ m1 m2).mono ?_; rintro ed w1 ⟨rfl, rfl⟩))
  refine (pbegin_new (n : Int) (g : Int) _ HNI.out HGI.out HCK.out).mono ?_
  rintro ed w2 ⟨A1, a1, B1, b1, rfl, hT, hD, hA, hB, hE⟩
  rw [Int.toNat_natCast] at hD ⊢
  have HAB : Hid ((∀ a, A1 = some a → w.heap.size + 1 ≤ a.block ∧ a.block < w2.heap.size) ∧ (∀ a, B1 = some a → w.heap.size + 1 ≤ a.block ∧ a.block < w2.heap.size)) := Lib.hid ⟨fun a ha => ⟨by have := hA a ha; simpa using this, Rd.lt hT (by simp) a ha⟩, fun a ha => ⟨by have := hB a ha; simpa using this, Rd.lt hD (by simp; omega) a ha⟩⟩
  clear hA hB
  have r0 : w2.cell? ⟨w.heap.size, 0, none⟩ = some (.slice none 0 0) := Ext.cell hE (by go_simp)
  have r1 : w2.cell? ⟨w.heap.size, 1, none⟩ = some (.int .i64 0) := Ext.cell hE (by go_simp)
  have r2 : w2.cell? ⟨w.heap.size, 2, none⟩ = some (.slice none 0 0) := Ext.cell hE (by go_simp)
  have r3 : w2.cell? ⟨w.heap.size, 3, none⟩ = some (.slice none 0 0) := Ext.cell hE (by go_simp)
  have r4 : w2.cell? ⟨w.heap.size, 4, none⟩ = some (.bool false) := Ext.cell hE (by go_simp)
  have r5 : w2.cell? ⟨w.heap.size, 5, none⟩ = some (.int .i64 0) := Ext.cell hE (by go_simp)
  have r6 : w2.cell? ⟨w.heap.size, 6, none⟩ = some (.int .i64 0) := Ext.cell hE (by go_simp)
  have rf : ∀ o, w2.frozen? ⟨w.heap.size, o, none⟩ = false := fun o => (Below.frozen hE (p := ⟨w.heap.size, o, none⟩) (by first | omega | (simp; omega) | simp)).trans (by go_simp)
  have HT := Lib.hid hT
  have HD := Lib.hid hD
  have hz := hE.size
  simp at hz
  have l2 : w.heap.size < w2.heap.size := by omega
  have l3 : w.heap.size < w2.heap.size + 1 := by omega
  have HX2 := Lib.hid (((Ext.refl w).alloc _).trans hE)
  clear hT hD hE
  go_upto_region 7 with fail
  have hEb : Ext (w2.alloc (.cells #[.slice A1 1 a1, .int .i64 g, .slice B1 n b1] 78)) ((w2.alloc (.cells #[.slice A1 1 a1, .int .i64 g, .slice B1 n b1] 78)).alloc (.cells C 29)) := (Ext.refl _).alloc _
  have hEa : Ext w2 ((w2.alloc (.cells #[.slice A1 1 a1, .int .i64 g, .slice B1 n b1] 78)).alloc (.cells C 29)) := ((Ext.refl w2).alloc _).alloc _
  have s0 : ((w2.alloc (.cells #[.slice A1 1 a1, .int .i64 g, .slice B1 n b1] 78)).alloc (.cells C 29)).cell? ⟨w.heap.size, 0, none⟩ = some (.slice none 0 0) := Ext.cell hEa (by go_simp)
  have s1 : ((w2.alloc (.cells #[.slice A1 1 a1, .int .i64 g, .slice B1 n b1] 78)).alloc (.cells C 29)).cell? ⟨w.heap.size, 1, none⟩ = some (.int .i64 0) := Ext.cell hEa (by go_simp)
  have s2 : ((w2.alloc (.cells #[.slice A1 1 a1, .int .i64 g, .slice B1 n b1] 78)).alloc (.cells C 29)).cell? ⟨w.heap.size, 2, none⟩ = some (.slice none 0 0) := Ext.cell hEa (by go_simp)
  have s3 : ((w2.alloc (.cells #[.slice A1 1 a1, .int .i64 g, .slice B1 n b1] 78)).alloc (.cells C 29)).cell? ⟨w.heap.size, 3, none⟩ = some (.slice none 0 0) := Ext.cell hEa (by go_simp)
  have s4 : ((w2.alloc (.cells #[.slice A1 1 a1, .int .i64 g, .slice B1 n b1] 78)).alloc (.cells C 29)).cell? ⟨w.heap.size, 4, none⟩ = some (.bool false) := Ext.cell hEa (by go_simp)
  have s5 : ((w2.alloc (.cells #[.slice A1 1 a1, .int .i64 g, .slice B1 n b1] 78)).alloc (.cells C 29)).cell? ⟨w.heap.size, 5, none⟩ = some (.int .i64 0) := Ext.cell hEa (by go_simp)
  have s6 : ((w2.alloc (.cells #[.slice A1 1 a1, .int .i64 g, .slice B1 n b1] 78)).alloc (.cells C 29)).cell? ⟨w.heap.size, 6, none⟩ = some (.int .i64 0) := Ext.cell hEa (by go_simp)
  have sf : ∀ o, ((w2.alloc (.cells #[.slice A1 1 a1, .int .i64 g, .slice B1 n b1] 78)).alloc (.cells C 29)).frozen? ⟨w.heap.size, o, none⟩ = false := fun o => (Below.frozen hEa (p := ⟨w.heap.size, o, none⟩) (by first | omega | (simp; omega) | simp)).trans (by go_simp)
  have y0 : ((w2.alloc (.cells #[.slice A1 1 a1, .int .i64 g, .slice B1 n b1] 78)).alloc (.cells C 29)).cell? ⟨w2.heap.size, 0, none⟩ = some (.slice A1 1 a1) := Ext.cell hEb (by go_simp)
  have y1 : ((w2.alloc (.cells #[.slice A1 1 a1, .int .i64 g, .slice B1 n b1] 78)).alloc (.cells C 29)).cell? ⟨w2.heap.size, 1, none⟩ = some (.int .i64 g) := Ext.cell hEb (by go_simp)
  have y2 : ((w2.alloc (.cells #[.slice A1 1 a1, .int .i64 g, .slice B1 n b1] 78)).alloc (.cells C 29)).cell? ⟨w2.heap.size, 2, none⟩ = some (.slice B1 n b1) := Ext.cell hEb (by go_simp)
  have yf : ∀ o, ((w2.alloc (.cells #[.slice A1 1 a1, .int .i64 g, .slice B1 n b1] 78)).alloc (.cells C 29)).frozen? ⟨w2.heap.size, o, none⟩ = false := fun o => (Below.frozen hEb (p := ⟨w2.heap.size, o, none⟩) (by first | omega | (simp; omega) | simp)).trans (by go_simp)
  have hm := HMK.out (w2.alloc (.cells #[.slice A1 1 a1, .int .i64 g, .slice B1 n b1] 78)) (w2.heap.size + 1) (w2.heap.size + 1) (by simp) (Nat.le_refl _)
  obtain ⟨g', eg, _, _, h3, hdf⟩ := Ow.pos hm (by rw [List.length_replicate]; omega)
  obtain rfl : g' = w2.heap.size + 1 := by cases eg; rfl
  have hd : ∀ j, j < m → (((w2.alloc (.cells #[.slice A1 1 a1, .int .i64 g, .slice B1 n b1] 78)).alloc (.cells C 29))).cell? ⟨w2.heap.size + 1, j, none⟩ = some (.slice none 0 0) := fun j hj => by
    have := h3 j (by rw [List.length_replicate]; exact hj) 0 (.slice none 0 0) (by rw [List.getD_eq_getElem?_getD, List.getElem?_replicate, if_pos hj]; rfl)
    rw [show j = j * kRow.n + 0 from by show j = j * 1 + 0; omega]
    exact this
  have hd0 := hd 0 (by omega)
  have hdf2 : ∀ o, (((w2.alloc (.cells #[.slice A1 1 a1, .int .i64 g, .slice B1 n b1] 78)).alloc (.cells C 29))).frozen? ⟨w2.heap.size + 1, o, none⟩ = false := hdf
  clear hdf
  have HDD := Lib.hid hd
  have HX3 := Lib.hid (HX2.out.trans hEa)
  have HT3 := Lib.hid (HT.out.ext hEa)
  have HD3 := Lib.hid (HD.out.ext hEa)
  have l4 : w2.heap.size + 1 < (((w2.alloc (.cells #[.slice A1 1 a1, .int .i64 g, .slice B1 n b1] 78)).alloc (.cells C 29))).heap.size := by simp
  have l5 : w2.heap.size < (((w2.alloc (.cells #[.slice A1 1 a1, .int .i64 g, .slice B1 n b1] 78)).alloc (.cells C 29))).heap.size := by simp; omega
  have l6 : w.heap.size < (((w2.alloc (.cells #[.slice A1 1 a1, .int .i64 g, .slice B1 n b1] 78)).alloc (.cells C 29))).heap.size := by simp; omega
  have HZ3 : Hid ((((w2.alloc (.cells #[.slice A1 1 a1, .int .i64 g, .slice B1 n b1] 78)).alloc (.cells C 29))).heap.size = w2.heap.size + 2) := Lib.hid (by simp)
  clear hEa hEb hm h3 eg hd r0 r1 r2 r3 r4 r5 r6 rf hmk2
  generalize hw3 : ((w2.alloc (.cells #[.slice A1 1 a1, .int .i64 g, .slice B1 n b1] 78)).alloc (.cells C 29)) = w3 at *
  clear hw3
  have HG3 : Hid (∀ u0 u1 u2 u3 u4 u5 u6 : Value, GrewTwo w3 (w2.heap.size + 1) w.heap.size ((((((((w3.setCell ⟨w2.heap.size + 1, 0, none⟩ (.slice (some ⟨w3.heap.size, 0, none⟩) 1 1)).setCell ⟨w.heap.size, 0, none⟩ u0).setCell ⟨w.heap.size, 1, none⟩ u1).setCell ⟨w.heap.size, 2, none⟩ u2).setCell ⟨w.heap.size, 3, none⟩ u3).setCell ⟨w.heap.size, 4, none⟩ u4).setCell ⟨w.heap.size, 5, none⟩ u5).setCell ⟨w.heap.size, 6, none⟩ u6)) := Lib.hid (fun u0 u1 u2 u3 u4 u5 u6 => (((((((Grew.setCell (S := fun x => x = w2.heap.size + 1 ∨ x = w.heap.size) (p := ⟨w2.heap.size + 1, 0, none⟩) (Grew.refl _ w3) (.inl rfl) (.slice (some ⟨w3.heap.size, 0, none⟩) 1 1)).setCell (p := ⟨w.heap.size, 0, none⟩) (.inr rfl) _).setCell (p := ⟨w.heap.size, 1, none⟩) (.inr rfl) _).setCell (p := ⟨w.heap.size, 2, none⟩) (.inr rfl) _).setCell (p := ⟨w.heap.size, 3, none⟩) (.inr rfl) _).setCell (p := ⟨w.heap.size, 4, none⟩) (.inr rfl) _).setCell (p := ⟨w.heap.size, 5, none⟩) (.inr rfl) _).setCell (p := ⟨w.heap.size, 6, none⟩) (.inr rfl) _)
  go_wp2_with fail
  refine bodyPost_ret (v := .tuple #[.agg #[.slice A1 1 a1, .int .i64 g, .slice B1 n b1, .slice (some ⟨w2.heap.size + 1, 0, none⟩) m m, .bool false, .int .i64 0, .int .i64 0], .int .i64 0]) (by simp [results, Tryz.results56, go_sem]; go_simp) rfl ?_
  have hG := HG3.out (.slice A1 1 a1) (.int .i64 g) (.slice B1 n b1) (.slice (some ⟨w2.heap.size + 1, 0, none⟩) m m) (.bool false) (.int .i64 0) (.int .i64 0)
  refine ⟨A1, B1, w2.heap.size + 1, a1, b1, by simp [beginC], ?_, ?_⟩
  · have hGa := hG.alloc (.cells #[.int .i64 0] 3)
    refine ⟨?_, ?_, ⟨fun j => if j = 0 then ⟨some ⟨w3.heap.size, 0, none⟩, 1, 1⟩ else (⟨none, 0, 0⟩ : Hd), by simp [beginC]; omega, fun j hj => ?_⟩, fun hf => by omega⟩
    · have h1 := (Rd.off (S := fun x => (x = w2.heap.size + 1 ∨ x = w.heap.size) ∨ x < w.heap.size) HT3.out (fun a ha hs => by have := HAB.out.1 a ha; omega)).grew (hGa.mono (fun x _ hx => .inl hx))
      exact h1.mono (fun _ _ hf => .inr hf)
    · have h1 := (Rd.off (S := fun x => (x = w2.heap.size + 1 ∨ x = w.heap.size) ∨ x < w.heap.size) HD3.out (fun a ha hs => by have := HAB.out.2 a ha; omega)).grew (hGa.mono (fun x _ hx => .inl hx))
      have e : (beginC n m).dn.length = n := by simp [beginC]
      rw [e]
      exact h1.mono (fun _ _ hf => .inr hf)
    · by_cases e : j = 0
      · subst e
        dsimp only
        rw [if_pos rfl]
        refine ⟨by simp only [Nat.zero_add]; go_simp, rfl, ?_⟩
        refine Rd.off (Ow.rd (K := kInt) (B := 0) (Ow.lit (K := kInt) (p := w3.heap.size) (n := 1) _ [0] #[.int .i64 0] rfl rfl ?_ (Nat.zero_le _) (by simp [maxLen]) ?_)) (fun a ha hs => ?_)
        · simp
        · intro x hx; simp only [List.mem_singleton] at hx; subst hx; exact in64_nat 0 (by omega)
        · cases ha
          have h9 := HZ3.out
          simp only at hs
          omega
      · dsimp only
        rw [if_neg e]
        have e2 : (beginC n m).D.getD j [] = [] := by
          unfold beginC
          obtain ⟨k, rfl⟩ : ∃ k, j = k + 1 := ⟨j - 1, by omega⟩
          simp only [List.getD_cons_succ]
          rw [List.getD_eq_getElem?_getD, List.getElem?_replicate]; split <;> rfl
        rw [e2]
        refine ⟨?_, rfl, RdO.nil _ _ _ _⟩
        rw [Nat.zero_add]
        have h1 := HDD.out j hj
        have n1 : ¬ w2.heap.size + 1 = w.heap.size := by omega
        have h2 : (w3.setCell ⟨w2.heap.size + 1, 0, none⟩ (.slice (some ⟨w3.heap.size, 0, none⟩) 1 1)).cell? ⟨w2.heap.size + 1, j, none⟩ = some (.slice none 0 0) := by
          rw [World.cell?_setCell_other _ _ _ _ (fun e' => e (by cases e'; rfl))]; exact h1
        refine Ext.cell ((Ext.refl _).alloc _) ?_
        refine Grew.cell (S := fun x => x = w.heap.size) (w := w3.setCell ⟨w2.heap.size + 1, 0, none⟩ (.slice (some ⟨w3.heap.size, 0, none⟩) 1 1)) ?_ h2 (by omega)
        exact ((((((Grew.setCell (S := fun x => x = w.heap.size) (p := ⟨w.heap.size, 0, none⟩) (Grew.refl _ _) rfl _).setCell (p := ⟨w.heap.size, 1, none⟩) rfl _).setCell (p := ⟨w.heap.size, 2, none⟩) rfl _).setCell (p := ⟨w.heap.size, 3, none⟩) rfl _).setCell (p := ⟨w.heap.size, 4, none⟩) rfl _).setCell (p := ⟨w.heap.size, 5, none⟩) rfl _).setCell (p := ⟨w.heap.size, 6, none⟩) rfl _
  · exact (hG.toExt HX3.out (fun b hb => by rcases hb with rfl | rfl <;> omega)).alloc _
end Go.Proofs.YtkpbanfpnilifaaGreat

/- The document's Begin of work in new memory (ref04), and its Begin of a crew (ref05). -/
namespace Go.Proofs.YtkpbanfpnilifaaGreat
open Go.BigFrame
open Go.RowKit Go.Proofs.YtkpbanfpnilifaaGreat.Plain

def RBeginNew (w : World) (n g : Int) (e : Ending) (w' : World) : Prop :=
  ∃ A c B d, e = .returned (.tuple #[.agg #[.slice A 1 c, .int .i64 g, .slice B n.toNat d], .int .i64 0]) ∧
    Rd kTask w' (.slice A 1 c) [⟨0, n, -1, 0⟩] ∧ Rd kBool w' (.slice B n.toNat d) (List.replicate n.toNat false) ∧ From w.heap.size A ∧ From w.heap.size B ∧ Ext w w'
set_option maxHeartbeats 800000 in
set_option maxRecDepth 100000 in
theorem rbegin_new (n g : Int) (w : World) (hn : in64 n) (hg : in64 g) (hc : cOk n g = true) :
    Calls Tryz.prog 69 #[.int .i64 n, .int .i64 g] w (RBeginNew w n g) := by
  unfold in64 at hn hg
  obtain ⟨a1, a2, a3, a4⟩ : 1 ≤ n ∧ n ≤ 1000 ∧ 1 ≤ g ∧ g ≤ 100 := by unfold cOk at hc; simp only [Bool.and_eq_true, decide_eq_true_eq] at hc; omega
  obtain ⟨N, rfl⟩ : ∃ N : Nat, n = N := ⟨n.toNat, by omega⟩
  clear hc
  obtain ⟨C, hmk, hown⟩ := kBool.make false rfl trivial N (by omega)
  have hmk' : ∀ w : World, (Instr.makeSlice 55 (.int .i64 N) (.int .i64 N)).run Tryz.prog w = .ok (.slice (some ⟨w.heap.size, 0, none⟩) N N) (w.alloc (.cells C 4)) := hmk
  have HO := Lib.hid hown
  clear hmk hown
  go_enter Tryz.func69, Tryz.ntmps69
  go_wp2
  refine bodyPost_ret (v := .tuple #[.agg #[.slice (some ⟨w.heap.size + 1, 0, none⟩) 1 1, .int .i64 g, .slice (some ⟨w.heap.size + 1 + 1, 0, none⟩) N N], .int .i64 0]) (by simp [results, Tryz.results69, go_sem]) rfl ⟨_, 1, _, N, rfl, ?_, ?_, fun a ha => by cases ha; simp only; omega, fun a ha => by cases ha; simp only; omega, ?_⟩
  · exact (Ow.lit (K := kTask) (B := 0) (p := w.heap.size + 1) _ [⟨0, N, -1, 0⟩] #[.int .i64 0, .int .i64 N, .int .i64 (-1), .int .i64 0] rfl rfl (by simp) (Nat.zero_le _) (by simp [maxLen]) (by intro x hx; simp only [List.mem_singleton] at hx; subst hx; exact tk_ok (by unfold in64; omega) (by unfold in64; omega) (by unfold in64; omega) (by unfold in64; omega))).rd.ext ((Ext.refl _).alloc _)
  · exact (HO.out _ 0 (w.heap.size + 1 + 1) (by simp) (Nat.zero_le _)).rd
  · exact (((Ext.refl w).alloc _).alloc _).alloc _

/-- what Begin leaves: in new memory -/
def RBegin5Said (n g m : Nat) (w : World) (ed : Ending) (w' : World) : Prop :=
  ∃ (A B : Option Addr) (e0 a b : Nat), ed = .returned (.tuple #[crewV A B e0 0 a b m g m (beginC n m), .int .i64 0]) ∧ CrewO (fun x => x < w.heap.size) w' m (beginC n m) A B e0 0 a b ∧ Ext w w'
/-- behind the making -/
def BegCut (w2 : World) (n g m : Nat) (A1 B1 : Option Addr) (a1 b1 : Nat) (p : Value) (wx : World) : Prop :=
  ∃ C E, p = .pointer (some ⟨C, 0, none⟩) ∧ Ow kRow w2.heap.size wx (.slice (some ⟨E, 0, none⟩) m m) (List.replicate m hd0) ∧ wx.heap[C]? = some (.cells #[.slice A1 1 a1, .int .i64 g, .slice B1 n b1, .slice (some ⟨E, 0, none⟩) m m, .bool false, .int .i64 0, .int .i64 0] 81) ∧ w2.heap.size ≤ C ∧ Ext w2 wx

set_option maxHeartbeats 1600000 in
set_option maxRecDepth 100000 in
theorem rbegin5_any (n g m : Nat) (w : World) (n1 : 1 ≤ n) (n2 : n ≤ 1000) (g1 : 1 ≤ g) (g2 : g ≤ 100) (m1 : 1 ≤ m) (m2 : m ≤ 8) :
    Calls Tryz.prog 61 #[.int .i64 n, .int .i64 g, .int .i64 m] w (RBegin5Said n g m w) := by
  have HCK : Hid (cOk (n : Int) (g : Int) = true) := Lib.hid (by unfold cOk; simp; omega)
  have HNI : Hid (in64 (n : Int)) := Lib.hid (in64_nat n (by omega))
  have HGI : Hid (in64 (g : Int)) := Lib.hid (in64_nat g (by omega))
  have m3 : (1 : Int) ≤ m := by omega
  have m4 : (m : Int) ≤ 8 := by omega
  have m5 : (0 : Int) < m := by omega
  have m6 : 0 < m := by omega
  obtain ⟨C, hmk, hmown⟩ := kRow.make hd0 rfl trivial m (by omega)
  have HMK := Lib.hid hmown
  have hmk2 : ∀ w : World, (Instr.makeSlice 79 (.int .i64 m) (.int .i64 m)).run Tryz.prog w = .ok (.slice (some ⟨w.heap.size, 0, none⟩) m m) (w.alloc (.cells C 29)) := hmk
  clear hmk hmown
  go_enter Tryz.func61, Tryz.ntmps61
  go_wp2_with fail
  refine (rbegin_new (n : Int) (g : Int) _ HNI.out HGI.out HCK.out).mono ?_
  rintro ed w2 ⟨A1, a1, B1, b1, rfl, hT, hD, hA, hB, hE⟩
  rw [Int.toNat_natCast] at hD ⊢
  have HAB : Hid ((∀ a, A1 = some a → w.heap.size + 1 ≤ a.block ∧ a.block < w2.heap.size) ∧ (∀ a, B1 = some a → w.heap.size + 1 ≤ a.block ∧ a.block < w2.heap.size)) := Lib.hid ⟨fun a ha => ⟨by have := hA a ha; simpa using this, Rd.lt hT (by simp) a ha⟩, fun a ha => ⟨by have := hB a ha; simpa using this, Rd.lt hD (by simp; omega) a ha⟩⟩
  clear hA hB
  have r0 : w2.cell? ⟨w.heap.size, 0, none⟩ = some (.slice none 0 0) := Ext.cell hE (by go_simp)
  have r1 : w2.cell? ⟨w.heap.size, 1, none⟩ = some (.int .i64 0) := Ext.cell hE (by go_simp)
  have r2 : w2.cell? ⟨w.heap.size, 2, none⟩ = some (.slice none 0 0) := Ext.cell hE (by go_simp)
  have r3 : w2.cell? ⟨w.heap.size, 3, none⟩ = some (.slice none 0 0) := Ext.cell hE (by go_simp)
  have r4 : w2.cell? ⟨w.heap.size, 4, none⟩ = some (.bool false) := Ext.cell hE (by go_simp)
  have r5 : w2.cell? ⟨w.heap.size, 5, none⟩ = some (.int .i64 0) := Ext.cell hE (by go_simp)
  have r6 : w2.cell? ⟨w.heap.size, 6, none⟩ = some (.int .i64 0) := Ext.cell hE (by go_simp)
  have rf : ∀ o, w2.frozen? ⟨w.heap.size, o, none⟩ = false := fun o => (Below.frozen hE (p := ⟨w.heap.size, o, none⟩) (by first | omega | (simp; omega) | simp)).trans (by go_simp)
  have HT := Lib.hid hT
  have HD := Lib.hid hD
  have hz := hE.size
  simp at hz
  have HX2 := Lib.hid (((Ext.refl w).alloc _).trans hE)
  have HRR : Hid (∀ W, Ext w2 W → W.cell? ⟨w.heap.size, 0, none⟩ = some (.slice none 0 0) ∧ W.cell? ⟨w.heap.size, 1, none⟩ = some (.int .i64 0) ∧ W.cell? ⟨w.heap.size, 2, none⟩ = some (.slice none 0 0) ∧ W.cell? ⟨w.heap.size, 3, none⟩ = some (.slice none 0 0) ∧ W.cell? ⟨w.heap.size, 4, none⟩ = some (.bool false) ∧ W.cell? ⟨w.heap.size, 5, none⟩ = some (.int .i64 0) ∧ W.cell? ⟨w.heap.size, 6, none⟩ = some (.int .i64 0) ∧ ∀ o, W.frozen? ⟨w.heap.size, o, none⟩ = false) := Lib.hid fun W h => ⟨h.cell r0, h.cell r1, h.cell r2, h.cell r3, h.cell r4, h.cell r5, h.cell r6, fun o => (Below.frozen h (p := ⟨w.heap.size, o, none⟩) (by show w.heap.size < w2.heap.size; omega)).trans (rf o)⟩
  clear hT hD hE r0 r1 r2 r3 r4 r5 r6 rf
  go_upto_region 6 with fail
  go_cut [10] (fun p wx => BegCut w2 n g m A1 B1 a1 b1 p wx)
  case first =>
    go_region
    all_goals go_wp2_with fail
    all_goals go_meet
    · refine ⟨w2.heap.size + 1 + 1, w2.heap.size + 1, rfl, ?_, (by
        have h := fun (a b c : Obj) => block_keep (heap_alloc_new ((w2.alloc a).alloc b) c) (Ext.refl _).drew
        simp only [World.size_alloc] at h
        exact h _ _ _), by omega, ?_⟩
      · refine (HMK.out (w2.alloc (.cells #[.slice A1 1 a1, .int .i64 g, .slice B1 n b1] 78)) w2.heap.size (w2.heap.size + 1) (by simp) (by omega)).ext ?_
        repeat (first | exact Ext.refl _ | refine Ext.alloc ?_ _ | refine Ext.drew ?_ | refine Ext.setCell ?_ (by simp) _)
      · repeat (first | exact Ext.refl _ | refine Ext.alloc ?_ _ | refine Ext.drew ?_ | refine Ext.setCell ?_ (by simp) _)
    · refine ⟨w2.heap.size + 1, w2.heap.size + 1 + 1, rfl, ?_, (by
        have h := fun (a b c : Obj) => block_keep (heap_alloc_new (w2.alloc a) b) ((Ext.refl _).alloc c).drew
        simp only [World.size_alloc] at h
        exact h _ _ _), by omega, ?_⟩
      · refine (HMK.out ((w2.alloc (.cells #[.slice A1 1 a1, .int .i64 g, .slice B1 n b1] 78)).alloc (.cells #[.slice A1 1 a1, .int .i64 g, .slice B1 n b1, .slice (some ⟨w2.heap.size + 1 + 1, 0, none⟩) m m, .bool false, .int .i64 0, .int .i64 0] 81)) w2.heap.size (w2.heap.size + 1 + 1) (by simp) (by omega)).ext ?_
        repeat (first | exact Ext.refl _ | refine Ext.alloc ?_ _ | refine Ext.drew ?_ | refine Ext.setCell ?_ (by simp) _)
      · repeat (first | exact Ext.refl _ | refine Ext.alloc ?_ _ | refine Ext.drew ?_ | refine Ext.setCell ?_ (by simp) _)
  case rest =>
  obtain ⟨C', E, rfl, hm, hC, hlC, hE2⟩ := hcut
  generalize wc = wx at *
  obtain ⟨g', eg, _, _, h3, hdf⟩ := Ow.pos hm (by rw [List.length_replicate]; omega)
  obtain rfl : E = g' := by cases eg; rfl
  have hd : ∀ j, j < m → wx.cell? ⟨E, j, none⟩ = some (.slice none 0 0) := fun j hj => by
    have := h3 j (by rw [List.length_replicate]; exact hj) 0 (.slice none 0 0) (by rw [List.getD_eq_getElem?_getD, List.getElem?_replicate, if_pos hj]; rfl)
    rw [show j = j * kRow.n + 0 from by show j = j * 1 + 0; omega]
    exact this
  have hd0 := hd 0 (by omega)
  have hdf2 : ∀ o, wx.frozen? ⟨E, o, none⟩ = false := hdf
  have l4 := (hm.lt E rfl).2
  have lE := (hm.lt E rfl).1
  have nEC : ¬ E = C' := fun hh => Ow.notBox hm hC (by decide) (by rw [← hh]; rfl)
  have nCE : ¬ C' = E := fun hh => nEC hh.symm
  have nER : ¬ E = w.heap.size := by omega
  have nCR : ¬ C' = w.heap.size := by omega
  have nRE : ¬ w.heap.size = E := by omega
  have nRC : ¬ w.heap.size = C' := by omega
  clear hdf h3 eg
  have x0 : wx.cell? ⟨C', 0, none⟩ = some (.slice A1 1 a1) := (cell_of_row wx C' 0 _ _ _ hC).trans rfl
  have x1 : wx.cell? ⟨C', 1, none⟩ = some (.int .i64 g) := (cell_of_row wx C' 1 _ _ _ hC).trans rfl
  have x2 : wx.cell? ⟨C', 2, none⟩ = some (.slice B1 n b1) := (cell_of_row wx C' 2 _ _ _ hC).trans rfl
  have x3 : wx.cell? ⟨C', 3, none⟩ = some (.slice (some ⟨E, 0, none⟩) m m) := (cell_of_row wx C' 3 _ _ _ hC).trans rfl
  have x4 : wx.cell? ⟨C', 4, none⟩ = some (.bool false) := (cell_of_row wx C' 4 _ _ _ hC).trans rfl
  have x5 : wx.cell? ⟨C', 5, none⟩ = some (.int .i64 0) := (cell_of_row wx C' 5 _ _ _ hC).trans rfl
  have x6 : wx.cell? ⟨C', 6, none⟩ = some (.int .i64 0) := (cell_of_row wx C' 6 _ _ _ hC).trans rfl
  have lC := block_lt hC
  obtain ⟨r0, r1, r2, r3, r4, r5, r6, rf⟩ := HRR.out wx hE2
  have l6 : w.heap.size < wx.heap.size := by omega
  have HDD := Lib.hid hd
  have HX3 := Lib.hid (HX2.out.trans hE2)
  have HT3 := Lib.hid (HT.out.ext hE2)
  have HD3 := Lib.hid (HD.out.ext hE2)
  have HG3 : Hid (∀ u0 u1 u2 u3 u4 u5 u6 : Value, GrewTwo wx E w.heap.size ((((((((wx.setCell ⟨E, 0, none⟩ (.slice (some ⟨wx.heap.size, 0, none⟩) 1 1)).setCell ⟨w.heap.size, 0, none⟩ u0).setCell ⟨w.heap.size, 1, none⟩ u1).setCell ⟨w.heap.size, 2, none⟩ u2).setCell ⟨w.heap.size, 3, none⟩ u3).setCell ⟨w.heap.size, 4, none⟩ u4).setCell ⟨w.heap.size, 5, none⟩ u5).setCell ⟨w.heap.size, 6, none⟩ u6)) := Lib.hid (fun u0 u1 u2 u3 u4 u5 u6 => (((((((Grew.setCell (S := fun x => x = E ∨ x = w.heap.size) (p := ⟨E, 0, none⟩) (Grew.refl _ wx) (.inl rfl) (.slice (some ⟨wx.heap.size, 0, none⟩) 1 1)).setCell (p := ⟨w.heap.size, 0, none⟩) (.inr rfl) _).setCell (p := ⟨w.heap.size, 1, none⟩) (.inr rfl) _).setCell (p := ⟨w.heap.size, 2, none⟩) (.inr rfl) _).setCell (p := ⟨w.heap.size, 3, none⟩) (.inr rfl) _).setCell (p := ⟨w.heap.size, 4, none⟩) (.inr rfl) _).setCell (p := ⟨w.heap.size, 5, none⟩) (.inr rfl) _).setCell (p := ⟨w.heap.size, 6, none⟩) (.inr rfl) _)
  clear hm hC hE2 hd hmk2
  go_wp2_with fail
  refine bodyPost_ret (v := .tuple #[.agg #[.slice A1 1 a1, .int .i64 g, .slice B1 n b1, .slice (some ⟨E, 0, none⟩) m m, .bool false, .int .i64 0, .int .i64 0], .int .i64 0]) (by simp [results, Tryz.results61, go_sem]; go_simp) rfl ?_
  have hG := HG3.out (.slice A1 1 a1) (.int .i64 g) (.slice B1 n b1) (.slice (some ⟨E, 0, none⟩) m m) (.bool false) (.int .i64 0) (.int .i64 0)
  refine ⟨A1, B1, E, a1, b1, by simp [beginC], ?_, ?_⟩
  · have hGa := hG.alloc (.cells #[.int .i64 0] 3)
    refine ⟨?_, ?_, ⟨fun j => if j = 0 then ⟨some ⟨wx.heap.size, 0, none⟩, 1, 1⟩ else (⟨none, 0, 0⟩ : Hd), by simp [beginC]; omega, fun j hj => ?_⟩, fun hf => by omega⟩
    · have h1 := (Rd.off (S := fun x => x = E ∨ x = w.heap.size ∨ x < w.heap.size) HT3.out (fun a ha hs => by have := HAB.out.1 a ha; omega)).grew (hGa.mono (fun x _ hx => by rcases hx with hx | hx; exact .inl hx; exact .inr (.inl hx)))
      exact h1.mono (fun x _ hx => .inr (.inr hx))
    · have h1 := (Rd.off (S := fun x => x = E ∨ x = w.heap.size ∨ x < w.heap.size) HD3.out (fun a ha hs => by have := HAB.out.2 a ha; omega)).grew (hGa.mono (fun x _ hx => by rcases hx with hx | hx; exact .inl hx; exact .inr (.inl hx)))
      have e : (beginC n m).dn.length = n := by simp [beginC]
      rw [e]
      exact h1.mono (fun x _ hx => .inr (.inr hx))
    · by_cases e : j = 0
      · subst e
        dsimp only
        rw [if_pos rfl]
        refine ⟨by simp only [Nat.zero_add]; go_simp, rfl, ?_⟩
        refine Rd.off (Ow.rd (K := kInt) (B := 0) (Ow.lit (K := kInt) (p := wx.heap.size) (n := 1) _ [0] #[.int .i64 0] rfl rfl ?_ (Nat.zero_le _) (by simp [maxLen]) ?_)) (fun a ha hs => by cases ha; have hs' : wx.heap.size < w.heap.size := hs; omega)
        · simp
        · intro x hx; simp only [List.mem_singleton] at hx; subst hx; exact in64_nat 0 (by omega)
      · dsimp only
        rw [if_neg e]
        have e2 : (beginC n m).D.getD j [] = [] := by
          unfold beginC
          obtain ⟨k, rfl⟩ : ∃ k, j = k + 1 := ⟨j - 1, by omega⟩
          simp only [List.getD_cons_succ]
          rw [List.getD_eq_getElem?_getD, List.getElem?_replicate]; split <;> rfl
        rw [e2]
        refine ⟨?_, rfl, RdO.nil _ _ _ _⟩
        rw [Nat.zero_add]
        have h1 := HDD.out j hj
        have h2 : (wx.setCell ⟨E, 0, none⟩ (.slice (some ⟨wx.heap.size, 0, none⟩) 1 1)).cell? ⟨E, j, none⟩ = some (.slice none 0 0) := by
          rw [World.cell?_setCell_other _ _ _ _ (fun e' => e (by cases e'; rfl))]; exact h1
        refine Ext.cell ((Ext.refl _).alloc _) ?_
        refine Grew.cell (S := fun x => x = w.heap.size) (w := wx.setCell ⟨E, 0, none⟩ (.slice (some ⟨wx.heap.size, 0, none⟩) 1 1)) ?_ h2 (by omega)
        exact (((((((Grew.setCell (S := fun x => x = w.heap.size) (p := ⟨w.heap.size, 0, none⟩) (Grew.refl _ _) rfl _).setCell (p := ⟨w.heap.size, 1, none⟩) rfl _).setCell (p := ⟨w.heap.size, 2, none⟩) rfl _).setCell (p := ⟨w.heap.size, 3, none⟩) rfl _).setCell (p := ⟨w.heap.size, 4, none⟩) rfl _).setCell (p := ⟨w.heap.size, 5, none⟩) rfl _).setCell (p := ⟨w.heap.size, 6, none⟩) rfl _)
  · exact (hG.toExt HX3.out (fun b hb => by rcases hb with rfl | rfl <;> omega)).alloc _
end Go.Proofs.YtkpbanfpnilifaaGreat

/- The document's Whole (ref06). -/
namespace Go.Proofs.YtkpbanfpnilifaaGreat
open Go.BigFrame
open Go.RowKit Go.Proofs.YtkpbanfpnilifaaGreat.Plain

def R6Q (w0 : World) (row : Option Nat) (cv ve vo : Value) (B : Nat) (evs : List Ev) (ev : Ev) : Nat → World → List Value → Value → Prop
  | 0, w, ds, v => v = cv
  | 1, w, ds, v => v = vo
  | 2, w, ds, v => v = ve
  | 3, w, ds, v => OneAt kEv w0.heap.size w v ev
  | 4, w, ds, v => AppAt kEv B w v (evs ++ [ev]) vo w0.heap.size
  | _, _, _, _ => True
theorem R6Q_ext (w0 : World) (row : Option Nat) (cv ve vo : Value) (B : Nat) (evs : List Ev) (ev : Ev) : ∀ i w w' ds v, R6Q w0 row cv ve vo B evs ev i w ds v → Ext w w' → R6Q w0 row cv ve vo B evs ev i w' ds v
  | 0, _, _, _, _, h, _ => h
  | 1, _, _, _, _, h, _ => h
  | 2, _, _, _, _, h, _ => h
  | 3, _, _, _, _, h, hE => OneAt.ext h hE
  | 4, _, _, _, _, h, hE => h.ext hE
  | _ + 5, _, _, _, _, _, _ => trivial
theorem R6Q_sw (w0 : World) (row : Option Nat) (cv ve vo : Value) (B : Nat) (evs : List Ev) (ev : Ev) (hrow : ∀ b, row = some b → b < w0.heap.size) : ∀ i w w' ds v, i ≠ 4 → R6Q w0 row cv ve vo B evs ev i w ds v → Wr row w w' → R6Q w0 row cv ve vo B evs ev i w' ds v
  | 0, _, _, _, _, _, h, _ => h
  | 1, _, _, _, _, _, h, _ => h
  | 2, _, _, _, _, _, h, _ => h
  | 3, _, _, _, _, _, h, hE => OneAt.sw h hE hrow
  | 4, _, _, _, _, hq, _, _ => absurd rfl hq
  | _ + 5, _, _, _, _, _, _, _ => trivial
section
variable (w0 : World) (row : Option Nat) (cv ve vo : Value) (B : Nat) (evs : List Ev) (ev : Ev) (w : World) (ds : List Value) (v : Value)
theorem R6Q_i0 (h : v = cv) : R6Q w0 row cv ve vo B evs ev 0 w ds v := h
theorem R6Q_e0 (h : R6Q w0 row cv ve vo B evs ev 0 w ds v) : v = cv := h
theorem R6Q_i1 (h : v = vo) : R6Q w0 row cv ve vo B evs ev 1 w ds v := h
theorem R6Q_e1 (h : R6Q w0 row cv ve vo B evs ev 1 w ds v) : v = vo := h
theorem R6Q_i2 (h : v = ve) : R6Q w0 row cv ve vo B evs ev 2 w ds v := h
theorem R6Q_e2 (h : R6Q w0 row cv ve vo B evs ev 2 w ds v) : v = ve := h
theorem R6Q_i3 (h : OneAt kEv w0.heap.size w v ev) : R6Q w0 row cv ve vo B evs ev 3 w ds v := h
theorem R6Q_e3 (h : R6Q w0 row cv ve vo B evs ev 3 w ds v) : OneAt kEv w0.heap.size w v ev := h
theorem R6Q_i4 (h : AppAt kEv B w v (evs ++ [ev]) vo w0.heap.size) : R6Q w0 row cv ve vo B evs ev 4 w ds v := h
theorem R6Q_e4 (h : R6Q w0 row cv ve vo B evs ev 4 w ds v) : AppAt kEv B w v (evs ++ [ev]) vo w0.heap.size := h
end

theorem Plain.untilP_over (g m : Nat) (c : Cw) (l : List (Int × Int)) (h : c.over = true) : untilP g m c l = (c, []) := by
  cases l with
  | nil => rfl
  | cons x l => unfold untilP; rw [if_pos h]
theorem Plain.untilP_next (g m k : Nat) (c : Cw) (l : List (Int × Int)) (hk : k < l.length) (h : c.over = false) : untilP g m c (l.drop k) = ((untilP g m (stepP g m c (l.getD k (0, 0)).1 (l.getD k (0, 0)).2).1 (l.drop (k + 1))).1, (stepP g m c (l.getD k (0, 0)).1 (l.getD k (0, 0)).2).2 :: (untilP g m (stepP g m c (l.getD k (0, 0)).1 (l.getD k (0, 0)).2).1 (l.drop (k + 1))).2) := by
  rw [List.drop_eq_getElem_cons hk, List.getD_eq_getElem?_getD, List.getElem?_eq_getElem hk]
  conv => lhs; unfold untilP
  rw [if_neg (by rw [h]; decide)]
  rfl
/-- what stands, k picks on -/
structure U6At (w0 : World) (V g n m : Nat) (picks : List (Int × Int)) (k : Nat) (v : Value) (wr : World) (c : Cw) (evs : List Ev) (A B : Option Addr) (e0 a b e : Nat) : Prop where
  me : m ≤ e
  box : wr.heap[V]? = some (.cells #[.slice A c.ts.length a, .int .i64 g, .slice B c.dn.length b, .slice (some ⟨e0, 0, none⟩) m e, .bool c.over, .int .i64 c.st, .int .i64 c.id] 81)
  cr : CrewO (fun x => x = w0.heap.size ∨ x = V ∨ v.ownBlock = some x) wr m c A B e0 0 a b
  own : Ow kEv (V + 1) wr v evs
  been : Been g n m c evs
  eq : untilP g m (beginC n m) picks = ((untilP g m c (picks.drop k)).1, evs ++ (untilP g m c (picks.drop k)).2)
  len : evs.length ≤ k
  res : wr.heap[w0.heap.size]? = some (.cells #[.slice none 0 0, .int .i64 0, .slice none 0 0, .slice none 0 0, .bool false, .int .i64 0, .int .i64 0] 81)
  ext : Ext w0 wr
  vl : w0.heap.size < V
theorem block_of_grown {w w' : World} {row : Option Nat} (hg : w.grownBy w' row) {b : Nat} {o : Obj} (h : w.heap[b]? = some o) (hne : some b ≠ row) : w'.heap[b]? = some o :=
  (hg.block b (block_lt h) hne).trans h
theorem rstep5_to (A B : Option Addr) (eb eo a b e g n m : Nat) (c c' : Cw) (ev : Ev) (ov : Bool) (done : Nat) (G : List Nat) (p q : Int) (w : World) (hov : c.over = ov) (hr : stepP g m c p q = (c', ev)) (h : CrewAt w m c A B eb eo a b) (me : m ≤ e) (hI : CwI g n m c done G)
    (n1 : 1 ≤ n) (n2 : n ≤ 900) (g1 : 1 ≤ g) (g2 : g ≤ 100) (m1 : 1 ≤ m) (m2 : m ≤ 8) (hst : c.st < 100000) (hid : c.id < 100000) (hp : in64 p) (hq : in64 q) :
    Calls Tryz.prog 62 #[.agg #[.slice A c.ts.length a, .int .i64 g, .slice B c.dn.length b, .slice (some ⟨eb, eo, none⟩) m e, .bool ov, .int .i64 c.st, .int .i64 c.id], .int .i64 p, .int .i64 q] w fun ed w' =>
      ∃ (A' B' : Option Addr) (e0 a' b' q' : Nat), m ≤ q' ∧ ed = .returned (.tuple #[crewV A' B' e0 0 a' b' q' g m c', evV ev, .int .i64 0]) ∧ CrewO (fun x => x < w.heap.size) w' m c' A' B' e0 0 a' b' ∧ Ext w w' := by
  subst hov
  have h9 := rstep5_any A B eb eo a b e g n m c done G p q w h me hI n1 n2 g1 g2 m1 m2 hst hid hp hq
  rw [hr] at h9
  exact h9.mono fun _ _ hh => hh
/-- behind a step -/
def StepCut6 (wr : World) (g m : Nat) (c : Cw) (ev : Ev) (x e f : Value) (wx : World) : Prop :=
  ∃ (X Y : Nat) (A B : Option Addr) (e0 a b q : Nat), m ≤ q ∧ x = .pointer (some ⟨X, 0, none⟩) ∧ e = .pointer (some ⟨Y, 0, none⟩) ∧ f = .int .i64 0 ∧ Boxed wx X Y A B e0 a b q g m c ev ∧ CrewO (fun b => b < wr.heap.size) wx m c A B e0 0 a b ∧ wr.heap.size ≤ X ∧ wr.heap.size ≤ Y ∧ Ext wr wx

set_option maxHeartbeats 3200000 in
set_option maxRecDepth 100000 in
theorem rwhole_any (n g m : Nat) (Ap : Option Addr) (cp : Nat) (picks : List (Int × Int)) (w : World) (hp : Rd kPk w (.slice Ap picks.length cp) picks) (n1 : 1 ≤ n) (n2 : n ≤ 900) (g1 : 1 ≤ g) (g2 : g ≤ 100) (m1 : 1 ≤ m) (m2 : m ≤ 8) (hl : picks.length ≤ 4000) :
    Calls Tryz.prog 48 #[.int .i64 n, .int .i64 g, .int .i64 m, .slice Ap picks.length cp] w (R6Said (fun _ => False) g m (wholeP g n m picks) w) := by
  have HP := Lib.hid hp
  clear hp
  have hl' : (picks.length : Int) ≤ 4000 := by omega
  go_enter Tryz.func48, Tryz.ntmps48
  go_wp2_with fail
  refine (rbegin5_any n g m _ n1 (by omega) g1 g2 m1 m2).mono ?_
  obtain ⟨c0, hc0⟩ : ∃ x, beginC n m = x := ⟨_, rfl⟩
  rintro ed w2 ⟨A0, B0, e0, a0, b0, rfl, hC, hE⟩
  rw [hc0] at hC ⊢
  have hres := block_keep (heap_alloc_new w (.cells #[.slice none 0 0, .int .i64 0, .slice none 0 0, .slice none 0 0, .bool false, .int .i64 0, .int .i64 0] 81)) hE
  have HRS := Lib.hid hres
  have hz := hE.size
  simp at hz
  have HX2 := Lib.hid (((Ext.refl w).alloc _).trans hE)
  obtain ⟨V, hV⟩ : ∃ V, w2.heap.size = V := ⟨_, rfl⟩
  have HU0 : Hid (U6At w V g n m picks 0 (.slice none 0 0) (w2.alloc (.cells #[.slice A0 c0.ts.length a0, .int .i64 g, .slice B0 c0.dn.length b0, .slice (some ⟨e0, 0, none⟩) m m, .bool c0.over, .int .i64 c0.st, .int .i64 c0.id] 81)) c0 [] A0 B0 e0 a0 b0 m) := Lib.hid ⟨Nat.le_refl _, by rw [← hV]; exact heap_alloc_new w2 _, hC.later m1 (Grew.of ((Ext.refl _).alloc _)) (fun x hx hT => by
      rcases hT with hT | hT | hT
      · simp; omega
      · omega
      · cases hT), Ow.nil _ _, by rw [← hc0]; exact Been.begin g n m n1 m1, by rw [hc0]; simp, Nat.le_refl _, block_keep hres ((Ext.refl _).alloc _), HX2.out.trans ((Ext.refl _).alloc _), by omega⟩
  go_upto_region 2 with fail
  clear hC hE hres hz hV
  generalize (w2.alloc (.cells #[.slice A0 c0.ts.length a0, .int .i64 g, .slice B0 c0.dn.length b0, .slice (some ⟨e0, 0, none⟩) m m, .bool c0.over, .int .i64 c0.st, .int .i64 c0.id] 81)) = w5 at *
  go_wp2_with fail
  go_loopw [13, 14] (fun v i wr => ∃ k : Nat, k ≤ picks.length ∧ i = .int .i64 k ∧ ∃ (c1 : Cw) (evs : List Ev) (A1 B1 : Option Addr) (e0 a1 b1 e1 : Nat), U6At w V g n m picks k v wr c1 evs A1 B1 e0 a1 b1 e1) (fun _ i _ => picks.length - (intOf i).toNat)
  case atStart => exact ⟨0, Nat.zero_le _, rfl, _, _, _, _, _, _, _, _, HU0.out⟩
  case round =>
    obtain ⟨k, hk, rfl, c1, evs, A1, B1, e1, a1, b1, q1, hD⟩ := hrel
    have HD := Lib.hid hD
    have hk0 : (0 : Int) ≤ k := by omega
    have k0 : wr.cell? ⟨V, 0, none⟩ = some (.slice A1 c1.ts.length a1) := (cell_of_row wr (V) 0 _ _ _ hD.box).trans rfl
    have k1 : wr.cell? ⟨V, 1, none⟩ = some (.int .i64 g) := (cell_of_row wr (V) 1 _ _ _ hD.box).trans rfl
    have k2 : wr.cell? ⟨V, 2, none⟩ = some (.slice B1 c1.dn.length b1) := (cell_of_row wr (V) 2 _ _ _ hD.box).trans rfl
    have k3 : wr.cell? ⟨V, 3, none⟩ = some (.slice (some ⟨e1, 0, none⟩) m q1) := (cell_of_row wr (V) 3 _ _ _ hD.box).trans rfl
    have k4 : wr.cell? ⟨V, 4, none⟩ = some (.bool c1.over) := (cell_of_row wr (V) 4 _ _ _ hD.box).trans rfl
    have k5 : wr.cell? ⟨V, 5, none⟩ = some (.int .i64 c1.st) := (cell_of_row wr (V) 5 _ _ _ hD.box).trans rfl
    have k6 : wr.cell? ⟨V, 6, none⟩ = some (.int .i64 c1.id) := (cell_of_row wr (V) 6 _ _ _ hD.box).trans rfl
    have kf := fun o => frozen_of_row wr (V) o _ _ hD.box
    clear hD
    have hex : ∀ (h : k < picks.length → c1.over = true), untilP g m (beginC n m) picks = (c1, evs) := fun h => by
      have h9 := HD.out.eq
      rcases Nat.lt_or_ge k picks.length with h8 | h8
      · rw [untilP_over _ _ _ _ (h h8), List.append_nil] at h9; exact h9
      · rw [List.drop_eq_nil_of_le h8] at h9
        simpa [untilP] using h9
    by_cases hlt : k < picks.length
    · have hlt' : (k : Int) < picks.length := by omega
      cases hov : c1.over with
      | true =>
        have hU := hex (fun _ => hov)
        have k4o := k4
        rw [hov] at k4
        go_upto_region 12 with fail
        obtain ⟨N, hN⟩ : ∃ N, m * cntT n g = N := ⟨_, rfl⟩
        have hW : wholeP g n m picks = ((drainP g m N 0 c1).1, evs ++ (drainP g m N 0 c1).2) := by unfold wholeP; rw [hU, hN]
        obtain ⟨dn, hI⟩ := HD.out.been.inv
        have hcn := (hI.counts g1 n1).2.2.1
        have hNl : N ≤ 14400 := by
          have h1 : m * cntT n g ≤ 8 * 1800 := Nat.mul_le_mul m2 (by omega)
          omega
        have hov9 : (drainP g m N 0 c1).1.over = true := by have := (whole_ends g1 n1 m1 picks).1; rw [hW] at this; exact this
        have hel := HD.out.len
        have hst := HD.out.been.st
        have hid := HD.out.been.id
        have hee : (drainP g m N 0 c1).2.length ≤ 60000 := by
          have h1 := (whole_ends g1 n1 m1 picks).2.2.1
          rw [hW] at h1
          simp only [List.length_append] at h1
          have h2 : m * (cntT n g + 1) ≤ 8 * 1801 := Nat.mul_le_mul m2 (by omega)
          omega
        obtain ⟨Ao, co, hv, hco⟩ := HD.out.own.slice
        obtain ⟨no, hno⟩ : ∃ no, evs.length = no := ⟨_, rfl⟩
        rw [hno] at hv hco
        subst hv
        have hrlt : ∀ x, Value.ownBlock (.slice Ao no co) = some x → V + 1 ≤ x ∧ x < wr.heap.size := fun x hx => HD.out.own.lt x hx
        have HRL := Lib.hid hrlt
        have HW := Lib.hid hW
        have HO9 := Lib.hid (And.intro hov9 (And.intro hel (And.intro hst (And.intro hid hee))))
        have HII := Lib.hid hI
        have lV := block_lt HD.out.box
        have lR := block_lt HD.out.res
        have vl := HD.out.vl
        have HS : Hid (∀ x, (x = w.heap.size ∨ x = V ∨ Value.ownBlock (.slice Ao no co) = some x) → x < wr.heap.size) := Lib.hid (fun x hx => by
          rcases hx with rfl | rfl | hx
          · exact lR
          · exact lV
          · exact (hrlt x hx).2)
        have HNL := Lib.hid hNl
        clear hN hW hI hcn hNl hov9 hel hst hid hco hno hrlt hee
        clear k4 hov
        have k4 := k4o
        clear k4o
        go_wp2_with fail
        have hh := rdrain_any (fun x => x = w.heap.size ∨ x = V ∨ Value.ownBlock (.slice Ao no co) = some x) A1 B1 e1 0 a1 b1 q1 g n m N c1 wr HS.out HD.out.cr HD.out.me ⟨_, _, HII.out⟩ n1 n2 g1 g2 m1 m2 (by have := HO9.out; have := HNL.out; omega) (by have := HO9.out; have := HNL.out; omega) (by have := HNL.out; omega) HO9.out.1
        refine hh.mono ?_
        clear hh
        have HEE : Hid ((drainP g m N 0 c1).2.length ≤ 60000) := Lib.hid HO9.out.2.2.2.2
        obtain ⟨⟨c5, ds⟩, hr⟩ : ∃ x, drainP g m N 0 c1 = x := ⟨_, rfl⟩
        rw [hr] at HEE ⊢
        have hW2 := HW.out
        rw [hr] at hW2
        have HW2 := Lib.hid hW2
        rintro ed w6 ⟨A5, B5, L5, e5, o5, a5, b5, q5, l5, hq5, rfl, hC5, hO5, hE6⟩
        simp only at hC5 hO5
        have hbV := block_keep HD.out.box hE6
        have hbR := block_keep HD.out.res hE6
        have hz6 := hE6.size
        have z0 : w6.cell? ⟨V, 0, none⟩ = some (.slice A1 c1.ts.length a1) := (cell_of_row w6 (V) 0 _ _ _ hbV).trans rfl
        have z1 : w6.cell? ⟨V, 1, none⟩ = some (.int .i64 g) := (cell_of_row w6 (V) 1 _ _ _ hbV).trans rfl
        have z2 : w6.cell? ⟨V, 2, none⟩ = some (.slice B1 c1.dn.length b1) := (cell_of_row w6 (V) 2 _ _ _ hbV).trans rfl
        have z3 : w6.cell? ⟨V, 3, none⟩ = some (.slice (some ⟨e1, 0, none⟩) m q1) := (cell_of_row w6 (V) 3 _ _ _ hbV).trans rfl
        have z4 : w6.cell? ⟨V, 4, none⟩ = some (.bool c1.over) := (cell_of_row w6 (V) 4 _ _ _ hbV).trans rfl
        have z5 : w6.cell? ⟨V, 5, none⟩ = some (.int .i64 c1.st) := (cell_of_row w6 (V) 5 _ _ _ hbV).trans rfl
        have z6 : w6.cell? ⟨V, 6, none⟩ = some (.int .i64 c1.id) := (cell_of_row w6 (V) 6 _ _ _ hbV).trans rfl
        have zf := fun o => frozen_of_row w6 (V) o _ _ hbV
        have HC5 := Lib.hid (And.intro hq5 hC5)
        have HO5 := Lib.hid hO5
        have HE6 := Lib.hid hE6
        have HBV := Lib.hid (set_box7 hbV (.slice A5 c5.ts.length a5) (.int .i64 g) (.slice B5 c5.dn.length b5) (.slice (some ⟨e5, o5, none⟩) m q5) (.bool c5.over) (.int .i64 c5.st) (.int .i64 c5.id))
        have lV6 : V < w6.heap.size := by omega
        clear hr hW2 hC5 hO5 hE6 hq5 hbV k0 k1 k2 k3 k4 k5 k6 kf
        go_upto_region 13 with fail
        have hGV : Grew (fun x => x = V) w6 ((((((((w6.setCell ⟨V, 0, none⟩ (.slice A5 c5.ts.length a5)).setCell ⟨V, 1, none⟩ (.int .i64 g)).setCell ⟨V, 2, none⟩ (.slice B5 c5.dn.length b5)).setCell ⟨V, 3, none⟩ (.slice (some ⟨e5, o5, none⟩) m q5)).setCell ⟨V, 4, none⟩ (.bool c5.over)).setCell ⟨V, 5, none⟩ (.int .i64 c5.st)).setCell ⟨V, 6, none⟩ (.int .i64 c5.id))) := (Grew.setCell (S := fun x => x = V) (p := ⟨V, 6, none⟩) (Grew.setCell (S := fun x => x = V) (p := ⟨V, 5, none⟩) (Grew.setCell (S := fun x => x = V) (p := ⟨V, 4, none⟩) (Grew.setCell (S := fun x => x = V) (p := ⟨V, 3, none⟩) (Grew.setCell (S := fun x => x = V) (p := ⟨V, 2, none⟩) (Grew.setCell (S := fun x => x = V) (p := ⟨V, 1, none⟩) (Grew.setCell (S := fun x => x = V) (p := ⟨V, 0, none⟩) (Grew.refl _ _) rfl _) rfl _) rfl _) rfl _) rfl _) rfl _) rfl _)
        have HBR : Hid (((((((((w6.setCell ⟨V, 0, none⟩ (.slice A5 c5.ts.length a5)).setCell ⟨V, 1, none⟩ (.int .i64 g)).setCell ⟨V, 2, none⟩ (.slice B5 c5.dn.length b5)).setCell ⟨V, 3, none⟩ (.slice (some ⟨e5, o5, none⟩) m q5)).setCell ⟨V, 4, none⟩ (.bool c5.over)).setCell ⟨V, 5, none⟩ (.int .i64 c5.st)).setCell ⟨V, 6, none⟩ (.int .i64 c5.id))).heap[w.heap.size]? = some (.cells #[.slice none 0 0, .int .i64 0, .slice none 0 0, .slice none 0 0, .bool false, .int .i64 0, .int .i64 0] 81)) := Lib.hid (block_wr hbR hGV (by omega))
        have HC7 : Hid (CrewO (fun x => x = w.heap.size ∨ x = V ∨ Value.ownBlock (.slice Ao no co) = some x) ((((((((w6.setCell ⟨V, 0, none⟩ (.slice A5 c5.ts.length a5)).setCell ⟨V, 1, none⟩ (.int .i64 g)).setCell ⟨V, 2, none⟩ (.slice B5 c5.dn.length b5)).setCell ⟨V, 3, none⟩ (.slice (some ⟨e5, o5, none⟩) m q5)).setCell ⟨V, 4, none⟩ (.bool c5.over)).setCell ⟨V, 5, none⟩ (.int .i64 c5.st)).setCell ⟨V, 6, none⟩ (.int .i64 c5.id))) m c5 A5 B5 e5 o5 a5 b5) := Lib.hid (HC5.out.2.grew (hGV.mono (fun x _ hx => .inr (.inl hx))))
        have HO7 : Hid (Ow kEv (V + 1) ((((((((w6.setCell ⟨V, 0, none⟩ (.slice A5 c5.ts.length a5)).setCell ⟨V, 1, none⟩ (.int .i64 g)).setCell ⟨V, 2, none⟩ (.slice B5 c5.dn.length b5)).setCell ⟨V, 3, none⟩ (.slice (some ⟨e5, o5, none⟩) m q5)).setCell ⟨V, 4, none⟩ (.bool c5.over)).setCell ⟨V, 5, none⟩ (.int .i64 c5.st)).setCell ⟨V, 6, none⟩ (.int .i64 c5.id))) (.slice Ao no co) evs) := Lib.hid ((HD.out.own.ext HE6.out).grew hGV (fun x hx e => by have := (HRL.out x hx).1; omega))
        have HY7 : Hid (Rd kEv ((((((((w6.setCell ⟨V, 0, none⟩ (.slice A5 c5.ts.length a5)).setCell ⟨V, 1, none⟩ (.int .i64 g)).setCell ⟨V, 2, none⟩ (.slice B5 c5.dn.length b5)).setCell ⟨V, 3, none⟩ (.slice (some ⟨e5, o5, none⟩) m q5)).setCell ⟨V, 4, none⟩ (.bool c5.over)).setCell ⟨V, 5, none⟩ (.int .i64 c5.st)).setCell ⟨V, 6, none⟩ (.int .i64 c5.id))) (.slice L5 ds.length l5) ds) := Lib.hid (HO5.out.grew hGV (fun x hx e => by have := (HO5.out.lt x hx).1; omega)).rd
        have HE7 : Hid (Ext w ((((((((w6.setCell ⟨V, 0, none⟩ (.slice A5 c5.ts.length a5)).setCell ⟨V, 1, none⟩ (.int .i64 g)).setCell ⟨V, 2, none⟩ (.slice B5 c5.dn.length b5)).setCell ⟨V, 3, none⟩ (.slice (some ⟨e5, o5, none⟩) m q5)).setCell ⟨V, 4, none⟩ (.bool c5.over)).setCell ⟨V, 5, none⟩ (.int .i64 c5.st)).setCell ⟨V, 6, none⟩ (.int .i64 c5.id)))) := Lib.hid (hGV.toExt (HD.out.ext.trans HE6.out) (fun x hx => by omega))
        have hz7 : w6.heap.size = ((((((((w6.setCell ⟨V, 0, none⟩ (.slice A5 c5.ts.length a5)).setCell ⟨V, 1, none⟩ (.int .i64 g)).setCell ⟨V, 2, none⟩ (.slice B5 c5.dn.length b5)).setCell ⟨V, 3, none⟩ (.slice (some ⟨e5, o5, none⟩) m q5)).setCell ⟨V, 4, none⟩ (.bool c5.over)).setCell ⟨V, 5, none⟩ (.int .i64 c5.st)).setCell ⟨V, 6, none⟩ (.int .i64 c5.id))).heap.size := by simp
        generalize (((((((w6.setCell ⟨V, 0, none⟩ (.slice A5 c5.ts.length a5)).setCell ⟨V, 1, none⟩ (.int .i64 g)).setCell ⟨V, 2, none⟩ (.slice B5 c5.dn.length b5)).setCell ⟨V, 3, none⟩ (.slice (some ⟨e5, o5, none⟩) m q5)).setCell ⟨V, 4, none⟩ (.bool c5.over)).setCell ⟨V, 5, none⟩ (.int .i64 c5.st)).setCell ⟨V, 6, none⟩ (.int .i64 c5.id)) = w7 at *
        clear hbR z0 z1 z2 z3 z4 z5 z6 zf hGV
        have x0 : w7.cell? ⟨V, 0, none⟩ = some (.slice A5 c5.ts.length a5) := (cell_of_row w7 (V) 0 _ _ _ HBV.out).trans rfl
        have x1 : w7.cell? ⟨V, 1, none⟩ = some (.int .i64 g) := (cell_of_row w7 (V) 1 _ _ _ HBV.out).trans rfl
        have x2 : w7.cell? ⟨V, 2, none⟩ = some (.slice B5 c5.dn.length b5) := (cell_of_row w7 (V) 2 _ _ _ HBV.out).trans rfl
        have x3 : w7.cell? ⟨V, 3, none⟩ = some (.slice (some ⟨e5, o5, none⟩) m q5) := (cell_of_row w7 (V) 3 _ _ _ HBV.out).trans rfl
        have x4 : w7.cell? ⟨V, 4, none⟩ = some (.bool c5.over) := (cell_of_row w7 (V) 4 _ _ _ HBV.out).trans rfl
        have x5 : w7.cell? ⟨V, 5, none⟩ = some (.int .i64 c5.st) := (cell_of_row w7 (V) 5 _ _ _ HBV.out).trans rfl
        have x6 : w7.cell? ⟨V, 6, none⟩ = some (.int .i64 c5.id) := (cell_of_row w7 (V) 6 _ _ _ HBV.out).trans rfl
        have xf := fun o => frozen_of_row w7 (V) o _ _ HBV.out
        have y0 : w7.cell? ⟨w.heap.size, 0, none⟩ = some (.slice none 0 0) := (cell_of_row w7 (w.heap.size) 0 _ _ _ HBR.out).trans rfl
        have y1 : w7.cell? ⟨w.heap.size, 1, none⟩ = some (.int .i64 0) := (cell_of_row w7 (w.heap.size) 1 _ _ _ HBR.out).trans rfl
        have y2 : w7.cell? ⟨w.heap.size, 2, none⟩ = some (.slice none 0 0) := (cell_of_row w7 (w.heap.size) 2 _ _ _ HBR.out).trans rfl
        have y3 : w7.cell? ⟨w.heap.size, 3, none⟩ = some (.slice none 0 0) := (cell_of_row w7 (w.heap.size) 3 _ _ _ HBR.out).trans rfl
        have y4 : w7.cell? ⟨w.heap.size, 4, none⟩ = some (.bool false) := (cell_of_row w7 (w.heap.size) 4 _ _ _ HBR.out).trans rfl
        have y5 : w7.cell? ⟨w.heap.size, 5, none⟩ = some (.int .i64 0) := (cell_of_row w7 (w.heap.size) 5 _ _ _ HBR.out).trans rfl
        have y6 : w7.cell? ⟨w.heap.size, 6, none⟩ = some (.int .i64 0) := (cell_of_row w7 (w.heap.size) 6 _ _ _ HBR.out).trans rfl
        have yf := fun o => frozen_of_row w7 (w.heap.size) o _ _ HBR.out
        have lV7 : V < w7.heap.size := by omega
        have lR7 : w.heap.size < w7.heap.size := by omega
        have HLL : Hid (evs.length + ds.length ≤ 1048576) := Lib.hid (by have := HO9.out.2.1; have := HEE.out; omega)
        have nRV : ¬ w.heap.size = V := by omega
        go_region_law (first
          | (refine kEv.step_app (by rfl) (.tmp 74) (.tmp 75) (by rfl) (by rfl) (V + 1) _ evs (by rfl) (HO7.out.ext (Ext.refl _).drew) _ ds (by rfl) (HY7.out.ext (Ext.refl _).drew) HLL.out (by simp; omega) ?_
             intro v8 w8 hown8 hgrow8 hat8
             have HA8 := Lib.hid (And.intro hown8 (And.intro hgrow8 hat8))
             have gV := block_of_grown hgrow8 (block_keep HBV.out (Ext.refl _).drew) (fun e => by have := (HRL.out _ e.symm).1; omega)
             have gR := block_of_grown hgrow8 (block_keep HBR.out (Ext.refl _).drew) (fun e => by have := (HRL.out _ e.symm).1; omega)
             have gz := hgrow8.size
             simp at gz
             have lV8 : V < w8.heap.size := by omega
             have lR8 : w.heap.size < w8.heap.size := by omega
             have p0 : w8.cell? ⟨V, 0, none⟩ = some (.slice A5 c5.ts.length a5) := (cell_of_row w8 (V) 0 _ _ _ gV).trans rfl
             have p1 : w8.cell? ⟨V, 1, none⟩ = some (.int .i64 g) := (cell_of_row w8 (V) 1 _ _ _ gV).trans rfl
             have p2 : w8.cell? ⟨V, 2, none⟩ = some (.slice B5 c5.dn.length b5) := (cell_of_row w8 (V) 2 _ _ _ gV).trans rfl
             have p3 : w8.cell? ⟨V, 3, none⟩ = some (.slice (some ⟨e5, o5, none⟩) m q5) := (cell_of_row w8 (V) 3 _ _ _ gV).trans rfl
             have p4 : w8.cell? ⟨V, 4, none⟩ = some (.bool c5.over) := (cell_of_row w8 (V) 4 _ _ _ gV).trans rfl
             have p5 : w8.cell? ⟨V, 5, none⟩ = some (.int .i64 c5.st) := (cell_of_row w8 (V) 5 _ _ _ gV).trans rfl
             have p6 : w8.cell? ⟨V, 6, none⟩ = some (.int .i64 c5.id) := (cell_of_row w8 (V) 6 _ _ _ gV).trans rfl
             have pf := fun o => frozen_of_row w8 (V) o _ _ gV
             have r0 : w8.cell? ⟨w.heap.size, 0, none⟩ = some (.slice none 0 0) := (cell_of_row w8 (w.heap.size) 0 _ _ _ gR).trans rfl
             have r1 : w8.cell? ⟨w.heap.size, 1, none⟩ = some (.int .i64 0) := (cell_of_row w8 (w.heap.size) 1 _ _ _ gR).trans rfl
             have r2 : w8.cell? ⟨w.heap.size, 2, none⟩ = some (.slice none 0 0) := (cell_of_row w8 (w.heap.size) 2 _ _ _ gR).trans rfl
             have r3 : w8.cell? ⟨w.heap.size, 3, none⟩ = some (.slice none 0 0) := (cell_of_row w8 (w.heap.size) 3 _ _ _ gR).trans rfl
             have r4 : w8.cell? ⟨w.heap.size, 4, none⟩ = some (.bool false) := (cell_of_row w8 (w.heap.size) 4 _ _ _ gR).trans rfl
             have r5 : w8.cell? ⟨w.heap.size, 5, none⟩ = some (.int .i64 0) := (cell_of_row w8 (w.heap.size) 5 _ _ _ gR).trans rfl
             have r6 : w8.cell? ⟨w.heap.size, 6, none⟩ = some (.int .i64 0) := (cell_of_row w8 (w.heap.size) 6 _ _ _ gR).trans rfl
             have rf := fun o => frozen_of_row w8 (w.heap.size) o _ _ gR
             clear hown8 hgrow8 hat8 gV gR gz x0 x1 x2 x3 x4 x5 x6 xf y0 y1 y2 y3 y4 y5 y6 yf))
        all_goals go_wp2_with fail
        all_goals
          obtain ⟨hown8, hgrow8, hat8⟩ := HA8.out
          obtain ⟨Lz, cz, hvz, hcz⟩ := hown8.slice
          subst hvz
          have hGR : Grew (fun x => x = w.heap.size) w8 ((((((((w8.setCell ⟨w.heap.size, 0, none⟩ (.slice A5 c5.ts.length a5)).setCell ⟨w.heap.size, 1, none⟩ (.int .i64 g)).setCell ⟨w.heap.size, 2, none⟩ (.slice B5 c5.dn.length b5)).setCell ⟨w.heap.size, 3, none⟩ (.slice (some ⟨e5, o5, none⟩) m q5)).setCell ⟨w.heap.size, 4, none⟩ (.bool c5.over)).setCell ⟨w.heap.size, 5, none⟩ (.int .i64 c5.st)).setCell ⟨w.heap.size, 6, none⟩ (.int .i64 c5.id))) := (Grew.setCell (S := fun x => x = w.heap.size) (p := ⟨w.heap.size, 6, none⟩) (Grew.setCell (S := fun x => x = w.heap.size) (p := ⟨w.heap.size, 5, none⟩) (Grew.setCell (S := fun x => x = w.heap.size) (p := ⟨w.heap.size, 4, none⟩) (Grew.setCell (S := fun x => x = w.heap.size) (p := ⟨w.heap.size, 3, none⟩) (Grew.setCell (S := fun x => x = w.heap.size) (p := ⟨w.heap.size, 2, none⟩) (Grew.setCell (S := fun x => x = w.heap.size) (p := ⟨w.heap.size, 1, none⟩) (Grew.setCell (S := fun x => x = w.heap.size) (p := ⟨w.heap.size, 0, none⟩) (Grew.refl _ _) rfl _) rfl _) rfl _) rfl _) rfl _) rfl _) rfl _)
          refine bodyPost_ret (v := .tuple #[crewV A5 B5 e5 o5 a5 b5 q5 g m c5, .slice Lz (evs ++ ds).length cz, .int .i64 0]) (by simp [results, Tryz.results48, go_sem]; go_simp) rfl ?_
          rw [HW2.out]
          refine ⟨A5, B5, Lz, e5, o5, a5, b5, q5, cz, HC5.out.1, rfl, ?_, ?_, ?_⟩
          · exact (((HC7.out.ext (Ext.refl _).drew).grew ((Wr.grown hgrow8).mono (fun x _ hx => .inr (.inr hx)))).grew (hGR.mono (fun x _ hx => .inl hx))).at_ m1
          · exact (hown8.grew hGR (fun x hx e => by have := (hown8.lt x hx).1; have := HD.out.vl; omega)).mono (by have := HD.out.vl; omega)
          · exact hGR.toExt (Wr.toExt (Wr.grown hgrow8) (HE7.out.trans (Ext.refl _).drew) (fun x hx => by have := (HRL.out x hx).1; have := HD.out.vl; omega)) (fun x hx => by omega)
      | false =>
        obtain ⟨bp, op, rfl, hcp⟩ := Rd.picks (HP.out.ext HD.out.ext) (by omega)
        obtain ⟨z0, z1⟩ := hcp k hlt
        have hok := HP.out.okAt k hlt
        obtain ⟨⟨p, q⟩, hpq⟩ : ∃ x, picks.getD k (0, 0) = x := ⟨_, rfl⟩
        rw [hpq] at z0 z1
        simp only at z0 z1
        have hpq2 : in64 p ∧ in64 q := by have e0 : picks.getD k kPk.d = (p, q) := hpq; rw [e0] at hok; exact hok
        have HPQ := Lib.hid hpq2
        have lbp : bp < wr.heap.size := World.block_lt_of_cell? _ _ z0
        obtain ⟨dn, hI⟩ := HD.out.been.inv
        have hbn := HD.out.been.step g1 m1 p q
        have hev := hI.evOk g1 n1 n2 m1 m2 p q
        have heq := HD.out.eq
        rw [untilP_next g m k c1 picks hlt hov, hpq] at heq
        obtain ⟨⟨c', ev⟩, hr⟩ : ∃ r, stepP g m c1 p q = r := ⟨_, rfl⟩
        simp only at heq
        rw [hr] at hbn hev heq
        have HBN := Lib.hid hbn
        have HOKE : Hid (kEv.ok ev) := Lib.hid hev
        have HEQ := Lib.hid heq
        have HR := Lib.hid hr
        have HI := Lib.hid hI
        have HOV := Lib.hid hov
        have HCA := Lib.hid (HD.out.cr.at_ m1)
        have HST : Hid (c1.st < 100000 ∧ c1.id < 100000) := Lib.hid (by have := HD.out.been.st; have := HD.out.been.id; have := HD.out.len; omega)
        have lV := block_lt HD.out.box
        have vl := HD.out.vl
        clear hcp hok hpq hpq2 hI hbn hev heq hr hov hex
        rw [HOV.out] at k4
        go_upto_region 8 with fail
        go_cut [15, 16, 17] (fun x e f wx => StepCut6 wr g m c' ev x e f wx)
        case first =>
          have KS : Hid (∀ w', Ext wr w' → w'.cell? ⟨V, 0, none⟩ = some (.slice A1 c1.ts.length a1) ∧ w'.cell? ⟨V, 1, none⟩ = some (.int .i64 g) ∧ w'.cell? ⟨V, 2, none⟩ = some (.slice B1 c1.dn.length b1) ∧ w'.cell? ⟨V, 3, none⟩ = some (.slice (some ⟨e1, 0, none⟩) m q1) ∧ w'.cell? ⟨V, 4, none⟩ = some (.bool false) ∧ w'.cell? ⟨V, 5, none⟩ = some (.int .i64 c1.st) ∧ w'.cell? ⟨V, 6, none⟩ = some (.int .i64 c1.id) ∧ w'.cell? ⟨bp, op + k * 2, none⟩ = some (.int .i64 p) ∧ w'.cell? ⟨bp, op + k * 2 + 1, none⟩ = some (.int .i64 q)) := Lib.hid fun w' hE => ⟨hE.cell k0, hE.cell k1, hE.cell k2, hE.cell k3, hE.cell k4, hE.cell k5, hE.cell k6, hE.cell z0, hE.cell z1⟩
          go_region_held3 (fun w' => w'.cell? ⟨V, 0, none⟩ = some (.slice A1 c1.ts.length a1) ∧ w'.cell? ⟨V, 1, none⟩ = some (.int .i64 g) ∧ w'.cell? ⟨V, 2, none⟩ = some (.slice B1 c1.dn.length b1) ∧ w'.cell? ⟨V, 3, none⟩ = some (.slice (some ⟨e1, 0, none⟩) m q1) ∧ w'.cell? ⟨V, 4, none⟩ = some (.bool false) ∧ w'.cell? ⟨V, 5, none⟩ = some (.int .i64 c1.st) ∧ w'.cell? ⟨V, 6, none⟩ = some (.int .i64 c1.id) ∧ w'.cell? ⟨bp, op + k * 2, none⟩ = some (.int .i64 p) ∧ w'.cell? ⟨bp, op + k * 2 + 1, none⟩ = some (.int .i64 q))
            (first | go_keep | exact KS.out _ (by repeat (first | (with_reducible exact Ext.refl _) | (with_reducible exact hX4) | (with_reducible refine Ext.drew ?_) | (with_reducible refine Ext.alloc ?_ _) | (with_reducible refine Ext.setCell ?_ (by first | (simp; done) | (simp; omega)) _))))
            (first
              | (go_at_call 62
                 refine (rstep5_to A1 B1 e1 0 a1 b1 q1 g n m c1 c' ev false dn _ p q _ HOV.out HR.out (HCA.out.ext (by repeat (first | (with_reducible exact Ext.refl _) | (with_reducible exact hX4) | (with_reducible refine Ext.drew ?_) | (with_reducible refine Ext.alloc ?_ _) | (with_reducible refine Ext.setCell ?_ (by first | (simp; done) | (simp; omega)) _)))) HD.out.me HI.out n1 n2 g1 g2 m1 m2 HST.out.1 HST.out.2 HPQ.out.1 HPQ.out.2).mono ?_
                 rintro ed w4 ⟨A', B', e0', a', b', q', hq', rfl, hC4, hE4⟩
                 obtain ⟨S4, hV4, hS4, hC6⟩ : ∃ S4 : Nat → Prop, (∀ b, b < wr.heap.size → S4 b) ∧ (∀ b, b < _ → S4 b) ∧ CrewO S4 w4 m c' A' B' e0' 0 a' b' := ⟨_, fun b h => by first | exact h | (simp; omega) | omega, fun b h1 => h1, hC4⟩
                 have hX4 : Ext wr w4 := Ext.trans (by repeat (first | (with_reducible exact Ext.refl _) | (with_reducible exact hX4) | (with_reducible refine Ext.drew ?_) | (with_reducible refine Ext.alloc ?_ _) | (with_reducible refine Ext.setCell ?_ (by first | (simp; done) | (simp; omega)) _))) hE4
                 have hz4 := hE4.size
                 simp at hz4
                 have lz4 : wr.heap.size ≤ w4.heap.size := by omega
                 try (have yc00 : w4.cell? ⟨wr.heap.size, 0, none⟩ = some (.slice none 0 0) := hE4.cell (by first | (go_simp; done) | fail)
                      have yc01 : w4.cell? ⟨wr.heap.size, 1, none⟩ = some (.int .i64 0) := hE4.cell (by first | (go_simp; done) | fail)
                      have yc02 : w4.cell? ⟨wr.heap.size, 2, none⟩ = some (.slice none 0 0) := hE4.cell (by first | (go_simp; done) | fail)
                      have yc03 : w4.cell? ⟨wr.heap.size, 3, none⟩ = some (.slice none 0 0) := hE4.cell (by first | (go_simp; done) | fail)
                      have yc04 : w4.cell? ⟨wr.heap.size, 4, none⟩ = some (.bool false) := hE4.cell (by first | (go_simp; done) | fail)
                      have yc05 : w4.cell? ⟨wr.heap.size, 5, none⟩ = some (.int .i64 0) := hE4.cell (by first | (go_simp; done) | fail)
                      have yc06 : w4.cell? ⟨wr.heap.size, 6, none⟩ = some (.int .i64 0) := hE4.cell (by first | (go_simp; done) | fail)
                      have yc0f : ∀ o, w4.frozen? ⟨wr.heap.size, o, none⟩ = false := fun o => (Below.frozen hE4 (p := ⟨wr.heap.size, o, none⟩) (by first | (simp; done) | (simp; omega) | fail)).trans (by first | (go_simp; done) | fail)
                      have yc0l : wr.heap.size < w4.heap.size := by omega)
                 try (have ye03 : w4.cell? ⟨wr.heap.size, 3, none⟩ = some (.bool false) := hE4.cell (by first | (go_simp; done) | fail)
                      have ye00 : w4.cell? ⟨wr.heap.size, 0, none⟩ = some (.int .i64 0) := hE4.cell (by first | (go_simp; done) | fail)
                      have ye01 : w4.cell? ⟨wr.heap.size, 1, none⟩ = some (.int .i64 0) := hE4.cell (by first | (go_simp; done) | fail)
                      have ye02 : w4.cell? ⟨wr.heap.size, 2, none⟩ = some (.int .i64 0) := hE4.cell (by first | (go_simp; done) | fail)
                      have ye0f : ∀ o, w4.frozen? ⟨wr.heap.size, o, none⟩ = false := fun o => (Below.frozen hE4 (p := ⟨wr.heap.size, o, none⟩) (by first | (simp; done) | (simp; omega) | fail)).trans (by first | (go_simp; done) | fail)
                      have ye0l : wr.heap.size < w4.heap.size := by omega)
                 try (have yc10 : w4.cell? ⟨wr.heap.size + 1, 0, none⟩ = some (.slice none 0 0) := hE4.cell (by first | (go_simp; done) | fail)
                      have yc11 : w4.cell? ⟨wr.heap.size + 1, 1, none⟩ = some (.int .i64 0) := hE4.cell (by first | (go_simp; done) | fail)
                      have yc12 : w4.cell? ⟨wr.heap.size + 1, 2, none⟩ = some (.slice none 0 0) := hE4.cell (by first | (go_simp; done) | fail)
                      have yc13 : w4.cell? ⟨wr.heap.size + 1, 3, none⟩ = some (.slice none 0 0) := hE4.cell (by first | (go_simp; done) | fail)
                      have yc14 : w4.cell? ⟨wr.heap.size + 1, 4, none⟩ = some (.bool false) := hE4.cell (by first | (go_simp; done) | fail)
                      have yc15 : w4.cell? ⟨wr.heap.size + 1, 5, none⟩ = some (.int .i64 0) := hE4.cell (by first | (go_simp; done) | fail)
                      have yc16 : w4.cell? ⟨wr.heap.size + 1, 6, none⟩ = some (.int .i64 0) := hE4.cell (by first | (go_simp; done) | fail)
                      have yc1f : ∀ o, w4.frozen? ⟨wr.heap.size + 1, o, none⟩ = false := fun o => (Below.frozen hE4 (p := ⟨wr.heap.size + 1, o, none⟩) (by first | (simp; done) | (simp; omega) | fail)).trans (by first | (go_simp; done) | fail)
                      have yc1l : wr.heap.size + 1 < w4.heap.size := by omega)
                 try (have ye13 : w4.cell? ⟨wr.heap.size + 1, 3, none⟩ = some (.bool false) := hE4.cell (by first | (go_simp; done) | fail)
                      have ye10 : w4.cell? ⟨wr.heap.size + 1, 0, none⟩ = some (.int .i64 0) := hE4.cell (by first | (go_simp; done) | fail)
                      have ye11 : w4.cell? ⟨wr.heap.size + 1, 1, none⟩ = some (.int .i64 0) := hE4.cell (by first | (go_simp; done) | fail)
                      have ye12 : w4.cell? ⟨wr.heap.size + 1, 2, none⟩ = some (.int .i64 0) := hE4.cell (by first | (go_simp; done) | fail)
                      have ye1f : ∀ o, w4.frozen? ⟨wr.heap.size + 1, o, none⟩ = false := fun o => (Below.frozen hE4 (p := ⟨wr.heap.size + 1, o, none⟩) (by first | (simp; done) | (simp; omega) | fail)).trans (by first | (go_simp; done) | fail)
                      have ye1l : wr.heap.size + 1 < w4.heap.size := by omega)
                ))
          all_goals
            go_wp2_with fail
            go_meet
            refine ⟨_, _, A', B', e0', a', b', q', hq', rfl, rfl, rfl, ⟨by go_simp, by go_simp, by go_simp, by go_simp, by go_simp, by go_simp, by go_simp, by go_simp, by go_simp, by go_simp, by go_simp⟩, ?_, (by first | (simp; done) | (simp; omega) | omega), (by first | (simp; done) | (simp; omega) | omega), (by repeat (first | (with_reducible exact Ext.refl _) | (with_reducible exact hX4) | (with_reducible refine Ext.drew ?_) | (with_reducible refine Ext.alloc ?_ _) | (with_reducible refine Ext.setCell ?_ (by first | (simp; done) | (simp; omega)) _)))⟩
            refine CrewO.mono (S := S4) ?_ m1 (fun b hb h => hV4 b h)
            repeat (first | (with_reducible exact hC6) | (with_reducible refine CrewO.setCell ?_ (hS4 _ (by first | (simp; done) | (simp; omega) | omega)) _) | (with_reducible refine CrewO.ext ?_ ((Ext.refl _).alloc _)) | (with_reducible refine CrewO.ext ?_ (Ext.refl _).drew))
        case rest =>
        obtain ⟨X, Y, A5, B5, e5, a5, b5, q5, hq5, rfl, rfl, rfl, hBx, hC5, hXl, hYl, hX⟩ := hcut
        generalize wc = w8 at *
        obtain ⟨x0, x1, x2, x3, x4, x5, x6, y0, y1, y2, y3⟩ := hBx
        have HE8 := Lib.hid hX
        have HC5 := Lib.hid (And.intro hq5 hC5)
        have HB8 := Lib.hid (block_keep HD.out.box hX)
        have hz8 := hX.size
        obtain ⟨Ao, co, hv, hco⟩ := HD.out.own.slice
        obtain ⟨no, hno⟩ : ∃ no, evs.length = no := ⟨_, rfl⟩
        rw [hno] at hv hco
        subst hv
        obtain ⟨row, hrw⟩ : ∃ row, Value.ownBlock (.slice Ao no co) = row := ⟨_, rfl⟩
        have hrlt : ∀ x, row = some x → V + 1 ≤ x ∧ x < wr.heap.size := fun x hx => HD.out.own.lt x (hrw.trans hx)
        have hrow : ∀ x, row = some x → x < w8.heap.size := fun x hx => by have := hrlt x hx; omega
        have nX : ¬ row = some X := fun hh => by have := hrlt _ hh; omega
        have nY : ¬ row = some Y := fun hh => by have := hrlt _ hh; omega
        have HRL := Lib.hid hrlt
        have HO8 : Hid (Ow kEv (V + 1) w8 (.slice Ao no co) evs) := Lib.hid (HD.out.own.ext hX)
        have HLL : Hid (evs.length + [ev].length ≤ 1048576) := Lib.hid (by have := HD.out.len; simp; omega)
        have HBS : Hid (V + 1 ≤ w8.heap.size) := Lib.hid (by omega)
        clear hno hco hrlt hC5 hX hq5
        go_upto_region 11 with fail
        refine MonoW.wp_region_write 5 4 (Wr row) (R6Q w8 row (.agg #[.slice A5 c'.ts.length a5, .int .i64 g, .slice B5 c'.dn.length b5, .slice (some ⟨e5, 0, none⟩) m q5, .bool c'.over, .int .i64 c'.st, .int .i64 c'.id]) (.agg #[.int .i64 ev.wk, .int .i64 ev.fr, .int .i64 ev.tk, .bool ev.pt]) (.slice Ao no co) (V + 1) evs ev) (by kernel_rfl) (by kernel_rfl) (Wr.of row) (Wr.tr row) (R6Q_ext w8 row (.agg #[.slice A5 c'.ts.length a5, .int .i64 g, .slice B5 c'.dn.length b5, .slice (some ⟨e5, 0, none⟩) m q5, .bool c'.over, .int .i64 c'.st, .int .i64 c'.id]) (.agg #[.int .i64 ev.wk, .int .i64 ev.fr, .int .i64 ev.tk, .bool ev.pt]) (.slice Ao no co) (V + 1) evs ev) (R6Q_sw w8 row (.agg #[.slice A5 c'.ts.length a5, .int .i64 g, .slice B5 c'.dn.length b5, .slice (some ⟨e5, 0, none⟩) m q5, .bool c'.over, .int .i64 c'.st, .int .i64 c'.id]) (.agg #[.int .i64 ev.wk, .int .i64 ev.fr, .int .i64 ev.tk, .bool ev.pt]) (.slice Ao no co) (V + 1) evs ev hrow) ?_ ?_
        · intro i o hi ho vals w5 hE hQ hcl
          have hi' : i = 0 ∨ i = 1 ∨ i = 2 ∨ i = 3 ∨ i = 4 := by omega
          rcases hi' with rfl | rfl | rfl | rfl | rfl
          · simp only [List.getElem?_cons_succ, List.getElem?_cons_zero, Option.some.injEq] at ho
            subst ho
            rw [if_pos (Mono.wanted_none rfl)]
            have l0 := hE.cell x0 nX
            have l1 := hE.cell x1 nX
            have l2 := hE.cell x2 nX
            have l3 := hE.cell x3 nX
            have l4 := hE.cell x4 nX
            have l5 := hE.cell x5 nX
            have l6 := hE.cell x6 nX
            clear hcl
            refine Mono.yields_same (.agg #[.slice A5 c'.ts.length a5, .int .i64 g, .slice B5 c'.dn.length b5, .slice (some ⟨e5, 0, none⟩) m q5, .bool c'.over, .int .i64 c'.st, .int .i64 c'.id]) w5 ?_ ⟨MonoW.Out.of (Wr.of row) (Ext.refl _), R6Q_i0 _ _ _ _ _ _ _ _ _ _ _ rfl⟩
            simp only [Mono.all, List.take, Act.put]
            go_simp
          · simp only [List.getElem?_cons_succ, List.getElem?_cons_zero, Option.some.injEq] at ho
            subst ho
            rw [if_pos (Mono.wanted_none rfl)]
            clear hcl
            refine Mono.yields_same (.slice Ao no co) w5 ?_ ⟨MonoW.Out.of (Wr.of row) (Ext.refl _), R6Q_i1 _ _ _ _ _ _ _ _ _ _ _ rfl⟩
            simp only [Mono.all, List.take, Act.put]
            go_simp
          · simp only [List.getElem?_cons_succ, List.getElem?_cons_zero, Option.some.injEq] at ho
            subst ho
            rw [if_pos (Mono.wanted_none rfl)]
            have l0 := hE.cell y0 nY
            have l1 := hE.cell y1 nY
            have l2 := hE.cell y2 nY
            have l3 := hE.cell y3 nY
            clear hcl
            refine Mono.yields_same (.agg #[.int .i64 ev.wk, .int .i64 ev.fr, .int .i64 ev.tk, .bool ev.pt]) w5 ?_ ⟨MonoW.Out.of (Wr.of row) (Ext.refl _), R6Q_i2 _ _ _ _ _ _ _ _ _ _ _ rfl⟩
            simp only [Mono.all, List.take, Act.put]
            go_simp
          · simp only [List.getElem?_cons_succ, List.getElem?_cons_zero, Option.some.injEq] at ho
            subst ho
            rw [if_pos (Mono.wanted_none rfl)]
            have h2 : vals 2 = .agg #[.int .i64 ev.wk, .int .i64 ev.fr, .int .i64 ev.tk, .bool ev.pt] := (R6Q_e2 _ _ _ _ _ _ _ _ _ _ _ (hcl 2 (by kernel_rfl)))
            clear hcl
            refine Mono.yields_same (.slice (some ⟨w5.heap.size, 0, none⟩) 1 1) (w5.alloc (.cells #[.int .i64 ev.wk, .int .i64 ev.fr, .int .i64 ev.tk, .bool ev.pt] kEv.e)) ?_ ⟨MonoW.Out.of (Wr.of row) ((Ext.refl _).alloc _), R6Q_i3 _ _ _ _ _ _ _ _ _ _ _ (OneAt.made kEv w5 hE.size _ _ rfl HOKE.out)⟩
            simp only [Mono.all, List.take, Act.put, kEv]
            go_simp
          · simp only [List.getElem?_cons_succ, List.getElem?_cons_zero, Option.some.injEq] at ho
            subst ho
            rw [if_pos (Mono.wanted_none rfl)]
            obtain ⟨p, h3, o3⟩ := (R6Q_e3 _ _ _ _ _ _ _ _ _ _ _ (hcl 3 (by kernel_rfl)))
            have h1 : vals 1 = .slice Ao no co := (R6Q_e1 _ _ _ _ _ _ _ _ _ _ _ (hcl 1 (by kernel_rfl)))
            have hX := hQ rfl
            clear hcl
            refine Kd.yields_grow kEv (B := V + 1) (n := w8.heap.size) (q := 4) (.tmp 63) (.tmp 65) (v := .slice Ao no co) (y := .slice (some ⟨p, 0, none⟩) 1 1) (xs := evs) (ys := [ev]) (HO8.out.ext hX) o3.rd HLL.out (Nat.le_trans HBS.out hX.size) hX.size rfl rfl (by rw [← h1]; kernel_rfl) (by rw [← h3]; kernel_rfl) ?_
            intro v' w' hA hO
            exact ⟨by rw [← hrw]; exact hO, R6Q_i4 _ _ _ _ _ _ _ _ _ _ _ hA⟩
        · intro vals w5 hE hv
          have hA := (R6Q_e4 _ _ _ _ _ _ _ _ _ _ _ (hv 4 (by omega)))
          have ee0 := (R6Q_e0 _ _ _ _ _ _ _ _ _ _ _ (hv 0 (by omega)))
          have ee3 := (R6Q_e3 _ _ _ _ _ _ _ _ _ _ _ (hv 3 (by omega)))
          have HA := Lib.hid hA
          have HG := Lib.hid hE
          have hbP : w5.heap[V]? = some (.cells #[.slice A1 c1.ts.length a1, .int .i64 g, .slice B1 c1.dn.length b1, .slice (some ⟨e1, 0, none⟩) m q1, .bool c1.over, .int .i64 c1.st, .int .i64 c1.id] 81) := block_wr HB8.out hE (fun hh => by have := (HRL.out _ hh).1; omega)
          have z0 : w5.cell? ⟨V, 0, none⟩ = some (.slice A1 c1.ts.length a1) := (cell_of_row w5 (V) 0 _ _ _ hbP).trans rfl
          have z1 : w5.cell? ⟨V, 1, none⟩ = some (.int .i64 g) := (cell_of_row w5 (V) 1 _ _ _ hbP).trans rfl
          have z2 : w5.cell? ⟨V, 2, none⟩ = some (.slice B1 c1.dn.length b1) := (cell_of_row w5 (V) 2 _ _ _ hbP).trans rfl
          have z3 : w5.cell? ⟨V, 3, none⟩ = some (.slice (some ⟨e1, 0, none⟩) m q1) := (cell_of_row w5 (V) 3 _ _ _ hbP).trans rfl
          have z4 : w5.cell? ⟨V, 4, none⟩ = some (.bool c1.over) := (cell_of_row w5 (V) 4 _ _ _ hbP).trans rfl
          have z5 : w5.cell? ⟨V, 5, none⟩ = some (.int .i64 c1.st) := (cell_of_row w5 (V) 5 _ _ _ hbP).trans rfl
          have z6 : w5.cell? ⟨V, 6, none⟩ = some (.int .i64 c1.id) := (cell_of_row w5 (V) 6 _ _ _ hbP).trans rfl
          have zf := fun o => frozen_of_row w5 (V) o _ _ hbP
          have lP := block_lt hbP
          have HBP := Lib.hid hbP
          clear hA hbP hE ee3
          simp only [Mono.all, List.take, List.drop, Act.put]
          go_wp2_with fail
          go_roundw
          case rel =>
            have hGP : Grew (fun x => x = V) w5 ((((((((w5.setCell ⟨V, 0, none⟩ (.slice A5 c'.ts.length a5)).setCell ⟨V, 1, none⟩ (.int .i64 g)).setCell ⟨V, 2, none⟩ (.slice B5 c'.dn.length b5)).setCell ⟨V, 3, none⟩ (.slice (some ⟨e5, 0, none⟩) m q5)).setCell ⟨V, 4, none⟩ (.bool c'.over)).setCell ⟨V, 5, none⟩ (.int .i64 c'.st)).setCell ⟨V, 6, none⟩ (.int .i64 c'.id))) := (Grew.setCell (S := fun x => x = V) (p := ⟨V, 6, none⟩) (Grew.setCell (S := fun x => x = V) (p := ⟨V, 5, none⟩) (Grew.setCell (S := fun x => x = V) (p := ⟨V, 4, none⟩) (Grew.setCell (S := fun x => x = V) (p := ⟨V, 3, none⟩) (Grew.setCell (S := fun x => x = V) (p := ⟨V, 2, none⟩) (Grew.setCell (S := fun x => x = V) (p := ⟨V, 1, none⟩) (Grew.setCell (S := fun x => x = V) (p := ⟨V, 0, none⟩) (Grew.refl _ _) rfl _) rfl _) rfl _) rfl _) rfl _) rfl _) rfl _)
            have hGr : Grew (fun x => x = V ∨ row = some x) w8 ((((((((w5.setCell ⟨V, 0, none⟩ (.slice A5 c'.ts.length a5)).setCell ⟨V, 1, none⟩ (.int .i64 g)).setCell ⟨V, 2, none⟩ (.slice B5 c'.dn.length b5)).setCell ⟨V, 3, none⟩ (.slice (some ⟨e5, 0, none⟩) m q5)).setCell ⟨V, 4, none⟩ (.bool c'.over)).setCell ⟨V, 5, none⟩ (.int .i64 c'.st)).setCell ⟨V, 6, none⟩ (.int .i64 c'.id))) := (Grew.mono HG.out (fun x _ hx => .inr hx)).trans (hGP.mono (fun x _ hx => .inl hx))
            refine ⟨k + 1, by omega, by go_num, c', evs ++ [ev], A5, B5, e5, a5, b5, q5, HC5.out.1, set_box7 HBP.out _ _ _ _ _ _ _, ?_, HA.out.1.grew hGP (fun x hx e => by have := (HA.out.1.lt x hx).1; omega), HBN.out, ?_, by have := HD.out.len; rw [List.length_append]; simp; omega, ?_, ?_, HD.out.vl⟩
            · refine HC5.out.2.later m1 (W := (((((((w5.setCell ⟨V, 0, none⟩ (.slice A5 c'.ts.length a5)).setCell ⟨V, 1, none⟩ (.int .i64 g)).setCell ⟨V, 2, none⟩ (.slice B5 c'.dn.length b5)).setCell ⟨V, 3, none⟩ (.slice (some ⟨e5, 0, none⟩) m q5)).setCell ⟨V, 4, none⟩ (.bool c'.over)).setCell ⟨V, 5, none⟩ (.int .i64 c'.st)).setCell ⟨V, 6, none⟩ (.int .i64 c'.id))) (hGr.mono (fun x hx hh => ?_)) (fun x hx hT => ?_)
              · rcases hh with hh | hh
                · omega
                · exact (HRL.out x hh).2
              · rcases hT with hT | hT | hT
                · omega
                · omega
                · rcases HA.out.2 with h9 | ⟨p', h9, h10⟩
                  · rw [h9, hrw] at hT
                    exact (HRL.out x hT).2
                  · rw [h9] at hT; cases hT; omega
            · rw [HEQ.out, List.append_assoc]; rfl
            · exact block_wr (block_keep HD.out.res HE8.out) hGr (fun hh => by
                rcases hh with hh | hh
                · omega
                · have := (HRL.out _ hh).1; omega)
            · exact hGr.toExt (HD.out.ext.trans HE8.out) (fun x hx => by
                rcases hx with hx | hx
                · omega
                · have := (HRL.out _ hx).1; omega)
          case measure => simp [intOf]; omega
    · have hlt' : ¬ (k : Int) < picks.length := by omega
      have hld : decide ((k : Int) < picks.length) = false := decide_eq_false hlt'
      have hU := hex (fun h => absurd h hlt)
      go_upto_region 12 with fail
      obtain ⟨N, hN⟩ : ∃ N, m * cntT n g = N := ⟨_, rfl⟩
      have hW : wholeP g n m picks = ((drainP g m N 0 c1).1, evs ++ (drainP g m N 0 c1).2) := by unfold wholeP; rw [hU, hN]
      obtain ⟨dn, hI⟩ := HD.out.been.inv
      have hcn := (hI.counts g1 n1).2.2.1
      have hNl : N ≤ 14400 := by
        have h1 : m * cntT n g ≤ 8 * 1800 := Nat.mul_le_mul m2 (by omega)
        omega
      have hov9 : (drainP g m N 0 c1).1.over = true := by have := (whole_ends g1 n1 m1 picks).1; rw [hW] at this; exact this
      have hel := HD.out.len
      have hst := HD.out.been.st
      have hid := HD.out.been.id
      have hee : (drainP g m N 0 c1).2.length ≤ 60000 := by
        have h1 := (whole_ends g1 n1 m1 picks).2.2.1
        rw [hW] at h1
        simp only [List.length_append] at h1
        have h2 : m * (cntT n g + 1) ≤ 8 * 1801 := Nat.mul_le_mul m2 (by omega)
        omega
      obtain ⟨Ao, co, hv, hco⟩ := HD.out.own.slice
      obtain ⟨no, hno⟩ : ∃ no, evs.length = no := ⟨_, rfl⟩
      rw [hno] at hv hco
      subst hv
      have hrlt : ∀ x, Value.ownBlock (.slice Ao no co) = some x → V + 1 ≤ x ∧ x < wr.heap.size := fun x hx => HD.out.own.lt x hx
      have HRL := Lib.hid hrlt
      have HW := Lib.hid hW
      have HO9 := Lib.hid (And.intro hov9 (And.intro hel (And.intro hst (And.intro hid hee))))
      have HII := Lib.hid hI
      have lV := block_lt HD.out.box
      have lR := block_lt HD.out.res
      have vl := HD.out.vl
      have HS : Hid (∀ x, (x = w.heap.size ∨ x = V ∨ Value.ownBlock (.slice Ao no co) = some x) → x < wr.heap.size) := Lib.hid (fun x hx => by
        rcases hx with rfl | rfl | hx
        · exact lR
        · exact lV
        · exact (hrlt x hx).2)
      have HNL := Lib.hid hNl
      clear hN hW hI hcn hNl hov9 hel hst hid hco hno hrlt hee
      go_wp2_with fail
      have hh := rdrain_any (fun x => x = w.heap.size ∨ x = V ∨ Value.ownBlock (.slice Ao no co) = some x) A1 B1 e1 0 a1 b1 q1 g n m N c1 wr HS.out HD.out.cr HD.out.me ⟨_, _, HII.out⟩ n1 n2 g1 g2 m1 m2 (by have := HO9.out; have := HNL.out; omega) (by have := HO9.out; have := HNL.out; omega) (by have := HNL.out; omega) HO9.out.1
      refine hh.mono ?_
      clear hh
      have HEE : Hid ((drainP g m N 0 c1).2.length ≤ 60000) := Lib.hid HO9.out.2.2.2.2
      obtain ⟨⟨c5, ds⟩, hr⟩ : ∃ x, drainP g m N 0 c1 = x := ⟨_, rfl⟩
      rw [hr] at HEE ⊢
      have hW2 := HW.out
      rw [hr] at hW2
      have HW2 := Lib.hid hW2
      rintro ed w6 ⟨A5, B5, L5, e5, o5, a5, b5, q5, l5, hq5, rfl, hC5, hO5, hE6⟩
      simp only at hC5 hO5
      have hbV := block_keep HD.out.box hE6
      have hbR := block_keep HD.out.res hE6
      have hz6 := hE6.size
      have z0 : w6.cell? ⟨V, 0, none⟩ = some (.slice A1 c1.ts.length a1) := (cell_of_row w6 (V) 0 _ _ _ hbV).trans rfl
      have z1 : w6.cell? ⟨V, 1, none⟩ = some (.int .i64 g) := (cell_of_row w6 (V) 1 _ _ _ hbV).trans rfl
      have z2 : w6.cell? ⟨V, 2, none⟩ = some (.slice B1 c1.dn.length b1) := (cell_of_row w6 (V) 2 _ _ _ hbV).trans rfl
      have z3 : w6.cell? ⟨V, 3, none⟩ = some (.slice (some ⟨e1, 0, none⟩) m q1) := (cell_of_row w6 (V) 3 _ _ _ hbV).trans rfl
      have z4 : w6.cell? ⟨V, 4, none⟩ = some (.bool c1.over) := (cell_of_row w6 (V) 4 _ _ _ hbV).trans rfl
      have z5 : w6.cell? ⟨V, 5, none⟩ = some (.int .i64 c1.st) := (cell_of_row w6 (V) 5 _ _ _ hbV).trans rfl
      have z6 : w6.cell? ⟨V, 6, none⟩ = some (.int .i64 c1.id) := (cell_of_row w6 (V) 6 _ _ _ hbV).trans rfl
      have zf := fun o => frozen_of_row w6 (V) o _ _ hbV
      have HC5 := Lib.hid (And.intro hq5 hC5)
      have HO5 := Lib.hid hO5
      have HE6 := Lib.hid hE6
      have HBV := Lib.hid (set_box7 hbV (.slice A5 c5.ts.length a5) (.int .i64 g) (.slice B5 c5.dn.length b5) (.slice (some ⟨e5, o5, none⟩) m q5) (.bool c5.over) (.int .i64 c5.st) (.int .i64 c5.id))
      have lV6 : V < w6.heap.size := by omega
      clear hr hW2 hC5 hO5 hE6 hq5 hbV k0 k1 k2 k3 k4 k5 k6 kf
      go_upto_region 13 with fail
      have hGV : Grew (fun x => x = V) w6 ((((((((w6.setCell ⟨V, 0, none⟩ (.slice A5 c5.ts.length a5)).setCell ⟨V, 1, none⟩ (.int .i64 g)).setCell ⟨V, 2, none⟩ (.slice B5 c5.dn.length b5)).setCell ⟨V, 3, none⟩ (.slice (some ⟨e5, o5, none⟩) m q5)).setCell ⟨V, 4, none⟩ (.bool c5.over)).setCell ⟨V, 5, none⟩ (.int .i64 c5.st)).setCell ⟨V, 6, none⟩ (.int .i64 c5.id))) := (Grew.setCell (S := fun x => x = V) (p := ⟨V, 6, none⟩) (Grew.setCell (S := fun x => x = V) (p := ⟨V, 5, none⟩) (Grew.setCell (S := fun x => x = V) (p := ⟨V, 4, none⟩) (Grew.setCell (S := fun x => x = V) (p := ⟨V, 3, none⟩) (Grew.setCell (S := fun x => x = V) (p := ⟨V, 2, none⟩) (Grew.setCell (S := fun x => x = V) (p := ⟨V, 1, none⟩) (Grew.setCell (S := fun x => x = V) (p := ⟨V, 0, none⟩) (Grew.refl _ _) rfl _) rfl _) rfl _) rfl _) rfl _) rfl _) rfl _)
      have HBR : Hid (((((((((w6.setCell ⟨V, 0, none⟩ (.slice A5 c5.ts.length a5)).setCell ⟨V, 1, none⟩ (.int .i64 g)).setCell ⟨V, 2, none⟩ (.slice B5 c5.dn.length b5)).setCell ⟨V, 3, none⟩ (.slice (some ⟨e5, o5, none⟩) m q5)).setCell ⟨V, 4, none⟩ (.bool c5.over)).setCell ⟨V, 5, none⟩ (.int .i64 c5.st)).setCell ⟨V, 6, none⟩ (.int .i64 c5.id))).heap[w.heap.size]? = some (.cells #[.slice none 0 0, .int .i64 0, .slice none 0 0, .slice none 0 0, .bool false, .int .i64 0, .int .i64 0] 81)) := Lib.hid (block_wr hbR hGV (by omega))
      have HC7 : Hid (CrewO (fun x => x = w.heap.size ∨ x = V ∨ Value.ownBlock (.slice Ao no co) = some x) ((((((((w6.setCell ⟨V, 0, none⟩ (.slice A5 c5.ts.length a5)).setCell ⟨V, 1, none⟩ (.int .i64 g)).setCell ⟨V, 2, none⟩ (.slice B5 c5.dn.length b5)).setCell ⟨V, 3, none⟩ (.slice (some ⟨e5, o5, none⟩) m q5)).setCell ⟨V, 4, none⟩ (.bool c5.over)).setCell ⟨V, 5, none⟩ (.int .i64 c5.st)).setCell ⟨V, 6, none⟩ (.int .i64 c5.id))) m c5 A5 B5 e5 o5 a5 b5) := Lib.hid (HC5.out.2.grew (hGV.mono (fun x _ hx => .inr (.inl hx))))
      have HO7 : Hid (Ow kEv (V + 1) ((((((((w6.setCell ⟨V, 0, none⟩ (.slice A5 c5.ts.length a5)).setCell ⟨V, 1, none⟩ (.int .i64 g)).setCell ⟨V, 2, none⟩ (.slice B5 c5.dn.length b5)).setCell ⟨V, 3, none⟩ (.slice (some ⟨e5, o5, none⟩) m q5)).setCell ⟨V, 4, none⟩ (.bool c5.over)).setCell ⟨V, 5, none⟩ (.int .i64 c5.st)).setCell ⟨V, 6, none⟩ (.int .i64 c5.id))) (.slice Ao no co) evs) := Lib.hid ((HD.out.own.ext HE6.out).grew hGV (fun x hx e => by have := (HRL.out x hx).1; omega))
      have HY7 : Hid (Rd kEv ((((((((w6.setCell ⟨V, 0, none⟩ (.slice A5 c5.ts.length a5)).setCell ⟨V, 1, none⟩ (.int .i64 g)).setCell ⟨V, 2, none⟩ (.slice B5 c5.dn.length b5)).setCell ⟨V, 3, none⟩ (.slice (some ⟨e5, o5, none⟩) m q5)).setCell ⟨V, 4, none⟩ (.bool c5.over)).setCell ⟨V, 5, none⟩ (.int .i64 c5.st)).setCell ⟨V, 6, none⟩ (.int .i64 c5.id))) (.slice L5 ds.length l5) ds) := Lib.hid (HO5.out.grew hGV (fun x hx e => by have := (HO5.out.lt x hx).1; omega)).rd
      have HE7 : Hid (Ext w ((((((((w6.setCell ⟨V, 0, none⟩ (.slice A5 c5.ts.length a5)).setCell ⟨V, 1, none⟩ (.int .i64 g)).setCell ⟨V, 2, none⟩ (.slice B5 c5.dn.length b5)).setCell ⟨V, 3, none⟩ (.slice (some ⟨e5, o5, none⟩) m q5)).setCell ⟨V, 4, none⟩ (.bool c5.over)).setCell ⟨V, 5, none⟩ (.int .i64 c5.st)).setCell ⟨V, 6, none⟩ (.int .i64 c5.id)))) := Lib.hid (hGV.toExt (HD.out.ext.trans HE6.out) (fun x hx => by omega))
      have hz7 : w6.heap.size = ((((((((w6.setCell ⟨V, 0, none⟩ (.slice A5 c5.ts.length a5)).setCell ⟨V, 1, none⟩ (.int .i64 g)).setCell ⟨V, 2, none⟩ (.slice B5 c5.dn.length b5)).setCell ⟨V, 3, none⟩ (.slice (some ⟨e5, o5, none⟩) m q5)).setCell ⟨V, 4, none⟩ (.bool c5.over)).setCell ⟨V, 5, none⟩ (.int .i64 c5.st)).setCell ⟨V, 6, none⟩ (.int .i64 c5.id))).heap.size := by simp
      generalize (((((((w6.setCell ⟨V, 0, none⟩ (.slice A5 c5.ts.length a5)).setCell ⟨V, 1, none⟩ (.int .i64 g)).setCell ⟨V, 2, none⟩ (.slice B5 c5.dn.length b5)).setCell ⟨V, 3, none⟩ (.slice (some ⟨e5, o5, none⟩) m q5)).setCell ⟨V, 4, none⟩ (.bool c5.over)).setCell ⟨V, 5, none⟩ (.int .i64 c5.st)).setCell ⟨V, 6, none⟩ (.int .i64 c5.id)) = w7 at *
      clear hbR z0 z1 z2 z3 z4 z5 z6 zf hGV
      have x0 : w7.cell? ⟨V, 0, none⟩ = some (.slice A5 c5.ts.length a5) := (cell_of_row w7 (V) 0 _ _ _ HBV.out).trans rfl
      have x1 : w7.cell? ⟨V, 1, none⟩ = some (.int .i64 g) := (cell_of_row w7 (V) 1 _ _ _ HBV.out).trans rfl
      have x2 : w7.cell? ⟨V, 2, none⟩ = some (.slice B5 c5.dn.length b5) := (cell_of_row w7 (V) 2 _ _ _ HBV.out).trans rfl
      have x3 : w7.cell? ⟨V, 3, none⟩ = some (.slice (some ⟨e5, o5, none⟩) m q5) := (cell_of_row w7 (V) 3 _ _ _ HBV.out).trans rfl
      have x4 : w7.cell? ⟨V, 4, none⟩ = some (.bool c5.over) := (cell_of_row w7 (V) 4 _ _ _ HBV.out).trans rfl
      have x5 : w7.cell? ⟨V, 5, none⟩ = some (.int .i64 c5.st) := (cell_of_row w7 (V) 5 _ _ _ HBV.out).trans rfl
      have x6 : w7.cell? ⟨V, 6, none⟩ = some (.int .i64 c5.id) := (cell_of_row w7 (V) 6 _ _ _ HBV.out).trans rfl
      have xf := fun o => frozen_of_row w7 (V) o _ _ HBV.out
      have y0 : w7.cell? ⟨w.heap.size, 0, none⟩ = some (.slice none 0 0) := (cell_of_row w7 (w.heap.size) 0 _ _ _ HBR.out).trans rfl
      have y1 : w7.cell? ⟨w.heap.size, 1, none⟩ = some (.int .i64 0) := (cell_of_row w7 (w.heap.size) 1 _ _ _ HBR.out).trans rfl
      have y2 : w7.cell? ⟨w.heap.size, 2, none⟩ = some (.slice none 0 0) := (cell_of_row w7 (w.heap.size) 2 _ _ _ HBR.out).trans rfl
      have y3 : w7.cell? ⟨w.heap.size, 3, none⟩ = some (.slice none 0 0) := (cell_of_row w7 (w.heap.size) 3 _ _ _ HBR.out).trans rfl
      have y4 : w7.cell? ⟨w.heap.size, 4, none⟩ = some (.bool false) := (cell_of_row w7 (w.heap.size) 4 _ _ _ HBR.out).trans rfl
      have y5 : w7.cell? ⟨w.heap.size, 5, none⟩ = some (.int .i64 0) := (cell_of_row w7 (w.heap.size) 5 _ _ _ HBR.out).trans rfl
      have y6 : w7.cell? ⟨w.heap.size, 6, none⟩ = some (.int .i64 0) := (cell_of_row w7 (w.heap.size) 6 _ _ _ HBR.out).trans rfl
      have yf := fun o => frozen_of_row w7 (w.heap.size) o _ _ HBR.out
      have lV7 : V < w7.heap.size := by omega
      have lR7 : w.heap.size < w7.heap.size := by omega
      have HLL : Hid (evs.length + ds.length ≤ 1048576) := Lib.hid (by have := HO9.out.2.1; have := HEE.out; omega)
      have nRV : ¬ w.heap.size = V := by omega
      go_region_law (first
        | (refine kEv.step_app (by rfl) (.tmp 74) (.tmp 75) (by rfl) (by rfl) (V + 1) _ evs (by rfl) (HO7.out.ext (Ext.refl _).drew) _ ds (by rfl) (HY7.out.ext (Ext.refl _).drew) HLL.out (by simp; omega) ?_
           intro v8 w8 hown8 hgrow8 hat8
           have HA8 := Lib.hid (And.intro hown8 (And.intro hgrow8 hat8))
           have gV := block_of_grown hgrow8 (block_keep HBV.out (Ext.refl _).drew) (fun e => by have := (HRL.out _ e.symm).1; omega)
           have gR := block_of_grown hgrow8 (block_keep HBR.out (Ext.refl _).drew) (fun e => by have := (HRL.out _ e.symm).1; omega)
           have gz := hgrow8.size
           simp at gz
           have lV8 : V < w8.heap.size := by omega
           have lR8 : w.heap.size < w8.heap.size := by omega
           have p0 : w8.cell? ⟨V, 0, none⟩ = some (.slice A5 c5.ts.length a5) := (cell_of_row w8 (V) 0 _ _ _ gV).trans rfl
           have p1 : w8.cell? ⟨V, 1, none⟩ = some (.int .i64 g) := (cell_of_row w8 (V) 1 _ _ _ gV).trans rfl
           have p2 : w8.cell? ⟨V, 2, none⟩ = some (.slice B5 c5.dn.length b5) := (cell_of_row w8 (V) 2 _ _ _ gV).trans rfl
           have p3 : w8.cell? ⟨V, 3, none⟩ = some (.slice (some ⟨e5, o5, none⟩) m q5) := (cell_of_row w8 (V) 3 _ _ _ gV).trans rfl
           have p4 : w8.cell? ⟨V, 4, none⟩ = some (.bool c5.over) := (cell_of_row w8 (V) 4 _ _ _ gV).trans rfl
           have p5 : w8.cell? ⟨V, 5, none⟩ = some (.int .i64 c5.st) := (cell_of_row w8 (V) 5 _ _ _ gV).trans rfl
           have p6 : w8.cell? ⟨V, 6, none⟩ = some (.int .i64 c5.id) := (cell_of_row w8 (V) 6 _ _ _ gV).trans rfl
           have pf := fun o => frozen_of_row w8 (V) o _ _ gV
           have r0 : w8.cell? ⟨w.heap.size, 0, none⟩ = some (.slice none 0 0) := (cell_of_row w8 (w.heap.size) 0 _ _ _ gR).trans rfl
           have r1 : w8.cell? ⟨w.heap.size, 1, none⟩ = some (.int .i64 0) := (cell_of_row w8 (w.heap.size) 1 _ _ _ gR).trans rfl
           have r2 : w8.cell? ⟨w.heap.size, 2, none⟩ = some (.slice none 0 0) := (cell_of_row w8 (w.heap.size) 2 _ _ _ gR).trans rfl
           have r3 : w8.cell? ⟨w.heap.size, 3, none⟩ = some (.slice none 0 0) := (cell_of_row w8 (w.heap.size) 3 _ _ _ gR).trans rfl
           have r4 : w8.cell? ⟨w.heap.size, 4, none⟩ = some (.bool false) := (cell_of_row w8 (w.heap.size) 4 _ _ _ gR).trans rfl
           have r5 : w8.cell? ⟨w.heap.size, 5, none⟩ = some (.int .i64 0) := (cell_of_row w8 (w.heap.size) 5 _ _ _ gR).trans rfl
           have r6 : w8.cell? ⟨w.heap.size, 6, none⟩ = some (.int .i64 0) := (cell_of_row w8 (w.heap.size) 6 _ _ _ gR).trans rfl
           have rf := fun o => frozen_of_row w8 (w.heap.size) o _ _ gR
           clear hown8 hgrow8 hat8 gV gR gz x0 x1 x2 x3 x4 x5 x6 xf y0 y1 y2 y3 y4 y5 y6 yf))
      all_goals go_wp2_with fail
      all_goals
        obtain ⟨hown8, hgrow8, hat8⟩ := HA8.out
        obtain ⟨Lz, cz, hvz, hcz⟩ := hown8.slice
        subst hvz
        have hGR : Grew (fun x => x = w.heap.size) w8 ((((((((w8.setCell ⟨w.heap.size, 0, none⟩ (.slice A5 c5.ts.length a5)).setCell ⟨w.heap.size, 1, none⟩ (.int .i64 g)).setCell ⟨w.heap.size, 2, none⟩ (.slice B5 c5.dn.length b5)).setCell ⟨w.heap.size, 3, none⟩ (.slice (some ⟨e5, o5, none⟩) m q5)).setCell ⟨w.heap.size, 4, none⟩ (.bool c5.over)).setCell ⟨w.heap.size, 5, none⟩ (.int .i64 c5.st)).setCell ⟨w.heap.size, 6, none⟩ (.int .i64 c5.id))) := (Grew.setCell (S := fun x => x = w.heap.size) (p := ⟨w.heap.size, 6, none⟩) (Grew.setCell (S := fun x => x = w.heap.size) (p := ⟨w.heap.size, 5, none⟩) (Grew.setCell (S := fun x => x = w.heap.size) (p := ⟨w.heap.size, 4, none⟩) (Grew.setCell (S := fun x => x = w.heap.size) (p := ⟨w.heap.size, 3, none⟩) (Grew.setCell (S := fun x => x = w.heap.size) (p := ⟨w.heap.size, 2, none⟩) (Grew.setCell (S := fun x => x = w.heap.size) (p := ⟨w.heap.size, 1, none⟩) (Grew.setCell (S := fun x => x = w.heap.size) (p := ⟨w.heap.size, 0, none⟩) (Grew.refl _ _) rfl _) rfl _) rfl _) rfl _) rfl _) rfl _) rfl _)
        refine bodyPost_ret (v := .tuple #[crewV A5 B5 e5 o5 a5 b5 q5 g m c5, .slice Lz (evs ++ ds).length cz, .int .i64 0]) (by simp [results, Tryz.results48, go_sem]; go_simp) rfl ?_
        rw [HW2.out]
        refine ⟨A5, B5, Lz, e5, o5, a5, b5, q5, cz, HC5.out.1, rfl, ?_, ?_, ?_⟩
        · exact (((HC7.out.ext (Ext.refl _).drew).grew ((Wr.grown hgrow8).mono (fun x _ hx => .inr (.inr hx)))).grew (hGR.mono (fun x _ hx => .inl hx))).at_ m1
        · exact (hown8.grew hGR (fun x hx e => by have := (hown8.lt x hx).1; have := HD.out.vl; omega)).mono (by have := HD.out.vl; omega)
        · exact hGR.toExt (Wr.toExt (Wr.grown hgrow8) (HE7.out.trans (Ext.refl _).drew) (fun x hx => by have := (HRL.out x hx).1; have := HD.out.vl; omega)) (fun x hx => by omega)
end Go.Proofs.YtkpbanfpnilifaaGreat

/- The document's Leaves (ref06). -/
namespace Go.Proofs.YtkpbanfpnilifaaGreat
open Go.BigFrame
open Go.RowKit Go.Proofs.YtkpbanfpnilifaaGreat.Plain

/-- units from .. up to .. -/
def kSpan : Kd (Int × Int) where
  t := 85
  e := 88
  n := 2
  cells := fun x => [.int .i64 x.1, .int .i64 x.2]
  ok := fun x => in64 x.1 ∧ in64 x.2
  d := (0, 0)
  z := .agg #[.int .i64 0, .int .i64 0]
  bytes := 16
  ht := Tryz.underlying85
  info := by kernel_rfl
  hzs := rfl
  pos := by decide
  small := by decide
  len := fun _ => rfl
  one := fun a u hu => by simp at hu; rcases hu with rfl | rfl <;> rfl
/-- leaves, as they came -/
def Plain.leavesL (ts : List Tk) (evs : List Ev) : List (Int × Int) := evs.flatMap fun e => if e.tk < 0 ∨ e.pt = true then [] else [((T ts e.tk.toNat).lo, (T ts e.tk.toNat).hi)]
theorem Plain.leavesL_app (ts : List Tk) (a b : List Ev) : leavesL ts (a ++ b) = leavesL ts a ++ leavesL ts b := by unfold leavesL; rw [List.flatMap_append]
theorem Plain.order_leaves (ts : List Tk) : ∀ evs : List Ev, orderL ts evs = (leavesL ts evs).flatMap fun s => List.range' s.1.toNat (s.2.toNat - s.1.toNat)
  | [] => rfl
  | e :: r => by
    have h := order_leaves ts r
    unfold orderL leavesL at h ⊢
    rw [List.flatMap_cons, List.flatMap_cons, List.flatMap_append, h]
    congr 1
    split
    · rfl
    · simp [unitsOf]
theorem Plain.leavesL_take (ts : List Tk) (evs : List Ev) (k : Nat) (hk : k < evs.length) : leavesL ts (evs.take (k + 1)) = leavesL ts (evs.take k) ++ (if (evs.getD k ev0).tk < 0 ∨ (evs.getD k ev0).pt = true then [] else [((T ts (evs.getD k ev0).tk.toNat).lo, (T ts (evs.getD k ev0).tk.toNat).hi)]) := by
  rw [List.take_succ_eq_append_getElem hk, leavesL_app, List.getD_eq_getElem?_getD, List.getElem?_eq_getElem hk]
  simp [leavesL]
theorem Plain.leavesL_len (ts : List Tk) (evs : List Ev) : (leavesL ts evs).length ≤ evs.length := by
  induction evs with
  | nil => simp [leavesL]
  | cons e r ih =>
    have h : leavesL ts (e :: r) = leavesL ts [e] ++ leavesL ts r := leavesL_app ts [e] r
    have h2 : (leavesL ts [e]).length ≤ 1 := by unfold leavesL; simp only [List.flatMap_cons, List.flatMap_nil, List.append_nil]; split <;> simp
    rw [h, List.length_append, List.length_cons]; omega
theorem Rd.evs {w : World} {A : Option Addr} {n c : Nat} {xs : List Ev} (h : Rd kEv w (.slice A n c) xs) (hl : 0 < xs.length) : ∃ b off, A = some ⟨b, off, none⟩ ∧ ∀ j, j < xs.length → w.cell? ⟨b, off + j * 4, none⟩ = some (.int .i64 (xs.getD j ev0).wk) ∧ w.cell? ⟨b, off + j * 4 + 1, none⟩ = some (.int .i64 (xs.getD j ev0).fr) ∧ w.cell? ⟨b, off + j * 4 + 2, none⟩ = some (.int .i64 (xs.getD j ev0).tk) ∧ w.cell? ⟨b, off + j * 4 + 3, none⟩ = some (.bool (xs.getD j ev0).pt) := by
  obtain ⟨b, off, rfl, hcc⟩ := h.cells hl
  exact ⟨b, off, rfl, fun j hj => ⟨by have := hcc j hj 0 _ rfl; simpa [kEv] using this, by have := hcc j hj 1 _ rfl; simpa [kEv] using this, by have := hcc j hj 2 _ rfl; simpa [kEv] using this, by have := hcc j hj 3 _ rfl; simpa [kEv] using this⟩⟩

set_option maxHeartbeats 1600000 in
set_option maxRecDepth 100000 in
theorem rleaves_any (A B L : Option Addr) (e0 eo a b e g m l : Nat) (c : Cw) (evs : List Ev) (w : World) (hC : CrewAt w m c A B e0 eo a b) (hE : Rd kEv w (.slice L evs.length l) evs) (hl : evs.length ≤ 100000) (hin : evsIn c.ts.length evs) :
    Calls Tryz.prog 49 #[crewV A B e0 eo a b e g m c, .slice L evs.length l] w fun ed w' => ∃ v, ed = .returned v ∧ Ow kSpan w.heap.size w' v (leavesL c.ts evs) ∧ Ext w w' := by
  have HT := Lib.hid hC.tsk.rd
  have HE := Lib.hid hE
  have HIN := Lib.hid hin
  have hl' : (evs.length : Int) ≤ 100000 := by omega
  clear hC hE hin
  go_enter Tryz.func49, Tryz.ntmps49
  go_wp2_with fail
  have hbx := heap_alloc_new w (.cells #[.slice A c.ts.length a, .int .i64 g, .slice B c.dn.length b, .slice (some ⟨e0, eo, none⟩) m e, .bool c.over, .int .i64 c.st, .int .i64 c.id] 81)
  have HBX := Lib.hid hbx
  have HX1 : Hid (Ext w (w.alloc (.cells #[.slice A c.ts.length a, .int .i64 g, .slice B c.dn.length b, .slice (some ⟨e0, eo, none⟩) m e, .bool c.over, .int .i64 c.st, .int .i64 c.id] 81))) := Lib.hid ((Ext.refl w).alloc _)
  have HW1 : Hid ((w.alloc (.cells #[.slice A c.ts.length a, .int .i64 g, .slice B c.dn.length b, .slice (some ⟨e0, eo, none⟩) m e, .bool c.over, .int .i64 c.st, .int .i64 c.id] 81)).heap.size = w.heap.size + 1) := Lib.hid (by simp)
  generalize w.alloc (.cells #[.slice A c.ts.length a, .int .i64 g, .slice B c.dn.length b, .slice (some ⟨e0, eo, none⟩) m e, .bool c.over, .int .i64 c.st, .int .i64 c.id] 81) = w1 at *
  clear hbx
  go_loopw [5, 6] (fun v i wr => ∃ k : Nat, k ≤ evs.length ∧ i = .int .i64 k ∧ Ow kSpan (w.heap.size + 1) wr v (leavesL c.ts (evs.take k)) ∧ Ext w1 wr) (fun _ i _ => evs.length - (intOf i).toNat)
  case atStart => exact ⟨0, Nat.zero_le _, rfl, Ow.nil _ _, Ext.refl _⟩
  case round =>
    obtain ⟨k, hk, rfl, hO, hX⟩ := hrel
    have HO := Lib.hid hO
    have HX := Lib.hid hX
    have hk0 : (0 : Int) ≤ k := by omega
    clear hO hX
    by_cases hlt : k < evs.length
    · have hlt' : (k : Int) < evs.length := by omega
      obtain ⟨bv, ov, rfl, hcv⟩ := Rd.evs (HE.out.ext (HX1.out.trans HX.out)) (by omega)
      obtain ⟨z0, z1, z2, z3⟩ := hcv k hlt
      have htk := leavesL_take c.ts evs k hlt
      have hint : (evs.getD k ev0).tk < c.ts.length := HIN.out _ (by rw [List.getD_eq_getElem?_getD, List.getElem?_eq_getElem hlt]; exact List.getElem_mem hlt)
      have hok := HE.out.okAt k hlt
      obtain ⟨ev, hev⟩ : ∃ ev, evs.getD k ev0 = ev := ⟨_, rfl⟩
      have hok' : kEv.ok ev := by rw [← hev]; exact hok
      rw [hev] at z0 z1 z2 z3 htk hint
      have HTK := Lib.hid htk
      have lbv : bv < wr.heap.size := World.block_lt_of_cell? _ _ z2
      have hb := block_keep HBX.out HX.out
      have q0 : wr.cell? ⟨w.heap.size, 0, none⟩ = some (.slice A c.ts.length a) := (cell_of_row wr w.heap.size 0 _ _ _ hb).trans rfl
      have hok2 := hok'.2.2
      have hok2' := Lib.hid hok2
      unfold in64 at hok2
      clear htk hok hok' hev hcv hb z0 z1
      by_cases hneg : ev.tk < 0
      · have hd : decide (0 ≤ ev.tk) = false := decide_eq_false (by omega)
        rw [if_pos (.inl hneg), List.append_nil] at HTK
        go_upto_region 5 with fail
        go_quiet (fail)
        go_wp2_with fail
        go_roundw
        case rel => exact ⟨k + 1, by omega, by go_num, by rw [HTK.out]; exact HO.out.ext ((Ext.refl _).drewN _), HX.out.drewN _⟩
        case measure => simp [intOf]; omega
      · have hge : (0 : Int) ≤ ev.tk := by omega
        obtain ⟨K, hK⟩ : ∃ K : Nat, ev.tk = K := ⟨ev.tk.toNat, by omega⟩
        have hKl : K < c.ts.length := by omega
        have hKl' : (K : Int) < c.ts.length := by omega
        have hK0 : (0 : Int) ≤ K := by omega
        rw [hK] at z2
        obtain ⟨bt, ot, rfl, hct⟩ := Rd.tasks (HT.out.ext (HX1.out.trans HX.out)) (by omega)
        obtain ⟨t0, t1, t2, t3⟩ := hct K hKl
        have hkt := HT.out.okAt K hKl
        obtain ⟨tk, htk⟩ : ∃ tk, c.ts.getD K ⟨0, 0, 0, 0⟩ = tk := ⟨_, rfl⟩
        rw [htk] at t0 t1 t2 t3
        have hkt' : kTask.ok tk := by rw [← htk]; exact hkt
        have HKT := Lib.hid hkt'
        have lbt : bt < wr.heap.size := World.block_lt_of_cell? _ _ t0
        have HTT : Hid (T c.ts ev.tk.toNat = tk) := Lib.hid (by rw [hK, Int.toNat_natCast, ← htk]; rfl)
        clear hct hkt hkt' htk
        cases hpt : ev.pt with
        | true =>
          rw [hpt] at z3
          rw [if_pos (.inr hpt), List.append_nil] at HTK
          go_upto_region 5 with fail
          go_quiet (fail)
          go_wp2_with fail
          go_roundw
          case rel => exact ⟨k + 1, by omega, by go_num, by rw [HTK.out]; exact HO.out.ext ((Ext.refl _).drewN _), HX.out.drewN _⟩
          case measure => simp [intOf]; omega
        | false =>
          rw [hpt] at z3
          rw [if_neg (by rw [hpt]; simp; omega)] at HTK
          go_upto_region 5 with fail
          go_quiet (fail)
          generalize hwq : wr.drewN nq = wq at *
          have hEq : Ext wr wq := by rw [← hwq]; exact (Ext.refl _).drewN _
          have HEQ := Lib.hid hEq
          replace q0 := hEq.cell q0
          replace z2 := hEq.cell z2
          replace t0 := hEq.cell t0
          replace t1 := hEq.cell t1
          replace t2 := hEq.cell t2
          replace t3 := hEq.cell t3
          have lq := hEq.size
          have lbv' : bv < wq.heap.size := by omega
          have lbt' : bt < wq.heap.size := by omega
          have lP' : w.heap.size < wq.heap.size := by have := World.block_lt_of_cell? _ _ q0; omega
          clear hwq hEq
          go_upto_region 6 with fail
          go_cut [7] (fun p wx => ∃ X, p = .pointer (some ⟨X, 0, none⟩) ∧ wx.cell? ⟨X, 0, none⟩ = some (.int .i64 tk.lo) ∧ wx.cell? ⟨X, 1, none⟩ = some (.int .i64 tk.hi) ∧ wq.heap.size ≤ X ∧ Ext wq wx)
          case first =>
            go_region
            all_goals go_wp2_with fail
            all_goals go_meet
            all_goals exact ⟨wq.heap.size, rfl, by go_simp, by go_simp, Nat.le_refl _, by repeat (first | exact Ext.refl _ | refine Ext.drew ?_ | refine Ext.drewN ?_ _ | refine Ext.alloc ?_ _ | refine Ext.setCell ?_ (by simp) _)⟩
          case rest =>
          obtain ⟨X, rfl, x0, x1, hXl, hEx⟩ := hcut
          generalize wc = w6 at *
          have HE6 := Lib.hid (HEQ.out.trans hEx)
          have hz6 := hEx.size
          have hrow := HO.out.len
          have HY : Hid (Rd kSpan (w6.alloc (.cells #[.int .i64 tk.lo, .int .i64 tk.hi] 88)) (.slice (some ⟨w6.heap.size, 0, none⟩) 1 1) [(tk.lo, tk.hi)]) := Lib.hid (Ow.rd (K := kSpan) (B := 0) (Ow.lit (K := kSpan) (p := w6.heap.size) (n := 1) w6 [(tk.lo, tk.hi)] #[.int .i64 tk.lo, .int .i64 tk.hi] rfl rfl rfl (Nat.zero_le _) (by simp [maxLen]) (by intro x hx; simp only [List.mem_singleton] at hx; subst hx; exact ⟨HKT.out.1, HKT.out.2.1⟩)))
          have HLL : Hid ((leavesL c.ts (evs.take k)).length + [(tk.lo, tk.hi)].length ≤ 1048576) := Lib.hid (by have := leavesL_len c.ts (evs.take k); rw [List.length_take] at this; simp; omega)
          have hzz := HX1.out.size
          have hzx := HX.out.size
          have hw1 := block_lt HBX.out
          clear hEx hrow q0 z2 t0 t1 t2 t3
          go_wp2_with (at_builtin; refine kSpan.wpList_app (by rfl) (.tmp 50) (.tmp 56) (by rfl) (by rfl) (w.heap.size + 1) _ (leavesL c.ts (evs.take k)) (by rfl) (HO.out.ext (HE6.out.alloc _)) _ [(tk.lo, tk.hi)] (by rfl) HY.out HLL.out (by simp; omega) ?_; intro v' w8 hown8 hgrow8 hat8)
          have H8 := Lib.hid (And.intro hown8 (And.intro hgrow8 hat8))
          clear hown8 hgrow8 hat8
          go_roundw
          case rel =>
            obtain ⟨hown8, hgrow8, hat8⟩ := H8.out
            refine ⟨k + 1, by omega, by go_num, by rw [HTK.out, HTT.out]; exact hown8, ?_⟩
            exact Ext.grown ((HX.out.trans HE6.out).alloc _) hgrow8 (fun x hx => by have := (HO.out.lt x hx).1; have := HW1.out; omega)
          case measure => simp [intOf]; omega
    · obtain rfl : k = evs.length := by omega
      rw [List.take_length] at HO
      go_wp2_with fail
      exact bodyPost_ret (by simp [results, Tryz.results49, go_sem]) rfl ⟨_, rfl, HO.out.mono (by omega), HX1.out.trans HX.out⟩
end Go.Proofs.YtkpbanfpnilifaaGreat
