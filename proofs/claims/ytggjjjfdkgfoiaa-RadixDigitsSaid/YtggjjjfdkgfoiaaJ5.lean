/- Joined by wip/merge.py: R6B, R6C, R7A, R7B, R7C, R7D, TCount, F7B, R10O, S8P, P9P, R10P, S8R, S8S, R10R, R10S, R10T, R10Q, S8T, S8C. -/
import Derived.Test.YtggjjjfdkgfoiaaJ4
import Derived.Deep.RegionHeld3
import Derived.Deep.RegionLaw
import Derived.BigRegion
import Derived.BigQuiet
import Derived.Deep.DeepCutAuto
import Derived.Laws.BitsAllLaws
import Derived.IntWalk
import Derived.Deep.RegionLawGrows
import Derived.Deep.QuietTactic
import Derived.StillTailTactics
import Derived.Deep.CutBlock
set_option linter.unusedVariables false
set_option linter.unusedSimpArgs false
set_option linter.unnecessarySimpa false
/- The document's Whole (ref06). -/
namespace Go.Proofs.Ytggjjjfdkgfoiaa
open Go.BigFrame
open Go.RowKit Go.Proofs.Ytggjjjfdkgfoiaa.Plain

def R6Q (w0 : World) (row : Option Nat) (cv ve vo : Value) (B : Nat) (evs : List Ev) (ev : Ev) : Nat → World → List Value → Value → Prop
  | 0, w, ds, v => v = cv
  | 1, w, ds, v => v = vo
  | 2, w, ds, v => v = ve
  | 3, w, ds, v => OneAt kEv w0.heap.size w v ev
  | 4, w, ds, v => AppAt kEv B w v (evs ++ [ev]) vo w0.heap.size
  | _, _, _, _ => True
theorem R6Q_ext (w0 : World) (row : Option Nat) (cv ve vo : Value) (B : Nat) (evs : List Ev) (ev : Ev) : ∀ i w w' ds v, R6Q w0 row cv ve vo B evs ev i w ds v → Ext w w' → R6Q w0 row cv ve vo B evs ev i w' ds v
  | 0, _, _, _, _, h, _ => h
  | 1, _, _, _, _, h, _ => h
  | 2, _, _, _, _, h, _ => h
  | 3, _, _, _, _, h, hE => OneAt.ext h hE
  | 4, _, _, _, _, h, hE => h.ext hE
  | _ + 5, _, _, _, _, _, _ => trivial
theorem R6Q_sw (w0 : World) (row : Option Nat) (cv ve vo : Value) (B : Nat) (evs : List Ev) (ev : Ev) (hrow : ∀ b, row = some b → b < w0.heap.size) : ∀ i w w' ds v, i ≠ 4 → R6Q w0 row cv ve vo B evs ev i w ds v → Wr row w w' → R6Q w0 row cv ve vo B evs ev i w' ds v
  | 0, _, _, _, _, _, h, _ => h
  | 1, _, _, _, _, _, h, _ => h
  | 2, _, _, _, _, _, h, _ => h
  | 3, _, _, _, _, _, h, hE => OneAt.sw h hE hrow
  | 4, _, _, _, _, hq, _, _ => absurd rfl hq
  | _ + 5, _, _, _, _, _, _, _ => trivial
section
variable (w0 : World) (row : Option Nat) (cv ve vo : Value) (B : Nat) (evs : List Ev) (ev : Ev) (w : World) (ds : List Value) (v : Value)
theorem R6Q_i0 (h : v = cv) : R6Q w0 row cv ve vo B evs ev 0 w ds v := h
theorem R6Q_e0 (h : R6Q w0 row cv ve vo B evs ev 0 w ds v) : v = cv := h
theorem R6Q_i1 (h : v = vo) : R6Q w0 row cv ve vo B evs ev 1 w ds v := h
theorem R6Q_e1 (h : R6Q w0 row cv ve vo B evs ev 1 w ds v) : v = vo := h
theorem R6Q_i2 (h : v = ve) : R6Q w0 row cv ve vo B evs ev 2 w ds v := h
theorem R6Q_e2 (h : R6Q w0 row cv ve vo B evs ev 2 w ds v) : v = ve := h
theorem R6Q_i3 (h : OneAt kEv w0.heap.size w v ev) : R6Q w0 row cv ve vo B evs ev 3 w ds v := h
theorem R6Q_e3 (h : R6Q w0 row cv ve vo B evs ev 3 w ds v) : OneAt kEv w0.heap.size w v ev := h
theorem R6Q_i4 (h : AppAt kEv B w v (evs ++ [ev]) vo w0.heap.size) : R6Q w0 row cv ve vo B evs ev 4 w ds v := h
theorem R6Q_e4 (h : R6Q w0 row cv ve vo B evs ev 4 w ds v) : AppAt kEv B w v (evs ++ [ev]) vo w0.heap.size := h
end

theorem Plain.untilP_over (g m : Nat) (c : Cw) (l : List (Int × Int)) (h : c.over = true) : untilP g m c l = (c, []) := by
  cases l with
  | nil => rfl
  | cons x l => unfold untilP; rw [if_pos h]
theorem Plain.untilP_next (g m k : Nat) (c : Cw) (l : List (Int × Int)) (hk : k < l.length) (h : c.over = false) : untilP g m c (l.drop k) = ((untilP g m (stepP g m c (l.getD k (0, 0)).1 (l.getD k (0, 0)).2).1 (l.drop (k + 1))).1, (stepP g m c (l.getD k (0, 0)).1 (l.getD k (0, 0)).2).2 :: (untilP g m (stepP g m c (l.getD k (0, 0)).1 (l.getD k (0, 0)).2).1 (l.drop (k + 1))).2) := by
  rw [List.drop_eq_getElem_cons hk, List.getD_eq_getElem?_getD, List.getElem?_eq_getElem hk]
  conv => lhs; unfold untilP
  rw [if_neg (by rw [h]; decide)]
  rfl
/-- what stands, k picks on -/
structure U6At (w0 : World) (V g n m : Nat) (picks : List (Int × Int)) (k : Nat) (v : Value) (wr : World) (c : Cw) (evs : List Ev) (A B : Option Addr) (e0 a b e : Nat) : Prop where
  me : m ≤ e
  box : wr.heap[V]? = some (.cells #[.slice A c.ts.length a, .int .i64 g, .slice B c.dn.length b, .slice (some ⟨e0, 0, none⟩) m e, .bool c.over, .int .i64 c.st, .int .i64 c.id] 77)
  cr : CrewO (fun x => x = w0.heap.size ∨ x = V ∨ v.ownBlock = some x) wr m c A B e0 0 a b
  own : Ow kEv (V + 1) wr v evs
  been : Been g n m c evs
  eq : untilP g m (beginC n m) picks = ((untilP g m c (picks.drop k)).1, evs ++ (untilP g m c (picks.drop k)).2)
  len : evs.length ≤ k
  res : wr.heap[w0.heap.size]? = some (.cells #[.slice none 0 0, .int .i64 0, .slice none 0 0, .slice none 0 0, .bool false, .int .i64 0, .int .i64 0] 77)
  ext : Ext w0 wr
  vl : w0.heap.size < V
theorem block_of_grown {w w' : World} {row : Option Nat} (hg : w.grownBy w' row) {b : Nat} {o : Obj} (h : w.heap[b]? = some o) (hne : some b ≠ row) : w'.heap[b]? = some o :=
  (hg.block b (block_lt h) hne).trans h
theorem rstep5_to (A B : Option Addr) (eb eo a b e g n m : Nat) (c c' : Cw) (ev : Ev) (ov : Bool) (done : Nat) (G : List Nat) (p q : Int) (w : World) (hov : c.over = ov) (hr : stepP g m c p q = (c', ev)) (h : CrewAt w m c A B eb eo a b) (me : m ≤ e) (hI : CwI g n m c done G)
    (n1 : 1 ≤ n) (n2 : n ≤ 900) (g1 : 1 ≤ g) (g2 : g ≤ 100) (m1 : 1 ≤ m) (m2 : m ≤ 8) (hst : c.st < 100000) (hid : c.id < 100000) (hp : in64 p) (hq : in64 q) :
    Calls Try.prog 51 #[.agg #[.slice A c.ts.length a, .int .i64 g, .slice B c.dn.length b, .slice (some ⟨eb, eo, none⟩) m e, .bool ov, .int .i64 c.st, .int .i64 c.id], .int .i64 p, .int .i64 q] w fun ed w' =>
      ∃ (A' B' : Option Addr) (e0 a' b' q' : Nat), m ≤ q' ∧ ed = .returned (.tuple #[crewV A' B' e0 0 a' b' q' g m c', evV ev, .int .i64 0]) ∧ CrewO (fun x => x < w.heap.size) w' m c' A' B' e0 0 a' b' ∧ Ext w w' := by
  subst hov
  have h9 := rstep5_any A B eb eo a b e g n m c done G p q w h me hI n1 n2 g1 g2 m1 m2 hst hid hp hq
  rw [hr] at h9
  exact h9.mono fun _ _ hh => hh
/-- behind a step -/
def StepCut6 (wr : World) (g m : Nat) (c : Cw) (ev : Ev) (x e f : Value) (wx : World) : Prop :=
  ∃ (X Y : Nat) (A B : Option Addr) (e0 a b q : Nat), m ≤ q ∧ x = .pointer (some ⟨X, 0, none⟩) ∧ e = .pointer (some ⟨Y, 0, none⟩) ∧ f = .int .i64 0 ∧ Boxed wx X Y A B e0 a b q g m c ev ∧ CrewO (fun b => b < wr.heap.size) wx m c A B e0 0 a b ∧ wr.heap.size ≤ X ∧ wr.heap.size ≤ Y ∧ Ext wr wx

set_option maxHeartbeats 3200000 in
set_option maxRecDepth 100000 in
theorem rwhole_any (n g m : Nat) (Ap : Option Addr) (cp : Nat) (picks : List (Int × Int)) (w : World) (hp : Rd kPk w (.slice Ap picks.length cp) picks) (n1 : 1 ≤ n) (n2 : n ≤ 900) (g1 : 1 ≤ g) (g2 : g ≤ 100) (m1 : 1 ≤ m) (m2 : m ≤ 8) (hl : picks.length ≤ 4000) :
    Calls Try.prog 44 #[.int .i64 n, .int .i64 g, .int .i64 m, .slice Ap picks.length cp] w (R6Said (fun _ => False) g m (wholeP g n m picks) w) := by
  have HP := Lib.hid hp
  clear hp
  have hl' : (picks.length : Int) ≤ 4000 := by omega
  go_enter Try.func44, Try.ntmps44
  go_wp2_with fail
  refine (rbegin5_any n g m _ n1 (by omega) g1 g2 m1 m2).mono ?_
  obtain ⟨c0, hc0⟩ : ∃ x, beginC n m = x := ⟨_, rfl⟩
  rintro ed w2 ⟨A0, B0, e0, a0, b0, rfl, hC, hE⟩
  rw [hc0] at hC ⊢
  have hres := block_keep (heap_alloc_new w (.cells #[.slice none 0 0, .int .i64 0, .slice none 0 0, .slice none 0 0, .bool false, .int .i64 0, .int .i64 0] 77)) hE
  have HRS := Lib.hid hres
  have hz := hE.size
  simp at hz
  have HX2 := Lib.hid (((Ext.refl w).alloc _).trans hE)
  obtain ⟨V, hV⟩ : ∃ V, w2.heap.size = V := ⟨_, rfl⟩
  have HU0 : Hid (U6At w V g n m picks 0 (.slice none 0 0) (w2.alloc (.cells #[.slice A0 c0.ts.length a0, .int .i64 g, .slice B0 c0.dn.length b0, .slice (some ⟨e0, 0, none⟩) m m, .bool c0.over, .int .i64 c0.st, .int .i64 c0.id] 77)) c0 [] A0 B0 e0 a0 b0 m) := Lib.hid ⟨Nat.le_refl _, by rw [← hV]; exact heap_alloc_new w2 _, hC.later m1 (Grew.of ((Ext.refl _).alloc _)) (fun x hx hT => by
      rcases hT with hT | hT | hT
      · simp; omega
      · omega
      · cases hT), Ow.nil _ _, by rw [← hc0]; exact Been.begin g n m n1 m1, by rw [hc0]; simp, Nat.le_refl _, block_keep hres ((Ext.refl _).alloc _), HX2.out.trans ((Ext.refl _).alloc _), by omega⟩
  go_upto_region 2 with fail
  clear hC hE hres hz hV
  generalize (w2.alloc (.cells #[.slice A0 c0.ts.length a0, .int .i64 g, .slice B0 c0.dn.length b0, .slice (some ⟨e0, 0, none⟩) m m, .bool c0.over, .int .i64 c0.st, .int .i64 c0.id] 77)) = w5 at *
  go_wp2_with fail
  go_loopw [13, 14] (fun v i wr => ∃ k : Nat, k ≤ picks.length ∧ i = .int .i64 k ∧ ∃ (c1 : Cw) (evs : List Ev) (A1 B1 : Option Addr) (e0 a1 b1 e1 : Nat), U6At w V g n m picks k v wr c1 evs A1 B1 e0 a1 b1 e1) (fun _ i _ => picks.length - (intOf i).toNat)
  case atStart => exact ⟨0, Nat.zero_le _, rfl, _, _, _, _, _, _, _, _, HU0.out⟩
  case round =>
    obtain ⟨k, hk, rfl, c1, evs, A1, B1, e1, a1, b1, q1, hD⟩ := hrel
    have HD := Lib.hid hD
    have hk0 : (0 : Int) ≤ k := by omega
    have k0 : wr.cell? ⟨V, 0, none⟩ = some (.slice A1 c1.ts.length a1) := (cell_of_row wr (V) 0 _ _ _ hD.box).trans rfl
    have k1 : wr.cell? ⟨V, 1, none⟩ = some (.int .i64 g) := (cell_of_row wr (V) 1 _ _ _ hD.box).trans rfl
    have k2 : wr.cell? ⟨V, 2, none⟩ = some (.slice B1 c1.dn.length b1) := (cell_of_row wr (V) 2 _ _ _ hD.box).trans rfl
    have k3 : wr.cell? ⟨V, 3, none⟩ = some (.slice (some ⟨e1, 0, none⟩) m q1) := (cell_of_row wr (V) 3 _ _ _ hD.box).trans rfl
    have k4 : wr.cell? ⟨V, 4, none⟩ = some (.bool c1.over) := (cell_of_row wr (V) 4 _ _ _ hD.box).trans rfl
    have k5 : wr.cell? ⟨V, 5, none⟩ = some (.int .i64 c1.st) := (cell_of_row wr (V) 5 _ _ _ hD.box).trans rfl
    have k6 : wr.cell? ⟨V, 6, none⟩ = some (.int .i64 c1.id) := (cell_of_row wr (V) 6 _ _ _ hD.box).trans rfl
    have kf := fun o => frozen_of_row wr (V) o _ _ hD.box
    clear hD
    have hex : ∀ (h : k < picks.length → c1.over = true), untilP g m (beginC n m) picks = (c1, evs) := fun h => by
      have h9 := HD.out.eq
      rcases Nat.lt_or_ge k picks.length with h8 | h8
      · rw [untilP_over _ _ _ _ (h h8), List.append_nil] at h9; exact h9
      · rw [List.drop_eq_nil_of_le h8] at h9
        simpa [untilP] using h9
    by_cases hlt : k < picks.length
    · have hlt' : (k : Int) < picks.length := by omega
      cases hov : c1.over with
      | true =>
        have hU := hex (fun _ => hov)
        have k4o := k4
        rw [hov] at k4
        go_upto_region 12 with fail
        obtain ⟨N, hN⟩ : ∃ N, m * cntT n g = N := ⟨_, rfl⟩
        have hW : wholeP g n m picks = ((drainP g m N 0 c1).1, evs ++ (drainP g m N 0 c1).2) := by unfold wholeP; rw [hU, hN]
        obtain ⟨dn, hI⟩ := HD.out.been.inv
        have hcn := (hI.counts g1 n1).2.2.1
        have hNl : N ≤ 14400 := by
          have h1 : m * cntT n g ≤ 8 * 1800 := Nat.mul_le_mul m2 (by omega)
          omega
        have hov9 : (drainP g m N 0 c1).1.over = true := by have := (whole_ends g1 n1 m1 picks).1; rw [hW] at this; exact this
        have hel := HD.out.len
        have hst := HD.out.been.st
        have hid := HD.out.been.id
        have hee : (drainP g m N 0 c1).2.length ≤ 60000 := by
          have h1 := (whole_ends g1 n1 m1 picks).2.2.1
          rw [hW] at h1
          simp only [List.length_append] at h1
          have h2 : m * (cntT n g + 1) ≤ 8 * 1801 := Nat.mul_le_mul m2 (by omega)
          omega
        obtain ⟨Ao, co, hv, hco⟩ := HD.out.own.slice
        obtain ⟨no, hno⟩ : ∃ no, evs.length = no := ⟨_, rfl⟩
        rw [hno] at hv hco
        subst hv
        have hrlt : ∀ x, Value.ownBlock (.slice Ao no co) = some x → V + 1 ≤ x ∧ x < wr.heap.size := fun x hx => HD.out.own.lt x hx
        have HRL := Lib.hid hrlt
        have HW := Lib.hid hW
        have HO9 := Lib.hid (And.intro hov9 (And.intro hel (And.intro hst (And.intro hid hee))))
        have HII := Lib.hid hI
        have lV := block_lt HD.out.box
        have lR := block_lt HD.out.res
        have vl := HD.out.vl
        have HS : Hid (∀ x, (x = w.heap.size ∨ x = V ∨ Value.ownBlock (.slice Ao no co) = some x) → x < wr.heap.size) := Lib.hid (fun x hx => by
          rcases hx with rfl | rfl | hx
          · exact lR
          · exact lV
          · exact (hrlt x hx).2)
        have HNL := Lib.hid hNl
        clear hN hW hI hcn hNl hov9 hel hst hid hco hno hrlt hee
        clear k4 hov
        have k4 := k4o
        clear k4o
        go_wp2_with fail
        have hh := rdrain_any (fun x => x = w.heap.size ∨ x = V ∨ Value.ownBlock (.slice Ao no co) = some x) A1 B1 e1 0 a1 b1 q1 g n m N c1 wr HS.out HD.out.cr HD.out.me ⟨_, _, HII.out⟩ n1 n2 g1 g2 m1 m2 (by have := HO9.out; have := HNL.out; omega) (by have := HO9.out; have := HNL.out; omega) (by have := HNL.out; omega) HO9.out.1
        refine hh.mono ?_
        clear hh
        have HEE : Hid ((drainP g m N 0 c1).2.length ≤ 60000) := Lib.hid HO9.out.2.2.2.2
        obtain ⟨⟨c5, ds⟩, hr⟩ : ∃ x, drainP g m N 0 c1 = x := ⟨_, rfl⟩
        rw [hr] at HEE ⊢
        have hW2 := HW.out
        rw [hr] at hW2
        have HW2 := Lib.hid hW2
        rintro ed w6 ⟨A5, B5, L5, e5, o5, a5, b5, q5, l5, hq5, rfl, hC5, hO5, hE6⟩
        simp only at hC5 hO5
        have hbV := block_keep HD.out.box hE6
        have hbR := block_keep HD.out.res hE6
        have hz6 := hE6.size
        have z0 : w6.cell? ⟨V, 0, none⟩ = some (.slice A1 c1.ts.length a1) := (cell_of_row w6 (V) 0 _ _ _ hbV).trans rfl
        have z1 : w6.cell? ⟨V, 1, none⟩ = some (.int .i64 g) := (cell_of_row w6 (V) 1 _ _ _ hbV).trans rfl
        have z2 : w6.cell? ⟨V, 2, none⟩ = some (.slice B1 c1.dn.length b1) := (cell_of_row w6 (V) 2 _ _ _ hbV).trans rfl
        have z3 : w6.cell? ⟨V, 3, none⟩ = some (.slice (some ⟨e1, 0, none⟩) m q1) := (cell_of_row w6 (V) 3 _ _ _ hbV).trans rfl
        have z4 : w6.cell? ⟨V, 4, none⟩ = some (.bool c1.over) := (cell_of_row w6 (V) 4 _ _ _ hbV).trans rfl
        have z5 : w6.cell? ⟨V, 5, none⟩ = some (.int .i64 c1.st) := (cell_of_row w6 (V) 5 _ _ _ hbV).trans rfl
        have z6 : w6.cell? ⟨V, 6, none⟩ = some (.int .i64 c1.id) := (cell_of_row w6 (V) 6 _ _ _ hbV).trans rfl
        have zf := fun o => frozen_of_row w6 (V) o _ _ hbV
        have HC5 := Lib.hid (And.intro hq5 hC5)
        have HO5 := Lib.hid hO5
        have HE6 := Lib.hid hE6
        have HBV := Lib.hid (set_box7 hbV (.slice A5 c5.ts.length a5) (.int .i64 g) (.slice B5 c5.dn.length b5) (.slice (some ⟨e5, o5, none⟩) m q5) (.bool c5.over) (.int .i64 c5.st) (.int .i64 c5.id))
        have lV6 : V < w6.heap.size := by omega
        clear hr hW2 hC5 hO5 hE6 hq5 hbV k0 k1 k2 k3 k4 k5 k6 kf
        go_upto_region 13 with fail
        have hGV : Grew (fun x => x = V) w6 ((((((((w6.setCell ⟨V, 0, none⟩ (.slice A5 c5.ts.length a5)).setCell ⟨V, 1, none⟩ (.int .i64 g)).setCell ⟨V, 2, none⟩ (.slice B5 c5.dn.length b5)).setCell ⟨V, 3, none⟩ (.slice (some ⟨e5, o5, none⟩) m q5)).setCell ⟨V, 4, none⟩ (.bool c5.over)).setCell ⟨V, 5, none⟩ (.int .i64 c5.st)).setCell ⟨V, 6, none⟩ (.int .i64 c5.id))) := (Grew.setCell (S := fun x => x = V) (p := ⟨V, 6, none⟩) (Grew.setCell (S := fun x => x = V) (p := ⟨V, 5, none⟩) (Grew.setCell (S := fun x => x = V) (p := ⟨V, 4, none⟩) (Grew.setCell (S := fun x => x = V) (p := ⟨V, 3, none⟩) (Grew.setCell (S := fun x => x = V) (p := ⟨V, 2, none⟩) (Grew.setCell (S := fun x => x = V) (p := ⟨V, 1, none⟩) (Grew.setCell (S := fun x => x = V) (p := ⟨V, 0, none⟩) (Grew.refl _ _) rfl _) rfl _) rfl _) rfl _) rfl _) rfl _) rfl _)
        have HBR : Hid (((((((((w6.setCell ⟨V, 0, none⟩ (.slice A5 c5.ts.length a5)).setCell ⟨V, 1, none⟩ (.int .i64 g)).setCell ⟨V, 2, none⟩ (.slice B5 c5.dn.length b5)).setCell ⟨V, 3, none⟩ (.slice (some ⟨e5, o5, none⟩) m q5)).setCell ⟨V, 4, none⟩ (.bool c5.over)).setCell ⟨V, 5, none⟩ (.int .i64 c5.st)).setCell ⟨V, 6, none⟩ (.int .i64 c5.id))).heap[w.heap.size]? = some (.cells #[.slice none 0 0, .int .i64 0, .slice none 0 0, .slice none 0 0, .bool false, .int .i64 0, .int .i64 0] 77)) := Lib.hid (block_wr hbR hGV (by omega))
        have HC7 : Hid (CrewO (fun x => x = w.heap.size ∨ x = V ∨ Value.ownBlock (.slice Ao no co) = some x) ((((((((w6.setCell ⟨V, 0, none⟩ (.slice A5 c5.ts.length a5)).setCell ⟨V, 1, none⟩ (.int .i64 g)).setCell ⟨V, 2, none⟩ (.slice B5 c5.dn.length b5)).setCell ⟨V, 3, none⟩ (.slice (some ⟨e5, o5, none⟩) m q5)).setCell ⟨V, 4, none⟩ (.bool c5.over)).setCell ⟨V, 5, none⟩ (.int .i64 c5.st)).setCell ⟨V, 6, none⟩ (.int .i64 c5.id))) m c5 A5 B5 e5 o5 a5 b5) := Lib.hid (HC5.out.2.grew (hGV.mono (fun x _ hx => .inr (.inl hx))))
        have HO7 : Hid (Ow kEv (V + 1) ((((((((w6.setCell ⟨V, 0, none⟩ (.slice A5 c5.ts.length a5)).setCell ⟨V, 1, none⟩ (.int .i64 g)).setCell ⟨V, 2, none⟩ (.slice B5 c5.dn.length b5)).setCell ⟨V, 3, none⟩ (.slice (some ⟨e5, o5, none⟩) m q5)).setCell ⟨V, 4, none⟩ (.bool c5.over)).setCell ⟨V, 5, none⟩ (.int .i64 c5.st)).setCell ⟨V, 6, none⟩ (.int .i64 c5.id))) (.slice Ao no co) evs) := Lib.hid ((HD.out.own.ext HE6.out).grew hGV (fun x hx e => by have := (HRL.out x hx).1; omega))
        have HY7 : Hid (Rd kEv ((((((((w6.setCell ⟨V, 0, none⟩ (.slice A5 c5.ts.length a5)).setCell ⟨V, 1, none⟩ (.int .i64 g)).setCell ⟨V, 2, none⟩ (.slice B5 c5.dn.length b5)).setCell ⟨V, 3, none⟩ (.slice (some ⟨e5, o5, none⟩) m q5)).setCell ⟨V, 4, none⟩ (.bool c5.over)).setCell ⟨V, 5, none⟩ (.int .i64 c5.st)).setCell ⟨V, 6, none⟩ (.int .i64 c5.id))) (.slice L5 ds.length l5) ds) := Lib.hid (HO5.out.grew hGV (fun x hx e => by have := (HO5.out.lt x hx).1; omega)).rd
        have HE7 : Hid (Ext w ((((((((w6.setCell ⟨V, 0, none⟩ (.slice A5 c5.ts.length a5)).setCell ⟨V, 1, none⟩ (.int .i64 g)).setCell ⟨V, 2, none⟩ (.slice B5 c5.dn.length b5)).setCell ⟨V, 3, none⟩ (.slice (some ⟨e5, o5, none⟩) m q5)).setCell ⟨V, 4, none⟩ (.bool c5.over)).setCell ⟨V, 5, none⟩ (.int .i64 c5.st)).setCell ⟨V, 6, none⟩ (.int .i64 c5.id)))) := Lib.hid (hGV.toExt (HD.out.ext.trans HE6.out) (fun x hx => by omega))
        have hz7 : w6.heap.size = ((((((((w6.setCell ⟨V, 0, none⟩ (.slice A5 c5.ts.length a5)).setCell ⟨V, 1, none⟩ (.int .i64 g)).setCell ⟨V, 2, none⟩ (.slice B5 c5.dn.length b5)).setCell ⟨V, 3, none⟩ (.slice (some ⟨e5, o5, none⟩) m q5)).setCell ⟨V, 4, none⟩ (.bool c5.over)).setCell ⟨V, 5, none⟩ (.int .i64 c5.st)).setCell ⟨V, 6, none⟩ (.int .i64 c5.id))).heap.size := by simp
        generalize (((((((w6.setCell ⟨V, 0, none⟩ (.slice A5 c5.ts.length a5)).setCell ⟨V, 1, none⟩ (.int .i64 g)).setCell ⟨V, 2, none⟩ (.slice B5 c5.dn.length b5)).setCell ⟨V, 3, none⟩ (.slice (some ⟨e5, o5, none⟩) m q5)).setCell ⟨V, 4, none⟩ (.bool c5.over)).setCell ⟨V, 5, none⟩ (.int .i64 c5.st)).setCell ⟨V, 6, none⟩ (.int .i64 c5.id)) = w7 at *
        clear hbR z0 z1 z2 z3 z4 z5 z6 zf hGV
        have x0 : w7.cell? ⟨V, 0, none⟩ = some (.slice A5 c5.ts.length a5) := (cell_of_row w7 (V) 0 _ _ _ HBV.out).trans rfl
        have x1 : w7.cell? ⟨V, 1, none⟩ = some (.int .i64 g) := (cell_of_row w7 (V) 1 _ _ _ HBV.out).trans rfl
        have x2 : w7.cell? ⟨V, 2, none⟩ = some (.slice B5 c5.dn.length b5) := (cell_of_row w7 (V) 2 _ _ _ HBV.out).trans rfl
        have x3 : w7.cell? ⟨V, 3, none⟩ = some (.slice (some ⟨e5, o5, none⟩) m q5) := (cell_of_row w7 (V) 3 _ _ _ HBV.out).trans rfl
        have x4 : w7.cell? ⟨V, 4, none⟩ = some (.bool c5.over) := (cell_of_row w7 (V) 4 _ _ _ HBV.out).trans rfl
        have x5 : w7.cell? ⟨V, 5, none⟩ = some (.int .i64 c5.st) := (cell_of_row w7 (V) 5 _ _ _ HBV.out).trans rfl
        have x6 : w7.cell? ⟨V, 6, none⟩ = some (.int .i64 c5.id) := (cell_of_row w7 (V) 6 _ _ _ HBV.out).trans rfl
        have xf := fun o => frozen_of_row w7 (V) o _ _ HBV.out
        have y0 : w7.cell? ⟨w.heap.size, 0, none⟩ = some (.slice none 0 0) := (cell_of_row w7 (w.heap.size) 0 _ _ _ HBR.out).trans rfl
        have y1 : w7.cell? ⟨w.heap.size, 1, none⟩ = some (.int .i64 0) := (cell_of_row w7 (w.heap.size) 1 _ _ _ HBR.out).trans rfl
        have y2 : w7.cell? ⟨w.heap.size, 2, none⟩ = some (.slice none 0 0) := (cell_of_row w7 (w.heap.size) 2 _ _ _ HBR.out).trans rfl
        have y3 : w7.cell? ⟨w.heap.size, 3, none⟩ = some (.slice none 0 0) := (cell_of_row w7 (w.heap.size) 3 _ _ _ HBR.out).trans rfl
        have y4 : w7.cell? ⟨w.heap.size, 4, none⟩ = some (.bool false) := (cell_of_row w7 (w.heap.size) 4 _ _ _ HBR.out).trans rfl
        have y5 : w7.cell? ⟨w.heap.size, 5, none⟩ = some (.int .i64 0) := (cell_of_row w7 (w.heap.size) 5 _ _ _ HBR.out).trans rfl
        have y6 : w7.cell? ⟨w.heap.size, 6, none⟩ = some (.int .i64 0) := (cell_of_row w7 (w.heap.size) 6 _ _ _ HBR.out).trans rfl
        have yf := fun o => frozen_of_row w7 (w.heap.size) o _ _ HBR.out
        have lV7 : V < w7.heap.size := by omega
        have lR7 : w.heap.size < w7.heap.size := by omega
        have HLL : Hid (evs.length + ds.length ≤ 1048576) := Lib.hid (by have := HO9.out.2.1; have := HEE.out; omega)
        have nRV : ¬ w.heap.size = V := by omega
        go_region_law (first
          | (refine kEv.step_app (by rfl) (.tmp 74) (.tmp 75) (by rfl) (by rfl) (V + 1) _ evs (by rfl) (HO7.out.ext (Ext.refl _).drew) _ ds (by rfl) (HY7.out.ext (Ext.refl _).drew) HLL.out (by simp; omega) ?_
             intro v8 w8 hown8 hgrow8 hat8
             have HA8 := Lib.hid (And.intro hown8 (And.intro hgrow8 hat8))
             have gV := block_of_grown hgrow8 (block_keep HBV.out (Ext.refl _).drew) (fun e => by have := (HRL.out _ e.symm).1; omega)
             have gR := block_of_grown hgrow8 (block_keep HBR.out (Ext.refl _).drew) (fun e => by have := (HRL.out _ e.symm).1; omega)
             have gz := hgrow8.size
             simp at gz
             have lV8 : V < w8.heap.size := by omega
             have lR8 : w.heap.size < w8.heap.size := by omega
             have p0 : w8.cell? ⟨V, 0, none⟩ = some (.slice A5 c5.ts.length a5) := (cell_of_row w8 (V) 0 _ _ _ gV).trans rfl
             have p1 : w8.cell? ⟨V, 1, none⟩ = some (.int .i64 g) := (cell_of_row w8 (V) 1 _ _ _ gV).trans rfl
             have p2 : w8.cell? ⟨V, 2, none⟩ = some (.slice B5 c5.dn.length b5) := (cell_of_row w8 (V) 2 _ _ _ gV).trans rfl
             have p3 : w8.cell? ⟨V, 3, none⟩ = some (.slice (some ⟨e5, o5, none⟩) m q5) := (cell_of_row w8 (V) 3 _ _ _ gV).trans rfl
             have p4 : w8.cell? ⟨V, 4, none⟩ = some (.bool c5.over) := (cell_of_row w8 (V) 4 _ _ _ gV).trans rfl
             have p5 : w8.cell? ⟨V, 5, none⟩ = some (.int .i64 c5.st) := (cell_of_row w8 (V) 5 _ _ _ gV).trans rfl
             have p6 : w8.cell? ⟨V, 6, none⟩ = some (.int .i64 c5.id) := (cell_of_row w8 (V) 6 _ _ _ gV).trans rfl
             have pf := fun o => frozen_of_row w8 (V) o _ _ gV
             have r0 : w8.cell? ⟨w.heap.size, 0, none⟩ = some (.slice none 0 0) := (cell_of_row w8 (w.heap.size) 0 _ _ _ gR).trans rfl
             have r1 : w8.cell? ⟨w.heap.size, 1, none⟩ = some (.int .i64 0) := (cell_of_row w8 (w.heap.size) 1 _ _ _ gR).trans rfl
             have r2 : w8.cell? ⟨w.heap.size, 2, none⟩ = some (.slice none 0 0) := (cell_of_row w8 (w.heap.size) 2 _ _ _ gR).trans rfl
             have r3 : w8.cell? ⟨w.heap.size, 3, none⟩ = some (.slice none 0 0) := (cell_of_row w8 (w.heap.size) 3 _ _ _ gR).trans rfl
             have r4 : w8.cell? ⟨w.heap.size, 4, none⟩ = some (.bool false) := (cell_of_row w8 (w.heap.size) 4 _ _ _ gR).trans rfl
             have r5 : w8.cell? ⟨w.heap.size, 5, none⟩ = some (.int .i64 0) := (cell_of_row w8 (w.heap.size) 5 _ _ _ gR).trans rfl
             have r6 : w8.cell? ⟨w.heap.size, 6, none⟩ = some (.int .i64 0) := (cell_of_row w8 (w.heap.size) 6 _ _ _ gR).trans rfl
             have rf := fun o => frozen_of_row w8 (w.heap.size) o _ _ gR
             clear hown8 hgrow8 hat8 gV gR gz x0 x1 x2 x3 x4 x5 x6 xf y0 y1 y2 y3 y4 y5 y6 yf))
        all_goals go_wp2_with fail
        all_goals
          obtain ⟨hown8, hgrow8, hat8⟩ := HA8.out
          obtain ⟨Lz, cz, hvz, hcz⟩ := hown8.slice
          subst hvz
          have hGR : Grew (fun x => x = w.heap.size) w8 ((((((((w8.setCell ⟨w.heap.size, 0, none⟩ (.slice A5 c5.ts.length a5)).setCell ⟨w.heap.size, 1, none⟩ (.int .i64 g)).setCell ⟨w.heap.size, 2, none⟩ (.slice B5 c5.dn.length b5)).setCell ⟨w.heap.size, 3, none⟩ (.slice (some ⟨e5, o5, none⟩) m q5)).setCell ⟨w.heap.size, 4, none⟩ (.bool c5.over)).setCell ⟨w.heap.size, 5, none⟩ (.int .i64 c5.st)).setCell ⟨w.heap.size, 6, none⟩ (.int .i64 c5.id))) := (Grew.setCell (S := fun x => x = w.heap.size) (p := ⟨w.heap.size, 6, none⟩) (Grew.setCell (S := fun x => x = w.heap.size) (p := ⟨w.heap.size, 5, none⟩) (Grew.setCell (S := fun x => x = w.heap.size) (p := ⟨w.heap.size, 4, none⟩) (Grew.setCell (S := fun x => x = w.heap.size) (p := ⟨w.heap.size, 3, none⟩) (Grew.setCell (S := fun x => x = w.heap.size) (p := ⟨w.heap.size, 2, none⟩) (Grew.setCell (S := fun x => x = w.heap.size) (p := ⟨w.heap.size, 1, none⟩) (Grew.setCell (S := fun x => x = w.heap.size) (p := ⟨w.heap.size, 0, none⟩) (Grew.refl _ _) rfl _) rfl _) rfl _) rfl _) rfl _) rfl _) rfl _)
          refine bodyPost_ret (v := .tuple #[crewV A5 B5 e5 o5 a5 b5 q5 g m c5, .slice Lz (evs ++ ds).length cz, .int .i64 0]) (by simp [results, Try.results44, go_sem]; go_simp) rfl ?_
          rw [HW2.out]
          refine ⟨A5, B5, Lz, e5, o5, a5, b5, q5, cz, HC5.out.1, rfl, ?_, ?_, ?_⟩
          · exact (((HC7.out.ext (Ext.refl _).drew).grew ((Wr.grown hgrow8).mono (fun x _ hx => .inr (.inr hx)))).grew (hGR.mono (fun x _ hx => .inl hx))).at_ m1
          · exact (hown8.grew hGR (fun x hx e => by have := (hown8.lt x hx).1; have := HD.out.vl; omega)).mono (by have := HD.out.vl; omega)
          · exact hGR.toExt (Wr.toExt (Wr.grown hgrow8) (HE7.out.trans (Ext.refl _).drew) (fun x hx => by have := (HRL.out x hx).1; have := HD.out.vl; omega)) (fun x hx => by omega)
      | false =>
        obtain ⟨bp, op, rfl, hcp⟩ := Rd.picks (HP.out.ext HD.out.ext) (by omega)
        obtain ⟨z0, z1⟩ := hcp k hlt
        have hok := HP.out.okAt k hlt
        obtain ⟨⟨p, q⟩, hpq⟩ : ∃ x, picks.getD k (0, 0) = x := ⟨_, rfl⟩
        rw [hpq] at z0 z1
        simp only at z0 z1
        have hpq2 : in64 p ∧ in64 q := by have e0 : picks.getD k kPk.d = (p, q) := hpq; rw [e0] at hok; exact hok
        have HPQ := Lib.hid hpq2
        have lbp : bp < wr.heap.size := World.block_lt_of_cell? _ _ z0
        obtain ⟨dn, hI⟩ := HD.out.been.inv
        have hbn := HD.out.been.step g1 m1 p q
        have hev := hI.evOk g1 n1 n2 m1 m2 p q
        have heq := HD.out.eq
        rw [untilP_next g m k c1 picks hlt hov, hpq] at heq
        obtain ⟨⟨c', ev⟩, hr⟩ : ∃ r, stepP g m c1 p q = r := ⟨_, rfl⟩
        simp only at heq
        rw [hr] at hbn hev heq
        have HBN := Lib.hid hbn
        have HOKE : Hid (kEv.ok ev) := Lib.hid hev
        have HEQ := Lib.hid heq
        have HR := Lib.hid hr
        have HI := Lib.hid hI
        have HOV := Lib.hid hov
        have HCA := Lib.hid (HD.out.cr.at_ m1)
        have HST : Hid (c1.st < 100000 ∧ c1.id < 100000) := Lib.hid (by have := HD.out.been.st; have := HD.out.been.id; have := HD.out.len; omega)
        have lV := block_lt HD.out.box
        have vl := HD.out.vl
        clear hcp hok hpq hpq2 hI hbn hev heq hr hov hex
        rw [HOV.out] at k4
        go_upto_region 8 with fail
        go_cut [15, 16, 17] (fun x e f wx => StepCut6 wr g m c' ev x e f wx)
        case first =>
          have KS : Hid (∀ w', Ext wr w' → w'.cell? ⟨V, 0, none⟩ = some (.slice A1 c1.ts.length a1) ∧ w'.cell? ⟨V, 1, none⟩ = some (.int .i64 g) ∧ w'.cell? ⟨V, 2, none⟩ = some (.slice B1 c1.dn.length b1) ∧ w'.cell? ⟨V, 3, none⟩ = some (.slice (some ⟨e1, 0, none⟩) m q1) ∧ w'.cell? ⟨V, 4, none⟩ = some (.bool false) ∧ w'.cell? ⟨V, 5, none⟩ = some (.int .i64 c1.st) ∧ w'.cell? ⟨V, 6, none⟩ = some (.int .i64 c1.id) ∧ w'.cell? ⟨bp, op + k * 2, none⟩ = some (.int .i64 p) ∧ w'.cell? ⟨bp, op + k * 2 + 1, none⟩ = some (.int .i64 q)) := Lib.hid fun w' hE => ⟨hE.cell k0, hE.cell k1, hE.cell k2, hE.cell k3, hE.cell k4, hE.cell k5, hE.cell k6, hE.cell z0, hE.cell z1⟩
          go_region_held3 (fun w' => w'.cell? ⟨V, 0, none⟩ = some (.slice A1 c1.ts.length a1) ∧ w'.cell? ⟨V, 1, none⟩ = some (.int .i64 g) ∧ w'.cell? ⟨V, 2, none⟩ = some (.slice B1 c1.dn.length b1) ∧ w'.cell? ⟨V, 3, none⟩ = some (.slice (some ⟨e1, 0, none⟩) m q1) ∧ w'.cell? ⟨V, 4, none⟩ = some (.bool false) ∧ w'.cell? ⟨V, 5, none⟩ = some (.int .i64 c1.st) ∧ w'.cell? ⟨V, 6, none⟩ = some (.int .i64 c1.id) ∧ w'.cell? ⟨bp, op + k * 2, none⟩ = some (.int .i64 p) ∧ w'.cell? ⟨bp, op + k * 2 + 1, none⟩ = some (.int .i64 q))
            (first | go_keep | exact KS.out _ (by repeat (first | (with_reducible exact Ext.refl _) | (with_reducible exact hX4) | (with_reducible refine Ext.drew ?_) | (with_reducible refine Ext.alloc ?_ _) | (with_reducible refine Ext.setCell ?_ (by first | (simp; done) | (simp; omega)) _))))
            (first
              | (go_at_call 51
                 refine (rstep5_to A1 B1 e1 0 a1 b1 q1 g n m c1 c' ev false dn _ p q _ HOV.out HR.out (HCA.out.ext (by repeat (first | (with_reducible exact Ext.refl _) | (with_reducible exact hX4) | (with_reducible refine Ext.drew ?_) | (with_reducible refine Ext.alloc ?_ _) | (with_reducible refine Ext.setCell ?_ (by first | (simp; done) | (simp; omega)) _)))) HD.out.me HI.out n1 n2 g1 g2 m1 m2 HST.out.1 HST.out.2 HPQ.out.1 HPQ.out.2).mono ?_
                 rintro ed w4 ⟨A', B', e0', a', b', q', hq', rfl, hC4, hE4⟩
                 obtain ⟨S4, hV4, hS4, hC6⟩ : ∃ S4 : Nat → Prop, (∀ b, b < wr.heap.size → S4 b) ∧ (∀ b, b < _ → S4 b) ∧ CrewO S4 w4 m c' A' B' e0' 0 a' b' := ⟨_, fun b h => by first | exact h | (simp; omega) | omega, fun b h1 => h1, hC4⟩
                 have hX4 : Ext wr w4 := Ext.trans (by repeat (first | (with_reducible exact Ext.refl _) | (with_reducible exact hX4) | (with_reducible refine Ext.drew ?_) | (with_reducible refine Ext.alloc ?_ _) | (with_reducible refine Ext.setCell ?_ (by first | (simp; done) | (simp; omega)) _))) hE4
                 have hz4 := hE4.size
                 simp at hz4
                 have lz4 : wr.heap.size ≤ w4.heap.size := by omega
                 try (have yc00 : w4.cell? ⟨wr.heap.size, 0, none⟩ = some (.slice none 0 0) := hE4.cell (by first | (go_simp; done) | fail)
                      have yc01 : w4.cell? ⟨wr.heap.size, 1, none⟩ = some (.int .i64 0) := hE4.cell (by first | (go_simp; done) | fail)
                      have yc02 : w4.cell? ⟨wr.heap.size, 2, none⟩ = some (.slice none 0 0) := hE4.cell (by first | (go_simp; done) | fail)
                      have yc03 : w4.cell? ⟨wr.heap.size, 3, none⟩ = some (.slice none 0 0) := hE4.cell (by first | (go_simp; done) | fail)
                      have yc04 : w4.cell? ⟨wr.heap.size, 4, none⟩ = some (.bool false) := hE4.cell (by first | (go_simp; done) | fail)
                      have yc05 : w4.cell? ⟨wr.heap.size, 5, none⟩ = some (.int .i64 0) := hE4.cell (by first | (go_simp; done) | fail)
                      have yc06 : w4.cell? ⟨wr.heap.size, 6, none⟩ = some (.int .i64 0) := hE4.cell (by first | (go_simp; done) | fail)
                      have yc0f : ∀ o, w4.frozen? ⟨wr.heap.size, o, none⟩ = false := fun o => (Below.frozen hE4 (p := ⟨wr.heap.size, o, none⟩) (by first | (simp; done) | (simp; omega) | fail)).trans (by first | (go_simp; done) | fail)
                      have yc0l : wr.heap.size < w4.heap.size := by omega)
                 try (have ye03 : w4.cell? ⟨wr.heap.size, 3, none⟩ = some (.bool false) := hE4.cell (by first | (go_simp; done) | fail)
                      have ye00 : w4.cell? ⟨wr.heap.size, 0, none⟩ = some (.int .i64 0) := hE4.cell (by first | (go_simp; done) | fail)
                      have ye01 : w4.cell? ⟨wr.heap.size, 1, none⟩ = some (.int .i64 0) := hE4.cell (by first | (go_simp; done) | fail)
                      have ye02 : w4.cell? ⟨wr.heap.size, 2, none⟩ = some (.int .i64 0) := hE4.cell (by first | (go_simp; done) | fail)
                      have ye0f : ∀ o, w4.frozen? ⟨wr.heap.size, o, none⟩ = false := fun o => (Below.frozen hE4 (p := ⟨wr.heap.size, o, none⟩) (by first | (simp; done) | (simp; omega) | fail)).trans (by first | (go_simp; done) | fail)
                      have ye0l : wr.heap.size < w4.heap.size := by omega)
                 try (have yc10 : w4.cell? ⟨wr.heap.size + 1, 0, none⟩ = some (.slice none 0 0) := hE4.cell (by first | (go_simp; done) | fail)
                      have yc11 : w4.cell? ⟨wr.heap.size + 1, 1, none⟩ = some (.int .i64 0) := hE4.cell (by first | (go_simp; done) | fail)
                      have yc12 : w4.cell? ⟨wr.heap.size + 1, 2, none⟩ = some (.slice none 0 0) := hE4.cell (by first | (go_simp; done) | fail)
                      have yc13 : w4.cell? ⟨wr.heap.size + 1, 3, none⟩ = some (.slice none 0 0) := hE4.cell (by first | (go_simp; done) | fail)
                      have yc14 : w4.cell? ⟨wr.heap.size + 1, 4, none⟩ = some (.bool false) := hE4.cell (by first | (go_simp; done) | fail)
                      have yc15 : w4.cell? ⟨wr.heap.size + 1, 5, none⟩ = some (.int .i64 0) := hE4.cell (by first | (go_simp; done) | fail)
                      have yc16 : w4.cell? ⟨wr.heap.size + 1, 6, none⟩ = some (.int .i64 0) := hE4.cell (by first | (go_simp; done) | fail)
                      have yc1f : ∀ o, w4.frozen? ⟨wr.heap.size + 1, o, none⟩ = false := fun o => (Below.frozen hE4 (p := ⟨wr.heap.size + 1, o, none⟩) (by first | (simp; done) | (simp; omega) | fail)).trans (by first | (go_simp; done) | fail)
                      have yc1l : wr.heap.size + 1 < w4.heap.size := by omega)
                 try (have ye13 : w4.cell? ⟨wr.heap.size + 1, 3, none⟩ = some (.bool false) := hE4.cell (by first | (go_simp; done) | fail)
                      have ye10 : w4.cell? ⟨wr.heap.size + 1, 0, none⟩ = some (.int .i64 0) := hE4.cell (by first | (go_simp; done) | fail)
                      have ye11 : w4.cell? ⟨wr.heap.size + 1, 1, none⟩ = some (.int .i64 0) := hE4.cell (by first | (go_simp; done) | fail)
                      have ye12 : w4.cell? ⟨wr.heap.size + 1, 2, none⟩ = some (.int .i64 0) := hE4.cell (by first | (go_simp; done) | fail)
                      have ye1f : ∀ o, w4.frozen? ⟨wr.heap.size + 1, o, none⟩ = false := fun o => (Below.frozen hE4 (p := ⟨wr.heap.size + 1, o, none⟩) (by first | (simp; done) | (simp; omega) | fail)).trans (by first | (go_simp; done) | fail)
                      have ye1l : wr.heap.size + 1 < w4.heap.size := by omega)
                ))
          all_goals
            go_wp2_with fail
            go_meet
            refine ⟨_, _, A', B', e0', a', b', q', hq', rfl, rfl, rfl, ⟨by go_simp, by go_simp, by go_simp, by go_simp, by go_simp, by go_simp, by go_simp, by go_simp, by go_simp, by go_simp, by go_simp⟩, ?_, (by first | (simp; done) | (simp; omega) | omega), (by first | (simp; done) | (simp; omega) | omega), (by repeat (first | (with_reducible exact Ext.refl _) | (with_reducible exact hX4) | (with_reducible refine Ext.drew ?_) | (with_reducible refine Ext.alloc ?_ _) | (with_reducible refine Ext.setCell ?_ (by first | (simp; done) | (simp; omega)) _)))⟩
            refine CrewO.mono (S := S4) ?_ m1 (fun b hb h => hV4 b h)
            repeat (first | (with_reducible exact hC6) | (with_reducible refine CrewO.setCell ?_ (hS4 _ (by first | (simp; done) | (simp; omega) | omega)) _) | (with_reducible refine CrewO.ext ?_ ((Ext.refl _).alloc _)) | (with_reducible refine CrewO.ext ?_ (Ext.refl _).drew))
        case rest =>
        obtain ⟨X, Y, A5, B5, e5, a5, b5, q5, hq5, rfl, rfl, rfl, hBx, hC5, hXl, hYl, hX⟩ := hcut
        generalize wc = w8 at *
        obtain ⟨x0, x1, x2, x3, x4, x5, x6, y0, y1, y2, y3⟩ := hBx
        have HE8 := Lib.hid hX
        have HC5 := Lib.hid (And.intro hq5 hC5)
        have HB8 := Lib.hid (block_keep HD.out.box hX)
        have hz8 := hX.size
        obtain ⟨Ao, co, hv, hco⟩ := HD.out.own.slice
        obtain ⟨no, hno⟩ : ∃ no, evs.length = no := ⟨_, rfl⟩
        rw [hno] at hv hco
        subst hv
        obtain ⟨row, hrw⟩ : ∃ row, Value.ownBlock (.slice Ao no co) = row := ⟨_, rfl⟩
        have hrlt : ∀ x, row = some x → V + 1 ≤ x ∧ x < wr.heap.size := fun x hx => HD.out.own.lt x (hrw.trans hx)
        have hrow : ∀ x, row = some x → x < w8.heap.size := fun x hx => by have := hrlt x hx; omega
        have nX : ¬ row = some X := fun hh => by have := hrlt _ hh; omega
        have nY : ¬ row = some Y := fun hh => by have := hrlt _ hh; omega
        have HRL := Lib.hid hrlt
        have HO8 : Hid (Ow kEv (V + 1) w8 (.slice Ao no co) evs) := Lib.hid (HD.out.own.ext hX)
        have HLL : Hid (evs.length + [ev].length ≤ 1048576) := Lib.hid (by have := HD.out.len; simp; omega)
        have HBS : Hid (V + 1 ≤ w8.heap.size) := Lib.hid (by omega)
        clear hno hco hrlt hC5 hX hq5
        go_upto_region 11 with fail
        refine MonoW.wp_region_write 5 4 (Wr row) (R6Q w8 row (.agg #[.slice A5 c'.ts.length a5, .int .i64 g, .slice B5 c'.dn.length b5, .slice (some ⟨e5, 0, none⟩) m q5, .bool c'.over, .int .i64 c'.st, .int .i64 c'.id]) (.agg #[.int .i64 ev.wk, .int .i64 ev.fr, .int .i64 ev.tk, .bool ev.pt]) (.slice Ao no co) (V + 1) evs ev) (by kernel_rfl) (by kernel_rfl) (Wr.of row) (Wr.tr row) (R6Q_ext w8 row (.agg #[.slice A5 c'.ts.length a5, .int .i64 g, .slice B5 c'.dn.length b5, .slice (some ⟨e5, 0, none⟩) m q5, .bool c'.over, .int .i64 c'.st, .int .i64 c'.id]) (.agg #[.int .i64 ev.wk, .int .i64 ev.fr, .int .i64 ev.tk, .bool ev.pt]) (.slice Ao no co) (V + 1) evs ev) (R6Q_sw w8 row (.agg #[.slice A5 c'.ts.length a5, .int .i64 g, .slice B5 c'.dn.length b5, .slice (some ⟨e5, 0, none⟩) m q5, .bool c'.over, .int .i64 c'.st, .int .i64 c'.id]) (.agg #[.int .i64 ev.wk, .int .i64 ev.fr, .int .i64 ev.tk, .bool ev.pt]) (.slice Ao no co) (V + 1) evs ev hrow) ?_ ?_
        · intro i o hi ho vals w5 hE hQ hcl
          have hi' : i = 0 ∨ i = 1 ∨ i = 2 ∨ i = 3 ∨ i = 4 := by omega
          rcases hi' with rfl | rfl | rfl | rfl | rfl
          · simp only [List.getElem?_cons_succ, List.getElem?_cons_zero, Option.some.injEq] at ho
            subst ho
            rw [if_pos (Mono.wanted_none rfl)]
            have l0 := hE.cell x0 nX
            have l1 := hE.cell x1 nX
            have l2 := hE.cell x2 nX
            have l3 := hE.cell x3 nX
            have l4 := hE.cell x4 nX
            have l5 := hE.cell x5 nX
            have l6 := hE.cell x6 nX
            clear hcl
            refine Mono.yields_same (.agg #[.slice A5 c'.ts.length a5, .int .i64 g, .slice B5 c'.dn.length b5, .slice (some ⟨e5, 0, none⟩) m q5, .bool c'.over, .int .i64 c'.st, .int .i64 c'.id]) w5 ?_ ⟨MonoW.Out.of (Wr.of row) (Ext.refl _), R6Q_i0 _ _ _ _ _ _ _ _ _ _ _ rfl⟩
            simp only [Mono.all, List.take, Act.put]
            go_simp
          · simp only [List.getElem?_cons_succ, List.getElem?_cons_zero, Option.some.injEq] at ho
            subst ho
            rw [if_pos (Mono.wanted_none rfl)]
            clear hcl
            refine Mono.yields_same (.slice Ao no co) w5 ?_ ⟨MonoW.Out.of (Wr.of row) (Ext.refl _), R6Q_i1 _ _ _ _ _ _ _ _ _ _ _ rfl⟩
            simp only [Mono.all, List.take, Act.put]
            go_simp
          · simp only [List.getElem?_cons_succ, List.getElem?_cons_zero, Option.some.injEq] at ho
            subst ho
            rw [if_pos (Mono.wanted_none rfl)]
            have l0 := hE.cell y0 nY
            have l1 := hE.cell y1 nY
            have l2 := hE.cell y2 nY
            have l3 := hE.cell y3 nY
            clear hcl
            refine Mono.yields_same (.agg #[.int .i64 ev.wk, .int .i64 ev.fr, .int .i64 ev.tk, .bool ev.pt]) w5 ?_ ⟨MonoW.Out.of (Wr.of row) (Ext.refl _), R6Q_i2 _ _ _ _ _ _ _ _ _ _ _ rfl⟩
            simp only [Mono.all, List.take, Act.put]
            go_simp
          · simp only [List.getElem?_cons_succ, List.getElem?_cons_zero, Option.some.injEq] at ho
            subst ho
            rw [if_pos (Mono.wanted_none rfl)]
            have h2 : vals 2 = .agg #[.int .i64 ev.wk, .int .i64 ev.fr, .int .i64 ev.tk, .bool ev.pt] := (R6Q_e2 _ _ _ _ _ _ _ _ _ _ _ (hcl 2 (by kernel_rfl)))
            clear hcl
            refine Mono.yields_same (.slice (some ⟨w5.heap.size, 0, none⟩) 1 1) (w5.alloc (.cells #[.int .i64 ev.wk, .int .i64 ev.fr, .int .i64 ev.tk, .bool ev.pt] kEv.e)) ?_ ⟨MonoW.Out.of (Wr.of row) ((Ext.refl _).alloc _), R6Q_i3 _ _ _ _ _ _ _ _ _ _ _ (OneAt.made kEv w5 hE.size _ _ rfl HOKE.out)⟩
            simp only [Mono.all, List.take, Act.put, kEv]
            go_simp
          · simp only [List.getElem?_cons_succ, List.getElem?_cons_zero, Option.some.injEq] at ho
            subst ho
            rw [if_pos (Mono.wanted_none rfl)]
            obtain ⟨p, h3, o3⟩ := (R6Q_e3 _ _ _ _ _ _ _ _ _ _ _ (hcl 3 (by kernel_rfl)))
            have h1 : vals 1 = .slice Ao no co := (R6Q_e1 _ _ _ _ _ _ _ _ _ _ _ (hcl 1 (by kernel_rfl)))
            have hX := hQ rfl
            clear hcl
            refine Kd.yields_grow kEv (B := V + 1) (n := w8.heap.size) (q := 4) (.tmp 63) (.tmp 65) (v := .slice Ao no co) (y := .slice (some ⟨p, 0, none⟩) 1 1) (xs := evs) (ys := [ev]) (HO8.out.ext hX) o3.rd HLL.out (Nat.le_trans HBS.out hX.size) hX.size rfl rfl (by rw [← h1]; kernel_rfl) (by rw [← h3]; kernel_rfl) ?_
            intro v' w' hA hO
            exact ⟨by rw [← hrw]; exact hO, R6Q_i4 _ _ _ _ _ _ _ _ _ _ _ hA⟩
        · intro vals w5 hE hv
          have hA := (R6Q_e4 _ _ _ _ _ _ _ _ _ _ _ (hv 4 (by omega)))
          have ee0 := (R6Q_e0 _ _ _ _ _ _ _ _ _ _ _ (hv 0 (by omega)))
          have ee3 := (R6Q_e3 _ _ _ _ _ _ _ _ _ _ _ (hv 3 (by omega)))
          have HA := Lib.hid hA
          have HG := Lib.hid hE
          have hbP : w5.heap[V]? = some (.cells #[.slice A1 c1.ts.length a1, .int .i64 g, .slice B1 c1.dn.length b1, .slice (some ⟨e1, 0, none⟩) m q1, .bool c1.over, .int .i64 c1.st, .int .i64 c1.id] 77) := block_wr HB8.out hE (fun hh => by have := (HRL.out _ hh).1; omega)
          have z0 : w5.cell? ⟨V, 0, none⟩ = some (.slice A1 c1.ts.length a1) := (cell_of_row w5 (V) 0 _ _ _ hbP).trans rfl
          have z1 : w5.cell? ⟨V, 1, none⟩ = some (.int .i64 g) := (cell_of_row w5 (V) 1 _ _ _ hbP).trans rfl
          have z2 : w5.cell? ⟨V, 2, none⟩ = some (.slice B1 c1.dn.length b1) := (cell_of_row w5 (V) 2 _ _ _ hbP).trans rfl
          have z3 : w5.cell? ⟨V, 3, none⟩ = some (.slice (some ⟨e1, 0, none⟩) m q1) := (cell_of_row w5 (V) 3 _ _ _ hbP).trans rfl
          have z4 : w5.cell? ⟨V, 4, none⟩ = some (.bool c1.over) := (cell_of_row w5 (V) 4 _ _ _ hbP).trans rfl
          have z5 : w5.cell? ⟨V, 5, none⟩ = some (.int .i64 c1.st) := (cell_of_row w5 (V) 5 _ _ _ hbP).trans rfl
          have z6 : w5.cell? ⟨V, 6, none⟩ = some (.int .i64 c1.id) := (cell_of_row w5 (V) 6 _ _ _ hbP).trans rfl
          have zf := fun o => frozen_of_row w5 (V) o _ _ hbP
          have lP := block_lt hbP
          have HBP := Lib.hid hbP
          clear hA hbP hE ee3
          simp only [Mono.all, List.take, List.drop, Act.put]
          go_wp2_with fail
          go_roundw
          case rel =>
            have hGP : Grew (fun x => x = V) w5 ((((((((w5.setCell ⟨V, 0, none⟩ (.slice A5 c'.ts.length a5)).setCell ⟨V, 1, none⟩ (.int .i64 g)).setCell ⟨V, 2, none⟩ (.slice B5 c'.dn.length b5)).setCell ⟨V, 3, none⟩ (.slice (some ⟨e5, 0, none⟩) m q5)).setCell ⟨V, 4, none⟩ (.bool c'.over)).setCell ⟨V, 5, none⟩ (.int .i64 c'.st)).setCell ⟨V, 6, none⟩ (.int .i64 c'.id))) := (Grew.setCell (S := fun x => x = V) (p := ⟨V, 6, none⟩) (Grew.setCell (S := fun x => x = V) (p := ⟨V, 5, none⟩) (Grew.setCell (S := fun x => x = V) (p := ⟨V, 4, none⟩) (Grew.setCell (S := fun x => x = V) (p := ⟨V, 3, none⟩) (Grew.setCell (S := fun x => x = V) (p := ⟨V, 2, none⟩) (Grew.setCell (S := fun x => x = V) (p := ⟨V, 1, none⟩) (Grew.setCell (S := fun x => x = V) (p := ⟨V, 0, none⟩) (Grew.refl _ _) rfl _) rfl _) rfl _) rfl _) rfl _) rfl _) rfl _)
            have hGr : Grew (fun x => x = V ∨ row = some x) w8 ((((((((w5.setCell ⟨V, 0, none⟩ (.slice A5 c'.ts.length a5)).setCell ⟨V, 1, none⟩ (.int .i64 g)).setCell ⟨V, 2, none⟩ (.slice B5 c'.dn.length b5)).setCell ⟨V, 3, none⟩ (.slice (some ⟨e5, 0, none⟩) m q5)).setCell ⟨V, 4, none⟩ (.bool c'.over)).setCell ⟨V, 5, none⟩ (.int .i64 c'.st)).setCell ⟨V, 6, none⟩ (.int .i64 c'.id))) := (Grew.mono HG.out (fun x _ hx => .inr hx)).trans (hGP.mono (fun x _ hx => .inl hx))
            refine ⟨k + 1, by omega, by go_num, c', evs ++ [ev], A5, B5, e5, a5, b5, q5, HC5.out.1, set_box7 HBP.out _ _ _ _ _ _ _, ?_, HA.out.1.grew hGP (fun x hx e => by have := (HA.out.1.lt x hx).1; omega), HBN.out, ?_, by have := HD.out.len; rw [List.length_append]; simp; omega, ?_, ?_, HD.out.vl⟩
            · refine HC5.out.2.later m1 (W := (((((((w5.setCell ⟨V, 0, none⟩ (.slice A5 c'.ts.length a5)).setCell ⟨V, 1, none⟩ (.int .i64 g)).setCell ⟨V, 2, none⟩ (.slice B5 c'.dn.length b5)).setCell ⟨V, 3, none⟩ (.slice (some ⟨e5, 0, none⟩) m q5)).setCell ⟨V, 4, none⟩ (.bool c'.over)).setCell ⟨V, 5, none⟩ (.int .i64 c'.st)).setCell ⟨V, 6, none⟩ (.int .i64 c'.id))) (hGr.mono (fun x hx hh => ?_)) (fun x hx hT => ?_)
              · rcases hh with hh | hh
                · omega
                · exact (HRL.out x hh).2
              · rcases hT with hT | hT | hT
                · omega
                · omega
                · rcases HA.out.2 with h9 | ⟨p', h9, h10⟩
                  · rw [h9, hrw] at hT
                    exact (HRL.out x hT).2
                  · rw [h9] at hT; cases hT; omega
            · rw [HEQ.out, List.append_assoc]; rfl
            · exact block_wr (block_keep HD.out.res HE8.out) hGr (fun hh => by
                rcases hh with hh | hh
                · omega
                · have := (HRL.out _ hh).1; omega)
            · exact hGr.toExt (HD.out.ext.trans HE8.out) (fun x hx => by
                rcases hx with hx | hx
                · omega
                · have := (HRL.out _ hx).1; omega)
          case measure => simp [intOf]; omega
    · have hlt' : ¬ (k : Int) < picks.length := by omega
      have hld : decide ((k : Int) < picks.length) = false := decide_eq_false hlt'
      have hU := hex (fun h => absurd h hlt)
      go_upto_region 12 with fail
      obtain ⟨N, hN⟩ : ∃ N, m * cntT n g = N := ⟨_, rfl⟩
      have hW : wholeP g n m picks = ((drainP g m N 0 c1).1, evs ++ (drainP g m N 0 c1).2) := by unfold wholeP; rw [hU, hN]
      obtain ⟨dn, hI⟩ := HD.out.been.inv
      have hcn := (hI.counts g1 n1).2.2.1
      have hNl : N ≤ 14400 := by
        have h1 : m * cntT n g ≤ 8 * 1800 := Nat.mul_le_mul m2 (by omega)
        omega
      have hov9 : (drainP g m N 0 c1).1.over = true := by have := (whole_ends g1 n1 m1 picks).1; rw [hW] at this; exact this
      have hel := HD.out.len
      have hst := HD.out.been.st
      have hid := HD.out.been.id
      have hee : (drainP g m N 0 c1).2.length ≤ 60000 := by
        have h1 := (whole_ends g1 n1 m1 picks).2.2.1
        rw [hW] at h1
        simp only [List.length_append] at h1
        have h2 : m * (cntT n g + 1) ≤ 8 * 1801 := Nat.mul_le_mul m2 (by omega)
        omega
      obtain ⟨Ao, co, hv, hco⟩ := HD.out.own.slice
      obtain ⟨no, hno⟩ : ∃ no, evs.length = no := ⟨_, rfl⟩
      rw [hno] at hv hco
      subst hv
      have hrlt : ∀ x, Value.ownBlock (.slice Ao no co) = some x → V + 1 ≤ x ∧ x < wr.heap.size := fun x hx => HD.out.own.lt x hx
      have HRL := Lib.hid hrlt
      have HW := Lib.hid hW
      have HO9 := Lib.hid (And.intro hov9 (And.intro hel (And.intro hst (And.intro hid hee))))
      have HII := Lib.hid hI
      have lV := block_lt HD.out.box
      have lR := block_lt HD.out.res
      have vl := HD.out.vl
      have HS : Hid (∀ x, (x = w.heap.size ∨ x = V ∨ Value.ownBlock (.slice Ao no co) = some x) → x < wr.heap.size) := Lib.hid (fun x hx => by
        rcases hx with rfl | rfl | hx
        · exact lR
        · exact lV
        · exact (hrlt x hx).2)
      have HNL := Lib.hid hNl
      clear hN hW hI hcn hNl hov9 hel hst hid hco hno hrlt hee
      go_wp2_with fail
      have hh := rdrain_any (fun x => x = w.heap.size ∨ x = V ∨ Value.ownBlock (.slice Ao no co) = some x) A1 B1 e1 0 a1 b1 q1 g n m N c1 wr HS.out HD.out.cr HD.out.me ⟨_, _, HII.out⟩ n1 n2 g1 g2 m1 m2 (by have := HO9.out; have := HNL.out; omega) (by have := HO9.out; have := HNL.out; omega) (by have := HNL.out; omega) HO9.out.1
      refine hh.mono ?_
      clear hh
      have HEE : Hid ((drainP g m N 0 c1).2.length ≤ 60000) := Lib.hid HO9.out.2.2.2.2
      obtain ⟨⟨c5, ds⟩, hr⟩ : ∃ x, drainP g m N 0 c1 = x := ⟨_, rfl⟩
      rw [hr] at HEE ⊢
      have hW2 := HW.out
      rw [hr] at hW2
      have HW2 := Lib.hid hW2
      rintro ed w6 ⟨A5, B5, L5, e5, o5, a5, b5, q5, l5, hq5, rfl, hC5, hO5, hE6⟩
      simp only at hC5 hO5
      have hbV := block_keep HD.out.box hE6
      have hbR := block_keep HD.out.res hE6
      have hz6 := hE6.size
      have z0 : w6.cell? ⟨V, 0, none⟩ = some (.slice A1 c1.ts.length a1) := (cell_of_row w6 (V) 0 _ _ _ hbV).trans rfl
      have z1 : w6.cell? ⟨V, 1, none⟩ = some (.int .i64 g) := (cell_of_row w6 (V) 1 _ _ _ hbV).trans rfl
      have z2 : w6.cell? ⟨V, 2, none⟩ = some (.slice B1 c1.dn.length b1) := (cell_of_row w6 (V) 2 _ _ _ hbV).trans rfl
      have z3 : w6.cell? ⟨V, 3, none⟩ = some (.slice (some ⟨e1, 0, none⟩) m q1) := (cell_of_row w6 (V) 3 _ _ _ hbV).trans rfl
      have z4 : w6.cell? ⟨V, 4, none⟩ = some (.bool c1.over) := (cell_of_row w6 (V) 4 _ _ _ hbV).trans rfl
      have z5 : w6.cell? ⟨V, 5, none⟩ = some (.int .i64 c1.st) := (cell_of_row w6 (V) 5 _ _ _ hbV).trans rfl
      have z6 : w6.cell? ⟨V, 6, none⟩ = some (.int .i64 c1.id) := (cell_of_row w6 (V) 6 _ _ _ hbV).trans rfl
      have zf := fun o => frozen_of_row w6 (V) o _ _ hbV
      have HC5 := Lib.hid (And.intro hq5 hC5)
      have HO5 := Lib.hid hO5
      have HE6 := Lib.hid hE6
      have HBV := Lib.hid (set_box7 hbV (.slice A5 c5.ts.length a5) (.int .i64 g) (.slice B5 c5.dn.length b5) (.slice (some ⟨e5, o5, none⟩) m q5) (.bool c5.over) (.int .i64 c5.st) (.int .i64 c5.id))
      have lV6 : V < w6.heap.size := by omega
      clear hr hW2 hC5 hO5 hE6 hq5 hbV k0 k1 k2 k3 k4 k5 k6 kf
      go_upto_region 13 with fail
      have hGV : Grew (fun x => x = V) w6 ((((((((w6.setCell ⟨V, 0, none⟩ (.slice A5 c5.ts.length a5)).setCell ⟨V, 1, none⟩ (.int .i64 g)).setCell ⟨V, 2, none⟩ (.slice B5 c5.dn.length b5)).setCell ⟨V, 3, none⟩ (.slice (some ⟨e5, o5, none⟩) m q5)).setCell ⟨V, 4, none⟩ (.bool c5.over)).setCell ⟨V, 5, none⟩ (.int .i64 c5.st)).setCell ⟨V, 6, none⟩ (.int .i64 c5.id))) := (Grew.setCell (S := fun x => x = V) (p := ⟨V, 6, none⟩) (Grew.setCell (S := fun x => x = V) (p := ⟨V, 5, none⟩) (Grew.setCell (S := fun x => x = V) (p := ⟨V, 4, none⟩) (Grew.setCell (S := fun x => x = V) (p := ⟨V, 3, none⟩) (Grew.setCell (S := fun x => x = V) (p := ⟨V, 2, none⟩) (Grew.setCell (S := fun x => x = V) (p := ⟨V, 1, none⟩) (Grew.setCell (S := fun x => x = V) (p := ⟨V, 0, none⟩) (Grew.refl _ _) rfl _) rfl _) rfl _) rfl _) rfl _) rfl _) rfl _)
      have HBR : Hid (((((((((w6.setCell ⟨V, 0, none⟩ (.slice A5 c5.ts.length a5)).setCell ⟨V, 1, none⟩ (.int .i64 g)).setCell ⟨V, 2, none⟩ (.slice B5 c5.dn.length b5)).setCell ⟨V, 3, none⟩ (.slice (some ⟨e5, o5, none⟩) m q5)).setCell ⟨V, 4, none⟩ (.bool c5.over)).setCell ⟨V, 5, none⟩ (.int .i64 c5.st)).setCell ⟨V, 6, none⟩ (.int .i64 c5.id))).heap[w.heap.size]? = some (.cells #[.slice none 0 0, .int .i64 0, .slice none 0 0, .slice none 0 0, .bool false, .int .i64 0, .int .i64 0] 77)) := Lib.hid (block_wr hbR hGV (by omega))
      have HC7 : Hid (CrewO (fun x => x = w.heap.size ∨ x = V ∨ Value.ownBlock (.slice Ao no co) = some x) ((((((((w6.setCell ⟨V, 0, none⟩ (.slice A5 c5.ts.length a5)).setCell ⟨V, 1, none⟩ (.int .i64 g)).setCell ⟨V, 2, none⟩ (.slice B5 c5.dn.length b5)).setCell ⟨V, 3, none⟩ (.slice (some ⟨e5, o5, none⟩) m q5)).setCell ⟨V, 4, none⟩ (.bool c5.over)).setCell ⟨V, 5, none⟩ (.int .i64 c5.st)).setCell ⟨V, 6, none⟩ (.int .i64 c5.id))) m c5 A5 B5 e5 o5 a5 b5) := Lib.hid (HC5.out.2.grew (hGV.mono (fun x _ hx => .inr (.inl hx))))
      have HO7 : Hid (Ow kEv (V + 1) ((((((((w6.setCell ⟨V, 0, none⟩ (.slice A5 c5.ts.length a5)).setCell ⟨V, 1, none⟩ (.int .i64 g)).setCell ⟨V, 2, none⟩ (.slice B5 c5.dn.length b5)).setCell ⟨V, 3, none⟩ (.slice (some ⟨e5, o5, none⟩) m q5)).setCell ⟨V, 4, none⟩ (.bool c5.over)).setCell ⟨V, 5, none⟩ (.int .i64 c5.st)).setCell ⟨V, 6, none⟩ (.int .i64 c5.id))) (.slice Ao no co) evs) := Lib.hid ((HD.out.own.ext HE6.out).grew hGV (fun x hx e => by have := (HRL.out x hx).1; omega))
      have HY7 : Hid (Rd kEv ((((((((w6.setCell ⟨V, 0, none⟩ (.slice A5 c5.ts.length a5)).setCell ⟨V, 1, none⟩ (.int .i64 g)).setCell ⟨V, 2, none⟩ (.slice B5 c5.dn.length b5)).setCell ⟨V, 3, none⟩ (.slice (some ⟨e5, o5, none⟩) m q5)).setCell ⟨V, 4, none⟩ (.bool c5.over)).setCell ⟨V, 5, none⟩ (.int .i64 c5.st)).setCell ⟨V, 6, none⟩ (.int .i64 c5.id))) (.slice L5 ds.length l5) ds) := Lib.hid (HO5.out.grew hGV (fun x hx e => by have := (HO5.out.lt x hx).1; omega)).rd
      have HE7 : Hid (Ext w ((((((((w6.setCell ⟨V, 0, none⟩ (.slice A5 c5.ts.length a5)).setCell ⟨V, 1, none⟩ (.int .i64 g)).setCell ⟨V, 2, none⟩ (.slice B5 c5.dn.length b5)).setCell ⟨V, 3, none⟩ (.slice (some ⟨e5, o5, none⟩) m q5)).setCell ⟨V, 4, none⟩ (.bool c5.over)).setCell ⟨V, 5, none⟩ (.int .i64 c5.st)).setCell ⟨V, 6, none⟩ (.int .i64 c5.id)))) := Lib.hid (hGV.toExt (HD.out.ext.trans HE6.out) (fun x hx => by omega))
      have hz7 : w6.heap.size = ((((((((w6.setCell ⟨V, 0, none⟩ (.slice A5 c5.ts.length a5)).setCell ⟨V, 1, none⟩ (.int .i64 g)).setCell ⟨V, 2, none⟩ (.slice B5 c5.dn.length b5)).setCell ⟨V, 3, none⟩ (.slice (some ⟨e5, o5, none⟩) m q5)).setCell ⟨V, 4, none⟩ (.bool c5.over)).setCell ⟨V, 5, none⟩ (.int .i64 c5.st)).setCell ⟨V, 6, none⟩ (.int .i64 c5.id))).heap.size := by simp
      generalize (((((((w6.setCell ⟨V, 0, none⟩ (.slice A5 c5.ts.length a5)).setCell ⟨V, 1, none⟩ (.int .i64 g)).setCell ⟨V, 2, none⟩ (.slice B5 c5.dn.length b5)).setCell ⟨V, 3, none⟩ (.slice (some ⟨e5, o5, none⟩) m q5)).setCell ⟨V, 4, none⟩ (.bool c5.over)).setCell ⟨V, 5, none⟩ (.int .i64 c5.st)).setCell ⟨V, 6, none⟩ (.int .i64 c5.id)) = w7 at *
      clear hbR z0 z1 z2 z3 z4 z5 z6 zf hGV
      have x0 : w7.cell? ⟨V, 0, none⟩ = some (.slice A5 c5.ts.length a5) := (cell_of_row w7 (V) 0 _ _ _ HBV.out).trans rfl
      have x1 : w7.cell? ⟨V, 1, none⟩ = some (.int .i64 g) := (cell_of_row w7 (V) 1 _ _ _ HBV.out).trans rfl
      have x2 : w7.cell? ⟨V, 2, none⟩ = some (.slice B5 c5.dn.length b5) := (cell_of_row w7 (V) 2 _ _ _ HBV.out).trans rfl
      have x3 : w7.cell? ⟨V, 3, none⟩ = some (.slice (some ⟨e5, o5, none⟩) m q5) := (cell_of_row w7 (V) 3 _ _ _ HBV.out).trans rfl
      have x4 : w7.cell? ⟨V, 4, none⟩ = some (.bool c5.over) := (cell_of_row w7 (V) 4 _ _ _ HBV.out).trans rfl
      have x5 : w7.cell? ⟨V, 5, none⟩ = some (.int .i64 c5.st) := (cell_of_row w7 (V) 5 _ _ _ HBV.out).trans rfl
      have x6 : w7.cell? ⟨V, 6, none⟩ = some (.int .i64 c5.id) := (cell_of_row w7 (V) 6 _ _ _ HBV.out).trans rfl
      have xf := fun o => frozen_of_row w7 (V) o _ _ HBV.out
      have y0 : w7.cell? ⟨w.heap.size, 0, none⟩ = some (.slice none 0 0) := (cell_of_row w7 (w.heap.size) 0 _ _ _ HBR.out).trans rfl
      have y1 : w7.cell? ⟨w.heap.size, 1, none⟩ = some (.int .i64 0) := (cell_of_row w7 (w.heap.size) 1 _ _ _ HBR.out).trans rfl
      have y2 : w7.cell? ⟨w.heap.size, 2, none⟩ = some (.slice none 0 0) := (cell_of_row w7 (w.heap.size) 2 _ _ _ HBR.out).trans rfl
      have y3 : w7.cell? ⟨w.heap.size, 3, none⟩ = some (.slice none 0 0) := (cell_of_row w7 (w.heap.size) 3 _ _ _ HBR.out).trans rfl
      have y4 : w7.cell? ⟨w.heap.size, 4, none⟩ = some (.bool false) := (cell_of_row w7 (w.heap.size) 4 _ _ _ HBR.out).trans rfl
      have y5 : w7.cell? ⟨w.heap.size, 5, none⟩ = some (.int .i64 0) := (cell_of_row w7 (w.heap.size) 5 _ _ _ HBR.out).trans rfl
      have y6 : w7.cell? ⟨w.heap.size, 6, none⟩ = some (.int .i64 0) := (cell_of_row w7 (w.heap.size) 6 _ _ _ HBR.out).trans rfl
      have yf := fun o => frozen_of_row w7 (w.heap.size) o _ _ HBR.out
      have lV7 : V < w7.heap.size := by omega
      have lR7 : w.heap.size < w7.heap.size := by omega
      have HLL : Hid (evs.length + ds.length ≤ 1048576) := Lib.hid (by have := HO9.out.2.1; have := HEE.out; omega)
      have nRV : ¬ w.heap.size = V := by omega
      go_region_law (first
        | (refine kEv.step_app (by rfl) (.tmp 74) (.tmp 75) (by rfl) (by rfl) (V + 1) _ evs (by rfl) (HO7.out.ext (Ext.refl _).drew) _ ds (by rfl) (HY7.out.ext (Ext.refl _).drew) HLL.out (by simp; omega) ?_
           intro v8 w8 hown8 hgrow8 hat8
           have HA8 := Lib.hid (And.intro hown8 (And.intro hgrow8 hat8))
           have gV := block_of_grown hgrow8 (block_keep HBV.out (Ext.refl _).drew) (fun e => by have := (HRL.out _ e.symm).1; omega)
           have gR := block_of_grown hgrow8 (block_keep HBR.out (Ext.refl _).drew) (fun e => by have := (HRL.out _ e.symm).1; omega)
           have gz := hgrow8.size
           simp at gz
           have lV8 : V < w8.heap.size := by omega
           have lR8 : w.heap.size < w8.heap.size := by omega
           have p0 : w8.cell? ⟨V, 0, none⟩ = some (.slice A5 c5.ts.length a5) := (cell_of_row w8 (V) 0 _ _ _ gV).trans rfl
           have p1 : w8.cell? ⟨V, 1, none⟩ = some (.int .i64 g) := (cell_of_row w8 (V) 1 _ _ _ gV).trans rfl
           have p2 : w8.cell? ⟨V, 2, none⟩ = some (.slice B5 c5.dn.length b5) := (cell_of_row w8 (V) 2 _ _ _ gV).trans rfl
           have p3 : w8.cell? ⟨V, 3, none⟩ = some (.slice (some ⟨e5, o5, none⟩) m q5) := (cell_of_row w8 (V) 3 _ _ _ gV).trans rfl
           have p4 : w8.cell? ⟨V, 4, none⟩ = some (.bool c5.over) := (cell_of_row w8 (V) 4 _ _ _ gV).trans rfl
           have p5 : w8.cell? ⟨V, 5, none⟩ = some (.int .i64 c5.st) := (cell_of_row w8 (V) 5 _ _ _ gV).trans rfl
           have p6 : w8.cell? ⟨V, 6, none⟩ = some (.int .i64 c5.id) := (cell_of_row w8 (V) 6 _ _ _ gV).trans rfl
           have pf := fun o => frozen_of_row w8 (V) o _ _ gV
           have r0 : w8.cell? ⟨w.heap.size, 0, none⟩ = some (.slice none 0 0) := (cell_of_row w8 (w.heap.size) 0 _ _ _ gR).trans rfl
           have r1 : w8.cell? ⟨w.heap.size, 1, none⟩ = some (.int .i64 0) := (cell_of_row w8 (w.heap.size) 1 _ _ _ gR).trans rfl
           have r2 : w8.cell? ⟨w.heap.size, 2, none⟩ = some (.slice none 0 0) := (cell_of_row w8 (w.heap.size) 2 _ _ _ gR).trans rfl
           have r3 : w8.cell? ⟨w.heap.size, 3, none⟩ = some (.slice none 0 0) := (cell_of_row w8 (w.heap.size) 3 _ _ _ gR).trans rfl
           have r4 : w8.cell? ⟨w.heap.size, 4, none⟩ = some (.bool false) := (cell_of_row w8 (w.heap.size) 4 _ _ _ gR).trans rfl
           have r5 : w8.cell? ⟨w.heap.size, 5, none⟩ = some (.int .i64 0) := (cell_of_row w8 (w.heap.size) 5 _ _ _ gR).trans rfl
           have r6 : w8.cell? ⟨w.heap.size, 6, none⟩ = some (.int .i64 0) := (cell_of_row w8 (w.heap.size) 6 _ _ _ gR).trans rfl
           have rf := fun o => frozen_of_row w8 (w.heap.size) o _ _ gR
           clear hown8 hgrow8 hat8 gV gR gz x0 x1 x2 x3 x4 x5 x6 xf y0 y1 y2 y3 y4 y5 y6 yf))
      all_goals go_wp2_with fail
      all_goals
        obtain ⟨hown8, hgrow8, hat8⟩ := HA8.out
        obtain ⟨Lz, cz, hvz, hcz⟩ := hown8.slice
        subst hvz
        have hGR : Grew (fun x => x = w.heap.size) w8 ((((((((w8.setCell ⟨w.heap.size, 0, none⟩ (.slice A5 c5.ts.length a5)).setCell ⟨w.heap.size, 1, none⟩ (.int .i64 g)).setCell ⟨w.heap.size, 2, none⟩ (.slice B5 c5.dn.length b5)).setCell ⟨w.heap.size, 3, none⟩ (.slice (some ⟨e5, o5, none⟩) m q5)).setCell ⟨w.heap.size, 4, none⟩ (.bool c5.over)).setCell ⟨w.heap.size, 5, none⟩ (.int .i64 c5.st)).setCell ⟨w.heap.size, 6, none⟩ (.int .i64 c5.id))) := (Grew.setCell (S := fun x => x = w.heap.size) (p := ⟨w.heap.size, 6, none⟩) (Grew.setCell (S := fun x => x = w.heap.size) (p := ⟨w.heap.size, 5, none⟩) (Grew.setCell (S := fun x => x = w.heap.size) (p := ⟨w.heap.size, 4, none⟩) (Grew.setCell (S := fun x => x = w.heap.size) (p := ⟨w.heap.size, 3, none⟩) (Grew.setCell (S := fun x => x = w.heap.size) (p := ⟨w.heap.size, 2, none⟩) (Grew.setCell (S := fun x => x = w.heap.size) (p := ⟨w.heap.size, 1, none⟩) (Grew.setCell (S := fun x => x = w.heap.size) (p := ⟨w.heap.size, 0, none⟩) (Grew.refl _ _) rfl _) rfl _) rfl _) rfl _) rfl _) rfl _) rfl _)
        refine bodyPost_ret (v := .tuple #[crewV A5 B5 e5 o5 a5 b5 q5 g m c5, .slice Lz (evs ++ ds).length cz, .int .i64 0]) (by simp [results, Try.results44, go_sem]; go_simp) rfl ?_
        rw [HW2.out]
        refine ⟨A5, B5, Lz, e5, o5, a5, b5, q5, cz, HC5.out.1, rfl, ?_, ?_, ?_⟩
        · exact (((HC7.out.ext (Ext.refl _).drew).grew ((Wr.grown hgrow8).mono (fun x _ hx => .inr (.inr hx)))).grew (hGR.mono (fun x _ hx => .inl hx))).at_ m1
        · exact (hown8.grew hGR (fun x hx e => by have := (hown8.lt x hx).1; have := HD.out.vl; omega)).mono (by have := HD.out.vl; omega)
        · exact hGR.toExt (Wr.toExt (Wr.grown hgrow8) (HE7.out.trans (Ext.refl _).drew) (fun x hx => by have := (HRL.out x hx).1; have := HD.out.vl; omega)) (fun x hx => by omega)
end Go.Proofs.Ytggjjjfdkgfoiaa

/- The document's Leaves (ref06). -/
namespace Go.Proofs.Ytggjjjfdkgfoiaa
open Go.BigFrame
open Go.RowKit Go.Proofs.Ytggjjjfdkgfoiaa.Plain

/-- units from .. up to .. -/
def kSpan : Kd (Int × Int) where
  t := 81
  e := 70
  n := 2
  cells := fun x => [.int .i64 x.1, .int .i64 x.2]
  ok := fun x => in64 x.1 ∧ in64 x.2
  d := (0, 0)
  z := .agg #[.int .i64 0, .int .i64 0]
  bytes := 16
  ht := Try.underlying81
  info := by kernel_rfl
  hzs := rfl
  pos := by decide
  small := by decide
  len := fun _ => rfl
  one := fun a u hu => by simp at hu; rcases hu with rfl | rfl <;> rfl
/-- leaves, as they came -/
def Plain.leavesL (ts : List Tk) (evs : List Ev) : List (Int × Int) := evs.flatMap fun e => if e.tk < 0 ∨ e.pt = true then [] else [((T ts e.tk.toNat).lo, (T ts e.tk.toNat).hi)]
theorem Plain.leavesL_app (ts : List Tk) (a b : List Ev) : leavesL ts (a ++ b) = leavesL ts a ++ leavesL ts b := by unfold leavesL; rw [List.flatMap_append]
theorem Plain.order_leaves (ts : List Tk) : ∀ evs : List Ev, orderL ts evs = (leavesL ts evs).flatMap fun s => List.range' s.1.toNat (s.2.toNat - s.1.toNat)
  | [] => rfl
  | e :: r => by
    have h := order_leaves ts r
    unfold orderL leavesL at h ⊢
    rw [List.flatMap_cons, List.flatMap_cons, List.flatMap_append, h]
    congr 1
    split
    · rfl
    · simp [unitsOf]
theorem Plain.leavesL_take (ts : List Tk) (evs : List Ev) (k : Nat) (hk : k < evs.length) : leavesL ts (evs.take (k + 1)) = leavesL ts (evs.take k) ++ (if (evs.getD k ev0).tk < 0 ∨ (evs.getD k ev0).pt = true then [] else [((T ts (evs.getD k ev0).tk.toNat).lo, (T ts (evs.getD k ev0).tk.toNat).hi)]) := by
  rw [List.take_succ_eq_append_getElem hk, leavesL_app, List.getD_eq_getElem?_getD, List.getElem?_eq_getElem hk]
  simp [leavesL]
theorem Plain.leavesL_len (ts : List Tk) (evs : List Ev) : (leavesL ts evs).length ≤ evs.length := by
  induction evs with
  | nil => simp [leavesL]
  | cons e r ih =>
    have h : leavesL ts (e :: r) = leavesL ts [e] ++ leavesL ts r := leavesL_app ts [e] r
    have h2 : (leavesL ts [e]).length ≤ 1 := by unfold leavesL; simp only [List.flatMap_cons, List.flatMap_nil, List.append_nil]; split <;> simp
    rw [h, List.length_append, List.length_cons]; omega
theorem Rd.evs {w : World} {A : Option Addr} {n c : Nat} {xs : List Ev} (h : Rd kEv w (.slice A n c) xs) (hl : 0 < xs.length) : ∃ b off, A = some ⟨b, off, none⟩ ∧ ∀ j, j < xs.length → w.cell? ⟨b, off + j * 4, none⟩ = some (.int .i64 (xs.getD j ev0).wk) ∧ w.cell? ⟨b, off + j * 4 + 1, none⟩ = some (.int .i64 (xs.getD j ev0).fr) ∧ w.cell? ⟨b, off + j * 4 + 2, none⟩ = some (.int .i64 (xs.getD j ev0).tk) ∧ w.cell? ⟨b, off + j * 4 + 3, none⟩ = some (.bool (xs.getD j ev0).pt) := by
  obtain ⟨b, off, rfl, hcc⟩ := h.cells hl
  exact ⟨b, off, rfl, fun j hj => ⟨by have := hcc j hj 0 _ rfl; simpa [kEv] using this, by have := hcc j hj 1 _ rfl; simpa [kEv] using this, by have := hcc j hj 2 _ rfl; simpa [kEv] using this, by have := hcc j hj 3 _ rfl; simpa [kEv] using this⟩⟩

set_option maxHeartbeats 1600000 in
set_option maxRecDepth 100000 in
theorem rleaves_any (A B L : Option Addr) (e0 eo a b e g m l : Nat) (c : Cw) (evs : List Ev) (w : World) (hC : CrewAt w m c A B e0 eo a b) (hE : Rd kEv w (.slice L evs.length l) evs) (hl : evs.length ≤ 100000) (hin : evsIn c.ts.length evs) :
    Calls Try.prog 45 #[crewV A B e0 eo a b e g m c, .slice L evs.length l] w fun ed w' => ∃ v, ed = .returned v ∧ Ow kSpan w.heap.size w' v (leavesL c.ts evs) ∧ Ext w w' := by
  have HT := Lib.hid hC.tsk.rd
  have HE := Lib.hid hE
  have HIN := Lib.hid hin
  have hl' : (evs.length : Int) ≤ 100000 := by omega
  clear hC hE hin
  go_enter Try.func45, Try.ntmps45
  go_wp2_with fail
  have hbx := heap_alloc_new w (.cells #[.slice A c.ts.length a, .int .i64 g, .slice B c.dn.length b, .slice (some ⟨e0, eo, none⟩) m e, .bool c.over, .int .i64 c.st, .int .i64 c.id] 77)
  have HBX := Lib.hid hbx
  have HX1 : Hid (Ext w (w.alloc (.cells #[.slice A c.ts.length a, .int .i64 g, .slice B c.dn.length b, .slice (some ⟨e0, eo, none⟩) m e, .bool c.over, .int .i64 c.st, .int .i64 c.id] 77))) := Lib.hid ((Ext.refl w).alloc _)
  have HW1 : Hid ((w.alloc (.cells #[.slice A c.ts.length a, .int .i64 g, .slice B c.dn.length b, .slice (some ⟨e0, eo, none⟩) m e, .bool c.over, .int .i64 c.st, .int .i64 c.id] 77)).heap.size = w.heap.size + 1) := Lib.hid (by simp)
  generalize w.alloc (.cells #[.slice A c.ts.length a, .int .i64 g, .slice B c.dn.length b, .slice (some ⟨e0, eo, none⟩) m e, .bool c.over, .int .i64 c.st, .int .i64 c.id] 77) = w1 at *
  clear hbx
  go_loopw [5, 6] (fun v i wr => ∃ k : Nat, k ≤ evs.length ∧ i = .int .i64 k ∧ Ow kSpan (w.heap.size + 1) wr v (leavesL c.ts (evs.take k)) ∧ Ext w1 wr) (fun _ i _ => evs.length - (intOf i).toNat)
  case atStart => exact ⟨0, Nat.zero_le _, rfl, Ow.nil _ _, Ext.refl _⟩
  case round =>
    obtain ⟨k, hk, rfl, hO, hX⟩ := hrel
    have HO := Lib.hid hO
    have HX := Lib.hid hX
    have hk0 : (0 : Int) ≤ k := by omega
    clear hO hX
    by_cases hlt : k < evs.length
    · have hlt' : (k : Int) < evs.length := by omega
      obtain ⟨bv, ov, rfl, hcv⟩ := Rd.evs (HE.out.ext (HX1.out.trans HX.out)) (by omega)
      obtain ⟨z0, z1, z2, z3⟩ := hcv k hlt
      have htk := leavesL_take c.ts evs k hlt
      have hint : (evs.getD k ev0).tk < c.ts.length := HIN.out _ (by rw [List.getD_eq_getElem?_getD, List.getElem?_eq_getElem hlt]; exact List.getElem_mem hlt)
      have hok := HE.out.okAt k hlt
      obtain ⟨ev, hev⟩ : ∃ ev, evs.getD k ev0 = ev := ⟨_, rfl⟩
      have hok' : kEv.ok ev := by rw [← hev]; exact hok
      rw [hev] at z0 z1 z2 z3 htk hint
      have HTK := Lib.hid htk
      have lbv : bv < wr.heap.size := World.block_lt_of_cell? _ _ z2
      have hb := block_keep HBX.out HX.out
      have q0 : wr.cell? ⟨w.heap.size, 0, none⟩ = some (.slice A c.ts.length a) := (cell_of_row wr w.heap.size 0 _ _ _ hb).trans rfl
      have hok2 := hok'.2.2
      have hok2' := Lib.hid hok2
      unfold in64 at hok2
      clear htk hok hok' hev hcv hb z0 z1
      by_cases hneg : ev.tk < 0
      · have hd : decide (0 ≤ ev.tk) = false := decide_eq_false (by omega)
        rw [if_pos (.inl hneg), List.append_nil] at HTK
        go_upto_region 5 with fail
        go_quiet (fail)
        go_wp2_with fail
        go_roundw
        case rel => exact ⟨k + 1, by omega, by go_num, by rw [HTK.out]; exact HO.out.ext ((Ext.refl _).drewN _), HX.out.drewN _⟩
        case measure => simp [intOf]; omega
      · have hge : (0 : Int) ≤ ev.tk := by omega
        obtain ⟨K, hK⟩ : ∃ K : Nat, ev.tk = K := ⟨ev.tk.toNat, by omega⟩
        have hKl : K < c.ts.length := by omega
        have hKl' : (K : Int) < c.ts.length := by omega
        have hK0 : (0 : Int) ≤ K := by omega
        rw [hK] at z2
        obtain ⟨bt, ot, rfl, hct⟩ := Rd.tasks (HT.out.ext (HX1.out.trans HX.out)) (by omega)
        obtain ⟨t0, t1, t2, t3⟩ := hct K hKl
        have hkt := HT.out.okAt K hKl
        obtain ⟨tk, htk⟩ : ∃ tk, c.ts.getD K ⟨0, 0, 0, 0⟩ = tk := ⟨_, rfl⟩
        rw [htk] at t0 t1 t2 t3
        have hkt' : kTask.ok tk := by rw [← htk]; exact hkt
        have HKT := Lib.hid hkt'
        have lbt : bt < wr.heap.size := World.block_lt_of_cell? _ _ t0
        have HTT : Hid (T c.ts ev.tk.toNat = tk) := Lib.hid (by rw [hK, Int.toNat_natCast, ← htk]; rfl)
        clear hct hkt hkt' htk
        cases hpt : ev.pt with
        | true =>
          rw [hpt] at z3
          rw [if_pos (.inr hpt), List.append_nil] at HTK
          go_upto_region 5 with fail
          go_quiet (fail)
          go_wp2_with fail
          go_roundw
          case rel => exact ⟨k + 1, by omega, by go_num, by rw [HTK.out]; exact HO.out.ext ((Ext.refl _).drewN _), HX.out.drewN _⟩
          case measure => simp [intOf]; omega
        | false =>
          rw [hpt] at z3
          rw [if_neg (by rw [hpt]; simp; omega)] at HTK
          go_upto_region 5 with fail
          go_quiet (fail)
          generalize hwq : wr.drewN nq = wq at *
          have hEq : Ext wr wq := by rw [← hwq]; exact (Ext.refl _).drewN _
          have HEQ := Lib.hid hEq
          replace q0 := hEq.cell q0
          replace z2 := hEq.cell z2
          replace t0 := hEq.cell t0
          replace t1 := hEq.cell t1
          replace t2 := hEq.cell t2
          replace t3 := hEq.cell t3
          have lq := hEq.size
          have lbv' : bv < wq.heap.size := by omega
          have lbt' : bt < wq.heap.size := by omega
          have lP' : w.heap.size < wq.heap.size := by have := World.block_lt_of_cell? _ _ q0; omega
          clear hwq hEq
          go_upto_region 6 with fail
          go_cut [7] (fun p wx => ∃ X, p = .pointer (some ⟨X, 0, none⟩) ∧ wx.cell? ⟨X, 0, none⟩ = some (.int .i64 tk.lo) ∧ wx.cell? ⟨X, 1, none⟩ = some (.int .i64 tk.hi) ∧ wq.heap.size ≤ X ∧ Ext wq wx)
          case first =>
            go_region
            all_goals go_wp2_with fail
            all_goals go_meet
            all_goals exact ⟨wq.heap.size, rfl, by go_simp, by go_simp, Nat.le_refl _, by repeat (first | exact Ext.refl _ | refine Ext.drew ?_ | refine Ext.drewN ?_ _ | refine Ext.alloc ?_ _ | refine Ext.setCell ?_ (by simp) _)⟩
          case rest =>
          obtain ⟨X, rfl, x0, x1, hXl, hEx⟩ := hcut
          generalize wc = w6 at *
          have HE6 := Lib.hid (HEQ.out.trans hEx)
          have hz6 := hEx.size
          have hrow := HO.out.len
          have HY : Hid (Rd kSpan (w6.alloc (.cells #[.int .i64 tk.lo, .int .i64 tk.hi] 70)) (.slice (some ⟨w6.heap.size, 0, none⟩) 1 1) [(tk.lo, tk.hi)]) := Lib.hid (Ow.rd (K := kSpan) (B := 0) (Ow.lit (K := kSpan) (p := w6.heap.size) (n := 1) w6 [(tk.lo, tk.hi)] #[.int .i64 tk.lo, .int .i64 tk.hi] rfl rfl rfl (Nat.zero_le _) (by simp [maxLen]) (by intro x hx; simp only [List.mem_singleton] at hx; subst hx; exact ⟨HKT.out.1, HKT.out.2.1⟩)))
          have HLL : Hid ((leavesL c.ts (evs.take k)).length + [(tk.lo, tk.hi)].length ≤ 1048576) := Lib.hid (by have := leavesL_len c.ts (evs.take k); rw [List.length_take] at this; simp; omega)
          have hzz := HX1.out.size
          have hzx := HX.out.size
          have hw1 := block_lt HBX.out
          clear hEx hrow q0 z2 t0 t1 t2 t3
          go_wp2_with (at_builtin; refine kSpan.wpList_app (by rfl) (.tmp 50) (.tmp 56) (by rfl) (by rfl) (w.heap.size + 1) _ (leavesL c.ts (evs.take k)) (by rfl) (HO.out.ext (HE6.out.alloc _)) _ [(tk.lo, tk.hi)] (by rfl) HY.out HLL.out (by simp; omega) ?_; intro v' w8 hown8 hgrow8 hat8)
          have H8 := Lib.hid (And.intro hown8 (And.intro hgrow8 hat8))
          clear hown8 hgrow8 hat8
          go_roundw
          case rel =>
            obtain ⟨hown8, hgrow8, hat8⟩ := H8.out
            refine ⟨k + 1, by omega, by go_num, by rw [HTK.out, HTT.out]; exact hown8, ?_⟩
            exact Ext.grown ((HX.out.trans HE6.out).alloc _) hgrow8 (fun x hx => by have := (HO.out.lt x hx).1; have := HW1.out; omega)
          case measure => simp [intOf]; omega
    · obtain rfl : k = evs.length := by omega
      rw [List.take_length] at HO
      go_wp2_with fail
      exact bodyPost_ret (by simp [results, Try.results45, go_sem]) rfl ⟨_, rfl, HO.out.mono (by omega), HX1.out.trans HX.out⟩
end Go.Proofs.Ytggjjjfdkgfoiaa

/- The document's Right and Order of a plan (ref07). -/
namespace Go.Proofs.Ytggjjjfdkgfoiaa
open Go.BigFrame
open Go.RowKit Go.Proofs.Ytggjjjfdkgfoiaa.Plain

/-- may a plan be? -/
def Plain.planB (g m : Int) (np : Nat) : Bool := decide (1 ≤ g) && decide (g ≤ 100) && decide (1 ≤ m) && decide (m ≤ 8) && decide (np ≤ 4000)
theorem Plain.planB_iff (g m : Int) (np : Nat) : planB g m np = true ↔ (1 ≤ g ∧ g ≤ 100 ∧ 1 ≤ m ∧ m ≤ 8 ∧ np ≤ 4000) := by
  unfold planB; simp only [Bool.and_eq_true, decide_eq_true_eq]; constructor <;> intro h <;> omega
/-- units as they are done, how many steps, an error -/
def Plain.ordP (n : Nat) (g m : Int) (picks : List (Int × Int)) : List Nat × Nat × Int :=
  if planB g m picks.length = false then ([], 0, 1) else if n = 0 then ([], 0, 0) else
    (orderL (wholeP g.toNat n m.toNat picks).1.ts (wholeP g.toNat n m.toNat picks).2, (wholeP g.toNat n m.toNat picks).2.length, 0)
abbrev planV (g m : Int) (Ap : Option Addr) (np cp : Nat) : Value := .agg #[.int .i64 g, .int .i64 m, .slice Ap np cp]

set_option maxHeartbeats 800000 in
set_option maxRecDepth 100000 in
theorem rright7_any (g m : Int) (Ap : Option Addr) (np cp : Nat) (w : World) (hg : in64 g) (hm : in64 m) (hn : np ≤ 9223372036854775807) :
    Calls Try.prog 43 #[planV g m Ap np cp] w fun ed w' => ed = .returned (.bool (planB g m np)) ∧ Ext w w' := by
  unfold in64 at hg hm
  have hE : Ext w (w.alloc (.cells #[.int .i64 g, .int .i64 m, .slice Ap np cp] 39)) := (Ext.refl w).alloc _
  go_enter Try.func43, Try.ntmps43
  go_upto_region 1 with fail
  have HE := Lib.hid hE
  by_cases h1 : 1 ≤ g
  · by_cases h2 : g ≤ 100
    · by_cases h3 : 1 ≤ m
      · by_cases h4 : m ≤ 8
        · by_cases h5 : (np : Int) ≤ 4000
          · have e : planB g m np = true := by rw [planB_iff]; omega
            go_wp2_with fail
            all_goals go_ret
            all_goals exact ⟨ret_bool (by first | rfl | (rw [e]; done) | (rw [e]; simp; omega)), HE.out⟩
          · have e : planB g m np = false := by
              rw [← Bool.not_eq_true, planB_iff]; omega
            have d5 : decide ((np : Int) ≤ 4000) = false := decide_eq_false h5
            go_wp2_with fail
            all_goals go_ret
            all_goals exact ⟨ret_bool (by first | rfl | (rw [e]; done) | (rw [e]; simp; omega)), HE.out⟩
        · have e : planB g m np = false := by rw [← Bool.not_eq_true, planB_iff]; omega
          have d5 : decide (m ≤ 8) = false := decide_eq_false h4
          go_wp2_with fail
          all_goals go_ret
          all_goals exact ⟨ret_bool (by first | rfl | (rw [e]; done) | (rw [e]; simp; omega)), HE.out⟩
      · have e : planB g m np = false := by rw [← Bool.not_eq_true, planB_iff]; omega
        have d5 : decide (1 ≤ m) = false := decide_eq_false h3
        go_wp2_with fail
        all_goals go_ret
        all_goals exact ⟨ret_bool (by first | rfl | (rw [e]; done) | (rw [e]; simp; omega)), HE.out⟩
    · have e : planB g m np = false := by rw [← Bool.not_eq_true, planB_iff]; omega
      have d5 : decide (g ≤ 100) = false := decide_eq_false h2
      go_wp2_with fail
      all_goals go_ret
      all_goals exact ⟨ret_bool (by first | rfl | (rw [e]; done) | (rw [e]; simp; omega)), HE.out⟩
  · have e : planB g m np = false := by rw [← Bool.not_eq_true, planB_iff]; omega
    have d5 : decide (1 ≤ g) = false := decide_eq_false h1
    go_wp2_with fail
    all_goals go_ret
    all_goals exact ⟨ret_bool (by first | rfl | (rw [e]; done) | (rw [e]; simp; omega)), HE.out⟩

abbrev Plain.rngS (x : Int × Int) : List Nat := List.range' x.1.toNat (x.2.toNat - x.1.toNat)
theorem Plain.leavesL_bd {ts : List Tk} {evs : List Ev} {n : Nat} (h : ∀ k, k < ts.length → 0 ≤ (T ts k).lo ∧ (T ts k).lo ≤ (T ts k).hi ∧ (T ts k).hi ≤ n) (hin : evsIn ts.length evs) : ∀ x ∈ leavesL ts evs, 0 ≤ x.1 ∧ x.1 ≤ x.2 ∧ x.2 ≤ n := by
  intro x hx
  unfold leavesL at hx
  rw [List.mem_flatMap] at hx
  obtain ⟨e, he, hx⟩ := hx
  have h1 := hin e he
  split at hx
  · cases hx
  · rw [List.mem_singleton] at hx
    subst hx
    exact h _ (by omega)
theorem Plain.flat_split (S : List (Int × Int)) (f : Int × Int → List Nat) (j : Nat) (hj : j < S.length) : (S.flatMap f).length = ((S.take j).flatMap f).length + (f (S.getD j (0, 0))).length + ((S.drop (j + 1)).flatMap f).length ∧ (S.take (j + 1)).flatMap f = (S.take j).flatMap f ++ f (S.getD j (0, 0)) := by
  have e : S.getD j (0, 0) = S[j] := by rw [List.getD_eq_getElem?_getD, List.getElem?_eq_getElem hj]; rfl
  constructor
  · conv => lhs; rw [split_at S j hj]
    rw [List.flatMap_append, List.flatMap_cons, List.length_append, List.length_append, e]; omega
  · rw [List.take_succ_eq_append_getElem hj, List.flatMap_append, e]; simp
theorem Rd.spans {w : World} {A : Option Addr} {n c : Nat} {xs : List (Int × Int)} (h : Rd kSpan w (.slice A n c) xs) (hl : 0 < xs.length) : ∃ b off, A = some ⟨b, off, none⟩ ∧ ∀ j, j < xs.length → w.cell? ⟨b, off + j * 2, none⟩ = some (.int .i64 (xs.getD j (0, 0)).1) ∧ w.cell? ⟨b, off + j * 2 + 1, none⟩ = some (.int .i64 (xs.getD j (0, 0)).2) := by
  obtain ⟨b, off, rfl, hcc⟩ := h.cells hl
  exact ⟨b, off, rfl, fun j hj => ⟨by have := hcc j hj 0 _ rfl; simpa [kSpan] using this, by have := hcc j hj 1 _ rfl; simpa [kSpan] using this⟩⟩
/-- what Order leaves -/
def OrdSaid (r : List Nat × Nat × Int) (w : World) (ed : Ending) (w' : World) : Prop :=
  ∃ (L : Option Addr) (l : Nat), ed = .returned (.tuple #[.slice L r.1.length l, .int .i64 r.2.1, .int .i64 r.2.2]) ∧ Ow kInt w.heap.size w' (.slice L r.1.length l) (zs r.1) ∧ Ext w w'

set_option maxHeartbeats 1600000 in
set_option maxRecDepth 100000 in
theorem rorder_any (n : Nat) (g m : Int) (Ap : Option Addr) (cp : Nat) (picks : List (Int × Int)) (w : World) (hp : Rd kPk w (.slice Ap picks.length cp) picks) (n2 : n ≤ 900) (hg : in64 g) (hm : in64 m) :
    Calls Try.prog 37 #[.int .i64 n, planV g m Ap picks.length cp] w (OrdSaid (ordP n g m picks) w) := by
  have HP := Lib.hid hp
  have HL : Hid (picks.length ≤ 9223372036854775807) := Lib.hid hp.len
  have HGM := Lib.hid (And.intro hg hm)
  have n3 : (n : Int) ≤ 900 := by omega
  have n0 : (0 : Int) ≤ n := by omega
  clear hp hg hm
  go_enter Try.func37, Try.ntmps37
  go_wp2_with fail
  refine (rright7_any g m Ap picks.length cp _ HGM.out.1 HGM.out.2 HL.out).mono ?_
  rintro ed w1 ⟨rfl, hE1⟩
  have hb := block_keep (heap_alloc_new w (.cells #[.int .i64 g, .int .i64 m, .slice Ap picks.length cp] 39)) hE1
  have HB := Lib.hid hb
  have HX1 := Lib.hid (((Ext.refl w).alloc _).trans hE1)
  have q0 : w1.cell? ⟨w.heap.size, 0, none⟩ = some (.int .i64 g) := (cell_of_row w1 w.heap.size 0 _ _ _ hb).trans rfl
  have q1 : w1.cell? ⟨w.heap.size, 1, none⟩ = some (.int .i64 m) := (cell_of_row w1 w.heap.size 1 _ _ _ hb).trans rfl
  have q2 : w1.cell? ⟨w.heap.size, 2, none⟩ = some (.slice Ap picks.length cp) := (cell_of_row w1 w.heap.size 2 _ _ _ hb).trans rfl
  clear hb hE1
  cases hok : planB g m picks.length with
  | false =>
    have e : ordP n g m picks = ([], 0, 1) := by unfold ordP; rw [if_pos hok]
    have HEE := Lib.hid e
    clear e hok
    go_wp2_with fail
    exact bodyPost_ret (v := .tuple #[.slice none 0 0, .int .i64 0, .int .i64 1]) (by simp [results, Try.results37, go_sem]) rfl (by rw [HEE.out]; exact ⟨none, 0, rfl, Ow.nil _ _, HX1.out⟩)
  | true =>
    obtain ⟨p1, p2, p3, p4, p5⟩ := (planB_iff _ _ _).1 hok
    obtain ⟨G, rfl⟩ : ∃ G : Nat, g = G := ⟨g.toNat, by omega⟩
    obtain ⟨M, rfl⟩ : ∃ M : Nat, m = M := ⟨m.toNat, by omega⟩
    by_cases hz : n = 0
    · subst hz
      have e : ordP 0 G M picks = ([], 0, 0) := by unfold ordP; rw [if_neg (by rw [hok]; decide), if_pos rfl]
      have HEE := Lib.hid e
      clear e hok
      go_wp2_with fail
      exact bodyPost_ret (v := .tuple #[.slice none 0 0, .int .i64 0, .int .i64 0]) (by simp [results, Try.results37, go_sem]) rfl (by rw [HEE.out]; exact ⟨none, 0, rfl, Ow.nil _ _, HX1.out⟩)
    · have e : ordP n G M picks = (orderL (wholeP G n M picks).1.ts (wholeP G n M picks).2, (wholeP G n M picks).2.length, 0) := by unfold ordP; rw [if_neg (by rw [hok]; decide), if_neg hz]; rfl
      have hne : ((n : Int) == 0) = false := by simp; omega
      obtain ⟨we1, we2, we3, we4⟩ := whole_ends (g := G) (n := n) (m := M) (by omega) (by omega) (by omega) picks
      have hin := we2.ins
      obtain ⟨dn, hI⟩ := we2.inv
      have hcn := (hI.counts (by omega) (by omega)).2.2.1
      have hevl : (wholeP G n M picks).2.length ≤ 60000 := by
        have h2 : M * (cntT n G + 1) ≤ 8 * 1801 := Nat.mul_le_mul (by omega) (by omega)
        omega
      have hbd : ∀ k, k < (wholeP G n M picks).1.ts.length → 0 ≤ (T (wholeP G n M picks).1.ts k).lo ∧ (T (wholeP G n M picks).1.ts k).lo ≤ (T (wholeP G n M picks).1.ts k).hi ∧ (T (wholeP G n M picks).1.ts k).hi ≤ n := fun k hk => by
        have ht := (CrI.inv hI).task k hk
        omega
      have hol : (orderL (wholeP G n M picks).1.ts (wholeP G n M picks).2).length = n := by rw [we4.length_eq, List.length_range]
      obtain ⟨⟨c, evs⟩, hW⟩ : ∃ x, wholeP G n M picks = x := ⟨_, rfl⟩
      rw [hW] at hin hevl hbd hol e
      simp only at hin hevl hbd hol e
      rw [order_leaves] at hol e
      have hsb : ∀ x ∈ leavesL c.ts evs, 0 ≤ x.1 ∧ x.1 ≤ x.2 ∧ x.2 ≤ n := leavesL_bd hbd hin
      have hsl : (leavesL c.ts evs).length ≤ 60000 := Nat.le_trans (leavesL_len _ _) hevl
      have HEE := Lib.hid e
      have HOL := Lib.hid hol
      have HSB := Lib.hid hsb
      have HIN := Lib.hid hin
      have HEV := Lib.hid hevl
      have HSL := Lib.hid hsl
      have HWW := Lib.hid hW
      have hGn : (0 : Int) ≤ G := by omega
      clear e hok we1 we2 we3 we4 hI hcn hW hin hevl hbd hol hsb hsl
      go_wp2_with fail
      refine (rwhole_any n G M Ap cp picks w1 (HP.out.ext HX1.out) (by omega) n2 (by omega) (by omega) (by omega) (by omega) p5).mono ?_
      rw [HWW.out]
      rintro ed w2 ⟨A1, B1, L1, e0, o1, a1, b1, e1, l1, hme, rfl, hC, hO, hE2⟩
      simp only at hC hO ⊢
      have HC := Lib.hid hC
      have HO := Lib.hid hO
      have HX2 := Lib.hid (HX1.out.trans hE2)
      clear hC hO hE2 q0 q1 q2
      go_wp2_with fail
      refine (rleaves_any A1 B1 L1 e0 o1 a1 b1 e1 G M l1 c evs _ (HC.out.ext ((Ext.refl _).alloc _)) (HO.out.rd.ext ((Ext.refl _).alloc _)) (by have := HEV.out; omega) HIN.out).mono ?_
      rintro ed w3 ⟨vs, rfl, hS, hE3⟩
      obtain ⟨S, hSS⟩ : ∃ S, leavesL c.ts evs = S := ⟨_, rfl⟩
      rw [hSS] at hS HEE HOL HSB HSL
      obtain ⟨Ls, ls, hv, hls⟩ := hS.slice
      subst hv
      have HS := Lib.hid hS.rd
      have HX3 := Lib.hid ((HX2.out.alloc _).trans hE3)
      have hsl' : (S.length : Int) ≤ 60000 := by have := HSL.out; omega
      clear hS hE3 hls
      go_wp2_with fail
      go_loopw [10, 12] (fun v i wr => ∃ j : Nat, j ≤ S.length ∧ i = .int .i64 j ∧ Ow kInt w3.heap.size wr v (zs ((S.take j).flatMap rngS)) ∧ Ext w3 wr) (fun _ i _ => S.length - (intOf i).toNat)
      case atStart => exact ⟨0, Nat.zero_le _, rfl, Ow.nil _ _, Ext.refl _⟩
      case round =>
        obtain ⟨j, hj, rfl, hO, hX⟩ := hrel
        have HO5 := Lib.hid hO
        have HX5 := Lib.hid hX
        have hj0 : (0 : Int) ≤ j := by omega
        clear hO hX
        by_cases hlt : j < S.length
        · have hlt' : (j : Int) < S.length := by omega
          obtain ⟨bs, os, rfl, hcs⟩ := Rd.spans HS.out (by omega)
          obtain ⟨z0, z1⟩ := hcs j hlt
          have hmem : S.getD j (0, 0) ∈ S := by rw [List.getD_eq_getElem?_getD, List.getElem?_eq_getElem hlt]; exact List.getElem_mem hlt
          obtain ⟨fl1, fl2⟩ := flat_split S rngS j hlt
          obtain ⟨b1', b2', b3'⟩ := HSB.out _ hmem
          obtain ⟨⟨lo, hi⟩, hlh⟩ : ∃ x, S.getD j (0, 0) = x := ⟨_, rfl⟩
          rw [hlh] at z0 z1 fl1 fl2 b1' b2' b3'
          simp only at z0 z1 b1' b2' b3'
          obtain ⟨Lo, rfl⟩ : ∃ x : Nat, lo = x := ⟨lo.toNat, by omega⟩
          obtain ⟨Hi, rfl⟩ : ∃ x : Nat, hi = x := ⟨hi.toNat, by omega⟩
          have hpre : ((S.take j).flatMap rngS).length + (Hi - Lo) ≤ 900 := by
            have h9 := HOL.out
            change (S.flatMap rngS).length = n at h9
            have e9 : (rngS ((Lo : Int), (Hi : Int))).length = Hi - Lo := by simp [rngS]
            omega
          have HFL := Lib.hid fl2
          have HPRE := Lib.hid hpre
          have lbs : bs < w3.heap.size := World.block_lt_of_cell? _ _ z0
          have HZ1 := Lib.hid z1
          replace z0 := HX5.out.cell z0
          replace z1 := HX5.out.cell z1
          have hll : Lo ≤ Hi := by omega
          have hhi : (Hi : Int) ≤ 900 := by omega
          clear hcs hmem fl1 fl2 hlh hpre
          go_wp2_with fail
          go_loopw [10, 13] (fun v i wr' => ∃ u : Nat, Lo ≤ u ∧ u ≤ Hi ∧ i = .int .i64 u ∧ Ow kInt w3.heap.size wr' v (zs ((S.take j).flatMap rngS ++ List.range' Lo (u - Lo))) ∧ Ext w3 wr') (fun _ i _ => Hi - (intOf i).toNat)
          case atStart => exact ⟨Lo, Nat.le_refl _, hll, rfl, by simpa using HO5.out, HX5.out⟩
          case round =>
            obtain ⟨u, hu1, hu2, rfl, hO, hX⟩ := hrel
            have z1 := hX.cell HZ1.out
            have HO6 := Lib.hid hO
            have HX6 := Lib.hid hX
            have hu0 : (0 : Int) ≤ u := by omega
            clear hO hX
            by_cases hul : u < Hi
            · have hul' : (u : Int) < Hi := by omega
              have HY : ∀ w6 : World, Rd kInt (w6.alloc (.cells #[.int .i64 u] 3)) (.slice (some ⟨w6.heap.size, 0, none⟩) 1 1) [(u : Int)] := fun w6 => Ow.rd (K := kInt) (B := 0) (Ow.lit (K := kInt) (p := w6.heap.size) (n := 1) w6 [(u : Int)] #[.int .i64 u] rfl rfl rfl (Nat.zero_le _) (by simp [maxLen]) (by intro x hx; simp only [List.mem_singleton] at hx; subst hx; exact in64_nat u (by omega)))
              have HYY := Lib.hid HY
              have HLL : Hid ((zs ((S.take j).flatMap rngS ++ List.range' Lo (u - Lo))).length + [(u : Int)].length ≤ 1048576) := Lib.hid (by have := HPRE.out; rw [zs_len, List.length_append, List.length_range', List.length_singleton]; omega)
              have hz6 := HX6.out.size
              clear HY
              go_wp2_with (at_builtin; refine kInt.wpList_app (by rfl) (.tmp 65) (.tmp 67) (by rfl) (by rfl) w3.heap.size _ (zs ((S.take j).flatMap rngS ++ List.range' Lo (u - Lo))) (by rfl) (HO6.out.ext ((Ext.refl _).alloc _)) _ [(u : Int)] (by rfl) (HYY.out _) HLL.out (by simp; omega) ?_; intro v' w8 hown8 hgrow8 hat8)
              have H8 := Lib.hid (And.intro hown8 (And.intro hgrow8 hat8))
              clear hown8 hgrow8 hat8
              go_roundw
              case rel =>
                obtain ⟨hown8, hgrow8, hat8⟩ := H8.out
                refine ⟨u + 1, by omega, by omega, by go_num, ?_, ?_⟩
                · rw [show u + 1 - Lo = (u - Lo) + 1 by omega, List.range'_1_concat, show Lo + (u - Lo) = u by omega, ← List.append_assoc, zs_app]
                  exact hown8
                · exact Ext.grown (HX6.out.alloc _) hgrow8 (fun x hx => (HO6.out.lt x hx).1)
              case measure => simp [intOf]; omega
            · obtain rfl : u = Hi := by omega
              go_wp2_with fail
              go_roundw
              case rel => exact ⟨j + 1, by omega, by go_num, by rw [HFL.out]; exact HO6.out, HX6.out⟩
              case measure => simp [intOf]; omega
        · obtain rfl : j = S.length := by omega
          rw [List.take_length] at HO5
          have HXX := Lib.hid (HX3.out.trans HX5.out)
          have hzz := HX3.out.size
          obtain ⟨Lz, lz, hv, hlz⟩ := HO5.out.slice
          subst hv
          go_wp2_with fail
          refine bodyPost_ret (v := .tuple #[.slice Lz (zs (S.flatMap rngS)).length lz, .int .i64 evs.length, .int .i64 0]) (by simp [results, Try.results37, go_sem]) rfl (by rw [HEE.out]; exact ⟨Lz, lz, by rw [zs_len], by have := HO5.out.mono (B' := w.heap.size) (by omega); rw [zs_len] at this; exact this, HXX.out⟩)
end Go.Proofs.Ytggjjjfdkgfoiaa

/- The document's One (ref07): what is done to a cell. -/
namespace Go.Proofs.Ytggjjjfdkgfoiaa
open Go.BigFrame
open Go.RowKit Go.Proofs.Ytggjjjfdkgfoiaa.Plain

end Go.Proofs.Ytggjjjfdkgfoiaa

/- The document's Words and Fill (ref07). -/
namespace Go.Proofs.Ytggjjjfdkgfoiaa
open Go.BigFrame
open Go.RowKit Go.Proofs.Ytggjjjfdkgfoiaa.Plain

theorem Plain.ordP_err (n : Nat) (g m : Int) (picks : List (Int × Int)) : (ordP n g m picks).2.2 = 0 ∨ (ordP n g m picks).2.2 = 1 := by
  unfold ordP
  split
  · exact .inr rfl
  · split
    · exact .inl rfl
    · exact .inl rfl
end Go.Proofs.Ytggjjjfdkgfoiaa

/- The document's Zip (ref07). -/
namespace Go.Proofs.Ytggjjjfdkgfoiaa
open Go.BigFrame
open Go.RowKit Go.Proofs.Ytggjjjfdkgfoiaa.Plain

end Go.Proofs.Ytggjjjfdkgfoiaa

/- The document's Count. -/
namespace Go.Proofs.Ytggjjjfdkgfoiaa
open Go.RowKit Go.Proofs.Ytggjjjfdkgfoiaa.Plain

end Go.Proofs.Ytggjjjfdkgfoiaa

/- The document's Bound (ref06) and Once (ref07). -/
namespace Go.Proofs.Ytggjjjfdkgfoiaa
open Go.BigFrame
open Go.RowKit Go.Proofs.Ytggjjjfdkgfoiaa.Plain

/-- numbers from 0 on, by a rule -/
def Plain.byL (n : Nat) (f : Nat → Int) : List Int := (List.range n).map f
theorem Plain.byL_len (n : Nat) (f : Nat → Int) : (byL n f).length = n := by simp [byL]
theorem Plain.byL_getD (n : Nat) (f : Nat → Int) (j : Nat) (hj : j < n) : (byL n f).getD j 0 = f j := by
  unfold byL
  rw [List.getD_eq_getElem?_getD, List.getElem?_map, List.getElem?_range hj]; rfl
theorem Plain.byL_set (n : Nat) (f : Nat → Int) (j : Nat) (v : Int) : (byL n f).set j v = byL n (fun u => if u = j then v else f u) := by
  unfold byL
  apply List.ext_getElem?
  intro i
  rw [List.getElem?_set, List.getElem?_map, List.getElem?_map]
  by_cases hi : i < n
  · rw [List.getElem?_range hi]
    by_cases hij : j = i
    · subst hij
      rw [if_pos rfl, if_pos (by simpa using hi)]
      simp
    · rw [if_neg hij]
      simp [Ne.symm hij]
  · rw [List.getElem?_eq_none (by simpa using hi)]
    by_cases hij : j = i
    · subst hij
      rw [if_pos rfl, if_neg (by simpa using hi)]; simp
    · rw [if_neg hij]; simp
theorem Plain.byL_congr (n : Nat) (f h : Nat → Int) (e : ∀ u, u < n → f u = h u) : byL n f = byL n h := List.map_congr_left fun u hu => e u (List.mem_range.1 hu)
theorem Plain.byL_zs (n : Nat) : byL n (fun u => (u : Int)) = zs (List.range n) := rfl
theorem Plain.byL_zero (n : Nat) : byL n (fun _ => 0) = List.replicate n 0 := by simp [byL, List.map_const']

end Go.Proofs.Ytggjjjfdkgfoiaa

/- The document's Once (ref07), of whatever list. -/
namespace Go.Proofs.Ytggjjjfdkgfoiaa
open Go.BigFrame
open Go.RowKit Go.Proofs.Ytggjjjfdkgfoiaa.Plain

/-- is each number from 0 to below n there once? -/
def Plain.onceB (l : List Int) (n : Nat) : Bool := decide (l.length = n) && l.all (fun x => decide (0 ≤ x) && decide (x < n)) && (List.range n).all (fun k => decide ((k : Int) ∈ l))
theorem Plain.perm_of_all : ∀ (n : Nat) (os : List Nat), os.length = n → (∀ k, k < n → k ∈ os) → os.Perm (List.range n)
  | 0, os, h, _ => by rw [List.eq_nil_of_length_eq_zero h]; exact List.Perm.refl _
  | n + 1, os, h, ha => by
    obtain ⟨a, b, rfl⟩ := List.append_of_mem (ha n (by omega))
    have h1 : (a ++ b).length = n := by rw [List.length_append, List.length_cons] at h; rw [List.length_append]; omega
    have h2 := Plain.perm_of_all n (a ++ b) h1 (fun k hk => by
      have h3 := ha k (by omega)
      rw [List.mem_append, List.mem_cons] at h3
      rw [List.mem_append]
      rcases h3 with h3 | h3 | h3
      · exact .inl h3
      · omega
      · exact .inr h3)
    rw [List.range_succ]
    exact (List.perm_middle (l₁ := a) (l₂ := b) (a := n)).trans ((h2.cons n).trans (List.perm_append_comm (l₁ := [n]) (l₂ := List.range n)))
theorem Plain.onceB_iff (l : List Int) (n : Nat) : onceB l n = true ↔ ∃ os : List Nat, l = zs os ∧ os.Perm (List.range n) := by
  unfold onceB
  rw [Bool.and_eq_true, Bool.and_eq_true, decide_eq_true_eq, List.all_eq_true, List.all_eq_true]
  constructor
  · rintro ⟨⟨h1, h2⟩, h3⟩
    have hz : l = zs (l.map Int.toNat) := by
      unfold zs
      rw [List.map_map]
      conv => lhs; rw [← List.map_id l]
      refine List.map_congr_left fun x hx => ?_
      have := h2 x hx
      rw [Bool.and_eq_true, decide_eq_true_eq] at this
      show x = ((x.toNat : Nat) : Int)
      omega
    refine ⟨l.map Int.toNat, hz, perm_of_all n _ (by rw [List.length_map]; exact h1) fun k hk => ?_⟩
    have h4 := h3 k (List.mem_range.2 hk)
    rw [decide_eq_true_eq] at h4
    exact List.mem_map.2 ⟨_, h4, by simp⟩
  · rintro ⟨os, rfl, hp⟩
    refine ⟨⟨by rw [zs_len, hp.length_eq, List.length_range], fun x hx => ?_⟩, fun k hk => ?_⟩
    · unfold zs at hx
      obtain ⟨k, hk, rfl⟩ := List.mem_map.1 hx
      have := List.mem_range.1 (hp.mem_iff.1 hk)
      rw [Bool.and_eq_true, decide_eq_true_eq, decide_eq_true_eq]
      omega
    · rw [decide_eq_true_eq]
      unfold zs
      exact List.mem_map.2 ⟨k, hp.mem_iff.2 hk, rfl⟩

set_option maxHeartbeats 1600000 in
set_option maxRecDepth 100000 in
theorem ronce_full (n : Nat) (l : List Int) (L : Option Addr) (lc : Nat) (w : World) (hl : Rd kInt w (.slice L l.length lc) l) (hn : n ≤ 1000) :
    Calls Try.prog 20 #[.slice L l.length lc, .int .i64 n] w fun ed w' => ed = .returned (.bool (onceB l n)) ∧ Ext w w' := by
  have HLN : Hid (l.length ≤ 9223372036854775807) := Lib.hid hl.len
  have HL := Lib.hid hl
  have hn0 : (0 : Int) ≤ n := by omega
  have hn1 : (n : Int) ≤ 1000 := by omega
  obtain ⟨C, hmk, hmown⟩ := kInt.make 0 rfl (in64_nat 0 (by omega)) n (by omega)
  have HMK := Lib.hid hmown
  have hmk2 : ∀ w : World, (Instr.makeSlice 23 (.int .i64 n) (.int .i64 n)).run Try.prog w = .ok (.slice (some ⟨w.heap.size, 0, none⟩) n n) (w.alloc (.cells C 3)) := hmk
  clear hl hmk hmown
  go_enter Try.func20, Try.ntmps20
  go_wp2_with fail
  go_loopw [5, 6] (fun v i wr => ∃ k : Nat, k ≤ n ∧ i = .int .i64 k ∧ Ow kInt w.heap.size wr v (zs (List.range k)) ∧ Ext w wr) (fun _ i _ => n - (intOf i).toNat)
  case atStart => exact ⟨0, Nat.zero_le _, rfl, Ow.nil _ _, Ext.refl _⟩
  case round =>
    obtain ⟨k, hk, rfl, hO, hX⟩ := hrel
    have HO := Lib.hid hO
    have HX := Lib.hid hX
    have hk0 : (0 : Int) ≤ k := by omega
    clear hO hX
    by_cases hlt : k < n
    · have hlt' : (k : Int) < n := by omega
      have HY : ∀ w6 : World, Rd kInt (w6.alloc (.cells #[.int .i64 k] 3)) (.slice (some ⟨w6.heap.size, 0, none⟩) 1 1) [(k : Int)] := fun w6 => Ow.rd (K := kInt) (B := 0) (Ow.lit (K := kInt) (p := w6.heap.size) (n := 1) w6 [(k : Int)] #[.int .i64 k] rfl rfl rfl (Nat.zero_le _) (by simp [maxLen]) (by intro x hx; simp only [List.mem_singleton] at hx; subst hx; exact in64_nat k (by omega)))
      have HYY := Lib.hid HY
      have HLL : Hid ((zs (List.range k)).length + [(k : Int)].length ≤ 1048576) := Lib.hid (by rw [zs_len, List.length_range, List.length_singleton]; omega)
      have hz6 := HX.out.size
      clear HY
      go_wp2_with (at_builtin; refine kInt.wpList_app (by rfl) (.tmp 15) (.tmp 17) (by rfl) (by rfl) w.heap.size _ (zs (List.range k)) (by rfl) (HO.out.ext ((Ext.refl _).alloc _)) _ [(k : Int)] (by rfl) (HYY.out _) HLL.out (by simp; omega) ?_; intro v' w8 hown8 hgrow8 hat8)
      have H8 := Lib.hid (And.intro hown8 (And.intro hgrow8 hat8))
      clear hown8 hgrow8 hat8
      go_roundw
      case rel =>
        obtain ⟨hown8, hgrow8, hat8⟩ := H8.out
        exact ⟨k + 1, by omega, by go_num, by rw [List.range_succ, zs_app]; exact hown8, Ext.grown (HX.out.alloc _) hgrow8 (fun q hq => (HO.out.lt q hq).1)⟩
      case measure => simp [intOf]; omega
    · obtain rfl : k = n := by omega
      obtain ⟨R, rc, hv, hrc⟩ := HO.out.slice
      subst hv
      rw [zs_len, List.length_range] at HO
      go_wp2_with fail
      have HX3 : Hid (Ext w (wr.alloc (.cells C 3))) := Lib.hid (HX.out.alloc _)
      have HR3 : Hid (Rd kInt (wr.alloc (.cells C 3)) (.slice R k rc) (zs (List.range k))) := Lib.hid (HO.out.rd.ext ((Ext.refl _).alloc _))
      obtain ⟨G, hG⟩ : ∃ G, wr.heap.size = G := ⟨_, rfl⟩
      have HM3 : Hid (Ow kInt G (wr.alloc (.cells C 3)) (.slice (some ⟨G, 0, none⟩) k k) (byL k (fun _ => 0))) := Lib.hid (by rw [byL_zero, ← hG]; exact HMK.out wr wr.heap.size wr.heap.size rfl (Nat.le_refl _))
      have HZ3 : Hid (Ext wr (wr.alloc (.cells C 3))) := Lib.hid ((Ext.refl _).alloc _)
      rw [hG]
      generalize (wr.alloc (.cells C 3)) = w3 at *
      have HGW := Lib.hid hG
      clear hG hmk2
      generalize wr = wa at *
      go_loopw [8] (fun i wq => ∃ j : Nat, j ≤ l.length ∧ i = .int .i64 j ∧ (∀ x ∈ l.take j, 0 ≤ x ∧ x < k) ∧ Ow kInt G wq (.slice (some ⟨G, 0, none⟩) k k) (byL k (fun u => if (u : Int) ∈ l.take j then (u : Int) + 1 else 0)) ∧ Ext wa wq) (fun i _ => l.length - (intOf i).toNat)
      case atStart => exact ⟨0, Nat.zero_le _, rfl, by simp, by simpa using HM3.out, HZ3.out⟩
      case round =>
        obtain ⟨j, hj, rfl, hin, hM, hZ⟩ := hrel
        have HM := Lib.hid hM
        have HZ := Lib.hid hZ
        have HIN := Lib.hid hin
        have hj0 : (0 : Int) ≤ j := by omega
        clear hM hZ hin
        by_cases hlj : j < l.length
        · have hlj' : (j : Int) < l.length := by omega
          obtain ⟨bl, ol, rfl, hcl⟩ := (ints_of_rd (HL.out.ext (HX.out.trans HZ.out))).cells (by omega)
          have z0 := hcl j hlj
          have hok := HL.out.okAt j hlj
          have hmem : l.getD j 0 ∈ l := by rw [List.getD_eq_getElem?_getD, List.getElem?_eq_getElem hlj]; exact List.getElem_mem hlj
          have htk : l.take (j + 1) = l.take j ++ [l.getD j 0] := by rw [List.take_succ_eq_append_getElem hlj, List.getD_eq_getElem?_getD, List.getElem?_eq_getElem hlj]; rfl
          have hok' : in64 (l.getD j 0) := hok
          obtain ⟨x, hx⟩ : ∃ x, l.getD j 0 = x := ⟨_, rfl⟩
          rw [hx] at z0 hmem htk hok'
          have lbl : bl < wr.heap.size := World.block_lt_of_cell? _ _ z0
          by_cases hneg : x < 0
          · have HR : Hid (onceB l k = false) := Lib.hid (by
              rw [← Bool.not_eq_true]
              intro h
              unfold onceB at h
              rw [Bool.and_eq_true, Bool.and_eq_true, List.all_eq_true] at h
              have := h.1.2 x hmem
              rw [Bool.and_eq_true, decide_eq_true_eq] at this
              omega)
            have hd1 : decide (x < 0) = true := decide_eq_true hneg
            have HXX := Lib.hid (HX.out.trans HZ.out)
            clear hcl hok hmem htk hx hok'
            go_wp2_with fail
            try (go_quiet (fail))
            go_wp2_with fail
            go_ret
            exact ⟨ret_bool HR.out.symm, by repeat (first | exact HXX.out | refine Ext.drew ?_ | refine Ext.drewN ?_ _)⟩
          by_cases hbig : (k : Int) ≤ x
          · have HR : Hid (onceB l k = false) := Lib.hid (by
              rw [← Bool.not_eq_true]
              intro h
              unfold onceB at h
              rw [Bool.and_eq_true, Bool.and_eq_true, List.all_eq_true] at h
              have := h.1.2 x hmem
              rw [Bool.and_eq_true, decide_eq_true_eq, decide_eq_true_eq] at this
              omega)
            have hd1 : decide (x < 0) = false := decide_eq_false hneg
            have hd2 : decide ((k : Int) ≤ x) = true := decide_eq_true hbig
            have HXX := Lib.hid (HX.out.trans HZ.out)
            clear hcl hok hmem htk hx hok' hneg
            go_wp2_with fail
            try (go_quiet (fail))
            go_wp2_with fail
            go_ret
            exact ⟨ret_bool HR.out.symm, by repeat (first | exact HXX.out | refine Ext.drew ?_ | refine Ext.drewN ?_ _)⟩
          · obtain ⟨u, rfl⟩ : ∃ u : Nat, x = u := ⟨x.toNat, by omega⟩
            have hun : u < k := by omega
            have HIN2 : Hid (∀ x ∈ l.take (j + 1), 0 ≤ x ∧ x < k) := Lib.hid (by
              intro y hy
              rw [htk, List.mem_append, List.mem_singleton] at hy
              rcases hy with hy | hy
              · exact HIN.out y hy
              · rw [hy]; omega)
            have hset := HM.out.set (j := u) (i := 0) (x := (u : Int) + 1) (u := .int .i64 ((u : Int) + 1)) (by rw [byL_len]; exact hun) (by decide) rfl (by show in64 _; unfold in64; omega)
            rw [byL_set] at hset
            rw [byL_congr _ _ (fun v => if (v : Int) ∈ l.take (j + 1) then (v : Int) + 1 else 0) (fun v hv => by
              rw [htk]
              by_cases hvu : v = u
              · subst hvu; simp
              · have : ((v : Int) = (u : Int)) = False := by simp; omega
                simp [hvu, this])] at hset
            rw [show u * kInt.n + 0 = u from by show u * 1 + 0 = u; omega] at hset
            have HSET := Lib.hid hset
            obtain ⟨g', eg, _, hgl, hgc, hgf⟩ := HM.out.pos (by rw [byL_len]; omega)
            obtain rfl : g' = G := by cases eg; rfl
            have zm := hgc u (by rw [byL_len]; exact hun) 0 _ rfl
            rw [show u * kInt.n + 0 = u from by show u * 1 + 0 = u; omega] at zm
            obtain ⟨ov, hov⟩ : ∃ ov, Value.int IntKind.i64 ((byL k (fun u => if (u : Int) ∈ l.take j then (u : Int) + 1 else 0)).getD u kInt.d) = ov := ⟨_, rfl⟩
            have zm' : wr.cell? ⟨g', u, none⟩ = some ov := by rw [← hov]; exact zm
            have hd1 : decide ((u : Int) < 0) = false := decide_eq_false (by omega)
            have hd2 : decide ((k : Int) ≤ (u : Int)) = false := decide_eq_false (by omega)
            have hu0 : (0 : Int) ≤ u := by omega
            have hu1 : (u : Int) < k := by omega
            have hl9 : (l.length : Int) ≤ 9223372036854775807 := by have := HLN.out; omega
            have hs9 : IntKind.i64.wrap ((u : Int) + 1) = (u : Int) + 1 := IntWalk.i64_in _ (by omega)
            have hmo : Try.prog.follows .mixedOrders = true := by kernel_rfl
            clear hcl hmem htk hset eg zm hov hgc hok hok' hneg hbig hx
            go_upto_region 12 with fail
            go_still_tail 11, hmo
            go_wp2_with fail
            go_roundw
            case rel =>
              exact ⟨j + 1, by omega, by go_num, HIN2.out, HSET.out.ext (Ext.refl _).drew, (HZ.out.setCell (p := ⟨g', u, none⟩) (by rw [HGW.out]; exact Nat.le_refl _) _).drew⟩
            case measure => simp [intOf]; omega
        · obtain rfl : j = l.length := by omega
          have hall := HM.out
          rw [List.take_length] at hall HIN
          have HM4 : Hid (Ow kInt G wr (.slice (some ⟨G, 0, none⟩) k k) (byL k (fun u => if u < 0 then (if (u : Int) ∈ l then (u : Int) else -1) else (if (u : Int) ∈ l then (u : Int) + 1 else 0)))) := Lib.hid (by simpa using hall)
          have HZ4 := Lib.hid HZ.out
          clear hall
          go_wp2_with fail
          generalize wr = wb at *
          go_loopw [9] (fun i wq => ∃ j : Nat, j ≤ k ∧ i = .int .i64 j ∧ Ow kInt G wq (.slice (some ⟨G, 0, none⟩) k k) (byL k (fun u => if u < j then (if (u : Int) ∈ l then (u : Int) else -1) else (if (u : Int) ∈ l then (u : Int) + 1 else 0))) ∧ Ext wa wq) (fun i _ => k - (intOf i).toNat)
          case atStart => exact ⟨0, Nat.zero_le _, rfl, HM4.out, HZ4.out⟩
          case round =>
            obtain ⟨u, hu, rfl, hM, hZ⟩ := hrel
            have HM := Lib.hid hM
            have HZ := Lib.hid hZ
            have hu0 : (0 : Int) ≤ u := by omega
            clear hM hZ
            by_cases hlu : u < k
            · have hlu' : (u : Int) < k := by omega
              obtain ⟨o, ho⟩ : ∃ o : Int, (if (u : Int) ∈ l then (u : Int) + 1 else 0) = o := ⟨_, rfl⟩
              have ho1 : 0 ≤ o ∧ o ≤ 1001 := by rw [← ho]; split <;> omega
              have ho2 : o - 1 = if (u : Int) ∈ l then (u : Int) else -1 := by rw [← ho]; split <;> omega
              have hset := HM.out.set (j := u) (i := 0) (x := o - 1) (u := .int .i64 (o - 1)) (by rw [byL_len]; exact hlu) (by decide) rfl (by show in64 _; unfold in64; omega)
              rw [byL_set] at hset
              rw [byL_congr _ _ (fun v => if v < u + 1 then (if (v : Int) ∈ l then (v : Int) else -1) else (if (v : Int) ∈ l then (v : Int) + 1 else 0)) (fun v hv => by
                by_cases hvu : v = u
                · subst hvu; rw [if_pos rfl, if_pos (show v < v + 1 by omega)]; exact ho2
                · rw [if_neg hvu]
                  by_cases h9 : v < u
                  · rw [if_pos h9, if_pos (show v < u + 1 by omega)]
                  · rw [if_neg h9, if_neg (show ¬ v < u + 1 by omega)])] at hset
              rw [show u * kInt.n + 0 = u from by show u * 1 + 0 = u; omega] at hset
              have HSET := Lib.hid hset
              obtain ⟨g', eg, _, hgl, hgc, hgf⟩ := HM.out.pos (by rw [byL_len]; omega)
              obtain rfl : g' = G := by cases eg; rfl
              have zm := hgc u (by rw [byL_len]; exact hlu) 0 _ rfl
              rw [show u * kInt.n + 0 = u from by show u * 1 + 0 = u; omega] at zm
              have zm' : wr.cell? ⟨g', u, none⟩ = some (.int .i64 o) := by
                rw [zm]
                have h9 := byL_getD k (fun v => if v < u then (if (v : Int) ∈ l then (v : Int) else -1) else (if (v : Int) ∈ l then (v : Int) + 1 else 0)) u hlu
                rw [if_neg (by omega), ho] at h9
                show some (Value.int IntKind.i64 _) = _
                rw [← h9]
                rfl
              obtain ⟨o1, o2⟩ := ho1
              clear hset eg zm hgc ho ho2
              go_wp2_with fail
              go_roundw
              case rel => exact ⟨u + 1, by omega, by go_num, by first | exact HSET.out | (have h9 := HSET.out; simpa using h9), HZ.out.setCell (p := ⟨g', u, none⟩) (by rw [HGW.out]; exact Nat.le_refl _) _⟩
              case measure => simp [intOf]; omega
            · obtain rfl : u = k := by omega
              have hfin := HM.out
              rw [byL_congr _ _ (fun v => if (v : Int) ∈ l then (v : Int) else -1) (fun v hv => if_pos hv)] at hfin
              obtain ⟨ms, hms⟩ : ∃ ms, byL u (fun v => if (v : Int) ∈ l then (v : Int) else -1) = ms := ⟨_, rfl⟩
              have hml : ms.length = u := by rw [← hms, byL_len]
              rw [hms] at hfin
              have HM5 : Hid (Rd kInt wr (.slice (some ⟨G, 0, none⟩) u u) ms) := Lib.hid (hfin.rd)
              have HR5 : Hid (Rd kInt wr (.slice R (zs (List.range u)).length rc) (zs (List.range u))) := Lib.hid (by rw [zs_len, List.length_range]; exact HO.out.rd.ext HZ.out)
              have HX5 := Lib.hid (HX.out.trans HZ.out)
              have HRES : Hid (onceB l u = (decide ((l.length : Int) = (u : Int)) && sameB ms (zs (List.range u)))) := Lib.hid (by
                have e1 : decide ((l.length : Int) = (u : Int)) = decide (l.length = u) := by
                  by_cases h : l.length = u
                  · rw [decide_eq_true h, decide_eq_true (by omega)]
                  · rw [decide_eq_false h, decide_eq_false (by omega)]
                have e2 : l.all (fun x => decide (0 ≤ x) && decide (x < (u : Int))) = true := by
                  rw [List.all_eq_true]
                  intro x hx
                  have := HIN.out x hx
                  rw [Bool.and_eq_true, decide_eq_true_eq, decide_eq_true_eq]; omega
                have e3 : (List.range u).all (fun k => decide ((k : Int) ∈ l)) = sameB ms (zs (List.range u)) := by
                  unfold sameB
                  rw [Bool.eq_iff_iff, List.all_eq_true, decide_eq_true_eq, ← hms, ← byL_zs]
                  constructor
                  · intro h
                    exact byL_congr _ _ _ fun v hv => if_pos (of_decide_eq_true (h v (List.mem_range.2 hv)))
                  · intro h v hv
                    rw [List.mem_range] at hv
                    have h9 : (byL u (fun v => if (v : Int) ∈ l then (v : Int) else -1)).getD v 0 = (byL u (fun v => (v : Int))).getD v 0 := by rw [h]
                    rw [byL_getD _ _ _ hv, byL_getD _ _ _ hv] at h9
                    rw [decide_eq_true_eq]
                    by_cases h8 : (v : Int) ∈ l
                    · exact h8
                    · rw [if_neg h8] at h9; omega
                unfold onceB
                rw [e1, e2, e3, Bool.and_true])
              clear hfin hms
              by_cases hle : (l.length : Int) = (u : Int)
              · have hle' : ((l.length : Int) == (u : Int)) = true := by simp; omega
                rw [decide_eq_true hle, Bool.true_and] at HRES
                clear hle
                go_wp2_with fail
                refine (ints_any _ _ _ _ _ (ints_of_rd HM5.out) (ints_of_rd HR5.out)).mono ?_
                rintro ed w6 ⟨rfl, n6, rfl⟩
                go_wp2_with fail
                go_ret
                exact ⟨ret_bool (by rw [HRES.out]), HX5.out.drewN _⟩
              · have hle' : ((l.length : Int) == (u : Int)) = false := by simp; omega
                rw [decide_eq_false hle, Bool.false_and] at HRES
                go_wp2_with fail
                go_ret
                exact ⟨ret_bool (by rw [HRES.out]), HX5.out⟩
end Go.Proofs.Ytggjjjfdkgfoiaa

/- Plain words of scans: sums of all ahead, the highest, blocks. No program in it. -/
namespace Go.Proofs.Ytggjjjfdkgfoiaa.Plain

/-- the sum, cut to 32 bits -/
def totW (l : List Nat) : Nat := l.sum % 4294967296
theorem totW_lt (l : List Nat) : totW l < 4294967296 := Nat.mod_lt _ (by decide)
theorem totW_snoc (l : List Nat) (x : Nat) : totW (l ++ [x]) = (totW l + x) % 4294967296 := by unfold totW; rw [List.sum_append]; simp
theorem totW_app (l r : List Nat) : totW (l ++ r) = (totW l + totW r) % 4294967296 := by unfold totW; rw [List.sum_append]; simp
def maxL (l : List Nat) : Nat := l.foldl max 0
theorem maxL_snoc (l : List Nat) (x : Nat) : maxL (l ++ [x]) = max (maxL l) x := by unfold maxL; rw [List.foldl_append]; rfl
def sumsW (l : List Nat) : List Nat := byN l.length (fun i => totW (l.take i))
def highW (l : List Nat) : List Nat := byN l.length (fun i => maxL (l.take (i + 1)))
/-- the next one, cut by this one -/
def backF (s : List Nat) (t : Nat) (i : Nat) : Nat := ((if i + 1 < s.length then s.getD (i + 1) 0 else t) + 4294967296 - s.getD i 0) % 4294967296
def backW (s : List Nat) (t : Nat) : List Nat := byN s.length (backF s t)
def blocksP (n : Nat) (b : Int) : Nat := if n ≤ 1000 ∧ 1 ≤ b ∧ b ≤ 100 then (n + b.toNat - 1) / b.toNat else 0
theorem blocksP_le (n : Nat) (b : Int) : blocksP n b ≤ n := by
  unfold blocksP
  split
  · rename_i h
    obtain ⟨B, rfl⟩ : ∃ B : Nat, b = B := ⟨b.toNat, by omega⟩
    rw [Int.toNat_natCast]
    have hB : 1 ≤ B := by omega
    rcases Nat.eq_zero_or_pos n with h0 | h0
    · subst h0
      rw [Nat.div_eq_of_lt (by omega)]; exact Nat.zero_le _
    · apply Nat.div_le_of_le_mul
      have h1 : 1 * (n - 1) ≤ B * (n - 1) := Nat.mul_le_mul_right _ hB
      have h2 : B * n = B * (n - 1) + B := by
        conv => lhs; rw [show n = (n - 1) + 1 by omega]
        rw [Nat.mul_add, Nat.mul_one]
      omega
  · exact Nat.zero_le _
def totalsW (l : List Nat) (b : Int) : List Nat := byN (blocksP l.length b) (fun i => totW ((l.drop (i * b.toNat)).take b.toNat))
/-- how many steps, an error -/
def stepsP (n : Nat) (b g m : Int) (picks : List (Int × Int)) : Nat × Int :=
  if ¬ (1 ≤ b ∧ b ≤ 100) then (0, 1) else if (ordP n g m picks).2.2 ≠ 0 then (0, (ordP n g m picks).2.2) else (2 * (ordP (blocksP n b) g m picks).2.1, 0)
def sumsP (l : List Nat) (b g m : Int) (picks : List (Int × Int)) : List Nat × Nat × Nat × Int :=
  if (stepsP l.length b g m picks).2 ≠ 0 then ([], 0, 0, (stepsP l.length b g m picks).2) else (sumsW l, totW l, (stepsP l.length b g m picks).1, 0)
def highP (l : List Nat) (b g m : Int) (picks : List (Int × Int)) : List Nat × Nat × Int :=
  if (stepsP l.length b g m picks).2 ≠ 0 then ([], 0, (stepsP l.length b g m picks).2) else (highW l, (stepsP l.length b g m picks).1, 0)
/-- an order's error is the plan's -/
theorem ordP_err_any (n k : Nat) (g m : Int) (picks : List (Int × Int)) (h : (ordP n g m picks).2.2 = 0) : (ordP k g m picks).2.2 = 0 := by
  unfold ordP at h ⊢
  by_cases hb : planB g m picks.length = false
  · rw [if_pos hb] at h; cases h
  · rw [if_neg hb]
    split <;> rfl
theorem ordP_steps (n : Nat) (g m : Int) (picks : List (Int × Int)) (hn : n ≤ 900) : (ordP n g m picks).2.1 ≤ picks.length + 16008 := by
  rcases ordP_err n g m picks with h | h
  · obtain ⟨⟨os, st, er⟩, hr⟩ : ∃ x, ordP n g m picks = x := ⟨_, rfl⟩
    rw [hr] at h ⊢
    simp only at h ⊢
    subst h
    unfold ordP at hr
    split at hr
    · simp at hr
    · rename_i hb
      have hb' : planB g m picks.length = true := by simpa using hb
      obtain ⟨h1, h2, h3, h4, h5⟩ := (planB_iff _ _ _).1 hb'
      split at hr
      · simp at hr; omega
      · rename_i hz
        simp only [Prod.mk.injEq] at hr
        obtain ⟨_, rfl, _⟩ := hr
        obtain ⟨w1, w2, w3, w4⟩ := whole_ends (g := g.toNat) (n := n) (m := m.toNat) (by omega) (by omega) (by omega) picks
        have h9 : cntT n g.toNat ≤ 2000 := (count_ok n g.toNat (by omega) (by omega) (by omega) (by omega)).2.2.1
        have h8 : m.toNat * (cntT n g.toNat + 1) ≤ 8 * 2001 := Nat.mul_le_mul (by omega) (by omega)
        omega
  · unfold ordP at h ⊢
    split
    · exact Nat.zero_le _
    · split
      · exact Nat.zero_le _
      · rename_i h1 h2
        rw [if_neg h1, if_neg h2] at h; cases h
theorem stepsP_err (n : Nat) (b g m : Int) (picks : List (Int × Int)) : (stepsP n b g m picks).2 = 0 ∨ (stepsP n b g m picks).2 = 1 := by
  unfold stepsP
  split
  · exact .inr rfl
  · split
    · exact ordP_err _ _ _ _
    · exact .inl rfl
end Go.Proofs.Ytggjjjfdkgfoiaa.Plain

/- Plain words of packing: what is kept, where, and spread again. No program in it. -/
namespace Go.Proofs.Ytggjjjfdkgfoiaa.Plain

/-- without an error: so many steps at most -/
theorem stepsP_bd (n : Nat) (b g m : Int) (picks : List (Int × Int)) (hn : n ≤ 900) (h : (stepsP n b g m picks).2 = 0) : (stepsP n b g m picks).1 ≤ 60000 ∧ (ordP n g m picks).2.2 = 0 ∧ (ordP n g m picks).2.1 ≤ 30000 := by
  unfold stepsP at h ⊢
  split at h
  · cases h
  · rename_i h1
    rw [if_neg h1]
    split at h
    · rename_i h2; exact absurd h h2
    · rename_i h2
      rw [if_neg h2]
      have h3 : (ordP n g m picks).2.2 = 0 := by simpa using h2
      have h4 : picks.length ≤ 4000 := by
        unfold ordP at h3
        by_cases hb : planB g m picks.length = false
        · rw [if_pos hb] at h3; cases h3
        · exact ((planB_iff _ _ _).1 (by simpa using hb)).2.2.2.2
      have h5 := ordP_steps n g m picks hn
      have h6 := ordP_steps (blocksP n b) g m picks (Nat.le_trans (blocksP_le n b) hn)
      refine ⟨?_, h3, by omega⟩
      show 2 * (ordP (blocksP n b) g m picks).2.1 ≤ 60000
      omega
end Go.Proofs.Ytggjjjfdkgfoiaa.Plain

/- Plain words of sorting: digits, a pass, all passes, the order of the keys. No program in it. -/
namespace Go.Proofs.Ytggjjjfdkgfoiaa.Plain
/-- how many digits there are -/
def passesP (b : Int) : Nat := if b < 1 ∨ 16 < b then 0 else (31 + b.toNat) / b.toNat
/-- a key's digit -/
def digitP (key : Nat) (p b : Int) : Nat := if p < 0 ∨ (passesP b : Int) ≤ p then 0 else key / 2 ^ (p.toNat * b.toNat) % 2 ^ b.toNat
/-- from the end on back, to behind the first one that isn't more -/
def backTo (f : Nat → Nat) (out : List Nat) (x : Nat) : Nat → Nat
  | 0 => 0
  | k + 1 => if f x < f (out.getD k 0) then backTo f out x k else k + 1
theorem backTo_le (f : Nat → Nat) (out : List Nat) (x : Nat) : ∀ k, backTo f out x k ≤ k
  | 0 => Nat.le_refl _
  | k + 1 => by
    unfold backTo
    split
    · exact Nat.le_succ_of_le (backTo_le f out x k)
    · exact Nat.le_refl _
/-- all behind it are more; the one ahead isn't -/
theorem backTo_more (f : Nat → Nat) (out : List Nat) (x : Nat) : ∀ k j, backTo f out x k ≤ j → j < k → f x < f (out.getD j 0)
  | 0, j, _, h => by omega
  | k + 1, j, h1, h2 => by
    unfold backTo at h1
    split at h1
    · rename_i h
      rcases Nat.lt_or_ge j k with h3 | h3
      · exact backTo_more f out x k j h1 h3
      · obtain rfl : j = k := by omega
        exact h
    · omega
theorem backTo_last (f : Nat → Nat) (out : List Nat) (x : Nat) : ∀ k, 0 < backTo f out x k → f (out.getD (backTo f out x k - 1) 0) ≤ f x
  | 0, h => by simp [backTo] at h
  | k + 1, h => by
    unfold backTo at h ⊢
    split at h
    · rename_i h1
      rw [if_pos h1]
      exact backTo_last f out x k h
    · rename_i h1
      rw [if_neg h1, Nat.add_sub_cancel]
      omega
/-- each behind all that have no more -/
def insP (f : Nat → Nat) (out : List Nat) (x : Nat) : List Nat := out.take (backTo f out x out.length) ++ [x] ++ out.drop (backTo f out x out.length)
def insAll (f : Nat → Nat) (l : List Nat) : List Nat := l.foldl (insP f) []
theorem insP_len (f : Nat → Nat) (out : List Nat) (x : Nat) : (insP f out x).length = out.length + 1 := by
  have := backTo_le f out x out.length
  unfold insP
  simp only [List.length_append, List.length_take, List.length_drop, List.length_singleton]; omega
theorem insP_perm (f : Nat → Nat) (out : List Nat) (x : Nat) : (insP f out x).Perm (out ++ [x]) := by
  unfold insP
  rw [List.append_assoc]
  refine (List.perm_middle (l₁ := out.take (backTo f out x out.length)) (l₂ := out.drop (backTo f out x out.length)) (a := x)).trans ?_
  rw [List.take_append_drop]
  exact (List.perm_append_comm (l₁ := [x]) (l₂ := out))
theorem insAll_snoc (f : Nat → Nat) (l : List Nat) (x : Nat) : insAll f (l ++ [x]) = insP f (insAll f l) x := by unfold insAll; rw [List.foldl_append]; rfl
theorem list_snoc {α : Type} (l : List α) (h : l ≠ []) : ∃ m x, l = m ++ [x] := ⟨l.dropLast, l.getLast h, (List.dropLast_concat_getLast h).symm⟩
/-- what is first by f, then as it stood -/
abbrev byF (f : Nat → Nat) (R : Nat → Nat → Prop) (a b : Nat) : Prop := f a < f b ∨ f a = f b ∧ R a b
theorem insAll_good (f : Nat → Nat) (R : Nat → Nat → Prop) : ∀ (n : Nat) (l : List Nat), l.length = n → l.Pairwise R → (insAll f l).Perm l ∧ (insAll f l).Pairwise (byF f R) := by
  intro n
  induction n with
  | zero =>
    intro l hl _
    obtain rfl : l = [] := List.eq_nil_of_length_eq_zero hl
    exact ⟨List.Perm.refl _, List.Pairwise.nil⟩
  | succ n ih =>
    intro l hl hp
    obtain ⟨m, x, rfl⟩ := list_snoc l (by intro h; subst h; simp at hl)
    rw [List.length_append, List.length_singleton] at hl
    rw [List.pairwise_append] at hp
    obtain ⟨hp1, _, hp3⟩ := hp
    obtain ⟨h1, h2⟩ := ih m (by omega) hp1
    rw [insAll_snoc]
    refine ⟨(insP_perm _ _ _).trans (h1.append_right _), ?_⟩
    obtain ⟨out, ho⟩ : ∃ o, insAll f m = o := ⟨_, rfl⟩
    rw [ho] at h1 h2 ⊢
    obtain ⟨k, hk⟩ : ∃ k, backTo f out x out.length = k := ⟨_, rfl⟩
    have hle := backTo_le f out x out.length
    have hmore := backTo_more f out x out.length
    have hlast := backTo_last f out x out.length
    unfold insP
    rw [hk] at hle hmore hlast ⊢
    have hR : ∀ y ∈ out, R y x := fun y hy => hp3 y (h1.mem_iff.1 hy) x (by simp)
    have h2' := h2
    rw [List.pairwise_iff_getElem] at h2'
    have hbefore : ∀ y ∈ out.take k, byF f R y x := by
      intro y hy
      refine (Nat.lt_or_ge (f y) (f x)).elim .inl fun h9 => .inr ⟨?_, hR y (List.mem_of_mem_take hy)⟩
      obtain ⟨j, hj, rfl⟩ := List.getElem_of_mem hy
      rw [List.length_take] at hj
      rw [List.getElem_take] at h9 ⊢
      have hl2 := hlast (by omega)
      rw [List.getD_eq_getElem?_getD, List.getElem?_eq_getElem (by omega), Option.getD_some] at hl2
      rcases Nat.lt_or_ge j (k - 1) with h8 | h8
      · rcases h2' j (k - 1) (by omega) (by omega) h8 with h7 | h7 <;> omega
      · have e : j = k - 1 := by omega
        subst e; omega
    have hafter : ∀ y ∈ out.drop k, byF f R x y := by
      intro y hy
      obtain ⟨j, hj, rfl⟩ := List.getElem_of_mem hy
      rw [List.length_drop] at hj
      rw [List.getElem_drop]
      have h9 := hmore (k + j) (by omega) (by omega)
      rw [List.getD_eq_getElem?_getD, List.getElem?_eq_getElem (by omega), Option.getD_some] at h9
      exact .inl h9
    have hcross : ∀ a ∈ out.take k, ∀ b ∈ out.drop k, byF f R a b := by
      have := h2
      rw [← List.take_append_drop k out, List.pairwise_append] at this
      exact this.2.2
    rw [List.pairwise_append, List.pairwise_append]
    refine ⟨⟨h2.sublist (List.take_sublist _ _), List.pairwise_singleton _ _, fun a ha b hb => by rw [List.mem_singleton] at hb; subst hb; exact hbefore a ha⟩, h2.sublist (List.drop_sublist _ _), fun a ha b hb => ?_⟩
    rcases List.mem_append.1 ha with h | h
    · exact hcross a h b hb
    · rw [List.mem_singleton] at h; subst h; exact hafter b hb
/-- one list alone is so -/
theorem byF_one {R : Nat → Nat → Prop} (hR : ∀ a b, R a b → ¬ R b a) {l m : List Nat} (h : l.Pairwise R) (k : m.Pairwise R) (hp : l.Perm m) : l = m :=
  hp.eq_of_pairwise (fun a b _ _ h1 h2 => absurd h2 (hR a b h1)) h k
/-- the order of all keys -/
def sortL (keys : List Nat) : List Nat := insAll (fun i => keys.getD i 0) (List.range keys.length)
def passL (keys order : List Nat) (p b : Int) : List Nat := insAll (fun i => digitP (keys.getD i 0) p b) order
def passesL (keys : List Nat) (b : Int) : Nat → List Nat
  | 0 => List.range keys.length
  | p + 1 => passL keys (passesL keys b p) (p : Nat) b
theorem mod_both (x y m d : Nat) (_hd : 0 < d) : x % (m * d) < y % (m * d) ↔ (x / m % d < y / m % d ∨ x / m % d = y / m % d ∧ x % m < y % m) := by
  rcases Nat.eq_zero_or_pos m with h0 | h0
  · subst h0; simp
  have e : ∀ z, z % (m * d) = m * (z / m % d) + z % m := fun z => by rw [Nat.mod_mul]; omega
  rw [e x, e y]
  have h1 := Nat.mod_lt x h0
  have h2 := Nat.mod_lt y h0
  obtain ⟨a, ha⟩ : ∃ a, x / m % d = a := ⟨_, rfl⟩
  obtain ⟨c, hc⟩ : ∃ c, y / m % d = c := ⟨_, rfl⟩
  rw [ha, hc]
  rcases Nat.lt_trichotomy a c with h | h | h
  · have : m * (a + 1) ≤ m * c := Nat.mul_le_mul_left _ h
    rw [Nat.mul_add, Nat.mul_one] at this
    constructor
    · intro _; exact .inl h
    · intro _; omega
  · subst h; constructor
    · intro h9; exact .inr ⟨rfl, by omega⟩
    · rintro (h9 | ⟨_, h9⟩) <;> omega
  · have : m * (c + 1) ≤ m * a := Nat.mul_le_mul_left _ h
    rw [Nat.mul_add, Nat.mul_one] at this
    constructor
    · intro h9; omega
    · rintro (h9 | ⟨h9, _⟩) <;> omega
theorem mod_same (x y m d : Nat) : x % (m * d) = y % (m * d) ↔ (x / m % d = y / m % d ∧ x % m = y % m) := by
  have e : ∀ z, z % (m * d) = m * (z / m % d) + z % m := fun z => by rw [Nat.mod_mul]; omega
  constructor
  · intro h
    refine ⟨?_, ?_⟩
    · have h1 : x % (m * d) / m = y % (m * d) / m := by rw [h]
      rw [Nat.mod_mul_right_div_self, Nat.mod_mul_right_div_self] at h1
      exact h1
    · have h1 : x % (m * d) % m = y % (m * d) % m := by rw [h]
      rw [Nat.mod_mul_right_mod, Nat.mod_mul_right_mod] at h1
      exact h1
  · rintro ⟨h1, h2⟩; rw [e, e, h1, h2]
abbrev byM (keys : List Nat) (M : Nat) (a b : Nat) : Prop := keys.getD a 0 % M < keys.getD b 0 % M ∨ keys.getD a 0 % M = keys.getD b 0 % M ∧ a < b
theorem passesL_good (keys : List Nat) (b : Nat) (h1 : 1 ≤ b) (h2 : b ≤ 16) : ∀ p, p ≤ passesP b → (passesL keys b p).Perm (List.range keys.length) ∧ (passesL keys b p).Pairwise (byM keys (2 ^ (p * b)))
  | 0, _ => by
    refine ⟨List.Perm.refl _, ?_⟩
    show (List.range keys.length).Pairwise _
    refine (List.pairwise_lt_range (n := keys.length)).imp fun {a c} h => .inr ⟨?_, h⟩
    rw [Nat.zero_mul, Nat.pow_zero, Nat.mod_one, Nat.mod_one]
  | p + 1, h => by
    obtain ⟨h3, h4⟩ := passesL_good keys b h1 h2 p (by omega)
    obtain ⟨h5, h6⟩ := insAll_good (fun i => digitP (keys.getD i 0) (p : Nat) b) _ _ _ rfl h4
    refine ⟨h5.trans h3, h6.imp fun {a c} h7 => ?_⟩
    have e : ∀ k, digitP k (p : Nat) b = k / 2 ^ (p * b) % 2 ^ b := fun k => by
      unfold digitP
      rw [if_neg (by omega)]; simp
    have em : 2 ^ ((p + 1) * b) = 2 ^ (p * b) * 2 ^ b := by rw [Nat.add_mul, Nat.one_mul, Nat.pow_add]
    unfold byF at h7
    simp only [e] at h7
    unfold byM
    rw [em, mod_both _ _ _ _ (Nat.two_pow_pos b), mod_same]
    unfold byM at h7
    omega
theorem passesP_enough (b : Nat) (h1 : 1 ≤ b) (h2 : b ≤ 16) : 32 ≤ passesP b * b ∧ (passesP b - 1) * b < 32 ∧ 1 ≤ passesP b ∧ passesP b ≤ 32 := by
  have : b = 1 ∨ b = 2 ∨ b = 3 ∨ b = 4 ∨ b = 5 ∨ b = 6 ∨ b = 7 ∨ b = 8 ∨ b = 9 ∨ b = 10 ∨ b = 11 ∨ b = 12 ∨ b = 13 ∨ b = 14 ∨ b = 15 ∨ b = 16 := by omega
  rcases this with rfl | rfl | rfl | rfl | rfl | rfl | rfl | rfl | rfl | rfl | rfl | rfl | rfl | rfl | rfl | rfl <;> decide
theorem sortL_good (keys : List Nat) : (sortL keys).Perm (List.range keys.length) ∧ (sortL keys).Pairwise (fun a b => keys.getD a 0 < keys.getD b 0 ∨ keys.getD a 0 = keys.getD b 0 ∧ a < b) := by
  exact insAll_good (fun i => keys.getD i 0) (· < ·) _ _ rfl List.pairwise_lt_range
theorem passes_sort (keys : List Nat) (hk : ∀ i, keys.getD i 0 < 4294967296) (b : Nat) (h1 : 1 ≤ b) (h2 : b ≤ 16) : passesL keys b (passesP b) = sortL keys := by
  obtain ⟨h3, h4⟩ := passesL_good keys b h1 h2 _ (Nat.le_refl _)
  obtain ⟨h5, h6⟩ := sortL_good keys
  have he := (passesP_enough b h1 h2).1
  have hM : ∀ i, keys.getD i 0 % 2 ^ (passesP b * b) = keys.getD i 0 := fun i => Nat.mod_eq_of_lt (Nat.lt_of_lt_of_le (hk i) (by
    have : 2 ^ 32 ≤ 2 ^ (passesP b * b) := Nat.pow_le_pow_right (by decide) he
    omega))
  refine byF_one (R := fun a b => keys.getD a 0 < keys.getD b 0 ∨ keys.getD a 0 = keys.getD b 0 ∧ a < b) (fun a b h => by omega) (h4.imp fun {a c} h => ?_) h6 (h3.trans h5.symm)
  unfold byM at h
  rw [hM, hM] at h
  exact h
end Go.Proofs.Ytggjjjfdkgfoiaa.Plain

/- The document's Blocks, Steps, Sums, Highest, Back, Totals (ref08). -/
namespace Go.Proofs.Ytggjjjfdkgfoiaa
open Go.BigFrame
open Go.RowKit Go.Proofs.Ytggjjjfdkgfoiaa.Plain

theorem Plain.ordP_plan {n : Nat} {g m : Int} {picks : List (Int × Int)} (h : (ordP n g m picks).2.2 = 0) : picks.length ≤ 4000 := by
  unfold ordP at h
  by_cases hb : planB g m picks.length = false
  · rw [if_pos hb] at h; cases h
  · exact ((planB_iff _ _ _).1 (by simpa using hb)).2.2.2.2
set_option maxRecDepth 100000 in
theorem rblocks_any (n : Nat) (b : Int) (w : World) (hn : n ≤ 1000) (hb : in64 b) :
    Calls Try.prog 38 #[.int .i64 n, .int .i64 b] w fun ed w' => ed = .returned (.int .i64 (blocksP n b)) ∧ w = w' := by
  have hn1 : (n : Int) ≤ 1000 := by omega
  have hn0 : (0 : Int) ≤ n := by omega
  unfold in64 at hb
  by_cases h1 : b < 1
  · have e : blocksP n b = 0 := by unfold blocksP; rw [if_neg (by omega)]
    rw [e]
    clear e
    go_enter Try.func38, Try.ntmps38
    go_wp2
    go_ret
    exact ⟨rfl, rfl⟩
  by_cases h2 : 100 < b
  · have e : blocksP n b = 0 := by unfold blocksP; rw [if_neg (by omega)]
    have h1' : 1 ≤ b := by omega
    rw [e]
    clear e h1
    go_enter Try.func38, Try.ntmps38
    go_wp2
    go_ret
    exact ⟨rfl, rfl⟩
  obtain ⟨B, rfl⟩ : ∃ B : Nat, b = B := ⟨b.toNat, by omega⟩
  have e : blocksP n B = (n + B - 1) / B := by unfold blocksP; rw [if_pos (by omega), Int.toNat_natCast]
  have h1' : (1 : Int) ≤ B := by omega
  have h2' : (B : Int) ≤ 100 := by omega
  have E := Lib.hid e
  clear e h1 h2 hb
  go_enter Try.func38, Try.ntmps38
  go_wp2
  all_goals go_ret
  all_goals refine ⟨ret_int ?_, rfl⟩
  all_goals (rw [E.out, Int.natCast_ediv]; congr 1; omega)
/-- a number, an error -/
def StepsSaid (r : Nat × Int) (w : World) (ed : Ending) (w' : World) : Prop := ed = .returned (.tuple #[.int .i64 r.1, .int .i64 r.2]) ∧ Ext w w'
set_option maxHeartbeats 1600000 in
set_option maxRecDepth 100000 in
theorem rsteps_any (n : Nat) (b g m : Int) (Ap : Option Addr) (cp : Nat) (picks : List (Int × Int)) (w : World) (hp : Rd kPk w (.slice Ap picks.length cp) picks) (n2 : n ≤ 900) (hb : in64 b) (hg : in64 g) (hm : in64 m) :
    Calls Try.prog 30 #[.int .i64 n, .int .i64 b, planV g m Ap picks.length cp] w (StepsSaid (stepsP n b g m picks) w) := by
  have HP := Lib.hid hp
  have HG := Lib.hid (And.intro hg (And.intro hm hb))
  unfold in64 at hb
  clear hp hg hm
  by_cases h1 : b < 1
  · have e : stepsP n b g m picks = (0, 1) := by unfold stepsP; rw [if_pos (by omega)]
    rw [e]
    clear e
    go_enter Try.func30, Try.ntmps30
    go_wp2_with fail
    go_ret2
    exact ⟨rfl, (Ext.refl _).alloc _⟩
  by_cases h2 : 100 < b
  · have e : stepsP n b g m picks = (0, 1) := by unfold stepsP; rw [if_pos (by omega)]
    have h1' : 1 ≤ b := by omega
    rw [e]
    clear e h1
    go_enter Try.func30, Try.ntmps30
    go_wp2_with fail
    go_ret2
    exact ⟨rfl, (Ext.refl _).alloc _⟩
  have h1' : 1 ≤ b := by omega
  have h2' : b ≤ 100 := by omega
  have herr := ordP_err n g m picks
  have HF : Hid (stepsP n b g m picks = if (ordP n g m picks).2.2 ≠ 0 then (0, (ordP n g m picks).2.2) else (2 * (ordP (blocksP n b) g m picks).2.1, 0)) := Lib.hid (by unfold stepsP; rw [if_neg (by omega)])
  have HE2 : Hid ((ordP n g m picks).2.2 = 0 → (ordP (blocksP n b) g m picks).2.2 = 0 ∧ (ordP (blocksP n b) g m picks).2.1 ≤ 30000) := Lib.hid (fun h => ⟨ordP_err_any _ _ _ _ _ h, by have := ordP_steps (blocksP n b) g m picks (Nat.le_trans (blocksP_le n b) n2); have := ordP_plan h; omega⟩)
  clear h1 h2 hb
  go_enter Try.func30, Try.ntmps30
  go_wp2_with fail
  refine (rorder_any n g m Ap cp picks _ (HP.out.ext ((Ext.refl _).alloc _)) n2 HG.out.1 HG.out.2.1).mono ?_
  obtain ⟨⟨os, st, er⟩, hr⟩ : ∃ x, ordP n g m picks = x := ⟨_, rfl⟩
  rw [hr] at HF HE2 herr ⊢
  simp only at HF HE2 herr
  rintro ed w1 ⟨L1, l1, rfl, hO, hE⟩
  simp only
  have k0 : w1.cell? ⟨w.heap.size, 0, none⟩ = some (.int .i64 g) := Ext.cell hE (by go_simp)
  have k1 : w1.cell? ⟨w.heap.size, 1, none⟩ = some (.int .i64 m) := Ext.cell hE (by go_simp)
  have k2 : w1.cell? ⟨w.heap.size, 2, none⟩ = some (.slice Ap picks.length cp) := Ext.cell hE (by go_simp)
  have kf : ∀ o, w1.frozen? ⟨w.heap.size, o, none⟩ = false := fun o => (Below.frozen hE (p := ⟨w.heap.size, o, none⟩) (by first | omega | (simp; omega) | simp)).trans (by go_simp)
  have HX := Lib.hid (((Ext.refl w).alloc (.cells #[.int .i64 g, .int .i64 m, .slice Ap picks.length cp] 39)).trans hE)
  clear hO hE hr kf
  rcases herr with rfl | rfl
  · rw [if_neg (by simp)] at HF
    obtain ⟨he2, hs2⟩ := HE2.out rfl
    obtain ⟨N, hN⟩ : ∃ N, blocksP n b = N := ⟨_, rfl⟩
    have hNl : N ≤ 900 := by have := blocksP_le n b; omega
    have HN := Lib.hid hN
    rw [hN] at he2 hs2 HF
    obtain ⟨⟨ou, su, eu⟩, hr⟩ : ∃ x, ordP N g m picks = x := ⟨_, rfl⟩
    have HR := Lib.hid hr
    rw [hr] at he2 hs2 HF
    simp only at he2 hs2
    subst he2
    have KS : Hid (∀ w', Ext w1 w' → w'.cell? ⟨w.heap.size, 0, none⟩ = some (.int .i64 g) ∧ w'.cell? ⟨w.heap.size, 1, none⟩ = some (.int .i64 m) ∧ w'.cell? ⟨w.heap.size, 2, none⟩ = some (.slice Ap picks.length cp)) := Lib.hid (fun w' hE => ⟨hE.cell k0, hE.cell k1, hE.cell k2⟩)
    have HB : ∀ w', Calls Try.prog 38 #[.int .i64 n, .int .i64 b] w' fun ed w'' => ed = .returned (.int .i64 N) ∧ w' = w'' := fun w' => by
      have h9 := rblocks_any n b w' (by omega) HG.out.2.2
      rw [HN.out] at h9; exact h9
    have HBB := Lib.hid HB
    have hsu : (su : Int) ≤ 30000 := by omega
    have hs0 : (0 : Int) ≤ su := by omega
    have hs2' := Lib.hid hs2
    clear hr hN HE2 HB hs2
    go_upto_region 6 with fail
    go_region_with (first
      | (go_at_call 38; refine (HBB.out _).mono ?_; rintro ed w5 ⟨rfl, rfl⟩)
      | (go_at_call 37; refine (rorder_any N g m Ap cp picks _ (HP.out.ext (by repeat (first | (with_reducible exact HX.out) | refine Ext.drew ?_ | refine Ext.drewN ?_ _))) hNl HG.out.1 HG.out.2.1).mono ?_; rw [HR.out]; rintro ed w5 ⟨L5, l5, rfl, hO5, hE5⟩))
    all_goals go_wp2_with fail
    all_goals go_ret2
    all_goals (rw [HF.out]; exact ⟨by first | rfl | simp, by first | exact HX.out.trans hE5 | exact (HX.out.drew).trans hE5⟩)
  · rw [if_pos (by decide)] at HF
    go_wp2_with fail
    go_ret2
    rw [HF.out]
    exact ⟨rfl, HX.out⟩
end Go.Proofs.Ytggjjjfdkgfoiaa

/- The document's Sums, Highest, Back (ref08). -/
namespace Go.Proofs.Ytggjjjfdkgfoiaa
open Go.BigFrame
open Go.RowKit Go.Proofs.Ytggjjjfdkgfoiaa.Plain

/-- words, a sum, steps, an error -/
def SumsSaid (r : List Nat × Nat × Nat × Int) (w : World) (ed : Ending) (w' : World) : Prop :=
  ∃ (L : Option Addr) (l : Nat), ed = .returned (.tuple #[.slice L r.1.length l, .int .u32 r.2.1, .int .i64 r.2.2.1, .int .i64 r.2.2.2]) ∧ Ow kU32 w.heap.size w' (.slice L r.1.length l) (zs r.1) ∧ Ext w w'
set_option maxHeartbeats 1600000 in
set_option maxRecDepth 100000 in
theorem rsums_any (l : List Nat) (L : Option Addr) (lc : Nat) (b g m : Int) (Ap : Option Addr) (cp : Nat) (picks : List (Int × Int)) (w : World) (hL : Rd kU32 w (.slice L l.length lc) (zs l)) (hp : Rd kPk w (.slice Ap picks.length cp) picks) (hl : l.length ≤ 900) (hb : in64 b) (hg : in64 g) (hm : in64 m) :
    Calls Try.prog 26 #[.slice L l.length lc, .int .i64 b, planV g m Ap picks.length cp] w (SumsSaid (sumsP l b g m picks) w) := by
  have HP := Lib.hid hp
  have HL := Lib.hid hL
  have HG := Lib.hid (And.intro hg (And.intro hm hb))
  have hl' : (l.length : Int) ≤ 900 := by omega
  have herr := stepsP_err l.length b g m picks
  clear hp hL hg hm hb
  go_enter Try.func26, Try.ntmps26
  go_wp2_with fail
  refine (rsteps_any l.length b g m Ap cp picks _ (HP.out.ext ((Ext.refl _).alloc _)) hl HG.out.2.2 HG.out.1 HG.out.2.1).mono ?_
  have HF : Hid (sumsP l b g m picks = if (stepsP l.length b g m picks).2 ≠ 0 then ([], 0, 0, (stepsP l.length b g m picks).2) else (sumsW l, totW l, (stepsP l.length b g m picks).1, 0)) := Lib.hid rfl
  obtain ⟨⟨st, er⟩, hr⟩ : ∃ x, stepsP l.length b g m picks = x := ⟨_, rfl⟩
  rw [hr] at HF herr ⊢
  simp only at HF herr
  rintro ed w1 ⟨rfl, hE1⟩
  have HX1 := Lib.hid (((Ext.refl w).alloc (.cells #[.int .i64 g, .int .i64 m, .slice Ap picks.length cp] 39)).trans hE1)
  clear hE1 hr
  rcases herr with rfl | rfl
  · rw [if_neg (by simp)] at HF
    have hz1 := HX1.out.size
    go_wp2_with fail
    go_loopw [12, 13, 14] (fun v s i wr => ∃ k : Nat, k ≤ l.length ∧ i = .int .i64 k ∧ s = .int .u32 (totW (l.take k)) ∧ Ow kU32 w1.heap.size wr v (zs (byN k (fun i => totW (l.take i)))) ∧ Ext w1 wr) (fun _ _ i _ => l.length - (intOf i).toNat)
    case atStart => exact ⟨0, Nat.zero_le _, rfl, rfl, Ow.nil _ _, Ext.refl _⟩
    case round =>
      obtain ⟨k, hk, rfl, rfl, hO, hX⟩ := hrel
      have HO := Lib.hid hO
      have HX := Lib.hid hX
      have hk0 : (0 : Int) ≤ k := by omega
      clear hO hX
      by_cases hlt : k < l.length
      · have hlt' : (k : Int) < l.length := by omega
        obtain ⟨bx, ox, rfl, z0, hxl⟩ := u32_at (HL.out.ext HX1.out) k hlt
        have lb1 : bx < w1.heap.size := World.block_lt_of_cell? _ _ z0
        have HNB : Hid (some bx ≠ u12.ownBlock) := Lib.hid (fun e => by have := (HO.out.lt _ e.symm).1; omega)
        replace z0 := HX.out.cell z0
        have htk := takeN_snoc hlt
        have hts := totW_snoc (l.take k) (l.getD k 0)
        rw [← htk] at hts
        obtain ⟨x, hx⟩ : ∃ x, l.getD k 0 = x := ⟨_, rfl⟩
        rw [hx] at z0 hxl hts
        have hsl := totW_lt (l.take k)
        have hbs := byN_snoc k (fun i => totW (l.take i))
        obtain ⟨s, hs⟩ : ∃ s, totW (l.take k) = s := ⟨_, rfl⟩
        rw [hs] at hts hsl hbs ⊢
        have HTS := Lib.hid hts
        have HBS := Lib.hid hbs
        have HSL := Lib.hid hsl
        have hx0 : (0 : Int) ≤ x := by omega
        have hs0 : (0 : Int) ≤ s := by omega
        have HLL : Hid ((zs (byN k (fun i => totW (l.take i)))).length + [(s : Int)].length ≤ 1048576) := Lib.hid (by rw [zs_len, byN_len, List.length_singleton]; omega)
        have hzx := HX.out.size
        have lbx : bx < wr.heap.size := World.block_lt_of_cell? _ _ z0
        have HZ := Lib.hid z0
        clear htk hts hx hxl hbs hs hsl
        go_wp2_with (at_builtin; refine kU32.wpList_app (by rfl) (.tmp 32) (.tmp 34) (by rfl) (by rfl) w1.heap.size _ (zs (byN k (fun i => totW (l.take i)))) (by rfl) (HO.out.ext ((Ext.refl _).alloc _)) _ [(s : Int)] (by rfl) (u32_lit _ s HSL.out) HLL.out (by simp; omega) ?_; intro v' w8 hown8 hgrow8 hat8; have z8 := hgrow8.cell (Ext.cell ((Ext.refl _).alloc (.cells #[.int .u32 s] 30)) z0) HNB.out)
        have H8 := Lib.hid (And.intro hown8 (And.intro hgrow8 hat8))
        clear hown8 hgrow8 hat8
        go_wp2_with fail
        go_roundw
        case rel =>
          obtain ⟨hown8, hgrow8, hat8⟩ := H8.out
          refine ⟨k + 1, by omega, by go_num, ?_, by rw [HBS.out, zs_app]; exact hown8, Ext.grown (HX.out.alloc _) hgrow8 (fun q hq => (HO.out.lt q hq).1)⟩
          rw [HTS.out]
          first | rfl | (congr 1; omega) | (simp; omega)
        case measure => simp [intOf]; omega
      · obtain rfl : k = l.length := by omega
        rw [List.take_length]
        obtain ⟨Lz, lz, hv, hlz⟩ := HO.out.slice
        subst hv
        have HXX := Lib.hid (HX1.out.trans HX.out)
        go_wp2_with fail
        refine bodyPost_ret (v := .tuple #[.slice Lz (zs (byN l.length (fun i => totW (l.take i)))).length lz, .int .u32 (totW l), .int .i64 st, .int .i64 0]) (by simp [results, Try.results26, go_sem]) rfl (by rw [HF.out]; exact ⟨Lz, lz, by rw [zs_len]; rfl, by have := HO.out.mono (B' := w.heap.size) (by omega); rw [zs_len] at this; exact this, HXX.out⟩)
  · rw [if_pos (by decide)] at HF
    go_wp2_with fail
    exact bodyPost_ret (v := .tuple #[.slice none 0 0, .int .u32 0, .int .i64 0, .int .i64 1]) (by simp [results, Try.results26, go_sem]) rfl (by rw [HF.out]; exact ⟨none, 0, rfl, Ow.nil _ _, HX1.out⟩)
/-- a list of words -/
def ListSaid (l : List Nat) (w : World) (ed : Ending) (w' : World) : Prop :=
  ∃ (L : Option Addr) (c : Nat), ed = .returned (.slice L l.length c) ∧ Ow kU32 w.heap.size w' (.slice L l.length c) (zs l) ∧ Ext w w'
end Go.Proofs.Ytggjjjfdkgfoiaa

/- The document's Passes, Digit, Sorted (ref10). -/
namespace Go.Proofs.Ytggjjjfdkgfoiaa
open Go.BigFrame
open Go.RowKit Go.Proofs.Ytggjjjfdkgfoiaa.Plain

theorem Plain.passesP_no (b : Int) (h : b < 1 ∨ 16 < b) : passesP b = 0 := by unfold passesP; rw [if_pos h]
set_option maxHeartbeats 1600000 in
set_option maxRecDepth 100000 in
theorem rpasses_any (b : Int) (w : World) (hb : in64 b) :
    Calls Try.prog 15 #[.int .i64 b] w fun ed w' => ed = .returned (.int .i64 (passesP b : Nat)) ∧ w = w' := by
  unfold in64 at hb
  by_cases h : b < 1 ∨ 16 < b
  · have HR := Lib.hid (passesP_no b h)
    rw [HR.out]
    go_enter Try.func15, Try.ntmps15
    by_cases h1 : b < 1
    · have hd1 : decide (b < 1) = true := decide_eq_true h1
      go_wp2_with fail
      all_goals go_ret
      all_goals exact ⟨ret_int rfl, rfl⟩
    · have hd1 : decide (b < 1) = false := decide_eq_false h1
      have hd2 : decide (16 < b) = true := decide_eq_true (by omega)
      go_wp2_with fail
      all_goals go_ret
      all_goals exact ⟨ret_int rfl, rfl⟩
  · have h9 : b = 1 ∨ b = 2 ∨ b = 3 ∨ b = 4 ∨ b = 5 ∨ b = 6 ∨ b = 7 ∨ b = 8 ∨ b = 9 ∨ b = 10 ∨ b = 11 ∨ b = 12 ∨ b = 13 ∨ b = 14 ∨ b = 15 ∨ b = 16 := by omega
    clear h hb
    go_enter Try.func15, Try.ntmps15
    rcases h9 with rfl | rfl | rfl | rfl | rfl | rfl | rfl | rfl | rfl | rfl | rfl | rfl | rfl | rfl | rfl | rfl
    all_goals
      go_wp2_with fail
      go_ret
      exact ⟨ret_int (by first | rfl | decide +kernel), rfl⟩

theorem Plain.passes_mul (P B : Nat) (h1 : 1 ≤ B) (h2 : B ≤ 16) (hp : P < passesP B) : P * B < 32 := by
  have h := passesP_enough B h1 h2
  have : P * B ≤ (passesP B - 1) * B := Nat.mul_le_mul_right _ (by omega)
  omega
set_option maxHeartbeats 1600000 in
set_option maxRecDepth 100000 in
theorem rdigit_any (key : Nat) (p b : Int) (w : World) (hk : key < 4294967296) (hp : in64 p) (hb : in64 b) :
    Calls Try.prog 17 #[.int .u32 key, .int .i64 p, .int .i64 b] w fun ed w' => ed = .returned (.int .u32 (digitP key p b : Nat)) ∧ Ext w w' := by
  have HB := Lib.hid hb
  by_cases h1 : p < 0
  · have HR : Hid (digitP key p b = 0) := Lib.hid (by unfold digitP; rw [if_pos (.inl h1)])
    have hd1 : decide (p < 0) = true := decide_eq_true h1
    rw [HR.out]
    clear hp hb hk
    go_enter Try.func17, Try.ntmps17
    go_wp2_with fail
    go_ret
    exact ⟨ret_int rfl, Ext.refl _⟩
  have hd1 : decide (p < 0) = false := decide_eq_false h1
  obtain ⟨P, rfl⟩ : ∃ P : Nat, p = P := ⟨p.toNat, by omega⟩
  by_cases h2 : passesP b ≤ P
  · have HR : Hid (digitP key P b = 0) := Lib.hid (by unfold digitP; rw [if_pos (.inr (by omega))])
    obtain ⟨N, hN⟩ : ∃ N, passesP b = N := ⟨_, rfl⟩
    have HN := Lib.hid hN
    rw [hN] at h2
    have hd2 : decide ((N : Int) ≤ (P : Int)) = true := decide_eq_true (by omega)
    rw [HR.out]
    clear hp hb hk hN
    go_enter Try.func17, Try.ntmps17
    go_wp2_with fail
    refine (rpasses_any b _ HB.out).mono ?_
    rintro ed w1 ⟨rfl, rfl⟩
    rw [HN.out]
    go_wp2_with fail
    go_ret
    exact ⟨ret_int rfl, Ext.refl _⟩
  · have h4 : 1 ≤ b ∧ b ≤ 16 := by
      by_cases h9 : b < 1 ∨ 16 < b
      · rw [passesP_no b h9] at h2; omega
      · omega
    obtain ⟨B, rfl⟩ : ∃ B : Nat, b = B := ⟨b.toNat, by omega⟩
    obtain ⟨h5, h6⟩ : 1 ≤ B ∧ B ≤ 16 := by omega
    have hq := passes_mul P B h5 h6 (by omega)
    obtain ⟨Q, hQ⟩ : ∃ Q, P * B = Q := ⟨_, rfl⟩
    have hQ' : (P : Int) * (B : Int) = (Q : Int) := by rw [← hQ]; simp
    have hQ9 : IntKind.i64.wrap (Q : Int) = (Q : Int) := IntWalk.i64_in _ (by omega)
    obtain ⟨N, hN⟩ : ∃ N, passesP B = N := ⟨_, rfl⟩
    have HR : Hid (digitP key P B = key / 2 ^ Q % 2 ^ B) := Lib.hid (by unfold digitP; rw [if_neg (by omega), ← hQ]; simp)
    have HN := Lib.hid hN
    rw [hN] at h2
    rw [hQ] at hq
    have hd2 : decide ((N : Int) ≤ (P : Int)) = false := decide_eq_false (by omega)
    have hQ1 : (Q : Int) < 32 := by omega
    have hQ0 : (0 : Int) ≤ Q := by omega
    have HK := Lib.hid hk
    have hk1 : (key : Int) ≤ 4294967295 := by omega
    have hk0 : (0 : Int) ≤ key := by omega
    rw [HR.out]
    clear hp hb hN hQ hd1 h1 hk
    go_enter Try.func17, Try.ntmps17
    go_wp2_with fail
    refine (rpasses_any B _ HB.out).mono ?_
    rintro ed w1 ⟨rfl, rfl⟩
    rw [HN.out]
    clear HB
    go_wp2_with fail
    go_loopw [7, 8] (fun x i wr => ∃ k : Nat, k ≤ Q ∧ i = .int .i64 k ∧ x = .int .u64 ((key / 2 ^ k : Nat) : Int) ∧ wr = w) (fun _ i _ => Q - (intOf i).toNat)
    case atStart => exact ⟨0, Nat.zero_le _, rfl, by simp, rfl⟩
    case round =>
      obtain ⟨k, hk, rfl, rfl, rfl⟩ := hrel
      obtain ⟨z, hz⟩ : ∃ z, key / 2 ^ k = z := ⟨_, rfl⟩
      have hzl : z < 4294967296 := by rw [← hz]; exact Nat.lt_of_le_of_lt (Nat.div_le_self _ _) HK.out
      have hz1 : (z : Int) < 4294967296 := by omega
      have hz0 : (0 : Int) ≤ z := by omega
      have hk0 : (0 : Int) ≤ k := by omega
      have hn : key / 2 ^ (k + 1) = z / 2 := by rw [Nat.pow_succ, ← Nat.div_div_eq_div_mul, hz]
      have HN2 := Lib.hid hn
      have HZ := Lib.hid hz
      rw [hz]
      clear hz hn
      by_cases hlt : k < Q
      · have hlt' : (k : Int) < Q := by omega
        go_wp2_with fail
        go_roundw
        case rel => exact ⟨k + 1, by omega, by go_num, by rw [HN2.out]; go_num, by first | rfl | trivial⟩
        case measure => simp [intOf]; omega
      · obtain rfl : k = Q := by omega
        have hnl : ¬ (k : Int) < k := by omega
        have h9 : B = 1 ∨ B = 2 ∨ B = 3 ∨ B = 4 ∨ B = 5 ∨ B = 6 ∨ B = 7 ∨ B = 8 ∨ B = 9 ∨ B = 10 ∨ B = 11 ∨ B = 12 ∨ B = 13 ∨ B = 14 ∨ B = 15 ∨ B = 16 := by omega
        clear hz1 hzl hk1
        go_upto_region 8 with fail
        clear hQ' hnl
        rcases h9 with rfl | rfl | rfl | rfl | rfl | rfl | rfl | rfl | rfl | rfl | rfl | rfl | rfl | rfl | rfl | rfl
        all_goals
          go_wp2_with fail
          go_ret
          exact ⟨ret_int (by rw [HZ.out]; simp; try omega), Ext.refl _⟩
end Go.Proofs.Ytggjjjfdkgfoiaa

/- The document's Sort (ref10).  -/
namespace Go.Proofs.Ytggjjjfdkgfoiaa
open Go.BigFrame
open Go.RowKit Go.Proofs.Ytggjjjfdkgfoiaa.Plain

/-- the order of all keys, how many steps, an error -/
def Plain.sortP (l : List Nat) (b blk g m : Int) (picks : List (Int × Int)) : List Nat × Nat × Int :=
  if passesP b = 0 then ([], 0, 1) else if (stepsP l.length blk g m picks).2 ≠ 0 then ([], 0, (stepsP l.length blk g m picks).2) else (sortL l, (stepsP l.length blk g m picks).1 * passesP b, 0)
theorem Plain.insAll_len (f : Nat → Nat) : ∀ (n : Nat) (l : List Nat), l.length = n → (insAll f l).length = n
  | 0, l, h => by rw [List.eq_nil_of_length_eq_zero h]; rfl
  | n + 1, l, h => by
    obtain ⟨m, x, rfl⟩ := list_snoc l (by intro e; subst e; simp at h)
    rw [List.length_append, List.length_singleton] at h
    rw [insAll_snoc, insP_len, insAll_len f n m (by omega)]
theorem Plain.insAll_mem (f : Nat → Nat) (l : List Nat) : (insAll f l).Perm l := (insAll_good f (fun _ _ => True) _ l rfl (List.pairwise_of_forall fun _ _ => trivial)).1
theorem Plain.passesP_le (b : Int) : passesP b ≤ 32 := by
  by_cases h : b < 1 ∨ 16 < b
  · rw [passesP_no b h]; omega
  · obtain ⟨B, rfl⟩ : ∃ B : Nat, b = B := ⟨b.toNat, by omega⟩
    exact (passesP_enough B (by omega) (by omega)).2.2.2
set_option maxHeartbeats 3200000 in
set_option maxRecDepth 100000 in
theorem rsort_any (l : List Nat) (L : Option Addr) (lc : Nat) (b blk g m : Int) (Ap : Option Addr) (cp : Nat) (picks : List (Int × Int)) (w : World) (hL : Rd kU32 w (.slice L l.length lc) (zs l)) (hp : Rd kPk w (.slice Ap picks.length cp) picks) (hl : l.length ≤ 900) (hb : in64 b) (hk : in64 blk) (hg : in64 g) (hm : in64 m) :
    Calls Try.prog 19 #[.slice L l.length lc, .int .i64 b, .int .i64 blk, planV g m Ap picks.length cp] w (OrdSaid (sortP l b blk g m picks) w) := by
  have HP := Lib.hid hp
  have HL := Lib.hid hL
  have HG := Lib.hid (And.intro hg (And.intro hm (And.intro hb hk)))
  have hl' : (l.length : Int) ≤ 900 := by omega
  clear hp hL hg hm hb hk
  obtain ⟨N, hN⟩ : ∃ N, passesP b = N := ⟨_, rfl⟩
  have HN := Lib.hid hN
  have hN1 : N ≤ 32 := by rw [← hN]; exact passesP_le b
  go_enter Try.func19, Try.ntmps19
  go_wp2_with fail
  refine (rpasses_any b _ HG.out.2.2.1).mono ?_
  rintro ed w1 ⟨rfl, rfl⟩
  rw [hN]
  by_cases h0 : N = 0
  · subst h0
    have HE : Hid (sortP l b blk g m picks = ([], 0, 1)) := Lib.hid (by unfold sortP; rw [if_pos hN])
    clear hN
    go_wp2_with fail
    exact bodyPost_ret (v := .tuple #[.slice none 0 0, .int .i64 0, .int .i64 1]) (by simp [results, Try.results19, go_sem]) rfl (by rw [HE.out]; exact ⟨none, 0, rfl, Ow.nil _ _, (Ext.refl _).alloc _⟩)
  have hne : ((N : Int) == 0) = false := by simp; omega
  have HF : Hid (sortP l b blk g m picks = if (stepsP l.length blk g m picks).2 ≠ 0 then ([], 0, (stepsP l.length blk g m picks).2) else (sortL l, (stepsP l.length blk g m picks).1 * N, 0)) := Lib.hid (by unfold sortP; rw [hN, if_neg h0])
  clear hN h0
  go_wp2_with fail
  refine (rsums_any l L lc blk g m Ap cp picks _ (HL.out.ext ((Ext.refl _).alloc _)) (HP.out.ext ((Ext.refl _).alloc _)) hl HG.out.2.2.2 HG.out.1 HG.out.2.1).mono ?_
  have herr := stepsP_err l.length blk g m picks
  have hbd : (stepsP l.length blk g m picks).2 = 0 → (stepsP l.length blk g m picks).1 ≤ 60000 := fun h => (stepsP_bd l.length blk g m picks hl h).1
  unfold sumsP
  obtain ⟨⟨st, er⟩, hr⟩ : ∃ x, stepsP l.length blk g m picks = x := ⟨_, rfl⟩
  rw [hr] at HF herr hbd ⊢
  simp only at HF herr hbd ⊢
  rcases herr with rfl | rfl
  · rw [if_neg (by simp)] at HF
    rw [if_neg (by simp)]
    rintro ed w1 ⟨Lo, lo, rfl, hO, hE1⟩
    simp only at hO ⊢
    have HX1 := Lib.hid (((Ext.refl w).alloc _).trans hE1)
    have hst : st ≤ 60000 := hbd rfl
    have hz1 := HX1.out.size
    have hmul : st * N ≤ 60000 * 32 := Nat.mul_le_mul hst hN1
    obtain ⟨M, hM⟩ : ∃ M, st * N = M := ⟨_, rfl⟩
    have hM2 : (st : Int) * (N : Int) = (M : Int) := by rw [← hM]; simp
    rw [hM] at HF hmul
    have hM9 : IntKind.i64.wrap (M : Int) = (M : Int) := IntWalk.i64_in _ (by omega)
    clear hO hE1 hr hbd hM hmul hst
    go_wp2_with fail
    obtain ⟨f, hf⟩ : ∃ f : Nat → Nat, (fun i => l.getD i 0) = f := ⟨_, rfl⟩
    have HFN := Lib.hid hf
    clear hf
    go_loopw [15, 16] (fun v i wr => ∃ k : Nat, k ≤ l.length ∧ i = .int .i64 k ∧ Ow kInt w1.heap.size wr v (zs (insAll f (List.range k))) ∧ Ext w1 wr) (fun _ i _ => l.length - (intOf i).toNat)
    case atStart => exact ⟨0, Nat.zero_le _, rfl, Ow.nil _ _, Ext.refl _⟩
    case round =>
      obtain ⟨k, hk, rfl, hO, hX⟩ := hrel
      have HO := Lib.hid hO
      have HX := Lib.hid hX
      have hk0 : (0 : Int) ≤ k := by omega
      clear hO hX
      by_cases hlt : k < l.length
      · have hlt' : (k : Int) < l.length := by omega
        have hins := insAll_snoc f (List.range k) k
        rw [← List.range_succ] at hins
        have hlen := insAll_len f k (List.range k) List.length_range
        have hmem : ∀ u ∈ insAll f (List.range k), u < k := fun u hu => List.mem_range.1 ((insAll_mem f (List.range k)).mem_iff.1 hu)
        obtain ⟨bx, ox, rfl, z0, hxl⟩ := u32_at (HL.out.ext (HX1.out.trans HX.out)) k hlt
        obtain ⟨out, hout⟩ : ∃ out, insAll f (List.range k) = out := ⟨_, rfl⟩
        rw [hout] at hins hlen hmem HO
        have hfk : f k = l.getD k 0 := by rw [← HFN.out]
        obtain ⟨x, hx⟩ : ∃ x, l.getD k 0 = x := ⟨_, rfl⟩
        rw [hx] at z0 hxl hfk
        have HZ0 := Lib.hid z0
        have HINS := Lib.hid hins
        have HMEM := Lib.hid hmem
        have HFK := Lib.hid hfk
        have HLEN := Lib.hid hlen
        obtain ⟨A, c, hv, hc⟩ := HO.out.slice
        rw [zs_len, hlen] at hv hc
        subst hv
        have hzx := HX.out.size
        have hkc : (k : Int) ≤ c := by omega
        have lbx : bx < wr.heap.size := World.block_lt_of_cell? _ _ z0
        clear hins hlen hmem hout hx hfk
        go_upto_block 2 with fail
        go_cut [17] from 41 to 59 (fun c wx => ∃ q : Nat, q ≤ k ∧ c = .int .i64 q ∧ backTo f out k k = q ∧ Ext wr wx)
        case first =>
          go_wp2_with fail
          go_loopw [17] (fun c wq => ∃ q : Nat, q ≤ k ∧ c = .int .i64 q ∧ backTo f out k k = backTo f out k q ∧ Ext wr wq) (fun c _ => (intOf c).toNat)
          case atStart => exact ⟨k, Nat.le_refl _, rfl, rfl, Ext.refl _⟩
          case round =>
            obtain ⟨q, hq, rfl, hbk, hXq⟩ := hrel
            have HXq := Lib.hid hXq
            have hq0 : (0 : Int) ≤ q := by omega
            clear hXq
            rename World => wq
            rcases q with _ | j
            · have HBK : Hid (backTo f out k k = 0) := Lib.hid hbk
              have hgn : decide ((0 : Int) < 0) = false := by decide
              clear hbk
              go_wp2_with fail
              refine wp_region_class (Ext wq) (by kernel_rfl) (by kernel_rfl) (Ext.refl _).drew ?_
              try simp only [List.append_eq, List.cons_append, List.nil_append]
              repeat (first
                | go_big_quiet_skip
                | (go_big_quiet_want
                   first
                   | (go_big_quiet_op; go_big_quiet_on)
                   | (unfold Oper.quiet
                      apply Exists.intro
                      refine ⟨fun w' hC => ?_, ?_⟩
                      · (skip
                         unfold Oper.quietAt
                         go_simp
                         first
                         | exact rfl)
                      go_simp
                      go_big_quiet_on)))
              refine wpQuiet_nil ?_
              intro w9 hC9
              go_wp2_with fail
              go_meet
              exact ⟨0, Nat.zero_le _, rfl, HBK.out, HXq.out.trans hC9⟩
            · have hjk : j < k := by omega
              have hol : j < (zs out).length := by rw [zs_len, HLEN.out]; exact hjk
              obtain ⟨bo, oo, rfl, hco⟩ := (ints_of_rd (HO.out.rd.ext HXq.out)).cells (by omega)
              have y0 := hco j hol
              rw [zs_getD] at y0
              have hum : out.getD j 0 ∈ out := by rw [List.getD_eq_getElem?_getD, List.getElem?_eq_getElem (by have := HLEN.out; omega)]; exact List.getElem_mem _
              have hul := HMEM.out _ hum
              have hb1 : backTo f out k (j + 1) = if f k < f (out.getD j 0) then backTo f out k j else j + 1 := rfl
              obtain ⟨u, hu⟩ : ∃ u, out.getD j 0 = u := ⟨_, rfl⟩
              rw [hu] at y0 hul hb1
              obtain ⟨bx', ox', e9, y1, hyl⟩ := u32_at (HL.out.ext ((HX1.out.trans HX.out).trans HXq.out)) u (by omega)
              cases e9
              have hfu : f u = l.getD u 0 := by rw [← HFN.out]
              obtain ⟨a, ha⟩ : ∃ a, l.getD u 0 = a := ⟨_, rfl⟩
              rw [ha] at y1 hyl hfu
              rw [HFK.out, hfu] at hb1
              have y2 := HXq.out.cell HZ0.out
              have KS : Hid (∀ w', Ext wq w' → w'.cell? ⟨bo, oo + j, none⟩ = some (.int .i64 u) ∧ w'.cell? ⟨bx, ox + u, none⟩ = some (.int .u32 a) ∧ w'.cell? ⟨bx, ox + k, none⟩ = some (.int .u32 x)) := Lib.hid (fun w' hE => ⟨hE.cell y0, hE.cell y1, hE.cell y2⟩)
              have hi9 : IntKind.i64.wrap (j : Int) = (j : Int) := IntWalk.i64_in _ (by omega)
              have hj0 : (0 : Int) ≤ j := by omega
              have hj1 : (j : Int) < k := by omega
              have hgt : (0 : Int) < (j : Int) + 1 := by omega
              have hgn : decide (0 < j + 1) = true := by simp
              have hu0 : (0 : Int) ≤ u := by omega
              have hu1 : (u : Int) < l.length := by omega
              have hj2 : (j : Int) ≤ 900 := by omega
              have HB1 := Lib.hid hb1
              have HBK := Lib.hid hbk
              clear hbk hb1 hco hol hum hul hu ha hfu y0 y1 y2
              by_cases hcmp : x < a
              · have hcm : decide ((x : Int) < (a : Int)) = true := decide_eq_true (by omega)
                have hcn : decide (x < a) = true := decide_eq_true hcmp
                have hcx : (x : Int) < a := by omega
                rw [if_pos hcmp] at HB1
                clear hxl hyl
                go_wp2_with fail
                refine wp_region_class (Ext wq) (by kernel_rfl) (by kernel_rfl) (Ext.refl _).drew ?_
                try simp only [List.append_eq, List.cons_append, List.nil_append]
                repeat (first
                  | go_big_quiet_skip
                  | (go_big_quiet_want
                     first
                     | (go_big_quiet_op; go_big_quiet_on)
                     | (unfold Oper.quiet
                        apply Exists.intro
                        refine ⟨fun w' hC => ?_, ?_⟩
                        · (obtain ⟨k1, k2, k3⟩ := KS.out w' hC
                           unfold Oper.quietAt
                           go_simp
                           first
                           | exact rfl)
                        go_simp
                        go_big_quiet_on)))
                refine wpQuiet_nil ?_
                intro w9 hC9
                go_wp2_with fail
                go_roundw
                case rel => exact ⟨j, by omega, by first | rfl | go_num, by rw [HBK.out, HB1.out], HXq.out.trans hC9⟩
                case measure => simp [intOf]
              · have hcm : decide ((x : Int) < (a : Int)) = false := decide_eq_false (by omega)
                have hcn : decide (x < a) = false := decide_eq_false hcmp
                rw [if_neg hcmp] at HB1
                clear hxl hyl
                go_wp2_with fail
                refine wp_region_class (Ext wq) (by kernel_rfl) (by kernel_rfl) (Ext.refl _).drew ?_
                try simp only [List.append_eq, List.cons_append, List.nil_append]
                repeat (first
                  | go_big_quiet_skip
                  | (go_big_quiet_want
                     first
                     | (go_big_quiet_op; go_big_quiet_on)
                     | (unfold Oper.quiet
                        apply Exists.intro
                        refine ⟨fun w' hC => ?_, ?_⟩
                        · (obtain ⟨k1, k2, k3⟩ := KS.out w' hC
                           unfold Oper.quietAt
                           go_simp
                           first
                           | exact rfl)
                        go_simp
                        go_big_quiet_on)))
                refine wpQuiet_nil ?_
                intro w9 hC9
                go_wp2_with fail
                go_meet
                exact ⟨j + 1, by omega, by first | rfl | go_num, by rw [HBK.out, HB1.out], HXq.out.trans hC9⟩
        case rest =>
          obtain ⟨q, hq, rfl, hbq, hXq⟩ := hcut
          generalize wc = w9 at *
          have HXW := Lib.hid hXq
          have HBQ := Lib.hid hbq
          have hqk : (q : Int) ≤ k := by omega
          have hqc : (q : Int) ≤ c := by omega
          have hq1 : (0 : Int) ≤ q := by omega
          clear hXq hbq
          have HT : Hid (Rd kInt w9 (.slice A q c) (zs (out.take q))) := Lib.hid (by rw [zs_take9]; exact Rd.take (HO.out.rd.ext HXW.out) q c (by rw [zs_len, HLEN.out]; omega) (by omega))
          have HD : Hid (Rd kInt w9 (.slice (if c = q then A else Option.map (fun x => x.add q) A) (k - q) (c - q)) (zs (out.drop q))) := Lib.hid (by rw [zs_drop9]; exact Rd.sliced (HO.out.rd.ext HXW.out) rfl q (by rw [zs_len, HLEN.out]; omega))
          have HFIN : Hid (zs (out.take q) ++ [(k : Int)] ++ zs (out.drop q) = zs (insAll f (List.range (k + 1)))) := Lib.hid (by rw [HINS.out]; unfold insP; rw [HLEN.out, HBQ.out, zs_app, zs_app]; rfl)
          have HKK : Hid (in64 (k : Int) ∧ k ≤ 900) := Lib.hid ⟨in64_nat k (by omega), by omega⟩
          have HZ9 : Hid (w1.heap.size ≤ w9.heap.size) := Lib.hid (by have h8 := HX.out.size; have h9 := Ext.size HXW.out; omega)
          have HXX : Hid (Ext w1 w9) := Lib.hid (HX.out.trans HXW.out)
          go_upto_region 13 with fail
          go_region_law (first
            | (refine kInt.step_app (by rfl) (.tmp 60) (.tmp 63) (by rfl) (by rfl) w9.heap.size _ [] (by rfl) (empty_at (by first | exact heap_alloc_new _ _ | exact (heap_alloc_old _ _ (by first | (simp; done) | (simp; omega) | omega)).trans (heap_alloc_new _ _) | exact heap_alloc_at (by first | (simp; done) | (simp; omega) | omega) | exact (heap_alloc_old _ _ (by first | (simp; done) | (simp; omega) | omega)).trans (heap_alloc_at (by first | (simp; done) | (simp; omega) | omega))) (by first | omega | (simp; done) | (simp; omega))) _ (zs (out.take q)) (by rfl) (Rd.ext HT.out (by repeat (first | (with_reducible exact Ext.refl _) | (with_reducible assumption) | refine Ext.alloc ?_ _ | refine Ext.drew ?_ | refine Ext.drewN ?_ _))) (by rw [zs_len, List.length_take, HLEN.out, List.length_nil]; have := HKK.out.2; omega) (by first | omega | (simp; done) | (simp; omega)) ?_
               intro v5 w5 hown5 hgrow5 hat5
               have hx5 : Ext w9 w5 := Ext.grown (by repeat (first | (with_reducible exact Ext.refl _) | (with_reducible assumption) | refine Ext.alloc ?_ _ | refine Ext.drew ?_ | refine Ext.drewN ?_ _)) hgrow5 (fun b hb => by cases hb; simp)
               rw [List.nil_append] at hown5
               have hs5 := hx5.size)
            | (refine kInt.step_app (by rfl) (.tmp 64) (.tmp 66) (by rfl) (by rfl) w9.heap.size _ (zs (out.take q)) (by rfl) (Ow.ext hown5 (by repeat (first | (with_reducible exact Ext.refl _) | (with_reducible assumption) | refine Ext.alloc ?_ _ | refine Ext.drew ?_ | refine Ext.drewN ?_ _))) _ [(k : Int)] (by rfl) (one_at (by first | exact heap_alloc_new _ _ | exact (hgrow5.block _ (by first | (simp; done) | (simp; omega) | omega) (by simp [Value.ownBlock])).trans (by first | exact heap_alloc_new _ _ | exact (heap_alloc_old _ _ (by first | (simp; done) | (simp; omega) | omega)).trans (heap_alloc_new _ _) | exact heap_alloc_at (by first | (simp; done) | (simp; omega) | omega) | exact (heap_alloc_old _ _ (by first | (simp; done) | (simp; omega) | omega)).trans (heap_alloc_at (by first | (simp; done) | (simp; omega) | omega)))) HKK.out.1) (by rw [zs_len, List.length_take, HLEN.out, List.length_singleton]; have := HKK.out.2; omega) (by first | omega | (simp; omega)) ?_
               intro v6 w6 hown6 hgrow6 hat6
               have hx6 : Ext w9 w6 := Ext.grown (by repeat (first | (with_reducible exact Ext.refl _) | (with_reducible assumption) | refine Ext.alloc ?_ _ | refine Ext.drew ?_ | refine Ext.drewN ?_ _)) hgrow6 (fun b hb => (hown5.lt b hb).1)
               have hs6 := hx6.size)
            | (refine kInt.step_app (by rfl) (.tmp 67) (.tmp 70) (by rfl) (by rfl) w9.heap.size _ (zs (out.take q) ++ [(k : Int)]) (by rfl) (Ow.ext hown6 (by repeat (first | (with_reducible exact Ext.refl _) | (with_reducible assumption) | refine Ext.alloc ?_ _ | refine Ext.drew ?_ | refine Ext.drewN ?_ _))) _ (zs (out.drop q)) (by rfl) (Rd.ext HD.out (by repeat (first | (with_reducible exact Ext.refl _) | (with_reducible assumption) | refine Ext.alloc ?_ _ | refine Ext.drew ?_ | refine Ext.drewN ?_ _))) (by rw [List.length_append, zs_len, zs_len, List.length_take, List.length_drop, HLEN.out, List.length_singleton]; have := HKK.out.2; omega) (by first | omega | (simp; omega)) ?_
               intro v7 w7 hown7 hgrow7 hat7
               have hx7 : Ext w9 w7 := Ext.grown (by repeat (first | (with_reducible exact Ext.refl _) | (with_reducible assumption) | refine Ext.alloc ?_ _ | refine Ext.drew ?_ | refine Ext.drewN ?_ _)) hgrow7 (fun b hb => (hown6.lt b hb).1))
            | fail)
          all_goals go_wp2_with fail
          all_goals go_roundw
          all_goals first
            | exact ⟨k + 1, by omega, by go_num, by rw [HFIN.out] at hown7; exact hown7.mono HZ9.out, HXX.out.trans hx7⟩
            | (simp [intOf]; omega)
      · obtain rfl : k = l.length := by omega
        obtain ⟨Lz, lz, hv, hlz⟩ := HO.out.slice
        subst hv
        have HXX := Lib.hid (HX1.out.trans HX.out)
        have HSL : Hid (sortL l = insAll f (List.range l.length)) := Lib.hid (by rw [← HFN.out]; rfl)
        have hM0 : (0 : Int) ≤ M := by omega
        go_wp2_with fail
        refine (rpasses_any b _ HG.out.2.2.1).mono ?_
        rintro ed w9 ⟨rfl, rfl⟩
        rw [HN.out]
        go_wp2_with fail
        refine bodyPost_ret (v := .tuple #[.slice Lz (zs (insAll f (List.range l.length))).length lz, .int .i64 M, .int .i64 0]) (by simp [results, Try.results19, go_sem]) rfl (by rw [HF.out, HSL.out]; exact ⟨Lz, lz, by rw [zs_len], by have := HO.out.mono (B' := w.heap.size) (by omega); rw [zs_len] at this; exact this, HXX.out⟩)
  · rw [if_pos (by decide)] at HF
    rw [if_pos (by decide)]
    rintro ed w1 ⟨Lo, lo, rfl, hO, hE1⟩
    simp only at hO ⊢
    have HX1 := Lib.hid (((Ext.refl w).alloc _).trans hE1)
    clear hO hE1
    go_wp2_with fail
    exact bodyPost_ret (v := .tuple #[.slice none 0 0, .int .i64 0, .int .i64 1]) (by simp [results, Try.results19, go_sem]) rfl (by rw [HF.out]; exact ⟨none, 0, rfl, Ow.nil _ _, HX1.out⟩)
end Go.Proofs.Ytggjjjfdkgfoiaa

/- The document's Sorted, Pass (ref10). -/
namespace Go.Proofs.Ytggjjjfdkgfoiaa
open Go.BigFrame
open Go.RowKit Go.Proofs.Ytggjjjfdkgfoiaa.Plain

def Plain.orderN (order : List Int) : List Nat := order.map Int.toNat
theorem Plain.orderN_zs (os : List Nat) : orderN (zs os) = os := by
  unfold orderN zs
  rw [List.map_map]
  conv => rhs; rw [← List.map_id os]
  exact List.map_congr_left fun x _ => by simp
/-- keys in an order, or not -/
def Plain.sortedR (keys : List Nat) (order : List Int) : List Nat × Bool := if onceB order keys.length = true then ((orderN order).map (fun i => keys.getD i 0), true) else ([], false)
/-- an order by a digit, or not -/
def Plain.passR (keys : List Nat) (order : List Int) (p b : Int) : List Nat × Bool := if onceB order keys.length = true ∧ 0 ≤ p ∧ p < passesP b then (passL keys (orderN order) p b, true) else ([], false)
/-- keys, or not -/
def SrtSaid (r : List Nat × Bool) (w : World) (ed : Ending) (w' : World) : Prop :=
  ∃ (L : Option Addr) (c : Nat), ed = .returned (.tuple #[.slice L r.1.length c, .bool r.2]) ∧ Ow kU32 w.heap.size w' (.slice L r.1.length c) (zs r.1) ∧ Ext w w'
theorem Plain.keys_take (l : List Nat) (W : List Nat) (k : Nat) (h : k < W.length) : (W.take (k + 1)).map (fun i => l.getD i 0) = (W.take k).map (fun i => l.getD i 0) ++ [l.getD (W.getD k 0) 0] := by
  rw [takeN_snoc h, List.map_append]; rfl
/-- places, or not -/
def PassSaid (r : List Nat × Bool) (w : World) (ed : Ending) (w' : World) : Prop :=
  ∃ (L : Option Addr) (c : Nat), ed = .returned (.tuple #[.slice L r.1.length c, .bool r.2]) ∧ Ow kInt w.heap.size w' (.slice L r.1.length c) (zs r.1) ∧ Ext w w'
set_option maxHeartbeats 1600000 in
set_option maxRecDepth 100000 in
theorem rsorted_any (keys : List Nat) (order : List Int) (L O : Option Addr) (lc oc : Nat) (w : World) (hL : Rd kU32 w (.slice L keys.length lc) (zs keys)) (hO : Rd kInt w (.slice O order.length oc) order) (hl : keys.length ≤ 900) :
    Calls Try.prog 11 #[.slice L keys.length lc, .slice O order.length oc] w (SrtSaid (sortedR keys order) w) := by
  have HL := Lib.hid hL
  have HQ := Lib.hid hO
  have hl' : (keys.length : Int) ≤ 900 := by omega
  clear hL hO
  go_enter Try.func11, Try.ntmps11
  go_wp2_with fail
  refine (ronce_full keys.length order O oc _ HQ.out (by omega)).mono ?_
  rintro ed w1 ⟨rfl, hE1⟩
  have HX1 := Lib.hid hE1
  clear hE1
  cases hob : onceB order keys.length with
  | false =>
    have HR : Hid (sortedR keys order = ([], false)) := Lib.hid (by unfold sortedR; rw [if_neg (by rw [hob]; decide)])
    clear hob
    go_wp2_with fail
    exact bodyPost_ret (v := .tuple #[.slice none 0 0, .bool false]) (by simp [results, Try.results11, go_sem]) rfl (by rw [HR.out]; exact ⟨none, 0, rfl, Ow.nil _ _, HX1.out⟩)
  | true =>
    obtain ⟨os, rfl, hperm⟩ := (onceB_iff _ _).1 hob
    have HR : Hid (sortedR keys (zs os) = (os.map (fun i => keys.getD i 0), true)) := Lib.hid (by unfold sortedR; rw [if_pos hob, orderN_zs])
    have hos : os.length = keys.length := by rw [hperm.length_eq, List.length_range]
    have HPERM := Lib.hid hperm
    simp only [zs_len] at HQ ⊢
    have hos' : (os.length : Int) ≤ 900 := by omega
    have HOS := Lib.hid hos
    clear hob hperm hos
    go_wp2_with fail
    go_loopw [6, 7] (fun v i wr => ∃ k : Nat, k ≤ os.length ∧ i = .int .i64 k ∧ Ow kU32 w1.heap.size wr v (zs ((os.take k).map (fun i => keys.getD i 0))) ∧ Ext w1 wr) (fun _ i _ => os.length - (intOf i).toNat)
    case atStart => exact ⟨0, Nat.zero_le _, rfl, Ow.nil _ _, Ext.refl _⟩
    case round =>
      obtain ⟨k, hk, rfl, hO, hX⟩ := hrel
      have HO := Lib.hid hO
      have HX := Lib.hid hX
      have hk0 : (0 : Int) ≤ k := by omega
      clear hO hX
      by_cases hlt : k < os.length
      · have hlt' : (k : Int) < os.length := by omega
        obtain ⟨bw, ow, rfl, hcw⟩ := (ints_of_rd (HQ.out.ext (HX1.out.trans HX.out))).cells (by rw [zs_len]; omega)
        have y0 := hcw k (by rw [zs_len]; exact hlt)
        rw [zs_getD] at y0
        have hin : os.getD k 0 < keys.length := by
          have h9 : os.getD k 0 ∈ os := by rw [List.getD_eq_getElem?_getD, List.getElem?_eq_getElem hlt]; exact List.getElem_mem hlt
          exact List.mem_range.1 ((HPERM.out.mem_iff).1 h9)
        have htk := keys_take keys os k hlt
        obtain ⟨u, hu⟩ : ∃ u, os.getD k 0 = u := ⟨_, rfl⟩
        rw [hu] at y0 hin htk
        obtain ⟨bx, ox, rfl, z0, hxl⟩ := u32_at (HL.out.ext (HX1.out.trans HX.out)) u hin
        obtain ⟨x, hx⟩ : ∃ x, keys.getD u 0 = x := ⟨_, rfl⟩
        rw [hx] at z0 hxl htk
        have HTK := Lib.hid htk
        have HXL := Lib.hid hxl
        have HLL : Hid ((zs ((os.take k).map (fun i => keys.getD i 0))).length + [(x : Int)].length ≤ 1048576) := Lib.hid (by rw [zs_len, List.length_map, List.length_take, List.length_singleton]; omega)
        have hzx := HX.out.size
        have hu0 : (0 : Int) ≤ u := by omega
        have hu1 : (u : Int) < keys.length := by omega
        have lbw : bw < wr.heap.size := World.block_lt_of_cell? _ _ y0
        have lbx : bx < wr.heap.size := World.block_lt_of_cell? _ _ z0
        clear hcw htk hu hx hxl
        go_wp2_with (at_builtin; refine kU32.wpList_app (by rfl) (.tmp 19) (.tmp 27) (by rfl) (by rfl) w1.heap.size _ (zs ((os.take k).map (fun i => keys.getD i 0))) (by rfl) (HO.out.ext ((Ext.refl _).alloc _)) _ [(x : Int)] (by rfl) (u32_lit _ x HXL.out) HLL.out (by simp; omega) ?_; intro v' w8 hown8 hgrow8 hat8)
        have H8 := Lib.hid (And.intro hown8 (And.intro hgrow8 hat8))
        clear hown8 hgrow8 hat8
        go_wp2_with fail
        go_roundw
        case rel =>
          obtain ⟨hown8, hgrow8, hat8⟩ := H8.out
          exact ⟨k + 1, by omega, by go_num, by rw [HTK.out, zs_app]; exact hown8, Ext.grown (HX.out.alloc _) hgrow8 (fun q hq => (HO.out.lt q hq).1)⟩
        case measure => simp [intOf]; omega
      · obtain rfl : k = os.length := by omega
        rw [List.take_length] at HO
        obtain ⟨Lz, lz, hv, hlz⟩ := HO.out.slice
        subst hv
        have HXX := Lib.hid (HX1.out.trans HX.out)
        have hz1 := HX1.out.size
        go_wp2_with fail
        refine bodyPost_ret (v := .tuple #[.slice Lz (zs (os.map (fun i => keys.getD i 0))).length lz, .bool true]) (by simp [results, Try.results11, go_sem]) rfl (by rw [HR.out]; exact ⟨Lz, lz, by rw [zs_len], by have := HO.out.mono (B' := w.heap.size) hz1; rw [zs_len] at this; exact this, HXX.out⟩)

set_option maxHeartbeats 3200000 in
set_option maxRecDepth 100000 in
theorem rpass10_any (keys : List Nat) (order : List Int) (L O : Option Addr) (lc oc : Nat) (p b : Int) (w : World) (hL : Rd kU32 w (.slice L keys.length lc) (zs keys)) (hO : Rd kInt w (.slice O order.length oc) order) (hl : keys.length ≤ 900) (hp : in64 p) (hb : in64 b) :
    Calls Try.prog 9 #[.slice L keys.length lc, .slice O order.length oc, .int .i64 p, .int .i64 b] w (PassSaid (passR keys order p b) w) := by
  have HL := Lib.hid hL
  have HQ := Lib.hid hO
  have HG := Lib.hid (And.intro hp hb)
  have hl' : (keys.length : Int) ≤ 900 := by omega
  clear hL hO hp hb
  go_enter Try.func9, Try.ntmps9
  go_wp2_with fail
  refine (ronce_full keys.length order O oc _ HQ.out (by omega)).mono ?_
  rintro ed w1 ⟨rfl, hE1⟩
  have HX1 := Lib.hid hE1
  clear hE1
  cases hob : onceB order keys.length with
  | false =>
    have HR : Hid (passR keys order p b = ([], false)) := Lib.hid (by unfold passR; rw [if_neg (by rw [hob]; simp)])
    clear hob
    go_wp2_with fail
    exact bodyPost_ret (v := .tuple #[.slice none 0 0, .bool false]) (by simp [results, Try.results9, go_sem]) rfl (by rw [HR.out]; exact ⟨none, 0, rfl, Ow.nil _ _, HX1.out⟩)
  | true =>
    by_cases hp0 : p < 0
    · have HR : Hid (passR keys order p b = ([], false)) := Lib.hid (by unfold passR; rw [if_neg (by omega)])
      have hd : decide (p < 0) = true := decide_eq_true hp0
      clear hob
      go_wp2_with fail
      exact bodyPost_ret (v := .tuple #[.slice none 0 0, .bool false]) (by simp [results, Try.results9, go_sem]) rfl (by rw [HR.out]; exact ⟨none, 0, rfl, Ow.nil _ _, HX1.out⟩)
    have hd : decide (p < 0) = false := decide_eq_false hp0
    obtain ⟨N, hN⟩ : ∃ N, passesP b = N := ⟨_, rfl⟩
    have HN := Lib.hid hN
    go_wp2_with fail
    refine (rpasses_any b _ HG.out.2).mono ?_
    rintro ed w9 ⟨rfl, rfl⟩
    rw [hN]
    clear hN
    by_cases hpn : (N : Int) ≤ p
    · have HR : Hid (passR keys order p b = ([], false)) := Lib.hid (by unfold passR; rw [if_neg (by rw [HN.out]; omega)])
      have hd2 : decide ((N : Int) ≤ p) = true := decide_eq_true hpn
      clear hob
      go_wp2_with fail
      exact bodyPost_ret (v := .tuple #[.slice none 0 0, .bool false]) (by simp [results, Try.results9, go_sem]) rfl (by rw [HR.out]; exact ⟨none, 0, rfl, Ow.nil _ _, HX1.out⟩)
    have hd2 : decide ((N : Int) ≤ p) = false := decide_eq_false hpn
    obtain ⟨os, rfl, hperm⟩ := (onceB_iff _ _).1 hob
    obtain ⟨f, hf⟩ : ∃ f : Nat → Nat, (fun i => digitP (keys.getD i 0) p b) = f := ⟨_, rfl⟩
    have HR : Hid (passR keys (zs os) p b = (insAll f os, true)) := Lib.hid (by unfold passR; rw [if_pos ⟨hob, by omega, by rw [HN.out]; omega⟩, orderN_zs, ← hf]; rfl)
    have hos : os.length = keys.length := by rw [hperm.length_eq, List.length_range]
    have HPERM := Lib.hid hperm
    have HFN := Lib.hid hf
    have HOS := Lib.hid hos
    have HIL := Lib.hid (insAll_len f os.length os rfl)
    have hos' : (os.length : Int) ≤ 900 := by omega
    have HOL : Hid (os.length ≤ 900) := Lib.hid (by omega)
    simp only [zs_len] at HQ ⊢
    clear hob hperm hf hos hp0 hpn
    go_wp2_with fail
    go_loopw [10, 11] (fun v i wr => ∃ k : Nat, k ≤ os.length ∧ i = .int .i64 k ∧ Ow kInt w1.heap.size wr v (zs (insAll f (os.take k))) ∧ Ext w1 wr) (fun _ i _ => os.length - (intOf i).toNat)
    case atStart => exact ⟨0, Nat.zero_le _, rfl, Ow.nil _ _, Ext.refl _⟩
    case round =>
      obtain ⟨k, hk, rfl, hO, hX⟩ := hrel
      have HO := Lib.hid hO
      have HX := Lib.hid hX
      have hk0 : (0 : Int) ≤ k := by omega
      clear hO hX
      by_cases hlt : k < os.length
      · have hlt' : (k : Int) < os.length := by omega
        obtain ⟨bw, ow, rfl, hcw⟩ := (ints_of_rd (HQ.out.ext (HX1.out.trans HX.out))).cells (by rw [zs_len]; omega)
        have v0 := hcw k (by rw [zs_len]; exact hlt)
        rw [zs_getD] at v0
        have hin : os.getD k 0 < keys.length := by
          have h9 : os.getD k 0 ∈ os := by rw [List.getD_eq_getElem?_getD, List.getElem?_eq_getElem hlt]; exact List.getElem_mem hlt
          exact List.mem_range.1 ((HPERM.out.mem_iff).1 h9)
        have htk : os.take (k + 1) = os.take k ++ [os.getD k 0] := takeN_snoc hlt
        obtain ⟨s, hs⟩ : ∃ s, os.getD k 0 = s := ⟨_, rfl⟩
        rw [hs] at v0 hin htk
        have hins := insAll_snoc f (os.take k) s
        rw [← htk] at hins
        have hlen := insAll_len f k (os.take k) (by rw [List.length_take]; omega)
        have hmem : ∀ u ∈ insAll f (os.take k), u < keys.length := fun u hu => List.mem_range.1 ((HPERM.out.mem_iff).1 (List.mem_of_mem_take ((insAll_mem f (os.take k)).mem_iff.1 hu)))
        obtain ⟨bx, ox, rfl, z0, hxl⟩ := u32_at (HL.out.ext (HX1.out.trans HX.out)) s hin
        obtain ⟨out, hout⟩ : ∃ out, insAll f (os.take k) = out := ⟨_, rfl⟩
        rw [hout] at hins hlen hmem HO
        have hfk : f s = digitP (keys.getD s 0) p b := by rw [← HFN.out]
        obtain ⟨x, hx⟩ : ∃ x, keys.getD s 0 = x := ⟨_, rfl⟩
        rw [hx] at z0 hxl hfk
        have HZ0 := Lib.hid z0
        have HV0 := Lib.hid v0
        have HINS := Lib.hid hins
        have HMEM := Lib.hid hmem
        have HFK := Lib.hid hfk
        have HLEN := Lib.hid hlen
        have HXL := Lib.hid hxl
        obtain ⟨A, c, hv, hc⟩ := HO.out.slice
        rw [zs_len, hlen] at hv hc
        subst hv
        have hzx := HX.out.size
        have hkc : (k : Int) ≤ c := by omega
        have lbx : bx < wr.heap.size := World.block_lt_of_cell? _ _ z0
        have lbw : bw < wr.heap.size := World.block_lt_of_cell? _ _ v0
        have hs0 : (0 : Int) ≤ s := by omega
        have hs1 : (s : Int) < keys.length := by omega
        clear hins hlen hmem hout hx hfk hcw htk hs hxl
        go_upto_block 2 with fail
        go_cut [12] from 36 to 63 (fun c wx => ∃ q : Nat, q ≤ k ∧ c = .int .i64 q ∧ backTo f out s k = q ∧ Ext wr wx)
        case first =>
          go_wp2_with fail
          go_loopw [12] (fun c wq => ∃ q : Nat, q ≤ k ∧ c = .int .i64 q ∧ backTo f out s k = backTo f out s q ∧ Ext wr wq) (fun c _ => (intOf c).toNat)
          case atStart => exact ⟨k, Nat.le_refl _, rfl, rfl, Ext.refl _⟩
          case round =>
            obtain ⟨q, hq, rfl, hbk, hXq⟩ := hrel
            have HXq := Lib.hid hXq
            have hq0 : (0 : Int) ≤ q := by omega
            clear hXq
            rename World => wq
            rcases q with _ | j
            · have HBK : Hid (backTo f out s k = 0) := Lib.hid hbk
              have hgn : decide ((0 : Int) < 0) = false := by decide
              clear hbk
              go_wp2_with fail
              refine wp_region_class (Ext wq) (by kernel_rfl) (by kernel_rfl) (Ext.refl _).drew ?_
              try simp only [List.append_eq, List.cons_append, List.nil_append]
              repeat (first
                | go_big_quiet_skip
                | (go_big_quiet_want
                   first
                   | (go_big_quiet_op; go_big_quiet_on)
                   | (unfold Oper.quiet
                      apply Exists.intro
                      refine ⟨fun w' hC => ?_, ?_⟩
                      · (skip
                         unfold Oper.quietAt
                         go_simp
                         first
                         | exact rfl)
                      go_simp
                      go_big_quiet_on)))
              refine wpQuiet_nil ?_
              intro w9 hC9
              go_wp2_with fail
              go_meet
              exact ⟨0, Nat.zero_le _, rfl, HBK.out, HXq.out.trans hC9⟩
            · have hjk : j < k := by omega
              have hol : j < (zs out).length := by rw [zs_len, HLEN.out]; exact hjk
              obtain ⟨bo, oo, rfl, hco⟩ := (ints_of_rd (HO.out.rd.ext HXq.out)).cells (by omega)
              have y0 := hco j hol
              rw [zs_getD] at y0
              have hum : out.getD j 0 ∈ out := by rw [List.getD_eq_getElem?_getD, List.getElem?_eq_getElem (by have := HLEN.out; omega)]; exact List.getElem_mem _
              have hul := HMEM.out _ hum
              have hb1 : backTo f out s (j + 1) = if f s < f (out.getD j 0) then backTo f out s j else j + 1 := rfl
              obtain ⟨u, hu⟩ : ∃ u, out.getD j 0 = u := ⟨_, rfl⟩
              rw [hu] at y0 hul hb1
              obtain ⟨bx', ox', e9, y1, hyl⟩ := u32_at (HL.out.ext ((HX1.out.trans HX.out).trans HXq.out)) u hul
              cases e9
              have hfu : f u = digitP (keys.getD u 0) p b := by rw [← HFN.out]
              obtain ⟨a, ha⟩ : ∃ a, keys.getD u 0 = a := ⟨_, rfl⟩
              rw [ha] at y1 hyl hfu
              rw [HFK.out, hfu] at hb1
              obtain ⟨da, hda⟩ : ∃ d, digitP a p b = d := ⟨_, rfl⟩
              obtain ⟨dx, hdx⟩ : ∃ d, digitP x p b = d := ⟨_, rfl⟩
              rw [hda, hdx] at hb1
              have HF1 : Hid (∀ w', Ext wq w' → Calls Try.prog 17 #[.int .u32 a, .int .i64 p, .int .i64 b] w' fun ed w'' => ed = .returned (.int .u32 da) ∧ Ext wq w'') := Lib.hid fun w' hE => (rdigit_any a p b w' hyl HG.out.1 HG.out.2).mono fun ed w'' hh => ⟨by rw [hh.1, hda], hE.trans hh.2⟩
              have HF2 : Hid (∀ w', Ext wq w' → Calls Try.prog 17 #[.int .u32 x, .int .i64 p, .int .i64 b] w' fun ed w'' => ed = .returned (.int .u32 dx) ∧ Ext wq w'') := Lib.hid fun w' hE => (rdigit_any x p b w' HXL.out HG.out.1 HG.out.2).mono fun ed w'' hh => ⟨by rw [hh.1, hdx], hE.trans hh.2⟩
              have y2 := HXq.out.cell HZ0.out
              have y3 := HXq.out.cell HV0.out
              have KS : Hid (∀ w', Ext wq w' → w'.cell? ⟨bo, oo + j, none⟩ = some (.int .i64 u) ∧ w'.cell? ⟨bx, ox + u, none⟩ = some (.int .u32 a) ∧ w'.cell? ⟨bx, ox + s, none⟩ = some (.int .u32 x) ∧ w'.cell? ⟨bw, ow + k, none⟩ = some (.int .i64 s)) := Lib.hid (fun w' hE => ⟨hE.cell y0, hE.cell y1, hE.cell y2, hE.cell y3⟩)
              have hi9 : IntKind.i64.wrap (j : Int) = (j : Int) := IntWalk.i64_in _ (by omega)
              have hj0 : (0 : Int) ≤ j := by omega
              have hj1 : (j : Int) < k := by omega
              have hgt : (0 : Int) < (j : Int) + 1 := by omega
              have hgn : decide (0 < j + 1) = true := by simp
              have hu0 : (0 : Int) ≤ u := by omega
              have hu1 : (u : Int) < keys.length := by omega
              have hj2 : (j : Int) ≤ 900 := by omega
              have HB1 := Lib.hid hb1
              have HBK := Lib.hid hbk
              clear hbk hb1 hco hol hum hul hu ha hfu y0 y1 y2 y3 hda hdx hyl
              by_cases hcmp : dx < da
              · have hcm : decide ((dx : Int) < (da : Int)) = true := decide_eq_true (by omega)
                have hcn : decide (dx < da) = true := decide_eq_true hcmp
                have hcx : (dx : Int) < da := by omega
                rw [if_pos hcmp] at HB1
                go_wp2_with fail
                refine wp_region_class (Ext wq) (by kernel_rfl) (by kernel_rfl) (Ext.refl _).drew ?_
                try simp only [List.append_eq, List.cons_append, List.nil_append]
                repeat (first
                  | go_big_quiet_skip
                  | (go_big_quiet_want
                     first
                     | (go_big_quiet_op; go_big_quiet_on)
                     | (unfold Oper.quiet
                        apply Exists.intro
                        refine ⟨fun w' hC => ?_, ?_⟩
                        · (obtain ⟨k1, k2, k3, k4⟩ := KS.out w' hC
                           unfold Oper.quietAt
                           go_simp
                           first
                           | exact rfl
                           | (with_reducible exact HF1.out w' hC)
                           | (with_reducible exact HF2.out w' hC))
                        go_simp
                        go_big_quiet_on)
                     | (go_big_quiet_op
                        apply Exists.intro
                        refine ⟨fun w' hC => ?_, ?_⟩
                        · exact HF1.out w' hC
                        go_big_quiet_on)
                     | (go_big_quiet_op
                        apply Exists.intro
                        refine ⟨fun w' hC => ?_, ?_⟩
                        · exact HF2.out w' hC
                        go_big_quiet_on)))
                refine wpQuiet_nil ?_
                intro w9 hC9
                go_wp2_with fail
                go_roundw
                case rel => exact ⟨j, by omega, by first | rfl | go_num, by rw [HBK.out, HB1.out], HXq.out.trans hC9⟩
                case measure => simp [intOf]
              · have hcm : decide ((dx : Int) < (da : Int)) = false := decide_eq_false (by omega)
                have hcn : decide (dx < da) = false := decide_eq_false hcmp
                rw [if_neg hcmp] at HB1
                go_wp2_with fail
                refine wp_region_class (Ext wq) (by kernel_rfl) (by kernel_rfl) (Ext.refl _).drew ?_
                try simp only [List.append_eq, List.cons_append, List.nil_append]
                repeat (first
                  | go_big_quiet_skip
                  | (go_big_quiet_want
                     first
                     | (go_big_quiet_op; go_big_quiet_on)
                     | (unfold Oper.quiet
                        apply Exists.intro
                        refine ⟨fun w' hC => ?_, ?_⟩
                        · (obtain ⟨k1, k2, k3, k4⟩ := KS.out w' hC
                           unfold Oper.quietAt
                           go_simp
                           first
                           | exact rfl
                           | (with_reducible exact HF1.out w' hC)
                           | (with_reducible exact HF2.out w' hC))
                        go_simp
                        go_big_quiet_on)
                     | (go_big_quiet_op
                        apply Exists.intro
                        refine ⟨fun w' hC => ?_, ?_⟩
                        · exact HF1.out w' hC
                        go_big_quiet_on)
                     | (go_big_quiet_op
                        apply Exists.intro
                        refine ⟨fun w' hC => ?_, ?_⟩
                        · exact HF2.out w' hC
                        go_big_quiet_on)))
                refine wpQuiet_nil ?_
                intro w9 hC9
                go_wp2_with fail
                go_meet
                exact ⟨j + 1, by omega, by first | rfl | go_num, by rw [HBK.out, HB1.out], HXq.out.trans hC9⟩
        case rest =>
          obtain ⟨q, hq, rfl, hbq, hXq⟩ := hcut
          generalize wc = w9 at *
          have HXW := Lib.hid hXq
          have HBQ := Lib.hid hbq
          have hqk : (q : Int) ≤ k := by omega
          have hqc : (q : Int) ≤ c := by omega
          have hq1 : (0 : Int) ≤ q := by omega
          have v9 := HXW.out.cell HV0.out
          have lw9 : bw < w9.heap.size := World.block_lt_of_cell? _ _ v9
          clear hXq hbq
          have HT : Hid (Rd kInt w9 (.slice A q c) (zs (out.take q))) := Lib.hid (by rw [zs_take9]; exact Rd.take (HO.out.rd.ext HXW.out) q c (by rw [zs_len, HLEN.out]; omega) (by omega))
          have HD : Hid (Rd kInt w9 (.slice (if c = q then A else Option.map (fun x => x.add q) A) (k - q) (c - q)) (zs (out.drop q))) := Lib.hid (by rw [zs_drop9]; exact Rd.sliced (HO.out.rd.ext HXW.out) rfl q (by rw [zs_len, HLEN.out]; omega))
          have HFIN : Hid (zs (out.take q) ++ [(s : Int)] ++ zs (out.drop q) = zs (insAll f (os.take (k + 1)))) := Lib.hid (by rw [HINS.out]; unfold insP; rw [HLEN.out, HBQ.out, zs_app, zs_app]; rfl)
          have HKK : Hid (in64 (s : Int) ∧ k ≤ 900) := Lib.hid ⟨in64_nat s (by omega), by omega⟩
          have HZ9 : Hid (w1.heap.size ≤ w9.heap.size) := Lib.hid (by have h8 := HX.out.size; have h9 := Ext.size HXW.out; omega)
          have HXX : Hid (Ext w1 w9) := Lib.hid (HX.out.trans HXW.out)
          have HK9 := HOL.out
          go_upto_region 10 with fail
          go_region_law (first
            | (refine kInt.step_app (by rfl) (.tmp 64) (.tmp 67) (by rfl) (by rfl) w9.heap.size _ [] (by rfl) (empty_at (by first | exact heap_alloc_new _ _ | exact (heap_alloc_old _ _ (by first | (simp; done) | (simp; omega) | omega)).trans (heap_alloc_new _ _) | exact heap_alloc_at (by first | (simp; done) | (simp; omega) | omega) | exact (heap_alloc_old _ _ (by first | (simp; done) | (simp; omega) | omega)).trans (heap_alloc_at (by first | (simp; done) | (simp; omega) | omega))) (by first | omega | (simp; done) | (simp; omega))) _ (zs (out.take q)) (by rfl) (Rd.ext HT.out (by repeat (first | (with_reducible exact Ext.refl _) | (with_reducible assumption) | refine Ext.alloc ?_ _ | refine Ext.drew ?_ | refine Ext.drewN ?_ _))) (by rw [zs_len, List.length_take, HLEN.out, List.length_nil]; have := HKK.out.2; omega) (by first | omega | (simp; done) | (simp; omega)) ?_
               intro v5 w5 hown5 hgrow5 hat5
               have hx5 : Ext w9 w5 := Ext.grown (by repeat (first | (with_reducible exact Ext.refl _) | (with_reducible assumption) | refine Ext.alloc ?_ _ | refine Ext.drew ?_ | refine Ext.drewN ?_ _)) hgrow5 (fun b hb => by cases hb; simp)
               rw [List.nil_append] at hown5
               have hs5 := hx5.size
               have v5c := Ext.cell hx5 v9)
            | (refine kInt.step_app (by rfl) (.tmp 68) (.tmp 73) (by rfl) (by rfl) w9.heap.size _ (zs (out.take q)) (by rfl) (Ow.ext hown5 (by repeat (first | (with_reducible exact Ext.refl _) | (with_reducible assumption) | refine Ext.alloc ?_ _ | refine Ext.drew ?_ | refine Ext.drewN ?_ _))) _ [(s : Int)] (by rfl) (one_at (by first | exact heap_alloc_new _ _ | exact (hgrow5.block _ (by first | (simp; done) | (simp; omega) | omega) (by simp [Value.ownBlock])).trans (by first | exact heap_alloc_new _ _ | exact (heap_alloc_old _ _ (by first | (simp; done) | (simp; omega) | omega)).trans (heap_alloc_new _ _) | exact heap_alloc_at (by first | (simp; done) | (simp; omega) | omega) | exact (heap_alloc_old _ _ (by first | (simp; done) | (simp; omega) | omega)).trans (heap_alloc_at (by first | (simp; done) | (simp; omega) | omega)))) HKK.out.1) (by rw [zs_len, List.length_take, HLEN.out, List.length_singleton]; have := HKK.out.2; omega) (by first | omega | (simp; omega)) ?_
               intro v6 w6 hown6 hgrow6 hat6
               have hx6 : Ext w9 w6 := Ext.grown (by repeat (first | (with_reducible exact Ext.refl _) | (with_reducible assumption) | refine Ext.alloc ?_ _ | refine Ext.drew ?_ | refine Ext.drewN ?_ _)) hgrow6 (fun b hb => (hown5.lt b hb).1)
               have hs6 := hx6.size)
            | (refine kInt.step_app (by rfl) (.tmp 74) (.tmp 77) (by rfl) (by rfl) w9.heap.size _ (zs (out.take q) ++ [(s : Int)]) (by rfl) (Ow.ext hown6 (by repeat (first | (with_reducible exact Ext.refl _) | (with_reducible assumption) | refine Ext.alloc ?_ _ | refine Ext.drew ?_ | refine Ext.drewN ?_ _))) _ (zs (out.drop q)) (by rfl) (Rd.ext HD.out (by repeat (first | (with_reducible exact Ext.refl _) | (with_reducible assumption) | refine Ext.alloc ?_ _ | refine Ext.drew ?_ | refine Ext.drewN ?_ _))) (by rw [List.length_append, zs_len, zs_len, List.length_take, List.length_drop, HLEN.out, List.length_singleton]; have := HKK.out.2; omega) (by first | omega | (simp; omega)) ?_
               intro v7 w7 hown7 hgrow7 hat7
               have hx7 : Ext w9 w7 := Ext.grown (by repeat (first | (with_reducible exact Ext.refl _) | (with_reducible assumption) | refine Ext.alloc ?_ _ | refine Ext.drew ?_ | refine Ext.drewN ?_ _)) hgrow7 (fun b hb => (hown6.lt b hb).1))
            | fail)
          all_goals go_wp2_with fail
          all_goals go_roundw
          all_goals first
            | exact ⟨k + 1, by omega, by go_num, by rw [HFIN.out] at hown7; exact hown7.mono HZ9.out, HXX.out.trans hx7⟩
            | (simp [intOf]; omega)
      · obtain rfl : k = os.length := by omega
        rw [List.take_length] at HO
        obtain ⟨Lz, lz, hv, hlz⟩ := HO.out.slice
        subst hv
        have HXX := Lib.hid (HX1.out.trans HX.out)
        have hz1 := HX1.out.size
        go_wp2_with fail
        refine bodyPost_ret (v := .tuple #[.slice Lz (zs (insAll f os)).length lz, .bool true]) (by simp [results, Try.results9, go_sem]) rfl (by rw [HR.out]; exact ⟨Lz, lz, by rw [zs_len], by have := HO.out.mono (B' := w.heap.size) hz1; rw [zs_len] at this; exact this, HXX.out⟩)
end Go.Proofs.Ytggjjjfdkgfoiaa

/- Plain words of sorting by counting: which spot a place gets. No program in it. -/
namespace Go.Proofs.Ytggjjjfdkgfoiaa.Plain
/-- one that stands at k has k ahead of it -/
theorem spot_of {T : Nat → Nat → Bool} : ∀ (l : List Nat) (k : Nat), l.Pairwise (fun a b => T a b = true ∧ T b a = false) → (∀ a ∈ l, T a a = false) → k < l.length → l.countP (fun y => T y (l.getD k 0)) = k
  | [], k, _, _, h => absurd h (Nat.not_lt_zero _)
  | a :: l, 0, hp, hr, _ => by
    rw [List.pairwise_cons] at hp
    rw [List.countP_eq_zero]
    intro y hy
    show ¬ T y a = true
    rcases List.mem_cons.1 hy with rfl | hy
    · rw [hr y (by simp)]; decide
    · rw [(hp.1 y hy).2]; decide
  | a :: l, k + 1, hp, hr, h => by
    rw [List.pairwise_cons] at hp
    have hk : k < l.length := by simpa using h
    have ih := spot_of l k hp.2 (fun b hb => hr b (List.mem_cons_of_mem _ hb)) hk
    have hm : l.getD k 0 ∈ l := by rw [List.getD_eq_getElem?_getD, List.getElem?_eq_getElem hk]; exact List.getElem_mem _
    have e : (a :: l).getD (k + 1) 0 = l.getD k 0 := rfl
    rw [e, List.countP_cons, ih, (hp.1 _ hm).1]; rfl
theorem countP_or {p q : Nat → Bool} : ∀ (l : List Nat), (∀ x ∈ l, p x = true → q x = false) → l.countP (fun x => p x || q x) = l.countP p + l.countP q
  | [], _ => rfl
  | a :: l, h => by
    have ih := countP_or (p := p) (q := q) l (fun x hx => h x (List.mem_cons_of_mem _ hx))
    rw [List.countP_cons, List.countP_cons, List.countP_cons, ih]
    have h1 := h a (by simp)
    cases hp : p a
    · cases hq : q a <;> simp <;> omega
    · rw [h1 hp]; simp; omega
def lessF (f : Nat → Nat) (n d : Nat) : Nat := (List.range n).countP (fun i => decide (f i < d))
def sameF (f : Nat → Nat) (l : List Nat) (d : Nat) : Nat := l.countP (fun i => decide (f i = d))
theorem lessF_zero (f : Nat → Nat) (n : Nat) : lessF f n 0 = 0 := by unfold lessF; rw [List.countP_eq_zero]; intro x _; simp
theorem lessF_succ (f : Nat → Nat) (n d : Nat) : lessF f n (d + 1) = lessF f n d + sameF f (List.range n) d := by
  unfold lessF sameF
  rw [← countP_or _ (fun x _ h => by rw [decide_eq_true_eq] at h; rw [decide_eq_false_iff_not]; omega)]
  refine List.countP_congr fun x _ => ?_
  rw [decide_eq_true_eq, Bool.or_eq_true, decide_eq_true_eq, decide_eq_true_eq]; omega
theorem sameF_snoc (f : Nat → Nat) (l : List Nat) (x d : Nat) : sameF f (l ++ [x]) d = sameF f l d + if f x = d then 1 else 0 := by
  unfold sameF
  rw [List.countP_append, List.countP_singleton]
  congr 1
  by_cases h : f x = d
  · rw [if_pos h, if_pos (by simpa using h)]
  · rw [if_neg h, if_neg (by simpa using h)]
theorem sameF_le (f : Nat → Nat) (l : List Nat) (d : Nat) : sameF f l d ≤ l.length := List.countP_le_length
theorem lessF_le (f : Nat → Nat) (n d : Nat) : lessF f n d ≤ n := by
  have := List.countP_le_length (p := fun i => decide (f i < d)) (l := List.range n)
  rw [List.length_range] at this; exact this
theorem nodup_at {l : List Nat} (h : l.Nodup) {i j : Nat} (hi : i < l.length) (hj : j < l.length) (e : l.getD i 0 = l.getD j 0) : i = j := by
  rw [List.nodup_iff_pairwise_ne, List.pairwise_iff_getElem] at h
  rw [List.getD_eq_getElem?_getD, List.getElem?_eq_getElem hi, List.getD_eq_getElem?_getD, List.getElem?_eq_getElem hj] at e
  simp only [Option.getD_some] at e
  rcases Nat.lt_trichotomy i j with h1 | h1 | h1
  · exact absurd e (h i j hi hj h1)
  · exact h1
  · exact absurd e.symm (h j i hj hi h1)
theorem idx_at {l : List Nat} (h : l.Nodup) {i : Nat} (hi : i < l.length) : l.idxOf (l.getD i 0) = i := by
  have hm : l.getD i 0 ∈ l := by rw [List.getD_eq_getElem?_getD, List.getElem?_eq_getElem hi]; exact List.getElem_mem _
  have hlt := List.idxOf_lt_length_of_mem hm
  refine nodup_at h hlt hi ?_
  rw [List.getD_eq_getElem?_getD, List.getElem?_eq_getElem hlt, List.getElem_idxOf hlt]; rfl
/-- .. in the order of all that come, which spot is whose -/
theorem spot_in (f : Nat → Nat) (os : List Nat) (n j : Nat) (hp : os.Perm (List.range n)) (hj : j < os.length) :
    lessF f n (f (os.getD j 0)) + sameF f (os.take j) (f (os.getD j 0)) < n ∧ (insAll f os).getD (lessF f n (f (os.getD j 0)) + sameF f (os.take j) (f (os.getD j 0))) 0 = os.getD j 0 := by
  have hnd : os.Nodup := hp.nodup_iff.2 List.nodup_range
  have hR : os.Pairwise (fun a b => os.idxOf a < os.idxOf b) := by
    rw [List.pairwise_iff_getElem]
    intro i k hi hk hik
    have h1 := idx_at hnd hi
    have h2 := idx_at hnd hk
    rw [List.getD_eq_getElem?_getD, List.getElem?_eq_getElem hi] at h1
    rw [List.getD_eq_getElem?_getD, List.getElem?_eq_getElem hk] at h2
    simp only [Option.getD_some] at h1 h2
    rw [h1, h2]; exact hik
  obtain ⟨g1, g2⟩ := insAll_good f _ _ os rfl hR
  obtain ⟨s, hs⟩ : ∃ s, os.getD j 0 = s := ⟨_, rfl⟩
  have hix := idx_at hnd hj
  rw [hs] at hix
  rw [hs]
  have hm : s ∈ os := by rw [← hs, List.getD_eq_getElem?_getD, List.getElem?_eq_getElem hj]; exact List.getElem_mem _
  obtain ⟨k, hk, hks⟩ := List.getElem_of_mem (g1.mem_iff.2 hm)
  have hks' : (insAll f os).getD k 0 = s := by rw [List.getD_eq_getElem?_getD, List.getElem?_eq_getElem hk, hks]; rfl
  have hkn : k < n := by rw [g1.length_eq, hp.length_eq, List.length_range] at hk; exact hk
  have hc := spot_of (T := fun a b => decide (f a < f b ∨ f a = f b ∧ os.idxOf a < os.idxOf b)) (insAll f os) k (g2.imp fun {a b} h => by
    refine ⟨decide_eq_true h, decide_eq_false ?_⟩
    unfold byF at h; omega) (fun a _ => decide_eq_false (by omega)) hk
  rw [hks', g1.countP_eq] at hc
  have he : os.countP (fun y => decide (f y < f s ∨ f y = f s ∧ os.idxOf y < os.idxOf s)) = lessF f n (f s) + sameF f (os.take j) (f s) := by
    rw [hix]
    have e1 : os.countP (fun y => decide (f y < f s ∨ f y = f s ∧ os.idxOf y < j)) = os.countP (fun y => decide (f y < f s) || decide (f y = f s ∧ os.idxOf y < j)) := by
      refine List.countP_congr fun x _ => ?_
      rw [decide_eq_true_eq, Bool.or_eq_true, decide_eq_true_eq, decide_eq_true_eq]
    rw [e1, countP_or _ (fun x _ h => by rw [decide_eq_true_eq] at h; rw [decide_eq_false_iff_not]; omega)]
    unfold lessF sameF
    rw [hp.countP_eq]
    congr 1
    have e2 : os.countP (fun y => decide (f y = f s ∧ os.idxOf y < j)) = (os.take j ++ os.drop j).countP (fun y => decide (f y = f s ∧ os.idxOf y < j)) := by rw [List.take_append_drop]
    rw [e2, List.countP_append]
    have e3 : (os.drop j).countP (fun y => decide (f y = f s ∧ os.idxOf y < j)) = 0 := by
      rw [List.countP_eq_zero]
      intro y hy
      obtain ⟨q, hq, rfl⟩ := List.getElem_of_mem hy
      rw [List.length_drop] at hq
      have h1 := idx_at hnd (i := j + q) (by omega)
      rw [List.getD_eq_getElem?_getD, List.getElem?_eq_getElem (by omega)] at h1
      simp only [Option.getD_some] at h1
      rw [List.getElem_drop, h1, decide_eq_true_eq]; omega
    rw [e3, Nat.add_zero]
    refine List.countP_congr fun y hy => ?_
    obtain ⟨q, hq, rfl⟩ := List.getElem_of_mem hy
    rw [List.length_take] at hq
    have h1 := idx_at hnd (i := q) (by omega)
    rw [List.getD_eq_getElem?_getD, List.getElem?_eq_getElem (by omega)] at h1
    simp only [Option.getD_some] at h1
    rw [List.getElem_take, h1, decide_eq_true_eq, decide_eq_true_eq]; omega
  rw [he] at hc
  rw [hc]
  exact ⟨hkn, hks'⟩
/-- what is put down so far -/
def madeJ (S pre : List Nat) : List Nat := byN S.length (fun k => if S.getD k 0 ∈ pre then S.getD k 0 else 0)
theorem madeJ_len (S pre : List Nat) : (madeJ S pre).length = S.length := byN_len _ _
theorem byN_set' (n : Nat) (f : Nat → Nat) (u v : Nat) : (byN n f).set u v = byN n (fun i => if i = u then v else f i) := by
  apply List.ext_getElem?
  intro i
  unfold byN
  by_cases hi : i < n
  · rw [List.getElem?_set, List.getElem?_map, List.getElem?_map, List.getElem?_range hi]
    by_cases h : u = i
    · subst h; simp [hi]
    · rw [if_neg h, Option.map_some, Option.map_some, if_neg (fun e => h e.symm)]
  · rw [List.getElem?_eq_none (by simp; omega), List.getElem?_eq_none (by simp; omega)]
theorem madeJ_set (S pre : List Nat) (q s : Nat) (hn : S.Nodup) (hq : q < S.length) (hs : S.getD q 0 = s) : (madeJ S pre).set q s = madeJ S (pre ++ [s]) := by
  unfold madeJ
  rw [byN_set']
  refine byN_congr _ _ _ fun k hk => ?_
  by_cases e : k = q
  · subst e; rw [if_pos rfl, hs, if_pos (by simp)]
  · rw [if_neg e]
    have hne : S.getD k 0 ≠ s := fun h => e (nodup_at hn hk hq (by rw [h, hs]))
    by_cases h2 : S.getD k 0 ∈ pre
    · rw [if_pos h2, if_pos (List.mem_append_left _ h2)]
    · rw [if_neg h2, if_neg (fun h3 => by
        rcases List.mem_append.1 h3 with h4 | h4
        · exact h2 h4
        · exact hne (by simpa using h4))]
theorem madeJ_all (S os : List Nat) (h : os.Perm S) : madeJ S os = S := by
  have e : madeJ S os = byN S.length (fun k => S.getD k 0) := by
    unfold madeJ
    refine byN_congr _ _ _ fun k hk => if_pos (h.mem_iff.2 ?_)
    rw [List.getD_eq_getElem?_getD, List.getElem?_eq_getElem hk]; exact List.getElem_mem _
  rw [e, byN_id]
/-- how many have come of each -/
def spotsJ (g f : Nat → Nat) (D : Nat) (pre : List Nat) : List Nat := byN D (fun d => g d + sameF f pre d)
theorem spotsJ_len (g f : Nat → Nat) (D : Nat) (pre : List Nat) : (spotsJ g f D pre).length = D := byN_len _ _
theorem spotsJ_at (g f : Nat → Nat) (D : Nat) (pre : List Nat) (d : Nat) (hd : d < D) : (spotsJ g f D pre).getD d 0 = g d + sameF f pre d := byN_getD _ _ _ hd
theorem spotsJ_set (g f : Nat → Nat) (D : Nat) (pre : List Nat) (s : Nat) : (spotsJ g f D pre).set (f s) (g (f s) + sameF f pre (f s) + 1) = spotsJ g f D (pre ++ [s]) := by
  unfold spotsJ
  rw [byN_set']
  refine byN_congr _ _ _ fun d _ => ?_
  rw [sameF_snoc]
  by_cases e : d = f s
  · subst e; rw [if_pos rfl, if_pos rfl]; omega
  · rw [if_neg e, if_neg (fun h => e h.symm)]; omega
/-- counts, turned to beginnings, so far -/
def begJ (f : Nat → Nat) (n D q : Nat) : List Nat := byN D (fun d => if d < q then lessF f n d else sameF f (List.range n) d)
theorem begJ_len (f : Nat → Nat) (n D q : Nat) : (begJ f n D q).length = D := byN_len _ _
theorem begJ_at (f : Nat → Nat) (n D q : Nat) (h : q < D) : (begJ f n D q).getD q 0 = sameF f (List.range n) q := by
  unfold begJ
  rw [byN_getD _ _ _ h, if_neg (by omega)]
theorem begJ_set (f : Nat → Nat) (n D q : Nat) : (begJ f n D q).set q (lessF f n q) = begJ f n D (q + 1) := by
  unfold begJ
  rw [byN_set']
  refine byN_congr _ _ _ fun d _ => ?_
  by_cases e : d = q
  · subst e; rw [if_pos rfl, if_pos (by omega)]
  · rw [if_neg e]
    by_cases h : d < q
    · rw [if_pos h, if_pos (by omega)]
    · rw [if_neg h, if_neg (by omega)]
theorem begJ_zero (f : Nat → Nat) (n D : Nat) : begJ f n D 0 = spotsJ (fun _ => 0) f D (List.range n) := byN_congr _ _ _ fun d _ => by rw [if_neg (by omega)]; exact (Nat.zero_add _).symm
theorem begJ_all (f : Nat → Nat) (n D : Nat) : begJ f n D D = spotsJ (lessF f n) f D [] := byN_congr _ _ _ fun d hd => by rw [if_pos hd]; rfl
/-- each once, none that isn't -/
theorem all_of_nodup : ∀ (n : Nat) (l : List Nat), l.Nodup → l.length = n → (∀ x ∈ l, x < n) → ∀ k, k < n → k ∈ l
  | 0, _, _, _, _, k, hk => absurd hk (Nat.not_lt_zero _)
  | n + 1, l, hn, hl, hb, k, hk => by
    by_cases h : n ∈ l
    · obtain ⟨a, b, rfl⟩ := List.append_of_mem h
      have hn2 := (List.perm_middle (l₁ := a) (l₂ := b) (a := n)).nodup_iff.1 hn
      rw [List.nodup_cons] at hn2
      have h1 : (a ++ b).length = n := by rw [List.length_append, List.length_cons] at hl; rw [List.length_append]; omega
      have ih := all_of_nodup n (a ++ b) hn2.2 h1 (fun x hx => by
        have h2 := hb x ((List.perm_middle (l₁ := a) (l₂ := b) (a := n)).mem_iff.2 (List.mem_cons_of_mem _ hx))
        have h3 : x ≠ n := fun e => hn2.1 (e ▸ hx)
        omega)
      rcases Nat.lt_or_ge k n with h2 | h2
      · exact (List.perm_middle (l₁ := a) (l₂ := b) (a := n)).mem_iff.2 (List.mem_cons_of_mem _ (ih k h2))
      · obtain rfl : k = n := by omega
        exact h
    · exfalso
      rcases l with _ | ⟨x, l⟩
      · simp at hl
      · rw [List.nodup_cons] at hn
        have ih := all_of_nodup n l hn.2 (by simpa using hl) (fun y hy => by
          have h2 := hb y (List.mem_cons_of_mem _ hy)
          have h3 : y ≠ n := fun e => h (e ▸ List.mem_cons_of_mem _ hy)
          omega)
        have h2 := hb x (by simp)
        have h3 : x ≠ n := fun e => h (e ▸ by simp)
        exact hn.1 (ih x (by omega))
end Go.Proofs.Ytggjjjfdkgfoiaa.Plain

/- The document's Totals (ref08). -/
namespace Go.Proofs.Ytggjjjfdkgfoiaa
open Go.BigFrame
open Go.RowKit Go.Proofs.Ytggjjjfdkgfoiaa.Plain

end Go.Proofs.Ytggjjjfdkgfoiaa

/- The program's small ones of scan: right, Blocks, the rules, along. -/
namespace Go.Proofs.Ytggjjjfdkgfoiaa
open Go.BigFrame
open Go.RowKit Go.Proofs.Ytggjjjfdkgfoiaa.Plain

set_option maxRecDepth 100000 in
theorem sright_any (b : Int) (w : World) (hb : in64 b) :
    Calls Try.prog 31 #[.int .i64 b] w fun ed w' => ed = .returned (.bool (decide (1 ≤ b ∧ b ≤ 100))) ∧ w = w' := by
  unfold in64 at hb
  go_enter Try.func31, Try.ntmps31
  go_wp2
  all_goals go_ret
  all_goals exact ⟨ret_bool (by simp; try omega), rfl⟩

set_option maxRecDepth 100000 in
theorem sblocksE_any (n : Nat) (b : Int) (w : World) (hn : n ≤ 1000) (hb : in64 b) :
    Calls Try.prog 33 #[.int .i64 n, .int .i64 b] w fun ed w' => ed = .returned (.int .i64 (blocksP n b)) ∧ w = w' := by
  have hn1 : (n : Int) ≤ 1000 := by omega
  have hn0 : (0 : Int) ≤ n := by omega
  have HB := Lib.hid hb
  unfold in64 at hb
  by_cases h1 : 1 ≤ b ∧ b ≤ 100
  · obtain ⟨B, rfl⟩ : ∃ B : Nat, b = B := ⟨b.toNat, by omega⟩
    have e : blocksP n B = (n + B - 1) / B := by unfold blocksP; rw [if_pos (by omega), Int.toNat_natCast]
    have h1' : (1 : Int) ≤ B := by omega
    have h2' : (B : Int) ≤ 100 := by omega
    have hr : ∀ w, Calls Try.prog 31 #[.int .i64 B] w fun ed w' => ed = .returned (.bool true) ∧ w = w' := fun w => (sright_any B w HB.out).mono fun ed w' h => ⟨by rw [h.1, decide_eq_true h1], h.2⟩
    have HR := Lib.hid hr
    have E := Lib.hid e
    clear e h1 hb hr
    go_enter Try.func33, Try.ntmps33
    go_wp2_with fail
    refine (HR.out _).mono ?_
    rintro ed w1 ⟨rfl, rfl⟩
    go_wp2_with fail
    all_goals go_ret
    all_goals refine ⟨ret_int ?_, rfl⟩
    all_goals (rw [E.out, Int.natCast_ediv]; congr 1; omega)
  · have e : blocksP n b = 0 := by unfold blocksP; rw [if_neg (by omega)]
    have hr : ∀ w, Calls Try.prog 31 #[.int .i64 b] w fun ed w' => ed = .returned (.bool false) ∧ w = w' := fun w => (sright_any b w HB.out).mono fun ed w' h => ⟨by rw [h.1, decide_eq_false h1], h.2⟩
    have HR := Lib.hid hr
    rw [e]
    clear e h1 hr
    go_enter Try.func33, Try.ntmps33
    go_wp2_with fail
    refine (HR.out _).mono ?_
    rintro ed w1 ⟨rfl, rfl⟩
    go_wp2_with fail
    all_goals go_ret
    all_goals exact ⟨rfl, rfl⟩

/-- the two rules -/
def Plain.addR (a x : Nat) : Nat := (a + x) % 4294967296
theorem Plain.addR_lt (a x : Nat) (_ : a < 4294967296) (_ : x < 4294967296) : addR a x < 4294967296 := Nat.mod_lt _ (by decide)
theorem srule1_any (a x : Nat) (w : World) (ha : a < 4294967296) (hx : x < 4294967296) :
    Calls Try.prog 29 #[.int .u32 a, .int .u32 x] w fun ed w' => ed = .returned (.int .u32 (addR a x : Nat)) ∧ w = w' := by
  obtain ⟨z, hz⟩ : ∃ z, addR a x = z := ⟨_, rfl⟩
  have e : ((a : Int) + x) % 4294967296 = (z : Int) := by unfold addR at hz; omega
  rw [hz]
  clear hz
  go_enter Try.func29, Try.ntmps29
  go_wp2_with fail
  go_ret
  exact ⟨ret_int e, rfl⟩
end Go.Proofs.Ytggjjjfdkgfoiaa
