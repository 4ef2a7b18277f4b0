/- Joined by wip/merge.py: R6B, R6C, R7A, R7B, R7C, R7D, S8P, S8R, S8S, S8T, S8C, S8L, RoundR, S8I, S8K. -/
import Derived.Test.YthblpcmmeajhkaaJ5
import Derived.Deep.RegionHeld3
import Derived.Deep.RegionLaw
import Derived.BigRegion
import Derived.BigQuiet
import Derived.Deep.DeepCutAuto
import Derived.Laws.BitsAllLaws
import Derived.IntWalk
import Derived.Deep.RegionLawGrows
import Derived.Deep.QuietTactic
import Derived.StillTailTactics
import Derived.RangeFuncNested
import Derived.RangeFuncBound
import Derived.RangeFuncCalls
import Derived.RangeFuncLeaves
import Derived.OwnWalkIn
import Derived.TacticsInMore
import Derived.LoopNIn
import Derived.LoopIn
import Derived.OrdersIn
import Derived.Shelf.Abstract
set_option linter.unusedVariables false
set_option linter.unusedSimpArgs false
set_option linter.unnecessarySimpa false
/- The document's Whole (ref06). -/
namespace Go.Proofs.Ythblpcmmeajhkaa
open Go.BigFrame
open Go.RowKit Go.Proofs.Ythblpcmmeajhkaa.Plain

def R6Q (w0 : World) (row : Option Nat) (cv ve vo : Value) (B : Nat) (evs : List Ev) (ev : Ev) : Nat → World → List Value → Value → Prop
  | 0, w, ds, v => v = cv
  | 1, w, ds, v => v = vo
  | 2, w, ds, v => v = ve
  | 3, w, ds, v => OneAt kEv w0.heap.size w v ev
  | 4, w, ds, v => AppAt kEv B w v (evs ++ [ev]) vo w0.heap.size
  | _, _, _, _ => True
theorem R6Q_ext (w0 : World) (row : Option Nat) (cv ve vo : Value) (B : Nat) (evs : List Ev) (ev : Ev) : ∀ i w w' ds v, R6Q w0 row cv ve vo B evs ev i w ds v → Ext w w' → R6Q w0 row cv ve vo B evs ev i w' ds v
  | 0, _, _, _, _, h, _ => h
  | 1, _, _, _, _, h, _ => h
  | 2, _, _, _, _, h, _ => h
  | 3, _, _, _, _, h, hE => OneAt.ext h hE
  | 4, _, _, _, _, h, hE => h.ext hE
  | _ + 5, _, _, _, _, _, _ => trivial
theorem R6Q_sw (w0 : World) (row : Option Nat) (cv ve vo : Value) (B : Nat) (evs : List Ev) (ev : Ev) (hrow : ∀ b, row = some b → b < w0.heap.size) : ∀ i w w' ds v, i ≠ 4 → R6Q w0 row cv ve vo B evs ev i w ds v → Wr row w w' → R6Q w0 row cv ve vo B evs ev i w' ds v
  | 0, _, _, _, _, _, h, _ => h
  | 1, _, _, _, _, _, h, _ => h
  | 2, _, _, _, _, _, h, _ => h
  | 3, _, _, _, _, _, h, hE => OneAt.sw h hE hrow
  | 4, _, _, _, _, hq, _, _ => absurd rfl hq
  | _ + 5, _, _, _, _, _, _, _ => trivial
section
variable (w0 : World) (row : Option Nat) (cv ve vo : Value) (B : Nat) (evs : List Ev) (ev : Ev) (w : World) (ds : List Value) (v : Value)
theorem R6Q_i0 (h : v = cv) : R6Q w0 row cv ve vo B evs ev 0 w ds v := h
theorem R6Q_e0 (h : R6Q w0 row cv ve vo B evs ev 0 w ds v) : v = cv := h
theorem R6Q_i1 (h : v = vo) : R6Q w0 row cv ve vo B evs ev 1 w ds v := h
theorem R6Q_e1 (h : R6Q w0 row cv ve vo B evs ev 1 w ds v) : v = vo := h
theorem R6Q_i2 (h : v = ve) : R6Q w0 row cv ve vo B evs ev 2 w ds v := h
theorem R6Q_e2 (h : R6Q w0 row cv ve vo B evs ev 2 w ds v) : v = ve := h
theorem R6Q_i3 (h : OneAt kEv w0.heap.size w v ev) : R6Q w0 row cv ve vo B evs ev 3 w ds v := h
theorem R6Q_e3 (h : R6Q w0 row cv ve vo B evs ev 3 w ds v) : OneAt kEv w0.heap.size w v ev := h
theorem R6Q_i4 (h : AppAt kEv B w v (evs ++ [ev]) vo w0.heap.size) : R6Q w0 row cv ve vo B evs ev 4 w ds v := h
theorem R6Q_e4 (h : R6Q w0 row cv ve vo B evs ev 4 w ds v) : AppAt kEv B w v (evs ++ [ev]) vo w0.heap.size := h
end

theorem Plain.untilP_over (g m : Nat) (c : Cw) (l : List (Int × Int)) (h : c.over = true) : untilP g m c l = (c, []) := by
  cases l with
  | nil => rfl
  | cons x l => unfold untilP; rw [if_pos h]
theorem Plain.untilP_next (g m k : Nat) (c : Cw) (l : List (Int × Int)) (hk : k < l.length) (h : c.over = false) : untilP g m c (l.drop k) = ((untilP g m (stepP g m c (l.getD k (0, 0)).1 (l.getD k (0, 0)).2).1 (l.drop (k + 1))).1, (stepP g m c (l.getD k (0, 0)).1 (l.getD k (0, 0)).2).2 :: (untilP g m (stepP g m c (l.getD k (0, 0)).1 (l.getD k (0, 0)).2).1 (l.drop (k + 1))).2) := by
  rw [List.drop_eq_getElem_cons hk, List.getD_eq_getElem?_getD, List.getElem?_eq_getElem hk]
  conv => lhs; unfold untilP
  rw [if_neg (by rw [h]; decide)]
  rfl
/-- what stands, k picks on -/
structure U6At (w0 : World) (V g n m : Nat) (picks : List (Int × Int)) (k : Nat) (v : Value) (wr : World) (c : Cw) (evs : List Ev) (A B : Option Addr) (e0 a b e : Nat) : Prop where
  me : m ≤ e
  box : wr.heap[V]? = some (.cells #[.slice A c.ts.length a, .int .i64 g, .slice B c.dn.length b, .slice (some ⟨e0, 0, none⟩) m e, .bool c.over, .int .i64 c.st, .int .i64 c.id] 64)
  cr : CrewO (fun x => x = w0.heap.size ∨ x = V ∨ v.ownBlock = some x) wr m c A B e0 0 a b
  own : Ow kEv (V + 1) wr v evs
  been : Been g n m c evs
  eq : untilP g m (beginC n m) picks = ((untilP g m c (picks.drop k)).1, evs ++ (untilP g m c (picks.drop k)).2)
  len : evs.length ≤ k
  res : wr.heap[w0.heap.size]? = some (.cells #[.slice none 0 0, .int .i64 0, .slice none 0 0, .slice none 0 0, .bool false, .int .i64 0, .int .i64 0] 64)
  ext : Ext w0 wr
  vl : w0.heap.size < V
theorem block_of_grown {w w' : World} {row : Option Nat} (hg : w.grownBy w' row) {b : Nat} {o : Obj} (h : w.heap[b]? = some o) (hne : some b ≠ row) : w'.heap[b]? = some o :=
  (hg.block b (block_lt h) hne).trans h
theorem rstep5_to (A B : Option Addr) (eb eo a b e g n m : Nat) (c c' : Cw) (ev : Ev) (ov : Bool) (done : Nat) (G : List Nat) (p q : Int) (w : World) (hov : c.over = ov) (hr : stepP g m c p q = (c', ev)) (h : CrewAt w m c A B eb eo a b) (me : m ≤ e) (hI : CwI g n m c done G)
    (n1 : 1 ≤ n) (n2 : n ≤ 900) (g1 : 1 ≤ g) (g2 : g ≤ 100) (m1 : 1 ≤ m) (m2 : m ≤ 8) (hst : c.st < 100000) (hid : c.id < 100000) (hp : in64 p) (hq : in64 q) :
    Calls Try.prog 42 #[.agg #[.slice A c.ts.length a, .int .i64 g, .slice B c.dn.length b, .slice (some ⟨eb, eo, none⟩) m e, .bool ov, .int .i64 c.st, .int .i64 c.id], .int .i64 p, .int .i64 q] w fun ed w' =>
      ∃ (A' B' : Option Addr) (e0 a' b' q' : Nat), m ≤ q' ∧ ed = .returned (.tuple #[crewV A' B' e0 0 a' b' q' g m c', evV ev, .int .i64 0]) ∧ CrewO (fun x => x < w.heap.size) w' m c' A' B' e0 0 a' b' ∧ Ext w w' := by
  subst hov
  have h9 := rstep5_any A B eb eo a b e g n m c done G p q w h me hI n1 n2 g1 g2 m1 m2 hst hid hp hq
  rw [hr] at h9
  exact h9.mono fun _ _ hh => hh
/-- behind a step -/
def StepCut6 (wr : World) (g m : Nat) (c : Cw) (ev : Ev) (x e f : Value) (wx : World) : Prop :=
  ∃ (X Y : Nat) (A B : Option Addr) (e0 a b q : Nat), m ≤ q ∧ x = .pointer (some ⟨X, 0, none⟩) ∧ e = .pointer (some ⟨Y, 0, none⟩) ∧ f = .int .i64 0 ∧ Boxed wx X Y A B e0 a b q g m c ev ∧ CrewO (fun b => b < wr.heap.size) wx m c A B e0 0 a b ∧ wr.heap.size ≤ X ∧ wr.heap.size ≤ Y ∧ Ext wr wx

set_option maxHeartbeats 3200000 in
set_option maxRecDepth 100000 in
theorem rwhole_any (n g m : Nat) (Ap : Option Addr) (cp : Nat) (picks : List (Int × Int)) (w : World) (hp : Rd kPk w (.slice Ap picks.length cp) picks) (n1 : 1 ≤ n) (n2 : n ≤ 900) (g1 : 1 ≤ g) (g2 : g ≤ 100) (m1 : 1 ≤ m) (m2 : m ≤ 8) (hl : picks.length ≤ 4000) :
    Calls Try.prog 35 #[.int .i64 n, .int .i64 g, .int .i64 m, .slice Ap picks.length cp] w (R6Said (fun _ => False) g m (wholeP g n m picks) w) := by
  have HP := Lib.hid hp
  clear hp
  have hl' : (picks.length : Int) ≤ 4000 := by omega
  go_enter Try.func35, Try.ntmps35
  go_wp2_with fail
  refine (rbegin5_any n g m _ n1 (by omega) g1 g2 m1 m2).mono ?_
  obtain ⟨c0, hc0⟩ : ∃ x, beginC n m = x := ⟨_, rfl⟩
  rintro ed w2 ⟨A0, B0, e0, a0, b0, rfl, hC, hE⟩
  rw [hc0] at hC ⊢
  have hres := block_keep (heap_alloc_new w (.cells #[.slice none 0 0, .int .i64 0, .slice none 0 0, .slice none 0 0, .bool false, .int .i64 0, .int .i64 0] 64)) hE
  have HRS := Lib.hid hres
  have hz := hE.size
  simp at hz
  have HX2 := Lib.hid (((Ext.refl w).alloc _).trans hE)
  obtain ⟨V, hV⟩ : ∃ V, w2.heap.size = V := ⟨_, rfl⟩
  have HU0 : Hid (U6At w V g n m picks 0 (.slice none 0 0) (w2.alloc (.cells #[.slice A0 c0.ts.length a0, .int .i64 g, .slice B0 c0.dn.length b0, .slice (some ⟨e0, 0, none⟩) m m, .bool c0.over, .int .i64 c0.st, .int .i64 c0.id] 64)) c0 [] A0 B0 e0 a0 b0 m) := Lib.hid ⟨Nat.le_refl _, by rw [← hV]; exact heap_alloc_new w2 _, hC.later m1 (Grew.of ((Ext.refl _).alloc _)) (fun x hx hT => by
      rcases hT with hT | hT | hT
      · simp; omega
      · omega
      · cases hT), Ow.nil _ _, by rw [← hc0]; exact Been.begin g n m n1 m1, by rw [hc0]; simp, Nat.le_refl _, block_keep hres ((Ext.refl _).alloc _), HX2.out.trans ((Ext.refl _).alloc _), by omega⟩
  go_upto_region 2 with fail
  clear hC hE hres hz hV
  generalize (w2.alloc (.cells #[.slice A0 c0.ts.length a0, .int .i64 g, .slice B0 c0.dn.length b0, .slice (some ⟨e0, 0, none⟩) m m, .bool c0.over, .int .i64 c0.st, .int .i64 c0.id] 64)) = w5 at *
  go_wp2_with fail
  go_loopw [13, 14] (fun v i wr => ∃ k : Nat, k ≤ picks.length ∧ i = .int .i64 k ∧ ∃ (c1 : Cw) (evs : List Ev) (A1 B1 : Option Addr) (e0 a1 b1 e1 : Nat), U6At w V g n m picks k v wr c1 evs A1 B1 e0 a1 b1 e1) (fun _ i _ => picks.length - (intOf i).toNat)
  case atStart => exact ⟨0, Nat.zero_le _, rfl, _, _, _, _, _, _, _, _, HU0.out⟩
  case round =>
    obtain ⟨k, hk, rfl, c1, evs, A1, B1, e1, a1, b1, q1, hD⟩ := hrel
    have HD := Lib.hid hD
    have hk0 : (0 : Int) ≤ k := by omega
    have k0 : wr.cell? ⟨V, 0, none⟩ = some (.slice A1 c1.ts.length a1) := (cell_of_row wr (V) 0 _ _ _ hD.box).trans rfl
    have k1 : wr.cell? ⟨V, 1, none⟩ = some (.int .i64 g) := (cell_of_row wr (V) 1 _ _ _ hD.box).trans rfl
    have k2 : wr.cell? ⟨V, 2, none⟩ = some (.slice B1 c1.dn.length b1) := (cell_of_row wr (V) 2 _ _ _ hD.box).trans rfl
    have k3 : wr.cell? ⟨V, 3, none⟩ = some (.slice (some ⟨e1, 0, none⟩) m q1) := (cell_of_row wr (V) 3 _ _ _ hD.box).trans rfl
    have k4 : wr.cell? ⟨V, 4, none⟩ = some (.bool c1.over) := (cell_of_row wr (V) 4 _ _ _ hD.box).trans rfl
    have k5 : wr.cell? ⟨V, 5, none⟩ = some (.int .i64 c1.st) := (cell_of_row wr (V) 5 _ _ _ hD.box).trans rfl
    have k6 : wr.cell? ⟨V, 6, none⟩ = some (.int .i64 c1.id) := (cell_of_row wr (V) 6 _ _ _ hD.box).trans rfl
    have kf := fun o => frozen_of_row wr (V) o _ _ hD.box
    clear hD
    have hex : ∀ (h : k < picks.length → c1.over = true), untilP g m (beginC n m) picks = (c1, evs) := fun h => by
      have h9 := HD.out.eq
      rcases Nat.lt_or_ge k picks.length with h8 | h8
      · rw [untilP_over _ _ _ _ (h h8), List.append_nil] at h9; exact h9
      · rw [List.drop_eq_nil_of_le h8] at h9
        simpa [untilP] using h9
    by_cases hlt : k < picks.length
    · have hlt' : (k : Int) < picks.length := by omega
      cases hov : c1.over with
      | true =>
        have hU := hex (fun _ => hov)
        have k4o := k4
        rw [hov] at k4
        go_upto_region 12 with fail
        obtain ⟨N, hN⟩ : ∃ N, m * cntT n g = N := ⟨_, rfl⟩
        have hW : wholeP g n m picks = ((drainP g m N 0 c1).1, evs ++ (drainP g m N 0 c1).2) := by unfold wholeP; rw [hU, hN]
        obtain ⟨dn, hI⟩ := HD.out.been.inv
        have hcn := (hI.counts g1 n1).2.2.1
        have hNl : N ≤ 14400 := by
          have h1 : m * cntT n g ≤ 8 * 1800 := Nat.mul_le_mul m2 (by omega)
          omega
        have hov9 : (drainP g m N 0 c1).1.over = true := by have := (whole_ends g1 n1 m1 picks).1; rw [hW] at this; exact this
        have hel := HD.out.len
        have hst := HD.out.been.st
        have hid := HD.out.been.id
        have hee : (drainP g m N 0 c1).2.length ≤ 60000 := by
          have h1 := (whole_ends g1 n1 m1 picks).2.2.1
          rw [hW] at h1
          simp only [List.length_append] at h1
          have h2 : m * (cntT n g + 1) ≤ 8 * 1801 := Nat.mul_le_mul m2 (by omega)
          omega
        obtain ⟨Ao, co, hv, hco⟩ := HD.out.own.slice
        obtain ⟨no, hno⟩ : ∃ no, evs.length = no := ⟨_, rfl⟩
        rw [hno] at hv hco
        subst hv
        have hrlt : ∀ x, Value.ownBlock (.slice Ao no co) = some x → V + 1 ≤ x ∧ x < wr.heap.size := fun x hx => HD.out.own.lt x hx
        have HRL := Lib.hid hrlt
        have HW := Lib.hid hW
        have HO9 := Lib.hid (And.intro hov9 (And.intro hel (And.intro hst (And.intro hid hee))))
        have HII := Lib.hid hI
        have lV := block_lt HD.out.box
        have lR := block_lt HD.out.res
        have vl := HD.out.vl
        have HS : Hid (∀ x, (x = w.heap.size ∨ x = V ∨ Value.ownBlock (.slice Ao no co) = some x) → x < wr.heap.size) := Lib.hid (fun x hx => by
          rcases hx with rfl | rfl | hx
          · exact lR
          · exact lV
          · exact (hrlt x hx).2)
        have HNL := Lib.hid hNl
        clear hN hW hI hcn hNl hov9 hel hst hid hco hno hrlt hee
        clear k4 hov
        have k4 := k4o
        clear k4o
        go_wp2_with fail
        have hh := rdrain_any (fun x => x = w.heap.size ∨ x = V ∨ Value.ownBlock (.slice Ao no co) = some x) A1 B1 e1 0 a1 b1 q1 g n m N c1 wr HS.out HD.out.cr HD.out.me ⟨_, _, HII.out⟩ n1 n2 g1 g2 m1 m2 (by have := HO9.out; have := HNL.out; omega) (by have := HO9.out; have := HNL.out; omega) (by have := HNL.out; omega) HO9.out.1
        refine hh.mono ?_
        clear hh
        have HEE : Hid ((drainP g m N 0 c1).2.length ≤ 60000) := Lib.hid HO9.out.2.2.2.2
        obtain ⟨⟨c5, ds⟩, hr⟩ : ∃ x, drainP g m N 0 c1 = x := ⟨_, rfl⟩
        rw [hr] at HEE ⊢
        have hW2 := HW.out
        rw [hr] at hW2
        have HW2 := Lib.hid hW2
        rintro ed w6 ⟨A5, B5, L5, e5, o5, a5, b5, q5, l5, hq5, rfl, hC5, hO5, hE6⟩
        simp only at hC5 hO5
        have hbV := block_keep HD.out.box hE6
        have hbR := block_keep HD.out.res hE6
        have hz6 := hE6.size
        have z0 : w6.cell? ⟨V, 0, none⟩ = some (.slice A1 c1.ts.length a1) := (cell_of_row w6 (V) 0 _ _ _ hbV).trans rfl
        have z1 : w6.cell? ⟨V, 1, none⟩ = some (.int .i64 g) := (cell_of_row w6 (V) 1 _ _ _ hbV).trans rfl
        have z2 : w6.cell? ⟨V, 2, none⟩ = some (.slice B1 c1.dn.length b1) := (cell_of_row w6 (V) 2 _ _ _ hbV).trans rfl
        have z3 : w6.cell? ⟨V, 3, none⟩ = some (.slice (some ⟨e1, 0, none⟩) m q1) := (cell_of_row w6 (V) 3 _ _ _ hbV).trans rfl
        have z4 : w6.cell? ⟨V, 4, none⟩ = some (.bool c1.over) := (cell_of_row w6 (V) 4 _ _ _ hbV).trans rfl
        have z5 : w6.cell? ⟨V, 5, none⟩ = some (.int .i64 c1.st) := (cell_of_row w6 (V) 5 _ _ _ hbV).trans rfl
        have z6 : w6.cell? ⟨V, 6, none⟩ = some (.int .i64 c1.id) := (cell_of_row w6 (V) 6 _ _ _ hbV).trans rfl
        have zf := fun o => frozen_of_row w6 (V) o _ _ hbV
        have HC5 := Lib.hid (And.intro hq5 hC5)
        have HO5 := Lib.hid hO5
        have HE6 := Lib.hid hE6
        have HBV := Lib.hid (set_box7 hbV (.slice A5 c5.ts.length a5) (.int .i64 g) (.slice B5 c5.dn.length b5) (.slice (some ⟨e5, o5, none⟩) m q5) (.bool c5.over) (.int .i64 c5.st) (.int .i64 c5.id))
        have lV6 : V < w6.heap.size := by omega
        clear hr hW2 hC5 hO5 hE6 hq5 hbV k0 k1 k2 k3 k4 k5 k6 kf
        go_upto_region 13 with fail
        have hGV : Grew (fun x => x = V) w6 ((((((((w6.setCell ⟨V, 0, none⟩ (.slice A5 c5.ts.length a5)).setCell ⟨V, 1, none⟩ (.int .i64 g)).setCell ⟨V, 2, none⟩ (.slice B5 c5.dn.length b5)).setCell ⟨V, 3, none⟩ (.slice (some ⟨e5, o5, none⟩) m q5)).setCell ⟨V, 4, none⟩ (.bool c5.over)).setCell ⟨V, 5, none⟩ (.int .i64 c5.st)).setCell ⟨V, 6, none⟩ (.int .i64 c5.id))) := (Grew.setCell (S := fun x => x = V) (p := ⟨V, 6, none⟩) (Grew.setCell (S := fun x => x = V) (p := ⟨V, 5, none⟩) (Grew.setCell (S := fun x => x = V) (p := ⟨V, 4, none⟩) (Grew.setCell (S := fun x => x = V) (p := ⟨V, 3, none⟩) (Grew.setCell (S := fun x => x = V) (p := ⟨V, 2, none⟩) (Grew.setCell (S := fun x => x = V) (p := ⟨V, 1, none⟩) (Grew.setCell (S := fun x => x = V) (p := ⟨V, 0, none⟩) (Grew.refl _ _) rfl _) rfl _) rfl _) rfl _) rfl _) rfl _) rfl _)
        have HBR : Hid (((((((((w6.setCell ⟨V, 0, none⟩ (.slice A5 c5.ts.length a5)).setCell ⟨V, 1, none⟩ (.int .i64 g)).setCell ⟨V, 2, none⟩ (.slice B5 c5.dn.length b5)).setCell ⟨V, 3, none⟩ (.slice (some ⟨e5, o5, none⟩) m q5)).setCell ⟨V, 4, none⟩ (.bool c5.over)).setCell ⟨V, 5, none⟩ (.int .i64 c5.st)).setCell ⟨V, 6, none⟩ (.int .i64 c5.id))).heap[w.heap.size]? = some (.cells #[.slice none 0 0, .int .i64 0, .slice none 0 0, .slice none 0 0, .bool false, .int .i64 0, .int .i64 0] 64)) := Lib.hid (block_wr hbR hGV (by omega))
        have HC7 : Hid (CrewO (fun x => x = w.heap.size ∨ x = V ∨ Value.ownBlock (.slice Ao no co) = some x) ((((((((w6.setCell ⟨V, 0, none⟩ (.slice A5 c5.ts.length a5)).setCell ⟨V, 1, none⟩ (.int .i64 g)).setCell ⟨V, 2, none⟩ (.slice B5 c5.dn.length b5)).setCell ⟨V, 3, none⟩ (.slice (some ⟨e5, o5, none⟩) m q5)).setCell ⟨V, 4, none⟩ (.bool c5.over)).setCell ⟨V, 5, none⟩ (.int .i64 c5.st)).setCell ⟨V, 6, none⟩ (.int .i64 c5.id))) m c5 A5 B5 e5 o5 a5 b5) := Lib.hid (HC5.out.2.grew (hGV.mono (fun x _ hx => .inr (.inl hx))))
        have HO7 : Hid (Ow kEv (V + 1) ((((((((w6.setCell ⟨V, 0, none⟩ (.slice A5 c5.ts.length a5)).setCell ⟨V, 1, none⟩ (.int .i64 g)).setCell ⟨V, 2, none⟩ (.slice B5 c5.dn.length b5)).setCell ⟨V, 3, none⟩ (.slice (some ⟨e5, o5, none⟩) m q5)).setCell ⟨V, 4, none⟩ (.bool c5.over)).setCell ⟨V, 5, none⟩ (.int .i64 c5.st)).setCell ⟨V, 6, none⟩ (.int .i64 c5.id))) (.slice Ao no co) evs) := Lib.hid ((HD.out.own.ext HE6.out).grew hGV (fun x hx e => by have := (HRL.out x hx).1; omega))
        have HY7 : Hid (Rd kEv ((((((((w6.setCell ⟨V, 0, none⟩ (.slice A5 c5.ts.length a5)).setCell ⟨V, 1, none⟩ (.int .i64 g)).setCell ⟨V, 2, none⟩ (.slice B5 c5.dn.length b5)).setCell ⟨V, 3, none⟩ (.slice (some ⟨e5, o5, none⟩) m q5)).setCell ⟨V, 4, none⟩ (.bool c5.over)).setCell ⟨V, 5, none⟩ (.int .i64 c5.st)).setCell ⟨V, 6, none⟩ (.int .i64 c5.id))) (.slice L5 ds.length l5) ds) := Lib.hid (HO5.out.grew hGV (fun x hx e => by have := (HO5.out.lt x hx).1; omega)).rd
        have HE7 : Hid (Ext w ((((((((w6.setCell ⟨V, 0, none⟩ (.slice A5 c5.ts.length a5)).setCell ⟨V, 1, none⟩ (.int .i64 g)).setCell ⟨V, 2, none⟩ (.slice B5 c5.dn.length b5)).setCell ⟨V, 3, none⟩ (.slice (some ⟨e5, o5, none⟩) m q5)).setCell ⟨V, 4, none⟩ (.bool c5.over)).setCell ⟨V, 5, none⟩ (.int .i64 c5.st)).setCell ⟨V, 6, none⟩ (.int .i64 c5.id)))) := Lib.hid (hGV.toExt (HD.out.ext.trans HE6.out) (fun x hx => by omega))
        have hz7 : w6.heap.size = ((((((((w6.setCell ⟨V, 0, none⟩ (.slice A5 c5.ts.length a5)).setCell ⟨V, 1, none⟩ (.int .i64 g)).setCell ⟨V, 2, none⟩ (.slice B5 c5.dn.length b5)).setCell ⟨V, 3, none⟩ (.slice (some ⟨e5, o5, none⟩) m q5)).setCell ⟨V, 4, none⟩ (.bool c5.over)).setCell ⟨V, 5, none⟩ (.int .i64 c5.st)).setCell ⟨V, 6, none⟩ (.int .i64 c5.id))).heap.size := by simp
        generalize (((((((w6.setCell ⟨V, 0, none⟩ (.slice A5 c5.ts.length a5)).setCell ⟨V, 1, none⟩ (.int .i64 g)).setCell ⟨V, 2, none⟩ (.slice B5 c5.dn.length b5)).setCell ⟨V, 3, none⟩ (.slice (some ⟨e5, o5, none⟩) m q5)).setCell ⟨V, 4, none⟩ (.bool c5.over)).setCell ⟨V, 5, none⟩ (.int .i64 c5.st)).setCell ⟨V, 6, none⟩ (.int .i64 c5.id)) = w7 at *
        clear hbR z0 z1 z2 z3 z4 z5 z6 zf hGV
        have x0 : w7.cell? ⟨V, 0, none⟩ = some (.slice A5 c5.ts.length a5) := (cell_of_row w7 (V) 0 _ _ _ HBV.out).trans rfl
        have x1 : w7.cell? ⟨V, 1, none⟩ = some (.int .i64 g) := (cell_of_row w7 (V) 1 _ _ _ HBV.out).trans rfl
        have x2 : w7.cell? ⟨V, 2, none⟩ = some (.slice B5 c5.dn.length b5) := (cell_of_row w7 (V) 2 _ _ _ HBV.out).trans rfl
        have x3 : w7.cell? ⟨V, 3, none⟩ = some (.slice (some ⟨e5, o5, none⟩) m q5) := (cell_of_row w7 (V) 3 _ _ _ HBV.out).trans rfl
        have x4 : w7.cell? ⟨V, 4, none⟩ = some (.bool c5.over) := (cell_of_row w7 (V) 4 _ _ _ HBV.out).trans rfl
        have x5 : w7.cell? ⟨V, 5, none⟩ = some (.int .i64 c5.st) := (cell_of_row w7 (V) 5 _ _ _ HBV.out).trans rfl
        have x6 : w7.cell? ⟨V, 6, none⟩ = some (.int .i64 c5.id) := (cell_of_row w7 (V) 6 _ _ _ HBV.out).trans rfl
        have xf := fun o => frozen_of_row w7 (V) o _ _ HBV.out
        have y0 : w7.cell? ⟨w.heap.size, 0, none⟩ = some (.slice none 0 0) := (cell_of_row w7 (w.heap.size) 0 _ _ _ HBR.out).trans rfl
        have y1 : w7.cell? ⟨w.heap.size, 1, none⟩ = some (.int .i64 0) := (cell_of_row w7 (w.heap.size) 1 _ _ _ HBR.out).trans rfl
        have y2 : w7.cell? ⟨w.heap.size, 2, none⟩ = some (.slice none 0 0) := (cell_of_row w7 (w.heap.size) 2 _ _ _ HBR.out).trans rfl
        have y3 : w7.cell? ⟨w.heap.size, 3, none⟩ = some (.slice none 0 0) := (cell_of_row w7 (w.heap.size) 3 _ _ _ HBR.out).trans rfl
        have y4 : w7.cell? ⟨w.heap.size, 4, none⟩ = some (.bool false) := (cell_of_row w7 (w.heap.size) 4 _ _ _ HBR.out).trans rfl
        have y5 : w7.cell? ⟨w.heap.size, 5, none⟩ = some (.int .i64 0) := (cell_of_row w7 (w.heap.size) 5 _ _ _ HBR.out).trans rfl
        have y6 : w7.cell? ⟨w.heap.size, 6, none⟩ = some (.int .i64 0) := (cell_of_row w7 (w.heap.size) 6 _ _ _ HBR.out).trans rfl
        have yf := fun o => frozen_of_row w7 (w.heap.size) o _ _ HBR.out
        have lV7 : V < w7.heap.size := by omega
        have lR7 : w.heap.size < w7.heap.size := by omega
        have HLL : Hid (evs.length + ds.length ≤ 1048576) := Lib.hid (by have := HO9.out.2.1; have := HEE.out; omega)
        have nRV : ¬ w.heap.size = V := by omega
        go_region_law (first
          | (refine kEv.step_app (by rfl) (.tmp 74) (.tmp 75) (by rfl) (by rfl) (V + 1) _ evs (by rfl) (HO7.out.ext (Ext.refl _).drew) _ ds (by rfl) (HY7.out.ext (Ext.refl _).drew) HLL.out (by simp; omega) ?_
             intro v8 w8 hown8 hgrow8 hat8
             have HA8 := Lib.hid (And.intro hown8 (And.intro hgrow8 hat8))
             have gV := block_of_grown hgrow8 (block_keep HBV.out (Ext.refl _).drew) (fun e => by have := (HRL.out _ e.symm).1; omega)
             have gR := block_of_grown hgrow8 (block_keep HBR.out (Ext.refl _).drew) (fun e => by have := (HRL.out _ e.symm).1; omega)
             have gz := hgrow8.size
             simp at gz
             have lV8 : V < w8.heap.size := by omega
             have lR8 : w.heap.size < w8.heap.size := by omega
             have p0 : w8.cell? ⟨V, 0, none⟩ = some (.slice A5 c5.ts.length a5) := (cell_of_row w8 (V) 0 _ _ _ gV).trans rfl
             have p1 : w8.cell? ⟨V, 1, none⟩ = some (.int .i64 g) := (cell_of_row w8 (V) 1 _ _ _ gV).trans rfl
             have p2 : w8.cell? ⟨V, 2, none⟩ = some (.slice B5 c5.dn.length b5) := (cell_of_row w8 (V) 2 _ _ _ gV).trans rfl
             have p3 : w8.cell? ⟨V, 3, none⟩ = some (.slice (some ⟨e5, o5, none⟩) m q5) := (cell_of_row w8 (V) 3 _ _ _ gV).trans rfl
             have p4 : w8.cell? ⟨V, 4, none⟩ = some (.bool c5.over) := (cell_of_row w8 (V) 4 _ _ _ gV).trans rfl
             have p5 : w8.cell? ⟨V, 5, none⟩ = some (.int .i64 c5.st) := (cell_of_row w8 (V) 5 _ _ _ gV).trans rfl
             have p6 : w8.cell? ⟨V, 6, none⟩ = some (.int .i64 c5.id) := (cell_of_row w8 (V) 6 _ _ _ gV).trans rfl
             have pf := fun o => frozen_of_row w8 (V) o _ _ gV
             have r0 : w8.cell? ⟨w.heap.size, 0, none⟩ = some (.slice none 0 0) := (cell_of_row w8 (w.heap.size) 0 _ _ _ gR).trans rfl
             have r1 : w8.cell? ⟨w.heap.size, 1, none⟩ = some (.int .i64 0) := (cell_of_row w8 (w.heap.size) 1 _ _ _ gR).trans rfl
             have r2 : w8.cell? ⟨w.heap.size, 2, none⟩ = some (.slice none 0 0) := (cell_of_row w8 (w.heap.size) 2 _ _ _ gR).trans rfl
             have r3 : w8.cell? ⟨w.heap.size, 3, none⟩ = some (.slice none 0 0) := (cell_of_row w8 (w.heap.size) 3 _ _ _ gR).trans rfl
             have r4 : w8.cell? ⟨w.heap.size, 4, none⟩ = some (.bool false) := (cell_of_row w8 (w.heap.size) 4 _ _ _ gR).trans rfl
             have r5 : w8.cell? ⟨w.heap.size, 5, none⟩ = some (.int .i64 0) := (cell_of_row w8 (w.heap.size) 5 _ _ _ gR).trans rfl
             have r6 : w8.cell? ⟨w.heap.size, 6, none⟩ = some (.int .i64 0) := (cell_of_row w8 (w.heap.size) 6 _ _ _ gR).trans rfl
             have rf := fun o => frozen_of_row w8 (w.heap.size) o _ _ gR
             clear hown8 hgrow8 hat8 gV gR gz x0 x1 x2 x3 x4 x5 x6 xf y0 y1 y2 y3 y4 y5 y6 yf))
        all_goals go_wp2_with fail
        all_goals
          obtain ⟨hown8, hgrow8, hat8⟩ := HA8.out
          obtain ⟨Lz, cz, hvz, hcz⟩ := hown8.slice
          subst hvz
          have hGR : Grew (fun x => x = w.heap.size) w8 ((((((((w8.setCell ⟨w.heap.size, 0, none⟩ (.slice A5 c5.ts.length a5)).setCell ⟨w.heap.size, 1, none⟩ (.int .i64 g)).setCell ⟨w.heap.size, 2, none⟩ (.slice B5 c5.dn.length b5)).setCell ⟨w.heap.size, 3, none⟩ (.slice (some ⟨e5, o5, none⟩) m q5)).setCell ⟨w.heap.size, 4, none⟩ (.bool c5.over)).setCell ⟨w.heap.size, 5, none⟩ (.int .i64 c5.st)).setCell ⟨w.heap.size, 6, none⟩ (.int .i64 c5.id))) := (Grew.setCell (S := fun x => x = w.heap.size) (p := ⟨w.heap.size, 6, none⟩) (Grew.setCell (S := fun x => x = w.heap.size) (p := ⟨w.heap.size, 5, none⟩) (Grew.setCell (S := fun x => x = w.heap.size) (p := ⟨w.heap.size, 4, none⟩) (Grew.setCell (S := fun x => x = w.heap.size) (p := ⟨w.heap.size, 3, none⟩) (Grew.setCell (S := fun x => x = w.heap.size) (p := ⟨w.heap.size, 2, none⟩) (Grew.setCell (S := fun x => x = w.heap.size) (p := ⟨w.heap.size, 1, none⟩) (Grew.setCell (S := fun x => x = w.heap.size) (p := ⟨w.heap.size, 0, none⟩) (Grew.refl _ _) rfl _) rfl _) rfl _) rfl _) rfl _) rfl _) rfl _)
          refine bodyPost_ret (v := .tuple #[crewV A5 B5 e5 o5 a5 b5 q5 g m c5, .slice Lz (evs ++ ds).length cz, .int .i64 0]) (by simp [results, Try.results35, go_sem]; go_simp) rfl ?_
          rw [HW2.out]
          refine ⟨A5, B5, Lz, e5, o5, a5, b5, q5, cz, HC5.out.1, rfl, ?_, ?_, ?_⟩
          · exact (((HC7.out.ext (Ext.refl _).drew).grew ((Wr.grown hgrow8).mono (fun x _ hx => .inr (.inr hx)))).grew (hGR.mono (fun x _ hx => .inl hx))).at_ m1
          · exact (hown8.grew hGR (fun x hx e => by have := (hown8.lt x hx).1; have := HD.out.vl; omega)).mono (by have := HD.out.vl; omega)
          · exact hGR.toExt (Wr.toExt (Wr.grown hgrow8) (HE7.out.trans (Ext.refl _).drew) (fun x hx => by have := (HRL.out x hx).1; have := HD.out.vl; omega)) (fun x hx => by omega)
      | false =>
        obtain ⟨bp, op, rfl, hcp⟩ := Rd.picks (HP.out.ext HD.out.ext) (by omega)
        obtain ⟨z0, z1⟩ := hcp k hlt
        have hok := HP.out.okAt k hlt
        obtain ⟨⟨p, q⟩, hpq⟩ : ∃ x, picks.getD k (0, 0) = x := ⟨_, rfl⟩
        rw [hpq] at z0 z1
        simp only at z0 z1
        have hpq2 : in64 p ∧ in64 q := by have e0 : picks.getD k kPk.d = (p, q) := hpq; rw [e0] at hok; exact hok
        have HPQ := Lib.hid hpq2
        have lbp : bp < wr.heap.size := World.block_lt_of_cell? _ _ z0
        obtain ⟨dn, hI⟩ := HD.out.been.inv
        have hbn := HD.out.been.step g1 m1 p q
        have hev := hI.evOk g1 n1 n2 m1 m2 p q
        have heq := HD.out.eq
        rw [untilP_next g m k c1 picks hlt hov, hpq] at heq
        obtain ⟨⟨c', ev⟩, hr⟩ : ∃ r, stepP g m c1 p q = r := ⟨_, rfl⟩
        simp only at heq
        rw [hr] at hbn hev heq
        have HBN := Lib.hid hbn
        have HOKE : Hid (kEv.ok ev) := Lib.hid hev
        have HEQ := Lib.hid heq
        have HR := Lib.hid hr
        have HI := Lib.hid hI
        have HOV := Lib.hid hov
        have HCA := Lib.hid (HD.out.cr.at_ m1)
        have HST : Hid (c1.st < 100000 ∧ c1.id < 100000) := Lib.hid (by have := HD.out.been.st; have := HD.out.been.id; have := HD.out.len; omega)
        have lV := block_lt HD.out.box
        have vl := HD.out.vl
        clear hcp hok hpq hpq2 hI hbn hev heq hr hov hex
        rw [HOV.out] at k4
        go_upto_region 8 with fail
        go_cut [15, 16, 17] (fun x e f wx => StepCut6 wr g m c' ev x e f wx)
        case first =>
          have KS : Hid (∀ w', Ext wr w' → w'.cell? ⟨V, 0, none⟩ = some (.slice A1 c1.ts.length a1) ∧ w'.cell? ⟨V, 1, none⟩ = some (.int .i64 g) ∧ w'.cell? ⟨V, 2, none⟩ = some (.slice B1 c1.dn.length b1) ∧ w'.cell? ⟨V, 3, none⟩ = some (.slice (some ⟨e1, 0, none⟩) m q1) ∧ w'.cell? ⟨V, 4, none⟩ = some (.bool false) ∧ w'.cell? ⟨V, 5, none⟩ = some (.int .i64 c1.st) ∧ w'.cell? ⟨V, 6, none⟩ = some (.int .i64 c1.id) ∧ w'.cell? ⟨bp, op + k * 2, none⟩ = some (.int .i64 p) ∧ w'.cell? ⟨bp, op + k * 2 + 1, none⟩ = some (.int .i64 q)) := Lib.hid fun w' hE => ⟨hE.cell k0, hE.cell k1, hE.cell k2, hE.cell k3, hE.cell k4, hE.cell k5, hE.cell k6, hE.cell z0, hE.cell z1⟩
          go_region_held3 (fun w' => w'.cell? ⟨V, 0, none⟩ = some (.slice A1 c1.ts.length a1) ∧ w'.cell? ⟨V, 1, none⟩ = some (.int .i64 g) ∧ w'.cell? ⟨V, 2, none⟩ = some (.slice B1 c1.dn.length b1) ∧ w'.cell? ⟨V, 3, none⟩ = some (.slice (some ⟨e1, 0, none⟩) m q1) ∧ w'.cell? ⟨V, 4, none⟩ = some (.bool false) ∧ w'.cell? ⟨V, 5, none⟩ = some (.int .i64 c1.st) ∧ w'.cell? ⟨V, 6, none⟩ = some (.int .i64 c1.id) ∧ w'.cell? ⟨bp, op + k * 2, none⟩ = some (.int .i64 p) ∧ w'.cell? ⟨bp, op + k * 2 + 1, none⟩ = some (.int .i64 q))
            (first | go_keep | exact KS.out _ (by repeat (first | (with_reducible exact Ext.refl _) | (with_reducible exact hX4) | (with_reducible refine Ext.drew ?_) | (with_reducible refine Ext.alloc ?_ _) | (with_reducible refine Ext.setCell ?_ (by first | (simp; done) | (simp; omega)) _))))
            (first
              | (go_at_call 42
                 refine (rstep5_to A1 B1 e1 0 a1 b1 q1 g n m c1 c' ev false dn _ p q _ HOV.out HR.out (HCA.out.ext (by repeat (first | (with_reducible exact Ext.refl _) | (with_reducible exact hX4) | (with_reducible refine Ext.drew ?_) | (with_reducible refine Ext.alloc ?_ _) | (with_reducible refine Ext.setCell ?_ (by first | (simp; done) | (simp; omega)) _)))) HD.out.me HI.out n1 n2 g1 g2 m1 m2 HST.out.1 HST.out.2 HPQ.out.1 HPQ.out.2).mono ?_
                 rintro ed w4 ⟨A', B', e0', a', b', q', hq', rfl, hC4, hE4⟩
                 obtain ⟨S4, hV4, hS4, hC6⟩ : ∃ S4 : Nat → Prop, (∀ b, b < wr.heap.size → S4 b) ∧ (∀ b, b < _ → S4 b) ∧ CrewO S4 w4 m c' A' B' e0' 0 a' b' := ⟨_, fun b h => by first | exact h | (simp; omega) | omega, fun b h1 => h1, hC4⟩
                 have hX4 : Ext wr w4 := Ext.trans (by repeat (first | (with_reducible exact Ext.refl _) | (with_reducible exact hX4) | (with_reducible refine Ext.drew ?_) | (with_reducible refine Ext.alloc ?_ _) | (with_reducible refine Ext.setCell ?_ (by first | (simp; done) | (simp; omega)) _))) hE4
                 have hz4 := hE4.size
                 simp at hz4
                 have lz4 : wr.heap.size ≤ w4.heap.size := by omega
                 try (have yc00 : w4.cell? ⟨wr.heap.size, 0, none⟩ = some (.slice none 0 0) := hE4.cell (by first | (go_simp; done) | fail)
                      have yc01 : w4.cell? ⟨wr.heap.size, 1, none⟩ = some (.int .i64 0) := hE4.cell (by first | (go_simp; done) | fail)
                      have yc02 : w4.cell? ⟨wr.heap.size, 2, none⟩ = some (.slice none 0 0) := hE4.cell (by first | (go_simp; done) | fail)
                      have yc03 : w4.cell? ⟨wr.heap.size, 3, none⟩ = some (.slice none 0 0) := hE4.cell (by first | (go_simp; done) | fail)
                      have yc04 : w4.cell? ⟨wr.heap.size, 4, none⟩ = some (.bool false) := hE4.cell (by first | (go_simp; done) | fail)
                      have yc05 : w4.cell? ⟨wr.heap.size, 5, none⟩ = some (.int .i64 0) := hE4.cell (by first | (go_simp; done) | fail)
                      have yc06 : w4.cell? ⟨wr.heap.size, 6, none⟩ = some (.int .i64 0) := hE4.cell (by first | (go_simp; done) | fail)
                      have yc0f : ∀ o, w4.frozen? ⟨wr.heap.size, o, none⟩ = false := fun o => (Below.frozen hE4 (p := ⟨wr.heap.size, o, none⟩) (by first | (simp; done) | (simp; omega) | fail)).trans (by first | (go_simp; done) | fail)
                      have yc0l : wr.heap.size < w4.heap.size := by omega)
                 try (have ye03 : w4.cell? ⟨wr.heap.size, 3, none⟩ = some (.bool false) := hE4.cell (by first | (go_simp; done) | fail)
                      have ye00 : w4.cell? ⟨wr.heap.size, 0, none⟩ = some (.int .i64 0) := hE4.cell (by first | (go_simp; done) | fail)
                      have ye01 : w4.cell? ⟨wr.heap.size, 1, none⟩ = some (.int .i64 0) := hE4.cell (by first | (go_simp; done) | fail)
                      have ye02 : w4.cell? ⟨wr.heap.size, 2, none⟩ = some (.int .i64 0) := hE4.cell (by first | (go_simp; done) | fail)
                      have ye0f : ∀ o, w4.frozen? ⟨wr.heap.size, o, none⟩ = false := fun o => (Below.frozen hE4 (p := ⟨wr.heap.size, o, none⟩) (by first | (simp; done) | (simp; omega) | fail)).trans (by first | (go_simp; done) | fail)
                      have ye0l : wr.heap.size < w4.heap.size := by omega)
                 try (have yc10 : w4.cell? ⟨wr.heap.size + 1, 0, none⟩ = some (.slice none 0 0) := hE4.cell (by first | (go_simp; done) | fail)
                      have yc11 : w4.cell? ⟨wr.heap.size + 1, 1, none⟩ = some (.int .i64 0) := hE4.cell (by first | (go_simp; done) | fail)
                      have yc12 : w4.cell? ⟨wr.heap.size + 1, 2, none⟩ = some (.slice none 0 0) := hE4.cell (by first | (go_simp; done) | fail)
                      have yc13 : w4.cell? ⟨wr.heap.size + 1, 3, none⟩ = some (.slice none 0 0) := hE4.cell (by first | (go_simp; done) | fail)
                      have yc14 : w4.cell? ⟨wr.heap.size + 1, 4, none⟩ = some (.bool false) := hE4.cell (by first | (go_simp; done) | fail)
                      have yc15 : w4.cell? ⟨wr.heap.size + 1, 5, none⟩ = some (.int .i64 0) := hE4.cell (by first | (go_simp; done) | fail)
                      have yc16 : w4.cell? ⟨wr.heap.size + 1, 6, none⟩ = some (.int .i64 0) := hE4.cell (by first | (go_simp; done) | fail)
                      have yc1f : ∀ o, w4.frozen? ⟨wr.heap.size + 1, o, none⟩ = false := fun o => (Below.frozen hE4 (p := ⟨wr.heap.size + 1, o, none⟩) (by first | (simp; done) | (simp; omega) | fail)).trans (by first | (go_simp; done) | fail)
                      have yc1l : wr.heap.size + 1 < w4.heap.size := by omega)
                 try (have ye13 : w4.cell? ⟨wr.heap.size + 1, 3, none⟩ = some (.bool false) := hE4.cell (by first | (go_simp; done) | fail)
                      have ye10 : w4.cell? ⟨wr.heap.size + 1, 0, none⟩ = some (.int .i64 0) := hE4.cell (by first | (go_simp; done) | fail)
                      have ye11 : w4.cell? ⟨wr.heap.size + 1, 1, none⟩ = some (.int .i64 0) := hE4.cell (by first | (go_simp; done) | fail)
                      have ye12 : w4.cell? ⟨wr.heap.size + 1, 2, none⟩ = some (.int .i64 0) := hE4.cell (by first | (go_simp; done) | fail)
                      have ye1f : ∀ o, w4.frozen? ⟨wr.heap.size + 1, o, none⟩ = false := fun o => (Below.frozen hE4 (p := ⟨wr.heap.size + 1, o, none⟩) (by first | (simp; done) | (simp; omega) | fail)).trans (by first | (go_simp; done) | fail)
                      have ye1l : wr.heap.size + 1 < w4.heap.size := by omega)
                ))
          all_goals
            go_wp2_with fail
            go_meet
            refine ⟨_, _, A', B', e0', a', b', q', hq', rfl, rfl, rfl, ⟨by go_simp, by go_simp, by go_simp, by go_simp, by go_simp, by go_simp, by go_simp, by go_simp, by go_simp, by go_simp, by go_simp⟩, ?_, (by first | (simp; done) | (simp; omega) | omega), (by first | (simp; done) | (simp; omega) | omega), (by repeat (first | (with_reducible exact Ext.refl _) | (with_reducible exact hX4) | (with_reducible refine Ext.drew ?_) | (with_reducible refine Ext.alloc ?_ _) | (with_reducible refine Ext.setCell ?_ (by first | (simp; done) | (simp; omega)) _)))⟩
            refine CrewO.mono (S := S4) ?_ m1 (fun b hb h => hV4 b h)
            repeat (first | (with_reducible exact hC6) | (with_reducible refine CrewO.setCell ?_ (hS4 _ (by first | (simp; done) | (simp; omega) | omega)) _) | (with_reducible refine CrewO.ext ?_ ((Ext.refl _).alloc _)) | (with_reducible refine CrewO.ext ?_ (Ext.refl _).drew))
        case rest =>
        obtain ⟨X, Y, A5, B5, e5, a5, b5, q5, hq5, rfl, rfl, rfl, hBx, hC5, hXl, hYl, hX⟩ := hcut
        generalize wc = w8 at *
        obtain ⟨x0, x1, x2, x3, x4, x5, x6, y0, y1, y2, y3⟩ := hBx
        have HE8 := Lib.hid hX
        have HC5 := Lib.hid (And.intro hq5 hC5)
        have HB8 := Lib.hid (block_keep HD.out.box hX)
        have hz8 := hX.size
        obtain ⟨Ao, co, hv, hco⟩ := HD.out.own.slice
        obtain ⟨no, hno⟩ : ∃ no, evs.length = no := ⟨_, rfl⟩
        rw [hno] at hv hco
        subst hv
        obtain ⟨row, hrw⟩ : ∃ row, Value.ownBlock (.slice Ao no co) = row := ⟨_, rfl⟩
        have hrlt : ∀ x, row = some x → V + 1 ≤ x ∧ x < wr.heap.size := fun x hx => HD.out.own.lt x (hrw.trans hx)
        have hrow : ∀ x, row = some x → x < w8.heap.size := fun x hx => by have := hrlt x hx; omega
        have nX : ¬ row = some X := fun hh => by have := hrlt _ hh; omega
        have nY : ¬ row = some Y := fun hh => by have := hrlt _ hh; omega
        have HRL := Lib.hid hrlt
        have HO8 : Hid (Ow kEv (V + 1) w8 (.slice Ao no co) evs) := Lib.hid (HD.out.own.ext hX)
        have HLL : Hid (evs.length + [ev].length ≤ 1048576) := Lib.hid (by have := HD.out.len; simp; omega)
        have HBS : Hid (V + 1 ≤ w8.heap.size) := Lib.hid (by omega)
        clear hno hco hrlt hC5 hX hq5
        go_upto_region 11 with fail
        refine MonoW.wp_region_write 5 4 (Wr row) (R6Q w8 row (.agg #[.slice A5 c'.ts.length a5, .int .i64 g, .slice B5 c'.dn.length b5, .slice (some ⟨e5, 0, none⟩) m q5, .bool c'.over, .int .i64 c'.st, .int .i64 c'.id]) (.agg #[.int .i64 ev.wk, .int .i64 ev.fr, .int .i64 ev.tk, .bool ev.pt]) (.slice Ao no co) (V + 1) evs ev) (by kernel_rfl) (by kernel_rfl) (Wr.of row) (Wr.tr row) (R6Q_ext w8 row (.agg #[.slice A5 c'.ts.length a5, .int .i64 g, .slice B5 c'.dn.length b5, .slice (some ⟨e5, 0, none⟩) m q5, .bool c'.over, .int .i64 c'.st, .int .i64 c'.id]) (.agg #[.int .i64 ev.wk, .int .i64 ev.fr, .int .i64 ev.tk, .bool ev.pt]) (.slice Ao no co) (V + 1) evs ev) (R6Q_sw w8 row (.agg #[.slice A5 c'.ts.length a5, .int .i64 g, .slice B5 c'.dn.length b5, .slice (some ⟨e5, 0, none⟩) m q5, .bool c'.over, .int .i64 c'.st, .int .i64 c'.id]) (.agg #[.int .i64 ev.wk, .int .i64 ev.fr, .int .i64 ev.tk, .bool ev.pt]) (.slice Ao no co) (V + 1) evs ev hrow) ?_ ?_
        · intro i o hi ho vals w5 hE hQ hcl
          have hi' : i = 0 ∨ i = 1 ∨ i = 2 ∨ i = 3 ∨ i = 4 := by omega
          rcases hi' with rfl | rfl | rfl | rfl | rfl
          · simp only [List.getElem?_cons_succ, List.getElem?_cons_zero, Option.some.injEq] at ho
            subst ho
            rw [if_pos (Mono.wanted_none rfl)]
            have l0 := hE.cell x0 nX
            have l1 := hE.cell x1 nX
            have l2 := hE.cell x2 nX
            have l3 := hE.cell x3 nX
            have l4 := hE.cell x4 nX
            have l5 := hE.cell x5 nX
            have l6 := hE.cell x6 nX
            clear hcl
            refine Mono.yields_same (.agg #[.slice A5 c'.ts.length a5, .int .i64 g, .slice B5 c'.dn.length b5, .slice (some ⟨e5, 0, none⟩) m q5, .bool c'.over, .int .i64 c'.st, .int .i64 c'.id]) w5 ?_ ⟨MonoW.Out.of (Wr.of row) (Ext.refl _), R6Q_i0 _ _ _ _ _ _ _ _ _ _ _ rfl⟩
            simp only [Mono.all, List.take, Act.put]
            go_simp
          · simp only [List.getElem?_cons_succ, List.getElem?_cons_zero, Option.some.injEq] at ho
            subst ho
            rw [if_pos (Mono.wanted_none rfl)]
            clear hcl
            refine Mono.yields_same (.slice Ao no co) w5 ?_ ⟨MonoW.Out.of (Wr.of row) (Ext.refl _), R6Q_i1 _ _ _ _ _ _ _ _ _ _ _ rfl⟩
            simp only [Mono.all, List.take, Act.put]
            go_simp
          · simp only [List.getElem?_cons_succ, List.getElem?_cons_zero, Option.some.injEq] at ho
            subst ho
            rw [if_pos (Mono.wanted_none rfl)]
            have l0 := hE.cell y0 nY
            have l1 := hE.cell y1 nY
            have l2 := hE.cell y2 nY
            have l3 := hE.cell y3 nY
            clear hcl
            refine Mono.yields_same (.agg #[.int .i64 ev.wk, .int .i64 ev.fr, .int .i64 ev.tk, .bool ev.pt]) w5 ?_ ⟨MonoW.Out.of (Wr.of row) (Ext.refl _), R6Q_i2 _ _ _ _ _ _ _ _ _ _ _ rfl⟩
            simp only [Mono.all, List.take, Act.put]
            go_simp
          · simp only [List.getElem?_cons_succ, List.getElem?_cons_zero, Option.some.injEq] at ho
            subst ho
            rw [if_pos (Mono.wanted_none rfl)]
            have h2 : vals 2 = .agg #[.int .i64 ev.wk, .int .i64 ev.fr, .int .i64 ev.tk, .bool ev.pt] := (R6Q_e2 _ _ _ _ _ _ _ _ _ _ _ (hcl 2 (by kernel_rfl)))
            clear hcl
            refine Mono.yields_same (.slice (some ⟨w5.heap.size, 0, none⟩) 1 1) (w5.alloc (.cells #[.int .i64 ev.wk, .int .i64 ev.fr, .int .i64 ev.tk, .bool ev.pt] kEv.e)) ?_ ⟨MonoW.Out.of (Wr.of row) ((Ext.refl _).alloc _), R6Q_i3 _ _ _ _ _ _ _ _ _ _ _ (OneAt.made kEv w5 hE.size _ _ rfl HOKE.out)⟩
            simp only [Mono.all, List.take, Act.put, kEv]
            go_simp
          · simp only [List.getElem?_cons_succ, List.getElem?_cons_zero, Option.some.injEq] at ho
            subst ho
            rw [if_pos (Mono.wanted_none rfl)]
            obtain ⟨p, h3, o3⟩ := (R6Q_e3 _ _ _ _ _ _ _ _ _ _ _ (hcl 3 (by kernel_rfl)))
            have h1 : vals 1 = .slice Ao no co := (R6Q_e1 _ _ _ _ _ _ _ _ _ _ _ (hcl 1 (by kernel_rfl)))
            have hX := hQ rfl
            clear hcl
            refine Kd.yields_grow kEv (B := V + 1) (n := w8.heap.size) (q := 4) (.tmp 63) (.tmp 65) (v := .slice Ao no co) (y := .slice (some ⟨p, 0, none⟩) 1 1) (xs := evs) (ys := [ev]) (HO8.out.ext hX) o3.rd HLL.out (Nat.le_trans HBS.out hX.size) hX.size rfl rfl (by rw [← h1]; kernel_rfl) (by rw [← h3]; kernel_rfl) ?_
            intro v' w' hA hO
            exact ⟨by rw [← hrw]; exact hO, R6Q_i4 _ _ _ _ _ _ _ _ _ _ _ hA⟩
        · intro vals w5 hE hv
          have hA := (R6Q_e4 _ _ _ _ _ _ _ _ _ _ _ (hv 4 (by omega)))
          have ee0 := (R6Q_e0 _ _ _ _ _ _ _ _ _ _ _ (hv 0 (by omega)))
          have ee3 := (R6Q_e3 _ _ _ _ _ _ _ _ _ _ _ (hv 3 (by omega)))
          have HA := Lib.hid hA
          have HG := Lib.hid hE
          have hbP : w5.heap[V]? = some (.cells #[.slice A1 c1.ts.length a1, .int .i64 g, .slice B1 c1.dn.length b1, .slice (some ⟨e1, 0, none⟩) m q1, .bool c1.over, .int .i64 c1.st, .int .i64 c1.id] 64) := block_wr HB8.out hE (fun hh => by have := (HRL.out _ hh).1; omega)
          have z0 : w5.cell? ⟨V, 0, none⟩ = some (.slice A1 c1.ts.length a1) := (cell_of_row w5 (V) 0 _ _ _ hbP).trans rfl
          have z1 : w5.cell? ⟨V, 1, none⟩ = some (.int .i64 g) := (cell_of_row w5 (V) 1 _ _ _ hbP).trans rfl
          have z2 : w5.cell? ⟨V, 2, none⟩ = some (.slice B1 c1.dn.length b1) := (cell_of_row w5 (V) 2 _ _ _ hbP).trans rfl
          have z3 : w5.cell? ⟨V, 3, none⟩ = some (.slice (some ⟨e1, 0, none⟩) m q1) := (cell_of_row w5 (V) 3 _ _ _ hbP).trans rfl
          have z4 : w5.cell? ⟨V, 4, none⟩ = some (.bool c1.over) := (cell_of_row w5 (V) 4 _ _ _ hbP).trans rfl
          have z5 : w5.cell? ⟨V, 5, none⟩ = some (.int .i64 c1.st) := (cell_of_row w5 (V) 5 _ _ _ hbP).trans rfl
          have z6 : w5.cell? ⟨V, 6, none⟩ = some (.int .i64 c1.id) := (cell_of_row w5 (V) 6 _ _ _ hbP).trans rfl
          have zf := fun o => frozen_of_row w5 (V) o _ _ hbP
          have lP := block_lt hbP
          have HBP := Lib.hid hbP
          clear hA hbP hE ee3
          simp only [Mono.all, List.take, List.drop, Act.put]
          go_wp2_with fail
          go_roundw
          case rel =>
            have hGP : Grew (fun x => x = V) w5 ((((((((w5.setCell ⟨V, 0, none⟩ (.slice A5 c'.ts.length a5)).setCell ⟨V, 1, none⟩ (.int .i64 g)).setCell ⟨V, 2, none⟩ (.slice B5 c'.dn.length b5)).setCell ⟨V, 3, none⟩ (.slice (some ⟨e5, 0, none⟩) m q5)).setCell ⟨V, 4, none⟩ (.bool c'.over)).setCell ⟨V, 5, none⟩ (.int .i64 c'.st)).setCell ⟨V, 6, none⟩ (.int .i64 c'.id))) := (Grew.setCell (S := fun x => x = V) (p := ⟨V, 6, none⟩) (Grew.setCell (S := fun x => x = V) (p := ⟨V, 5, none⟩) (Grew.setCell (S := fun x => x = V) (p := ⟨V, 4, none⟩) (Grew.setCell (S := fun x => x = V) (p := ⟨V, 3, none⟩) (Grew.setCell (S := fun x => x = V) (p := ⟨V, 2, none⟩) (Grew.setCell (S := fun x => x = V) (p := ⟨V, 1, none⟩) (Grew.setCell (S := fun x => x = V) (p := ⟨V, 0, none⟩) (Grew.refl _ _) rfl _) rfl _) rfl _) rfl _) rfl _) rfl _) rfl _)
            have hGr : Grew (fun x => x = V ∨ row = some x) w8 ((((((((w5.setCell ⟨V, 0, none⟩ (.slice A5 c'.ts.length a5)).setCell ⟨V, 1, none⟩ (.int .i64 g)).setCell ⟨V, 2, none⟩ (.slice B5 c'.dn.length b5)).setCell ⟨V, 3, none⟩ (.slice (some ⟨e5, 0, none⟩) m q5)).setCell ⟨V, 4, none⟩ (.bool c'.over)).setCell ⟨V, 5, none⟩ (.int .i64 c'.st)).setCell ⟨V, 6, none⟩ (.int .i64 c'.id))) := (Grew.mono HG.out (fun x _ hx => .inr hx)).trans (hGP.mono (fun x _ hx => .inl hx))
            refine ⟨k + 1, by omega, by go_num, c', evs ++ [ev], A5, B5, e5, a5, b5, q5, HC5.out.1, set_box7 HBP.out _ _ _ _ _ _ _, ?_, HA.out.1.grew hGP (fun x hx e => by have := (HA.out.1.lt x hx).1; omega), HBN.out, ?_, by have := HD.out.len; rw [List.length_append]; simp; omega, ?_, ?_, HD.out.vl⟩
            · refine HC5.out.2.later m1 (W := (((((((w5.setCell ⟨V, 0, none⟩ (.slice A5 c'.ts.length a5)).setCell ⟨V, 1, none⟩ (.int .i64 g)).setCell ⟨V, 2, none⟩ (.slice B5 c'.dn.length b5)).setCell ⟨V, 3, none⟩ (.slice (some ⟨e5, 0, none⟩) m q5)).setCell ⟨V, 4, none⟩ (.bool c'.over)).setCell ⟨V, 5, none⟩ (.int .i64 c'.st)).setCell ⟨V, 6, none⟩ (.int .i64 c'.id))) (hGr.mono (fun x hx hh => ?_)) (fun x hx hT => ?_)
              · rcases hh with hh | hh
                · omega
                · exact (HRL.out x hh).2
              · rcases hT with hT | hT | hT
                · omega
                · omega
                · rcases HA.out.2 with h9 | ⟨p', h9, h10⟩
                  · rw [h9, hrw] at hT
                    exact (HRL.out x hT).2
                  · rw [h9] at hT; cases hT; omega
            · rw [HEQ.out, List.append_assoc]; rfl
            · exact block_wr (block_keep HD.out.res HE8.out) hGr (fun hh => by
                rcases hh with hh | hh
                · omega
                · have := (HRL.out _ hh).1; omega)
            · exact hGr.toExt (HD.out.ext.trans HE8.out) (fun x hx => by
                rcases hx with hx | hx
                · omega
                · have := (HRL.out _ hx).1; omega)
          case measure => simp [intOf]; omega
    · have hlt' : ¬ (k : Int) < picks.length := by omega
      have hld : decide ((k : Int) < picks.length) = false := decide_eq_false hlt'
      have hU := hex (fun h => absurd h hlt)
      go_upto_region 12 with fail
      obtain ⟨N, hN⟩ : ∃ N, m * cntT n g = N := ⟨_, rfl⟩
      have hW : wholeP g n m picks = ((drainP g m N 0 c1).1, evs ++ (drainP g m N 0 c1).2) := by unfold wholeP; rw [hU, hN]
      obtain ⟨dn, hI⟩ := HD.out.been.inv
      have hcn := (hI.counts g1 n1).2.2.1
      have hNl : N ≤ 14400 := by
        have h1 : m * cntT n g ≤ 8 * 1800 := Nat.mul_le_mul m2 (by omega)
        omega
      have hov9 : (drainP g m N 0 c1).1.over = true := by have := (whole_ends g1 n1 m1 picks).1; rw [hW] at this; exact this
      have hel := HD.out.len
      have hst := HD.out.been.st
      have hid := HD.out.been.id
      have hee : (drainP g m N 0 c1).2.length ≤ 60000 := by
        have h1 := (whole_ends g1 n1 m1 picks).2.2.1
        rw [hW] at h1
        simp only [List.length_append] at h1
        have h2 : m * (cntT n g + 1) ≤ 8 * 1801 := Nat.mul_le_mul m2 (by omega)
        omega
      obtain ⟨Ao, co, hv, hco⟩ := HD.out.own.slice
      obtain ⟨no, hno⟩ : ∃ no, evs.length = no := ⟨_, rfl⟩
      rw [hno] at hv hco
      subst hv
      have hrlt : ∀ x, Value.ownBlock (.slice Ao no co) = some x → V + 1 ≤ x ∧ x < wr.heap.size := fun x hx => HD.out.own.lt x hx
      have HRL := Lib.hid hrlt
      have HW := Lib.hid hW
      have HO9 := Lib.hid (And.intro hov9 (And.intro hel (And.intro hst (And.intro hid hee))))
      have HII := Lib.hid hI
      have lV := block_lt HD.out.box
      have lR := block_lt HD.out.res
      have vl := HD.out.vl
      have HS : Hid (∀ x, (x = w.heap.size ∨ x = V ∨ Value.ownBlock (.slice Ao no co) = some x) → x < wr.heap.size) := Lib.hid (fun x hx => by
        rcases hx with rfl | rfl | hx
        · exact lR
        · exact lV
        · exact (hrlt x hx).2)
      have HNL := Lib.hid hNl
      clear hN hW hI hcn hNl hov9 hel hst hid hco hno hrlt hee
      go_wp2_with fail
      have hh := rdrain_any (fun x => x = w.heap.size ∨ x = V ∨ Value.ownBlock (.slice Ao no co) = some x) A1 B1 e1 0 a1 b1 q1 g n m N c1 wr HS.out HD.out.cr HD.out.me ⟨_, _, HII.out⟩ n1 n2 g1 g2 m1 m2 (by have := HO9.out; have := HNL.out; omega) (by have := HO9.out; have := HNL.out; omega) (by have := HNL.out; omega) HO9.out.1
      refine hh.mono ?_
      clear hh
      have HEE : Hid ((drainP g m N 0 c1).2.length ≤ 60000) := Lib.hid HO9.out.2.2.2.2
      obtain ⟨⟨c5, ds⟩, hr⟩ : ∃ x, drainP g m N 0 c1 = x := ⟨_, rfl⟩
      rw [hr] at HEE ⊢
      have hW2 := HW.out
      rw [hr] at hW2
      have HW2 := Lib.hid hW2
      rintro ed w6 ⟨A5, B5, L5, e5, o5, a5, b5, q5, l5, hq5, rfl, hC5, hO5, hE6⟩
      simp only at hC5 hO5
      have hbV := block_keep HD.out.box hE6
      have hbR := block_keep HD.out.res hE6
      have hz6 := hE6.size
      have z0 : w6.cell? ⟨V, 0, none⟩ = some (.slice A1 c1.ts.length a1) := (cell_of_row w6 (V) 0 _ _ _ hbV).trans rfl
      have z1 : w6.cell? ⟨V, 1, none⟩ = some (.int .i64 g) := (cell_of_row w6 (V) 1 _ _ _ hbV).trans rfl
      have z2 : w6.cell? ⟨V, 2, none⟩ = some (.slice B1 c1.dn.length b1) := (cell_of_row w6 (V) 2 _ _ _ hbV).trans rfl
      have z3 : w6.cell? ⟨V, 3, none⟩ = some (.slice (some ⟨e1, 0, none⟩) m q1) := (cell_of_row w6 (V) 3 _ _ _ hbV).trans rfl
      have z4 : w6.cell? ⟨V, 4, none⟩ = some (.bool c1.over) := (cell_of_row w6 (V) 4 _ _ _ hbV).trans rfl
      have z5 : w6.cell? ⟨V, 5, none⟩ = some (.int .i64 c1.st) := (cell_of_row w6 (V) 5 _ _ _ hbV).trans rfl
      have z6 : w6.cell? ⟨V, 6, none⟩ = some (.int .i64 c1.id) := (cell_of_row w6 (V) 6 _ _ _ hbV).trans rfl
      have zf := fun o => frozen_of_row w6 (V) o _ _ hbV
      have HC5 := Lib.hid (And.intro hq5 hC5)
      have HO5 := Lib.hid hO5
      have HE6 := Lib.hid hE6
      have HBV := Lib.hid (set_box7 hbV (.slice A5 c5.ts.length a5) (.int .i64 g) (.slice B5 c5.dn.length b5) (.slice (some ⟨e5, o5, none⟩) m q5) (.bool c5.over) (.int .i64 c5.st) (.int .i64 c5.id))
      have lV6 : V < w6.heap.size := by omega
      clear hr hW2 hC5 hO5 hE6 hq5 hbV k0 k1 k2 k3 k4 k5 k6 kf
      go_upto_region 13 with fail
      have hGV : Grew (fun x => x = V) w6 ((((((((w6.setCell ⟨V, 0, none⟩ (.slice A5 c5.ts.length a5)).setCell ⟨V, 1, none⟩ (.int .i64 g)).setCell ⟨V, 2, none⟩ (.slice B5 c5.dn.length b5)).setCell ⟨V, 3, none⟩ (.slice (some ⟨e5, o5, none⟩) m q5)).setCell ⟨V, 4, none⟩ (.bool c5.over)).setCell ⟨V, 5, none⟩ (.int .i64 c5.st)).setCell ⟨V, 6, none⟩ (.int .i64 c5.id))) := (Grew.setCell (S := fun x => x = V) (p := ⟨V, 6, none⟩) (Grew.setCell (S := fun x => x = V) (p := ⟨V, 5, none⟩) (Grew.setCell (S := fun x => x = V) (p := ⟨V, 4, none⟩) (Grew.setCell (S := fun x => x = V) (p := ⟨V, 3, none⟩) (Grew.setCell (S := fun x => x = V) (p := ⟨V, 2, none⟩) (Grew.setCell (S := fun x => x = V) (p := ⟨V, 1, none⟩) (Grew.setCell (S := fun x => x = V) (p := ⟨V, 0, none⟩) (Grew.refl _ _) rfl _) rfl _) rfl _) rfl _) rfl _) rfl _) rfl _)
      have HBR : Hid (((((((((w6.setCell ⟨V, 0, none⟩ (.slice A5 c5.ts.length a5)).setCell ⟨V, 1, none⟩ (.int .i64 g)).setCell ⟨V, 2, none⟩ (.slice B5 c5.dn.length b5)).setCell ⟨V, 3, none⟩ (.slice (some ⟨e5, o5, none⟩) m q5)).setCell ⟨V, 4, none⟩ (.bool c5.over)).setCell ⟨V, 5, none⟩ (.int .i64 c5.st)).setCell ⟨V, 6, none⟩ (.int .i64 c5.id))).heap[w.heap.size]? = some (.cells #[.slice none 0 0, .int .i64 0, .slice none 0 0, .slice none 0 0, .bool false, .int .i64 0, .int .i64 0] 64)) := Lib.hid (block_wr hbR hGV (by omega))
      have HC7 : Hid (CrewO (fun x => x = w.heap.size ∨ x = V ∨ Value.ownBlock (.slice Ao no co) = some x) ((((((((w6.setCell ⟨V, 0, none⟩ (.slice A5 c5.ts.length a5)).setCell ⟨V, 1, none⟩ (.int .i64 g)).setCell ⟨V, 2, none⟩ (.slice B5 c5.dn.length b5)).setCell ⟨V, 3, none⟩ (.slice (some ⟨e5, o5, none⟩) m q5)).setCell ⟨V, 4, none⟩ (.bool c5.over)).setCell ⟨V, 5, none⟩ (.int .i64 c5.st)).setCell ⟨V, 6, none⟩ (.int .i64 c5.id))) m c5 A5 B5 e5 o5 a5 b5) := Lib.hid (HC5.out.2.grew (hGV.mono (fun x _ hx => .inr (.inl hx))))
      have HO7 : Hid (Ow kEv (V + 1) ((((((((w6.setCell ⟨V, 0, none⟩ (.slice A5 c5.ts.length a5)).setCell ⟨V, 1, none⟩ (.int .i64 g)).setCell ⟨V, 2, none⟩ (.slice B5 c5.dn.length b5)).setCell ⟨V, 3, none⟩ (.slice (some ⟨e5, o5, none⟩) m q5)).setCell ⟨V, 4, none⟩ (.bool c5.over)).setCell ⟨V, 5, none⟩ (.int .i64 c5.st)).setCell ⟨V, 6, none⟩ (.int .i64 c5.id))) (.slice Ao no co) evs) := Lib.hid ((HD.out.own.ext HE6.out).grew hGV (fun x hx e => by have := (HRL.out x hx).1; omega))
      have HY7 : Hid (Rd kEv ((((((((w6.setCell ⟨V, 0, none⟩ (.slice A5 c5.ts.length a5)).setCell ⟨V, 1, none⟩ (.int .i64 g)).setCell ⟨V, 2, none⟩ (.slice B5 c5.dn.length b5)).setCell ⟨V, 3, none⟩ (.slice (some ⟨e5, o5, none⟩) m q5)).setCell ⟨V, 4, none⟩ (.bool c5.over)).setCell ⟨V, 5, none⟩ (.int .i64 c5.st)).setCell ⟨V, 6, none⟩ (.int .i64 c5.id))) (.slice L5 ds.length l5) ds) := Lib.hid (HO5.out.grew hGV (fun x hx e => by have := (HO5.out.lt x hx).1; omega)).rd
      have HE7 : Hid (Ext w ((((((((w6.setCell ⟨V, 0, none⟩ (.slice A5 c5.ts.length a5)).setCell ⟨V, 1, none⟩ (.int .i64 g)).setCell ⟨V, 2, none⟩ (.slice B5 c5.dn.length b5)).setCell ⟨V, 3, none⟩ (.slice (some ⟨e5, o5, none⟩) m q5)).setCell ⟨V, 4, none⟩ (.bool c5.over)).setCell ⟨V, 5, none⟩ (.int .i64 c5.st)).setCell ⟨V, 6, none⟩ (.int .i64 c5.id)))) := Lib.hid (hGV.toExt (HD.out.ext.trans HE6.out) (fun x hx => by omega))
      have hz7 : w6.heap.size = ((((((((w6.setCell ⟨V, 0, none⟩ (.slice A5 c5.ts.length a5)).setCell ⟨V, 1, none⟩ (.int .i64 g)).setCell ⟨V, 2, none⟩ (.slice B5 c5.dn.length b5)).setCell ⟨V, 3, none⟩ (.slice (some ⟨e5, o5, none⟩) m q5)).setCell ⟨V, 4, none⟩ (.bool c5.over)).setCell ⟨V, 5, none⟩ (.int .i64 c5.st)).setCell ⟨V, 6, none⟩ (.int .i64 c5.id))).heap.size := by simp
      generalize (((((((w6.setCell ⟨V, 0, none⟩ (.slice A5 c5.ts.length a5)).setCell ⟨V, 1, none⟩ (.int .i64 g)).setCell ⟨V, 2, none⟩ (.slice B5 c5.dn.length b5)).setCell ⟨V, 3, none⟩ (.slice (some ⟨e5, o5, none⟩) m q5)).setCell ⟨V, 4, none⟩ (.bool c5.over)).setCell ⟨V, 5, none⟩ (.int .i64 c5.st)).setCell ⟨V, 6, none⟩ (.int .i64 c5.id)) = w7 at *
      clear hbR z0 z1 z2 z3 z4 z5 z6 zf hGV
      have x0 : w7.cell? ⟨V, 0, none⟩ = some (.slice A5 c5.ts.length a5) := (cell_of_row w7 (V) 0 _ _ _ HBV.out).trans rfl
      have x1 : w7.cell? ⟨V, 1, none⟩ = some (.int .i64 g) := (cell_of_row w7 (V) 1 _ _ _ HBV.out).trans rfl
      have x2 : w7.cell? ⟨V, 2, none⟩ = some (.slice B5 c5.dn.length b5) := (cell_of_row w7 (V) 2 _ _ _ HBV.out).trans rfl
      have x3 : w7.cell? ⟨V, 3, none⟩ = some (.slice (some ⟨e5, o5, none⟩) m q5) := (cell_of_row w7 (V) 3 _ _ _ HBV.out).trans rfl
      have x4 : w7.cell? ⟨V, 4, none⟩ = some (.bool c5.over) := (cell_of_row w7 (V) 4 _ _ _ HBV.out).trans rfl
      have x5 : w7.cell? ⟨V, 5, none⟩ = some (.int .i64 c5.st) := (cell_of_row w7 (V) 5 _ _ _ HBV.out).trans rfl
      have x6 : w7.cell? ⟨V, 6, none⟩ = some (.int .i64 c5.id) := (cell_of_row w7 (V) 6 _ _ _ HBV.out).trans rfl
      have xf := fun o => frozen_of_row w7 (V) o _ _ HBV.out
      have y0 : w7.cell? ⟨w.heap.size, 0, none⟩ = some (.slice none 0 0) := (cell_of_row w7 (w.heap.size) 0 _ _ _ HBR.out).trans rfl
      have y1 : w7.cell? ⟨w.heap.size, 1, none⟩ = some (.int .i64 0) := (cell_of_row w7 (w.heap.size) 1 _ _ _ HBR.out).trans rfl
      have y2 : w7.cell? ⟨w.heap.size, 2, none⟩ = some (.slice none 0 0) := (cell_of_row w7 (w.heap.size) 2 _ _ _ HBR.out).trans rfl
      have y3 : w7.cell? ⟨w.heap.size, 3, none⟩ = some (.slice none 0 0) := (cell_of_row w7 (w.heap.size) 3 _ _ _ HBR.out).trans rfl
      have y4 : w7.cell? ⟨w.heap.size, 4, none⟩ = some (.bool false) := (cell_of_row w7 (w.heap.size) 4 _ _ _ HBR.out).trans rfl
      have y5 : w7.cell? ⟨w.heap.size, 5, none⟩ = some (.int .i64 0) := (cell_of_row w7 (w.heap.size) 5 _ _ _ HBR.out).trans rfl
      have y6 : w7.cell? ⟨w.heap.size, 6, none⟩ = some (.int .i64 0) := (cell_of_row w7 (w.heap.size) 6 _ _ _ HBR.out).trans rfl
      have yf := fun o => frozen_of_row w7 (w.heap.size) o _ _ HBR.out
      have lV7 : V < w7.heap.size := by omega
      have lR7 : w.heap.size < w7.heap.size := by omega
      have HLL : Hid (evs.length + ds.length ≤ 1048576) := Lib.hid (by have := HO9.out.2.1; have := HEE.out; omega)
      have nRV : ¬ w.heap.size = V := by omega
      go_region_law (first
        | (refine kEv.step_app (by rfl) (.tmp 74) (.tmp 75) (by rfl) (by rfl) (V + 1) _ evs (by rfl) (HO7.out.ext (Ext.refl _).drew) _ ds (by rfl) (HY7.out.ext (Ext.refl _).drew) HLL.out (by simp; omega) ?_
           intro v8 w8 hown8 hgrow8 hat8
           have HA8 := Lib.hid (And.intro hown8 (And.intro hgrow8 hat8))
           have gV := block_of_grown hgrow8 (block_keep HBV.out (Ext.refl _).drew) (fun e => by have := (HRL.out _ e.symm).1; omega)
           have gR := block_of_grown hgrow8 (block_keep HBR.out (Ext.refl _).drew) (fun e => by have := (HRL.out _ e.symm).1; omega)
           have gz := hgrow8.size
           simp at gz
           have lV8 : V < w8.heap.size := by omega
           have lR8 : w.heap.size < w8.heap.size := by omega
           have p0 : w8.cell? ⟨V, 0, none⟩ = some (.slice A5 c5.ts.length a5) := (cell_of_row w8 (V) 0 _ _ _ gV).trans rfl
           have p1 : w8.cell? ⟨V, 1, none⟩ = some (.int .i64 g) := (cell_of_row w8 (V) 1 _ _ _ gV).trans rfl
           have p2 : w8.cell? ⟨V, 2, none⟩ = some (.slice B5 c5.dn.length b5) := (cell_of_row w8 (V) 2 _ _ _ gV).trans rfl
           have p3 : w8.cell? ⟨V, 3, none⟩ = some (.slice (some ⟨e5, o5, none⟩) m q5) := (cell_of_row w8 (V) 3 _ _ _ gV).trans rfl
           have p4 : w8.cell? ⟨V, 4, none⟩ = some (.bool c5.over) := (cell_of_row w8 (V) 4 _ _ _ gV).trans rfl
           have p5 : w8.cell? ⟨V, 5, none⟩ = some (.int .i64 c5.st) := (cell_of_row w8 (V) 5 _ _ _ gV).trans rfl
           have p6 : w8.cell? ⟨V, 6, none⟩ = some (.int .i64 c5.id) := (cell_of_row w8 (V) 6 _ _ _ gV).trans rfl
           have pf := fun o => frozen_of_row w8 (V) o _ _ gV
           have r0 : w8.cell? ⟨w.heap.size, 0, none⟩ = some (.slice none 0 0) := (cell_of_row w8 (w.heap.size) 0 _ _ _ gR).trans rfl
           have r1 : w8.cell? ⟨w.heap.size, 1, none⟩ = some (.int .i64 0) := (cell_of_row w8 (w.heap.size) 1 _ _ _ gR).trans rfl
           have r2 : w8.cell? ⟨w.heap.size, 2, none⟩ = some (.slice none 0 0) := (cell_of_row w8 (w.heap.size) 2 _ _ _ gR).trans rfl
           have r3 : w8.cell? ⟨w.heap.size, 3, none⟩ = some (.slice none 0 0) := (cell_of_row w8 (w.heap.size) 3 _ _ _ gR).trans rfl
           have r4 : w8.cell? ⟨w.heap.size, 4, none⟩ = some (.bool false) := (cell_of_row w8 (w.heap.size) 4 _ _ _ gR).trans rfl
           have r5 : w8.cell? ⟨w.heap.size, 5, none⟩ = some (.int .i64 0) := (cell_of_row w8 (w.heap.size) 5 _ _ _ gR).trans rfl
           have r6 : w8.cell? ⟨w.heap.size, 6, none⟩ = some (.int .i64 0) := (cell_of_row w8 (w.heap.size) 6 _ _ _ gR).trans rfl
           have rf := fun o => frozen_of_row w8 (w.heap.size) o _ _ gR
           clear hown8 hgrow8 hat8 gV gR gz x0 x1 x2 x3 x4 x5 x6 xf y0 y1 y2 y3 y4 y5 y6 yf))
      all_goals go_wp2_with fail
      all_goals
        obtain ⟨hown8, hgrow8, hat8⟩ := HA8.out
        obtain ⟨Lz, cz, hvz, hcz⟩ := hown8.slice
        subst hvz
        have hGR : Grew (fun x => x = w.heap.size) w8 ((((((((w8.setCell ⟨w.heap.size, 0, none⟩ (.slice A5 c5.ts.length a5)).setCell ⟨w.heap.size, 1, none⟩ (.int .i64 g)).setCell ⟨w.heap.size, 2, none⟩ (.slice B5 c5.dn.length b5)).setCell ⟨w.heap.size, 3, none⟩ (.slice (some ⟨e5, o5, none⟩) m q5)).setCell ⟨w.heap.size, 4, none⟩ (.bool c5.over)).setCell ⟨w.heap.size, 5, none⟩ (.int .i64 c5.st)).setCell ⟨w.heap.size, 6, none⟩ (.int .i64 c5.id))) := (Grew.setCell (S := fun x => x = w.heap.size) (p := ⟨w.heap.size, 6, none⟩) (Grew.setCell (S := fun x => x = w.heap.size) (p := ⟨w.heap.size, 5, none⟩) (Grew.setCell (S := fun x => x = w.heap.size) (p := ⟨w.heap.size, 4, none⟩) (Grew.setCell (S := fun x => x = w.heap.size) (p := ⟨w.heap.size, 3, none⟩) (Grew.setCell (S := fun x => x = w.heap.size) (p := ⟨w.heap.size, 2, none⟩) (Grew.setCell (S := fun x => x = w.heap.size) (p := ⟨w.heap.size, 1, none⟩) (Grew.setCell (S := fun x => x = w.heap.size) (p := ⟨w.heap.size, 0, none⟩) (Grew.refl _ _) rfl _) rfl _) rfl _) rfl _) rfl _) rfl _) rfl _)
        refine bodyPost_ret (v := .tuple #[crewV A5 B5 e5 o5 a5 b5 q5 g m c5, .slice Lz (evs ++ ds).length cz, .int .i64 0]) (by simp [results, Try.results35, go_sem]; go_simp) rfl ?_
        rw [HW2.out]
        refine ⟨A5, B5, Lz, e5, o5, a5, b5, q5, cz, HC5.out.1, rfl, ?_, ?_, ?_⟩
        · exact (((HC7.out.ext (Ext.refl _).drew).grew ((Wr.grown hgrow8).mono (fun x _ hx => .inr (.inr hx)))).grew (hGR.mono (fun x _ hx => .inl hx))).at_ m1
        · exact (hown8.grew hGR (fun x hx e => by have := (hown8.lt x hx).1; have := HD.out.vl; omega)).mono (by have := HD.out.vl; omega)
        · exact hGR.toExt (Wr.toExt (Wr.grown hgrow8) (HE7.out.trans (Ext.refl _).drew) (fun x hx => by have := (HRL.out x hx).1; have := HD.out.vl; omega)) (fun x hx => by omega)
end Go.Proofs.Ythblpcmmeajhkaa

/- The document's Leaves (ref06). -/
namespace Go.Proofs.Ythblpcmmeajhkaa
open Go.BigFrame
open Go.RowKit Go.Proofs.Ythblpcmmeajhkaa.Plain

/-- units from .. up to .. -/
def kSpan : Kd (Int × Int) where
  t := 68
  e := 57
  n := 2
  cells := fun x => [.int .i64 x.1, .int .i64 x.2]
  ok := fun x => in64 x.1 ∧ in64 x.2
  d := (0, 0)
  z := .agg #[.int .i64 0, .int .i64 0]
  bytes := 16
  ht := Try.underlying68
  info := by kernel_rfl
  hzs := rfl
  pos := by decide
  small := by decide
  len := fun _ => rfl
  one := fun a u hu => by simp at hu; rcases hu with rfl | rfl <;> rfl
/-- leaves, as they came -/
def Plain.leavesL (ts : List Tk) (evs : List Ev) : List (Int × Int) := evs.flatMap fun e => if e.tk < 0 ∨ e.pt = true then [] else [((T ts e.tk.toNat).lo, (T ts e.tk.toNat).hi)]
theorem Plain.leavesL_app (ts : List Tk) (a b : List Ev) : leavesL ts (a ++ b) = leavesL ts a ++ leavesL ts b := by unfold leavesL; rw [List.flatMap_append]
theorem Plain.order_leaves (ts : List Tk) : ∀ evs : List Ev, orderL ts evs = (leavesL ts evs).flatMap fun s => List.range' s.1.toNat (s.2.toNat - s.1.toNat)
  | [] => rfl
  | e :: r => by
    have h := order_leaves ts r
    unfold orderL leavesL at h ⊢
    rw [List.flatMap_cons, List.flatMap_cons, List.flatMap_append, h]
    congr 1
    split
    · rfl
    · simp [unitsOf]
theorem Plain.leavesL_take (ts : List Tk) (evs : List Ev) (k : Nat) (hk : k < evs.length) : leavesL ts (evs.take (k + 1)) = leavesL ts (evs.take k) ++ (if (evs.getD k ev0).tk < 0 ∨ (evs.getD k ev0).pt = true then [] else [((T ts (evs.getD k ev0).tk.toNat).lo, (T ts (evs.getD k ev0).tk.toNat).hi)]) := by
  rw [List.take_succ_eq_append_getElem hk, leavesL_app, List.getD_eq_getElem?_getD, List.getElem?_eq_getElem hk]
  simp [leavesL]
theorem Plain.leavesL_len (ts : List Tk) (evs : List Ev) : (leavesL ts evs).length ≤ evs.length := by
  induction evs with
  | nil => simp [leavesL]
  | cons e r ih =>
    have h : leavesL ts (e :: r) = leavesL ts [e] ++ leavesL ts r := leavesL_app ts [e] r
    have h2 : (leavesL ts [e]).length ≤ 1 := by unfold leavesL; simp only [List.flatMap_cons, List.flatMap_nil, List.append_nil]; split <;> simp
    rw [h, List.length_append, List.length_cons]; omega
theorem Rd.evs {w : World} {A : Option Addr} {n c : Nat} {xs : List Ev} (h : Rd kEv w (.slice A n c) xs) (hl : 0 < xs.length) : ∃ b off, A = some ⟨b, off, none⟩ ∧ ∀ j, j < xs.length → w.cell? ⟨b, off + j * 4, none⟩ = some (.int .i64 (xs.getD j ev0).wk) ∧ w.cell? ⟨b, off + j * 4 + 1, none⟩ = some (.int .i64 (xs.getD j ev0).fr) ∧ w.cell? ⟨b, off + j * 4 + 2, none⟩ = some (.int .i64 (xs.getD j ev0).tk) ∧ w.cell? ⟨b, off + j * 4 + 3, none⟩ = some (.bool (xs.getD j ev0).pt) := by
  obtain ⟨b, off, rfl, hcc⟩ := h.cells hl
  exact ⟨b, off, rfl, fun j hj => ⟨by have := hcc j hj 0 _ rfl; simpa [kEv] using this, by have := hcc j hj 1 _ rfl; simpa [kEv] using this, by have := hcc j hj 2 _ rfl; simpa [kEv] using this, by have := hcc j hj 3 _ rfl; simpa [kEv] using this⟩⟩

set_option maxHeartbeats 1600000 in
set_option maxRecDepth 100000 in
theorem rleaves_any (A B L : Option Addr) (e0 eo a b e g m l : Nat) (c : Cw) (evs : List Ev) (w : World) (hC : CrewAt w m c A B e0 eo a b) (hE : Rd kEv w (.slice L evs.length l) evs) (hl : evs.length ≤ 100000) (hin : evsIn c.ts.length evs) :
    Calls Try.prog 36 #[crewV A B e0 eo a b e g m c, .slice L evs.length l] w fun ed w' => ∃ v, ed = .returned v ∧ Ow kSpan w.heap.size w' v (leavesL c.ts evs) ∧ Ext w w' := by
  have HT := Lib.hid hC.tsk.rd
  have HE := Lib.hid hE
  have HIN := Lib.hid hin
  have hl' : (evs.length : Int) ≤ 100000 := by omega
  clear hC hE hin
  go_enter Try.func36, Try.ntmps36
  go_wp2_with fail
  have hbx := heap_alloc_new w (.cells #[.slice A c.ts.length a, .int .i64 g, .slice B c.dn.length b, .slice (some ⟨e0, eo, none⟩) m e, .bool c.over, .int .i64 c.st, .int .i64 c.id] 64)
  have HBX := Lib.hid hbx
  have HX1 : Hid (Ext w (w.alloc (.cells #[.slice A c.ts.length a, .int .i64 g, .slice B c.dn.length b, .slice (some ⟨e0, eo, none⟩) m e, .bool c.over, .int .i64 c.st, .int .i64 c.id] 64))) := Lib.hid ((Ext.refl w).alloc _)
  have HW1 : Hid ((w.alloc (.cells #[.slice A c.ts.length a, .int .i64 g, .slice B c.dn.length b, .slice (some ⟨e0, eo, none⟩) m e, .bool c.over, .int .i64 c.st, .int .i64 c.id] 64)).heap.size = w.heap.size + 1) := Lib.hid (by simp)
  generalize w.alloc (.cells #[.slice A c.ts.length a, .int .i64 g, .slice B c.dn.length b, .slice (some ⟨e0, eo, none⟩) m e, .bool c.over, .int .i64 c.st, .int .i64 c.id] 64) = w1 at *
  clear hbx
  go_loopw [5, 6] (fun v i wr => ∃ k : Nat, k ≤ evs.length ∧ i = .int .i64 k ∧ Ow kSpan (w.heap.size + 1) wr v (leavesL c.ts (evs.take k)) ∧ Ext w1 wr) (fun _ i _ => evs.length - (intOf i).toNat)
  case atStart => exact ⟨0, Nat.zero_le _, rfl, Ow.nil _ _, Ext.refl _⟩
  case round =>
    obtain ⟨k, hk, rfl, hO, hX⟩ := hrel
    have HO := Lib.hid hO
    have HX := Lib.hid hX
    have hk0 : (0 : Int) ≤ k := by omega
    clear hO hX
    by_cases hlt : k < evs.length
    · have hlt' : (k : Int) < evs.length := by omega
      obtain ⟨bv, ov, rfl, hcv⟩ := Rd.evs (HE.out.ext (HX1.out.trans HX.out)) (by omega)
      obtain ⟨z0, z1, z2, z3⟩ := hcv k hlt
      have htk := leavesL_take c.ts evs k hlt
      have hint : (evs.getD k ev0).tk < c.ts.length := HIN.out _ (by rw [List.getD_eq_getElem?_getD, List.getElem?_eq_getElem hlt]; exact List.getElem_mem hlt)
      have hok := HE.out.okAt k hlt
      obtain ⟨ev, hev⟩ : ∃ ev, evs.getD k ev0 = ev := ⟨_, rfl⟩
      have hok' : kEv.ok ev := by rw [← hev]; exact hok
      rw [hev] at z0 z1 z2 z3 htk hint
      have HTK := Lib.hid htk
      have lbv : bv < wr.heap.size := World.block_lt_of_cell? _ _ z2
      have hb := block_keep HBX.out HX.out
      have q0 : wr.cell? ⟨w.heap.size, 0, none⟩ = some (.slice A c.ts.length a) := (cell_of_row wr w.heap.size 0 _ _ _ hb).trans rfl
      have hok2 := hok'.2.2
      have hok2' := Lib.hid hok2
      unfold in64 at hok2
      clear htk hok hok' hev hcv hb z0 z1
      by_cases hneg : ev.tk < 0
      · have hd : decide (0 ≤ ev.tk) = false := decide_eq_false (by omega)
        rw [if_pos (.inl hneg), List.append_nil] at HTK
        go_upto_region 5 with fail
        go_quiet (fail)
        go_wp2_with fail
        go_roundw
        case rel => exact ⟨k + 1, by omega, by go_num, by rw [HTK.out]; exact HO.out.ext ((Ext.refl _).drewN _), HX.out.drewN _⟩
        case measure => simp [intOf]; omega
      · have hge : (0 : Int) ≤ ev.tk := by omega
        obtain ⟨K, hK⟩ : ∃ K : Nat, ev.tk = K := ⟨ev.tk.toNat, by omega⟩
        have hKl : K < c.ts.length := by omega
        have hKl' : (K : Int) < c.ts.length := by omega
        have hK0 : (0 : Int) ≤ K := by omega
        rw [hK] at z2
        obtain ⟨bt, ot, rfl, hct⟩ := Rd.tasks (HT.out.ext (HX1.out.trans HX.out)) (by omega)
        obtain ⟨t0, t1, t2, t3⟩ := hct K hKl
        have hkt := HT.out.okAt K hKl
        obtain ⟨tk, htk⟩ : ∃ tk, c.ts.getD K ⟨0, 0, 0, 0⟩ = tk := ⟨_, rfl⟩
        rw [htk] at t0 t1 t2 t3
        have hkt' : kTask.ok tk := by rw [← htk]; exact hkt
        have HKT := Lib.hid hkt'
        have lbt : bt < wr.heap.size := World.block_lt_of_cell? _ _ t0
        have HTT : Hid (T c.ts ev.tk.toNat = tk) := Lib.hid (by rw [hK, Int.toNat_natCast, ← htk]; rfl)
        clear hct hkt hkt' htk
        cases hpt : ev.pt with
        | true =>
          rw [hpt] at z3
          rw [if_pos (.inr hpt), List.append_nil] at HTK
          go_upto_region 5 with fail
          go_quiet (fail)
          go_wp2_with fail
          go_roundw
          case rel => exact ⟨k + 1, by omega, by go_num, by rw [HTK.out]; exact HO.out.ext ((Ext.refl _).drewN _), HX.out.drewN _⟩
          case measure => simp [intOf]; omega
        | false =>
          rw [hpt] at z3
          rw [if_neg (by rw [hpt]; simp; omega)] at HTK
          go_upto_region 5 with fail
          go_quiet (fail)
          generalize hwq : wr.drewN nq = wq at *
          have hEq : Ext wr wq := by rw [← hwq]; exact (Ext.refl _).drewN _
          have HEQ := Lib.hid hEq
          replace q0 := hEq.cell q0
          replace z2 := hEq.cell z2
          replace t0 := hEq.cell t0
          replace t1 := hEq.cell t1
          replace t2 := hEq.cell t2
          replace t3 := hEq.cell t3
          have lq := hEq.size
          have lbv' : bv < wq.heap.size := by omega
          have lbt' : bt < wq.heap.size := by omega
          have lP' : w.heap.size < wq.heap.size := by have := World.block_lt_of_cell? _ _ q0; omega
          clear hwq hEq
          go_upto_region 6 with fail
          go_cut [7] (fun p wx => ∃ X, p = .pointer (some ⟨X, 0, none⟩) ∧ wx.cell? ⟨X, 0, none⟩ = some (.int .i64 tk.lo) ∧ wx.cell? ⟨X, 1, none⟩ = some (.int .i64 tk.hi) ∧ wq.heap.size ≤ X ∧ Ext wq wx)
          case first =>
            go_region
            all_goals go_wp2_with fail
            all_goals go_meet
            all_goals exact ⟨wq.heap.size, rfl, by go_simp, by go_simp, Nat.le_refl _, by repeat (first | exact Ext.refl _ | refine Ext.drew ?_ | refine Ext.drewN ?_ _ | refine Ext.alloc ?_ _ | refine Ext.setCell ?_ (by simp) _)⟩
          case rest =>
          obtain ⟨X, rfl, x0, x1, hXl, hEx⟩ := hcut
          generalize wc = w6 at *
          have HE6 := Lib.hid (HEQ.out.trans hEx)
          have hz6 := hEx.size
          have hrow := HO.out.len
          have HY : Hid (Rd kSpan (w6.alloc (.cells #[.int .i64 tk.lo, .int .i64 tk.hi] 57)) (.slice (some ⟨w6.heap.size, 0, none⟩) 1 1) [(tk.lo, tk.hi)]) := Lib.hid (Ow.rd (K := kSpan) (B := 0) (Ow.lit (K := kSpan) (p := w6.heap.size) (n := 1) w6 [(tk.lo, tk.hi)] #[.int .i64 tk.lo, .int .i64 tk.hi] rfl rfl rfl (Nat.zero_le _) (by simp [maxLen]) (by intro x hx; simp only [List.mem_singleton] at hx; subst hx; exact ⟨HKT.out.1, HKT.out.2.1⟩)))
          have HLL : Hid ((leavesL c.ts (evs.take k)).length + [(tk.lo, tk.hi)].length ≤ 1048576) := Lib.hid (by have := leavesL_len c.ts (evs.take k); rw [List.length_take] at this; simp; omega)
          have hzz := HX1.out.size
          have hzx := HX.out.size
          have hw1 := block_lt HBX.out
          clear hEx hrow q0 z2 t0 t1 t2 t3
          go_wp2_with (at_builtin; refine kSpan.wpList_app (by rfl) (.tmp 50) (.tmp 56) (by rfl) (by rfl) (w.heap.size + 1) _ (leavesL c.ts (evs.take k)) (by rfl) (HO.out.ext (HE6.out.alloc _)) _ [(tk.lo, tk.hi)] (by rfl) HY.out HLL.out (by simp; omega) ?_; intro v' w8 hown8 hgrow8 hat8)
          have H8 := Lib.hid (And.intro hown8 (And.intro hgrow8 hat8))
          clear hown8 hgrow8 hat8
          go_roundw
          case rel =>
            obtain ⟨hown8, hgrow8, hat8⟩ := H8.out
            refine ⟨k + 1, by omega, by go_num, by rw [HTK.out, HTT.out]; exact hown8, ?_⟩
            exact Ext.grown ((HX.out.trans HE6.out).alloc _) hgrow8 (fun x hx => by have := (HO.out.lt x hx).1; have := HW1.out; omega)
          case measure => simp [intOf]; omega
    · obtain rfl : k = evs.length := by omega
      rw [List.take_length] at HO
      go_wp2_with fail
      exact bodyPost_ret (by simp [results, Try.results36, go_sem]) rfl ⟨_, rfl, HO.out.mono (by omega), HX1.out.trans HX.out⟩
end Go.Proofs.Ythblpcmmeajhkaa

/- The document's Right and Order of a plan (ref07). -/
namespace Go.Proofs.Ythblpcmmeajhkaa
open Go.BigFrame
open Go.RowKit Go.Proofs.Ythblpcmmeajhkaa.Plain

/-- may a plan be? -/
def Plain.planB (g m : Int) (np : Nat) : Bool := decide (1 ≤ g) && decide (g ≤ 100) && decide (1 ≤ m) && decide (m ≤ 8) && decide (np ≤ 4000)
theorem Plain.planB_iff (g m : Int) (np : Nat) : planB g m np = true ↔ (1 ≤ g ∧ g ≤ 100 ∧ 1 ≤ m ∧ m ≤ 8 ∧ np ≤ 4000) := by
  unfold planB; simp only [Bool.and_eq_true, decide_eq_true_eq]; constructor <;> intro h <;> omega
/-- units as they are done, how many steps, an error -/
def Plain.ordP (n : Nat) (g m : Int) (picks : List (Int × Int)) : List Nat × Nat × Int :=
  if planB g m picks.length = false then ([], 0, 1) else if n = 0 then ([], 0, 0) else
    (orderL (wholeP g.toNat n m.toNat picks).1.ts (wholeP g.toNat n m.toNat picks).2, (wholeP g.toNat n m.toNat picks).2.length, 0)
abbrev planV (g m : Int) (Ap : Option Addr) (np cp : Nat) : Value := .agg #[.int .i64 g, .int .i64 m, .slice Ap np cp]

set_option maxHeartbeats 800000 in
set_option maxRecDepth 100000 in
theorem rright7_any (g m : Int) (Ap : Option Addr) (np cp : Nat) (w : World) (hg : in64 g) (hm : in64 m) (hn : np ≤ 9223372036854775807) :
    Calls Try.prog 19 #[planV g m Ap np cp] w fun ed w' => ed = .returned (.bool (planB g m np)) ∧ Ext w w' := by
  unfold in64 at hg hm
  have hE : Ext w (w.alloc (.cells #[.int .i64 g, .int .i64 m, .slice Ap np cp] 25)) := (Ext.refl w).alloc _
  go_enter Try.func19, Try.ntmps19
  go_upto_region 1 with fail
  have HE := Lib.hid hE
  by_cases h1 : 1 ≤ g
  · by_cases h2 : g ≤ 100
    · by_cases h3 : 1 ≤ m
      · by_cases h4 : m ≤ 8
        · by_cases h5 : (np : Int) ≤ 4000
          · have e : planB g m np = true := by rw [planB_iff]; omega
            go_wp2_with fail
            all_goals go_ret
            all_goals exact ⟨ret_bool (by first | rfl | (rw [e]; done) | (rw [e]; simp; omega)), HE.out⟩
          · have e : planB g m np = false := by
              rw [← Bool.not_eq_true, planB_iff]; omega
            have d5 : decide ((np : Int) ≤ 4000) = false := decide_eq_false h5
            go_wp2_with fail
            all_goals go_ret
            all_goals exact ⟨ret_bool (by first | rfl | (rw [e]; done) | (rw [e]; simp; omega)), HE.out⟩
        · have e : planB g m np = false := by rw [← Bool.not_eq_true, planB_iff]; omega
          have d5 : decide (m ≤ 8) = false := decide_eq_false h4
          go_wp2_with fail
          all_goals go_ret
          all_goals exact ⟨ret_bool (by first | rfl | (rw [e]; done) | (rw [e]; simp; omega)), HE.out⟩
      · have e : planB g m np = false := by rw [← Bool.not_eq_true, planB_iff]; omega
        have d5 : decide (1 ≤ m) = false := decide_eq_false h3
        go_wp2_with fail
        all_goals go_ret
        all_goals exact ⟨ret_bool (by first | rfl | (rw [e]; done) | (rw [e]; simp; omega)), HE.out⟩
    · have e : planB g m np = false := by rw [← Bool.not_eq_true, planB_iff]; omega
      have d5 : decide (g ≤ 100) = false := decide_eq_false h2
      go_wp2_with fail
      all_goals go_ret
      all_goals exact ⟨ret_bool (by first | rfl | (rw [e]; done) | (rw [e]; simp; omega)), HE.out⟩
  · have e : planB g m np = false := by rw [← Bool.not_eq_true, planB_iff]; omega
    have d5 : decide (1 ≤ g) = false := decide_eq_false h1
    go_wp2_with fail
    all_goals go_ret
    all_goals exact ⟨ret_bool (by first | rfl | (rw [e]; done) | (rw [e]; simp; omega)), HE.out⟩

abbrev Plain.rngS (x : Int × Int) : List Nat := List.range' x.1.toNat (x.2.toNat - x.1.toNat)
theorem Plain.leavesL_bd {ts : List Tk} {evs : List Ev} {n : Nat} (h : ∀ k, k < ts.length → 0 ≤ (T ts k).lo ∧ (T ts k).lo ≤ (T ts k).hi ∧ (T ts k).hi ≤ n) (hin : evsIn ts.length evs) : ∀ x ∈ leavesL ts evs, 0 ≤ x.1 ∧ x.1 ≤ x.2 ∧ x.2 ≤ n := by
  intro x hx
  unfold leavesL at hx
  rw [List.mem_flatMap] at hx
  obtain ⟨e, he, hx⟩ := hx
  have h1 := hin e he
  split at hx
  · cases hx
  · rw [List.mem_singleton] at hx
    subst hx
    exact h _ (by omega)
theorem Plain.flat_split (S : List (Int × Int)) (f : Int × Int → List Nat) (j : Nat) (hj : j < S.length) : (S.flatMap f).length = ((S.take j).flatMap f).length + (f (S.getD j (0, 0))).length + ((S.drop (j + 1)).flatMap f).length ∧ (S.take (j + 1)).flatMap f = (S.take j).flatMap f ++ f (S.getD j (0, 0)) := by
  have e : S.getD j (0, 0) = S[j] := by rw [List.getD_eq_getElem?_getD, List.getElem?_eq_getElem hj]; rfl
  constructor
  · conv => lhs; rw [split_at S j hj]
    rw [List.flatMap_append, List.flatMap_cons, List.length_append, List.length_append, e]; omega
  · rw [List.take_succ_eq_append_getElem hj, List.flatMap_append, e]; simp
theorem Rd.spans {w : World} {A : Option Addr} {n c : Nat} {xs : List (Int × Int)} (h : Rd kSpan w (.slice A n c) xs) (hl : 0 < xs.length) : ∃ b off, A = some ⟨b, off, none⟩ ∧ ∀ j, j < xs.length → w.cell? ⟨b, off + j * 2, none⟩ = some (.int .i64 (xs.getD j (0, 0)).1) ∧ w.cell? ⟨b, off + j * 2 + 1, none⟩ = some (.int .i64 (xs.getD j (0, 0)).2) := by
  obtain ⟨b, off, rfl, hcc⟩ := h.cells hl
  exact ⟨b, off, rfl, fun j hj => ⟨by have := hcc j hj 0 _ rfl; simpa [kSpan] using this, by have := hcc j hj 1 _ rfl; simpa [kSpan] using this⟩⟩
/-- what Order leaves -/
def OrdSaid (r : List Nat × Nat × Int) (w : World) (ed : Ending) (w' : World) : Prop :=
  ∃ (L : Option Addr) (l : Nat), ed = .returned (.tuple #[.slice L r.1.length l, .int .i64 r.2.1, .int .i64 r.2.2]) ∧ Ow kInt w.heap.size w' (.slice L r.1.length l) (zs r.1) ∧ Ext w w'

set_option maxHeartbeats 1600000 in
set_option maxRecDepth 100000 in
theorem rorder_any (n : Nat) (g m : Int) (Ap : Option Addr) (cp : Nat) (picks : List (Int × Int)) (w : World) (hp : Rd kPk w (.slice Ap picks.length cp) picks) (n2 : n ≤ 900) (hg : in64 g) (hm : in64 m) :
    Calls Try.prog 30 #[.int .i64 n, planV g m Ap picks.length cp] w (OrdSaid (ordP n g m picks) w) := by
  have HP := Lib.hid hp
  have HL : Hid (picks.length ≤ 9223372036854775807) := Lib.hid hp.len
  have HGM := Lib.hid (And.intro hg hm)
  have n3 : (n : Int) ≤ 900 := by omega
  have n0 : (0 : Int) ≤ n := by omega
  clear hp hg hm
  go_enter Try.func30, Try.ntmps30
  go_wp2_with fail
  refine (rright7_any g m Ap picks.length cp _ HGM.out.1 HGM.out.2 HL.out).mono ?_
  rintro ed w1 ⟨rfl, hE1⟩
  have hb := block_keep (heap_alloc_new w (.cells #[.int .i64 g, .int .i64 m, .slice Ap picks.length cp] 25)) hE1
  have HB := Lib.hid hb
  have HX1 := Lib.hid (((Ext.refl w).alloc _).trans hE1)
  have q0 : w1.cell? ⟨w.heap.size, 0, none⟩ = some (.int .i64 g) := (cell_of_row w1 w.heap.size 0 _ _ _ hb).trans rfl
  have q1 : w1.cell? ⟨w.heap.size, 1, none⟩ = some (.int .i64 m) := (cell_of_row w1 w.heap.size 1 _ _ _ hb).trans rfl
  have q2 : w1.cell? ⟨w.heap.size, 2, none⟩ = some (.slice Ap picks.length cp) := (cell_of_row w1 w.heap.size 2 _ _ _ hb).trans rfl
  clear hb hE1
  cases hok : planB g m picks.length with
  | false =>
    have e : ordP n g m picks = ([], 0, 1) := by unfold ordP; rw [if_pos hok]
    have HEE := Lib.hid e
    clear e hok
    go_wp2_with fail
    exact bodyPost_ret (v := .tuple #[.slice none 0 0, .int .i64 0, .int .i64 1]) (by simp [results, Try.results30, go_sem]) rfl (by rw [HEE.out]; exact ⟨none, 0, rfl, Ow.nil _ _, HX1.out⟩)
  | true =>
    obtain ⟨p1, p2, p3, p4, p5⟩ := (planB_iff _ _ _).1 hok
    obtain ⟨G, rfl⟩ : ∃ G : Nat, g = G := ⟨g.toNat, by omega⟩
    obtain ⟨M, rfl⟩ : ∃ M : Nat, m = M := ⟨m.toNat, by omega⟩
    by_cases hz : n = 0
    · subst hz
      have e : ordP 0 G M picks = ([], 0, 0) := by unfold ordP; rw [if_neg (by rw [hok]; decide), if_pos rfl]
      have HEE := Lib.hid e
      clear e hok
      go_wp2_with fail
      exact bodyPost_ret (v := .tuple #[.slice none 0 0, .int .i64 0, .int .i64 0]) (by simp [results, Try.results30, go_sem]) rfl (by rw [HEE.out]; exact ⟨none, 0, rfl, Ow.nil _ _, HX1.out⟩)
    · have e : ordP n G M picks = (orderL (wholeP G n M picks).1.ts (wholeP G n M picks).2, (wholeP G n M picks).2.length, 0) := by unfold ordP; rw [if_neg (by rw [hok]; decide), if_neg hz]; rfl
      have hne : ((n : Int) == 0) = false := by simp; omega
      obtain ⟨we1, we2, we3, we4⟩ := whole_ends (g := G) (n := n) (m := M) (by omega) (by omega) (by omega) picks
      have hin := we2.ins
      obtain ⟨dn, hI⟩ := we2.inv
      have hcn := (hI.counts (by omega) (by omega)).2.2.1
      have hevl : (wholeP G n M picks).2.length ≤ 60000 := by
        have h2 : M * (cntT n G + 1) ≤ 8 * 1801 := Nat.mul_le_mul (by omega) (by omega)
        omega
      have hbd : ∀ k, k < (wholeP G n M picks).1.ts.length → 0 ≤ (T (wholeP G n M picks).1.ts k).lo ∧ (T (wholeP G n M picks).1.ts k).lo ≤ (T (wholeP G n M picks).1.ts k).hi ∧ (T (wholeP G n M picks).1.ts k).hi ≤ n := fun k hk => by
        have ht := (CrI.inv hI).task k hk
        omega
      have hol : (orderL (wholeP G n M picks).1.ts (wholeP G n M picks).2).length = n := by rw [we4.length_eq, List.length_range]
      obtain ⟨⟨c, evs⟩, hW⟩ : ∃ x, wholeP G n M picks = x := ⟨_, rfl⟩
      rw [hW] at hin hevl hbd hol e
      simp only at hin hevl hbd hol e
      rw [order_leaves] at hol e
      have hsb : ∀ x ∈ leavesL c.ts evs, 0 ≤ x.1 ∧ x.1 ≤ x.2 ∧ x.2 ≤ n := leavesL_bd hbd hin
      have hsl : (leavesL c.ts evs).length ≤ 60000 := Nat.le_trans (leavesL_len _ _) hevl
      have HEE := Lib.hid e
      have HOL := Lib.hid hol
      have HSB := Lib.hid hsb
      have HIN := Lib.hid hin
      have HEV := Lib.hid hevl
      have HSL := Lib.hid hsl
      have HWW := Lib.hid hW
      have hGn : (0 : Int) ≤ G := by omega
      clear e hok we1 we2 we3 we4 hI hcn hW hin hevl hbd hol hsb hsl
      go_wp2_with fail
      refine (rwhole_any n G M Ap cp picks w1 (HP.out.ext HX1.out) (by omega) n2 (by omega) (by omega) (by omega) (by omega) p5).mono ?_
      rw [HWW.out]
      rintro ed w2 ⟨A1, B1, L1, e0, o1, a1, b1, e1, l1, hme, rfl, hC, hO, hE2⟩
      simp only at hC hO ⊢
      have HC := Lib.hid hC
      have HO := Lib.hid hO
      have HX2 := Lib.hid (HX1.out.trans hE2)
      clear hC hO hE2 q0 q1 q2
      go_wp2_with fail
      refine (rleaves_any A1 B1 L1 e0 o1 a1 b1 e1 G M l1 c evs _ (HC.out.ext ((Ext.refl _).alloc _)) (HO.out.rd.ext ((Ext.refl _).alloc _)) (by have := HEV.out; omega) HIN.out).mono ?_
      rintro ed w3 ⟨vs, rfl, hS, hE3⟩
      obtain ⟨S, hSS⟩ : ∃ S, leavesL c.ts evs = S := ⟨_, rfl⟩
      rw [hSS] at hS HEE HOL HSB HSL
      obtain ⟨Ls, ls, hv, hls⟩ := hS.slice
      subst hv
      have HS := Lib.hid hS.rd
      have HX3 := Lib.hid ((HX2.out.alloc _).trans hE3)
      have hsl' : (S.length : Int) ≤ 60000 := by have := HSL.out; omega
      clear hS hE3 hls
      go_wp2_with fail
      go_loopw [10, 12] (fun v i wr => ∃ j : Nat, j ≤ S.length ∧ i = .int .i64 j ∧ Ow kInt w3.heap.size wr v (zs ((S.take j).flatMap rngS)) ∧ Ext w3 wr) (fun _ i _ => S.length - (intOf i).toNat)
      case atStart => exact ⟨0, Nat.zero_le _, rfl, Ow.nil _ _, Ext.refl _⟩
      case round =>
        obtain ⟨j, hj, rfl, hO, hX⟩ := hrel
        have HO5 := Lib.hid hO
        have HX5 := Lib.hid hX
        have hj0 : (0 : Int) ≤ j := by omega
        clear hO hX
        by_cases hlt : j < S.length
        · have hlt' : (j : Int) < S.length := by omega
          obtain ⟨bs, os, rfl, hcs⟩ := Rd.spans HS.out (by omega)
          obtain ⟨z0, z1⟩ := hcs j hlt
          have hmem : S.getD j (0, 0) ∈ S := by rw [List.getD_eq_getElem?_getD, List.getElem?_eq_getElem hlt]; exact List.getElem_mem hlt
          obtain ⟨fl1, fl2⟩ := flat_split S rngS j hlt
          obtain ⟨b1', b2', b3'⟩ := HSB.out _ hmem
          obtain ⟨⟨lo, hi⟩, hlh⟩ : ∃ x, S.getD j (0, 0) = x := ⟨_, rfl⟩
          rw [hlh] at z0 z1 fl1 fl2 b1' b2' b3'
          simp only at z0 z1 b1' b2' b3'
          obtain ⟨Lo, rfl⟩ : ∃ x : Nat, lo = x := ⟨lo.toNat, by omega⟩
          obtain ⟨Hi, rfl⟩ : ∃ x : Nat, hi = x := ⟨hi.toNat, by omega⟩
          have hpre : ((S.take j).flatMap rngS).length + (Hi - Lo) ≤ 900 := by
            have h9 := HOL.out
            change (S.flatMap rngS).length = n at h9
            have e9 : (rngS ((Lo : Int), (Hi : Int))).length = Hi - Lo := by simp [rngS]
            omega
          have HFL := Lib.hid fl2
          have HPRE := Lib.hid hpre
          have lbs : bs < w3.heap.size := World.block_lt_of_cell? _ _ z0
          have HZ1 := Lib.hid z1
          replace z0 := HX5.out.cell z0
          replace z1 := HX5.out.cell z1
          have hll : Lo ≤ Hi := by omega
          have hhi : (Hi : Int) ≤ 900 := by omega
          clear hcs hmem fl1 fl2 hlh hpre
          go_wp2_with fail
          go_loopw [10, 13] (fun v i wr' => ∃ u : Nat, Lo ≤ u ∧ u ≤ Hi ∧ i = .int .i64 u ∧ Ow kInt w3.heap.size wr' v (zs ((S.take j).flatMap rngS ++ List.range' Lo (u - Lo))) ∧ Ext w3 wr') (fun _ i _ => Hi - (intOf i).toNat)
          case atStart => exact ⟨Lo, Nat.le_refl _, hll, rfl, by simpa using HO5.out, HX5.out⟩
          case round =>
            obtain ⟨u, hu1, hu2, rfl, hO, hX⟩ := hrel
            have z1 := hX.cell HZ1.out
            have HO6 := Lib.hid hO
            have HX6 := Lib.hid hX
            have hu0 : (0 : Int) ≤ u := by omega
            clear hO hX
            by_cases hul : u < Hi
            · have hul' : (u : Int) < Hi := by omega
              have HY : ∀ w6 : World, Rd kInt (w6.alloc (.cells #[.int .i64 u] 3)) (.slice (some ⟨w6.heap.size, 0, none⟩) 1 1) [(u : Int)] := fun w6 => Ow.rd (K := kInt) (B := 0) (Ow.lit (K := kInt) (p := w6.heap.size) (n := 1) w6 [(u : Int)] #[.int .i64 u] rfl rfl rfl (Nat.zero_le _) (by simp [maxLen]) (by intro x hx; simp only [List.mem_singleton] at hx; subst hx; exact in64_nat u (by omega)))
              have HYY := Lib.hid HY
              have HLL : Hid ((zs ((S.take j).flatMap rngS ++ List.range' Lo (u - Lo))).length + [(u : Int)].length ≤ 1048576) := Lib.hid (by have := HPRE.out; rw [zs_len, List.length_append, List.length_range', List.length_singleton]; omega)
              have hz6 := HX6.out.size
              clear HY
              go_wp2_with (at_builtin; refine kInt.wpList_app (by rfl) (.tmp 65) (.tmp 67) (by rfl) (by rfl) w3.heap.size _ (zs ((S.take j).flatMap rngS ++ List.range' Lo (u - Lo))) (by rfl) (HO6.out.ext ((Ext.refl _).alloc _)) _ [(u : Int)] (by rfl) (HYY.out _) HLL.out (by simp; omega) ?_; intro v' w8 hown8 hgrow8 hat8)
              have H8 := Lib.hid (And.intro hown8 (And.intro hgrow8 hat8))
              clear hown8 hgrow8 hat8
              go_roundw
              case rel =>
                obtain ⟨hown8, hgrow8, hat8⟩ := H8.out
                refine ⟨u + 1, by omega, by omega, by go_num, ?_, ?_⟩
                · rw [show u + 1 - Lo = (u - Lo) + 1 by omega, List.range'_1_concat, show Lo + (u - Lo) = u by omega, ← List.append_assoc, zs_app]
                  exact hown8
                · exact Ext.grown (HX6.out.alloc _) hgrow8 (fun x hx => (HO6.out.lt x hx).1)
              case measure => simp [intOf]; omega
            · obtain rfl : u = Hi := by omega
              go_wp2_with fail
              go_roundw
              case rel => exact ⟨j + 1, by omega, by go_num, by rw [HFL.out]; exact HO6.out, HX6.out⟩
              case measure => simp [intOf]; omega
        · obtain rfl : j = S.length := by omega
          rw [List.take_length] at HO5
          have HXX := Lib.hid (HX3.out.trans HX5.out)
          have hzz := HX3.out.size
          obtain ⟨Lz, lz, hv, hlz⟩ := HO5.out.slice
          subst hv
          go_wp2_with fail
          refine bodyPost_ret (v := .tuple #[.slice Lz (zs (S.flatMap rngS)).length lz, .int .i64 evs.length, .int .i64 0]) (by simp [results, Try.results30, go_sem]) rfl (by rw [HEE.out]; exact ⟨Lz, lz, by rw [zs_len], by have := HO5.out.mono (B' := w.heap.size) (by omega); rw [zs_len] at this; exact this, HXX.out⟩)
end Go.Proofs.Ythblpcmmeajhkaa

/- The document's One (ref07): what is done to a cell. -/
namespace Go.Proofs.Ythblpcmmeajhkaa
open Go.BigFrame
open Go.RowKit Go.Proofs.Ythblpcmmeajhkaa.Plain

/-- what is done to a cell -/
def Plain.oneP (x : Nat) (op : Int) (y : Nat) : Nat :=
  if op = 1 then (x + y) % 4294967296 else if op = 2 then x ^^^ y else if op = 3 then x * 2 ^ (y % 32) % 4294967296 else if op = 4 then x / 2 ^ (y % 32) else if op = 5 then x &&& y else if op = 6 then (if y < x then 1 else 0) else 0
theorem Plain.bit_next (z k : Nat) : z % 2 ^ (k + 1) = z % 2 ^ k + (z.testBit k).toNat * 2 ^ k := by
  rw [Nat.mod_pow_succ, Nat.toNat_testBit, Nat.mul_comm]

end Go.Proofs.Ythblpcmmeajhkaa

/- The document's Words and Fill (ref07). -/
namespace Go.Proofs.Ythblpcmmeajhkaa
open Go.BigFrame
open Go.RowKit Go.Proofs.Ythblpcmmeajhkaa.Plain

/-- words -/
def kU32 : Kd Int where
  t := 22
  e := 27
  n := 1
  cells := fun x => [.int .u32 x]
  ok := fun x => 0 ≤ x ∧ x ≤ 4294967295
  d := 0
  z := .int .u32 0
  bytes := 4
  ht := Try.underlying22
  info := by kernel_rfl
  hzs := rfl
  pos := by decide
  small := by decide
  len := fun _ => rfl
  one := fun a u hu => by simp at hu; subst hu; rfl
theorem Rd.u32s {w : World} {A : Option Addr} {n c : Nat} {xs : List Int} (h : Rd kU32 w (.slice A n c) xs) (hl : 0 < xs.length) : ∃ b off, A = some ⟨b, off, none⟩ ∧ ∀ j, j < xs.length → w.cell? ⟨b, off + j, none⟩ = some (.int .u32 (xs.getD j 0)) := by
  obtain ⟨b, off, rfl, hcc⟩ := h.cells hl
  exact ⟨b, off, rfl, fun j hj => by have := hcc j hj 0 _ rfl; simpa [kU32] using this⟩
set_option maxHeartbeats 400000 in
theorem rwords_any (v u : Value) (xs ys : List Int) (w : World) (h : Rd kU32 w v xs) (h' : Rd kU32 w u ys) :
    Calls Try.prog 12 #[v, u] w fun e w' => e = .returned (.bool (sameB xs ys)) ∧ Ext w w' := by
  have hm := h.len
  have hm' := h'.len
  obtain ⟨A, cap, rfl, hcap⟩ := h.slice
  obtain ⟨A', cap', rfl, hcap'⟩ := h'.slice
  have HH := Lib.hid h
  have HH' := Lib.hid h'
  clear h h'
  by_cases hl : xs.length = ys.length
  · have H := Lib.hid hl
    have e : decide ((xs.length : Int) = (ys.length : Int)) = true := by simp [hl]
    have e2 : ((xs.length : Int) != (ys.length : Int)) = false := by simp [hl]
    clear hl
    go_enter Try.func12, Try.ntmps12
    go_wp2
    clear e e2
    go_loopw [5] (fun i wr => ∃ k : Nat, k ≤ xs.length ∧ i = .int .i64 k ∧ Ext w wr ∧ ∀ j, j < k → xs.getD j 0 = ys.getD j 0) (fun i _ => xs.length - (intOf i).toNat)
    case atStart => exact ⟨0, Nat.zero_le _, rfl, Ext.refl _, by omega⟩
    case round =>
      obtain ⟨k, hk, rfl, hE, ha⟩ := hrel
      have HA := Lib.hid ha
      have HE := Lib.hid hE
      clear ha hE
      by_cases hlt : k < xs.length
      · obtain ⟨b, off, rfl, hcc⟩ := Rd.u32s (HH.out.ext HE.out) (by omega)
        obtain ⟨b', off', rfl, hcc'⟩ := Rd.u32s (HH'.out.ext HE.out) (by have := H.out; omega)
        have hcell := hcc k hlt
        have hcell' := hcc' k (by have := H.out; omega)
        have hlt' : k < ys.length := by have := H.out; omega
        clear hcc hcc'
        by_cases he : xs.getD k 0 = ys.getD k 0
        · have HEQ := Lib.hid he
          have e1 : ((xs.getD k 0) != (ys.getD k 0)) = false := by rw [he]; simp
          generalize hg : xs.getD k 0 = g at *
          generalize hg' : ys.getD k 0 = g' at *
          clear he
          go_wp2
          go_quiet (fail)
          go_wp2
          go_roundw
          case rel => exact ⟨k + 1, by omega, by go_num, HE.out.drewN _, fun j hj => by
            rcases Nat.lt_or_ge j k with h1 | h1
            · exact HA.out j h1
            · obtain rfl : j = k := by omega
              rw [hg, hg', HEQ.out]⟩
          case measure => simp [intOf]; omega
        · have e1 : ((xs.getD k 0) != (ys.getD k 0)) = true := by simpa using he
          have HR : Hid (sameB xs ys = false) := Lib.hid (by unfold sameB; rw [decide_eq_false_iff_not]; intro h; exact he (by rw [h]))
          generalize hg : xs.getD k 0 = g at *
          generalize hg' : ys.getD k 0 = g' at *
          clear he
          go_wp2
          go_quiet (fail)
          go_wp2
          go_ret
          exact ⟨ret_bool HR.out.symm, HE.out.drewN _⟩
      · have HR : Hid (sameB xs ys = true) := Lib.hid (by unfold sameB; rw [decide_eq_true_eq]; exact eq_of_all _ _ H.out (fun j hj => HA.out j (by omega)))
        go_wp2
        go_ret
        exact ⟨ret_bool HR.out.symm, HE.out⟩
  · have e : decide ((xs.length : Int) = (ys.length : Int)) = false := by simp; omega
    have e2 : ((xs.length : Int) != (ys.length : Int)) = true := by simp; omega
    have HR : Hid (sameB xs ys = false) := Lib.hid (by unfold sameB; rw [decide_eq_false_iff_not]; intro h; exact hl (by rw [h]))
    clear hl
    go_enter Try.func12, Try.ntmps12
    go_wp2
    go_ret
    exact ⟨ret_bool HR.out.symm, Ext.refl _⟩

/-- is there such an op? -/
def Plain.knownB (op : Int) : Bool := decide (1 ≤ op) && decide (op ≤ 6)
/-- all cells -/
def Plain.fillP (l : List Nat) (op : Int) (y : Nat) (g m : Int) (picks : List (Int × Int)) : List Nat × Nat × Int :=
  if knownB op = false then ([], 0, 1) else if (ordP l.length g m picks).2.2 ≠ 0 then ([], 0, (ordP l.length g m picks).2.2) else
    (l.map (fun x => oneP x op y), (ordP l.length g m picks).2.1, 0)
theorem Plain.ordP_err (n : Nat) (g m : Int) (picks : List (Int × Int)) : (ordP n g m picks).2.2 = 0 ∨ (ordP n g m picks).2.2 = 1 := by
  unfold ordP
  split
  · exact .inr rfl
  · split
    · exact .inl rfl
    · exact .inl rfl
/-- words, a number, an error -/
def WordsSaid (r : List Nat × Nat × Int) (w : World) (ed : Ending) (w' : World) : Prop :=
  ∃ (L : Option Addr) (l : Nat), ed = .returned (.tuple #[.slice L r.1.length l, .int .i64 r.2.1, .int .i64 r.2.2]) ∧ Ow kU32 w.heap.size w' (.slice L r.1.length l) (zs r.1) ∧ Ext w w'
theorem Plain.oneP_lt (x : Nat) (op : Int) (y : Nat) (hx : x < 4294967296) (hy : y < 4294967296) : oneP x op y < 4294967296 := by
  unfold oneP
  have h1 := Nat.xor_lt_two_pow (n := 32) hx hy
  have h2 : x &&& y ≤ x := Nat.and_le_left
  have h3 : x / 2 ^ (y % 32) ≤ x := Nat.div_le_self _ _
  repeat' split
  all_goals omega
theorem u32_lit (w : World) (x : Nat) (hx : x < 4294967296) : Rd kU32 (w.alloc (.cells #[.int .u32 x] 27)) (.slice (some ⟨w.heap.size, 0, none⟩) 1 1) [(x : Int)] :=
  Ow.rd (K := kU32) (B := 0) (Ow.lit (K := kU32) (p := w.heap.size) (n := 1) w [(x : Int)] #[.int .u32 x] rfl rfl rfl (Nat.zero_le _) (by simp [maxLen]) (by intro z hz; simp only [List.mem_singleton] at hz; subst hz; show (0 : Int) ≤ x ∧ (x : Int) ≤ 4294967295; omega))

end Go.Proofs.Ythblpcmmeajhkaa

/- The document's Zip (ref07). -/
namespace Go.Proofs.Ythblpcmmeajhkaa
open Go.BigFrame
open Go.RowKit Go.Proofs.Ythblpcmmeajhkaa.Plain

abbrev Plain.zipF (l r : List Nat) (op : Int) (i : Nat) : Nat := oneP (l.getD i 0) op (r.getD i 0)
/-- cell by cell -/
def Plain.zipP (l r : List Nat) (op : Int) (g m : Int) (picks : List (Int × Int)) : List Nat × Nat × Int :=
  if l.length ≠ r.length ∨ knownB op = false then ([], 0, 1) else if (ordP l.length g m picks).2.2 ≠ 0 then ([], 0, (ordP l.length g m picks).2.2) else
    ((List.range l.length).map (zipF l r op), (ordP l.length g m picks).2.1, 0)

end Go.Proofs.Ythblpcmmeajhkaa

/- Plain words of scans: sums of all ahead, the highest, blocks. No program in it. -/
namespace Go.Proofs.Ythblpcmmeajhkaa.Plain

/-- the sum, cut to 32 bits -/
def totW (l : List Nat) : Nat := l.sum % 4294967296
theorem totW_lt (l : List Nat) : totW l < 4294967296 := Nat.mod_lt _ (by decide)
theorem totW_nil : totW [] = 0 := rfl
theorem totW_snoc (l : List Nat) (x : Nat) : totW (l ++ [x]) = (totW l + x) % 4294967296 := by unfold totW; rw [List.sum_append]; simp
theorem totW_app (l r : List Nat) : totW (l ++ r) = (totW l + totW r) % 4294967296 := by unfold totW; rw [List.sum_append]; simp
def maxL (l : List Nat) : Nat := l.foldl max 0
theorem maxL_snoc (l : List Nat) (x : Nat) : maxL (l ++ [x]) = max (maxL l) x := by unfold maxL; rw [List.foldl_append]; rfl
theorem foldl_max_le (l : List Nat) : ∀ (a b : Nat), a ≤ b → (∀ x ∈ l, x ≤ b) → l.foldl max a ≤ b := by
  induction l with
  | nil => intro a b h _; exact h
  | cons x l ih =>
    intro a b h hx
    have h1 := hx x (by simp)
    exact ih _ _ (by omega) (fun z hz => hx z (by simp [hz]))
theorem maxL_le (l : List Nat) (b : Nat) (h : ∀ x ∈ l, x ≤ b) : maxL l ≤ b := foldl_max_le l 0 b (Nat.zero_le _) h
theorem takeN_snoc {l : List Nat} {k : Nat} (h : k < l.length) : l.take (k + 1) = l.take k ++ [l.getD k 0] := by
  rw [List.take_succ_eq_append_getElem h, List.getD_eq_getElem?_getD, List.getElem?_eq_getElem h]; rfl
/-- of each place what a rule says -/
def byN (n : Nat) (f : Nat → Nat) : List Nat := (List.range n).map f
theorem byN_len (n : Nat) (f : Nat → Nat) : (byN n f).length = n := by simp [byN]
theorem byN_snoc (n : Nat) (f : Nat → Nat) : byN (n + 1) f = byN n f ++ [f n] := by unfold byN; rw [List.range_succ, List.map_append]; rfl
theorem byN_getD (n : Nat) (f : Nat → Nat) (j : Nat) (hj : j < n) : (byN n f).getD j 0 = f j := by
  unfold byN
  rw [List.getD_eq_getElem?_getD, List.getElem?_map, List.getElem?_range hj]; rfl
theorem byN_congr (n : Nat) (f h : Nat → Nat) (e : ∀ u, u < n → f u = h u) : byN n f = byN n h := List.map_congr_left fun u hu => e u (List.mem_range.1 hu)
theorem byN_take (n : Nat) (f : Nat → Nat) (k : Nat) (hk : k ≤ n) : (byN n f).take k = byN k f := by unfold byN; rw [← List.map_take, List.take_range, Nat.min_eq_left hk]
theorem byN_id (l : List Nat) : byN l.length (fun i => l.getD i 0) = l := by
  apply List.ext_getElem?
  intro i
  unfold byN
  rw [List.getElem?_map]
  by_cases hi : i < l.length
  · rw [List.getElem?_range hi, List.getElem?_eq_getElem hi]
    simp [List.getD_eq_getElem?_getD, List.getElem?_eq_getElem hi]
  · rw [List.getElem?_eq_none (by simpa using hi), List.getElem?_eq_none (by omega)]; rfl
def sumsW (l : List Nat) : List Nat := byN l.length (fun i => totW (l.take i))
def highW (l : List Nat) : List Nat := byN l.length (fun i => maxL (l.take (i + 1)))
/-- the next one, cut by this one -/
def backF (s : List Nat) (t : Nat) (i : Nat) : Nat := ((if i + 1 < s.length then s.getD (i + 1) 0 else t) + 4294967296 - s.getD i 0) % 4294967296
def backW (s : List Nat) (t : Nat) : List Nat := byN s.length (backF s t)
def blocksP (n : Nat) (b : Int) : Nat := if n ≤ 1000 ∧ 1 ≤ b ∧ b ≤ 100 then (n + b.toNat - 1) / b.toNat else 0
theorem blocksP_le (n : Nat) (b : Int) : blocksP n b ≤ n := by
  unfold blocksP
  split
  · rename_i h
    obtain ⟨B, rfl⟩ : ∃ B : Nat, b = B := ⟨b.toNat, by omega⟩
    rw [Int.toNat_natCast]
    have hB : 1 ≤ B := by omega
    rcases Nat.eq_zero_or_pos n with h0 | h0
    · subst h0
      rw [Nat.div_eq_of_lt (by omega)]; exact Nat.zero_le _
    · apply Nat.div_le_of_le_mul
      have h1 : 1 * (n - 1) ≤ B * (n - 1) := Nat.mul_le_mul_right _ hB
      have h2 : B * n = B * (n - 1) + B := by
        conv => lhs; rw [show n = (n - 1) + 1 by omega]
        rw [Nat.mul_add, Nat.mul_one]
      omega
  · exact Nat.zero_le _
def totalsW (l : List Nat) (b : Int) : List Nat := byN (blocksP l.length b) (fun i => totW ((l.drop (i * b.toNat)).take b.toNat))
/-- how many steps, an error -/
def stepsP (n : Nat) (b g m : Int) (picks : List (Int × Int)) : Nat × Int :=
  if ¬ (1 ≤ b ∧ b ≤ 100) then (0, 1) else if (ordP n g m picks).2.2 ≠ 0 then (0, (ordP n g m picks).2.2) else (2 * (ordP (blocksP n b) g m picks).2.1, 0)
def sumsP (l : List Nat) (b g m : Int) (picks : List (Int × Int)) : List Nat × Nat × Nat × Int :=
  if (stepsP l.length b g m picks).2 ≠ 0 then ([], 0, 0, (stepsP l.length b g m picks).2) else (sumsW l, totW l, (stepsP l.length b g m picks).1, 0)
def highP (l : List Nat) (b g m : Int) (picks : List (Int × Int)) : List Nat × Nat × Int :=
  if (stepsP l.length b g m picks).2 ≠ 0 then ([], 0, (stepsP l.length b g m picks).2) else (highW l, (stepsP l.length b g m picks).1, 0)
/-- an order's error is the plan's -/
theorem ordP_err_any (n k : Nat) (g m : Int) (picks : List (Int × Int)) (h : (ordP n g m picks).2.2 = 0) : (ordP k g m picks).2.2 = 0 := by
  unfold ordP at h ⊢
  by_cases hb : planB g m picks.length = false
  · rw [if_pos hb] at h; cases h
  · rw [if_neg hb]
    split <;> rfl
theorem ordP_steps (n : Nat) (g m : Int) (picks : List (Int × Int)) (hn : n ≤ 900) : (ordP n g m picks).2.1 ≤ picks.length + 16008 := by
  rcases ordP_err n g m picks with h | h
  · obtain ⟨⟨os, st, er⟩, hr⟩ : ∃ x, ordP n g m picks = x := ⟨_, rfl⟩
    rw [hr] at h ⊢
    simp only at h ⊢
    subst h
    unfold ordP at hr
    split at hr
    · simp at hr
    · rename_i hb
      have hb' : planB g m picks.length = true := by simpa using hb
      obtain ⟨h1, h2, h3, h4, h5⟩ := (planB_iff _ _ _).1 hb'
      split at hr
      · simp at hr; omega
      · rename_i hz
        simp only [Prod.mk.injEq] at hr
        obtain ⟨_, rfl, _⟩ := hr
        obtain ⟨w1, w2, w3, w4⟩ := whole_ends (g := g.toNat) (n := n) (m := m.toNat) (by omega) (by omega) (by omega) picks
        have h9 : cntT n g.toNat ≤ 2000 := (count_ok n g.toNat (by omega) (by omega) (by omega) (by omega)).2.2.1
        have h8 : m.toNat * (cntT n g.toNat + 1) ≤ 8 * 2001 := Nat.mul_le_mul (by omega) (by omega)
        omega
  · unfold ordP at h ⊢
    split
    · exact Nat.zero_le _
    · split
      · exact Nat.zero_le _
      · rename_i h1 h2
        rw [if_neg h1, if_neg h2] at h; cases h
theorem stepsP_err (n : Nat) (b g m : Int) (picks : List (Int × Int)) : (stepsP n b g m picks).2 = 0 ∨ (stepsP n b g m picks).2 = 1 := by
  unfold stepsP
  split
  · exact .inr rfl
  · split
    · exact ordP_err _ _ _ _
    · exact .inl rfl
theorem sum_bd {l : List Nat} {B : Nat} (h : ∀ x ∈ l, x < B) : ∀ i, l.getD i 0 < B ∨ l.getD i 0 = 0 := by
  intro i
  rw [List.getD_eq_getElem?_getD]
  by_cases hi : i < l.length
  · rw [List.getElem?_eq_getElem hi]; exact .inl (h _ (List.getElem_mem hi))
  · rw [List.getElem?_eq_none (by omega)]; exact .inr rfl
end Go.Proofs.Ythblpcmmeajhkaa.Plain

/- The document's Blocks, Steps, Sums, Highest, Back, Totals (ref08). -/
namespace Go.Proofs.Ythblpcmmeajhkaa
open Go.BigFrame
open Go.RowKit Go.Proofs.Ythblpcmmeajhkaa.Plain

theorem Plain.ordP_plan {n : Nat} {g m : Int} {picks : List (Int × Int)} (h : (ordP n g m picks).2.2 = 0) : picks.length ≤ 4000 := by
  unfold ordP at h
  by_cases hb : planB g m picks.length = false
  · rw [if_pos hb] at h; cases h
  · exact ((planB_iff _ _ _).1 (by simpa using hb)).2.2.2.2
set_option maxRecDepth 100000 in
theorem rblocks_any (n : Nat) (b : Int) (w : World) (hn : n ≤ 1000) (hb : in64 b) :
    Calls Try.prog 18 #[.int .i64 n, .int .i64 b] w fun ed w' => ed = .returned (.int .i64 (blocksP n b)) ∧ w = w' := by
  have hn1 : (n : Int) ≤ 1000 := by omega
  have hn0 : (0 : Int) ≤ n := by omega
  unfold in64 at hb
  by_cases h1 : b < 1
  · have e : blocksP n b = 0 := by unfold blocksP; rw [if_neg (by omega)]
    rw [e]
    clear e
    go_enter Try.func18, Try.ntmps18
    go_wp2
    go_ret
    exact ⟨rfl, rfl⟩
  by_cases h2 : 100 < b
  · have e : blocksP n b = 0 := by unfold blocksP; rw [if_neg (by omega)]
    have h1' : 1 ≤ b := by omega
    rw [e]
    clear e h1
    go_enter Try.func18, Try.ntmps18
    go_wp2
    go_ret
    exact ⟨rfl, rfl⟩
  obtain ⟨B, rfl⟩ : ∃ B : Nat, b = B := ⟨b.toNat, by omega⟩
  have e : blocksP n B = (n + B - 1) / B := by unfold blocksP; rw [if_pos (by omega), Int.toNat_natCast]
  have h1' : (1 : Int) ≤ B := by omega
  have h2' : (B : Int) ≤ 100 := by omega
  have E := Lib.hid e
  clear e h1 h2 hb
  go_enter Try.func18, Try.ntmps18
  go_wp2
  all_goals go_ret
  all_goals refine ⟨ret_int ?_, rfl⟩
  all_goals (rw [E.out, Int.natCast_ediv]; congr 1; omega)
/-- a number, an error -/
def StepsSaid (r : Nat × Int) (w : World) (ed : Ending) (w' : World) : Prop := ed = .returned (.tuple #[.int .i64 r.1, .int .i64 r.2]) ∧ Ext w w'
set_option maxHeartbeats 1600000 in
set_option maxRecDepth 100000 in
theorem rsteps_any (n : Nat) (b g m : Int) (Ap : Option Addr) (cp : Nat) (picks : List (Int × Int)) (w : World) (hp : Rd kPk w (.slice Ap picks.length cp) picks) (n2 : n ≤ 900) (hb : in64 b) (hg : in64 g) (hm : in64 m) :
    Calls Try.prog 22 #[.int .i64 n, .int .i64 b, planV g m Ap picks.length cp] w (StepsSaid (stepsP n b g m picks) w) := by
  have HP := Lib.hid hp
  have HG := Lib.hid (And.intro hg (And.intro hm hb))
  unfold in64 at hb
  clear hp hg hm
  by_cases h1 : b < 1
  · have e : stepsP n b g m picks = (0, 1) := by unfold stepsP; rw [if_pos (by omega)]
    rw [e]
    clear e
    go_enter Try.func22, Try.ntmps22
    go_wp2_with fail
    go_ret2
    exact ⟨rfl, (Ext.refl _).alloc _⟩
  by_cases h2 : 100 < b
  · have e : stepsP n b g m picks = (0, 1) := by unfold stepsP; rw [if_pos (by omega)]
    have h1' : 1 ≤ b := by omega
    rw [e]
    clear e h1
    go_enter Try.func22, Try.ntmps22
    go_wp2_with fail
    go_ret2
    exact ⟨rfl, (Ext.refl _).alloc _⟩
  have h1' : 1 ≤ b := by omega
  have h2' : b ≤ 100 := by omega
  have herr := ordP_err n g m picks
  have HF : Hid (stepsP n b g m picks = if (ordP n g m picks).2.2 ≠ 0 then (0, (ordP n g m picks).2.2) else (2 * (ordP (blocksP n b) g m picks).2.1, 0)) := Lib.hid (by unfold stepsP; rw [if_neg (by omega)])
  have HE2 : Hid ((ordP n g m picks).2.2 = 0 → (ordP (blocksP n b) g m picks).2.2 = 0 ∧ (ordP (blocksP n b) g m picks).2.1 ≤ 30000) := Lib.hid (fun h => ⟨ordP_err_any _ _ _ _ _ h, by have := ordP_steps (blocksP n b) g m picks (Nat.le_trans (blocksP_le n b) n2); have := ordP_plan h; omega⟩)
  clear h1 h2 hb
  go_enter Try.func22, Try.ntmps22
  go_wp2_with fail
  refine (rorder_any n g m Ap cp picks _ (HP.out.ext ((Ext.refl _).alloc _)) n2 HG.out.1 HG.out.2.1).mono ?_
  obtain ⟨⟨os, st, er⟩, hr⟩ : ∃ x, ordP n g m picks = x := ⟨_, rfl⟩
  rw [hr] at HF HE2 herr ⊢
  simp only at HF HE2 herr
  rintro ed w1 ⟨L1, l1, rfl, hO, hE⟩
  simp only
  have k0 : w1.cell? ⟨w.heap.size, 0, none⟩ = some (.int .i64 g) := Ext.cell hE (by go_simp)
  have k1 : w1.cell? ⟨w.heap.size, 1, none⟩ = some (.int .i64 m) := Ext.cell hE (by go_simp)
  have k2 : w1.cell? ⟨w.heap.size, 2, none⟩ = some (.slice Ap picks.length cp) := Ext.cell hE (by go_simp)
  have kf : ∀ o, w1.frozen? ⟨w.heap.size, o, none⟩ = false := fun o => (Below.frozen hE (p := ⟨w.heap.size, o, none⟩) (by first | omega | (simp; omega) | simp)).trans (by go_simp)
  have HX := Lib.hid (((Ext.refl w).alloc (.cells #[.int .i64 g, .int .i64 m, .slice Ap picks.length cp] 25)).trans hE)
  clear hO hE hr kf
  rcases herr with rfl | rfl
  · rw [if_neg (by simp)] at HF
    obtain ⟨he2, hs2⟩ := HE2.out rfl
    obtain ⟨N, hN⟩ : ∃ N, blocksP n b = N := ⟨_, rfl⟩
    have hNl : N ≤ 900 := by have := blocksP_le n b; omega
    have HN := Lib.hid hN
    rw [hN] at he2 hs2 HF
    obtain ⟨⟨ou, su, eu⟩, hr⟩ : ∃ x, ordP N g m picks = x := ⟨_, rfl⟩
    have HR := Lib.hid hr
    rw [hr] at he2 hs2 HF
    simp only at he2 hs2
    subst he2
    have KS : Hid (∀ w', Ext w1 w' → w'.cell? ⟨w.heap.size, 0, none⟩ = some (.int .i64 g) ∧ w'.cell? ⟨w.heap.size, 1, none⟩ = some (.int .i64 m) ∧ w'.cell? ⟨w.heap.size, 2, none⟩ = some (.slice Ap picks.length cp)) := Lib.hid (fun w' hE => ⟨hE.cell k0, hE.cell k1, hE.cell k2⟩)
    have HB : ∀ w', Calls Try.prog 18 #[.int .i64 n, .int .i64 b] w' fun ed w'' => ed = .returned (.int .i64 N) ∧ w' = w'' := fun w' => by
      have h9 := rblocks_any n b w' (by omega) HG.out.2.2
      rw [HN.out] at h9; exact h9
    have HBB := Lib.hid HB
    have hsu : (su : Int) ≤ 30000 := by omega
    have hs0 : (0 : Int) ≤ su := by omega
    have hs2' := Lib.hid hs2
    clear hr hN HE2 HB hs2
    go_upto_region 6 with fail
    go_region_with (first
      | (go_at_call 18; refine (HBB.out _).mono ?_; rintro ed w5 ⟨rfl, rfl⟩)
      | (go_at_call 30; refine (rorder_any N g m Ap cp picks _ (HP.out.ext (by repeat (first | (with_reducible exact HX.out) | refine Ext.drew ?_ | refine Ext.drewN ?_ _))) hNl HG.out.1 HG.out.2.1).mono ?_; rw [HR.out]; rintro ed w5 ⟨L5, l5, rfl, hO5, hE5⟩))
    all_goals go_wp2_with fail
    all_goals go_ret2
    all_goals (rw [HF.out]; exact ⟨by first | rfl | simp, by first | exact HX.out.trans hE5 | exact (HX.out.drew).trans hE5⟩)
  · rw [if_pos (by decide)] at HF
    go_wp2_with fail
    go_ret2
    rw [HF.out]
    exact ⟨rfl, HX.out⟩
end Go.Proofs.Ythblpcmmeajhkaa

/- The document's Sums, Highest, Back (ref08). -/
namespace Go.Proofs.Ythblpcmmeajhkaa
open Go.BigFrame
open Go.RowKit Go.Proofs.Ythblpcmmeajhkaa.Plain

/-- words, a sum, steps, an error -/
def SumsSaid (r : List Nat × Nat × Nat × Int) (w : World) (ed : Ending) (w' : World) : Prop :=
  ∃ (L : Option Addr) (l : Nat), ed = .returned (.tuple #[.slice L r.1.length l, .int .u32 r.2.1, .int .i64 r.2.2.1, .int .i64 r.2.2.2]) ∧ Ow kU32 w.heap.size w' (.slice L r.1.length l) (zs r.1) ∧ Ext w w'
/-- a cell of a list of 32 bits -/
theorem u32_at {w : World} {L : Option Addr} {lc : Nat} {l : List Nat} (h : Rd kU32 w (.slice L l.length lc) (zs l)) (k : Nat) (hk : k < l.length) :
    ∃ bx ox, L = some ⟨bx, ox, none⟩ ∧ w.cell? ⟨bx, ox + k, none⟩ = some (.int .u32 (l.getD k 0 : Nat)) ∧ l.getD k 0 < 4294967296 := by
  obtain ⟨bx, ox, rfl, hcx⟩ := Rd.u32s h (by rw [zs_len]; omega)
  have z0 := hcx k (by rw [zs_len]; exact hk)
  have hok := h.okAt k (by rw [zs_len]; exact hk)
  rw [zs_getD] at z0
  have hok' : (0 : Int) ≤ ((l.getD k 0 : Nat) : Int) ∧ ((l.getD k 0 : Nat) : Int) ≤ 4294967295 := by rw [← zs_getD]; exact hok
  exact ⟨bx, ox, rfl, z0, by omega⟩
set_option maxHeartbeats 1600000 in
set_option maxRecDepth 100000 in
theorem rsums_any (l : List Nat) (L : Option Addr) (lc : Nat) (b g m : Int) (Ap : Option Addr) (cp : Nat) (picks : List (Int × Int)) (w : World) (hL : Rd kU32 w (.slice L l.length lc) (zs l)) (hp : Rd kPk w (.slice Ap picks.length cp) picks) (hl : l.length ≤ 900) (hb : in64 b) (hg : in64 g) (hm : in64 m) :
    Calls Try.prog 9 #[.slice L l.length lc, .int .i64 b, planV g m Ap picks.length cp] w (SumsSaid (sumsP l b g m picks) w) := by
  have HP := Lib.hid hp
  have HL := Lib.hid hL
  have HG := Lib.hid (And.intro hg (And.intro hm hb))
  have hl' : (l.length : Int) ≤ 900 := by omega
  have herr := stepsP_err l.length b g m picks
  clear hp hL hg hm hb
  go_enter Try.func9, Try.ntmps9
  go_wp2_with fail
  refine (rsteps_any l.length b g m Ap cp picks _ (HP.out.ext ((Ext.refl _).alloc _)) hl HG.out.2.2 HG.out.1 HG.out.2.1).mono ?_
  have HF : Hid (sumsP l b g m picks = if (stepsP l.length b g m picks).2 ≠ 0 then ([], 0, 0, (stepsP l.length b g m picks).2) else (sumsW l, totW l, (stepsP l.length b g m picks).1, 0)) := Lib.hid rfl
  obtain ⟨⟨st, er⟩, hr⟩ : ∃ x, stepsP l.length b g m picks = x := ⟨_, rfl⟩
  rw [hr] at HF herr ⊢
  simp only at HF herr
  rintro ed w1 ⟨rfl, hE1⟩
  have HX1 := Lib.hid (((Ext.refl w).alloc (.cells #[.int .i64 g, .int .i64 m, .slice Ap picks.length cp] 25)).trans hE1)
  clear hE1 hr
  rcases herr with rfl | rfl
  · rw [if_neg (by simp)] at HF
    have hz1 := HX1.out.size
    go_wp2_with fail
    go_loopw [12, 13, 14] (fun v s i wr => ∃ k : Nat, k ≤ l.length ∧ i = .int .i64 k ∧ s = .int .u32 (totW (l.take k)) ∧ Ow kU32 w1.heap.size wr v (zs (byN k (fun i => totW (l.take i)))) ∧ Ext w1 wr) (fun _ _ i _ => l.length - (intOf i).toNat)
    case atStart => exact ⟨0, Nat.zero_le _, rfl, rfl, Ow.nil _ _, Ext.refl _⟩
    case round =>
      obtain ⟨k, hk, rfl, rfl, hO, hX⟩ := hrel
      have HO := Lib.hid hO
      have HX := Lib.hid hX
      have hk0 : (0 : Int) ≤ k := by omega
      clear hO hX
      by_cases hlt : k < l.length
      · have hlt' : (k : Int) < l.length := by omega
        obtain ⟨bx, ox, rfl, z0, hxl⟩ := u32_at (HL.out.ext HX1.out) k hlt
        have lb1 : bx < w1.heap.size := World.block_lt_of_cell? _ _ z0
        have HNB : Hid (some bx ≠ u12.ownBlock) := Lib.hid (fun e => by have := (HO.out.lt _ e.symm).1; omega)
        replace z0 := HX.out.cell z0
        have htk := takeN_snoc hlt
        have hts := totW_snoc (l.take k) (l.getD k 0)
        rw [← htk] at hts
        obtain ⟨x, hx⟩ : ∃ x, l.getD k 0 = x := ⟨_, rfl⟩
        rw [hx] at z0 hxl hts
        have hsl := totW_lt (l.take k)
        have hbs := byN_snoc k (fun i => totW (l.take i))
        obtain ⟨s, hs⟩ : ∃ s, totW (l.take k) = s := ⟨_, rfl⟩
        rw [hs] at hts hsl hbs ⊢
        have HTS := Lib.hid hts
        have HBS := Lib.hid hbs
        have HSL := Lib.hid hsl
        have hx0 : (0 : Int) ≤ x := by omega
        have hs0 : (0 : Int) ≤ s := by omega
        have HLL : Hid ((zs (byN k (fun i => totW (l.take i)))).length + [(s : Int)].length ≤ 1048576) := Lib.hid (by rw [zs_len, byN_len, List.length_singleton]; omega)
        have hzx := HX.out.size
        have lbx : bx < wr.heap.size := World.block_lt_of_cell? _ _ z0
        have HZ := Lib.hid z0
        clear htk hts hx hxl hbs hs hsl
        go_wp2_with (at_builtin; refine kU32.wpList_app (by rfl) (.tmp 32) (.tmp 34) (by rfl) (by rfl) w1.heap.size _ (zs (byN k (fun i => totW (l.take i)))) (by rfl) (HO.out.ext ((Ext.refl _).alloc _)) _ [(s : Int)] (by rfl) (u32_lit _ s HSL.out) HLL.out (by simp; omega) ?_; intro v' w8 hown8 hgrow8 hat8; have z8 := hgrow8.cell (Ext.cell ((Ext.refl _).alloc (.cells #[.int .u32 s] 27)) z0) HNB.out)
        have H8 := Lib.hid (And.intro hown8 (And.intro hgrow8 hat8))
        clear hown8 hgrow8 hat8
        go_wp2_with fail
        go_roundw
        case rel =>
          obtain ⟨hown8, hgrow8, hat8⟩ := H8.out
          refine ⟨k + 1, by omega, by go_num, ?_, by rw [HBS.out, zs_app]; exact hown8, Ext.grown (HX.out.alloc _) hgrow8 (fun q hq => (HO.out.lt q hq).1)⟩
          rw [HTS.out]
          first | rfl | (congr 1; omega) | (simp; omega)
        case measure => simp [intOf]; omega
      · obtain rfl : k = l.length := by omega
        rw [List.take_length]
        obtain ⟨Lz, lz, hv, hlz⟩ := HO.out.slice
        subst hv
        have HXX := Lib.hid (HX1.out.trans HX.out)
        go_wp2_with fail
        refine bodyPost_ret (v := .tuple #[.slice Lz (zs (byN l.length (fun i => totW (l.take i)))).length lz, .int .u32 (totW l), .int .i64 st, .int .i64 0]) (by simp [results, Try.results9, go_sem]) rfl (by rw [HF.out]; exact ⟨Lz, lz, by rw [zs_len]; rfl, by have := HO.out.mono (B' := w.heap.size) (by omega); rw [zs_len] at this; exact this, HXX.out⟩)
  · rw [if_pos (by decide)] at HF
    go_wp2_with fail
    exact bodyPost_ret (v := .tuple #[.slice none 0 0, .int .u32 0, .int .i64 0, .int .i64 1]) (by simp [results, Try.results9, go_sem]) rfl (by rw [HF.out]; exact ⟨none, 0, rfl, Ow.nil _ _, HX1.out⟩)
/-- words, steps, an error: as WordsSaid -/
theorem Plain.maxL_lt (l : List Nat) (h : ∀ x ∈ l, x < 4294967296) : maxL l < 4294967296 := by
  have := maxL_le l 4294967295 (fun x hx => by have := h x hx; omega)
  omega
theorem u32_all {w : World} {L : Option Addr} {lc : Nat} {l : List Nat} (h : Rd kU32 w (.slice L l.length lc) (zs l)) : ∀ x ∈ l, x < 4294967296 := by
  intro x hx
  obtain ⟨i, hi, rfl⟩ := List.getElem_of_mem hx
  obtain ⟨_, _, _, _, h4⟩ := u32_at h i hi
  rw [List.getD_eq_getElem?_getD, List.getElem?_eq_getElem hi] at h4
  exact h4
set_option maxHeartbeats 1600000 in
set_option maxRecDepth 100000 in
theorem rhigh_any (l : List Nat) (L : Option Addr) (lc : Nat) (b g m : Int) (Ap : Option Addr) (cp : Nat) (picks : List (Int × Int)) (w : World) (hL : Rd kU32 w (.slice L l.length lc) (zs l)) (hp : Rd kPk w (.slice Ap picks.length cp) picks) (hl : l.length ≤ 900) (hb : in64 b) (hg : in64 g) (hm : in64 m) :
    Calls Try.prog 11 #[.slice L l.length lc, .int .i64 b, planV g m Ap picks.length cp] w (WordsSaid (highP l b g m picks) w) := by
  have HP := Lib.hid hp
  have HL := Lib.hid hL
  have HG := Lib.hid (And.intro hg (And.intro hm hb))
  have HAL := Lib.hid (u32_all hL)
  have hl' : (l.length : Int) ≤ 900 := by omega
  have herr := stepsP_err l.length b g m picks
  clear hp hL hg hm hb
  go_enter Try.func11, Try.ntmps11
  go_wp2_with fail
  refine (rsteps_any l.length b g m Ap cp picks _ (HP.out.ext ((Ext.refl _).alloc _)) hl HG.out.2.2 HG.out.1 HG.out.2.1).mono ?_
  have HF : Hid (highP l b g m picks = if (stepsP l.length b g m picks).2 ≠ 0 then ([], 0, (stepsP l.length b g m picks).2) else (highW l, (stepsP l.length b g m picks).1, 0)) := Lib.hid rfl
  obtain ⟨⟨st, er⟩, hr⟩ : ∃ x, stepsP l.length b g m picks = x := ⟨_, rfl⟩
  rw [hr] at HF herr ⊢
  simp only at HF herr
  rintro ed w1 ⟨rfl, hE1⟩
  have HX1 := Lib.hid (((Ext.refl w).alloc (.cells #[.int .i64 g, .int .i64 m, .slice Ap picks.length cp] 25)).trans hE1)
  clear hE1 hr
  rcases herr with rfl | rfl
  · rw [if_neg (by simp)] at HF
    have hz1 := HX1.out.size
    go_wp2_with fail
    go_loopw [11, 12, 13] (fun v s i wr => ∃ k : Nat, k ≤ l.length ∧ i = .int .i64 k ∧ s = .int .u32 (maxL (l.take k)) ∧ Ow kU32 w1.heap.size wr v (zs (byN k (fun i => maxL (l.take (i + 1))))) ∧ Ext w1 wr) (fun _ _ i _ => l.length - (intOf i).toNat)
    case atStart => exact ⟨0, Nat.zero_le _, rfl, rfl, Ow.nil _ _, Ext.refl _⟩
    case round =>
      obtain ⟨k, hk, rfl, rfl, hO, hX⟩ := hrel
      have HO := Lib.hid hO
      have HX := Lib.hid hX
      have hk0 : (0 : Int) ≤ k := by omega
      clear hO hX
      by_cases hlt : k < l.length
      · have hlt' : (k : Int) < l.length := by omega
        obtain ⟨bx, ox, rfl, z0, hxl⟩ := u32_at (HL.out.ext HX1.out) k hlt
        replace z0 := HX.out.cell z0
        have htk := takeN_snoc hlt
        have hts := maxL_snoc (l.take k) (l.getD k 0)
        have hsl : maxL (l.take (k + 1)) < 4294967296 := maxL_lt _ (fun x hx => HAL.out x (List.mem_of_mem_take hx))
        rw [← htk] at hts
        have hbs := byN_snoc k (fun i => maxL (l.take (i + 1)))
        rw [hts] at hsl hbs
        obtain ⟨x, hx⟩ : ∃ x, l.getD k 0 = x := ⟨_, rfl⟩
        rw [hx] at z0 hxl hts hsl hbs
        obtain ⟨s, hs⟩ : ∃ s, maxL (l.take k) = s := ⟨_, rfl⟩
        rw [hs] at hts hsl hbs ⊢
        obtain ⟨t, ht⟩ : ∃ t, max s x = t := ⟨_, rfl⟩
        rw [ht] at hts hsl hbs
        have HTS := Lib.hid hts
        have HBS := Lib.hid hbs
        have HSL := Lib.hid hsl
        have hx0 : (0 : Int) ≤ x := by omega
        have hs0 : (0 : Int) ≤ s := by omega
        have HLL : Hid ((zs (byN k (fun i => maxL (l.take (i + 1))))).length + [(t : Int)].length ≤ 1048576) := Lib.hid (by rw [zs_len, byN_len, List.length_singleton]; omega)
        have hzx := HX.out.size
        have lbx : bx < wr.heap.size := World.block_lt_of_cell? _ _ z0
        by_cases hsx : s < x
        · obtain rfl : t = x := by omega
          have hsx' : (s : Int) < t := by omega
          clear htk hts hx hxl hbs hs hsl ht
          go_wp2_with (at_builtin; refine kU32.wpList_app (by rfl) (.tmp 37) (.tmp 39) (by rfl) (by rfl) w1.heap.size _ (zs (byN k (fun i => maxL (l.take (i + 1))))) (by rfl) (HO.out.ext ((Ext.refl _).alloc _)) _ [(t : Int)] (by rfl) (u32_lit _ t HSL.out) HLL.out (by simp; omega) ?_; intro v' w8 hown8 hgrow8 hat8)
          have H8 := Lib.hid (And.intro hown8 (And.intro hgrow8 hat8))
          clear hown8 hgrow8 hat8
          go_wp2_with fail
          go_roundw
          case rel =>
            obtain ⟨hown8, hgrow8, hat8⟩ := H8.out
            exact ⟨k + 1, by omega, by go_num, by rw [HTS.out], by rw [HBS.out, zs_app]; exact hown8, Ext.grown (HX.out.alloc _) hgrow8 (fun q hq => (HO.out.lt q hq).1)⟩
          case measure => simp [intOf]; omega
        · obtain rfl : t = s := by omega
          have hsx' : (x : Int) ≤ t := by omega
          clear htk hts hx hxl hbs hs hsl ht
          go_wp2_with (at_builtin; refine kU32.wpList_app (by rfl) (.tmp 37) (.tmp 39) (by rfl) (by rfl) w1.heap.size _ (zs (byN k (fun i => maxL (l.take (i + 1))))) (by rfl) (HO.out.ext ((Ext.refl _).alloc _)) _ [(t : Int)] (by rfl) (u32_lit _ t HSL.out) HLL.out (by simp; omega) ?_; intro v' w8 hown8 hgrow8 hat8)
          have H8 := Lib.hid (And.intro hown8 (And.intro hgrow8 hat8))
          clear hown8 hgrow8 hat8
          go_wp2_with fail
          go_roundw
          case rel =>
            obtain ⟨hown8, hgrow8, hat8⟩ := H8.out
            exact ⟨k + 1, by omega, by go_num, by rw [HTS.out], by rw [HBS.out, zs_app]; exact hown8, Ext.grown (HX.out.alloc _) hgrow8 (fun q hq => (HO.out.lt q hq).1)⟩
          case measure => simp [intOf]; omega
      · obtain rfl : k = l.length := by omega
        rw [List.take_length]
        obtain ⟨Lz, lz, hv, hlz⟩ := HO.out.slice
        subst hv
        have HXX := Lib.hid (HX1.out.trans HX.out)
        go_wp2_with fail
        refine bodyPost_ret (v := .tuple #[.slice Lz (zs (byN l.length (fun i => maxL (l.take (i + 1))))).length lz, .int .i64 st, .int .i64 0]) (by simp [results, Try.results11, go_sem]) rfl (by rw [HF.out]; exact ⟨Lz, lz, by rw [zs_len]; rfl, by have := HO.out.mono (B' := w.heap.size) (by omega); rw [zs_len] at this; exact this, HXX.out⟩)
  · rw [if_pos (by decide)] at HF
    go_wp2_with fail
    exact bodyPost_ret (v := .tuple #[.slice none 0 0, .int .i64 0, .int .i64 1]) (by simp [results, Try.results11, go_sem]) rfl (by rw [HF.out]; exact ⟨none, 0, rfl, Ow.nil _ _, HX1.out⟩)
/-- a list of words -/
def ListSaid (l : List Nat) (w : World) (ed : Ending) (w' : World) : Prop :=
  ∃ (L : Option Addr) (c : Nat), ed = .returned (.slice L l.length c) ∧ Ow kU32 w.heap.size w' (.slice L l.length c) (zs l) ∧ Ext w w'
theorem Plain.backF_lt (s : List Nat) (t i : Nat) : backF s t i < 4294967296 := Nat.mod_lt _ (by decide)
set_option maxHeartbeats 1600000 in
set_option maxRecDepth 100000 in
theorem rback_any (l : List Nat) (L : Option Addr) (lc t : Nat) (w : World) (hL : Rd kU32 w (.slice L l.length lc) (zs l)) (hl : l.length ≤ 900) (ht : t < 4294967296) :
    Calls Try.prog 16 #[.slice L l.length lc, .int .u32 t] w (ListSaid (backW l t) w) := by
  have HL := Lib.hid hL
  have HT := Lib.hid ht
  have hl' : (l.length : Int) ≤ 900 := by omega
  clear hL ht
  go_enter Try.func16, Try.ntmps16
  go_wp2_with fail
  go_loopw [5, 6] (fun v i wr => ∃ k : Nat, k ≤ l.length ∧ i = .int .i64 k ∧ Ow kU32 w.heap.size wr v (zs (byN k (backF l t))) ∧ Ext w wr) (fun _ i _ => l.length - (intOf i).toNat)
  case atStart => exact ⟨0, Nat.zero_le _, rfl, Ow.nil _ _, Ext.refl _⟩
  case round =>
    obtain ⟨k, hk, rfl, hO, hX⟩ := hrel
    have HO := Lib.hid hO
    have HX := Lib.hid hX
    have hk0 : (0 : Int) ≤ k := by omega
    clear hO hX
    by_cases hlt : k < l.length
    · have hlt' : (k : Int) < l.length := by omega
      have HBS := Lib.hid (byN_snoc k (backF l t))
      have HLL : Hid ((zs (byN k (backF l t))).length + [((backF l t k : Nat) : Int)].length ≤ 1048576) := Lib.hid (by rw [zs_len, byN_len, List.length_singleton]; omega)
      have HBL := Lib.hid (backF_lt l t k)
      have hzx := HX.out.size
      obtain ⟨bx, ox, rfl, z0, hxl⟩ := u32_at (HL.out.ext HX.out) k hlt
      have lbx : bx < wr.heap.size := World.block_lt_of_cell? _ _ z0
      by_cases hn : k + 1 < l.length
      · have hn' : (k : Int) + 1 < l.length := by omega
        obtain ⟨bx', ox', he, z1, hyl⟩ := u32_at (HL.out.ext HX.out) (k + 1) hn
        cases he
        have hbf : backF l t k = (l.getD (k + 1) 0 + 4294967296 - l.getD k 0) % 4294967296 := by unfold backF; rw [if_pos hn]
        obtain ⟨x, hx⟩ : ∃ x, l.getD k 0 = x := ⟨_, rfl⟩
        obtain ⟨y, hy⟩ : ∃ y, l.getD (k + 1) 0 = y := ⟨_, rfl⟩
        rw [hx] at z0 hxl hbf
        rw [hy] at z1 hyl hbf
        obtain ⟨z, hz⟩ : ∃ z, backF l t k = z := ⟨_, rfl⟩
        rw [hz] at hbf HBS HLL HBL
        have hzi : ((y : Int) - x) % 4294967296 = (z : Int) := by omega
        clear hx hy hz hbf hxl hyl
        go_wp2_with (at_builtin; refine kU32.wpList_app (by rfl) (.tmp 25) (.tmp 32) (by rfl) (by rfl) w.heap.size _ (zs (byN k (backF l t))) (by rfl) (HO.out.ext ((Ext.refl _).alloc _)) _ [(z : Int)] (by rfl) (u32_lit _ z HBL.out) HLL.out (by simp; omega) ?_; intro v' w8 hown8 hgrow8 hat8)
        have H8 := Lib.hid (And.intro hown8 (And.intro hgrow8 hat8))
        clear hown8 hgrow8 hat8
        go_wp2_with fail
        go_roundw
        case rel =>
          obtain ⟨hown8, hgrow8, hat8⟩ := H8.out
          exact ⟨k + 1, by omega, by go_num, by rw [HBS.out, zs_app]; exact hown8, Ext.grown (HX.out.alloc _) hgrow8 (fun q hq => (HO.out.lt q hq).1)⟩
        case measure => simp [intOf]; omega
      · have hn' : (l.length : Int) ≤ (k : Int) + 1 := by omega
        have hbf : backF l t k = (t + 4294967296 - l.getD k 0) % 4294967296 := by unfold backF; rw [if_neg hn]
        obtain ⟨x, hx⟩ : ∃ x, l.getD k 0 = x := ⟨_, rfl⟩
        rw [hx] at z0 hxl hbf
        obtain ⟨z, hz⟩ : ∃ z, backF l t k = z := ⟨_, rfl⟩
        rw [hz] at hbf HBS HLL HBL
        have hzi : ((t : Int) - x) % 4294967296 = (z : Int) := by omega
        clear hx hz hbf hxl
        go_wp2_with (at_builtin; refine kU32.wpList_app (by rfl) (.tmp 25) (.tmp 32) (by rfl) (by rfl) w.heap.size _ (zs (byN k (backF l t))) (by rfl) (HO.out.ext ((Ext.refl _).alloc _)) _ [(z : Int)] (by rfl) (u32_lit _ z HBL.out) HLL.out (by simp; omega) ?_; intro v' w8 hown8 hgrow8 hat8)
        have H8 := Lib.hid (And.intro hown8 (And.intro hgrow8 hat8))
        clear hown8 hgrow8 hat8
        go_wp2_with fail
        go_roundw
        case rel =>
          obtain ⟨hown8, hgrow8, hat8⟩ := H8.out
          exact ⟨k + 1, by omega, by go_num, by rw [HBS.out, zs_app]; exact hown8, Ext.grown (HX.out.alloc _) hgrow8 (fun q hq => (HO.out.lt q hq).1)⟩
        case measure => simp [intOf]; omega
    · obtain rfl : k = l.length := by omega
      obtain ⟨Lz, lz, hv, hlz⟩ := HO.out.slice
      subst hv
      go_wp2_with fail
      go_ret
      exact ⟨Lz, lz, by rw [zs_len]; rfl, by have := HO.out; rw [zs_len] at this; exact this, HX.out⟩
end Go.Proofs.Ythblpcmmeajhkaa

/- The document's Totals (ref08). -/
namespace Go.Proofs.Ythblpcmmeajhkaa
open Go.BigFrame
open Go.RowKit Go.Proofs.Ythblpcmmeajhkaa.Plain

theorem Plain.blocksP_at {n B k : Nat} {N : Nat} (h : blocksP n (B : Int) = N) (hk : k < N) : 1 ≤ B ∧ B ≤ 100 ∧ k * B < n := by
  unfold blocksP at h
  split at h
  · rename_i hv
    rw [Int.toNat_natCast] at h
    have hB : 1 ≤ B := by omega
    refine ⟨hB, by omega, ?_⟩
    rw [← h] at hk
    have h1 := (Nat.le_div_iff_mul_le (by omega : 0 < B)).1 hk
    rw [Nat.succ_mul] at h1
    omega
  · omega
/-- the sum of a block, so far -/
def Plain.blkW (l : List Nat) (a u : Nat) : Nat := totW ((l.drop a).take (u - a))
theorem Plain.blkW_start (l : List Nat) (a : Nat) : blkW l a a = 0 := by unfold blkW; rw [Nat.sub_self, List.take_zero]; rfl
theorem Plain.blkW_step (l : List Nat) (a u : Nat) (h : a ≤ u) (hu : u < l.length) : blkW l a (u + 1) = (blkW l a u + l.getD u 0) % 4294967296 := by
  unfold blkW
  have h1 : u - a < (l.drop a).length := by rw [List.length_drop]; omega
  have h2 := takeN_snoc h1
  rw [show u + 1 - a = u - a + 1 by omega, h2, totW_snoc]
  congr 2
  rw [List.getD_eq_getElem?_getD, List.getD_eq_getElem?_getD, List.getElem?_drop, show a + (u - a) = u by omega]
theorem Plain.blkW_end (l : List Nat) (a B : Nat) : blkW l a (min l.length (a + B)) = totW ((l.drop a).take B) := by
  unfold blkW
  congr 1
  rcases Nat.lt_or_ge (a + B) l.length with h | h
  · rw [show min l.length (a + B) - a = B by omega]
  · rw [List.take_of_length_le (by rw [List.length_drop]; omega), List.take_of_length_le (by rw [List.length_drop]; omega)]
set_option maxHeartbeats 1600000 in
set_option maxRecDepth 100000 in
theorem rtotals_any (l : List Nat) (L : Option Addr) (lc : Nat) (b : Int) (w : World) (hL : Rd kU32 w (.slice L l.length lc) (zs l)) (hl : l.length ≤ 900) (hb : in64 b) :
    Calls Try.prog 14 #[.slice L l.length lc, .int .i64 b] w (ListSaid (totalsW l b) w) := by
  have HL := Lib.hid hL
  have HB := Lib.hid hb
  have hl' : (l.length : Int) ≤ 900 := by omega
  clear hL hb
  go_enter Try.func14, Try.ntmps14
  go_wp2_with fail
  refine (rblocks_any l.length b w (by omega) HB.out).mono ?_
  rintro ed w1 ⟨rfl, rfl⟩
  have hNl := blocksP_le l.length b
  have HF : Hid (totalsW l b = byN (blocksP l.length b) (fun i => totW ((l.drop (i * b.toNat)).take b.toNat))) := Lib.hid rfl
  obtain ⟨N, hN⟩ : ∃ N, blocksP l.length b = N := ⟨_, rfl⟩
  rw [hN] at hNl HF ⊢
  have HN := Lib.hid hN
  have hN' : (N : Int) ≤ 900 := by omega
  clear hN
  go_wp2_with fail
  go_loopw [5, 7] (fun v i wr => ∃ k : Nat, k ≤ N ∧ i = .int .i64 k ∧ Ow kU32 w.heap.size wr v (zs (byN k (fun i => totW ((l.drop (i * b.toNat)).take b.toNat)))) ∧ Ext w wr) (fun _ i _ => N - (intOf i).toNat)
  case atStart => exact ⟨0, Nat.zero_le _, rfl, Ow.nil _ _, Ext.refl _⟩
  case round =>
    obtain ⟨k, hk, rfl, hO, hX⟩ := hrel
    have HO := Lib.hid hO
    have HX := Lib.hid hX
    have hk0 : (0 : Int) ≤ k := by omega
    clear hO hX
    by_cases hlt : k < N
    · have hlt' : (k : Int) < N := by omega
      have hbv : 1 ≤ b ∧ b ≤ 100 := by
        apply Classical.byContradiction
        intro hn
        have h9 := HN.out
        unfold blocksP at h9
        rw [if_neg (by omega)] at h9
        omega
      obtain ⟨B, rfl⟩ : ∃ B : Nat, b = B := ⟨b.toNat, by omega⟩
      obtain ⟨hB1, hB2, hkB⟩ := blocksP_at HN.out hlt
      have HBS := Lib.hid (byN_snoc k (fun i => totW ((l.drop (i * ((B : Int)).toNat)).take ((B : Int)).toNat)))
      have HLL : ∀ z : Nat, Hid ((zs (byN k (fun i => totW ((l.drop (i * ((B : Int)).toNat)).take ((B : Int)).toNat)))).length + [(z : Int)].length ≤ 1048576) := fun z => Lib.hid (by rw [zs_len, byN_len, List.length_singleton]; omega)
      have HLH := Lib.hid HLL
      obtain ⟨KB, hKB⟩ : ∃ KB, k * B = KB := ⟨_, rfl⟩
      have hm1 : wrap64 ((k : Int) * (B : Int)) = (KB : Int) := by
        rw [← Int.natCast_mul, hKB]; exact IntWalk.wrap64_in _ (by omega)
      have hm2 : wrap64 (((k : Int) + 1) * (B : Int)) = (KB : Int) + B := by
        have e : ((k : Int) + 1) * (B : Int) = (((k + 1) * B : Nat) : Int) := by simp
        rw [e, Nat.succ_mul, hKB]; rw [IntWalk.wrap64_in _ (by omega)]; simp
      have HEND := Lib.hid (blkW_end l KB B)
      have HKB := Lib.hid hKB
      rw [hKB] at hkB
      have hzx := HX.out.size
      have hB0 : (0 : Int) ≤ B := by omega
      have hB100 : (B : Int) ≤ 100 := by omega
      have hKBl : (KB : Int) < l.length := by omega
      have hKB0 : (0 : Int) ≤ KB := by omega
      clear hKB HLL hbv
      obtain ⟨M9, hM9⟩ : ∃ M9, min l.length (KB + B) = M9 := ⟨_, rfl⟩
      rw [hM9] at HEND
      have hMl : M9 ≤ l.length := by omega
      have hMK : KB ≤ M9 := by omega
      have HM9 := Lib.hid hM9
      clear hM9
      go_wp2_with fail
      go_loop [8, 9] (fun s i => ∃ u : Nat, KB ≤ u ∧ u ≤ M9 ∧ i = .int .i64 u ∧ s = .int .u32 (blkW l KB u)) (fun _ i => M9 - (intOf i).toNat)
      case atStart => exact ⟨KB, Nat.le_refl _, hMK, by rw [hm1], by rw [blkW_start]; rfl⟩
      case round =>
        obtain ⟨u, hu1, hu2, rfl, rfl⟩ := hrel
        have hu0 : (0 : Int) ≤ u := by omega
        by_cases hul : u < M9
        · have hul' : u < l.length := by omega
          have hui : (u : Int) < l.length := by omega
          have hub : (u : Int) < (KB : Int) + B := by have := HM9.out; omega
          obtain ⟨bx, ox, rfl, z0, hxl⟩ := u32_at (HL.out.ext HX.out) u hul'
          have hst := blkW_step l KB u hu1 hul'
          obtain ⟨x, hx⟩ : ∃ x, l.getD u 0 = x := ⟨_, rfl⟩
          rw [hx] at z0 hxl hst
          obtain ⟨s, hs⟩ : ∃ s, blkW l KB u = s := ⟨_, rfl⟩
          have hsl : s < 4294967296 := by rw [← hs]; exact totW_lt _
          rw [hs] at hst ⊢
          have HST := Lib.hid hst
          have hx0 : (0 : Int) ≤ x := by omega
          have hs0 : (0 : Int) ≤ s := by omega
          clear hst hx hs hxl hsl
          by_cases hjb : (KB : Int) + B < l.length
          · go_wp2_with fail
            go_round
            case rel => exact ⟨u + 1, by omega, by omega, by go_num, by rw [HST.out]; first | rfl | (congr 1; omega) | (simp; omega)⟩
            case measure => simp [intOf]; omega
          · have hjb' : (l.length : Int) ≤ (KB : Int) + B := by omega
            go_wp2_with fail
            go_round
            case rel => exact ⟨u + 1, by omega, by omega, by go_num, by rw [HST.out]; first | rfl | (congr 1; omega) | (simp; omega)⟩
            case measure => simp [intOf]; omega
        · obtain rfl : u = M9 := by omega
          rw [HEND.out]
          obtain ⟨z, hz⟩ : ∃ z, totW ((l.drop KB).take B) = z := ⟨_, rfl⟩
          have HZL : Hid (z < 4294967296) := Lib.hid (by rw [← hz]; exact totW_lt _)
          have HZ := Lib.hid hz
          rw [hz]
          clear hz
          by_cases hjb : (KB : Int) + B < l.length
          · have huu : (KB : Int) + B ≤ u := by have := HM9.out; omega
            go_wp2_with (at_builtin; refine kU32.wpList_app (by rfl) (.tmp 39) (.tmp 41) (by rfl) (by rfl) w.heap.size _ (zs (byN k (fun i => totW ((l.drop (i * ((B : Int)).toNat)).take ((B : Int)).toNat)))) (by rfl) (HO.out.ext ((Ext.refl _).alloc _)) _ [(z : Int)] (by rfl) (u32_lit _ z HZL.out) (HLH.out z).out (by simp; omega) ?_; intro v' w8 hown8 hgrow8 hat8)
            have H8 := Lib.hid (And.intro hown8 (And.intro hgrow8 hat8))
            clear hown8 hgrow8 hat8
            go_roundw
            case rel =>
              obtain ⟨hown8, hgrow8, hat8⟩ := H8.out
              refine ⟨k + 1, by omega, by go_num, ?_, Ext.grown (HX.out.alloc _) hgrow8 (fun q hq => (HO.out.lt q hq).1)⟩
              rw [HBS.out, zs_app]
              simp only [Int.toNat_natCast]
              rw [HKB.out, HZ.out]
              simp only [Int.toNat_natCast] at hown8
              exact hown8
            case measure => simp [intOf]; omega
          · have hjb' : (l.length : Int) ≤ (KB : Int) + B := by omega
            have huu : (l.length : Int) ≤ u := by have := HM9.out; omega
            go_wp2_with (at_builtin; refine kU32.wpList_app (by rfl) (.tmp 39) (.tmp 41) (by rfl) (by rfl) w.heap.size _ (zs (byN k (fun i => totW ((l.drop (i * ((B : Int)).toNat)).take ((B : Int)).toNat)))) (by rfl) (HO.out.ext ((Ext.refl _).alloc _)) _ [(z : Int)] (by rfl) (u32_lit _ z HZL.out) (HLH.out z).out (by simp; omega) ?_; intro v' w8 hown8 hgrow8 hat8)
            have H8 := Lib.hid (And.intro hown8 (And.intro hgrow8 hat8))
            clear hown8 hgrow8 hat8
            go_roundw
            case rel =>
              obtain ⟨hown8, hgrow8, hat8⟩ := H8.out
              refine ⟨k + 1, by omega, by go_num, ?_, Ext.grown (HX.out.alloc _) hgrow8 (fun q hq => (HO.out.lt q hq).1)⟩
              rw [HBS.out, zs_app]
              simp only [Int.toNat_natCast]
              rw [HKB.out, HZ.out]
              simp only [Int.toNat_natCast] at hown8
              exact hown8
            case measure => simp [intOf]; omega
    · obtain rfl : k = N := by omega
      obtain ⟨Lz, lz, hv, hlz⟩ := HO.out.slice
      subst hv
      go_wp2_with fail
      go_ret
      rw [HF.out]
      exact ⟨Lz, lz, by rw [zs_len]; rfl, by have := HO.out; rw [zs_len] at this; exact this, HX.out⟩
end Go.Proofs.Ythblpcmmeajhkaa

/- The program's small ones of scan: right, Blocks, the rules, along. -/
namespace Go.Proofs.Ythblpcmmeajhkaa
open Go.BigFrame
open Go.RowKit Go.Proofs.Ythblpcmmeajhkaa.Plain

set_option maxRecDepth 100000 in
theorem sright_any (b : Int) (w : World) (hb : in64 b) :
    Calls Try.prog 26 #[.int .i64 b] w fun ed w' => ed = .returned (.bool (decide (1 ≤ b ∧ b ≤ 100))) ∧ w = w' := by
  unfold in64 at hb
  go_enter Try.func26, Try.ntmps26
  go_wp2
  all_goals go_ret
  all_goals exact ⟨ret_bool (by simp; try omega), rfl⟩

set_option maxRecDepth 100000 in
theorem sblocksE_any (n : Nat) (b : Int) (w : World) (hn : n ≤ 1000) (hb : in64 b) :
    Calls Try.prog 17 #[.int .i64 n, .int .i64 b] w fun ed w' => ed = .returned (.int .i64 (blocksP n b)) ∧ w = w' := by
  have hn1 : (n : Int) ≤ 1000 := by omega
  have hn0 : (0 : Int) ≤ n := by omega
  have HB := Lib.hid hb
  unfold in64 at hb
  by_cases h1 : 1 ≤ b ∧ b ≤ 100
  · obtain ⟨B, rfl⟩ : ∃ B : Nat, b = B := ⟨b.toNat, by omega⟩
    have e : blocksP n B = (n + B - 1) / B := by unfold blocksP; rw [if_pos (by omega), Int.toNat_natCast]
    have h1' : (1 : Int) ≤ B := by omega
    have h2' : (B : Int) ≤ 100 := by omega
    have hr : ∀ w, Calls Try.prog 26 #[.int .i64 B] w fun ed w' => ed = .returned (.bool true) ∧ w = w' := fun w => (sright_any B w HB.out).mono fun ed w' h => ⟨by rw [h.1, decide_eq_true h1], h.2⟩
    have HR := Lib.hid hr
    have E := Lib.hid e
    clear e h1 hb hr
    go_enter Try.func17, Try.ntmps17
    go_wp2_with fail
    refine (HR.out _).mono ?_
    rintro ed w1 ⟨rfl, rfl⟩
    go_wp2_with fail
    all_goals go_ret
    all_goals refine ⟨ret_int ?_, rfl⟩
    all_goals (rw [E.out, Int.natCast_ediv]; congr 1; omega)
  · have e : blocksP n b = 0 := by unfold blocksP; rw [if_neg (by omega)]
    have hr : ∀ w, Calls Try.prog 26 #[.int .i64 b] w fun ed w' => ed = .returned (.bool false) ∧ w = w' := fun w => (sright_any b w HB.out).mono fun ed w' h => ⟨by rw [h.1, decide_eq_false h1], h.2⟩
    have HR := Lib.hid hr
    rw [e]
    clear e h1 hr
    go_enter Try.func17, Try.ntmps17
    go_wp2_with fail
    refine (HR.out _).mono ?_
    rintro ed w1 ⟨rfl, rfl⟩
    go_wp2_with fail
    all_goals go_ret
    all_goals exact ⟨rfl, rfl⟩

/-- the two rules -/
def Plain.addR (a x : Nat) : Nat := (a + x) % 4294967296
def Plain.maxR (a x : Nat) : Nat := max a x
theorem Plain.addR_lt (a x : Nat) (_ : a < 4294967296) (_ : x < 4294967296) : addR a x < 4294967296 := Nat.mod_lt _ (by decide)
theorem Plain.maxR_lt (a x : Nat) (ha : a < 4294967296) (hx : x < 4294967296) : maxR a x < 4294967296 := by unfold maxR; omega

theorem srule1_any (a x : Nat) (w : World) (ha : a < 4294967296) (hx : x < 4294967296) :
    Calls Try.prog 21 #[.int .u32 a, .int .u32 x] w fun ed w' => ed = .returned (.int .u32 (addR a x : Nat)) ∧ w = w' := by
  obtain ⟨z, hz⟩ : ∃ z, addR a x = z := ⟨_, rfl⟩
  have e : ((a : Int) + x) % 4294967296 = (z : Int) := by unfold addR at hz; omega
  rw [hz]
  clear hz
  go_enter Try.func21, Try.ntmps21
  go_wp2_with fail
  go_ret
  exact ⟨ret_int e, rfl⟩
theorem srule3_any (a x : Nat) (w : World) (ha : a < 4294967296) (hx : x < 4294967296) :
    Calls Try.prog 25 #[.int .u32 a, .int .u32 x] w fun ed w' => ed = .returned (.int .u32 (addR a x : Nat)) ∧ w = w' := by
  obtain ⟨z, hz⟩ : ∃ z, addR a x = z := ⟨_, rfl⟩
  have e : ((a : Int) + x) % 4294967296 = (z : Int) := by unfold addR at hz; omega
  rw [hz]
  clear hz
  go_enter Try.func25, Try.ntmps25
  go_wp2_with fail
  go_ret
  exact ⟨ret_int e, rfl⟩
theorem srule2_any (a x : Nat) (w : World) (ha : a < 4294967296) (hx : x < 4294967296) :
    Calls Try.prog 23 #[.int .u32 a, .int .u32 x] w fun ed w' => ed = .returned (.int .u32 (maxR a x : Nat)) ∧ w = w' := by
  unfold maxR
  rcases Nat.lt_trichotomy a x with h | rfl | h
  · rw [Nat.max_eq_right (by omega)]
    have h' : (a : Int) < x := by omega
    go_enter Try.func23, Try.ntmps23
    go_wp2
    all_goals go_ret
    all_goals exact ⟨rfl, rfl⟩
  · rw [Nat.max_self]
    go_enter Try.func23, Try.ntmps23
    go_wp2
    all_goals go_ret
    all_goals exact ⟨rfl, rfl⟩
  · rw [Nat.max_eq_left (by omega)]
    have h' : (x : Int) < a := by omega
    go_enter Try.func23, Try.ntmps23
    go_wp2
    all_goals go_ret
    all_goals exact ⟨rfl, rfl⟩
end Go.Proofs.Ythblpcmmeajhkaa

/- The program's along (scan): of each cell what a rule makes of a start and all ahead of it. -/
namespace Go.Proofs.Ythblpcmmeajhkaa
open Go.BigFrame
open Go.RowKit Go.Proofs.Ythblpcmmeajhkaa.Plain

theorem Plain.byN_set (n : Nat) (f : Nat → Nat) (u v : Nat) : (byN n f).set u v = byN n (fun i => if i = u then v else f i) := by
  apply List.ext_getElem?
  intro i
  unfold byN
  by_cases hi : i < n
  · rw [List.getElem?_set, List.getElem?_map, List.getElem?_map, List.getElem?_range hi]
    by_cases h : u = i
    · subst h; simp [hi]
    · rw [if_neg h, Option.map_some, Option.map_some, if_neg (fun e => h e.symm)]
  · rw [List.getElem?_eq_none (by simp; omega), List.getElem?_eq_none (by simp; omega)]
theorem zs_set (l : List Nat) (u v : Nat) : (zs l).set u (v : Int) = zs (l.set u v) := by unfold zs; rw [List.map_set]
/-- a cell of words of one's own is stored -/
theorem Ow.setN {B g n c : Nat} {w : World} {M : List Nat} (h : Ow kU32 B w (.slice (some ⟨g, 0, none⟩) n c) (zs M)) {u v : Nat} (hu : u < M.length) (hv : v < 4294967296) :
    Ow kU32 B (w.setCell ⟨g, u, none⟩ (.int .u32 v)) (.slice (some ⟨g, 0, none⟩) n c) (zs (M.set u v)) := by
  have h1 := h.set (j := u) (i := 0) (x := (v : Int)) (u := .int .u32 v) (by rw [zs_len]; exact hu) (by decide) rfl (by show (0 : Int) ≤ _ ∧ _ ≤ (4294967295 : Int); omega)
  rw [show u * kU32.n + 0 = u from by show u * 1 + 0 = u; omega, zs_set] at h1
  exact h1
/-- .. what is there -/
theorem Ow.atN {B g n c : Nat} {w : World} {M : List Nat} (h : Ow kU32 B w (.slice (some ⟨g, 0, none⟩) n c) (zs M)) {u : Nat} (hu : u < M.length) :
    w.cell? ⟨g, u, none⟩ = some (.int .u32 (M.getD u 0 : Nat)) ∧ (∀ j, w.frozen? ⟨g, j, none⟩ = false) ∧ M.getD u 0 < 4294967296 ∧ B ≤ g ∧ g < w.heap.size := by
  obtain ⟨g', eg, h1, h2, h3, h4⟩ := h.pos (by rw [zs_len]; omega)
  cases eg
  have z := h3 u (by rw [zs_len]; exact hu) 0 _ rfl
  have hok := h.rd.okAt u (by rw [zs_len]; exact hu)
  rw [show u * kU32.n + 0 = u from by show u * 1 + 0 = u; omega] at z
  have e : (zs M).getD u kU32.d = ((M.getD u 0 : Nat) : Int) := zs_getD M u
  rw [e] at z hok
  have hok' : (0 : Int) ≤ ((M.getD u 0 : Nat) : Int) ∧ ((M.getD u 0 : Nat) : Int) ≤ 4294967295 := hok
  exact ⟨z, h4, by omega, h1, h2⟩
theorem grown_set (w : World) (p : Addr) (v : Value) : w.grownBy (w.setCell p v) (some p.block) :=
  ⟨(Ext.setCell (Ext.refl w) (p := ⟨w.heap.size, 0, none⟩) (Nat.le_refl _) v).os.symm ▸ by simp [World.setCell], by simp [World.setCell], by simp [World.setCell], by simp [World.setCell], fun i hi hne => Below.heap_setCell _ _ _ _ (fun e => hne (by rw [e]))⟩
/-- what along makes of a list: from 'off' on so many cells are others -/
def Plain.alongL (R : Nat → Nat → Nat) (M l : List Nat) (off s j : Nat) : List Nat := byN M.length (fun u => if off ≤ u ∧ u < off + j then (l.take (u - off)).foldl R s else M.getD u 0)
theorem Plain.alongL_len (R : Nat → Nat → Nat) (M l : List Nat) (off s j : Nat) : (alongL R M l off s j).length = M.length := byN_len _ _
theorem Plain.alongL_zero (R : Nat → Nat → Nat) (M l : List Nat) (off s : Nat) : alongL R M l off s 0 = M := by
  unfold alongL
  rw [byN_congr _ _ (fun u => M.getD u 0) (fun u _ => if_neg (by omega))]
  exact byN_id M
theorem Plain.alongL_set (R : Nat → Nat → Nat) (M l : List Nat) (off s j : Nat) : (alongL R M l off s j).set (off + j) ((l.take j).foldl R s) = alongL R M l off s (j + 1) := by
  unfold alongL
  rw [byN_set]
  refine byN_congr _ _ _ (fun u _ => ?_)
  by_cases h : u = off + j
  · subst h
    rw [if_pos rfl, if_pos (by omega), show off + j - off = j by omega]
  · rw [if_neg h]
    by_cases h2 : off ≤ u ∧ u < off + j
    · rw [if_pos h2, if_pos (by omega)]
    · rw [if_neg h2, if_neg (by omega)]
theorem Plain.foldR_lt {R : Nat → Nat → Nat} (hR : ∀ a x, a < 4294967296 → x < 4294967296 → R a x < 4294967296) : ∀ (l : List Nat) (s : Nat), s < 4294967296 → (∀ x ∈ l, x < 4294967296) → l.foldl R s < 4294967296
  | [], _, hs, _ => hs
  | x :: l, s, hs, hl => foldR_lt hR l (R s x) (hR _ _ hs (hl x (by simp))) (fun z hz => hl z (by simp [hz]))
theorem Plain.foldR_snoc (R : Nat → Nat → Nat) (l : List Nat) (s j : Nat) (hj : j < l.length) : (l.take (j + 1)).foldl R s = R ((l.take j).foldl R s) (l.getD j 0) := by
  rw [takeN_snoc hj, List.foldl_append]; rfl
theorem zs_lt {w : World} {v : Value} {l : List Nat} (h : Rd kU32 w v (zs l)) : ∀ x ∈ l, x < 4294967296 := fun x hx => by
  have h1 : (0 : Int) ≤ (x : Int) ∧ (x : Int) ≤ 4294967295 := h.2.1 (x : Int) (List.mem_map.2 ⟨x, hx, rfl⟩)
  omega

set_option maxHeartbeats 1600000 in
set_option maxRecDepth 100000 in
theorem salong1_any (g off m c c0 B0 s : Nat) (M l : List Nat) (L : Option Addr) (lc : Nat) (w : World) (hM : Ow kU32 B0 w (.slice (some ⟨g, 0, none⟩) M.length c0) (zs M)) (hL : Rd kU32 w (.slice L l.length lc) (zs l))
    (hfar : ∀ a, L = some a → a.block ≠ g) (hom : off + m ≤ M.length) (hlm : l.length ≤ m) (hs : s < 4294967296) (hM9 : M.length ≤ 1000) :
    Calls Try.prog 28 #[.slice (some ⟨g, off, none⟩) m c, .slice L l.length lc, .int .u32 s, .func (.func 21) #[] #[]] w fun ed w' =>
      ed = .returned (.int .u32 (l.foldl addR s : Nat)) ∧ Ow kU32 B0 w' (.slice (some ⟨g, 0, none⟩) M.length c0) (zs (alongL addR M l off s l.length)) ∧ w.grownBy w' (some g) := by
  have HM := Lib.hid hM
  have HL := Lib.hid hL
  have HFAR := Lib.hid hfar
  have HS := Lib.hid (And.intro hs (zs_lt hL))
  have hl' : (l.length : Int) ≤ m := by omega
  have hm' : (m : Int) ≤ 1000 := by omega
  clear hM hL hfar hs
  go_enter Try.func28, Try.ntmps28
  go_wp2_with fail
  go_loopw [2, 13] (fun a i wr => ∃ j : Nat, j ≤ l.length ∧ i = .int .i64 j ∧ a = .int .u32 ((l.take j).foldl addR s : Nat) ∧ Ow kU32 B0 wr (.slice (some ⟨g, 0, none⟩) M.length c0) (zs (alongL addR M l off s j)) ∧ w.grownBy wr (some g)) (fun _ i _ => l.length - (intOf i).toNat)
  case atStart => exact ⟨0, Nat.zero_le _, rfl, rfl, by rw [alongL_zero]; exact HM.out, World.grownBy.refl _ _⟩
  case round =>
    obtain ⟨j, hj, rfl, rfl, hO, hX⟩ := hrel
    have HO := Lib.hid hO
    have HX := Lib.hid hX
    have hj0 : (0 : Int) ≤ j := by omega
    clear hO hX
    by_cases hlt : j < l.length
    · have hlt' : (j : Int) < l.length := by omega
      have hjm : (j : Int) < m := by omega
      obtain ⟨bx, ox, rfl, z0, hxl⟩ := u32_at (HL.out.grown HX.out (fun a ha e => HFAR.out a ha (by cases e; rfl))) j hlt
      obtain ⟨z1, z2, _, _, zg⟩ := HO.out.atN (u := off + j) (by rw [alongL_len]; omega)
      have hal : (l.take j).foldl addR s < 4294967296 := foldR_lt addR_lt _ _ HS.out.1 (fun x hx => HS.out.2 x (List.mem_of_mem_take hx))
      have hset := HO.out.setN (u := off + j) (v := (l.take j).foldl addR s) (by rw [alongL_len]; omega) hal
      rw [alongL_set] at hset
      have hsn := foldR_snoc addR l s j hlt
      obtain ⟨ov, hov⟩ : ∃ ov, Value.int IntKind.u32 (((alongL addR M l off s j).getD (off + j) 0 : Nat) : Int) = ov := ⟨_, rfl⟩
      rw [hov] at z1
      obtain ⟨x, hx⟩ : ∃ x, l.getD j 0 = x := ⟨_, rfl⟩
      obtain ⟨a, ha⟩ : ∃ a, (l.take j).foldl addR s = a := ⟨_, rfl⟩
      rw [hx] at z0 hxl hsn
      rw [ha] at hal hset hsn ⊢
      have HSET := Lib.hid hset
      have HSN := Lib.hid hsn
      have HRU := Lib.hid (fun w => srule1_any a x w hal hxl)
      have z2' := z2 (off + j)
      have hbg : bx ≠ g := HFAR.out _ rfl
      clear hset hsn hov hx ha z2 hal hxl
      go_wp2_with fail
      refine (HRU.out _).mono ?_
      rintro ed w1 ⟨rfl, rfl⟩
      go_wp2_with fail
      go_roundw
      case rel =>
        exact ⟨j + 1, by omega, by go_num, by rw [HSN.out], HSET.out, HX.out.trans (grown_set _ _ _)⟩
      case measure => simp [intOf]; omega
    · obtain rfl : j = l.length := by omega
      go_wp2_with fail
      go_ret
      exact ⟨by rw [List.take_length]; rfl, HO.out, HX.out⟩

set_option maxHeartbeats 1600000 in
set_option maxRecDepth 100000 in
theorem salong2_any (g off m c c0 B0 s : Nat) (M l : List Nat) (L : Option Addr) (lc : Nat) (w : World) (hM : Ow kU32 B0 w (.slice (some ⟨g, 0, none⟩) M.length c0) (zs M)) (hL : Rd kU32 w (.slice L l.length lc) (zs l))
    (hfar : ∀ a, L = some a → a.block ≠ g) (hom : off + m ≤ M.length) (hlm : l.length ≤ m) (hs : s < 4294967296) (hM9 : M.length ≤ 1000) :
    Calls Try.prog 28 #[.slice (some ⟨g, off, none⟩) m c, .slice L l.length lc, .int .u32 s, .func (.func 23) #[] #[]] w fun ed w' =>
      ed = .returned (.int .u32 (l.foldl maxR s : Nat)) ∧ Ow kU32 B0 w' (.slice (some ⟨g, 0, none⟩) M.length c0) (zs (alongL maxR M l off s l.length)) ∧ w.grownBy w' (some g) := by
  have HM := Lib.hid hM
  have HL := Lib.hid hL
  have HFAR := Lib.hid hfar
  have HS := Lib.hid (And.intro hs (zs_lt hL))
  have hl' : (l.length : Int) ≤ m := by omega
  have hm' : (m : Int) ≤ 1000 := by omega
  clear hM hL hfar hs
  go_enter Try.func28, Try.ntmps28
  go_wp2_with fail
  go_loopw [2, 13] (fun a i wr => ∃ j : Nat, j ≤ l.length ∧ i = .int .i64 j ∧ a = .int .u32 ((l.take j).foldl maxR s : Nat) ∧ Ow kU32 B0 wr (.slice (some ⟨g, 0, none⟩) M.length c0) (zs (alongL maxR M l off s j)) ∧ w.grownBy wr (some g)) (fun _ i _ => l.length - (intOf i).toNat)
  case atStart => exact ⟨0, Nat.zero_le _, rfl, rfl, by rw [alongL_zero]; exact HM.out, World.grownBy.refl _ _⟩
  case round =>
    obtain ⟨j, hj, rfl, rfl, hO, hX⟩ := hrel
    have HO := Lib.hid hO
    have HX := Lib.hid hX
    have hj0 : (0 : Int) ≤ j := by omega
    clear hO hX
    by_cases hlt : j < l.length
    · have hlt' : (j : Int) < l.length := by omega
      have hjm : (j : Int) < m := by omega
      obtain ⟨bx, ox, rfl, z0, hxl⟩ := u32_at (HL.out.grown HX.out (fun a ha e => HFAR.out a ha (by cases e; rfl))) j hlt
      obtain ⟨z1, z2, _, _, zg⟩ := HO.out.atN (u := off + j) (by rw [alongL_len]; omega)
      have hal : (l.take j).foldl maxR s < 4294967296 := foldR_lt maxR_lt _ _ HS.out.1 (fun x hx => HS.out.2 x (List.mem_of_mem_take hx))
      have hset := HO.out.setN (u := off + j) (v := (l.take j).foldl maxR s) (by rw [alongL_len]; omega) hal
      rw [alongL_set] at hset
      have hsn := foldR_snoc maxR l s j hlt
      obtain ⟨ov, hov⟩ : ∃ ov, Value.int IntKind.u32 (((alongL maxR M l off s j).getD (off + j) 0 : Nat) : Int) = ov := ⟨_, rfl⟩
      rw [hov] at z1
      obtain ⟨x, hx⟩ : ∃ x, l.getD j 0 = x := ⟨_, rfl⟩
      obtain ⟨a, ha⟩ : ∃ a, (l.take j).foldl maxR s = a := ⟨_, rfl⟩
      rw [hx] at z0 hxl hsn
      rw [ha] at hal hset hsn ⊢
      have HSET := Lib.hid hset
      have HSN := Lib.hid hsn
      have HRU := Lib.hid (fun w => srule2_any a x w hal hxl)
      have z2' := z2 (off + j)
      have hbg : bx ≠ g := HFAR.out _ rfl
      clear hset hsn hov hx ha z2 hal hxl
      go_wp2_with fail
      refine (HRU.out _).mono ?_
      rintro ed w1 ⟨rfl, rfl⟩
      go_wp2_with fail
      go_roundw
      case rel =>
        exact ⟨j + 1, by omega, by go_num, by rw [HSN.out], HSET.out, HX.out.trans (grown_set _ _ _)⟩
      case measure => simp [intOf]; omega
    · obtain rfl : j = l.length := by omega
      go_wp2_with fail
      go_ret
      exact ⟨by rw [List.take_length]; rfl, HO.out, HX.out⟩
end Go.Proofs.Ythblpcmmeajhkaa

/- A region that draws its order, in the body of a range over a function (at the wide fence): by the plain law 'still, then a tail'. -/
namespace Go.Proofs.Ythblpcmmeajhkaa
open Go.RowKit

/-- no statement 'defer' -/
def NoDefer (o : Oper) : Bool := match o.op with | .defer _ => false | _ => true
theorem NoDefer.ne {o : Oper} (h : NoDefer o = true) : ∀ c, o.op ≠ .defer c := fun c e => by simp [NoDefer, e] at h

/-- what may be done of an operation outside may be done in a round -/
theorem round_op {P : Program} {Q : Exit → Act → World → Prop} {l n : Nat} {o : Oper} {a : Act} {w : World} {K K' : Act → World → Prop} (ho : NoDefer o = true) (hK : ∀ a w, K a w → K' a w) (h : o.wp P a w K Q) :
    o.wpIn (Fence.wide.inRound l) n P a w K' Q := by
  refine ⟨fun _ _ => trivial, ?_⟩
  rw [Oper.semAt_eq _ _ _ (NoDefer.ne ho)]
  unfold Oper.wp at h
  generalize (execOp a.eval o).run P w = r at *
  cases r with
  | ok x w' =>
    cases x with
    | value v => exact hK _ _ h
    | skip => exact hK _ _ h
    | defer d => exact hK _ _ h
    | enter f args =>
      refine ⟨fun e => by simp [Fence.wide] at e, ?_⟩
      refine CallsIn.inRound l (callsIn_wide.2 (Calls.mono h fun e w'' he => ?_))
      cases e <;> first | exact hK _ _ he | exact he
    | row row args =>
      refine ⟨fun e => by simp [Fence.wide] at e, fun c cs _ => ?_⟩
      obtain ⟨v, w'', r, s⟩ := h c cs
      exact ⟨v, w'', hK _ _ r, stepsIn_wide.2 s⟩
    | _ => exact h.elim
  | halt x w' => cases x <;> first | exact h | exact h.elim
theorem round_wpOp {P : Program} {Q : Exit → Act → World → Prop} {l n : Nat} {ops : Array Oper} (hnd : ops.all NoDefer = true) (hQ : ¬ LetsOut Q) {i : Nat} {K K' : Act → World → Prop} {a : Act} {w : World} (hK : ∀ a w, K a w → K' a w) (h : wpOp P ops Q i K a w) :
    wpOpIn (Fence.wide.inRound l) n P ops Q i K' a w := by
  unfold wpOp at h
  unfold wpOpIn
  cases ho : ops[i]? with
  | none => rw [ho] at h; exact hK _ _ h
  | some o =>
    rw [ho] at h
    have hd : NoDefer o = true := by
      obtain ⟨hi, rfl⟩ := Array.getElem?_eq_some_iff.1 ho
      exact Array.all_eq_true.1 hnd i hi
    by_cases hw : Region.wanted o (yielded ops a.tmps) = true
    · simp only [hw, if_true] at h ⊢
      rcases h with h | h
      · exact round_op hd hK h
      · exact absurd h.2 hQ
    · simp only [hw] at h ⊢
      exact ⟨fun _ _ => trivial, hK _ _ h⟩
theorem round_any {P : Program} {Q : Exit → Act → World → Prop} {l n : Nat} {md : Region.Mode} {ops : Array Oper} (hnd : ops.all NoDefer = true) (hQ : ¬ LetsOut Q) : ∀ (fuel : Nat) (listed : Array Bool) (a : Act) (w : World),
    wpAny P md ops Q fuel listed a w → wpAnyIn (Fence.wide.inRound l) n P md ops Q fuel listed a w := by
  intro fuel
  induction fuel with
  | zero => intro listed a w h; exact h
  | succ fuel ih => exact fun listed a w h => ⟨h.1, fun i hi => round_wpOp hnd hQ (fun a w => ih _ a w) (h.2 i hi)⟩
/-- nothing is listed at the start -/
theorem headInv_start {md : Region.Mode} {ops : Array Oper} (n : Nat) : HeadInv md ops n (Array.replicate ops.size false) :=
  ⟨by simp, fun j _ _ hl => absurd hl (by rw [getD_replicate_false]; decide), fun t _ ht => getD_in (by simpa using ht) (getD_replicate_false _ _)⟩
/-- a region, all but a tail of which leaves the world as it is, in a round -/
theorem round_still_tail {P : Program} {Q : Exit → Act → World → Prop} {id l m : Nat} {a : Act} {w : World} {ops : List Oper} (hQ : ¬ LetsOut Q) (n : Nat) (hm : P.follows .mixedOrders = true) (hnd : ops.toArray.all NoDefer = true) (hB : Region.lexTailB .any ops.toArray n = true)
    (h : wpStill P ops.toArray w.drew (fun a' => wpList P ops.toArray Q (ops.drop n) a' w.drew) (ops.take n) a) : (Code.region id ops.toArray true).wpIn (Fence.wide.inRound l) m P Q a w := by
  refine wpIn_region_any hm (round_any hnd hQ _ _ _ _ ?_)
  simp only [Region.lexTailB, Bool.and_eq_true, decide_eq_true_eq] at hB
  obtain ⟨⟨⟨⟨h1, h2⟩, h3⟩, h4⟩, h5⟩ := hB
  have hs : ops.toArray.size = ops.length := by simp
  have ht : (ops.take n).length = n := by rw [List.length_take]; omega
  have hd : (ops.drop n).length = ops.toArray.size - n := by rw [List.length_drop, hs]
  have hat : ∀ j, j < (ops.take n).length → (ops.take n)[j]? = ops.toArray[0 + j]? := fun j hj => by rw [ht] at hj; simp [hj]
  have H := wpAnyL_lex (md := .any) (g := ops.toArray.size - n) h1 h3 h4 h2 (ops.take n) 0 _ a hat (by rw [Nat.zero_add]; exact ht) (headInv_start n) (by rw [ht]; exact h5) h
  have H2 := wpAny_of_head (Q' := Q) (g := ops.toArray.size - n) (fun listed a' hL => by
    rw [← hd]
    exact wpAny_of_seq (ops.drop n) n listed a' _ (fun j => by rw [List.getElem?_drop]; simp) (by rw [hd]; exact hL.1) hL.2) _ _ _ H
  rw [ht, show n + (ops.toArray.size - n) = ops.toArray.size by omega] at H2
  exact H2
end Go.Proofs.Ythblpcmmeajhkaa

/- The program's iterator over blocks (scan): a range over a function: what a round keeps, the maker, the contract. -/
namespace Go.Proofs.Ythblpcmmeajhkaa
open Go.BigFrame
open Go.RowKit Go.Proofs.Ythblpcmmeajhkaa.Plain

attribute [local go_sem] Oper.semAt_some

/-- what a round keeps: all blocks below N, but G -/
structure KeepsBut (N G : Nat) (W W' : World) : Prop where
  os : W'.os = W.os
  tape : W'.tape = W.tape
  output : W'.output = W.output
  size : W.heap.size ≤ W'.heap.size
  block : ∀ b, b < N → b ≠ G → W'.heap[b]? = W.heap[b]?
theorem KeepsBut.refl (N G : Nat) (W : World) : KeepsBut N G W W := ⟨rfl, rfl, rfl, Nat.le_refl _, fun _ _ _ => rfl⟩
theorem KeepsBut.trans {N G : Nat} {A B C : World} (h : KeepsBut N G A B) (k : KeepsBut N G B C) : KeepsBut N G A C :=
  ⟨k.os.trans h.os, k.tape.trans h.tape, k.output.trans h.output, Nat.le_trans h.size k.size, fun b hb hg => (k.block b hb hg).trans (h.block b hb hg)⟩
theorem KeepsBut.grown {N G : Nat} {W W' : World} {row : Option Nat} (hN : N ≤ W.heap.size) (hg : W.grownBy W' row) (hr : ∀ r, row = some r → N ≤ r ∨ r = G) : KeepsBut N G W W' :=
  ⟨hg.os, hg.tape, hg.output, hg.size, fun b hb hG => hg.block b (by omega) (fun e => by rcases hr b e.symm with h | h <;> omega)⟩
theorem KeepsBut.below {N G : Nat} {W W' : World} (h : Below N W W') : KeepsBut N G W W' := ⟨h.os, h.tape, h.output, h.size, fun b hb _ => h.block b hb⟩
theorem KeepsBut.ext {N G : Nat} {w W W' : World} (hE : Ext w W) (h : KeepsBut N G W W') (hN : w.heap.size ≤ N) (hG : w.heap.size ≤ G) : Ext w W' :=
  ⟨h.os.trans hE.os, h.tape.trans hE.tape, h.output.trans hE.output, Nat.le_trans hE.size h.size, fun b hb => (h.block b (by omega) (by omega)).trans (hE.block b hb)⟩
theorem cell_of_heap {W W' : World} {a : Addr} {v : Value} (h : W'.heap[a.block]? = W.heap[a.block]?) (hc : W.cell? a = some v) : W'.cell? a = some v := by
  rw [← hc]
  unfold World.cell?
  rw [h]
theorem KeepsBut.cell {N G : Nat} {W W' : World} (h : KeepsBut N G W W') {a : Addr} {v : Value} (hc : W.cell? a = some v) (hb : a.block < N) (hG : a.block ≠ G) : W'.cell? a = some v :=
  cell_of_heap (h.block _ hb hG) hc
theorem KeepsBut.rd {α : Type} {K : Kd α} {N G : Nat} {W W' : World} (h : KeepsBut N G W W') {A : Option Addr} {n c : Nat} {xs : List α} (hr : Rd K W (.slice A n c) xs) (hb : ∀ a, A = some a → a.block < N ∧ a.block ≠ G) : Rd K W' (.slice A n c) xs := by
  obtain ⟨h1, h2, A', cap, hv, hcap, h3⟩ := hr
  cases hv
  refine ⟨h1, h2, A, c, rfl, hcap, fun hl => ?_⟩
  obtain ⟨b, off, rfl, hcc⟩ := h3 hl
  exact ⟨b, off, rfl, fun j hj i u hu => h.cell (hcc j hj i u hu) (hb _ rfl).1 (hb _ rfl).2⟩

set_option maxHeartbeats 400000 in
theorem sblocks0_any (Ao : Option Addr) (k co n : Nat) (bI : Int) (w : World) :
    Calls Try.prog 29 #[.slice Ao k co, .int .i64 n, .int .i64 bI] w fun ed w' =>
      ed = .returned (.func (.func 34) #[] #[.pointer (some ⟨w.heap.size, 0, none⟩), .pointer (some ⟨w.heap.size + 1 + 1, 0, none⟩), .pointer (some ⟨w.heap.size + 1, 0, none⟩)]) ∧
      w' = ((w.alloc (.cells #[.slice Ao k co] 47)).alloc (.cells #[.int .i64 n] 3)).alloc (.cells #[.int .i64 bI] 3) := by
  have hmf : ∀ (fn : Fn) (first cap : Array Value) (w : World), (Instr.makeFunc fn first cap).run Try.prog w = .ok (.func fn first cap) w := fun _ _ _ _ => rfl
  go_enter Try.func29, Try.ntmps29
  go_wp2_with fail
  go_ret
  exact ⟨rfl, rfl⟩

/-- what comes of a block: its number, its span -/
def spanV (n B u : Nat) : Array Value := #[.int .i64 u, .agg #[.int .i64 (u * B : Nat), .int .i64 (min ((u + 1) * B) n : Nat)]]
set_option maxHeartbeats 2000000 in
set_option maxRecDepth 100000 in
theorem siter_in (l k n B N G b0 b1 b2 co : Nat) (bI : Int) (os : List Nat) (Ao : Option Addr) (J Jx : List (Fin k) → World → Prop) (hn : n ≤ 1000) (hB : B ≤ 100) (hk : k ≤ 1000) (hos : ∀ u ∈ os, u < k)
    (hY : ∀ pre x W1, J pre W1 → pre.length < os.length → YieldAt Fence.wide 0 Try.prog l (spanV n B x.1) W1 fun e W' =>
      (e = .returned (.bool true) ∧ J (pre ++ [x]) W' ∧ KeepsBut N G W1 W') ∨ (e = .returned (.bool false) ∧ Jx (pre ++ [x]) W'))
    (W : World) (hb0 : b0 < N ∧ b0 ≠ G) (hb1 : b1 < N ∧ b1 ≠ G) (hb2 : b2 < N ∧ b2 ≠ G) (c0 : W.cell? ⟨b0, 0, none⟩ = some (.slice Ao os.length co)) (c1 : W.cell? ⟨b1, 0, none⟩ = some (.int .i64 bI)) (hbI : os ≠ [] → bI = B) (c2 : W.cell? ⟨b2, 0, none⟩ = some (.int .i64 n))
    (hA : Rd kInt W (.slice Ao os.length co) (zs os)) (hfar : ∀ a, Ao = some a → a.block < N ∧ a.block ≠ G) (h0 : J [] W) :
    CallsIn Fence.wide 1 Try.prog 34 #[.func (.yield l) #[] #[], .pointer (some ⟨b0, 0, none⟩), .pointer (some ⟨b1, 0, none⟩), .pointer (some ⟨b2, 0, none⟩)] W fun e W' => (∃ v, e = .returned v) ∧
      ((∃ ys : List (Fin k), ys.map Fin.val = os ∧ J ys W') ∨ (∃ pre, True ∧ Jx pre W')) := by
  have HA := Lib.hid hA
  have HFAR := Lib.hid hfar
  have HOS := Lib.hid hos
  have HY := Lib.hid hY
  have HJ0 := Lib.hid h0
  have HBI := Lib.hid hbI
  have HCS := Lib.hid (And.intro c0 (And.intro c1 c2))
  have HNB := Lib.hid (And.intro hb0 (And.intro hb1 hb2))
  have hol : (os.length : Int) ≤ 9223372036854775807 := by have := hA.1; rw [zs_len] at this; unfold maxLen at this; omega
  clear hA hfar hos hY h0 hb0 hb1 hb2 hbI
  refine callsIn_of_wp Try.func34 rfl trivial ?_ rfl
  simp only [Try.ntmps34, List.size_toArray, List.length_cons, List.length_nil, Nat.reduceAdd, Nat.reduceSub, Array.replicate_succ, Array.replicate_zero, List.push_toArray, List.append_toArray, List.nil_append, List.cons_append]
  gi_wp2
  gi_loopw [9] (fun i wr => ∃ (j : Nat) (pre : List (Fin k)), j ≤ os.length ∧ i = .int .i64 j ∧ pre.map Fin.val = os.take j ∧ J pre wr ∧ KeepsBut N G W wr) (fun i _ => os.length - (intOf i).toNat)
  case atStart => exact ⟨0, [], Nat.zero_le _, rfl, by simp, HJ0.out, KeepsBut.refl _ _ _⟩
  case round =>
    obtain ⟨j, pre, hj, rfl, hpre, hJ, hX⟩ := hrel
    have HX := Lib.hid hX
    have HPRE := Lib.hid hpre
    have HJ := Lib.hid hJ
    have hj0 : (0 : Int) ≤ j := by omega
    have q1 := hX.cell HCS.out.2.1 HNB.out.2.1.1 HNB.out.2.1.2
    have q2 := hX.cell HCS.out.2.2 HNB.out.2.2.1 HNB.out.2.2.2
    clear hX hpre hJ c0 c1 c2
    by_cases hlt : j < os.length
    · have hlt' : (j : Int) < os.length := by omega
      rw [HBI.out (by intro e; rw [e] at hlt; simp at hlt)] at q1
      obtain ⟨bo, oo, rfl, hco⟩ := (ints_of_rd (HX.out.rd HA.out HFAR.out)).cells (by rw [zs_len]; omega)
      have z0 := hco j (by rw [zs_len]; exact hlt)
      rw [zs_getD] at z0
      have hmem : os.getD j 0 ∈ os := by rw [List.getD_eq_getElem?_getD, List.getElem?_eq_getElem hlt]; exact List.getElem_mem hlt
      have hun := HOS.out _ hmem
      have hpl : pre.length = j := by have := congrArg List.length HPRE.out; rw [List.length_map, List.length_take] at this; omega
      have htk : os.take (j + 1) = os.take j ++ [os.getD j 0] := takeN_snoc hlt
      obtain ⟨fn, tmps, assign, body, hy, hR⟩ := HY.out pre ⟨os.getD j 0, hun⟩ wr HJ.out (by omega)
      have hnext : (pre ++ [(⟨os.getD j 0, hun⟩ : Fin k)]).map Fin.val = os.take (j + 1) := by rw [List.map_append, HPRE.out, htk]; rfl
      have HNEXT := Lib.hid hnext
      unfold spanV at hy
      dsimp only at hy
      have hub : os.getD j 0 * B ≤ 1000 * 100 := Nat.mul_le_mul (by omega) hB
      have hub2 : (os.getD j 0 + 1) * B ≤ 1000 * 100 := Nat.mul_le_mul (by omega) hB
      have e1 : ((os.getD j 0 : Nat) : Int) * (B : Int) = ((os.getD j 0 * B : Nat) : Int) := by simp
      have e2 : (((os.getD j 0 : Nat) : Int) + 1) * (B : Int) = (((os.getD j 0 + 1) * B : Nat) : Int) := by simp
      obtain ⟨p, hp⟩ : ∃ p, os.getD j 0 * B = p := ⟨_, rfl⟩
      obtain ⟨q, hq⟩ : ∃ q, (os.getD j 0 + 1) * B = q := ⟨_, rfl⟩
      rw [hp] at hy e1 hub
      rw [hq] at hy e2 hub2
      obtain ⟨u, hu⟩ : ∃ u, os.getD j 0 = u := ⟨_, rfl⟩
      rw [hu] at z0 hy e1 e2 hun
      have HR := Lib.hid hR
      have hu2 : (u : Int) ≤ 1000 := by omega
      have hu0 : (0 : Int) ≤ u := by omega
      have hp0 : (0 : Int) ≤ p := by omega
      have hp1 : (p : Int) ≤ 100000 := by omega
      have hq0 : (0 : Int) ≤ q := by omega
      have hq1 : (q : Int) ≤ 100000 := by omega
      clear hp hq hu htk hmem hnext hR hub hub2 hco
      rcases Nat.lt_trichotomy q n with hqn | rfl | hqn
      · have hqn' : (q : Int) < n := by omega
        rw [Nat.min_eq_left (by omega)] at hy
        gi_wp2
        refine HR.out.mono ?_
        rintro e W3 (⟨rfl, hJ3, hk3⟩ | ⟨rfl, hJx3⟩)
        · gi_wp2
          go_roundw
          case rel => exact ⟨j + 1, _, by omega, by go_num, HNEXT.out, hJ3, HX.out.trans hk3⟩
          case measure => simp [intOf]; omega
        · gi_wp2
          refine bodyPost_ret (results_none rfl _ _ _) rfl ?_
          exact ⟨⟨_, rfl⟩, .inr ⟨_, trivial, hJx3⟩⟩
      · rw [Nat.min_self] at hy
        gi_wp2
        refine HR.out.mono ?_
        rintro e W3 (⟨rfl, hJ3, hk3⟩ | ⟨rfl, hJx3⟩)
        · gi_wp2
          go_roundw
          case rel => exact ⟨j + 1, _, by omega, by go_num, HNEXT.out, hJ3, HX.out.trans hk3⟩
          case measure => simp [intOf]; omega
        · gi_wp2
          refine bodyPost_ret (results_none rfl _ _ _) rfl ?_
          exact ⟨⟨_, rfl⟩, .inr ⟨_, trivial, hJx3⟩⟩
      · have hqn' : (n : Int) < q := by omega
        rw [Nat.min_eq_right (by omega)] at hy
        gi_wp2
        refine HR.out.mono ?_
        rintro e W3 (⟨rfl, hJ3, hk3⟩ | ⟨rfl, hJx3⟩)
        · gi_wp2
          go_roundw
          case rel => exact ⟨j + 1, _, by omega, by go_num, HNEXT.out, hJ3, HX.out.trans hk3⟩
          case measure => simp [intOf]; omega
        · gi_wp2
          refine bodyPost_ret (results_none rfl _ _ _) rfl ?_
          exact ⟨⟨_, rfl⟩, .inr ⟨_, trivial, hJx3⟩⟩
    · obtain rfl : j = os.length := by omega
      gi_wp2
      go_end0
      exact ⟨⟨_, rfl⟩, .inl ⟨pre, by rw [HPRE.out, List.take_length], HJ.out⟩⟩
end Go.Proofs.Ythblpcmmeajhkaa

/- A range over the blocks (scan): the law for its two callers. -/
namespace Go.Proofs.Ythblpcmmeajhkaa
open Go.BigFrame
open Go.RowKit Go.Shelf Go.Proofs.Ythblpcmmeajhkaa.Plain

theorem siter_stops (n B k co G b0 b1 b2 : Nat) (bI : Int) (os : List Nat) (Ao : Option Addr) (w : World) (hn : n ≤ 1000) (hB : B ≤ 100) (hk : k ≤ 1000) (hos : ∀ u ∈ os, u < k)
    (hb0 : b0 ≠ G) (hb1 : b1 ≠ G) (hb2 : b2 ≠ G) (c0 : w.cell? ⟨b0, 0, none⟩ = some (.slice Ao os.length co)) (c1 : w.cell? ⟨b1, 0, none⟩ = some (.int .i64 bI)) (hbI : os ≠ [] → bI = B) (c2 : w.cell? ⟨b2, 0, none⟩ = some (.int .i64 n))
    (hA : Rd kInt w (.slice Ao os.length co) (zs os)) (hfar : ∀ a, Ao = some a → a.block < w.heap.size ∧ a.block ≠ G) :
    SeqStopsK Fence.wide 1 Try.prog 34 #[.pointer (some ⟨b0, 0, none⟩), .pointer (some ⟨b1, 0, none⟩), .pointer (some ⟨b2, 0, none⟩)] (fun x : Fin k => spanV n B x.1) (KeepsBut w.heap.size G)
      (fun ys => ys.map Fin.val = os) (fun _ => True) os.length w := fun l J Jx W hW _ _ hY h0 =>
  siter_in l k n B w.heap.size G b0 b1 b2 co bI os Ao J Jx hn hB hk hos hY W ⟨World.block_lt_of_cell? _ _ c0, hb0⟩ ⟨World.block_lt_of_cell? _ _ c1, hb1⟩ ⟨World.block_lt_of_cell? _ _ c2, hb2⟩
    (Ext.cell hW c0) (Ext.cell hW c1) hbI (Ext.cell hW c2) (hA.ext hW) hfar h0

/-- how a round's body is left -/
def BodyDone (R : World → Prop) : Exit → Act → World → Prop
  | .normal, _, W => R W
  | _, _, _ => False
theorem BodyDone.no (R : World → Prop) : ¬ LetsOut (BodyDone R) := fun ⟨_, _, h⟩ => h
/-- the slots with which a round begins -/
def roundAct (a : Act) (p1 p2 d1 d2 : Tmp) (u p q Bx : Nat) : Act :=
  { tmps := (((a.tmps.setIfInBounds p1 (.int .i64 u)).setIfInBounds p2 (.agg #[.int .i64 p, .int .i64 q])).setIfInBounds d1 (.int .i64 u)).setIfInBounds d2 (.pointer (some ⟨Bx, 0, none⟩)), defers := [] }
theorem range_blocks {g : Operand} {p1 p2 : Tmp} (d1 d2 : Tmp) {assign body : Code} {Q : Exit → Act → World → Prop} {a : Act} {w : World} (G B0 n B k co c9 m b0 b1 b2 : Nat) (bI : Int) (os : List Nat) (Ao : Option Addr) (F : List Nat → List Nat)
    (hg : a.eval g = .func (.func 34) #[] #[.pointer (some ⟨b0, 0, none⟩), .pointer (some ⟨b1, 0, none⟩), .pointer (some ⟨b2, 0, none⟩)])
    (hn : n ≤ 1000) (hB : B ≤ 100) (hk : k ≤ 1000) (hos : ∀ u ∈ os, u < k)
    (hb0 : b0 ≠ G) (hb1 : b1 ≠ G) (hb2 : b2 ≠ G) (c0 : w.cell? ⟨b0, 0, none⟩ = some (.slice Ao os.length co)) (c1 : w.cell? ⟨b1, 0, none⟩ = some (.int .i64 bI)) (hbI : os ≠ [] → bI = B) (c2 : w.cell? ⟨b2, 0, none⟩ = some (.int .i64 n))
    (hA : Rd kInt w (.slice Ao os.length co) (zs os)) (hfar : ∀ a, Ao = some a → a.block < w.heap.size ∧ a.block ≠ G) (hM : Ow kU32 B0 w (.slice (some ⟨G, 0, none⟩) m c9) (zs (F []))) (hG : G < w.heap.size)
    (hassign : ∀ (l : Nat) (u p q : Nat) (W : World) (K : Act → World → Prop), (∀ Bx W', Ext W W' → KeepsOthers W W' → W.heap.size ≤ Bx → W'.cell? ⟨Bx, 0, none⟩ = some (.int .i64 p) → W'.cell? ⟨Bx, 1, none⟩ = some (.int .i64 q) → K (roundAct a p1 p2 d1 d2 u p q Bx) W') →
      assign.wpIn (Fence.wide.inRound l) 0 Try.prog (Exit.then K (fun _ _ _ => False)) { tmps := (a.tmps.setIfInBounds p1 (.int .i64 u)).setIfInBounds p2 (.agg #[.int .i64 p, .int .i64 q]), defers := [] } W)
    (hbody : ∀ (l : Nat) (pre : List Nat) (u p q Bx : Nat) (W : World), u < k → p = u * B → q = min ((u + 1) * B) n → pre.length < os.length → Ow kU32 B0 W (.slice (some ⟨G, 0, none⟩) m c9) (zs (F pre)) → KeepsBut w.heap.size G w W → w.heap.size ≤ Bx → W.cell? ⟨Bx, 0, none⟩ = some (.int .i64 p) → W.cell? ⟨Bx, 1, none⟩ = some (.int .i64 q) →
      body.wpIn (Fence.wide.inRound l) 0 Try.prog (BodyDone fun W' => W.grownBy W' (some G) ∧ Ow kU32 B0 W' (.slice (some ⟨G, 0, none⟩) m c9) (zs (F (pre ++ [u])))) (roundAct a p1 p2 d1 d2 u p q Bx) W)
    (hdone : ∀ (D : Nat) (W : World), w.heap.size ≤ D → Ow kU32 B0 W (.slice (some ⟨G, 0, none⟩) m c9) (zs (F os)) → KeepsBut w.heap.size G w W → W.heap[D]? = some (.deferred (some [])) → Q .normal { a with defers := { target := .collected D, args := #[] } :: a.defers } W) :
    (Code.rangeFunc g #[p1, p2] assign body).wp Try.prog Q a w := by
  refine (wpIn_wide (n := 2)).1 ?_
  have hIO : OwnFrom w.heap.size (fun (pre : List (Fin k)) W => Ow kU32 B0 W (.slice (some ⟨G, 0, none⟩) m c9) (zs (F (pre.map Fin.val))) ∧ KeepsBut w.heap.size G w W) := fun s A C row hs hg hr =>
    ⟨hs.1.kept hg (.inr fun e => by have h9 : w.heap.size ≤ G := (hr _ e.symm).1; omega), hs.2.trans (KeepsBut.grown hs.2.size hg (fun r e => .inl (hr r e).1))⟩
  refine wpIn_rangeFunc_ownH rfl (by decide) (gf := 34) hg trivial (enters_of Try.func34 (by kernel_rfl) rfl)
    (siter_stops n B k co G b0 b1 b2 bI os Ao w hn hB hk hos hb0 hb1 hb2 c0 c1 hbI c2 hA hfar) KeepsBut.trans
    (fun W l o o' hl h ho _ => KeepsBut.grown (by have := (Array.getElem?_eq_some_iff.1 h).1; omega) (grownBy_putObj' W l o') (fun r e => by cases e; exact .inl hl)) (Below.refl _ _) (fun _ => rfl)
    (fun pre W => Ow kU32 B0 W (.slice (some ⟨G, 0, none⟩) m c9) (zs (F (pre.map Fin.val))) ∧ KeepsBut w.heap.size G w W) (fun _ _ _ => False) hIO (fun _ _ _ _ _ hs _ _ => hs) ⟨hM, KeepsBut.refl _ _ _⟩
    (fun x a' W => ∃ Bx, w.heap.size ≤ Bx ∧ a' = roundAct a p1 p2 d1 d2 x.1 (x.1 * B) (min ((x.1 + 1) * B) n) Bx ∧ W.cell? ⟨Bx, 0, none⟩ = some (.int .i64 (x.1 * B : Nat)) ∧ W.cell? ⟨Bx, 1, none⟩ = some (.int .i64 (min ((x.1 + 1) * B) n : Nat)))
    (fun x a' _ A C row hs hg hr => by
      obtain ⟨Bx, e1, e2, e3, e4⟩ := hs
      exact ⟨Bx, e1, e2, cell_kept e3 hg (fun r e => (hr r e).2), cell_kept e4 hg (fun r e => (hr r e).2)⟩)
    ?assign ?body ?done ?stop
  case assign =>
    intro l pre x W K hI hK
    have h9 := hassign l x.1 (x.1 * B) (min ((x.1 + 1) * B) n) W K
    suffices h8 : _ by simpa [spanV] using h9 h8
    intro Bx W' hE hKO hBx h1 h2
    have hsz := hI.2.size
    exact hK _ _ (hKO.from _) (KeepsBut.below (Below.mono hE hsz)) ⟨hI.1.ext hE, hI.2.trans (KeepsBut.below (Below.mono hE hsz))⟩ ⟨Bx, by omega, rfl, h1, h2⟩
  case body =>
    rintro l pre x a' W hl - ⟨hO, hX⟩ ⟨Bx, hBx, rfl, h1, h2⟩ hlen
    refine wpIn_mono (hbody l (pre.map Fin.val) x.1 _ _ Bx W x.2 rfl rfl (by rw [List.length_map]; exact hlen) hO hX hBx h1 h2) ?_
    intro e a3 W3 h3
    cases e with
    | normal =>
      obtain ⟨hg3, hO3⟩ := h3
      have hkb : KeepsBut w.heap.size G W W3 := KeepsBut.grown hX.size hg3 (fun r e => by cases e; exact .inr rfl)
      exact ⟨KeepsFrom.of_grownBy hg3 (fun j e => by cases e; exact hG), hkb, by rw [List.map_append]; exact hO3, hX.trans hkb⟩
    | _ => exact h3.elim
  case done =>
    rintro D ys W hD hys ⟨hO, hX⟩ hK
    rw [hys] at hO
    exact hdone D W hD hO hX hK
  case stop =>
    rintro D c pre W _ _ h _
    exact h.elim
end Go.Proofs.Ythblpcmmeajhkaa
