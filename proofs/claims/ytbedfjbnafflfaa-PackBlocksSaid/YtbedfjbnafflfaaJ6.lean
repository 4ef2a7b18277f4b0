/- Joined by wip/merge.py: R6B, R6C, R7A, R7B, R7C, R7D, S8P, S8R, S8S, S8T, P9P, P9R, P9S, P9T, S8C, S8L, F7P. -/
import Derived.Test.YtbedfjbnafflfaaJ5
import Derived.Deep.RegionHeld3
import Derived.Deep.RegionLaw
import Derived.BigRegion
import Derived.BigQuiet
import Derived.Deep.DeepCutAuto
import Derived.Laws.BitsAllLaws
import Derived.IntWalk
import Derived.Deep.RegionLawGrows
import Derived.Deep.QuietTactic
set_option linter.unusedVariables false
set_option linter.unusedSimpArgs false
set_option linter.unnecessarySimpa false
/- The document's Whole (ref06). -/
namespace Go.Proofs.Ytbedfjbnafflfaa
open Go.BigFrame
open Go.RowKit Go.Proofs.Ytbedfjbnafflfaa.Plain

def R6Q (w0 : World) (row : Option Nat) (cv ve vo : Value) (B : Nat) (evs : List Ev) (ev : Ev) : Nat → World → List Value → Value → Prop
  | 0, w, ds, v => v = cv
  | 1, w, ds, v => v = vo
  | 2, w, ds, v => v = ve
  | 3, w, ds, v => OneAt kEv w0.heap.size w v ev
  | 4, w, ds, v => AppAt kEv B w v (evs ++ [ev]) vo w0.heap.size
  | _, _, _, _ => True
theorem R6Q_ext (w0 : World) (row : Option Nat) (cv ve vo : Value) (B : Nat) (evs : List Ev) (ev : Ev) : ∀ i w w' ds v, R6Q w0 row cv ve vo B evs ev i w ds v → Ext w w' → R6Q w0 row cv ve vo B evs ev i w' ds v
  | 0, _, _, _, _, h, _ => h
  | 1, _, _, _, _, h, _ => h
  | 2, _, _, _, _, h, _ => h
  | 3, _, _, _, _, h, hE => OneAt.ext h hE
  | 4, _, _, _, _, h, hE => h.ext hE
  | _ + 5, _, _, _, _, _, _ => trivial
theorem R6Q_sw (w0 : World) (row : Option Nat) (cv ve vo : Value) (B : Nat) (evs : List Ev) (ev : Ev) (hrow : ∀ b, row = some b → b < w0.heap.size) : ∀ i w w' ds v, i ≠ 4 → R6Q w0 row cv ve vo B evs ev i w ds v → Wr row w w' → R6Q w0 row cv ve vo B evs ev i w' ds v
  | 0, _, _, _, _, _, h, _ => h
  | 1, _, _, _, _, _, h, _ => h
  | 2, _, _, _, _, _, h, _ => h
  | 3, _, _, _, _, _, h, hE => OneAt.sw h hE hrow
  | 4, _, _, _, _, hq, _, _ => absurd rfl hq
  | _ + 5, _, _, _, _, _, _, _ => trivial
section
variable (w0 : World) (row : Option Nat) (cv ve vo : Value) (B : Nat) (evs : List Ev) (ev : Ev) (w : World) (ds : List Value) (v : Value)
theorem R6Q_i0 (h : v = cv) : R6Q w0 row cv ve vo B evs ev 0 w ds v := h
theorem R6Q_e0 (h : R6Q w0 row cv ve vo B evs ev 0 w ds v) : v = cv := h
theorem R6Q_i1 (h : v = vo) : R6Q w0 row cv ve vo B evs ev 1 w ds v := h
theorem R6Q_e1 (h : R6Q w0 row cv ve vo B evs ev 1 w ds v) : v = vo := h
theorem R6Q_i2 (h : v = ve) : R6Q w0 row cv ve vo B evs ev 2 w ds v := h
theorem R6Q_e2 (h : R6Q w0 row cv ve vo B evs ev 2 w ds v) : v = ve := h
theorem R6Q_i3 (h : OneAt kEv w0.heap.size w v ev) : R6Q w0 row cv ve vo B evs ev 3 w ds v := h
theorem R6Q_e3 (h : R6Q w0 row cv ve vo B evs ev 3 w ds v) : OneAt kEv w0.heap.size w v ev := h
theorem R6Q_i4 (h : AppAt kEv B w v (evs ++ [ev]) vo w0.heap.size) : R6Q w0 row cv ve vo B evs ev 4 w ds v := h
theorem R6Q_e4 (h : R6Q w0 row cv ve vo B evs ev 4 w ds v) : AppAt kEv B w v (evs ++ [ev]) vo w0.heap.size := h
end

theorem Plain.untilP_over (g m : Nat) (c : Cw) (l : List (Int × Int)) (h : c.over = true) : untilP g m c l = (c, []) := by
  cases l with
  | nil => rfl
  | cons x l => unfold untilP; rw [if_pos h]
theorem Plain.untilP_next (g m k : Nat) (c : Cw) (l : List (Int × Int)) (hk : k < l.length) (h : c.over = false) : untilP g m c (l.drop k) = ((untilP g m (stepP g m c (l.getD k (0, 0)).1 (l.getD k (0, 0)).2).1 (l.drop (k + 1))).1, (stepP g m c (l.getD k (0, 0)).1 (l.getD k (0, 0)).2).2 :: (untilP g m (stepP g m c (l.getD k (0, 0)).1 (l.getD k (0, 0)).2).1 (l.drop (k + 1))).2) := by
  rw [List.drop_eq_getElem_cons hk, List.getD_eq_getElem?_getD, List.getElem?_eq_getElem hk]
  conv => lhs; unfold untilP
  rw [if_neg (by rw [h]; decide)]
  rfl
/-- what stands, k picks on -/
structure U6At (w0 : World) (V g n m : Nat) (picks : List (Int × Int)) (k : Nat) (v : Value) (wr : World) (c : Cw) (evs : List Ev) (A B : Option Addr) (e0 a b e : Nat) : Prop where
  me : m ≤ e
  box : wr.heap[V]? = some (.cells #[.slice A c.ts.length a, .int .i64 g, .slice B c.dn.length b, .slice (some ⟨e0, 0, none⟩) m e, .bool c.over, .int .i64 c.st, .int .i64 c.id] 60)
  cr : CrewO (fun x => x = w0.heap.size ∨ x = V ∨ v.ownBlock = some x) wr m c A B e0 0 a b
  own : Ow kEv (V + 1) wr v evs
  been : Been g n m c evs
  eq : untilP g m (beginC n m) picks = ((untilP g m c (picks.drop k)).1, evs ++ (untilP g m c (picks.drop k)).2)
  len : evs.length ≤ k
  res : wr.heap[w0.heap.size]? = some (.cells #[.slice none 0 0, .int .i64 0, .slice none 0 0, .slice none 0 0, .bool false, .int .i64 0, .int .i64 0] 60)
  ext : Ext w0 wr
  vl : w0.heap.size < V
theorem block_of_grown {w w' : World} {row : Option Nat} (hg : w.grownBy w' row) {b : Nat} {o : Obj} (h : w.heap[b]? = some o) (hne : some b ≠ row) : w'.heap[b]? = some o :=
  (hg.block b (block_lt h) hne).trans h
theorem rstep5_to (A B : Option Addr) (eb eo a b e g n m : Nat) (c c' : Cw) (ev : Ev) (ov : Bool) (done : Nat) (G : List Nat) (p q : Int) (w : World) (hov : c.over = ov) (hr : stepP g m c p q = (c', ev)) (h : CrewAt w m c A B eb eo a b) (me : m ≤ e) (hI : CwI g n m c done G)
    (n1 : 1 ≤ n) (n2 : n ≤ 900) (g1 : 1 ≤ g) (g2 : g ≤ 100) (m1 : 1 ≤ m) (m2 : m ≤ 8) (hst : c.st < 100000) (hid : c.id < 100000) (hp : in64 p) (hq : in64 q) :
    Calls Try.prog 45 #[.agg #[.slice A c.ts.length a, .int .i64 g, .slice B c.dn.length b, .slice (some ⟨eb, eo, none⟩) m e, .bool ov, .int .i64 c.st, .int .i64 c.id], .int .i64 p, .int .i64 q] w fun ed w' =>
      ∃ (A' B' : Option Addr) (e0 a' b' q' : Nat), m ≤ q' ∧ ed = .returned (.tuple #[crewV A' B' e0 0 a' b' q' g m c', evV ev, .int .i64 0]) ∧ CrewO (fun x => x < w.heap.size) w' m c' A' B' e0 0 a' b' ∧ Ext w w' := by
  subst hov
  have h9 := rstep5_any A B eb eo a b e g n m c done G p q w h me hI n1 n2 g1 g2 m1 m2 hst hid hp hq
  rw [hr] at h9
  exact h9.mono fun _ _ hh => hh
/-- behind a step -/
def StepCut6 (wr : World) (g m : Nat) (c : Cw) (ev : Ev) (x e f : Value) (wx : World) : Prop :=
  ∃ (X Y : Nat) (A B : Option Addr) (e0 a b q : Nat), m ≤ q ∧ x = .pointer (some ⟨X, 0, none⟩) ∧ e = .pointer (some ⟨Y, 0, none⟩) ∧ f = .int .i64 0 ∧ Boxed wx X Y A B e0 a b q g m c ev ∧ CrewO (fun b => b < wr.heap.size) wx m c A B e0 0 a b ∧ wr.heap.size ≤ X ∧ wr.heap.size ≤ Y ∧ Ext wr wx

set_option maxHeartbeats 3200000 in
set_option maxRecDepth 100000 in
theorem rwhole_any (n g m : Nat) (Ap : Option Addr) (cp : Nat) (picks : List (Int × Int)) (w : World) (hp : Rd kPk w (.slice Ap picks.length cp) picks) (n1 : 1 ≤ n) (n2 : n ≤ 900) (g1 : 1 ≤ g) (g2 : g ≤ 100) (m1 : 1 ≤ m) (m2 : m ≤ 8) (hl : picks.length ≤ 4000) :
    Calls Try.prog 32 #[.int .i64 n, .int .i64 g, .int .i64 m, .slice Ap picks.length cp] w (R6Said (fun _ => False) g m (wholeP g n m picks) w) := by
  have HP := Lib.hid hp
  clear hp
  have hl' : (picks.length : Int) ≤ 4000 := by omega
  go_enter Try.func32, Try.ntmps32
  go_wp2_with fail
  refine (rbegin5_any n g m _ n1 (by omega) g1 g2 m1 m2).mono ?_
  obtain ⟨c0, hc0⟩ : ∃ x, beginC n m = x := ⟨_, rfl⟩
  rintro ed w2 ⟨A0, B0, e0, a0, b0, rfl, hC, hE⟩
  rw [hc0] at hC ⊢
  have hres := block_keep (heap_alloc_new w (.cells #[.slice none 0 0, .int .i64 0, .slice none 0 0, .slice none 0 0, .bool false, .int .i64 0, .int .i64 0] 60)) hE
  have HRS := Lib.hid hres
  have hz := hE.size
  simp at hz
  have HX2 := Lib.hid (((Ext.refl w).alloc _).trans hE)
  obtain ⟨V, hV⟩ : ∃ V, w2.heap.size = V := ⟨_, rfl⟩
  have HU0 : Hid (U6At w V g n m picks 0 (.slice none 0 0) (w2.alloc (.cells #[.slice A0 c0.ts.length a0, .int .i64 g, .slice B0 c0.dn.length b0, .slice (some ⟨e0, 0, none⟩) m m, .bool c0.over, .int .i64 c0.st, .int .i64 c0.id] 60)) c0 [] A0 B0 e0 a0 b0 m) := Lib.hid ⟨Nat.le_refl _, by rw [← hV]; exact heap_alloc_new w2 _, hC.later m1 (Grew.of ((Ext.refl _).alloc _)) (fun x hx hT => by
      rcases hT with hT | hT | hT
      · simp; omega
      · omega
      · cases hT), Ow.nil _ _, by rw [← hc0]; exact Been.begin g n m n1 m1, by rw [hc0]; simp, Nat.le_refl _, block_keep hres ((Ext.refl _).alloc _), HX2.out.trans ((Ext.refl _).alloc _), by omega⟩
  go_upto_region 2 with fail
  clear hC hE hres hz hV
  generalize (w2.alloc (.cells #[.slice A0 c0.ts.length a0, .int .i64 g, .slice B0 c0.dn.length b0, .slice (some ⟨e0, 0, none⟩) m m, .bool c0.over, .int .i64 c0.st, .int .i64 c0.id] 60)) = w5 at *
  go_wp2_with fail
  go_loopw [13, 14] (fun v i wr => ∃ k : Nat, k ≤ picks.length ∧ i = .int .i64 k ∧ ∃ (c1 : Cw) (evs : List Ev) (A1 B1 : Option Addr) (e0 a1 b1 e1 : Nat), U6At w V g n m picks k v wr c1 evs A1 B1 e0 a1 b1 e1) (fun _ i _ => picks.length - (intOf i).toNat)
  case atStart => exact ⟨0, Nat.zero_le _, rfl, _, _, _, _, _, _, _, _, HU0.out⟩
  case round =>
    obtain ⟨k, hk, rfl, c1, evs, A1, B1, e1, a1, b1, q1, hD⟩ := hrel
    have HD := Lib.hid hD
    have hk0 : (0 : Int) ≤ k := by omega
    have k0 : wr.cell? ⟨V, 0, none⟩ = some (.slice A1 c1.ts.length a1) := (cell_of_row wr (V) 0 _ _ _ hD.box).trans rfl
    have k1 : wr.cell? ⟨V, 1, none⟩ = some (.int .i64 g) := (cell_of_row wr (V) 1 _ _ _ hD.box).trans rfl
    have k2 : wr.cell? ⟨V, 2, none⟩ = some (.slice B1 c1.dn.length b1) := (cell_of_row wr (V) 2 _ _ _ hD.box).trans rfl
    have k3 : wr.cell? ⟨V, 3, none⟩ = some (.slice (some ⟨e1, 0, none⟩) m q1) := (cell_of_row wr (V) 3 _ _ _ hD.box).trans rfl
    have k4 : wr.cell? ⟨V, 4, none⟩ = some (.bool c1.over) := (cell_of_row wr (V) 4 _ _ _ hD.box).trans rfl
    have k5 : wr.cell? ⟨V, 5, none⟩ = some (.int .i64 c1.st) := (cell_of_row wr (V) 5 _ _ _ hD.box).trans rfl
    have k6 : wr.cell? ⟨V, 6, none⟩ = some (.int .i64 c1.id) := (cell_of_row wr (V) 6 _ _ _ hD.box).trans rfl
    have kf := fun o => frozen_of_row wr (V) o _ _ hD.box
    clear hD
    have hex : ∀ (h : k < picks.length → c1.over = true), untilP g m (beginC n m) picks = (c1, evs) := fun h => by
      have h9 := HD.out.eq
      rcases Nat.lt_or_ge k picks.length with h8 | h8
      · rw [untilP_over _ _ _ _ (h h8), List.append_nil] at h9; exact h9
      · rw [List.drop_eq_nil_of_le h8] at h9
        simpa [untilP] using h9
    by_cases hlt : k < picks.length
    · have hlt' : (k : Int) < picks.length := by omega
      cases hov : c1.over with
      | true =>
        have hU := hex (fun _ => hov)
        have k4o := k4
        rw [hov] at k4
        go_upto_region 12 with fail
        obtain ⟨N, hN⟩ : ∃ N, m * cntT n g = N := ⟨_, rfl⟩
        have hW : wholeP g n m picks = ((drainP g m N 0 c1).1, evs ++ (drainP g m N 0 c1).2) := by unfold wholeP; rw [hU, hN]
        obtain ⟨dn, hI⟩ := HD.out.been.inv
        have hcn := (hI.counts g1 n1).2.2.1
        have hNl : N ≤ 14400 := by
          have h1 : m * cntT n g ≤ 8 * 1800 := Nat.mul_le_mul m2 (by omega)
          omega
        have hov9 : (drainP g m N 0 c1).1.over = true := by have := (whole_ends g1 n1 m1 picks).1; rw [hW] at this; exact this
        have hel := HD.out.len
        have hst := HD.out.been.st
        have hid := HD.out.been.id
        have hee : (drainP g m N 0 c1).2.length ≤ 60000 := by
          have h1 := (whole_ends g1 n1 m1 picks).2.2.1
          rw [hW] at h1
          simp only [List.length_append] at h1
          have h2 : m * (cntT n g + 1) ≤ 8 * 1801 := Nat.mul_le_mul m2 (by omega)
          omega
        obtain ⟨Ao, co, hv, hco⟩ := HD.out.own.slice
        obtain ⟨no, hno⟩ : ∃ no, evs.length = no := ⟨_, rfl⟩
        rw [hno] at hv hco
        subst hv
        have hrlt : ∀ x, Value.ownBlock (.slice Ao no co) = some x → V + 1 ≤ x ∧ x < wr.heap.size := fun x hx => HD.out.own.lt x hx
        have HRL := Lib.hid hrlt
        have HW := Lib.hid hW
        have HO9 := Lib.hid (And.intro hov9 (And.intro hel (And.intro hst (And.intro hid hee))))
        have HII := Lib.hid hI
        have lV := block_lt HD.out.box
        have lR := block_lt HD.out.res
        have vl := HD.out.vl
        have HS : Hid (∀ x, (x = w.heap.size ∨ x = V ∨ Value.ownBlock (.slice Ao no co) = some x) → x < wr.heap.size) := Lib.hid (fun x hx => by
          rcases hx with rfl | rfl | hx
          · exact lR
          · exact lV
          · exact (hrlt x hx).2)
        have HNL := Lib.hid hNl
        clear hN hW hI hcn hNl hov9 hel hst hid hco hno hrlt hee
        clear k4 hov
        have k4 := k4o
        clear k4o
        go_wp2_with fail
        have hh := rdrain_any (fun x => x = w.heap.size ∨ x = V ∨ Value.ownBlock (.slice Ao no co) = some x) A1 B1 e1 0 a1 b1 q1 g n m N c1 wr HS.out HD.out.cr HD.out.me ⟨_, _, HII.out⟩ n1 n2 g1 g2 m1 m2 (by have := HO9.out; have := HNL.out; omega) (by have := HO9.out; have := HNL.out; omega) (by have := HNL.out; omega) HO9.out.1
        refine hh.mono ?_
        clear hh
        have HEE : Hid ((drainP g m N 0 c1).2.length ≤ 60000) := Lib.hid HO9.out.2.2.2.2
        obtain ⟨⟨c5, ds⟩, hr⟩ : ∃ x, drainP g m N 0 c1 = x := ⟨_, rfl⟩
        rw [hr] at HEE ⊢
        have hW2 := HW.out
        rw [hr] at hW2
        have HW2 := Lib.hid hW2
        rintro ed w6 ⟨A5, B5, L5, e5, o5, a5, b5, q5, l5, hq5, rfl, hC5, hO5, hE6⟩
        simp only at hC5 hO5
        have hbV := block_keep HD.out.box hE6
        have hbR := block_keep HD.out.res hE6
        have hz6 := hE6.size
        have z0 : w6.cell? ⟨V, 0, none⟩ = some (.slice A1 c1.ts.length a1) := (cell_of_row w6 (V) 0 _ _ _ hbV).trans rfl
        have z1 : w6.cell? ⟨V, 1, none⟩ = some (.int .i64 g) := (cell_of_row w6 (V) 1 _ _ _ hbV).trans rfl
        have z2 : w6.cell? ⟨V, 2, none⟩ = some (.slice B1 c1.dn.length b1) := (cell_of_row w6 (V) 2 _ _ _ hbV).trans rfl
        have z3 : w6.cell? ⟨V, 3, none⟩ = some (.slice (some ⟨e1, 0, none⟩) m q1) := (cell_of_row w6 (V) 3 _ _ _ hbV).trans rfl
        have z4 : w6.cell? ⟨V, 4, none⟩ = some (.bool c1.over) := (cell_of_row w6 (V) 4 _ _ _ hbV).trans rfl
        have z5 : w6.cell? ⟨V, 5, none⟩ = some (.int .i64 c1.st) := (cell_of_row w6 (V) 5 _ _ _ hbV).trans rfl
        have z6 : w6.cell? ⟨V, 6, none⟩ = some (.int .i64 c1.id) := (cell_of_row w6 (V) 6 _ _ _ hbV).trans rfl
        have zf := fun o => frozen_of_row w6 (V) o _ _ hbV
        have HC5 := Lib.hid (And.intro hq5 hC5)
        have HO5 := Lib.hid hO5
        have HE6 := Lib.hid hE6
        have HBV := Lib.hid (set_box7 hbV (.slice A5 c5.ts.length a5) (.int .i64 g) (.slice B5 c5.dn.length b5) (.slice (some ⟨e5, o5, none⟩) m q5) (.bool c5.over) (.int .i64 c5.st) (.int .i64 c5.id))
        have lV6 : V < w6.heap.size := by omega
        clear hr hW2 hC5 hO5 hE6 hq5 hbV k0 k1 k2 k3 k4 k5 k6 kf
        go_upto_region 13 with fail
        have hGV : Grew (fun x => x = V) w6 ((((((((w6.setCell ⟨V, 0, none⟩ (.slice A5 c5.ts.length a5)).setCell ⟨V, 1, none⟩ (.int .i64 g)).setCell ⟨V, 2, none⟩ (.slice B5 c5.dn.length b5)).setCell ⟨V, 3, none⟩ (.slice (some ⟨e5, o5, none⟩) m q5)).setCell ⟨V, 4, none⟩ (.bool c5.over)).setCell ⟨V, 5, none⟩ (.int .i64 c5.st)).setCell ⟨V, 6, none⟩ (.int .i64 c5.id))) := (Grew.setCell (S := fun x => x = V) (p := ⟨V, 6, none⟩) (Grew.setCell (S := fun x => x = V) (p := ⟨V, 5, none⟩) (Grew.setCell (S := fun x => x = V) (p := ⟨V, 4, none⟩) (Grew.setCell (S := fun x => x = V) (p := ⟨V, 3, none⟩) (Grew.setCell (S := fun x => x = V) (p := ⟨V, 2, none⟩) (Grew.setCell (S := fun x => x = V) (p := ⟨V, 1, none⟩) (Grew.setCell (S := fun x => x = V) (p := ⟨V, 0, none⟩) (Grew.refl _ _) rfl _) rfl _) rfl _) rfl _) rfl _) rfl _) rfl _)
        have HBR : Hid (((((((((w6.setCell ⟨V, 0, none⟩ (.slice A5 c5.ts.length a5)).setCell ⟨V, 1, none⟩ (.int .i64 g)).setCell ⟨V, 2, none⟩ (.slice B5 c5.dn.length b5)).setCell ⟨V, 3, none⟩ (.slice (some ⟨e5, o5, none⟩) m q5)).setCell ⟨V, 4, none⟩ (.bool c5.over)).setCell ⟨V, 5, none⟩ (.int .i64 c5.st)).setCell ⟨V, 6, none⟩ (.int .i64 c5.id))).heap[w.heap.size]? = some (.cells #[.slice none 0 0, .int .i64 0, .slice none 0 0, .slice none 0 0, .bool false, .int .i64 0, .int .i64 0] 60)) := Lib.hid (block_wr hbR hGV (by omega))
        have HC7 : Hid (CrewO (fun x => x = w.heap.size ∨ x = V ∨ Value.ownBlock (.slice Ao no co) = some x) ((((((((w6.setCell ⟨V, 0, none⟩ (.slice A5 c5.ts.length a5)).setCell ⟨V, 1, none⟩ (.int .i64 g)).setCell ⟨V, 2, none⟩ (.slice B5 c5.dn.length b5)).setCell ⟨V, 3, none⟩ (.slice (some ⟨e5, o5, none⟩) m q5)).setCell ⟨V, 4, none⟩ (.bool c5.over)).setCell ⟨V, 5, none⟩ (.int .i64 c5.st)).setCell ⟨V, 6, none⟩ (.int .i64 c5.id))) m c5 A5 B5 e5 o5 a5 b5) := Lib.hid (HC5.out.2.grew (hGV.mono (fun x _ hx => .inr (.inl hx))))
        have HO7 : Hid (Ow kEv (V + 1) ((((((((w6.setCell ⟨V, 0, none⟩ (.slice A5 c5.ts.length a5)).setCell ⟨V, 1, none⟩ (.int .i64 g)).setCell ⟨V, 2, none⟩ (.slice B5 c5.dn.length b5)).setCell ⟨V, 3, none⟩ (.slice (some ⟨e5, o5, none⟩) m q5)).setCell ⟨V, 4, none⟩ (.bool c5.over)).setCell ⟨V, 5, none⟩ (.int .i64 c5.st)).setCell ⟨V, 6, none⟩ (.int .i64 c5.id))) (.slice Ao no co) evs) := Lib.hid ((HD.out.own.ext HE6.out).grew hGV (fun x hx e => by have := (HRL.out x hx).1; omega))
        have HY7 : Hid (Rd kEv ((((((((w6.setCell ⟨V, 0, none⟩ (.slice A5 c5.ts.length a5)).setCell ⟨V, 1, none⟩ (.int .i64 g)).setCell ⟨V, 2, none⟩ (.slice B5 c5.dn.length b5)).setCell ⟨V, 3, none⟩ (.slice (some ⟨e5, o5, none⟩) m q5)).setCell ⟨V, 4, none⟩ (.bool c5.over)).setCell ⟨V, 5, none⟩ (.int .i64 c5.st)).setCell ⟨V, 6, none⟩ (.int .i64 c5.id))) (.slice L5 ds.length l5) ds) := Lib.hid (HO5.out.grew hGV (fun x hx e => by have := (HO5.out.lt x hx).1; omega)).rd
        have HE7 : Hid (Ext w ((((((((w6.setCell ⟨V, 0, none⟩ (.slice A5 c5.ts.length a5)).setCell ⟨V, 1, none⟩ (.int .i64 g)).setCell ⟨V, 2, none⟩ (.slice B5 c5.dn.length b5)).setCell ⟨V, 3, none⟩ (.slice (some ⟨e5, o5, none⟩) m q5)).setCell ⟨V, 4, none⟩ (.bool c5.over)).setCell ⟨V, 5, none⟩ (.int .i64 c5.st)).setCell ⟨V, 6, none⟩ (.int .i64 c5.id)))) := Lib.hid (hGV.toExt (HD.out.ext.trans HE6.out) (fun x hx => by omega))
        have hz7 : w6.heap.size = ((((((((w6.setCell ⟨V, 0, none⟩ (.slice A5 c5.ts.length a5)).setCell ⟨V, 1, none⟩ (.int .i64 g)).setCell ⟨V, 2, none⟩ (.slice B5 c5.dn.length b5)).setCell ⟨V, 3, none⟩ (.slice (some ⟨e5, o5, none⟩) m q5)).setCell ⟨V, 4, none⟩ (.bool c5.over)).setCell ⟨V, 5, none⟩ (.int .i64 c5.st)).setCell ⟨V, 6, none⟩ (.int .i64 c5.id))).heap.size := by simp
        generalize (((((((w6.setCell ⟨V, 0, none⟩ (.slice A5 c5.ts.length a5)).setCell ⟨V, 1, none⟩ (.int .i64 g)).setCell ⟨V, 2, none⟩ (.slice B5 c5.dn.length b5)).setCell ⟨V, 3, none⟩ (.slice (some ⟨e5, o5, none⟩) m q5)).setCell ⟨V, 4, none⟩ (.bool c5.over)).setCell ⟨V, 5, none⟩ (.int .i64 c5.st)).setCell ⟨V, 6, none⟩ (.int .i64 c5.id)) = w7 at *
        clear hbR z0 z1 z2 z3 z4 z5 z6 zf hGV
        have x0 : w7.cell? ⟨V, 0, none⟩ = some (.slice A5 c5.ts.length a5) := (cell_of_row w7 (V) 0 _ _ _ HBV.out).trans rfl
        have x1 : w7.cell? ⟨V, 1, none⟩ = some (.int .i64 g) := (cell_of_row w7 (V) 1 _ _ _ HBV.out).trans rfl
        have x2 : w7.cell? ⟨V, 2, none⟩ = some (.slice B5 c5.dn.length b5) := (cell_of_row w7 (V) 2 _ _ _ HBV.out).trans rfl
        have x3 : w7.cell? ⟨V, 3, none⟩ = some (.slice (some ⟨e5, o5, none⟩) m q5) := (cell_of_row w7 (V) 3 _ _ _ HBV.out).trans rfl
        have x4 : w7.cell? ⟨V, 4, none⟩ = some (.bool c5.over) := (cell_of_row w7 (V) 4 _ _ _ HBV.out).trans rfl
        have x5 : w7.cell? ⟨V, 5, none⟩ = some (.int .i64 c5.st) := (cell_of_row w7 (V) 5 _ _ _ HBV.out).trans rfl
        have x6 : w7.cell? ⟨V, 6, none⟩ = some (.int .i64 c5.id) := (cell_of_row w7 (V) 6 _ _ _ HBV.out).trans rfl
        have xf := fun o => frozen_of_row w7 (V) o _ _ HBV.out
        have y0 : w7.cell? ⟨w.heap.size, 0, none⟩ = some (.slice none 0 0) := (cell_of_row w7 (w.heap.size) 0 _ _ _ HBR.out).trans rfl
        have y1 : w7.cell? ⟨w.heap.size, 1, none⟩ = some (.int .i64 0) := (cell_of_row w7 (w.heap.size) 1 _ _ _ HBR.out).trans rfl
        have y2 : w7.cell? ⟨w.heap.size, 2, none⟩ = some (.slice none 0 0) := (cell_of_row w7 (w.heap.size) 2 _ _ _ HBR.out).trans rfl
        have y3 : w7.cell? ⟨w.heap.size, 3, none⟩ = some (.slice none 0 0) := (cell_of_row w7 (w.heap.size) 3 _ _ _ HBR.out).trans rfl
        have y4 : w7.cell? ⟨w.heap.size, 4, none⟩ = some (.bool false) := (cell_of_row w7 (w.heap.size) 4 _ _ _ HBR.out).trans rfl
        have y5 : w7.cell? ⟨w.heap.size, 5, none⟩ = some (.int .i64 0) := (cell_of_row w7 (w.heap.size) 5 _ _ _ HBR.out).trans rfl
        have y6 : w7.cell? ⟨w.heap.size, 6, none⟩ = some (.int .i64 0) := (cell_of_row w7 (w.heap.size) 6 _ _ _ HBR.out).trans rfl
        have yf := fun o => frozen_of_row w7 (w.heap.size) o _ _ HBR.out
        have lV7 : V < w7.heap.size := by omega
        have lR7 : w.heap.size < w7.heap.size := by omega
        have HLL : Hid (evs.length + ds.length ≤ 1048576) := Lib.hid (by have := HO9.out.2.1; have := HEE.out; omega)
        have nRV : ¬ w.heap.size = V := by omega
        go_region_law (first
          | (refine kEv.step_app (by rfl) (.tmp 74) (.tmp 75) (by rfl) (by rfl) (V + 1) _ evs (by rfl) (HO7.out.ext (Ext.refl _).drew) _ ds (by rfl) (HY7.out.ext (Ext.refl _).drew) HLL.out (by simp; omega) ?_
             intro v8 w8 hown8 hgrow8 hat8
             have HA8 := Lib.hid (And.intro hown8 (And.intro hgrow8 hat8))
             have gV := block_of_grown hgrow8 (block_keep HBV.out (Ext.refl _).drew) (fun e => by have := (HRL.out _ e.symm).1; omega)
             have gR := block_of_grown hgrow8 (block_keep HBR.out (Ext.refl _).drew) (fun e => by have := (HRL.out _ e.symm).1; omega)
             have gz := hgrow8.size
             simp at gz
             have lV8 : V < w8.heap.size := by omega
             have lR8 : w.heap.size < w8.heap.size := by omega
             have p0 : w8.cell? ⟨V, 0, none⟩ = some (.slice A5 c5.ts.length a5) := (cell_of_row w8 (V) 0 _ _ _ gV).trans rfl
             have p1 : w8.cell? ⟨V, 1, none⟩ = some (.int .i64 g) := (cell_of_row w8 (V) 1 _ _ _ gV).trans rfl
             have p2 : w8.cell? ⟨V, 2, none⟩ = some (.slice B5 c5.dn.length b5) := (cell_of_row w8 (V) 2 _ _ _ gV).trans rfl
             have p3 : w8.cell? ⟨V, 3, none⟩ = some (.slice (some ⟨e5, o5, none⟩) m q5) := (cell_of_row w8 (V) 3 _ _ _ gV).trans rfl
             have p4 : w8.cell? ⟨V, 4, none⟩ = some (.bool c5.over) := (cell_of_row w8 (V) 4 _ _ _ gV).trans rfl
             have p5 : w8.cell? ⟨V, 5, none⟩ = some (.int .i64 c5.st) := (cell_of_row w8 (V) 5 _ _ _ gV).trans rfl
             have p6 : w8.cell? ⟨V, 6, none⟩ = some (.int .i64 c5.id) := (cell_of_row w8 (V) 6 _ _ _ gV).trans rfl
             have pf := fun o => frozen_of_row w8 (V) o _ _ gV
             have r0 : w8.cell? ⟨w.heap.size, 0, none⟩ = some (.slice none 0 0) := (cell_of_row w8 (w.heap.size) 0 _ _ _ gR).trans rfl
             have r1 : w8.cell? ⟨w.heap.size, 1, none⟩ = some (.int .i64 0) := (cell_of_row w8 (w.heap.size) 1 _ _ _ gR).trans rfl
             have r2 : w8.cell? ⟨w.heap.size, 2, none⟩ = some (.slice none 0 0) := (cell_of_row w8 (w.heap.size) 2 _ _ _ gR).trans rfl
             have r3 : w8.cell? ⟨w.heap.size, 3, none⟩ = some (.slice none 0 0) := (cell_of_row w8 (w.heap.size) 3 _ _ _ gR).trans rfl
             have r4 : w8.cell? ⟨w.heap.size, 4, none⟩ = some (.bool false) := (cell_of_row w8 (w.heap.size) 4 _ _ _ gR).trans rfl
             have r5 : w8.cell? ⟨w.heap.size, 5, none⟩ = some (.int .i64 0) := (cell_of_row w8 (w.heap.size) 5 _ _ _ gR).trans rfl
             have r6 : w8.cell? ⟨w.heap.size, 6, none⟩ = some (.int .i64 0) := (cell_of_row w8 (w.heap.size) 6 _ _ _ gR).trans rfl
             have rf := fun o => frozen_of_row w8 (w.heap.size) o _ _ gR
             clear hown8 hgrow8 hat8 gV gR gz x0 x1 x2 x3 x4 x5 x6 xf y0 y1 y2 y3 y4 y5 y6 yf))
        all_goals go_wp2_with fail
        all_goals
          obtain ⟨hown8, hgrow8, hat8⟩ := HA8.out
          obtain ⟨Lz, cz, hvz, hcz⟩ := hown8.slice
          subst hvz
          have hGR : Grew (fun x => x = w.heap.size) w8 ((((((((w8.setCell ⟨w.heap.size, 0, none⟩ (.slice A5 c5.ts.length a5)).setCell ⟨w.heap.size, 1, none⟩ (.int .i64 g)).setCell ⟨w.heap.size, 2, none⟩ (.slice B5 c5.dn.length b5)).setCell ⟨w.heap.size, 3, none⟩ (.slice (some ⟨e5, o5, none⟩) m q5)).setCell ⟨w.heap.size, 4, none⟩ (.bool c5.over)).setCell ⟨w.heap.size, 5, none⟩ (.int .i64 c5.st)).setCell ⟨w.heap.size, 6, none⟩ (.int .i64 c5.id))) := (Grew.setCell (S := fun x => x = w.heap.size) (p := ⟨w.heap.size, 6, none⟩) (Grew.setCell (S := fun x => x = w.heap.size) (p := ⟨w.heap.size, 5, none⟩) (Grew.setCell (S := fun x => x = w.heap.size) (p := ⟨w.heap.size, 4, none⟩) (Grew.setCell (S := fun x => x = w.heap.size) (p := ⟨w.heap.size, 3, none⟩) (Grew.setCell (S := fun x => x = w.heap.size) (p := ⟨w.heap.size, 2, none⟩) (Grew.setCell (S := fun x => x = w.heap.size) (p := ⟨w.heap.size, 1, none⟩) (Grew.setCell (S := fun x => x = w.heap.size) (p := ⟨w.heap.size, 0, none⟩) (Grew.refl _ _) rfl _) rfl _) rfl _) rfl _) rfl _) rfl _) rfl _)
          refine bodyPost_ret (v := .tuple #[crewV A5 B5 e5 o5 a5 b5 q5 g m c5, .slice Lz (evs ++ ds).length cz, .int .i64 0]) (by simp [results, Try.results32, go_sem]; go_simp) rfl ?_
          rw [HW2.out]
          refine ⟨A5, B5, Lz, e5, o5, a5, b5, q5, cz, HC5.out.1, rfl, ?_, ?_, ?_⟩
          · exact (((HC7.out.ext (Ext.refl _).drew).grew ((Wr.grown hgrow8).mono (fun x _ hx => .inr (.inr hx)))).grew (hGR.mono (fun x _ hx => .inl hx))).at_ m1
          · exact (hown8.grew hGR (fun x hx e => by have := (hown8.lt x hx).1; have := HD.out.vl; omega)).mono (by have := HD.out.vl; omega)
          · exact hGR.toExt (Wr.toExt (Wr.grown hgrow8) (HE7.out.trans (Ext.refl _).drew) (fun x hx => by have := (HRL.out x hx).1; have := HD.out.vl; omega)) (fun x hx => by omega)
      | false =>
        obtain ⟨bp, op, rfl, hcp⟩ := Rd.picks (HP.out.ext HD.out.ext) (by omega)
        obtain ⟨z0, z1⟩ := hcp k hlt
        have hok := HP.out.okAt k hlt
        obtain ⟨⟨p, q⟩, hpq⟩ : ∃ x, picks.getD k (0, 0) = x := ⟨_, rfl⟩
        rw [hpq] at z0 z1
        simp only at z0 z1
        have hpq2 : in64 p ∧ in64 q := by have e0 : picks.getD k kPk.d = (p, q) := hpq; rw [e0] at hok; exact hok
        have HPQ := Lib.hid hpq2
        have lbp : bp < wr.heap.size := World.block_lt_of_cell? _ _ z0
        obtain ⟨dn, hI⟩ := HD.out.been.inv
        have hbn := HD.out.been.step g1 m1 p q
        have hev := hI.evOk g1 n1 n2 m1 m2 p q
        have heq := HD.out.eq
        rw [untilP_next g m k c1 picks hlt hov, hpq] at heq
        obtain ⟨⟨c', ev⟩, hr⟩ : ∃ r, stepP g m c1 p q = r := ⟨_, rfl⟩
        simp only at heq
        rw [hr] at hbn hev heq
        have HBN := Lib.hid hbn
        have HOKE : Hid (kEv.ok ev) := Lib.hid hev
        have HEQ := Lib.hid heq
        have HR := Lib.hid hr
        have HI := Lib.hid hI
        have HOV := Lib.hid hov
        have HCA := Lib.hid (HD.out.cr.at_ m1)
        have HST : Hid (c1.st < 100000 ∧ c1.id < 100000) := Lib.hid (by have := HD.out.been.st; have := HD.out.been.id; have := HD.out.len; omega)
        have lV := block_lt HD.out.box
        have vl := HD.out.vl
        clear hcp hok hpq hpq2 hI hbn hev heq hr hov hex
        rw [HOV.out] at k4
        go_upto_region 8 with fail
        go_cut [15, 16, 17] (fun x e f wx => StepCut6 wr g m c' ev x e f wx)
        case first =>
          have KS : Hid (∀ w', Ext wr w' → w'.cell? ⟨V, 0, none⟩ = some (.slice A1 c1.ts.length a1) ∧ w'.cell? ⟨V, 1, none⟩ = some (.int .i64 g) ∧ w'.cell? ⟨V, 2, none⟩ = some (.slice B1 c1.dn.length b1) ∧ w'.cell? ⟨V, 3, none⟩ = some (.slice (some ⟨e1, 0, none⟩) m q1) ∧ w'.cell? ⟨V, 4, none⟩ = some (.bool false) ∧ w'.cell? ⟨V, 5, none⟩ = some (.int .i64 c1.st) ∧ w'.cell? ⟨V, 6, none⟩ = some (.int .i64 c1.id) ∧ w'.cell? ⟨bp, op + k * 2, none⟩ = some (.int .i64 p) ∧ w'.cell? ⟨bp, op + k * 2 + 1, none⟩ = some (.int .i64 q)) := Lib.hid fun w' hE => ⟨hE.cell k0, hE.cell k1, hE.cell k2, hE.cell k3, hE.cell k4, hE.cell k5, hE.cell k6, hE.cell z0, hE.cell z1⟩
          go_region_held3 (fun w' => w'.cell? ⟨V, 0, none⟩ = some (.slice A1 c1.ts.length a1) ∧ w'.cell? ⟨V, 1, none⟩ = some (.int .i64 g) ∧ w'.cell? ⟨V, 2, none⟩ = some (.slice B1 c1.dn.length b1) ∧ w'.cell? ⟨V, 3, none⟩ = some (.slice (some ⟨e1, 0, none⟩) m q1) ∧ w'.cell? ⟨V, 4, none⟩ = some (.bool false) ∧ w'.cell? ⟨V, 5, none⟩ = some (.int .i64 c1.st) ∧ w'.cell? ⟨V, 6, none⟩ = some (.int .i64 c1.id) ∧ w'.cell? ⟨bp, op + k * 2, none⟩ = some (.int .i64 p) ∧ w'.cell? ⟨bp, op + k * 2 + 1, none⟩ = some (.int .i64 q))
            (first | go_keep | exact KS.out _ (by repeat (first | (with_reducible exact Ext.refl _) | (with_reducible exact hX4) | (with_reducible refine Ext.drew ?_) | (with_reducible refine Ext.alloc ?_ _) | (with_reducible refine Ext.setCell ?_ (by first | (simp; done) | (simp; omega)) _))))
            (first
              | (go_at_call 45
                 refine (rstep5_to A1 B1 e1 0 a1 b1 q1 g n m c1 c' ev false dn _ p q _ HOV.out HR.out (HCA.out.ext (by repeat (first | (with_reducible exact Ext.refl _) | (with_reducible exact hX4) | (with_reducible refine Ext.drew ?_) | (with_reducible refine Ext.alloc ?_ _) | (with_reducible refine Ext.setCell ?_ (by first | (simp; done) | (simp; omega)) _)))) HD.out.me HI.out n1 n2 g1 g2 m1 m2 HST.out.1 HST.out.2 HPQ.out.1 HPQ.out.2).mono ?_
                 rintro ed w4 ⟨A', B', e0', a', b', q', hq', rfl, hC4, hE4⟩
                 obtain ⟨S4, hV4, hS4, hC6⟩ : ∃ S4 : Nat → Prop, (∀ b, b < wr.heap.size → S4 b) ∧ (∀ b, b < _ → S4 b) ∧ CrewO S4 w4 m c' A' B' e0' 0 a' b' := ⟨_, fun b h => by first | exact h | (simp; omega) | omega, fun b h1 => h1, hC4⟩
                 have hX4 : Ext wr w4 := Ext.trans (by repeat (first | (with_reducible exact Ext.refl _) | (with_reducible exact hX4) | (with_reducible refine Ext.drew ?_) | (with_reducible refine Ext.alloc ?_ _) | (with_reducible refine Ext.setCell ?_ (by first | (simp; done) | (simp; omega)) _))) hE4
                 have hz4 := hE4.size
                 simp at hz4
                 have lz4 : wr.heap.size ≤ w4.heap.size := by omega
                 try (have yc00 : w4.cell? ⟨wr.heap.size, 0, none⟩ = some (.slice none 0 0) := hE4.cell (by first | (go_simp; done) | fail)
                      have yc01 : w4.cell? ⟨wr.heap.size, 1, none⟩ = some (.int .i64 0) := hE4.cell (by first | (go_simp; done) | fail)
                      have yc02 : w4.cell? ⟨wr.heap.size, 2, none⟩ = some (.slice none 0 0) := hE4.cell (by first | (go_simp; done) | fail)
                      have yc03 : w4.cell? ⟨wr.heap.size, 3, none⟩ = some (.slice none 0 0) := hE4.cell (by first | (go_simp; done) | fail)
                      have yc04 : w4.cell? ⟨wr.heap.size, 4, none⟩ = some (.bool false) := hE4.cell (by first | (go_simp; done) | fail)
                      have yc05 : w4.cell? ⟨wr.heap.size, 5, none⟩ = some (.int .i64 0) := hE4.cell (by first | (go_simp; done) | fail)
                      have yc06 : w4.cell? ⟨wr.heap.size, 6, none⟩ = some (.int .i64 0) := hE4.cell (by first | (go_simp; done) | fail)
                      have yc0f : ∀ o, w4.frozen? ⟨wr.heap.size, o, none⟩ = false := fun o => (Below.frozen hE4 (p := ⟨wr.heap.size, o, none⟩) (by first | (simp; done) | (simp; omega) | fail)).trans (by first | (go_simp; done) | fail)
                      have yc0l : wr.heap.size < w4.heap.size := by omega)
                 try (have ye03 : w4.cell? ⟨wr.heap.size, 3, none⟩ = some (.bool false) := hE4.cell (by first | (go_simp; done) | fail)
                      have ye00 : w4.cell? ⟨wr.heap.size, 0, none⟩ = some (.int .i64 0) := hE4.cell (by first | (go_simp; done) | fail)
                      have ye01 : w4.cell? ⟨wr.heap.size, 1, none⟩ = some (.int .i64 0) := hE4.cell (by first | (go_simp; done) | fail)
                      have ye02 : w4.cell? ⟨wr.heap.size, 2, none⟩ = some (.int .i64 0) := hE4.cell (by first | (go_simp; done) | fail)
                      have ye0f : ∀ o, w4.frozen? ⟨wr.heap.size, o, none⟩ = false := fun o => (Below.frozen hE4 (p := ⟨wr.heap.size, o, none⟩) (by first | (simp; done) | (simp; omega) | fail)).trans (by first | (go_simp; done) | fail)
                      have ye0l : wr.heap.size < w4.heap.size := by omega)
                 try (have yc10 : w4.cell? ⟨wr.heap.size + 1, 0, none⟩ = some (.slice none 0 0) := hE4.cell (by first | (go_simp; done) | fail)
                      have yc11 : w4.cell? ⟨wr.heap.size + 1, 1, none⟩ = some (.int .i64 0) := hE4.cell (by first | (go_simp; done) | fail)
                      have yc12 : w4.cell? ⟨wr.heap.size + 1, 2, none⟩ = some (.slice none 0 0) := hE4.cell (by first | (go_simp; done) | fail)
                      have yc13 : w4.cell? ⟨wr.heap.size + 1, 3, none⟩ = some (.slice none 0 0) := hE4.cell (by first | (go_simp; done) | fail)
                      have yc14 : w4.cell? ⟨wr.heap.size + 1, 4, none⟩ = some (.bool false) := hE4.cell (by first | (go_simp; done) | fail)
                      have yc15 : w4.cell? ⟨wr.heap.size + 1, 5, none⟩ = some (.int .i64 0) := hE4.cell (by first | (go_simp; done) | fail)
                      have yc16 : w4.cell? ⟨wr.heap.size + 1, 6, none⟩ = some (.int .i64 0) := hE4.cell (by first | (go_simp; done) | fail)
                      have yc1f : ∀ o, w4.frozen? ⟨wr.heap.size + 1, o, none⟩ = false := fun o => (Below.frozen hE4 (p := ⟨wr.heap.size + 1, o, none⟩) (by first | (simp; done) | (simp; omega) | fail)).trans (by first | (go_simp; done) | fail)
                      have yc1l : wr.heap.size + 1 < w4.heap.size := by omega)
                 try (have ye13 : w4.cell? ⟨wr.heap.size + 1, 3, none⟩ = some (.bool false) := hE4.cell (by first | (go_simp; done) | fail)
                      have ye10 : w4.cell? ⟨wr.heap.size + 1, 0, none⟩ = some (.int .i64 0) := hE4.cell (by first | (go_simp; done) | fail)
                      have ye11 : w4.cell? ⟨wr.heap.size + 1, 1, none⟩ = some (.int .i64 0) := hE4.cell (by first | (go_simp; done) | fail)
                      have ye12 : w4.cell? ⟨wr.heap.size + 1, 2, none⟩ = some (.int .i64 0) := hE4.cell (by first | (go_simp; done) | fail)
                      have ye1f : ∀ o, w4.frozen? ⟨wr.heap.size + 1, o, none⟩ = false := fun o => (Below.frozen hE4 (p := ⟨wr.heap.size + 1, o, none⟩) (by first | (simp; done) | (simp; omega) | fail)).trans (by first | (go_simp; done) | fail)
                      have ye1l : wr.heap.size + 1 < w4.heap.size := by omega)
                ))
          all_goals
            go_wp2_with fail
            go_meet
            refine ⟨_, _, A', B', e0', a', b', q', hq', rfl, rfl, rfl, ⟨by go_simp, by go_simp, by go_simp, by go_simp, by go_simp, by go_simp, by go_simp, by go_simp, by go_simp, by go_simp, by go_simp⟩, ?_, (by first | (simp; done) | (simp; omega) | omega), (by first | (simp; done) | (simp; omega) | omega), (by repeat (first | (with_reducible exact Ext.refl _) | (with_reducible exact hX4) | (with_reducible refine Ext.drew ?_) | (with_reducible refine Ext.alloc ?_ _) | (with_reducible refine Ext.setCell ?_ (by first | (simp; done) | (simp; omega)) _)))⟩
            refine CrewO.mono (S := S4) ?_ m1 (fun b hb h => hV4 b h)
            repeat (first | (with_reducible exact hC6) | (with_reducible refine CrewO.setCell ?_ (hS4 _ (by first | (simp; done) | (simp; omega) | omega)) _) | (with_reducible refine CrewO.ext ?_ ((Ext.refl _).alloc _)) | (with_reducible refine CrewO.ext ?_ (Ext.refl _).drew))
        case rest =>
        obtain ⟨X, Y, A5, B5, e5, a5, b5, q5, hq5, rfl, rfl, rfl, hBx, hC5, hXl, hYl, hX⟩ := hcut
        generalize wc = w8 at *
        obtain ⟨x0, x1, x2, x3, x4, x5, x6, y0, y1, y2, y3⟩ := hBx
        have HE8 := Lib.hid hX
        have HC5 := Lib.hid (And.intro hq5 hC5)
        have HB8 := Lib.hid (block_keep HD.out.box hX)
        have hz8 := hX.size
        obtain ⟨Ao, co, hv, hco⟩ := HD.out.own.slice
        obtain ⟨no, hno⟩ : ∃ no, evs.length = no := ⟨_, rfl⟩
        rw [hno] at hv hco
        subst hv
        obtain ⟨row, hrw⟩ : ∃ row, Value.ownBlock (.slice Ao no co) = row := ⟨_, rfl⟩
        have hrlt : ∀ x, row = some x → V + 1 ≤ x ∧ x < wr.heap.size := fun x hx => HD.out.own.lt x (hrw.trans hx)
        have hrow : ∀ x, row = some x → x < w8.heap.size := fun x hx => by have := hrlt x hx; omega
        have nX : ¬ row = some X := fun hh => by have := hrlt _ hh; omega
        have nY : ¬ row = some Y := fun hh => by have := hrlt _ hh; omega
        have HRL := Lib.hid hrlt
        have HO8 : Hid (Ow kEv (V + 1) w8 (.slice Ao no co) evs) := Lib.hid (HD.out.own.ext hX)
        have HLL : Hid (evs.length + [ev].length ≤ 1048576) := Lib.hid (by have := HD.out.len; simp; omega)
        have HBS : Hid (V + 1 ≤ w8.heap.size) := Lib.hid (by omega)
        clear hno hco hrlt hC5 hX hq5
        go_upto_region 11 with fail
        refine MonoW.wp_region_write 5 4 (Wr row) (R6Q w8 row (.agg #[.slice A5 c'.ts.length a5, .int .i64 g, .slice B5 c'.dn.length b5, .slice (some ⟨e5, 0, none⟩) m q5, .bool c'.over, .int .i64 c'.st, .int .i64 c'.id]) (.agg #[.int .i64 ev.wk, .int .i64 ev.fr, .int .i64 ev.tk, .bool ev.pt]) (.slice Ao no co) (V + 1) evs ev) (by kernel_rfl) (by kernel_rfl) (Wr.of row) (Wr.tr row) (R6Q_ext w8 row (.agg #[.slice A5 c'.ts.length a5, .int .i64 g, .slice B5 c'.dn.length b5, .slice (some ⟨e5, 0, none⟩) m q5, .bool c'.over, .int .i64 c'.st, .int .i64 c'.id]) (.agg #[.int .i64 ev.wk, .int .i64 ev.fr, .int .i64 ev.tk, .bool ev.pt]) (.slice Ao no co) (V + 1) evs ev) (R6Q_sw w8 row (.agg #[.slice A5 c'.ts.length a5, .int .i64 g, .slice B5 c'.dn.length b5, .slice (some ⟨e5, 0, none⟩) m q5, .bool c'.over, .int .i64 c'.st, .int .i64 c'.id]) (.agg #[.int .i64 ev.wk, .int .i64 ev.fr, .int .i64 ev.tk, .bool ev.pt]) (.slice Ao no co) (V + 1) evs ev hrow) ?_ ?_
        · intro i o hi ho vals w5 hE hQ hcl
          have hi' : i = 0 ∨ i = 1 ∨ i = 2 ∨ i = 3 ∨ i = 4 := by omega
          rcases hi' with rfl | rfl | rfl | rfl | rfl
          · simp only [List.getElem?_cons_succ, List.getElem?_cons_zero, Option.some.injEq] at ho
            subst ho
            rw [if_pos (Mono.wanted_none rfl)]
            have l0 := hE.cell x0 nX
            have l1 := hE.cell x1 nX
            have l2 := hE.cell x2 nX
            have l3 := hE.cell x3 nX
            have l4 := hE.cell x4 nX
            have l5 := hE.cell x5 nX
            have l6 := hE.cell x6 nX
            clear hcl
            refine Mono.yields_same (.agg #[.slice A5 c'.ts.length a5, .int .i64 g, .slice B5 c'.dn.length b5, .slice (some ⟨e5, 0, none⟩) m q5, .bool c'.over, .int .i64 c'.st, .int .i64 c'.id]) w5 ?_ ⟨MonoW.Out.of (Wr.of row) (Ext.refl _), R6Q_i0 _ _ _ _ _ _ _ _ _ _ _ rfl⟩
            simp only [Mono.all, List.take, Act.put]
            go_simp
          · simp only [List.getElem?_cons_succ, List.getElem?_cons_zero, Option.some.injEq] at ho
            subst ho
            rw [if_pos (Mono.wanted_none rfl)]
            clear hcl
            refine Mono.yields_same (.slice Ao no co) w5 ?_ ⟨MonoW.Out.of (Wr.of row) (Ext.refl _), R6Q_i1 _ _ _ _ _ _ _ _ _ _ _ rfl⟩
            simp only [Mono.all, List.take, Act.put]
            go_simp
          · simp only [List.getElem?_cons_succ, List.getElem?_cons_zero, Option.some.injEq] at ho
            subst ho
            rw [if_pos (Mono.wanted_none rfl)]
            have l0 := hE.cell y0 nY
            have l1 := hE.cell y1 nY
            have l2 := hE.cell y2 nY
            have l3 := hE.cell y3 nY
            clear hcl
            refine Mono.yields_same (.agg #[.int .i64 ev.wk, .int .i64 ev.fr, .int .i64 ev.tk, .bool ev.pt]) w5 ?_ ⟨MonoW.Out.of (Wr.of row) (Ext.refl _), R6Q_i2 _ _ _ _ _ _ _ _ _ _ _ rfl⟩
            simp only [Mono.all, List.take, Act.put]
            go_simp
          · simp only [List.getElem?_cons_succ, List.getElem?_cons_zero, Option.some.injEq] at ho
            subst ho
            rw [if_pos (Mono.wanted_none rfl)]
            have h2 : vals 2 = .agg #[.int .i64 ev.wk, .int .i64 ev.fr, .int .i64 ev.tk, .bool ev.pt] := (R6Q_e2 _ _ _ _ _ _ _ _ _ _ _ (hcl 2 (by kernel_rfl)))
            clear hcl
            refine Mono.yields_same (.slice (some ⟨w5.heap.size, 0, none⟩) 1 1) (w5.alloc (.cells #[.int .i64 ev.wk, .int .i64 ev.fr, .int .i64 ev.tk, .bool ev.pt] kEv.e)) ?_ ⟨MonoW.Out.of (Wr.of row) ((Ext.refl _).alloc _), R6Q_i3 _ _ _ _ _ _ _ _ _ _ _ (OneAt.made kEv w5 hE.size _ _ rfl HOKE.out)⟩
            simp only [Mono.all, List.take, Act.put, kEv]
            go_simp
          · simp only [List.getElem?_cons_succ, List.getElem?_cons_zero, Option.some.injEq] at ho
            subst ho
            rw [if_pos (Mono.wanted_none rfl)]
            obtain ⟨p, h3, o3⟩ := (R6Q_e3 _ _ _ _ _ _ _ _ _ _ _ (hcl 3 (by kernel_rfl)))
            have h1 : vals 1 = .slice Ao no co := (R6Q_e1 _ _ _ _ _ _ _ _ _ _ _ (hcl 1 (by kernel_rfl)))
            have hX := hQ rfl
            clear hcl
            refine Kd.yields_grow kEv (B := V + 1) (n := w8.heap.size) (q := 4) (.tmp 63) (.tmp 65) (v := .slice Ao no co) (y := .slice (some ⟨p, 0, none⟩) 1 1) (xs := evs) (ys := [ev]) (HO8.out.ext hX) o3.rd HLL.out (Nat.le_trans HBS.out hX.size) hX.size rfl rfl (by rw [← h1]; kernel_rfl) (by rw [← h3]; kernel_rfl) ?_
            intro v' w' hA hO
            exact ⟨by rw [← hrw]; exact hO, R6Q_i4 _ _ _ _ _ _ _ _ _ _ _ hA⟩
        · intro vals w5 hE hv
          have hA := (R6Q_e4 _ _ _ _ _ _ _ _ _ _ _ (hv 4 (by omega)))
          have ee0 := (R6Q_e0 _ _ _ _ _ _ _ _ _ _ _ (hv 0 (by omega)))
          have ee3 := (R6Q_e3 _ _ _ _ _ _ _ _ _ _ _ (hv 3 (by omega)))
          have HA := Lib.hid hA
          have HG := Lib.hid hE
          have hbP : w5.heap[V]? = some (.cells #[.slice A1 c1.ts.length a1, .int .i64 g, .slice B1 c1.dn.length b1, .slice (some ⟨e1, 0, none⟩) m q1, .bool c1.over, .int .i64 c1.st, .int .i64 c1.id] 60) := block_wr HB8.out hE (fun hh => by have := (HRL.out _ hh).1; omega)
          have z0 : w5.cell? ⟨V, 0, none⟩ = some (.slice A1 c1.ts.length a1) := (cell_of_row w5 (V) 0 _ _ _ hbP).trans rfl
          have z1 : w5.cell? ⟨V, 1, none⟩ = some (.int .i64 g) := (cell_of_row w5 (V) 1 _ _ _ hbP).trans rfl
          have z2 : w5.cell? ⟨V, 2, none⟩ = some (.slice B1 c1.dn.length b1) := (cell_of_row w5 (V) 2 _ _ _ hbP).trans rfl
          have z3 : w5.cell? ⟨V, 3, none⟩ = some (.slice (some ⟨e1, 0, none⟩) m q1) := (cell_of_row w5 (V) 3 _ _ _ hbP).trans rfl
          have z4 : w5.cell? ⟨V, 4, none⟩ = some (.bool c1.over) := (cell_of_row w5 (V) 4 _ _ _ hbP).trans rfl
          have z5 : w5.cell? ⟨V, 5, none⟩ = some (.int .i64 c1.st) := (cell_of_row w5 (V) 5 _ _ _ hbP).trans rfl
          have z6 : w5.cell? ⟨V, 6, none⟩ = some (.int .i64 c1.id) := (cell_of_row w5 (V) 6 _ _ _ hbP).trans rfl
          have zf := fun o => frozen_of_row w5 (V) o _ _ hbP
          have lP := block_lt hbP
          have HBP := Lib.hid hbP
          clear hA hbP hE ee3
          simp only [Mono.all, List.take, List.drop, Act.put]
          go_wp2_with fail
          go_roundw
          case rel =>
            have hGP : Grew (fun x => x = V) w5 ((((((((w5.setCell ⟨V, 0, none⟩ (.slice A5 c'.ts.length a5)).setCell ⟨V, 1, none⟩ (.int .i64 g)).setCell ⟨V, 2, none⟩ (.slice B5 c'.dn.length b5)).setCell ⟨V, 3, none⟩ (.slice (some ⟨e5, 0, none⟩) m q5)).setCell ⟨V, 4, none⟩ (.bool c'.over)).setCell ⟨V, 5, none⟩ (.int .i64 c'.st)).setCell ⟨V, 6, none⟩ (.int .i64 c'.id))) := (Grew.setCell (S := fun x => x = V) (p := ⟨V, 6, none⟩) (Grew.setCell (S := fun x => x = V) (p := ⟨V, 5, none⟩) (Grew.setCell (S := fun x => x = V) (p := ⟨V, 4, none⟩) (Grew.setCell (S := fun x => x = V) (p := ⟨V, 3, none⟩) (Grew.setCell (S := fun x => x = V) (p := ⟨V, 2, none⟩) (Grew.setCell (S := fun x => x = V) (p := ⟨V, 1, none⟩) (Grew.setCell (S := fun x => x = V) (p := ⟨V, 0, none⟩) (Grew.refl _ _) rfl _) rfl _) rfl _) rfl _) rfl _) rfl _) rfl _)
            have hGr : Grew (fun x => x = V ∨ row = some x) w8 ((((((((w5.setCell ⟨V, 0, none⟩ (.slice A5 c'.ts.length a5)).setCell ⟨V, 1, none⟩ (.int .i64 g)).setCell ⟨V, 2, none⟩ (.slice B5 c'.dn.length b5)).setCell ⟨V, 3, none⟩ (.slice (some ⟨e5, 0, none⟩) m q5)).setCell ⟨V, 4, none⟩ (.bool c'.over)).setCell ⟨V, 5, none⟩ (.int .i64 c'.st)).setCell ⟨V, 6, none⟩ (.int .i64 c'.id))) := (Grew.mono HG.out (fun x _ hx => .inr hx)).trans (hGP.mono (fun x _ hx => .inl hx))
            refine ⟨k + 1, by omega, by go_num, c', evs ++ [ev], A5, B5, e5, a5, b5, q5, HC5.out.1, set_box7 HBP.out _ _ _ _ _ _ _, ?_, HA.out.1.grew hGP (fun x hx e => by have := (HA.out.1.lt x hx).1; omega), HBN.out, ?_, by have := HD.out.len; rw [List.length_append]; simp; omega, ?_, ?_, HD.out.vl⟩
            · refine HC5.out.2.later m1 (W := (((((((w5.setCell ⟨V, 0, none⟩ (.slice A5 c'.ts.length a5)).setCell ⟨V, 1, none⟩ (.int .i64 g)).setCell ⟨V, 2, none⟩ (.slice B5 c'.dn.length b5)).setCell ⟨V, 3, none⟩ (.slice (some ⟨e5, 0, none⟩) m q5)).setCell ⟨V, 4, none⟩ (.bool c'.over)).setCell ⟨V, 5, none⟩ (.int .i64 c'.st)).setCell ⟨V, 6, none⟩ (.int .i64 c'.id))) (hGr.mono (fun x hx hh => ?_)) (fun x hx hT => ?_)
              · rcases hh with hh | hh
                · omega
                · exact (HRL.out x hh).2
              · rcases hT with hT | hT | hT
                · omega
                · omega
                · rcases HA.out.2 with h9 | ⟨p', h9, h10⟩
                  · rw [h9, hrw] at hT
                    exact (HRL.out x hT).2
                  · rw [h9] at hT; cases hT; omega
            · rw [HEQ.out, List.append_assoc]; rfl
            · exact block_wr (block_keep HD.out.res HE8.out) hGr (fun hh => by
                rcases hh with hh | hh
                · omega
                · have := (HRL.out _ hh).1; omega)
            · exact hGr.toExt (HD.out.ext.trans HE8.out) (fun x hx => by
                rcases hx with hx | hx
                · omega
                · have := (HRL.out _ hx).1; omega)
          case measure => simp [intOf]; omega
    · have hlt' : ¬ (k : Int) < picks.length := by omega
      have hld : decide ((k : Int) < picks.length) = false := decide_eq_false hlt'
      have hU := hex (fun h => absurd h hlt)
      go_upto_region 12 with fail
      obtain ⟨N, hN⟩ : ∃ N, m * cntT n g = N := ⟨_, rfl⟩
      have hW : wholeP g n m picks = ((drainP g m N 0 c1).1, evs ++ (drainP g m N 0 c1).2) := by unfold wholeP; rw [hU, hN]
      obtain ⟨dn, hI⟩ := HD.out.been.inv
      have hcn := (hI.counts g1 n1).2.2.1
      have hNl : N ≤ 14400 := by
        have h1 : m * cntT n g ≤ 8 * 1800 := Nat.mul_le_mul m2 (by omega)
        omega
      have hov9 : (drainP g m N 0 c1).1.over = true := by have := (whole_ends g1 n1 m1 picks).1; rw [hW] at this; exact this
      have hel := HD.out.len
      have hst := HD.out.been.st
      have hid := HD.out.been.id
      have hee : (drainP g m N 0 c1).2.length ≤ 60000 := by
        have h1 := (whole_ends g1 n1 m1 picks).2.2.1
        rw [hW] at h1
        simp only [List.length_append] at h1
        have h2 : m * (cntT n g + 1) ≤ 8 * 1801 := Nat.mul_le_mul m2 (by omega)
        omega
      obtain ⟨Ao, co, hv, hco⟩ := HD.out.own.slice
      obtain ⟨no, hno⟩ : ∃ no, evs.length = no := ⟨_, rfl⟩
      rw [hno] at hv hco
      subst hv
      have hrlt : ∀ x, Value.ownBlock (.slice Ao no co) = some x → V + 1 ≤ x ∧ x < wr.heap.size := fun x hx => HD.out.own.lt x hx
      have HRL := Lib.hid hrlt
      have HW := Lib.hid hW
      have HO9 := Lib.hid (And.intro hov9 (And.intro hel (And.intro hst (And.intro hid hee))))
      have HII := Lib.hid hI
      have lV := block_lt HD.out.box
      have lR := block_lt HD.out.res
      have vl := HD.out.vl
      have HS : Hid (∀ x, (x = w.heap.size ∨ x = V ∨ Value.ownBlock (.slice Ao no co) = some x) → x < wr.heap.size) := Lib.hid (fun x hx => by
        rcases hx with rfl | rfl | hx
        · exact lR
        · exact lV
        · exact (hrlt x hx).2)
      have HNL := Lib.hid hNl
      clear hN hW hI hcn hNl hov9 hel hst hid hco hno hrlt hee
      go_wp2_with fail
      have hh := rdrain_any (fun x => x = w.heap.size ∨ x = V ∨ Value.ownBlock (.slice Ao no co) = some x) A1 B1 e1 0 a1 b1 q1 g n m N c1 wr HS.out HD.out.cr HD.out.me ⟨_, _, HII.out⟩ n1 n2 g1 g2 m1 m2 (by have := HO9.out; have := HNL.out; omega) (by have := HO9.out; have := HNL.out; omega) (by have := HNL.out; omega) HO9.out.1
      refine hh.mono ?_
      clear hh
      have HEE : Hid ((drainP g m N 0 c1).2.length ≤ 60000) := Lib.hid HO9.out.2.2.2.2
      obtain ⟨⟨c5, ds⟩, hr⟩ : ∃ x, drainP g m N 0 c1 = x := ⟨_, rfl⟩
      rw [hr] at HEE ⊢
      have hW2 := HW.out
      rw [hr] at hW2
      have HW2 := Lib.hid hW2
      rintro ed w6 ⟨A5, B5, L5, e5, o5, a5, b5, q5, l5, hq5, rfl, hC5, hO5, hE6⟩
      simp only at hC5 hO5
      have hbV := block_keep HD.out.box hE6
      have hbR := block_keep HD.out.res hE6
      have hz6 := hE6.size
      have z0 : w6.cell? ⟨V, 0, none⟩ = some (.slice A1 c1.ts.length a1) := (cell_of_row w6 (V) 0 _ _ _ hbV).trans rfl
      have z1 : w6.cell? ⟨V, 1, none⟩ = some (.int .i64 g) := (cell_of_row w6 (V) 1 _ _ _ hbV).trans rfl
      have z2 : w6.cell? ⟨V, 2, none⟩ = some (.slice B1 c1.dn.length b1) := (cell_of_row w6 (V) 2 _ _ _ hbV).trans rfl
      have z3 : w6.cell? ⟨V, 3, none⟩ = some (.slice (some ⟨e1, 0, none⟩) m q1) := (cell_of_row w6 (V) 3 _ _ _ hbV).trans rfl
      have z4 : w6.cell? ⟨V, 4, none⟩ = some (.bool c1.over) := (cell_of_row w6 (V) 4 _ _ _ hbV).trans rfl
      have z5 : w6.cell? ⟨V, 5, none⟩ = some (.int .i64 c1.st) := (cell_of_row w6 (V) 5 _ _ _ hbV).trans rfl
      have z6 : w6.cell? ⟨V, 6, none⟩ = some (.int .i64 c1.id) := (cell_of_row w6 (V) 6 _ _ _ hbV).trans rfl
      have zf := fun o => frozen_of_row w6 (V) o _ _ hbV
      have HC5 := Lib.hid (And.intro hq5 hC5)
      have HO5 := Lib.hid hO5
      have HE6 := Lib.hid hE6
      have HBV := Lib.hid (set_box7 hbV (.slice A5 c5.ts.length a5) (.int .i64 g) (.slice B5 c5.dn.length b5) (.slice (some ⟨e5, o5, none⟩) m q5) (.bool c5.over) (.int .i64 c5.st) (.int .i64 c5.id))
      have lV6 : V < w6.heap.size := by omega
      clear hr hW2 hC5 hO5 hE6 hq5 hbV k0 k1 k2 k3 k4 k5 k6 kf
      go_upto_region 13 with fail
      have hGV : Grew (fun x => x = V) w6 ((((((((w6.setCell ⟨V, 0, none⟩ (.slice A5 c5.ts.length a5)).setCell ⟨V, 1, none⟩ (.int .i64 g)).setCell ⟨V, 2, none⟩ (.slice B5 c5.dn.length b5)).setCell ⟨V, 3, none⟩ (.slice (some ⟨e5, o5, none⟩) m q5)).setCell ⟨V, 4, none⟩ (.bool c5.over)).setCell ⟨V, 5, none⟩ (.int .i64 c5.st)).setCell ⟨V, 6, none⟩ (.int .i64 c5.id))) := (Grew.setCell (S := fun x => x = V) (p := ⟨V, 6, none⟩) (Grew.setCell (S := fun x => x = V) (p := ⟨V, 5, none⟩) (Grew.setCell (S := fun x => x = V) (p := ⟨V, 4, none⟩) (Grew.setCell (S := fun x => x = V) (p := ⟨V, 3, none⟩) (Grew.setCell (S := fun x => x = V) (p := ⟨V, 2, none⟩) (Grew.setCell (S := fun x => x = V) (p := ⟨V, 1, none⟩) (Grew.setCell (S := fun x => x = V) (p := ⟨V, 0, none⟩) (Grew.refl _ _) rfl _) rfl _) rfl _) rfl _) rfl _) rfl _) rfl _)
      have HBR : Hid (((((((((w6.setCell ⟨V, 0, none⟩ (.slice A5 c5.ts.length a5)).setCell ⟨V, 1, none⟩ (.int .i64 g)).setCell ⟨V, 2, none⟩ (.slice B5 c5.dn.length b5)).setCell ⟨V, 3, none⟩ (.slice (some ⟨e5, o5, none⟩) m q5)).setCell ⟨V, 4, none⟩ (.bool c5.over)).setCell ⟨V, 5, none⟩ (.int .i64 c5.st)).setCell ⟨V, 6, none⟩ (.int .i64 c5.id))).heap[w.heap.size]? = some (.cells #[.slice none 0 0, .int .i64 0, .slice none 0 0, .slice none 0 0, .bool false, .int .i64 0, .int .i64 0] 60)) := Lib.hid (block_wr hbR hGV (by omega))
      have HC7 : Hid (CrewO (fun x => x = w.heap.size ∨ x = V ∨ Value.ownBlock (.slice Ao no co) = some x) ((((((((w6.setCell ⟨V, 0, none⟩ (.slice A5 c5.ts.length a5)).setCell ⟨V, 1, none⟩ (.int .i64 g)).setCell ⟨V, 2, none⟩ (.slice B5 c5.dn.length b5)).setCell ⟨V, 3, none⟩ (.slice (some ⟨e5, o5, none⟩) m q5)).setCell ⟨V, 4, none⟩ (.bool c5.over)).setCell ⟨V, 5, none⟩ (.int .i64 c5.st)).setCell ⟨V, 6, none⟩ (.int .i64 c5.id))) m c5 A5 B5 e5 o5 a5 b5) := Lib.hid (HC5.out.2.grew (hGV.mono (fun x _ hx => .inr (.inl hx))))
      have HO7 : Hid (Ow kEv (V + 1) ((((((((w6.setCell ⟨V, 0, none⟩ (.slice A5 c5.ts.length a5)).setCell ⟨V, 1, none⟩ (.int .i64 g)).setCell ⟨V, 2, none⟩ (.slice B5 c5.dn.length b5)).setCell ⟨V, 3, none⟩ (.slice (some ⟨e5, o5, none⟩) m q5)).setCell ⟨V, 4, none⟩ (.bool c5.over)).setCell ⟨V, 5, none⟩ (.int .i64 c5.st)).setCell ⟨V, 6, none⟩ (.int .i64 c5.id))) (.slice Ao no co) evs) := Lib.hid ((HD.out.own.ext HE6.out).grew hGV (fun x hx e => by have := (HRL.out x hx).1; omega))
      have HY7 : Hid (Rd kEv ((((((((w6.setCell ⟨V, 0, none⟩ (.slice A5 c5.ts.length a5)).setCell ⟨V, 1, none⟩ (.int .i64 g)).setCell ⟨V, 2, none⟩ (.slice B5 c5.dn.length b5)).setCell ⟨V, 3, none⟩ (.slice (some ⟨e5, o5, none⟩) m q5)).setCell ⟨V, 4, none⟩ (.bool c5.over)).setCell ⟨V, 5, none⟩ (.int .i64 c5.st)).setCell ⟨V, 6, none⟩ (.int .i64 c5.id))) (.slice L5 ds.length l5) ds) := Lib.hid (HO5.out.grew hGV (fun x hx e => by have := (HO5.out.lt x hx).1; omega)).rd
      have HE7 : Hid (Ext w ((((((((w6.setCell ⟨V, 0, none⟩ (.slice A5 c5.ts.length a5)).setCell ⟨V, 1, none⟩ (.int .i64 g)).setCell ⟨V, 2, none⟩ (.slice B5 c5.dn.length b5)).setCell ⟨V, 3, none⟩ (.slice (some ⟨e5, o5, none⟩) m q5)).setCell ⟨V, 4, none⟩ (.bool c5.over)).setCell ⟨V, 5, none⟩ (.int .i64 c5.st)).setCell ⟨V, 6, none⟩ (.int .i64 c5.id)))) := Lib.hid (hGV.toExt (HD.out.ext.trans HE6.out) (fun x hx => by omega))
      have hz7 : w6.heap.size = ((((((((w6.setCell ⟨V, 0, none⟩ (.slice A5 c5.ts.length a5)).setCell ⟨V, 1, none⟩ (.int .i64 g)).setCell ⟨V, 2, none⟩ (.slice B5 c5.dn.length b5)).setCell ⟨V, 3, none⟩ (.slice (some ⟨e5, o5, none⟩) m q5)).setCell ⟨V, 4, none⟩ (.bool c5.over)).setCell ⟨V, 5, none⟩ (.int .i64 c5.st)).setCell ⟨V, 6, none⟩ (.int .i64 c5.id))).heap.size := by simp
      generalize (((((((w6.setCell ⟨V, 0, none⟩ (.slice A5 c5.ts.length a5)).setCell ⟨V, 1, none⟩ (.int .i64 g)).setCell ⟨V, 2, none⟩ (.slice B5 c5.dn.length b5)).setCell ⟨V, 3, none⟩ (.slice (some ⟨e5, o5, none⟩) m q5)).setCell ⟨V, 4, none⟩ (.bool c5.over)).setCell ⟨V, 5, none⟩ (.int .i64 c5.st)).setCell ⟨V, 6, none⟩ (.int .i64 c5.id)) = w7 at *
      clear hbR z0 z1 z2 z3 z4 z5 z6 zf hGV
      have x0 : w7.cell? ⟨V, 0, none⟩ = some (.slice A5 c5.ts.length a5) := (cell_of_row w7 (V) 0 _ _ _ HBV.out).trans rfl
      have x1 : w7.cell? ⟨V, 1, none⟩ = some (.int .i64 g) := (cell_of_row w7 (V) 1 _ _ _ HBV.out).trans rfl
      have x2 : w7.cell? ⟨V, 2, none⟩ = some (.slice B5 c5.dn.length b5) := (cell_of_row w7 (V) 2 _ _ _ HBV.out).trans rfl
      have x3 : w7.cell? ⟨V, 3, none⟩ = some (.slice (some ⟨e5, o5, none⟩) m q5) := (cell_of_row w7 (V) 3 _ _ _ HBV.out).trans rfl
      have x4 : w7.cell? ⟨V, 4, none⟩ = some (.bool c5.over) := (cell_of_row w7 (V) 4 _ _ _ HBV.out).trans rfl
      have x5 : w7.cell? ⟨V, 5, none⟩ = some (.int .i64 c5.st) := (cell_of_row w7 (V) 5 _ _ _ HBV.out).trans rfl
      have x6 : w7.cell? ⟨V, 6, none⟩ = some (.int .i64 c5.id) := (cell_of_row w7 (V) 6 _ _ _ HBV.out).trans rfl
      have xf := fun o => frozen_of_row w7 (V) o _ _ HBV.out
      have y0 : w7.cell? ⟨w.heap.size, 0, none⟩ = some (.slice none 0 0) := (cell_of_row w7 (w.heap.size) 0 _ _ _ HBR.out).trans rfl
      have y1 : w7.cell? ⟨w.heap.size, 1, none⟩ = some (.int .i64 0) := (cell_of_row w7 (w.heap.size) 1 _ _ _ HBR.out).trans rfl
      have y2 : w7.cell? ⟨w.heap.size, 2, none⟩ = some (.slice none 0 0) := (cell_of_row w7 (w.heap.size) 2 _ _ _ HBR.out).trans rfl
      have y3 : w7.cell? ⟨w.heap.size, 3, none⟩ = some (.slice none 0 0) := (cell_of_row w7 (w.heap.size) 3 _ _ _ HBR.out).trans rfl
      have y4 : w7.cell? ⟨w.heap.size, 4, none⟩ = some (.bool false) := (cell_of_row w7 (w.heap.size) 4 _ _ _ HBR.out).trans rfl
      have y5 : w7.cell? ⟨w.heap.size, 5, none⟩ = some (.int .i64 0) := (cell_of_row w7 (w.heap.size) 5 _ _ _ HBR.out).trans rfl
      have y6 : w7.cell? ⟨w.heap.size, 6, none⟩ = some (.int .i64 0) := (cell_of_row w7 (w.heap.size) 6 _ _ _ HBR.out).trans rfl
      have yf := fun o => frozen_of_row w7 (w.heap.size) o _ _ HBR.out
      have lV7 : V < w7.heap.size := by omega
      have lR7 : w.heap.size < w7.heap.size := by omega
      have HLL : Hid (evs.length + ds.length ≤ 1048576) := Lib.hid (by have := HO9.out.2.1; have := HEE.out; omega)
      have nRV : ¬ w.heap.size = V := by omega
      go_region_law (first
        | (refine kEv.step_app (by rfl) (.tmp 74) (.tmp 75) (by rfl) (by rfl) (V + 1) _ evs (by rfl) (HO7.out.ext (Ext.refl _).drew) _ ds (by rfl) (HY7.out.ext (Ext.refl _).drew) HLL.out (by simp; omega) ?_
           intro v8 w8 hown8 hgrow8 hat8
           have HA8 := Lib.hid (And.intro hown8 (And.intro hgrow8 hat8))
           have gV := block_of_grown hgrow8 (block_keep HBV.out (Ext.refl _).drew) (fun e => by have := (HRL.out _ e.symm).1; omega)
           have gR := block_of_grown hgrow8 (block_keep HBR.out (Ext.refl _).drew) (fun e => by have := (HRL.out _ e.symm).1; omega)
           have gz := hgrow8.size
           simp at gz
           have lV8 : V < w8.heap.size := by omega
           have lR8 : w.heap.size < w8.heap.size := by omega
           have p0 : w8.cell? ⟨V, 0, none⟩ = some (.slice A5 c5.ts.length a5) := (cell_of_row w8 (V) 0 _ _ _ gV).trans rfl
           have p1 : w8.cell? ⟨V, 1, none⟩ = some (.int .i64 g) := (cell_of_row w8 (V) 1 _ _ _ gV).trans rfl
           have p2 : w8.cell? ⟨V, 2, none⟩ = some (.slice B5 c5.dn.length b5) := (cell_of_row w8 (V) 2 _ _ _ gV).trans rfl
           have p3 : w8.cell? ⟨V, 3, none⟩ = some (.slice (some ⟨e5, o5, none⟩) m q5) := (cell_of_row w8 (V) 3 _ _ _ gV).trans rfl
           have p4 : w8.cell? ⟨V, 4, none⟩ = some (.bool c5.over) := (cell_of_row w8 (V) 4 _ _ _ gV).trans rfl
           have p5 : w8.cell? ⟨V, 5, none⟩ = some (.int .i64 c5.st) := (cell_of_row w8 (V) 5 _ _ _ gV).trans rfl
           have p6 : w8.cell? ⟨V, 6, none⟩ = some (.int .i64 c5.id) := (cell_of_row w8 (V) 6 _ _ _ gV).trans rfl
           have pf := fun o => frozen_of_row w8 (V) o _ _ gV
           have r0 : w8.cell? ⟨w.heap.size, 0, none⟩ = some (.slice none 0 0) := (cell_of_row w8 (w.heap.size) 0 _ _ _ gR).trans rfl
           have r1 : w8.cell? ⟨w.heap.size, 1, none⟩ = some (.int .i64 0) := (cell_of_row w8 (w.heap.size) 1 _ _ _ gR).trans rfl
           have r2 : w8.cell? ⟨w.heap.size, 2, none⟩ = some (.slice none 0 0) := (cell_of_row w8 (w.heap.size) 2 _ _ _ gR).trans rfl
           have r3 : w8.cell? ⟨w.heap.size, 3, none⟩ = some (.slice none 0 0) := (cell_of_row w8 (w.heap.size) 3 _ _ _ gR).trans rfl
           have r4 : w8.cell? ⟨w.heap.size, 4, none⟩ = some (.bool false) := (cell_of_row w8 (w.heap.size) 4 _ _ _ gR).trans rfl
           have r5 : w8.cell? ⟨w.heap.size, 5, none⟩ = some (.int .i64 0) := (cell_of_row w8 (w.heap.size) 5 _ _ _ gR).trans rfl
           have r6 : w8.cell? ⟨w.heap.size, 6, none⟩ = some (.int .i64 0) := (cell_of_row w8 (w.heap.size) 6 _ _ _ gR).trans rfl
           have rf := fun o => frozen_of_row w8 (w.heap.size) o _ _ gR
           clear hown8 hgrow8 hat8 gV gR gz x0 x1 x2 x3 x4 x5 x6 xf y0 y1 y2 y3 y4 y5 y6 yf))
      all_goals go_wp2_with fail
      all_goals
        obtain ⟨hown8, hgrow8, hat8⟩ := HA8.out
        obtain ⟨Lz, cz, hvz, hcz⟩ := hown8.slice
        subst hvz
        have hGR : Grew (fun x => x = w.heap.size) w8 ((((((((w8.setCell ⟨w.heap.size, 0, none⟩ (.slice A5 c5.ts.length a5)).setCell ⟨w.heap.size, 1, none⟩ (.int .i64 g)).setCell ⟨w.heap.size, 2, none⟩ (.slice B5 c5.dn.length b5)).setCell ⟨w.heap.size, 3, none⟩ (.slice (some ⟨e5, o5, none⟩) m q5)).setCell ⟨w.heap.size, 4, none⟩ (.bool c5.over)).setCell ⟨w.heap.size, 5, none⟩ (.int .i64 c5.st)).setCell ⟨w.heap.size, 6, none⟩ (.int .i64 c5.id))) := (Grew.setCell (S := fun x => x = w.heap.size) (p := ⟨w.heap.size, 6, none⟩) (Grew.setCell (S := fun x => x = w.heap.size) (p := ⟨w.heap.size, 5, none⟩) (Grew.setCell (S := fun x => x = w.heap.size) (p := ⟨w.heap.size, 4, none⟩) (Grew.setCell (S := fun x => x = w.heap.size) (p := ⟨w.heap.size, 3, none⟩) (Grew.setCell (S := fun x => x = w.heap.size) (p := ⟨w.heap.size, 2, none⟩) (Grew.setCell (S := fun x => x = w.heap.size) (p := ⟨w.heap.size, 1, none⟩) (Grew.setCell (S := fun x => x = w.heap.size) (p := ⟨w.heap.size, 0, none⟩) (Grew.refl _ _) rfl _) rfl _) rfl _) rfl _) rfl _) rfl _) rfl _)
        refine bodyPost_ret (v := .tuple #[crewV A5 B5 e5 o5 a5 b5 q5 g m c5, .slice Lz (evs ++ ds).length cz, .int .i64 0]) (by simp [results, Try.results32, go_sem]; go_simp) rfl ?_
        rw [HW2.out]
        refine ⟨A5, B5, Lz, e5, o5, a5, b5, q5, cz, HC5.out.1, rfl, ?_, ?_, ?_⟩
        · exact (((HC7.out.ext (Ext.refl _).drew).grew ((Wr.grown hgrow8).mono (fun x _ hx => .inr (.inr hx)))).grew (hGR.mono (fun x _ hx => .inl hx))).at_ m1
        · exact (hown8.grew hGR (fun x hx e => by have := (hown8.lt x hx).1; have := HD.out.vl; omega)).mono (by have := HD.out.vl; omega)
        · exact hGR.toExt (Wr.toExt (Wr.grown hgrow8) (HE7.out.trans (Ext.refl _).drew) (fun x hx => by have := (HRL.out x hx).1; have := HD.out.vl; omega)) (fun x hx => by omega)
end Go.Proofs.Ytbedfjbnafflfaa

/- The document's Leaves (ref06). -/
namespace Go.Proofs.Ytbedfjbnafflfaa
open Go.BigFrame
open Go.RowKit Go.Proofs.Ytbedfjbnafflfaa.Plain

/-- units from .. up to .. -/
def kSpan : Kd (Int × Int) where
  t := 64
  e := 67
  n := 2
  cells := fun x => [.int .i64 x.1, .int .i64 x.2]
  ok := fun x => in64 x.1 ∧ in64 x.2
  d := (0, 0)
  z := .agg #[.int .i64 0, .int .i64 0]
  bytes := 16
  ht := Try.underlying64
  info := by kernel_rfl
  hzs := rfl
  pos := by decide
  small := by decide
  len := fun _ => rfl
  one := fun a u hu => by simp at hu; rcases hu with rfl | rfl <;> rfl
/-- leaves, as they came -/
def Plain.leavesL (ts : List Tk) (evs : List Ev) : List (Int × Int) := evs.flatMap fun e => if e.tk < 0 ∨ e.pt = true then [] else [((T ts e.tk.toNat).lo, (T ts e.tk.toNat).hi)]
theorem Plain.leavesL_app (ts : List Tk) (a b : List Ev) : leavesL ts (a ++ b) = leavesL ts a ++ leavesL ts b := by unfold leavesL; rw [List.flatMap_append]
theorem Plain.order_leaves (ts : List Tk) : ∀ evs : List Ev, orderL ts evs = (leavesL ts evs).flatMap fun s => List.range' s.1.toNat (s.2.toNat - s.1.toNat)
  | [] => rfl
  | e :: r => by
    have h := order_leaves ts r
    unfold orderL leavesL at h ⊢
    rw [List.flatMap_cons, List.flatMap_cons, List.flatMap_append, h]
    congr 1
    split
    · rfl
    · simp [unitsOf]
theorem Plain.leavesL_take (ts : List Tk) (evs : List Ev) (k : Nat) (hk : k < evs.length) : leavesL ts (evs.take (k + 1)) = leavesL ts (evs.take k) ++ (if (evs.getD k ev0).tk < 0 ∨ (evs.getD k ev0).pt = true then [] else [((T ts (evs.getD k ev0).tk.toNat).lo, (T ts (evs.getD k ev0).tk.toNat).hi)]) := by
  rw [List.take_succ_eq_append_getElem hk, leavesL_app, List.getD_eq_getElem?_getD, List.getElem?_eq_getElem hk]
  simp [leavesL]
theorem Plain.leavesL_len (ts : List Tk) (evs : List Ev) : (leavesL ts evs).length ≤ evs.length := by
  induction evs with
  | nil => simp [leavesL]
  | cons e r ih =>
    have h : leavesL ts (e :: r) = leavesL ts [e] ++ leavesL ts r := leavesL_app ts [e] r
    have h2 : (leavesL ts [e]).length ≤ 1 := by unfold leavesL; simp only [List.flatMap_cons, List.flatMap_nil, List.append_nil]; split <;> simp
    rw [h, List.length_append, List.length_cons]; omega
theorem Rd.evs {w : World} {A : Option Addr} {n c : Nat} {xs : List Ev} (h : Rd kEv w (.slice A n c) xs) (hl : 0 < xs.length) : ∃ b off, A = some ⟨b, off, none⟩ ∧ ∀ j, j < xs.length → w.cell? ⟨b, off + j * 4, none⟩ = some (.int .i64 (xs.getD j ev0).wk) ∧ w.cell? ⟨b, off + j * 4 + 1, none⟩ = some (.int .i64 (xs.getD j ev0).fr) ∧ w.cell? ⟨b, off + j * 4 + 2, none⟩ = some (.int .i64 (xs.getD j ev0).tk) ∧ w.cell? ⟨b, off + j * 4 + 3, none⟩ = some (.bool (xs.getD j ev0).pt) := by
  obtain ⟨b, off, rfl, hcc⟩ := h.cells hl
  exact ⟨b, off, rfl, fun j hj => ⟨by have := hcc j hj 0 _ rfl; simpa [kEv] using this, by have := hcc j hj 1 _ rfl; simpa [kEv] using this, by have := hcc j hj 2 _ rfl; simpa [kEv] using this, by have := hcc j hj 3 _ rfl; simpa [kEv] using this⟩⟩

set_option maxHeartbeats 1600000 in
set_option maxRecDepth 100000 in
theorem rleaves_any (A B L : Option Addr) (e0 eo a b e g m l : Nat) (c : Cw) (evs : List Ev) (w : World) (hC : CrewAt w m c A B e0 eo a b) (hE : Rd kEv w (.slice L evs.length l) evs) (hl : evs.length ≤ 100000) (hin : evsIn c.ts.length evs) :
    Calls Try.prog 33 #[crewV A B e0 eo a b e g m c, .slice L evs.length l] w fun ed w' => ∃ v, ed = .returned v ∧ Ow kSpan w.heap.size w' v (leavesL c.ts evs) ∧ Ext w w' := by
  have HT := Lib.hid hC.tsk.rd
  have HE := Lib.hid hE
  have HIN := Lib.hid hin
  have hl' : (evs.length : Int) ≤ 100000 := by omega
  clear hC hE hin
  go_enter Try.func33, Try.ntmps33
  go_wp2_with fail
  have hbx := heap_alloc_new w (.cells #[.slice A c.ts.length a, .int .i64 g, .slice B c.dn.length b, .slice (some ⟨e0, eo, none⟩) m e, .bool c.over, .int .i64 c.st, .int .i64 c.id] 60)
  have HBX := Lib.hid hbx
  have HX1 : Hid (Ext w (w.alloc (.cells #[.slice A c.ts.length a, .int .i64 g, .slice B c.dn.length b, .slice (some ⟨e0, eo, none⟩) m e, .bool c.over, .int .i64 c.st, .int .i64 c.id] 60))) := Lib.hid ((Ext.refl w).alloc _)
  have HW1 : Hid ((w.alloc (.cells #[.slice A c.ts.length a, .int .i64 g, .slice B c.dn.length b, .slice (some ⟨e0, eo, none⟩) m e, .bool c.over, .int .i64 c.st, .int .i64 c.id] 60)).heap.size = w.heap.size + 1) := Lib.hid (by simp)
  generalize w.alloc (.cells #[.slice A c.ts.length a, .int .i64 g, .slice B c.dn.length b, .slice (some ⟨e0, eo, none⟩) m e, .bool c.over, .int .i64 c.st, .int .i64 c.id] 60) = w1 at *
  clear hbx
  go_loopw [5, 6] (fun v i wr => ∃ k : Nat, k ≤ evs.length ∧ i = .int .i64 k ∧ Ow kSpan (w.heap.size + 1) wr v (leavesL c.ts (evs.take k)) ∧ Ext w1 wr) (fun _ i _ => evs.length - (intOf i).toNat)
  case atStart => exact ⟨0, Nat.zero_le _, rfl, Ow.nil _ _, Ext.refl _⟩
  case round =>
    obtain ⟨k, hk, rfl, hO, hX⟩ := hrel
    have HO := Lib.hid hO
    have HX := Lib.hid hX
    have hk0 : (0 : Int) ≤ k := by omega
    clear hO hX
    by_cases hlt : k < evs.length
    · have hlt' : (k : Int) < evs.length := by omega
      obtain ⟨bv, ov, rfl, hcv⟩ := Rd.evs (HE.out.ext (HX1.out.trans HX.out)) (by omega)
      obtain ⟨z0, z1, z2, z3⟩ := hcv k hlt
      have htk := leavesL_take c.ts evs k hlt
      have hint : (evs.getD k ev0).tk < c.ts.length := HIN.out _ (by rw [List.getD_eq_getElem?_getD, List.getElem?_eq_getElem hlt]; exact List.getElem_mem hlt)
      have hok := HE.out.okAt k hlt
      obtain ⟨ev, hev⟩ : ∃ ev, evs.getD k ev0 = ev := ⟨_, rfl⟩
      have hok' : kEv.ok ev := by rw [← hev]; exact hok
      rw [hev] at z0 z1 z2 z3 htk hint
      have HTK := Lib.hid htk
      have lbv : bv < wr.heap.size := World.block_lt_of_cell? _ _ z2
      have hb := block_keep HBX.out HX.out
      have q0 : wr.cell? ⟨w.heap.size, 0, none⟩ = some (.slice A c.ts.length a) := (cell_of_row wr w.heap.size 0 _ _ _ hb).trans rfl
      have hok2 := hok'.2.2
      have hok2' := Lib.hid hok2
      unfold in64 at hok2
      clear htk hok hok' hev hcv hb z0 z1
      by_cases hneg : ev.tk < 0
      · have hd : decide (0 ≤ ev.tk) = false := decide_eq_false (by omega)
        rw [if_pos (.inl hneg), List.append_nil] at HTK
        go_upto_region 5 with fail
        go_quiet (fail)
        go_wp2_with fail
        go_roundw
        case rel => exact ⟨k + 1, by omega, by go_num, by rw [HTK.out]; exact HO.out.ext ((Ext.refl _).drewN _), HX.out.drewN _⟩
        case measure => simp [intOf]; omega
      · have hge : (0 : Int) ≤ ev.tk := by omega
        obtain ⟨K, hK⟩ : ∃ K : Nat, ev.tk = K := ⟨ev.tk.toNat, by omega⟩
        have hKl : K < c.ts.length := by omega
        have hKl' : (K : Int) < c.ts.length := by omega
        have hK0 : (0 : Int) ≤ K := by omega
        rw [hK] at z2
        obtain ⟨bt, ot, rfl, hct⟩ := Rd.tasks (HT.out.ext (HX1.out.trans HX.out)) (by omega)
        obtain ⟨t0, t1, t2, t3⟩ := hct K hKl
        have hkt := HT.out.okAt K hKl
        obtain ⟨tk, htk⟩ : ∃ tk, c.ts.getD K ⟨0, 0, 0, 0⟩ = tk := ⟨_, rfl⟩
        rw [htk] at t0 t1 t2 t3
        have hkt' : kTask.ok tk := by rw [← htk]; exact hkt
        have HKT := Lib.hid hkt'
        have lbt : bt < wr.heap.size := World.block_lt_of_cell? _ _ t0
        have HTT : Hid (T c.ts ev.tk.toNat = tk) := Lib.hid (by rw [hK, Int.toNat_natCast, ← htk]; rfl)
        clear hct hkt hkt' htk
        cases hpt : ev.pt with
        | true =>
          rw [hpt] at z3
          rw [if_pos (.inr hpt), List.append_nil] at HTK
          go_upto_region 5 with fail
          go_quiet (fail)
          go_wp2_with fail
          go_roundw
          case rel => exact ⟨k + 1, by omega, by go_num, by rw [HTK.out]; exact HO.out.ext ((Ext.refl _).drewN _), HX.out.drewN _⟩
          case measure => simp [intOf]; omega
        | false =>
          rw [hpt] at z3
          rw [if_neg (by rw [hpt]; simp; omega)] at HTK
          go_upto_region 5 with fail
          go_quiet (fail)
          generalize hwq : wr.drewN nq = wq at *
          have hEq : Ext wr wq := by rw [← hwq]; exact (Ext.refl _).drewN _
          have HEQ := Lib.hid hEq
          replace q0 := hEq.cell q0
          replace z2 := hEq.cell z2
          replace t0 := hEq.cell t0
          replace t1 := hEq.cell t1
          replace t2 := hEq.cell t2
          replace t3 := hEq.cell t3
          have lq := hEq.size
          have lbv' : bv < wq.heap.size := by omega
          have lbt' : bt < wq.heap.size := by omega
          have lP' : w.heap.size < wq.heap.size := by have := World.block_lt_of_cell? _ _ q0; omega
          clear hwq hEq
          go_upto_region 6 with fail
          go_cut [7] (fun p wx => ∃ X, p = .pointer (some ⟨X, 0, none⟩) ∧ wx.cell? ⟨X, 0, none⟩ = some (.int .i64 tk.lo) ∧ wx.cell? ⟨X, 1, none⟩ = some (.int .i64 tk.hi) ∧ wq.heap.size ≤ X ∧ Ext wq wx)
          case first =>
            go_region
            all_goals go_wp2_with fail
            all_goals go_meet
            all_goals exact ⟨wq.heap.size, rfl, by go_simp, by go_simp, Nat.le_refl _, by repeat (first | exact Ext.refl _ | refine Ext.drew ?_ | refine Ext.drewN ?_ _ | refine Ext.alloc ?_ _ | refine Ext.setCell ?_ (by simp) _)⟩
          case rest =>
          obtain ⟨X, rfl, x0, x1, hXl, hEx⟩ := hcut
          generalize wc = w6 at *
          have HE6 := Lib.hid (HEQ.out.trans hEx)
          have hz6 := hEx.size
          have hrow := HO.out.len
          have HY : Hid (Rd kSpan (w6.alloc (.cells #[.int .i64 tk.lo, .int .i64 tk.hi] 67)) (.slice (some ⟨w6.heap.size, 0, none⟩) 1 1) [(tk.lo, tk.hi)]) := Lib.hid (Ow.rd (K := kSpan) (B := 0) (Ow.lit (K := kSpan) (p := w6.heap.size) (n := 1) w6 [(tk.lo, tk.hi)] #[.int .i64 tk.lo, .int .i64 tk.hi] rfl rfl rfl (Nat.zero_le _) (by simp [maxLen]) (by intro x hx; simp only [List.mem_singleton] at hx; subst hx; exact ⟨HKT.out.1, HKT.out.2.1⟩)))
          have HLL : Hid ((leavesL c.ts (evs.take k)).length + [(tk.lo, tk.hi)].length ≤ 1048576) := Lib.hid (by have := leavesL_len c.ts (evs.take k); rw [List.length_take] at this; simp; omega)
          have hzz := HX1.out.size
          have hzx := HX.out.size
          have hw1 := block_lt HBX.out
          clear hEx hrow q0 z2 t0 t1 t2 t3
          go_wp2_with (at_builtin; refine kSpan.wpList_app (by rfl) (.tmp 50) (.tmp 56) (by rfl) (by rfl) (w.heap.size + 1) _ (leavesL c.ts (evs.take k)) (by rfl) (HO.out.ext (HE6.out.alloc _)) _ [(tk.lo, tk.hi)] (by rfl) HY.out HLL.out (by simp; omega) ?_; intro v' w8 hown8 hgrow8 hat8)
          have H8 := Lib.hid (And.intro hown8 (And.intro hgrow8 hat8))
          clear hown8 hgrow8 hat8
          go_roundw
          case rel =>
            obtain ⟨hown8, hgrow8, hat8⟩ := H8.out
            refine ⟨k + 1, by omega, by go_num, by rw [HTK.out, HTT.out]; exact hown8, ?_⟩
            exact Ext.grown ((HX.out.trans HE6.out).alloc _) hgrow8 (fun x hx => by have := (HO.out.lt x hx).1; have := HW1.out; omega)
          case measure => simp [intOf]; omega
    · obtain rfl : k = evs.length := by omega
      rw [List.take_length] at HO
      go_wp2_with fail
      exact bodyPost_ret (by simp [results, Try.results33, go_sem]) rfl ⟨_, rfl, HO.out.mono (by omega), HX1.out.trans HX.out⟩
end Go.Proofs.Ytbedfjbnafflfaa

/- The document's Right and Order of a plan (ref07). -/
namespace Go.Proofs.Ytbedfjbnafflfaa
open Go.BigFrame
open Go.RowKit Go.Proofs.Ytbedfjbnafflfaa.Plain

/-- may a plan be? -/
def Plain.planB (g m : Int) (np : Nat) : Bool := decide (1 ≤ g) && decide (g ≤ 100) && decide (1 ≤ m) && decide (m ≤ 8) && decide (np ≤ 4000)
theorem Plain.planB_iff (g m : Int) (np : Nat) : planB g m np = true ↔ (1 ≤ g ∧ g ≤ 100 ∧ 1 ≤ m ∧ m ≤ 8 ∧ np ≤ 4000) := by
  unfold planB; simp only [Bool.and_eq_true, decide_eq_true_eq]; constructor <;> intro h <;> omega
/-- units as they are done, how many steps, an error -/
def Plain.ordP (n : Nat) (g m : Int) (picks : List (Int × Int)) : List Nat × Nat × Int :=
  if planB g m picks.length = false then ([], 0, 1) else if n = 0 then ([], 0, 0) else
    (orderL (wholeP g.toNat n m.toNat picks).1.ts (wholeP g.toNat n m.toNat picks).2, (wholeP g.toNat n m.toNat picks).2.length, 0)
abbrev planV (g m : Int) (Ap : Option Addr) (np cp : Nat) : Value := .agg #[.int .i64 g, .int .i64 m, .slice Ap np cp]

set_option maxHeartbeats 800000 in
set_option maxRecDepth 100000 in
theorem rright7_any (g m : Int) (Ap : Option Addr) (np cp : Nat) (w : World) (hg : in64 g) (hm : in64 m) (hn : np ≤ 9223372036854775807) :
    Calls Try.prog 31 #[planV g m Ap np cp] w fun ed w' => ed = .returned (.bool (planB g m np)) ∧ Ext w w' := by
  unfold in64 at hg hm
  have hE : Ext w (w.alloc (.cells #[.int .i64 g, .int .i64 m, .slice Ap np cp] 26)) := (Ext.refl w).alloc _
  go_enter Try.func31, Try.ntmps31
  go_upto_region 1 with fail
  have HE := Lib.hid hE
  by_cases h1 : 1 ≤ g
  · by_cases h2 : g ≤ 100
    · by_cases h3 : 1 ≤ m
      · by_cases h4 : m ≤ 8
        · by_cases h5 : (np : Int) ≤ 4000
          · have e : planB g m np = true := by rw [planB_iff]; omega
            go_wp2_with fail
            all_goals go_ret
            all_goals exact ⟨ret_bool (by first | rfl | (rw [e]; done) | (rw [e]; simp; omega)), HE.out⟩
          · have e : planB g m np = false := by
              rw [← Bool.not_eq_true, planB_iff]; omega
            have d5 : decide ((np : Int) ≤ 4000) = false := decide_eq_false h5
            go_wp2_with fail
            all_goals go_ret
            all_goals exact ⟨ret_bool (by first | rfl | (rw [e]; done) | (rw [e]; simp; omega)), HE.out⟩
        · have e : planB g m np = false := by rw [← Bool.not_eq_true, planB_iff]; omega
          have d5 : decide (m ≤ 8) = false := decide_eq_false h4
          go_wp2_with fail
          all_goals go_ret
          all_goals exact ⟨ret_bool (by first | rfl | (rw [e]; done) | (rw [e]; simp; omega)), HE.out⟩
      · have e : planB g m np = false := by rw [← Bool.not_eq_true, planB_iff]; omega
        have d5 : decide (1 ≤ m) = false := decide_eq_false h3
        go_wp2_with fail
        all_goals go_ret
        all_goals exact ⟨ret_bool (by first | rfl | (rw [e]; done) | (rw [e]; simp; omega)), HE.out⟩
    · have e : planB g m np = false := by rw [← Bool.not_eq_true, planB_iff]; omega
      have d5 : decide (g ≤ 100) = false := decide_eq_false h2
      go_wp2_with fail
      all_goals go_ret
      all_goals exact ⟨ret_bool (by first | rfl | (rw [e]; done) | (rw [e]; simp; omega)), HE.out⟩
  · have e : planB g m np = false := by rw [← Bool.not_eq_true, planB_iff]; omega
    have d5 : decide (1 ≤ g) = false := decide_eq_false h1
    go_wp2_with fail
    all_goals go_ret
    all_goals exact ⟨ret_bool (by first | rfl | (rw [e]; done) | (rw [e]; simp; omega)), HE.out⟩

abbrev Plain.rngS (x : Int × Int) : List Nat := List.range' x.1.toNat (x.2.toNat - x.1.toNat)
theorem Plain.leavesL_bd {ts : List Tk} {evs : List Ev} {n : Nat} (h : ∀ k, k < ts.length → 0 ≤ (T ts k).lo ∧ (T ts k).lo ≤ (T ts k).hi ∧ (T ts k).hi ≤ n) (hin : evsIn ts.length evs) : ∀ x ∈ leavesL ts evs, 0 ≤ x.1 ∧ x.1 ≤ x.2 ∧ x.2 ≤ n := by
  intro x hx
  unfold leavesL at hx
  rw [List.mem_flatMap] at hx
  obtain ⟨e, he, hx⟩ := hx
  have h1 := hin e he
  split at hx
  · cases hx
  · rw [List.mem_singleton] at hx
    subst hx
    exact h _ (by omega)
theorem Plain.flat_split (S : List (Int × Int)) (f : Int × Int → List Nat) (j : Nat) (hj : j < S.length) : (S.flatMap f).length = ((S.take j).flatMap f).length + (f (S.getD j (0, 0))).length + ((S.drop (j + 1)).flatMap f).length ∧ (S.take (j + 1)).flatMap f = (S.take j).flatMap f ++ f (S.getD j (0, 0)) := by
  have e : S.getD j (0, 0) = S[j] := by rw [List.getD_eq_getElem?_getD, List.getElem?_eq_getElem hj]; rfl
  constructor
  · conv => lhs; rw [split_at S j hj]
    rw [List.flatMap_append, List.flatMap_cons, List.length_append, List.length_append, e]; omega
  · rw [List.take_succ_eq_append_getElem hj, List.flatMap_append, e]; simp
theorem Rd.spans {w : World} {A : Option Addr} {n c : Nat} {xs : List (Int × Int)} (h : Rd kSpan w (.slice A n c) xs) (hl : 0 < xs.length) : ∃ b off, A = some ⟨b, off, none⟩ ∧ ∀ j, j < xs.length → w.cell? ⟨b, off + j * 2, none⟩ = some (.int .i64 (xs.getD j (0, 0)).1) ∧ w.cell? ⟨b, off + j * 2 + 1, none⟩ = some (.int .i64 (xs.getD j (0, 0)).2) := by
  obtain ⟨b, off, rfl, hcc⟩ := h.cells hl
  exact ⟨b, off, rfl, fun j hj => ⟨by have := hcc j hj 0 _ rfl; simpa [kSpan] using this, by have := hcc j hj 1 _ rfl; simpa [kSpan] using this⟩⟩
/-- what Order leaves -/
def OrdSaid (r : List Nat × Nat × Int) (w : World) (ed : Ending) (w' : World) : Prop :=
  ∃ (L : Option Addr) (l : Nat), ed = .returned (.tuple #[.slice L r.1.length l, .int .i64 r.2.1, .int .i64 r.2.2]) ∧ Ow kInt w.heap.size w' (.slice L r.1.length l) (zs r.1) ∧ Ext w w'

set_option maxHeartbeats 1600000 in
set_option maxRecDepth 100000 in
theorem rorder_any (n : Nat) (g m : Int) (Ap : Option Addr) (cp : Nat) (picks : List (Int × Int)) (w : World) (hp : Rd kPk w (.slice Ap picks.length cp) picks) (n2 : n ≤ 900) (hg : in64 g) (hm : in64 m) :
    Calls Try.prog 22 #[.int .i64 n, planV g m Ap picks.length cp] w (OrdSaid (ordP n g m picks) w) := by
  have HP := Lib.hid hp
  have HL : Hid (picks.length ≤ 9223372036854775807) := Lib.hid hp.len
  have HGM := Lib.hid (And.intro hg hm)
  have n3 : (n : Int) ≤ 900 := by omega
  have n0 : (0 : Int) ≤ n := by omega
  clear hp hg hm
  go_enter Try.func22, Try.ntmps22
  go_wp2_with fail
  refine (rright7_any g m Ap picks.length cp _ HGM.out.1 HGM.out.2 HL.out).mono ?_
  rintro ed w1 ⟨rfl, hE1⟩
  have hb := block_keep (heap_alloc_new w (.cells #[.int .i64 g, .int .i64 m, .slice Ap picks.length cp] 26)) hE1
  have HB := Lib.hid hb
  have HX1 := Lib.hid (((Ext.refl w).alloc _).trans hE1)
  have q0 : w1.cell? ⟨w.heap.size, 0, none⟩ = some (.int .i64 g) := (cell_of_row w1 w.heap.size 0 _ _ _ hb).trans rfl
  have q1 : w1.cell? ⟨w.heap.size, 1, none⟩ = some (.int .i64 m) := (cell_of_row w1 w.heap.size 1 _ _ _ hb).trans rfl
  have q2 : w1.cell? ⟨w.heap.size, 2, none⟩ = some (.slice Ap picks.length cp) := (cell_of_row w1 w.heap.size 2 _ _ _ hb).trans rfl
  clear hb hE1
  cases hok : planB g m picks.length with
  | false =>
    have e : ordP n g m picks = ([], 0, 1) := by unfold ordP; rw [if_pos hok]
    have HEE := Lib.hid e
    clear e hok
    go_wp2_with fail
    exact bodyPost_ret (v := .tuple #[.slice none 0 0, .int .i64 0, .int .i64 1]) (by simp [results, Try.results22, go_sem]) rfl (by rw [HEE.out]; exact ⟨none, 0, rfl, Ow.nil _ _, HX1.out⟩)
  | true =>
    obtain ⟨p1, p2, p3, p4, p5⟩ := (planB_iff _ _ _).1 hok
    obtain ⟨G, rfl⟩ : ∃ G : Nat, g = G := ⟨g.toNat, by omega⟩
    obtain ⟨M, rfl⟩ : ∃ M : Nat, m = M := ⟨m.toNat, by omega⟩
    by_cases hz : n = 0
    · subst hz
      have e : ordP 0 G M picks = ([], 0, 0) := by unfold ordP; rw [if_neg (by rw [hok]; decide), if_pos rfl]
      have HEE := Lib.hid e
      clear e hok
      go_wp2_with fail
      exact bodyPost_ret (v := .tuple #[.slice none 0 0, .int .i64 0, .int .i64 0]) (by simp [results, Try.results22, go_sem]) rfl (by rw [HEE.out]; exact ⟨none, 0, rfl, Ow.nil _ _, HX1.out⟩)
    · have e : ordP n G M picks = (orderL (wholeP G n M picks).1.ts (wholeP G n M picks).2, (wholeP G n M picks).2.length, 0) := by unfold ordP; rw [if_neg (by rw [hok]; decide), if_neg hz]; rfl
      have hne : ((n : Int) == 0) = false := by simp; omega
      obtain ⟨we1, we2, we3, we4⟩ := whole_ends (g := G) (n := n) (m := M) (by omega) (by omega) (by omega) picks
      have hin := we2.ins
      obtain ⟨dn, hI⟩ := we2.inv
      have hcn := (hI.counts (by omega) (by omega)).2.2.1
      have hevl : (wholeP G n M picks).2.length ≤ 60000 := by
        have h2 : M * (cntT n G + 1) ≤ 8 * 1801 := Nat.mul_le_mul (by omega) (by omega)
        omega
      have hbd : ∀ k, k < (wholeP G n M picks).1.ts.length → 0 ≤ (T (wholeP G n M picks).1.ts k).lo ∧ (T (wholeP G n M picks).1.ts k).lo ≤ (T (wholeP G n M picks).1.ts k).hi ∧ (T (wholeP G n M picks).1.ts k).hi ≤ n := fun k hk => by
        have ht := (CrI.inv hI).task k hk
        omega
      have hol : (orderL (wholeP G n M picks).1.ts (wholeP G n M picks).2).length = n := by rw [we4.length_eq, List.length_range]
      obtain ⟨⟨c, evs⟩, hW⟩ : ∃ x, wholeP G n M picks = x := ⟨_, rfl⟩
      rw [hW] at hin hevl hbd hol e
      simp only at hin hevl hbd hol e
      rw [order_leaves] at hol e
      have hsb : ∀ x ∈ leavesL c.ts evs, 0 ≤ x.1 ∧ x.1 ≤ x.2 ∧ x.2 ≤ n := leavesL_bd hbd hin
      have hsl : (leavesL c.ts evs).length ≤ 60000 := Nat.le_trans (leavesL_len _ _) hevl
      have HEE := Lib.hid e
      have HOL := Lib.hid hol
      have HSB := Lib.hid hsb
      have HIN := Lib.hid hin
      have HEV := Lib.hid hevl
      have HSL := Lib.hid hsl
      have HWW := Lib.hid hW
      have hGn : (0 : Int) ≤ G := by omega
      clear e hok we1 we2 we3 we4 hI hcn hW hin hevl hbd hol hsb hsl
      go_wp2_with fail
      refine (rwhole_any n G M Ap cp picks w1 (HP.out.ext HX1.out) (by omega) n2 (by omega) (by omega) (by omega) (by omega) p5).mono ?_
      rw [HWW.out]
      rintro ed w2 ⟨A1, B1, L1, e0, o1, a1, b1, e1, l1, hme, rfl, hC, hO, hE2⟩
      simp only at hC hO ⊢
      have HC := Lib.hid hC
      have HO := Lib.hid hO
      have HX2 := Lib.hid (HX1.out.trans hE2)
      clear hC hO hE2 q0 q1 q2
      go_wp2_with fail
      refine (rleaves_any A1 B1 L1 e0 o1 a1 b1 e1 G M l1 c evs _ (HC.out.ext ((Ext.refl _).alloc _)) (HO.out.rd.ext ((Ext.refl _).alloc _)) (by have := HEV.out; omega) HIN.out).mono ?_
      rintro ed w3 ⟨vs, rfl, hS, hE3⟩
      obtain ⟨S, hSS⟩ : ∃ S, leavesL c.ts evs = S := ⟨_, rfl⟩
      rw [hSS] at hS HEE HOL HSB HSL
      obtain ⟨Ls, ls, hv, hls⟩ := hS.slice
      subst hv
      have HS := Lib.hid hS.rd
      have HX3 := Lib.hid ((HX2.out.alloc _).trans hE3)
      have hsl' : (S.length : Int) ≤ 60000 := by have := HSL.out; omega
      clear hS hE3 hls
      go_wp2_with fail
      go_loopw [10, 12] (fun v i wr => ∃ j : Nat, j ≤ S.length ∧ i = .int .i64 j ∧ Ow kInt w3.heap.size wr v (zs ((S.take j).flatMap rngS)) ∧ Ext w3 wr) (fun _ i _ => S.length - (intOf i).toNat)
      case atStart => exact ⟨0, Nat.zero_le _, rfl, Ow.nil _ _, Ext.refl _⟩
      case round =>
        obtain ⟨j, hj, rfl, hO, hX⟩ := hrel
        have HO5 := Lib.hid hO
        have HX5 := Lib.hid hX
        have hj0 : (0 : Int) ≤ j := by omega
        clear hO hX
        by_cases hlt : j < S.length
        · have hlt' : (j : Int) < S.length := by omega
          obtain ⟨bs, os, rfl, hcs⟩ := Rd.spans HS.out (by omega)
          obtain ⟨z0, z1⟩ := hcs j hlt
          have hmem : S.getD j (0, 0) ∈ S := by rw [List.getD_eq_getElem?_getD, List.getElem?_eq_getElem hlt]; exact List.getElem_mem hlt
          obtain ⟨fl1, fl2⟩ := flat_split S rngS j hlt
          obtain ⟨b1', b2', b3'⟩ := HSB.out _ hmem
          obtain ⟨⟨lo, hi⟩, hlh⟩ : ∃ x, S.getD j (0, 0) = x := ⟨_, rfl⟩
          rw [hlh] at z0 z1 fl1 fl2 b1' b2' b3'
          simp only at z0 z1 b1' b2' b3'
          obtain ⟨Lo, rfl⟩ : ∃ x : Nat, lo = x := ⟨lo.toNat, by omega⟩
          obtain ⟨Hi, rfl⟩ : ∃ x : Nat, hi = x := ⟨hi.toNat, by omega⟩
          have hpre : ((S.take j).flatMap rngS).length + (Hi - Lo) ≤ 900 := by
            have h9 := HOL.out
            change (S.flatMap rngS).length = n at h9
            have e9 : (rngS ((Lo : Int), (Hi : Int))).length = Hi - Lo := by simp [rngS]
            omega
          have HFL := Lib.hid fl2
          have HPRE := Lib.hid hpre
          have lbs : bs < w3.heap.size := World.block_lt_of_cell? _ _ z0
          have HZ1 := Lib.hid z1
          replace z0 := HX5.out.cell z0
          replace z1 := HX5.out.cell z1
          have hll : Lo ≤ Hi := by omega
          have hhi : (Hi : Int) ≤ 900 := by omega
          clear hcs hmem fl1 fl2 hlh hpre
          go_wp2_with fail
          go_loopw [10, 13] (fun v i wr' => ∃ u : Nat, Lo ≤ u ∧ u ≤ Hi ∧ i = .int .i64 u ∧ Ow kInt w3.heap.size wr' v (zs ((S.take j).flatMap rngS ++ List.range' Lo (u - Lo))) ∧ Ext w3 wr') (fun _ i _ => Hi - (intOf i).toNat)
          case atStart => exact ⟨Lo, Nat.le_refl _, hll, rfl, by simpa using HO5.out, HX5.out⟩
          case round =>
            obtain ⟨u, hu1, hu2, rfl, hO, hX⟩ := hrel
            have z1 := hX.cell HZ1.out
            have HO6 := Lib.hid hO
            have HX6 := Lib.hid hX
            have hu0 : (0 : Int) ≤ u := by omega
            clear hO hX
            by_cases hul : u < Hi
            · have hul' : (u : Int) < Hi := by omega
              have HY : ∀ w6 : World, Rd kInt (w6.alloc (.cells #[.int .i64 u] 3)) (.slice (some ⟨w6.heap.size, 0, none⟩) 1 1) [(u : Int)] := fun w6 => Ow.rd (K := kInt) (B := 0) (Ow.lit (K := kInt) (p := w6.heap.size) (n := 1) w6 [(u : Int)] #[.int .i64 u] rfl rfl rfl (Nat.zero_le _) (by simp [maxLen]) (by intro x hx; simp only [List.mem_singleton] at hx; subst hx; exact in64_nat u (by omega)))
              have HYY := Lib.hid HY
              have HLL : Hid ((zs ((S.take j).flatMap rngS ++ List.range' Lo (u - Lo))).length + [(u : Int)].length ≤ 1048576) := Lib.hid (by have := HPRE.out; rw [zs_len, List.length_append, List.length_range', List.length_singleton]; omega)
              have hz6 := HX6.out.size
              clear HY
              go_wp2_with (at_builtin; refine kInt.wpList_app (by rfl) (.tmp 65) (.tmp 67) (by rfl) (by rfl) w3.heap.size _ (zs ((S.take j).flatMap rngS ++ List.range' Lo (u - Lo))) (by rfl) (HO6.out.ext ((Ext.refl _).alloc _)) _ [(u : Int)] (by rfl) (HYY.out _) HLL.out (by simp; omega) ?_; intro v' w8 hown8 hgrow8 hat8)
              have H8 := Lib.hid (And.intro hown8 (And.intro hgrow8 hat8))
              clear hown8 hgrow8 hat8
              go_roundw
              case rel =>
                obtain ⟨hown8, hgrow8, hat8⟩ := H8.out
                refine ⟨u + 1, by omega, by omega, by go_num, ?_, ?_⟩
                · rw [show u + 1 - Lo = (u - Lo) + 1 by omega, List.range'_1_concat, show Lo + (u - Lo) = u by omega, ← List.append_assoc, zs_app]
                  exact hown8
                · exact Ext.grown (HX6.out.alloc _) hgrow8 (fun x hx => (HO6.out.lt x hx).1)
              case measure => simp [intOf]; omega
            · obtain rfl : u = Hi := by omega
              go_wp2_with fail
              go_roundw
              case rel => exact ⟨j + 1, by omega, by go_num, by rw [HFL.out]; exact HO6.out, HX6.out⟩
              case measure => simp [intOf]; omega
        · obtain rfl : j = S.length := by omega
          rw [List.take_length] at HO5
          have HXX := Lib.hid (HX3.out.trans HX5.out)
          have hzz := HX3.out.size
          obtain ⟨Lz, lz, hv, hlz⟩ := HO5.out.slice
          subst hv
          go_wp2_with fail
          refine bodyPost_ret (v := .tuple #[.slice Lz (zs (S.flatMap rngS)).length lz, .int .i64 evs.length, .int .i64 0]) (by simp [results, Try.results22, go_sem]) rfl (by rw [HEE.out]; exact ⟨Lz, lz, by rw [zs_len], by have := HO5.out.mono (B' := w.heap.size) (by omega); rw [zs_len] at this; exact this, HXX.out⟩)
end Go.Proofs.Ytbedfjbnafflfaa

/- The document's One (ref07): what is done to a cell. -/
namespace Go.Proofs.Ytbedfjbnafflfaa
open Go.BigFrame
open Go.RowKit Go.Proofs.Ytbedfjbnafflfaa.Plain

/-- what is done to a cell -/
def Plain.oneP (x : Nat) (op : Int) (y : Nat) : Nat :=
  if op = 1 then (x + y) % 4294967296 else if op = 2 then x ^^^ y else if op = 3 then x * 2 ^ (y % 32) % 4294967296 else if op = 4 then x / 2 ^ (y % 32) else if op = 5 then x &&& y else if op = 6 then (if y < x then 1 else 0) else 0
theorem Plain.bit_next (z k : Nat) : z % 2 ^ (k + 1) = z % 2 ^ k + (z.testBit k).toNat * 2 ^ k := by
  rw [Nat.mod_pow_succ, Nat.toNat_testBit, Nat.mul_comm]

end Go.Proofs.Ytbedfjbnafflfaa

/- The document's Words and Fill (ref07). -/
namespace Go.Proofs.Ytbedfjbnafflfaa
open Go.BigFrame
open Go.RowKit Go.Proofs.Ytbedfjbnafflfaa.Plain

/-- words -/
def kU32 : Kd Int where
  t := 22
  e := 41
  n := 1
  cells := fun x => [.int .u32 x]
  ok := fun x => 0 ≤ x ∧ x ≤ 4294967295
  d := 0
  z := .int .u32 0
  bytes := 4
  ht := Try.underlying22
  info := by kernel_rfl
  hzs := rfl
  pos := by decide
  small := by decide
  len := fun _ => rfl
  one := fun a u hu => by simp at hu; subst hu; rfl
theorem Rd.u32s {w : World} {A : Option Addr} {n c : Nat} {xs : List Int} (h : Rd kU32 w (.slice A n c) xs) (hl : 0 < xs.length) : ∃ b off, A = some ⟨b, off, none⟩ ∧ ∀ j, j < xs.length → w.cell? ⟨b, off + j, none⟩ = some (.int .u32 (xs.getD j 0)) := by
  obtain ⟨b, off, rfl, hcc⟩ := h.cells hl
  exact ⟨b, off, rfl, fun j hj => by have := hcc j hj 0 _ rfl; simpa [kU32] using this⟩
set_option maxHeartbeats 400000 in
theorem rwords_any (v u : Value) (xs ys : List Int) (w : World) (h : Rd kU32 w v xs) (h' : Rd kU32 w u ys) :
    Calls Try.prog 14 #[v, u] w fun e w' => e = .returned (.bool (sameB xs ys)) ∧ Ext w w' := by
  have hm := h.len
  have hm' := h'.len
  obtain ⟨A, cap, rfl, hcap⟩ := h.slice
  obtain ⟨A', cap', rfl, hcap'⟩ := h'.slice
  have HH := Lib.hid h
  have HH' := Lib.hid h'
  clear h h'
  by_cases hl : xs.length = ys.length
  · have H := Lib.hid hl
    have e : decide ((xs.length : Int) = (ys.length : Int)) = true := by simp [hl]
    have e2 : ((xs.length : Int) != (ys.length : Int)) = false := by simp [hl]
    clear hl
    go_enter Try.func14, Try.ntmps14
    go_wp2
    clear e e2
    go_loopw [5] (fun i wr => ∃ k : Nat, k ≤ xs.length ∧ i = .int .i64 k ∧ Ext w wr ∧ ∀ j, j < k → xs.getD j 0 = ys.getD j 0) (fun i _ => xs.length - (intOf i).toNat)
    case atStart => exact ⟨0, Nat.zero_le _, rfl, Ext.refl _, by omega⟩
    case round =>
      obtain ⟨k, hk, rfl, hE, ha⟩ := hrel
      have HA := Lib.hid ha
      have HE := Lib.hid hE
      clear ha hE
      by_cases hlt : k < xs.length
      · obtain ⟨b, off, rfl, hcc⟩ := Rd.u32s (HH.out.ext HE.out) (by omega)
        obtain ⟨b', off', rfl, hcc'⟩ := Rd.u32s (HH'.out.ext HE.out) (by have := H.out; omega)
        have hcell := hcc k hlt
        have hcell' := hcc' k (by have := H.out; omega)
        have hlt' : k < ys.length := by have := H.out; omega
        clear hcc hcc'
        by_cases he : xs.getD k 0 = ys.getD k 0
        · have HEQ := Lib.hid he
          have e1 : ((xs.getD k 0) != (ys.getD k 0)) = false := by rw [he]; simp
          generalize hg : xs.getD k 0 = g at *
          generalize hg' : ys.getD k 0 = g' at *
          clear he
          go_wp2
          go_quiet (fail)
          go_wp2
          go_roundw
          case rel => exact ⟨k + 1, by omega, by go_num, HE.out.drewN _, fun j hj => by
            rcases Nat.lt_or_ge j k with h1 | h1
            · exact HA.out j h1
            · obtain rfl : j = k := by omega
              rw [hg, hg', HEQ.out]⟩
          case measure => simp [intOf]; omega
        · have e1 : ((xs.getD k 0) != (ys.getD k 0)) = true := by simpa using he
          have HR : Hid (sameB xs ys = false) := Lib.hid (by unfold sameB; rw [decide_eq_false_iff_not]; intro h; exact he (by rw [h]))
          generalize hg : xs.getD k 0 = g at *
          generalize hg' : ys.getD k 0 = g' at *
          clear he
          go_wp2
          go_quiet (fail)
          go_wp2
          go_ret
          exact ⟨ret_bool HR.out.symm, HE.out.drewN _⟩
      · have HR : Hid (sameB xs ys = true) := Lib.hid (by unfold sameB; rw [decide_eq_true_eq]; exact eq_of_all _ _ H.out (fun j hj => HA.out j (by omega)))
        go_wp2
        go_ret
        exact ⟨ret_bool HR.out.symm, HE.out⟩
  · have e : decide ((xs.length : Int) = (ys.length : Int)) = false := by simp; omega
    have e2 : ((xs.length : Int) != (ys.length : Int)) = true := by simp; omega
    have HR : Hid (sameB xs ys = false) := Lib.hid (by unfold sameB; rw [decide_eq_false_iff_not]; intro h; exact hl (by rw [h]))
    clear hl
    go_enter Try.func14, Try.ntmps14
    go_wp2
    go_ret
    exact ⟨ret_bool HR.out.symm, Ext.refl _⟩

/-- is there such an op? -/
def Plain.knownB (op : Int) : Bool := decide (1 ≤ op) && decide (op ≤ 6)
/-- all cells -/
def Plain.fillP (l : List Nat) (op : Int) (y : Nat) (g m : Int) (picks : List (Int × Int)) : List Nat × Nat × Int :=
  if knownB op = false then ([], 0, 1) else if (ordP l.length g m picks).2.2 ≠ 0 then ([], 0, (ordP l.length g m picks).2.2) else
    (l.map (fun x => oneP x op y), (ordP l.length g m picks).2.1, 0)
theorem Plain.ordP_err (n : Nat) (g m : Int) (picks : List (Int × Int)) : (ordP n g m picks).2.2 = 0 ∨ (ordP n g m picks).2.2 = 1 := by
  unfold ordP
  split
  · exact .inr rfl
  · split
    · exact .inl rfl
    · exact .inl rfl
/-- words, a number, an error -/
def WordsSaid (r : List Nat × Nat × Int) (w : World) (ed : Ending) (w' : World) : Prop :=
  ∃ (L : Option Addr) (l : Nat), ed = .returned (.tuple #[.slice L r.1.length l, .int .i64 r.2.1, .int .i64 r.2.2]) ∧ Ow kU32 w.heap.size w' (.slice L r.1.length l) (zs r.1) ∧ Ext w w'
theorem Plain.oneP_lt (x : Nat) (op : Int) (y : Nat) (hx : x < 4294967296) (hy : y < 4294967296) : oneP x op y < 4294967296 := by
  unfold oneP
  have h1 := Nat.xor_lt_two_pow (n := 32) hx hy
  have h2 : x &&& y ≤ x := Nat.and_le_left
  have h3 : x / 2 ^ (y % 32) ≤ x := Nat.div_le_self _ _
  repeat' split
  all_goals omega
theorem u32_lit (w : World) (x : Nat) (hx : x < 4294967296) : Rd kU32 (w.alloc (.cells #[.int .u32 x] 41)) (.slice (some ⟨w.heap.size, 0, none⟩) 1 1) [(x : Int)] :=
  Ow.rd (K := kU32) (B := 0) (Ow.lit (K := kU32) (p := w.heap.size) (n := 1) w [(x : Int)] #[.int .u32 x] rfl rfl rfl (Nat.zero_le _) (by simp [maxLen]) (by intro z hz; simp only [List.mem_singleton] at hz; subst hz; show (0 : Int) ≤ x ∧ (x : Int) ≤ 4294967295; omega))

end Go.Proofs.Ytbedfjbnafflfaa

/- The document's Zip (ref07). -/
namespace Go.Proofs.Ytbedfjbnafflfaa
open Go.BigFrame
open Go.RowKit Go.Proofs.Ytbedfjbnafflfaa.Plain

abbrev Plain.zipF (l r : List Nat) (op : Int) (i : Nat) : Nat := oneP (l.getD i 0) op (r.getD i 0)
/-- cell by cell -/
def Plain.zipP (l r : List Nat) (op : Int) (g m : Int) (picks : List (Int × Int)) : List Nat × Nat × Int :=
  if l.length ≠ r.length ∨ knownB op = false then ([], 0, 1) else if (ordP l.length g m picks).2.2 ≠ 0 then ([], 0, (ordP l.length g m picks).2.2) else
    ((List.range l.length).map (zipF l r op), (ordP l.length g m picks).2.1, 0)

end Go.Proofs.Ytbedfjbnafflfaa

/- Plain words of scans: sums of all ahead, the highest, blocks. No program in it. -/
namespace Go.Proofs.Ytbedfjbnafflfaa.Plain

/-- the sum, cut to 32 bits -/
def totW (l : List Nat) : Nat := l.sum % 4294967296
theorem totW_lt (l : List Nat) : totW l < 4294967296 := Nat.mod_lt _ (by decide)
theorem totW_nil : totW [] = 0 := rfl
theorem totW_snoc (l : List Nat) (x : Nat) : totW (l ++ [x]) = (totW l + x) % 4294967296 := by unfold totW; rw [List.sum_append]; simp
theorem totW_app (l r : List Nat) : totW (l ++ r) = (totW l + totW r) % 4294967296 := by unfold totW; rw [List.sum_append]; simp
def maxL (l : List Nat) : Nat := l.foldl max 0
theorem maxL_snoc (l : List Nat) (x : Nat) : maxL (l ++ [x]) = max (maxL l) x := by unfold maxL; rw [List.foldl_append]; rfl
theorem foldl_max_le (l : List Nat) : ∀ (a b : Nat), a ≤ b → (∀ x ∈ l, x ≤ b) → l.foldl max a ≤ b := by
  induction l with
  | nil => intro a b h _; exact h
  | cons x l ih =>
    intro a b h hx
    have h1 := hx x (by simp)
    exact ih _ _ (by omega) (fun z hz => hx z (by simp [hz]))
theorem maxL_le (l : List Nat) (b : Nat) (h : ∀ x ∈ l, x ≤ b) : maxL l ≤ b := foldl_max_le l 0 b (Nat.zero_le _) h
theorem takeN_snoc {l : List Nat} {k : Nat} (h : k < l.length) : l.take (k + 1) = l.take k ++ [l.getD k 0] := by
  rw [List.take_succ_eq_append_getElem h, List.getD_eq_getElem?_getD, List.getElem?_eq_getElem h]; rfl
/-- of each place what a rule says -/
def byN (n : Nat) (f : Nat → Nat) : List Nat := (List.range n).map f
theorem byN_len (n : Nat) (f : Nat → Nat) : (byN n f).length = n := by simp [byN]
theorem byN_snoc (n : Nat) (f : Nat → Nat) : byN (n + 1) f = byN n f ++ [f n] := by unfold byN; rw [List.range_succ, List.map_append]; rfl
theorem byN_getD (n : Nat) (f : Nat → Nat) (j : Nat) (hj : j < n) : (byN n f).getD j 0 = f j := by
  unfold byN
  rw [List.getD_eq_getElem?_getD, List.getElem?_map, List.getElem?_range hj]; rfl
theorem byN_congr (n : Nat) (f h : Nat → Nat) (e : ∀ u, u < n → f u = h u) : byN n f = byN n h := List.map_congr_left fun u hu => e u (List.mem_range.1 hu)
theorem byN_take (n : Nat) (f : Nat → Nat) (k : Nat) (hk : k ≤ n) : (byN n f).take k = byN k f := by unfold byN; rw [← List.map_take, List.take_range, Nat.min_eq_left hk]
theorem byN_id (l : List Nat) : byN l.length (fun i => l.getD i 0) = l := by
  apply List.ext_getElem?
  intro i
  unfold byN
  rw [List.getElem?_map]
  by_cases hi : i < l.length
  · rw [List.getElem?_range hi, List.getElem?_eq_getElem hi]
    simp [List.getD_eq_getElem?_getD, List.getElem?_eq_getElem hi]
  · rw [List.getElem?_eq_none (by simpa using hi), List.getElem?_eq_none (by omega)]; rfl
def sumsW (l : List Nat) : List Nat := byN l.length (fun i => totW (l.take i))
def highW (l : List Nat) : List Nat := byN l.length (fun i => maxL (l.take (i + 1)))
/-- the next one, cut by this one -/
def backF (s : List Nat) (t : Nat) (i : Nat) : Nat := ((if i + 1 < s.length then s.getD (i + 1) 0 else t) + 4294967296 - s.getD i 0) % 4294967296
def backW (s : List Nat) (t : Nat) : List Nat := byN s.length (backF s t)
def blocksP (n : Nat) (b : Int) : Nat := if n ≤ 1000 ∧ 1 ≤ b ∧ b ≤ 100 then (n + b.toNat - 1) / b.toNat else 0
theorem blocksP_le (n : Nat) (b : Int) : blocksP n b ≤ n := by
  unfold blocksP
  split
  · rename_i h
    obtain ⟨B, rfl⟩ : ∃ B : Nat, b = B := ⟨b.toNat, by omega⟩
    rw [Int.toNat_natCast]
    have hB : 1 ≤ B := by omega
    rcases Nat.eq_zero_or_pos n with h0 | h0
    · subst h0
      rw [Nat.div_eq_of_lt (by omega)]; exact Nat.zero_le _
    · apply Nat.div_le_of_le_mul
      have h1 : 1 * (n - 1) ≤ B * (n - 1) := Nat.mul_le_mul_right _ hB
      have h2 : B * n = B * (n - 1) + B := by
        conv => lhs; rw [show n = (n - 1) + 1 by omega]
        rw [Nat.mul_add, Nat.mul_one]
      omega
  · exact Nat.zero_le _
def totalsW (l : List Nat) (b : Int) : List Nat := byN (blocksP l.length b) (fun i => totW ((l.drop (i * b.toNat)).take b.toNat))
/-- how many steps, an error -/
def stepsP (n : Nat) (b g m : Int) (picks : List (Int × Int)) : Nat × Int :=
  if ¬ (1 ≤ b ∧ b ≤ 100) then (0, 1) else if (ordP n g m picks).2.2 ≠ 0 then (0, (ordP n g m picks).2.2) else (2 * (ordP (blocksP n b) g m picks).2.1, 0)
def sumsP (l : List Nat) (b g m : Int) (picks : List (Int × Int)) : List Nat × Nat × Nat × Int :=
  if (stepsP l.length b g m picks).2 ≠ 0 then ([], 0, 0, (stepsP l.length b g m picks).2) else (sumsW l, totW l, (stepsP l.length b g m picks).1, 0)
def highP (l : List Nat) (b g m : Int) (picks : List (Int × Int)) : List Nat × Nat × Int :=
  if (stepsP l.length b g m picks).2 ≠ 0 then ([], 0, (stepsP l.length b g m picks).2) else (highW l, (stepsP l.length b g m picks).1, 0)
/-- an order's error is the plan's -/
theorem ordP_err_any (n k : Nat) (g m : Int) (picks : List (Int × Int)) (h : (ordP n g m picks).2.2 = 0) : (ordP k g m picks).2.2 = 0 := by
  unfold ordP at h ⊢
  by_cases hb : planB g m picks.length = false
  · rw [if_pos hb] at h; cases h
  · rw [if_neg hb]
    split <;> rfl
theorem ordP_steps (n : Nat) (g m : Int) (picks : List (Int × Int)) (hn : n ≤ 900) : (ordP n g m picks).2.1 ≤ picks.length + 16008 := by
  rcases ordP_err n g m picks with h | h
  · obtain ⟨⟨os, st, er⟩, hr⟩ : ∃ x, ordP n g m picks = x := ⟨_, rfl⟩
    rw [hr] at h ⊢
    simp only at h ⊢
    subst h
    unfold ordP at hr
    split at hr
    · simp at hr
    · rename_i hb
      have hb' : planB g m picks.length = true := by simpa using hb
      obtain ⟨h1, h2, h3, h4, h5⟩ := (planB_iff _ _ _).1 hb'
      split at hr
      · simp at hr; omega
      · rename_i hz
        simp only [Prod.mk.injEq] at hr
        obtain ⟨_, rfl, _⟩ := hr
        obtain ⟨w1, w2, w3, w4⟩ := whole_ends (g := g.toNat) (n := n) (m := m.toNat) (by omega) (by omega) (by omega) picks
        have h9 : cntT n g.toNat ≤ 2000 := (count_ok n g.toNat (by omega) (by omega) (by omega) (by omega)).2.2.1
        have h8 : m.toNat * (cntT n g.toNat + 1) ≤ 8 * 2001 := Nat.mul_le_mul (by omega) (by omega)
        omega
  · unfold ordP at h ⊢
    split
    · exact Nat.zero_le _
    · split
      · exact Nat.zero_le _
      · rename_i h1 h2
        rw [if_neg h1, if_neg h2] at h; cases h
theorem stepsP_err (n : Nat) (b g m : Int) (picks : List (Int × Int)) : (stepsP n b g m picks).2 = 0 ∨ (stepsP n b g m picks).2 = 1 := by
  unfold stepsP
  split
  · exact .inr rfl
  · split
    · exact ordP_err _ _ _ _
    · exact .inl rfl
theorem sum_bd {l : List Nat} {B : Nat} (h : ∀ x ∈ l, x < B) : ∀ i, l.getD i 0 < B ∨ l.getD i 0 = 0 := by
  intro i
  rw [List.getD_eq_getElem?_getD]
  by_cases hi : i < l.length
  · rw [List.getElem?_eq_getElem hi]; exact .inl (h _ (List.getElem_mem hi))
  · rw [List.getElem?_eq_none (by omega)]; exact .inr rfl
end Go.Proofs.Ytbedfjbnafflfaa.Plain

/- The document's Blocks, Steps, Sums, Highest, Back, Totals (ref08). -/
namespace Go.Proofs.Ytbedfjbnafflfaa
open Go.BigFrame
open Go.RowKit Go.Proofs.Ytbedfjbnafflfaa.Plain

theorem Plain.ordP_plan {n : Nat} {g m : Int} {picks : List (Int × Int)} (h : (ordP n g m picks).2.2 = 0) : picks.length ≤ 4000 := by
  unfold ordP at h
  by_cases hb : planB g m picks.length = false
  · rw [if_pos hb] at h; cases h
  · exact ((planB_iff _ _ _).1 (by simpa using hb)).2.2.2.2
set_option maxRecDepth 100000 in
theorem rblocks_any (n : Nat) (b : Int) (w : World) (hn : n ≤ 1000) (hb : in64 b) :
    Calls Try.prog 43 #[.int .i64 n, .int .i64 b] w fun ed w' => ed = .returned (.int .i64 (blocksP n b)) ∧ w = w' := by
  have hn1 : (n : Int) ≤ 1000 := by omega
  have hn0 : (0 : Int) ≤ n := by omega
  unfold in64 at hb
  by_cases h1 : b < 1
  · have e : blocksP n b = 0 := by unfold blocksP; rw [if_neg (by omega)]
    rw [e]
    clear e
    go_enter Try.func43, Try.ntmps43
    go_wp2
    go_ret
    exact ⟨rfl, rfl⟩
  by_cases h2 : 100 < b
  · have e : blocksP n b = 0 := by unfold blocksP; rw [if_neg (by omega)]
    have h1' : 1 ≤ b := by omega
    rw [e]
    clear e h1
    go_enter Try.func43, Try.ntmps43
    go_wp2
    go_ret
    exact ⟨rfl, rfl⟩
  obtain ⟨B, rfl⟩ : ∃ B : Nat, b = B := ⟨b.toNat, by omega⟩
  have e : blocksP n B = (n + B - 1) / B := by unfold blocksP; rw [if_pos (by omega), Int.toNat_natCast]
  have h1' : (1 : Int) ≤ B := by omega
  have h2' : (B : Int) ≤ 100 := by omega
  have E := Lib.hid e
  clear e h1 h2 hb
  go_enter Try.func43, Try.ntmps43
  go_wp2
  all_goals go_ret
  all_goals refine ⟨ret_int ?_, rfl⟩
  all_goals (rw [E.out, Int.natCast_ediv]; congr 1; omega)
/-- a number, an error -/
def StepsSaid (r : Nat × Int) (w : World) (ed : Ending) (w' : World) : Prop := ed = .returned (.tuple #[.int .i64 r.1, .int .i64 r.2]) ∧ Ext w w'
set_option maxHeartbeats 1600000 in
set_option maxRecDepth 100000 in
theorem rsteps_any (n : Nat) (b g m : Int) (Ap : Option Addr) (cp : Nat) (picks : List (Int × Int)) (w : World) (hp : Rd kPk w (.slice Ap picks.length cp) picks) (n2 : n ≤ 900) (hb : in64 b) (hg : in64 g) (hm : in64 m) :
    Calls Try.prog 30 #[.int .i64 n, .int .i64 b, planV g m Ap picks.length cp] w (StepsSaid (stepsP n b g m picks) w) := by
  have HP := Lib.hid hp
  have HG := Lib.hid (And.intro hg (And.intro hm hb))
  unfold in64 at hb
  clear hp hg hm
  by_cases h1 : b < 1
  · have e : stepsP n b g m picks = (0, 1) := by unfold stepsP; rw [if_pos (by omega)]
    rw [e]
    clear e
    go_enter Try.func30, Try.ntmps30
    go_wp2_with fail
    go_ret2
    exact ⟨rfl, (Ext.refl _).alloc _⟩
  by_cases h2 : 100 < b
  · have e : stepsP n b g m picks = (0, 1) := by unfold stepsP; rw [if_pos (by omega)]
    have h1' : 1 ≤ b := by omega
    rw [e]
    clear e h1
    go_enter Try.func30, Try.ntmps30
    go_wp2_with fail
    go_ret2
    exact ⟨rfl, (Ext.refl _).alloc _⟩
  have h1' : 1 ≤ b := by omega
  have h2' : b ≤ 100 := by omega
  have herr := ordP_err n g m picks
  have HF : Hid (stepsP n b g m picks = if (ordP n g m picks).2.2 ≠ 0 then (0, (ordP n g m picks).2.2) else (2 * (ordP (blocksP n b) g m picks).2.1, 0)) := Lib.hid (by unfold stepsP; rw [if_neg (by omega)])
  have HE2 : Hid ((ordP n g m picks).2.2 = 0 → (ordP (blocksP n b) g m picks).2.2 = 0 ∧ (ordP (blocksP n b) g m picks).2.1 ≤ 30000) := Lib.hid (fun h => ⟨ordP_err_any _ _ _ _ _ h, by have := ordP_steps (blocksP n b) g m picks (Nat.le_trans (blocksP_le n b) n2); have := ordP_plan h; omega⟩)
  clear h1 h2 hb
  go_enter Try.func30, Try.ntmps30
  go_wp2_with fail
  refine (rorder_any n g m Ap cp picks _ (HP.out.ext ((Ext.refl _).alloc _)) n2 HG.out.1 HG.out.2.1).mono ?_
  obtain ⟨⟨os, st, er⟩, hr⟩ : ∃ x, ordP n g m picks = x := ⟨_, rfl⟩
  rw [hr] at HF HE2 herr ⊢
  simp only at HF HE2 herr
  rintro ed w1 ⟨L1, l1, rfl, hO, hE⟩
  simp only
  have k0 : w1.cell? ⟨w.heap.size, 0, none⟩ = some (.int .i64 g) := Ext.cell hE (by go_simp)
  have k1 : w1.cell? ⟨w.heap.size, 1, none⟩ = some (.int .i64 m) := Ext.cell hE (by go_simp)
  have k2 : w1.cell? ⟨w.heap.size, 2, none⟩ = some (.slice Ap picks.length cp) := Ext.cell hE (by go_simp)
  have kf : ∀ o, w1.frozen? ⟨w.heap.size, o, none⟩ = false := fun o => (Below.frozen hE (p := ⟨w.heap.size, o, none⟩) (by first | omega | (simp; omega) | simp)).trans (by go_simp)
  have HX := Lib.hid (((Ext.refl w).alloc (.cells #[.int .i64 g, .int .i64 m, .slice Ap picks.length cp] 26)).trans hE)
  clear hO hE hr kf
  rcases herr with rfl | rfl
  · rw [if_neg (by simp)] at HF
    obtain ⟨he2, hs2⟩ := HE2.out rfl
    obtain ⟨N, hN⟩ : ∃ N, blocksP n b = N := ⟨_, rfl⟩
    have hNl : N ≤ 900 := by have := blocksP_le n b; omega
    have HN := Lib.hid hN
    rw [hN] at he2 hs2 HF
    obtain ⟨⟨ou, su, eu⟩, hr⟩ : ∃ x, ordP N g m picks = x := ⟨_, rfl⟩
    have HR := Lib.hid hr
    rw [hr] at he2 hs2 HF
    simp only at he2 hs2
    subst he2
    have KS : Hid (∀ w', Ext w1 w' → w'.cell? ⟨w.heap.size, 0, none⟩ = some (.int .i64 g) ∧ w'.cell? ⟨w.heap.size, 1, none⟩ = some (.int .i64 m) ∧ w'.cell? ⟨w.heap.size, 2, none⟩ = some (.slice Ap picks.length cp)) := Lib.hid (fun w' hE => ⟨hE.cell k0, hE.cell k1, hE.cell k2⟩)
    have HB : ∀ w', Calls Try.prog 43 #[.int .i64 n, .int .i64 b] w' fun ed w'' => ed = .returned (.int .i64 N) ∧ w' = w'' := fun w' => by
      have h9 := rblocks_any n b w' (by omega) HG.out.2.2
      rw [HN.out] at h9; exact h9
    have HBB := Lib.hid HB
    have hsu : (su : Int) ≤ 30000 := by omega
    have hs0 : (0 : Int) ≤ su := by omega
    have hs2' := Lib.hid hs2
    clear hr hN HE2 HB hs2
    go_upto_region 6 with fail
    go_region_with (first
      | (go_at_call 43; refine (HBB.out _).mono ?_; rintro ed w5 ⟨rfl, rfl⟩)
      | (go_at_call 22; refine (rorder_any N g m Ap cp picks _ (HP.out.ext (by repeat (first | (with_reducible exact HX.out) | refine Ext.drew ?_ | refine Ext.drewN ?_ _))) hNl HG.out.1 HG.out.2.1).mono ?_; rw [HR.out]; rintro ed w5 ⟨L5, l5, rfl, hO5, hE5⟩))
    all_goals go_wp2_with fail
    all_goals go_ret2
    all_goals (rw [HF.out]; exact ⟨by first | rfl | simp, by first | exact HX.out.trans hE5 | exact (HX.out.drew).trans hE5⟩)
  · rw [if_pos (by decide)] at HF
    go_wp2_with fail
    go_ret2
    rw [HF.out]
    exact ⟨rfl, HX.out⟩
end Go.Proofs.Ytbedfjbnafflfaa

/- The document's Sums, Highest, Back (ref08). -/
namespace Go.Proofs.Ytbedfjbnafflfaa
open Go.BigFrame
open Go.RowKit Go.Proofs.Ytbedfjbnafflfaa.Plain

/-- words, a sum, steps, an error -/
def SumsSaid (r : List Nat × Nat × Nat × Int) (w : World) (ed : Ending) (w' : World) : Prop :=
  ∃ (L : Option Addr) (l : Nat), ed = .returned (.tuple #[.slice L r.1.length l, .int .u32 r.2.1, .int .i64 r.2.2.1, .int .i64 r.2.2.2]) ∧ Ow kU32 w.heap.size w' (.slice L r.1.length l) (zs r.1) ∧ Ext w w'
/-- a cell of a list of 32 bits -/
theorem u32_at {w : World} {L : Option Addr} {lc : Nat} {l : List Nat} (h : Rd kU32 w (.slice L l.length lc) (zs l)) (k : Nat) (hk : k < l.length) :
    ∃ bx ox, L = some ⟨bx, ox, none⟩ ∧ w.cell? ⟨bx, ox + k, none⟩ = some (.int .u32 (l.getD k 0 : Nat)) ∧ l.getD k 0 < 4294967296 := by
  obtain ⟨bx, ox, rfl, hcx⟩ := Rd.u32s h (by rw [zs_len]; omega)
  have z0 := hcx k (by rw [zs_len]; exact hk)
  have hok := h.okAt k (by rw [zs_len]; exact hk)
  rw [zs_getD] at z0
  have hok' : (0 : Int) ≤ ((l.getD k 0 : Nat) : Int) ∧ ((l.getD k 0 : Nat) : Int) ≤ 4294967295 := by rw [← zs_getD]; exact hok
  exact ⟨bx, ox, rfl, z0, by omega⟩
set_option maxHeartbeats 1600000 in
set_option maxRecDepth 100000 in
theorem rsums_any (l : List Nat) (L : Option Addr) (lc : Nat) (b g m : Int) (Ap : Option Addr) (cp : Nat) (picks : List (Int × Int)) (w : World) (hL : Rd kU32 w (.slice L l.length lc) (zs l)) (hp : Rd kPk w (.slice Ap picks.length cp) picks) (hl : l.length ≤ 900) (hb : in64 b) (hg : in64 g) (hm : in64 m) :
    Calls Try.prog 21 #[.slice L l.length lc, .int .i64 b, planV g m Ap picks.length cp] w (SumsSaid (sumsP l b g m picks) w) := by
  have HP := Lib.hid hp
  have HL := Lib.hid hL
  have HG := Lib.hid (And.intro hg (And.intro hm hb))
  have hl' : (l.length : Int) ≤ 900 := by omega
  have herr := stepsP_err l.length b g m picks
  clear hp hL hg hm hb
  go_enter Try.func21, Try.ntmps21
  go_wp2_with fail
  refine (rsteps_any l.length b g m Ap cp picks _ (HP.out.ext ((Ext.refl _).alloc _)) hl HG.out.2.2 HG.out.1 HG.out.2.1).mono ?_
  have HF : Hid (sumsP l b g m picks = if (stepsP l.length b g m picks).2 ≠ 0 then ([], 0, 0, (stepsP l.length b g m picks).2) else (sumsW l, totW l, (stepsP l.length b g m picks).1, 0)) := Lib.hid rfl
  obtain ⟨⟨st, er⟩, hr⟩ : ∃ x, stepsP l.length b g m picks = x := ⟨_, rfl⟩
  rw [hr] at HF herr ⊢
  simp only at HF herr
  rintro ed w1 ⟨rfl, hE1⟩
  have HX1 := Lib.hid (((Ext.refl w).alloc (.cells #[.int .i64 g, .int .i64 m, .slice Ap picks.length cp] 26)).trans hE1)
  clear hE1 hr
  rcases herr with rfl | rfl
  · rw [if_neg (by simp)] at HF
    have hz1 := HX1.out.size
    go_wp2_with fail
    go_loopw [12, 13, 14] (fun v s i wr => ∃ k : Nat, k ≤ l.length ∧ i = .int .i64 k ∧ s = .int .u32 (totW (l.take k)) ∧ Ow kU32 w1.heap.size wr v (zs (byN k (fun i => totW (l.take i)))) ∧ Ext w1 wr) (fun _ _ i _ => l.length - (intOf i).toNat)
    case atStart => exact ⟨0, Nat.zero_le _, rfl, rfl, Ow.nil _ _, Ext.refl _⟩
    case round =>
      obtain ⟨k, hk, rfl, rfl, hO, hX⟩ := hrel
      have HO := Lib.hid hO
      have HX := Lib.hid hX
      have hk0 : (0 : Int) ≤ k := by omega
      clear hO hX
      by_cases hlt : k < l.length
      · have hlt' : (k : Int) < l.length := by omega
        obtain ⟨bx, ox, rfl, z0, hxl⟩ := u32_at (HL.out.ext HX1.out) k hlt
        have lb1 : bx < w1.heap.size := World.block_lt_of_cell? _ _ z0
        have HNB : Hid (some bx ≠ u12.ownBlock) := Lib.hid (fun e => by have := (HO.out.lt _ e.symm).1; omega)
        replace z0 := HX.out.cell z0
        have htk := takeN_snoc hlt
        have hts := totW_snoc (l.take k) (l.getD k 0)
        rw [← htk] at hts
        obtain ⟨x, hx⟩ : ∃ x, l.getD k 0 = x := ⟨_, rfl⟩
        rw [hx] at z0 hxl hts
        have hsl := totW_lt (l.take k)
        have hbs := byN_snoc k (fun i => totW (l.take i))
        obtain ⟨s, hs⟩ : ∃ s, totW (l.take k) = s := ⟨_, rfl⟩
        rw [hs] at hts hsl hbs ⊢
        have HTS := Lib.hid hts
        have HBS := Lib.hid hbs
        have HSL := Lib.hid hsl
        have hx0 : (0 : Int) ≤ x := by omega
        have hs0 : (0 : Int) ≤ s := by omega
        have HLL : Hid ((zs (byN k (fun i => totW (l.take i)))).length + [(s : Int)].length ≤ 1048576) := Lib.hid (by rw [zs_len, byN_len, List.length_singleton]; omega)
        have hzx := HX.out.size
        have lbx : bx < wr.heap.size := World.block_lt_of_cell? _ _ z0
        have HZ := Lib.hid z0
        clear htk hts hx hxl hbs hs hsl
        go_wp2_with (at_builtin; refine kU32.wpList_app (by rfl) (.tmp 32) (.tmp 34) (by rfl) (by rfl) w1.heap.size _ (zs (byN k (fun i => totW (l.take i)))) (by rfl) (HO.out.ext ((Ext.refl _).alloc _)) _ [(s : Int)] (by rfl) (u32_lit _ s HSL.out) HLL.out (by simp; omega) ?_; intro v' w8 hown8 hgrow8 hat8; have z8 := hgrow8.cell (Ext.cell ((Ext.refl _).alloc (.cells #[.int .u32 s] 41)) z0) HNB.out)
        have H8 := Lib.hid (And.intro hown8 (And.intro hgrow8 hat8))
        clear hown8 hgrow8 hat8
        go_wp2_with fail
        go_roundw
        case rel =>
          obtain ⟨hown8, hgrow8, hat8⟩ := H8.out
          refine ⟨k + 1, by omega, by go_num, ?_, by rw [HBS.out, zs_app]; exact hown8, Ext.grown (HX.out.alloc _) hgrow8 (fun q hq => (HO.out.lt q hq).1)⟩
          rw [HTS.out]
          first | rfl | (congr 1; omega) | (simp; omega)
        case measure => simp [intOf]; omega
      · obtain rfl : k = l.length := by omega
        rw [List.take_length]
        obtain ⟨Lz, lz, hv, hlz⟩ := HO.out.slice
        subst hv
        have HXX := Lib.hid (HX1.out.trans HX.out)
        go_wp2_with fail
        refine bodyPost_ret (v := .tuple #[.slice Lz (zs (byN l.length (fun i => totW (l.take i)))).length lz, .int .u32 (totW l), .int .i64 st, .int .i64 0]) (by simp [results, Try.results21, go_sem]) rfl (by rw [HF.out]; exact ⟨Lz, lz, by rw [zs_len]; rfl, by have := HO.out.mono (B' := w.heap.size) (by omega); rw [zs_len] at this; exact this, HXX.out⟩)
  · rw [if_pos (by decide)] at HF
    go_wp2_with fail
    exact bodyPost_ret (v := .tuple #[.slice none 0 0, .int .u32 0, .int .i64 0, .int .i64 1]) (by simp [results, Try.results21, go_sem]) rfl (by rw [HF.out]; exact ⟨none, 0, rfl, Ow.nil _ _, HX1.out⟩)
/-- words, steps, an error: as WordsSaid -/
theorem Plain.maxL_lt (l : List Nat) (h : ∀ x ∈ l, x < 4294967296) : maxL l < 4294967296 := by
  have := maxL_le l 4294967295 (fun x hx => by have := h x hx; omega)
  omega
theorem u32_all {w : World} {L : Option Addr} {lc : Nat} {l : List Nat} (h : Rd kU32 w (.slice L l.length lc) (zs l)) : ∀ x ∈ l, x < 4294967296 := by
  intro x hx
  obtain ⟨i, hi, rfl⟩ := List.getElem_of_mem hx
  obtain ⟨_, _, _, _, h4⟩ := u32_at h i hi
  rw [List.getD_eq_getElem?_getD, List.getElem?_eq_getElem hi] at h4
  exact h4
/-- a list of words -/
def ListSaid (l : List Nat) (w : World) (ed : Ending) (w' : World) : Prop :=
  ∃ (L : Option Addr) (c : Nat), ed = .returned (.slice L l.length c) ∧ Ow kU32 w.heap.size w' (.slice L l.length c) (zs l) ∧ Ext w w'
theorem Plain.backF_lt (s : List Nat) (t i : Nat) : backF s t i < 4294967296 := Nat.mod_lt _ (by decide)
end Go.Proofs.Ytbedfjbnafflfaa

/- The document's Totals (ref08). -/
namespace Go.Proofs.Ytbedfjbnafflfaa
open Go.BigFrame
open Go.RowKit Go.Proofs.Ytbedfjbnafflfaa.Plain

theorem Plain.blocksP_at {n B k : Nat} {N : Nat} (h : blocksP n (B : Int) = N) (hk : k < N) : 1 ≤ B ∧ B ≤ 100 ∧ k * B < n := by
  unfold blocksP at h
  split at h
  · rename_i hv
    rw [Int.toNat_natCast] at h
    have hB : 1 ≤ B := by omega
    refine ⟨hB, by omega, ?_⟩
    rw [← h] at hk
    have h1 := (Nat.le_div_iff_mul_le (by omega : 0 < B)).1 hk
    rw [Nat.succ_mul] at h1
    omega
  · omega
/-- the sum of a block, so far -/
def Plain.blkW (l : List Nat) (a u : Nat) : Nat := totW ((l.drop a).take (u - a))
theorem Plain.blkW_start (l : List Nat) (a : Nat) : blkW l a a = 0 := by unfold blkW; rw [Nat.sub_self, List.take_zero]; rfl
theorem Plain.blkW_step (l : List Nat) (a u : Nat) (h : a ≤ u) (hu : u < l.length) : blkW l a (u + 1) = (blkW l a u + l.getD u 0) % 4294967296 := by
  unfold blkW
  have h1 : u - a < (l.drop a).length := by rw [List.length_drop]; omega
  have h2 := takeN_snoc h1
  rw [show u + 1 - a = u - a + 1 by omega, h2, totW_snoc]
  congr 2
  rw [List.getD_eq_getElem?_getD, List.getD_eq_getElem?_getD, List.getElem?_drop, show a + (u - a) = u by omega]
theorem Plain.blkW_end (l : List Nat) (a B : Nat) : blkW l a (min l.length (a + B)) = totW ((l.drop a).take B) := by
  unfold blkW
  congr 1
  rcases Nat.lt_or_ge (a + B) l.length with h | h
  · rw [show min l.length (a + B) - a = B by omega]
  · rw [List.take_of_length_le (by rw [List.length_drop]; omega), List.take_of_length_le (by rw [List.length_drop]; omega)]
end Go.Proofs.Ytbedfjbnafflfaa

/- Plain words of packing: what is kept, where, and spread again. No program in it. -/
namespace Go.Proofs.Ytbedfjbnafflfaa.Plain

abbrev kept (keep : List Bool) (i : Nat) : Bool := keep.getD i false
/-- places below n that are kept -/
def whereF (keep : List Bool) (n : Nat) : List Nat := (List.range n).filter (kept keep)
def whereL (keep : List Bool) : List Nat := whereF keep keep.length
theorem whereF_succ (keep : List Bool) (n : Nat) : whereF keep (n + 1) = whereF keep n ++ (if kept keep n = true then [n] else []) := by
  unfold whereF
  rw [List.range_succ, List.filter_append]
  congr 1
  by_cases h : kept keep n = true
  · rw [if_pos h, List.filter_cons_of_pos h]; rfl
  · rw [if_neg h, List.filter_cons_of_neg h]; rfl
theorem whereF_zero (keep : List Bool) : whereF keep 0 = [] := rfl
theorem whereF_len (keep : List Bool) (n : Nat) : (whereF keep n).length ≤ n := by
  unfold whereF
  have := List.length_filter_le (kept keep) (List.range n)
  rw [List.length_range] at this; exact this
theorem whereF_mem (keep : List Bool) (n i : Nat) : i ∈ whereF keep n ↔ i < n ∧ kept keep i = true := by unfold whereF; rw [List.mem_filter, List.mem_range]
theorem whereL_lt (keep : List Bool) : ∀ i ∈ whereL keep, i < keep.length := fun i h => ((whereF_mem _ _ _).1 h).1
def rank (keep : List Bool) (i : Nat) : Nat := (whereF keep i).length
theorem rank_succ (keep : List Bool) (i : Nat) : rank keep (i + 1) = rank keep i + (if kept keep i = true then 1 else 0) := by
  unfold rank
  rw [whereF_succ, List.length_append]
  split <;> rfl
theorem rank_le (keep : List Bool) : ∀ (i j : Nat), i ≤ j → rank keep i ≤ rank keep j := by
  intro i j h
  induction j with
  | zero => obtain rfl : i = 0 := by omega
            exact Nat.le_refl _
  | succ j ih =>
    by_cases e : i = j + 1
    · subst e; exact Nat.le_refl _
    · have := ih (by omega)
      rw [rank_succ]; omega
theorem where_rank (keep : List Bool) : ∀ n, (whereF keep n).map (rank keep) = List.range (rank keep n)
  | 0 => rfl
  | n + 1 => by
    rw [whereF_succ, List.map_append, where_rank keep n, rank_succ]
    by_cases h : kept keep n = true
    · rw [if_pos h, if_pos h, List.range_succ]; rfl
    · rw [if_neg h, if_neg h]; simp
theorem where_at (keep : List Bool) (i : Nat) (hk : kept keep i = true) : ∀ n, i < n → (whereF keep n).getD (rank keep i) 0 = i
  | 0, h => by omega
  | n + 1, h => by
    rw [whereF_succ]
    by_cases e : i = n
    · subst e
      rw [if_pos hk]
      show (whereF keep i ++ [i]).getD (whereF keep i).length 0 = i
      rw [List.getD_eq_getElem?_getD, List.getElem?_append_right (Nat.le_refl _)]
      simp
    · have ih := where_at keep i hk n (by omega)
      have hlt : rank keep i < (whereF keep n).length := by
        have h1 := rank_succ keep i
        rw [if_pos hk] at h1
        have h2 := rank_le keep (i + 1) n (by omega)
        show rank keep i < rank keep n
        omega
      rw [List.getD_eq_getElem?_getD, List.getElem?_append_left hlt, ← List.getD_eq_getElem?_getD]
      exact ih
theorem where_rises (keep : List Bool) (n i : Nat) (h : i + 1 < (whereF keep n).length) : (whereF keep n).getD i 0 < (whereF keep n).getD (i + 1) 0 := by
  have hp : (whereF keep n).Pairwise (· < ·) := List.Pairwise.filter _ List.pairwise_lt_range
  rw [List.pairwise_iff_getElem] at hp
  rw [List.getD_eq_getElem?_getD, List.getElem?_eq_getElem (by omega), List.getD_eq_getElem?_getD, List.getElem?_eq_getElem h]
  exact hp i (i + 1) (by omega) h (by omega)
theorem where_in (keep : List Bool) (n i : Nat) (h : i < (whereF keep n).length) : (whereF keep n).getD i 0 < n ∧ kept keep ((whereF keep n).getD i 0) = true := by
  have hm : (whereF keep n).getD i 0 ∈ whereF keep n := by
    rw [List.getD_eq_getElem?_getD, List.getElem?_eq_getElem h]; exact List.getElem_mem h
  exact (whereF_mem _ _ _).1 hm
/-- what is kept -/
def packL (l : List Nat) (keep : List Bool) : List Nat := (whereL keep).map (fun i => l.getD i 0)
theorem packL_len (l : List Nat) (keep : List Bool) : (packL l keep).length = (whereL keep).length := List.length_map ..
/-- the others -/
def othersF (l : List Nat) (keep : List Bool) (n : Nat) : List Nat := ((List.range n).filter (fun i => !kept keep i)).map (fun i => l.getD i 0)
theorem othersF_succ (l : List Nat) (keep : List Bool) (n : Nat) : othersF l keep (n + 1) = othersF l keep n ++ (if kept keep n = true then [] else [l.getD n 0]) := by
  unfold othersF
  rw [List.range_succ, List.filter_append, List.map_append]
  congr 1
  by_cases h : kept keep n = true
  · rw [if_pos h, List.filter_cons_of_neg (by rw [h]; decide)]; rfl
  · rw [if_neg h, List.filter_cons_of_pos (by simp only [Bool.not_eq_true] at h; rw [h]; rfl)]; rfl
/-- spread again -/
def spreadF (l : List Nat) (keep : List Bool) (rest : Nat) (i : Nat) : Nat := if kept keep i = true then l.getD (rank keep i) 0 else rest
def spreadL (l : List Nat) (keep : List Bool) (rest : Nat) : List Nat := byN keep.length (spreadF l keep rest)
/-- does it fit? -/
def spreadB (l : List Nat) (keep : List Bool) : Bool := decide ((whereL keep).length = l.length)
theorem pack_spread (l : List Nat) (keep : List Bool) (rest : Nat) (h : spreadB l keep = true) : packL (spreadL l keep rest) keep = l := by
  have hc : (whereL keep).length = l.length := of_decide_eq_true h
  have e : packL (spreadL l keep rest) keep = (whereL keep).map (fun i => l.getD (rank keep i) 0) := by
    unfold packL
    refine List.map_congr_left fun i hi => ?_
    obtain ⟨h1, h2⟩ := (whereF_mem keep keep.length i).1 hi
    unfold spreadL
    rw [byN_getD _ _ _ h1]
    unfold spreadF
    rw [if_pos h2]
  have e2 : (whereL keep).map (fun i => l.getD (rank keep i) 0) = ((whereL keep).map (rank keep)).map (fun i => l.getD i 0) := by rw [List.map_map]; rfl
  rw [e, e2]
  unfold whereL at hc ⊢
  rw [where_rank]
  show (List.range (whereF keep keep.length).length).map _ = l
  rw [hc]
  exact byN_id l
theorem spread_pack (l : List Nat) (keep : List Bool) (rest i : Nat) (hi : i < keep.length) : spreadB (packL l keep) keep = true ∧ (spreadL (packL l keep) keep rest).getD i 0 = if kept keep i = true then l.getD i 0 else rest := by
  refine ⟨decide_eq_true (packL_len l keep).symm, ?_⟩
  unfold spreadL
  rw [byN_getD _ _ _ hi]
  unfold spreadF
  by_cases hk : kept keep i = true
  · rw [if_pos hk, if_pos hk]
    have h1 := where_at keep i hk keep.length hi
    have hlt : rank keep i < (whereL keep).length := by
      have h3 := rank_succ keep i
      rw [if_pos hk] at h3
      have h2 := rank_le keep (i + 1) keep.length (by omega)
      show rank keep i < rank keep keep.length
      omega
    unfold packL
    rw [List.getD_eq_getElem?_getD, List.getElem?_map, List.getElem?_eq_getElem hlt]
    have h4 : (whereL keep)[rank keep i] = i := by
      have : (whereF keep keep.length).getD (rank keep i) 0 = (whereL keep)[rank keep i] := by
        rw [List.getD_eq_getElem?_getD]
        show ((whereL keep)[rank keep i]?).getD 0 = _
        rw [List.getElem?_eq_getElem hlt]; rfl
      rw [← this]; exact h1
    simp [h4]
  · rw [if_neg hk, if_neg hk]
/-- places, steps, an error -/
def whereP (keep : List Bool) (b g m : Int) (picks : List (Int × Int)) : List Nat × Nat × Int :=
  if (stepsP keep.length b g m picks).2 ≠ 0 then ([], 0, (stepsP keep.length b g m picks).2) else (whereL keep, (stepsP keep.length b g m picks).1 + (ordP keep.length g m picks).2.1, 0)
def packP (l : List Nat) (keep : List Bool) (b g m : Int) (picks : List (Int × Int)) : List Nat × Nat × Int :=
  if l.length ≠ keep.length then ([], 0, 1) else if (whereP keep b g m picks).2.2 ≠ 0 then ([], 0, (whereP keep b g m picks).2.2) else (packL l keep, (whereP keep b g m picks).2.1, 0)
def partP (l : List Nat) (keep : List Bool) (b g m : Int) (picks : List (Int × Int)) : List Nat × Nat × Nat × Int :=
  if (packP l keep b g m picks).2.2 ≠ 0 then ([], 0, 0, (packP l keep b g m picks).2.2) else (packL l keep ++ othersF l keep l.length, (packL l keep).length, 2 * (packP l keep b g m picks).2.1, 0)
theorem whereP_err (keep : List Bool) (b g m : Int) (picks : List (Int × Int)) : (whereP keep b g m picks).2.2 = 0 ∨ (whereP keep b g m picks).2.2 = 1 := by
  unfold whereP
  split
  · exact stepsP_err _ _ _ _ _
  · exact .inl rfl
theorem packP_err (l : List Nat) (keep : List Bool) (b g m : Int) (picks : List (Int × Int)) : (packP l keep b g m picks).2.2 = 0 ∨ (packP l keep b g m picks).2.2 = 1 := by
  unfold packP
  split
  · exact .inr rfl
  · split
    · exact whereP_err _ _ _ _ _
    · exact .inl rfl
/-- without an error: so many steps at most -/
theorem stepsP_bd (n : Nat) (b g m : Int) (picks : List (Int × Int)) (hn : n ≤ 900) (h : (stepsP n b g m picks).2 = 0) : (stepsP n b g m picks).1 ≤ 60000 ∧ (ordP n g m picks).2.2 = 0 ∧ (ordP n g m picks).2.1 ≤ 30000 := by
  unfold stepsP at h ⊢
  split at h
  · cases h
  · rename_i h1
    rw [if_neg h1]
    split at h
    · rename_i h2; exact absurd h h2
    · rename_i h2
      rw [if_neg h2]
      have h3 : (ordP n g m picks).2.2 = 0 := by simpa using h2
      have h4 : picks.length ≤ 4000 := by
        unfold ordP at h3
        by_cases hb : planB g m picks.length = false
        · rw [if_pos hb] at h3; cases h3
        · exact ((planB_iff _ _ _).1 (by simpa using hb)).2.2.2.2
      have h5 := ordP_steps n g m picks hn
      have h6 := ordP_steps (blocksP n b) g m picks (Nat.le_trans (blocksP_le n b) hn)
      refine ⟨?_, h3, by omega⟩
      show 2 * (ordP (blocksP n b) g m picks).2.1 ≤ 60000
      omega
theorem whereP_bd (keep : List Bool) (b g m : Int) (picks : List (Int × Int)) (hn : keep.length ≤ 900) : (whereP keep b g m picks).2.1 ≤ 90000 := by
  unfold whereP
  split
  · exact Nat.zero_le _
  · rename_i h
    have := stepsP_bd keep.length b g m picks hn (by simpa using h)
    show _ + _ ≤ 90000
    omega
theorem where_none (n : Nat) : whereL (List.replicate n false) = [] := by
  unfold whereL whereF
  rw [List.filter_eq_nil_iff]
  intro i _
  unfold kept
  rw [List.getD_eq_getElem?_getD, List.getElem?_replicate]
  split <;> simp
theorem where_all (n : Nat) : whereL (List.replicate n true) = List.range n := by
  unfold whereL whereF
  rw [List.length_replicate, List.filter_eq_self]
  intro i hi
  rw [List.mem_range] at hi
  unfold kept
  rw [List.getD_eq_getElem?_getD, List.getElem?_replicate, if_pos hi]; rfl
theorem pack_none (l : List Nat) (n : Nat) : packL l (List.replicate n false) = [] := by unfold packL; rw [where_none]; rfl
theorem pack_all (l : List Nat) : packL l (List.replicate l.length true) = l := by unfold packL; rw [where_all]; exact byN_id l
theorem pack_others (l : List Nat) (keep : List Bool) (h : l.length = keep.length) : packL l (keep.map (! ·)) = othersF l keep l.length := by
  unfold packL whereL whereF othersF
  rw [List.length_map, h]
  congr 1
  refine List.filter_congr fun i hi => ?_
  rw [List.mem_range] at hi
  unfold kept
  rw [List.getD_eq_getElem?_getD, List.getElem?_map, List.getD_eq_getElem?_getD, List.getElem?_eq_getElem hi]; rfl
end Go.Proofs.Ytbedfjbnafflfaa.Plain

/- The document's Where, Pack, Part, Spread (ref09). -/
namespace Go.Proofs.Ytbedfjbnafflfaa
open Go.BigFrame
open Go.RowKit Go.Proofs.Ytbedfjbnafflfaa.Plain

theorem Plain.sumsP_steps (l : List Nat) (b g m : Int) (picks : List (Int × Int)) : (sumsP l b g m picks).2.2.2 = (stepsP l.length b g m picks).2 ∧ ((stepsP l.length b g m picks).2 = 0 → (sumsP l b g m picks).2.2.1 = (stepsP l.length b g m picks).1) := by
  unfold sumsP
  split
  · rename_i h; exact ⟨rfl, fun h0 => absurd h0 h⟩
  · rename_i h
    have h0 : (stepsP l.length b g m picks).2 = 0 := by simpa using h
    exact ⟨h0.symm, fun _ => rfl⟩
/-- a bool of a list -/
theorem bool_at {w : World} {L : Option Addr} {lc : Nat} {l : List Bool} (h : Rd kBool w (.slice L l.length lc) l) (k : Nat) (hk : k < l.length) :
    ∃ bx ox, L = some ⟨bx, ox, none⟩ ∧ w.cell? ⟨bx, ox + k, none⟩ = some (.bool (kept l k)) := by
  obtain ⟨bx, ox, rfl, hcx⟩ := Rd.bools h (by omega)
  exact ⟨bx, ox, rfl, hcx k hk⟩
theorem int_list1 (w : World) (k : Nat) (hk : k ≤ 1000000) : Rd kInt (w.alloc (.cells #[.int .i64 k] 3)) (.slice (some ⟨w.heap.size, 0, none⟩) 1 1) [(k : Int)] :=
  Ow.rd (K := kInt) (B := 0) (Ow.lit (K := kInt) (p := w.heap.size) (n := 1) w [(k : Int)] #[.int .i64 k] rfl rfl rfl (Nat.zero_le _) (by simp [maxLen]) (by intro x hx; simp only [List.mem_singleton] at hx; subst hx; exact in64_nat k (by omega)))
set_option maxHeartbeats 1600000 in
set_option maxRecDepth 100000 in
theorem rwhere_any (keep : List Bool) (K : Option Addr) (kc : Nat) (b g m : Int) (Ap : Option Addr) (cp : Nat) (picks : List (Int × Int)) (w : World) (hK : Rd kBool w (.slice K keep.length kc) keep) (hp : Rd kPk w (.slice Ap picks.length cp) picks) (hl : keep.length ≤ 900) (hb : in64 b) (hg : in64 g) (hm : in64 m) :
    Calls Try.prog 11 #[.slice K keep.length kc, .int .i64 b, planV g m Ap picks.length cp] w (OrdSaid (whereP keep b g m picks) w) := by
  have HP := Lib.hid hp
  have HK := Lib.hid hK
  have HG := Lib.hid (And.intro hg (And.intro hm hb))
  have hl' : (keep.length : Int) ≤ 900 := by omega
  have HF : Hid (whereP keep b g m picks = if (stepsP keep.length b g m picks).2 ≠ 0 then ([], 0, (stepsP keep.length b g m picks).2) else (whereL keep, (stepsP keep.length b g m picks).1 + (ordP keep.length g m picks).2.1, 0)) := Lib.hid rfl
  have herr := stepsP_err keep.length b g m picks
  have hbd := stepsP_bd keep.length b g m picks hl
  have hsm := sumsP_steps (List.replicate keep.length 0) b g m picks
  rw [List.length_replicate] at hsm
  obtain ⟨⟨st, er⟩, hr⟩ : ∃ x, stepsP keep.length b g m picks = x := ⟨_, rfl⟩
  obtain ⟨⟨sl, stt, sst, ser⟩, hr2⟩ : ∃ x, sumsP (List.replicate keep.length 0) b g m picks = x := ⟨_, rfl⟩
  obtain ⟨⟨ou, su, eu⟩, hr3⟩ : ∃ x, ordP keep.length g m picks = x := ⟨_, rfl⟩
  rw [hr, hr3] at hbd HF
  rw [hr] at herr hsm
  rw [hr2] at hsm
  simp only at herr hbd hsm HF
  obtain ⟨rfl, hsm2⟩ := hsm
  have HR2 := Lib.hid hr2
  have HR3 := Lib.hid hr3
  have HBD : Hid (ser = 0 → st ≤ 60000 ∧ eu = 0 ∧ su ≤ 30000) := Lib.hid hbd
  have HSM : Hid (ser = 0 → sst = st) := Lib.hid hsm2
  obtain ⟨C, hmk, hmown⟩ := kU32.make 0 rfl (by show (0 : Int) ≤ 0 ∧ (0 : Int) ≤ 4294967295; omega) keep.length (by omega)
  have HMK := Lib.hid hmown
  have hmk2 : ∀ w : World, (Instr.makeSlice 22 (.int .i64 keep.length) (.int .i64 keep.length)).run Try.prog w = .ok (.slice (some ⟨w.heap.size, 0, none⟩) keep.length keep.length) (w.alloc (.cells C 41)) := hmk
  clear hp hK hg hm hb hr hr2 hr3 hbd hsm2 hmk hmown
  go_enter Try.func11, Try.ntmps11
  go_upto_region 1 with fail
  obtain ⟨w1, hw1⟩ : ∃ w1, w.alloc (.cells #[.int .i64 g, .int .i64 m, .slice Ap picks.length cp] 26) = w1 := ⟨_, rfl⟩
  have k0 : w1.cell? ⟨w.heap.size, 0, none⟩ = some (.int .i64 g) := by subst hw1; go_simp
  have k1 : w1.cell? ⟨w.heap.size, 1, none⟩ = some (.int .i64 m) := by subst hw1; go_simp
  have k2 : w1.cell? ⟨w.heap.size, 2, none⟩ = some (.slice Ap picks.length cp) := by subst hw1; go_simp
  have HX1 : Hid (Ext w w1) := Lib.hid (by rw [← hw1]; exact (Ext.refl w).alloc _)
  have lw1 : w.heap.size < w1.heap.size := by rw [← hw1]; simp
  rw [hw1]
  clear hw1
  go_cut [11, 12] (fun s e wx => s = .int .i64 sst ∧ e = .int .i64 ser ∧ Ext w1 wx)
  case first =>
    go_region_law (first
      | (go_simp; go_at_call 21
         have hh := rsums_any (List.replicate keep.length 0) (some ⟨w1.heap.size, 0, none⟩) keep.length b g m Ap cp picks ((w1.alloc (.cells C 41)).drew) (by
            have h9 := (HMK.out w1 0 w1.heap.size rfl (Nat.zero_le _)).rd
            rw [List.length_replicate]
            have e9 : zs (List.replicate keep.length 0) = List.replicate keep.length (0 : Int) := by unfold zs; rw [List.map_replicate]; rfl
            rw [e9]
            exact h9.ext (Ext.refl _).drew) (HP.out.ext ((HX1.out.alloc _).drew)) (by rw [List.length_replicate]; omega) HG.out.2.2 HG.out.1 HG.out.2.1
         rw [List.length_replicate] at hh
         refine hh.mono ?_
         rw [HR2.out]
         rintro ed w5 ⟨L5, l5, rfl, hO5, hE5⟩))
    all_goals go_wp2_with fail
    all_goals go_meet
    all_goals exact ⟨rfl, rfl, (((Ext.refl w1).alloc _).drew).trans hE5⟩
  case rest =>
  obtain ⟨rfl, rfl, hE2⟩ := hcut
  generalize wc = w2 at *
  replace k0 := Ext.cell hE2 k0
  replace k1 := Ext.cell hE2 k1
  replace k2 := Ext.cell hE2 k2
  have lw2 : w.heap.size < w2.heap.size := by have := hE2.size; omega
  have HX2 := Lib.hid (HX1.out.trans hE2)
  clear hE2 lw1 hmk2 HMK HX1
  rcases herr with rfl | rfl
  · obtain ⟨hb1, rfl, hb2⟩ := HBD.out rfl
    obtain rfl := HSM.out rfl
    rw [if_neg (by simp)] at HF
    have hs1 : (sst : Int) ≤ 60000 := by omega
    have hs2 : (su : Int) ≤ 30000 := by omega
    have hs10 : (0 : Int) ≤ sst := by omega
    have hs20 : (0 : Int) ≤ su := by omega
    go_wp2_with fail
    refine (rorder_any keep.length g m Ap cp picks _ (HP.out.ext HX2.out) hl HG.out.1 HG.out.2.1).mono ?_
    rw [HR3.out]
    rintro ed w3 ⟨L3, l3, rfl, hO3, hE3⟩
    have HX3 := Lib.hid (HX2.out.trans hE3)
    clear hO3 hE3 k0 k1 k2 lw2 HX2 hb1 hb2
    go_wp2_with fail
    go_loopw [15, 16] (fun v i wr => ∃ k : Nat, k ≤ keep.length ∧ i = .int .i64 k ∧ Ow kInt w3.heap.size wr v (zs (whereF keep k)) ∧ Ext w3 wr) (fun _ i _ => keep.length - (intOf i).toNat)
    case atStart => exact ⟨0, Nat.zero_le _, rfl, Ow.nil _ _, Ext.refl _⟩
    case round =>
      obtain ⟨k, hk, rfl, hO, hX⟩ := hrel
      have HO := Lib.hid hO
      have HX := Lib.hid hX
      have hk0 : (0 : Int) ≤ k := by omega
      clear hO hX
      by_cases hlt : k < keep.length
      · have hlt' : (k : Int) < keep.length := by omega
        obtain ⟨bx, ox, rfl, z0⟩ := bool_at (HK.out.ext (HX3.out.trans HX.out)) k hlt
        have lbx : bx < wr.heap.size := World.block_lt_of_cell? _ _ z0
        have hws := whereF_succ keep k
        cases hkp : kept keep k with
        | false =>
          rw [hkp] at z0 hws
          rw [if_neg (by decide), List.append_nil] at hws
          have HWS := Lib.hid hws
          clear hws hkp
          go_wp2_with fail
          go_roundw
          case rel => exact ⟨k + 1, by omega, by go_num, by rw [HWS.out]; exact HO.out, HX.out⟩
          case measure => simp [intOf]; omega
        | true =>
          rw [hkp] at z0 hws
          rw [if_pos rfl] at hws
          have HWS := Lib.hid hws
          have HLL : Hid ((zs (whereF keep k)).length + [(k : Int)].length ≤ 1048576) := Lib.hid (by rw [zs_len, List.length_singleton]; have := whereF_len keep k; omega)
          have hzx := HX.out.size
          clear hws hkp
          go_wp2_with (at_builtin; refine kInt.wpList_app (by rfl) (.tmp 52) (.tmp 54) (by rfl) (by rfl) w3.heap.size _ (zs (whereF keep k)) (by rfl) (HO.out.ext ((Ext.refl _).alloc _)) _ [(k : Int)] (by rfl) (int_list1 _ k (by omega)) HLL.out (by simp; omega) ?_; intro v' w8 hown8 hgrow8 hat8)
          have H8 := Lib.hid (And.intro hown8 (And.intro hgrow8 hat8))
          clear hown8 hgrow8 hat8
          go_wp2_with fail
          go_roundw
          case rel =>
            obtain ⟨hown8, hgrow8, hat8⟩ := H8.out
            exact ⟨k + 1, by omega, by go_num, by rw [HWS.out, zs_app]; exact hown8, Ext.grown (HX.out.alloc _) hgrow8 (fun q hq => (HO.out.lt q hq).1)⟩
          case measure => simp [intOf]; omega
      · obtain rfl : k = keep.length := by omega
        obtain ⟨Lz, lz, hv, hlz⟩ := HO.out.slice
        subst hv
        have HXX := Lib.hid (HX3.out.trans HX.out)
        go_wp2_with fail
        refine bodyPost_ret (v := .tuple #[.slice Lz (zs (whereF keep keep.length)).length lz, .int .i64 ((sst : Int) + su), .int .i64 0]) (by simp [results, Try.results11, go_sem]) rfl (by rw [HF.out]; exact ⟨Lz, lz, by rw [zs_len]; simp [whereL], by have := HO.out.mono (B' := w.heap.size) HX3.out.size; rw [zs_len] at this; exact this, HXX.out⟩)
  · rw [if_pos (by decide)] at HF
    go_wp2_with fail
    exact bodyPost_ret (v := .tuple #[.slice none 0 0, .int .i64 0, .int .i64 1]) (by simp [results, Try.results11, go_sem]) rfl (by rw [HF.out]; exact ⟨none, 0, rfl, Ow.nil _ _, HX2.out⟩)
end Go.Proofs.Ytbedfjbnafflfaa

/- The document's Pack, Part, Spread (ref09). -/
namespace Go.Proofs.Ytbedfjbnafflfaa
open Go.BigFrame
open Go.RowKit Go.Proofs.Ytbedfjbnafflfaa.Plain

theorem Plain.packL_take (l : List Nat) (W : List Nat) (k : Nat) (h : k < W.length) : (W.take (k + 1)).map (fun i => l.getD i 0) = (W.take k).map (fun i => l.getD i 0) ++ [l.getD (W.getD k 0) 0] := by
  rw [takeN_snoc h, List.map_append]; rfl
set_option maxHeartbeats 1600000 in
set_option maxRecDepth 100000 in
theorem rpack_any (l : List Nat) (keep : List Bool) (L K : Option Addr) (lc kc : Nat) (b g m : Int) (Ap : Option Addr) (cp : Nat) (picks : List (Int × Int)) (w : World) (hL : Rd kU32 w (.slice L l.length lc) (zs l)) (hK : Rd kBool w (.slice K keep.length kc) keep) (hp : Rd kPk w (.slice Ap picks.length cp) picks) (hl : keep.length ≤ 900) (hb : in64 b) (hg : in64 g) (hm : in64 m) :
    Calls Try.prog 9 #[.slice L l.length lc, .slice K keep.length kc, .int .i64 b, planV g m Ap picks.length cp] w (WordsSaid (packP l keep b g m picks) w) := by
  have HP := Lib.hid hp
  have HL := Lib.hid hL
  have HK := Lib.hid hK
  have HG := Lib.hid (And.intro hg (And.intro hm hb))
  have hl' : (keep.length : Int) ≤ 900 := by omega
  have herr := whereP_err keep b g m picks
  clear hp hL hK hg hm hb
  go_enter Try.func9, Try.ntmps9
  by_cases hlk : l.length ≠ keep.length
  · have hne : ((l.length : Int) != (keep.length : Int)) = true := by simp; omega
    have HE : Hid (packP l keep b g m picks = ([], 0, 1)) := Lib.hid (by unfold packP; rw [if_pos hlk])
    go_wp2_with fail
    exact bodyPost_ret (v := .tuple #[.slice none 0 0, .int .i64 0, .int .i64 1]) (by simp [results, Try.results9, go_sem]) rfl (by rw [HE.out]; exact ⟨none, 0, rfl, Ow.nil _ _, (Ext.refl _).alloc _⟩)
  have hlk' : l.length = keep.length := by omega
  have hne : ((l.length : Int) != (keep.length : Int)) = false := by simp; omega
  have HLK := Lib.hid hlk'
  have HF : Hid (packP l keep b g m picks = if (whereP keep b g m picks).2.2 ≠ 0 then ([], 0, (whereP keep b g m picks).2.2) else (packL l keep, (whereP keep b g m picks).2.1, 0)) := Lib.hid (by unfold packP; rw [if_neg (by omega)])
  have HW : Hid ((whereP keep b g m picks).2.2 = 0 → (whereP keep b g m picks).1 = whereL keep) := Lib.hid (by
    intro h0
    unfold whereP at h0 ⊢
    split
    · rename_i h; rw [if_pos h] at h0; exact absurd h0 h
    · rfl)
  clear hlk hlk'
  go_wp2_with fail
  refine (rwhere_any keep K kc b g m Ap cp picks _ (HK.out.ext ((Ext.refl _).alloc _)) (HP.out.ext ((Ext.refl _).alloc _)) hl HG.out.2.2 HG.out.1 HG.out.2.1).mono ?_
  obtain ⟨⟨wl, st, er⟩, hr⟩ : ∃ x, whereP keep b g m picks = x := ⟨_, rfl⟩
  rw [hr] at HF HW herr ⊢
  simp only at HF HW herr
  rintro ed w1 ⟨L1, l1, rfl, hO1, hE1⟩
  simp only at hO1 ⊢
  have HX1 := Lib.hid (((Ext.refl w).alloc (.cells #[.int .i64 g, .int .i64 m, .slice Ap picks.length cp] 26)).trans hE1)
  have HO1 := Lib.hid hO1.rd
  clear hE1 hr hO1
  rcases herr with rfl | rfl
  · rw [if_neg (by simp)] at HF
    have HWL := Lib.hid (HW.out rfl)
    have hz1 := HX1.out.size
    have hwn : (wl.length : Int) ≤ 900 := by have h8 := whereF_len keep keep.length; have h9 := HWL.out; rw [h9]; unfold whereL; omega
    go_wp2_with fail
    go_loopw [14, 15] (fun v i wr => ∃ k : Nat, k ≤ wl.length ∧ i = .int .i64 k ∧ Ow kU32 w1.heap.size wr v (zs ((wl.take k).map (fun i => l.getD i 0))) ∧ Ext w1 wr) (fun _ i _ => wl.length - (intOf i).toNat)
    case atStart => exact ⟨0, Nat.zero_le _, rfl, Ow.nil _ _, Ext.refl _⟩
    case round =>
      obtain ⟨k, hk, rfl, hO, hX⟩ := hrel
      have HO := Lib.hid hO
      have HX := Lib.hid hX
      have hk0 : (0 : Int) ≤ k := by omega
      clear hO hX
      by_cases hlt : k < wl.length
      · have hlt' : (k : Int) < wl.length := by omega
        obtain ⟨bw, ow, rfl, hcw⟩ := (ints_of_rd (HO1.out.ext HX.out)).cells (by rw [zs_len]; omega)
        have y0 := hcw k (by rw [zs_len]; exact hlt)
        rw [zs_getD] at y0
        have hin : wl.getD k 0 < l.length := by
          have h9 := HWL.out
          have h8 := where_in keep keep.length k (by rw [h9] at hlt; exact hlt)
          rw [h9, HLK.out]; exact h8.1
        have htk := packL_take l wl k hlt
        obtain ⟨u, hu⟩ : ∃ u, wl.getD k 0 = u := ⟨_, rfl⟩
        rw [hu] at y0 hin htk
        obtain ⟨bx, ox, rfl, z0, hxl⟩ := u32_at (HL.out.ext (HX1.out.trans HX.out)) u hin
        obtain ⟨x, hx⟩ : ∃ x, l.getD u 0 = x := ⟨_, rfl⟩
        rw [hx] at z0 hxl htk
        have HTK := Lib.hid htk
        have HXL := Lib.hid hxl
        have HLL : Hid ((zs ((wl.take k).map (fun i => l.getD i 0))).length + [(x : Int)].length ≤ 1048576) := Lib.hid (by rw [zs_len, List.length_map, List.length_take, List.length_singleton]; omega)
        have hzx := HX.out.size
        have hu0 : (0 : Int) ≤ u := by omega
        have hu1 : (u : Int) < l.length := by omega
        have lbw : bw < wr.heap.size := World.block_lt_of_cell? _ _ y0
        have lbx : bx < wr.heap.size := World.block_lt_of_cell? _ _ z0
        clear hcw htk hu hx hxl
        go_wp2_with (at_builtin; refine kU32.wpList_app (by rfl) (.tmp 38) (.tmp 46) (by rfl) (by rfl) w1.heap.size _ (zs ((wl.take k).map (fun i => l.getD i 0))) (by rfl) (HO.out.ext ((Ext.refl _).alloc _)) _ [(x : Int)] (by rfl) (u32_lit _ x HXL.out) HLL.out (by simp; omega) ?_; intro v' w8 hown8 hgrow8 hat8)
        have H8 := Lib.hid (And.intro hown8 (And.intro hgrow8 hat8))
        clear hown8 hgrow8 hat8
        go_wp2_with fail
        go_roundw
        case rel =>
          obtain ⟨hown8, hgrow8, hat8⟩ := H8.out
          exact ⟨k + 1, by omega, by go_num, by rw [HTK.out, zs_app]; exact hown8, Ext.grown (HX.out.alloc _) hgrow8 (fun q hq => (HO.out.lt q hq).1)⟩
        case measure => simp [intOf]; omega
      · obtain rfl : k = wl.length := by omega
        rw [List.take_length] at HO
        obtain ⟨Lz, lz, hv, hlz⟩ := HO.out.slice
        subst hv
        have HXX := Lib.hid (HX1.out.trans HX.out)
        have HPL : Hid (packL l keep = wl.map (fun i => l.getD i 0)) := Lib.hid (by rw [HWL.out]; rfl)
        go_wp2_with fail
        refine bodyPost_ret (v := .tuple #[.slice Lz (zs (wl.map (fun i => l.getD i 0))).length lz, .int .i64 st, .int .i64 0]) (by simp [results, Try.results9, go_sem]) rfl (by rw [HF.out, HPL.out]; exact ⟨Lz, lz, by rw [zs_len], by have := HO.out.mono (B' := w.heap.size) (by omega); rw [zs_len] at this; exact this, HXX.out⟩)
  · rw [if_pos (by decide)] at HF
    go_wp2_with fail
    exact bodyPost_ret (v := .tuple #[.slice none 0 0, .int .i64 0, .int .i64 1]) (by simp [results, Try.results9, go_sem]) rfl (by rw [HF.out]; exact ⟨none, 0, rfl, Ow.nil _ _, HX1.out⟩)
/-- words, how many, steps, an error -/
def Part9Said (r : List Nat × Nat × Nat × Int) (w : World) (ed : Ending) (w' : World) : Prop :=
  ∃ (L : Option Addr) (l : Nat), ed = .returned (.tuple #[.slice L r.1.length l, .int .i64 r.2.1, .int .i64 r.2.2.1, .int .i64 r.2.2.2]) ∧ Ow kU32 w.heap.size w' (.slice L r.1.length l) (zs r.1) ∧ Ext w w'
theorem ow_empty9 {α : Type} {K : Kd α} {B p : Nat} {w : World} (h : w.heap[p]? = some (.cells #[] K.e)) (hB : B ≤ p) : Ow K B w (.slice (some ⟨p, 0, none⟩) 0 0) [] :=
  ⟨⟨by simp [Kd.flat], .inr ⟨p, 0, #[], rfl, hB, h, Nat.le_refl _, by simp [maxLen], by simp, by simp [Kd.flat]⟩⟩, by simp⟩
set_option maxHeartbeats 1600000 in
set_option maxRecDepth 100000 in
theorem rpart9_any (l : List Nat) (keep : List Bool) (L K : Option Addr) (lc kc : Nat) (b g m : Int) (Ap : Option Addr) (cp : Nat) (picks : List (Int × Int)) (w : World) (hL : Rd kU32 w (.slice L l.length lc) (zs l)) (hK : Rd kBool w (.slice K keep.length kc) keep) (hp : Rd kPk w (.slice Ap picks.length cp) picks) (hl : keep.length ≤ 900) (hb : in64 b) (hg : in64 g) (hm : in64 m) :
    Calls Try.prog 13 #[.slice L l.length lc, .slice K keep.length kc, .int .i64 b, planV g m Ap picks.length cp] w (Part9Said (partP l keep b g m picks) w) := by
  have HP := Lib.hid hp
  have HL := Lib.hid hL
  have HK := Lib.hid hK
  have HG := Lib.hid (And.intro hg (And.intro hm hb))
  have herr := packP_err l keep b g m picks
  have HF : Hid (partP l keep b g m picks = if (packP l keep b g m picks).2.2 ≠ 0 then ([], 0, 0, (packP l keep b g m picks).2.2) else (packL l keep ++ othersF l keep l.length, (packL l keep).length, 2 * (packP l keep b g m picks).2.1, 0)) := Lib.hid rfl
  have HW : Hid ((packP l keep b g m picks).2.2 = 0 → l.length = keep.length ∧ (packP l keep b g m picks).1 = packL l keep ∧ (packP l keep b g m picks).2.1 ≤ 90000) := Lib.hid (by
    intro h0
    have hbd := whereP_bd keep b g m picks hl
    unfold packP at h0 ⊢
    split
    · rename_i h; rw [if_pos h] at h0; cases h0
    · rename_i h
      rw [if_neg h] at h0
      split
      · rename_i h2; rw [if_pos h2] at h0; exact absurd h0 h2
      · exact ⟨by omega, rfl, hbd⟩)
  clear hp hL hK hg hm hb
  go_enter Try.func13, Try.ntmps13
  go_wp2_with fail
  refine (rpack_any l keep L K lc kc b g m Ap cp picks _ (HL.out.ext ((Ext.refl _).alloc _)) (HK.out.ext ((Ext.refl _).alloc _)) (HP.out.ext ((Ext.refl _).alloc _)) hl HG.out.2.2 HG.out.1 HG.out.2.1).mono ?_
  obtain ⟨⟨pl, st, er⟩, hr⟩ : ∃ x, packP l keep b g m picks = x := ⟨_, rfl⟩
  rw [hr] at HF HW herr ⊢
  simp only at HF HW herr
  rintro ed w1 ⟨L1, l1, rfl, hO1, hE1⟩
  simp only at hO1 ⊢
  have HX1 := Lib.hid (((Ext.refl w).alloc (.cells #[.int .i64 g, .int .i64 m, .slice Ap picks.length cp] 26)).trans hE1)
  have HO1 := Lib.hid hO1.rd
  clear hE1 hr hO1
  rcases herr with rfl | rfl
  · rw [if_neg (by simp)] at HF
    obtain ⟨hlk, hpl, hst⟩ := HW.out rfl
    have HPL := Lib.hid hpl
    have HLK := Lib.hid hlk
    have hpn : pl.length ≤ 900 := by
      rw [hpl, packL_len]
      have := whereF_len keep keep.length
      unfold whereL; omega
    have hz1 := HX1.out.size
    have hl' : (l.length : Int) ≤ 900 := by omega
    have hst' : (st : Int) ≤ 90000 := by omega
    have hst0 : (0 : Int) ≤ st := by omega
    have HPN := Lib.hid hpn
    clear hpl hlk hst hpn
    go_wp2_with (at_builtin; refine kU32.wpList_app (by rfl) (.tmp 29) (.tmp 30) (by rfl) (by rfl) w1.heap.size _ [] (by rfl) (ow_empty9 (heap_alloc_new w1 _) (Nat.le_refl _)) _ (zs pl) (by rfl) (HO1.out.ext ((Ext.refl _).alloc _)) (by rw [zs_len, List.length_nil]; have := HPN.out; omega) (by simp) ?_; intro v' w5 hown5 hgrow5 hat5)
    rw [List.nil_append] at hown5
    have HO5 := Lib.hid hown5
    have HX5 : Hid (Ext w1 w5) := Lib.hid (Ext.grown ((Ext.refl w1).alloc _) hgrow5 (fun q hq => by cases hq; exact Nat.le_refl _))
    clear hown5 hgrow5 hat5
    go_wp2_with fail
    go_loopw [15, 16] (fun v i wr => ∃ k : Nat, k ≤ l.length ∧ i = .int .i64 k ∧ Ow kU32 w1.heap.size wr v (zs (pl ++ othersF l keep k)) ∧ Ext w1 wr) (fun _ i _ => l.length - (intOf i).toNat)
    case atStart => exact ⟨0, Nat.zero_le _, rfl, by rw [show othersF l keep 0 = [] from rfl, List.append_nil]; exact HO5.out, HX5.out⟩
    case round =>
      obtain ⟨k, hk, rfl, hO, hX⟩ := hrel
      have HO := Lib.hid hO
      have HX := Lib.hid hX
      have hk0 : (0 : Int) ≤ k := by omega
      clear hO hX
      by_cases hlt : k < l.length
      · have hlt' : (k : Int) < l.length := by omega
        have hkk : k < keep.length := by have := HLK.out; omega
        have hkk' : (k : Int) < keep.length := by omega
        obtain ⟨bk, ok, rfl, y0⟩ := bool_at (HK.out.ext (HX1.out.trans HX.out)) k hkk
        obtain ⟨bx, ox, rfl, z0, hxl⟩ := u32_at (HL.out.ext (HX1.out.trans HX.out)) k hlt
        have lbk : bk < wr.heap.size := World.block_lt_of_cell? _ _ y0
        have lbx : bx < wr.heap.size := World.block_lt_of_cell? _ _ z0
        have hws := othersF_succ l keep k
        obtain ⟨x, hx⟩ : ∃ x, l.getD k 0 = x := ⟨_, rfl⟩
        rw [hx] at z0 hxl hws
        cases hkp : kept keep k with
        | true =>
          rw [hkp] at y0 hws
          rw [if_pos rfl, List.append_nil] at hws
          have HWS := Lib.hid hws
          clear hws hkp hx hxl
          go_wp2_with fail
          go_roundw
          case rel => exact ⟨k + 1, by omega, by go_num, by rw [HWS.out]; exact HO.out, HX.out⟩
          case measure => simp [intOf]; omega
        | false =>
          rw [hkp] at y0 hws
          rw [if_neg (by decide)] at hws
          have HWS := Lib.hid hws
          have HXL := Lib.hid hxl
          have hon : (othersF l keep k).length ≤ k := by
            unfold othersF
            rw [List.length_map]
            have := List.length_filter_le (fun i => !kept keep i) (List.range k)
            rw [List.length_range] at this; exact this
          have HLL : Hid ((zs (pl ++ othersF l keep k)).length + [(x : Int)].length ≤ 1048576) := Lib.hid (by rw [zs_len, List.length_append, List.length_singleton]; have := HPN.out; omega)
          have hzx := HX.out.size
          clear hws hkp hx hxl hon
          go_wp2_with (at_builtin; refine kU32.wpList_app (by rfl) (.tmp 43) (.tmp 48) (by rfl) (by rfl) w1.heap.size _ (zs (pl ++ othersF l keep k)) (by rfl) (HO.out.ext ((Ext.refl _).alloc _)) _ [(x : Int)] (by rfl) (u32_lit _ x HXL.out) HLL.out (by simp; omega) ?_; intro v' w8 hown8 hgrow8 hat8)
          have H8 := Lib.hid (And.intro hown8 (And.intro hgrow8 hat8))
          clear hown8 hgrow8 hat8
          go_wp2_with fail
          go_roundw
          case rel =>
            obtain ⟨hown8, hgrow8, hat8⟩ := H8.out
            exact ⟨k + 1, by omega, by go_num, by rw [HWS.out, ← List.append_assoc, zs_app]; exact hown8, Ext.grown (HX.out.alloc _) hgrow8 (fun q hq => (HO.out.lt q hq).1)⟩
          case measure => simp [intOf]; omega
      · obtain rfl : k = l.length := by omega
        obtain ⟨Lz, lz, hv, hlz⟩ := HO.out.slice
        subst hv
        have HXX := Lib.hid (HX1.out.trans HX.out)
        go_wp2_with fail
        refine bodyPost_ret (v := .tuple #[.slice Lz (zs (pl ++ othersF l keep l.length)).length lz, .int .i64 pl.length, .int .i64 (2 * (st : Int)), .int .i64 0]) (by simp [results, Try.results13, go_sem]) rfl (by rw [HF.out, ← HPL.out]; exact ⟨Lz, lz, by rw [zs_len]; simp, by have := HO.out.mono (B' := w.heap.size) (by omega); rw [zs_len] at this; exact this, HXX.out⟩)
  · rw [if_pos (by decide)] at HF
    go_wp2_with fail
    exact bodyPost_ret (v := .tuple #[.slice none 0 0, .int .i64 0, .int .i64 0, .int .i64 1]) (by simp [results, Try.results13, go_sem]) rfl (by rw [HF.out]; exact ⟨none, 0, rfl, Ow.nil _ _, HX1.out⟩)
end Go.Proofs.Ytbedfjbnafflfaa

/- The document's Spread (ref09). -/
namespace Go.Proofs.Ytbedfjbnafflfaa
open Go.BigFrame
open Go.RowKit Go.Proofs.Ytbedfjbnafflfaa.Plain

/-- spread, or not -/
def Plain.sprP (l : List Nat) (keep : List Bool) (rest : Nat) : List Nat × Bool := if spreadB l keep = true then (spreadL l keep rest, true) else ([], false)
def SprSaid (r : List Nat × Bool) (w : World) (ed : Ending) (w' : World) : Prop :=
  ∃ (L : Option Addr) (c : Nat), ed = .returned (.tuple #[.slice L r.1.length c, .bool r.2]) ∧ Ow kU32 w.heap.size w' (.slice L r.1.length c) (zs r.1) ∧ Ext w w'
theorem Plain.sprP_no (l : List Nat) (keep : List Bool) (rest : Nat) (h : (whereL keep).length ≠ l.length) : sprP l keep rest = ([], false) := by
  unfold sprP spreadB
  rw [if_neg (by simpa using h)]
theorem Plain.sprP_yes (l : List Nat) (keep : List Bool) (rest : Nat) (h : (whereL keep).length = l.length) : sprP l keep rest = (byN keep.length (spreadF l keep rest), true) := by
  unfold sprP spreadB
  rw [if_pos (by simpa using h)]
  rfl
set_option maxHeartbeats 1600000 in
set_option maxRecDepth 100000 in
theorem rspread_any (l : List Nat) (keep : List Bool) (L K : Option Addr) (lc kc rest : Nat) (w : World) (hL : Rd kU32 w (.slice L l.length lc) (zs l)) (hK : Rd kBool w (.slice K keep.length kc) keep) (hl : keep.length ≤ 900) (hr : rest < 4294967296) :
    Calls Try.prog 17 #[.slice L l.length lc, .slice K keep.length kc, .int .u32 rest] w (SprSaid (sprP l keep rest) w) := by
  have HL := Lib.hid hL
  have HK := Lib.hid hK
  have HR := Lib.hid hr
  have hl' : (keep.length : Int) ≤ 900 := by omega
  clear hL hK hr
  go_enter Try.func17, Try.ntmps17
  go_wp2_with fail
  go_loopw [8, 9, 10] (fun v k i wr => ∃ j : Nat, j ≤ keep.length ∧ i = .int .i64 j ∧ k = .int .i64 (rank keep j) ∧ rank keep j ≤ l.length ∧ Ow kU32 w.heap.size wr v (zs (byN j (spreadF l keep rest))) ∧ Ext w wr) (fun _ _ i _ => keep.length - (intOf i).toNat)
  case atStart => exact ⟨0, Nat.zero_le _, rfl, rfl, Nat.zero_le _, Ow.nil _ _, Ext.refl _⟩
  case round =>
    obtain ⟨j, hj, rfl, rfl, hrk, hO, hX⟩ := hrel
    have HO := Lib.hid hO
    have HX := Lib.hid hX
    have hj0 : (0 : Int) ≤ j := by omega
    have hrs := rank_succ keep j
    have hrj : rank keep j ≤ j := whereF_len keep j
    clear hO hX
    by_cases hlt : j < keep.length
    · have hlt' : (j : Int) < keep.length := by omega
      obtain ⟨bk, ok, rfl, y0⟩ := bool_at (HK.out.ext HX.out) j hlt
      have lbk : bk < wr.heap.size := World.block_lt_of_cell? _ _ y0
      have hbs := byN_snoc j (spreadF l keep rest)
      have hsp : spreadF l keep rest j = if kept keep j = true then l.getD (rank keep j) 0 else rest := rfl
      have hrl := rank_le keep (j + 1) keep.length (by omega)
      have hzx := HX.out.size
      have HLL : ∀ z : Nat, Hid ((zs (byN j (spreadF l keep rest))).length + [(z : Int)].length ≤ 1048576) := fun z => Lib.hid (by rw [zs_len, byN_len, List.length_singleton]; omega)
      have HLH := Lib.hid HLL
      obtain ⟨q, hq⟩ : ∃ q, rank keep j = q := ⟨_, rfl⟩
      obtain ⟨q', hq'⟩ : ∃ q, rank keep (j + 1) = q := ⟨_, rfl⟩
      rw [hq] at hrs hrk hrj hsp ⊢
      rw [hq'] at hrs hrl
      have HQ := Lib.hid hq'
      have hq0 : (0 : Int) ≤ q := by omega
      have hq9 : (q : Int) ≤ 900 := by omega
      clear HLL hq hq'
      cases hkp : kept keep j with
      | false =>
        rw [hkp] at y0 hrs hsp
        rw [if_neg (by decide)] at hrs hsp
        rw [hsp] at hbs
        have HBS := Lib.hid hbs
        have HRS := Lib.hid hrs
        have HRK := Lib.hid hrk
        clear hbs hrs hsp hkp hrl hrk hrj
        go_wp2_with (at_builtin; refine kU32.wpList_app (by rfl) (.tmp 23) (.tmp 25) (by rfl) (by rfl) w.heap.size _ (zs (byN j (spreadF l keep rest))) (by rfl) (HO.out.ext ((Ext.refl _).alloc _)) _ [(rest : Int)] (by rfl) (u32_lit _ rest HR.out) (HLH.out rest).out (by simp; omega) ?_; intro v' w8 hown8 hgrow8 hat8)
        have H8 := Lib.hid (And.intro hown8 (And.intro hgrow8 hat8))
        clear hown8 hgrow8 hat8
        go_wp2_with fail
        go_roundw
        case rel =>
          obtain ⟨hown8, hgrow8, hat8⟩ := H8.out
          exact ⟨j + 1, by omega, by go_num, by rw [HQ.out, HRS.out, Nat.add_zero], by rw [HQ.out, HRS.out]; exact HRK.out, by rw [HBS.out, zs_app]; exact hown8, Ext.grown (HX.out.alloc _) hgrow8 (fun x hx => (HO.out.lt x hx).1)⟩
        case measure => simp [intOf]; omega
      | true =>
        rw [hkp] at y0 hrs hsp
        rw [if_pos rfl] at hrs hsp
        by_cases hql : q < l.length
        · have hql' : (q : Int) < l.length := by omega
          obtain ⟨bx, ox, rfl, z0, hxl⟩ := u32_at (HL.out.ext HX.out) q hql
          have lbx : bx < wr.heap.size := World.block_lt_of_cell? _ _ z0
          obtain ⟨x, hx⟩ : ∃ x, l.getD q 0 = x := ⟨_, rfl⟩
          rw [hx] at z0 hxl hsp
          rw [hsp] at hbs
          have HBS := Lib.hid hbs
          have HRS := Lib.hid hrs
          have HXL := Lib.hid hxl
          clear hbs hrs hsp hkp hrl hrk hrj hx hxl
          go_wp2_with (at_builtin; refine kU32.wpList_app (by rfl) (.tmp 32) (.tmp 37) (by rfl) (by rfl) w.heap.size _ (zs (byN j (spreadF l keep rest))) (by rfl) (HO.out.ext ((Ext.refl _).alloc _)) _ [(x : Int)] (by rfl) (u32_lit _ x HXL.out) (HLH.out x).out (by simp; omega) ?_; intro v' w8 hown8 hgrow8 hat8)
          have H8 := Lib.hid (And.intro hown8 (And.intro hgrow8 hat8))
          clear hown8 hgrow8 hat8
          go_wp2_with fail
          go_roundw
          case rel =>
            obtain ⟨hown8, hgrow8, hat8⟩ := H8.out
            exact ⟨j + 1, by omega, by go_num, by rw [HQ.out, HRS.out]; go_num, by rw [HQ.out, HRS.out]; omega, by rw [HBS.out, zs_app]; exact hown8, Ext.grown (HX.out.alloc _) hgrow8 (fun x hx => (HO.out.lt x hx).1)⟩
          case measure => simp [intOf]; omega
        · have hql' : (l.length : Int) ≤ q := by omega
          have HNO := Lib.hid (sprP_no l keep rest (by show rank keep keep.length ≠ _; omega))
          clear hbs hrs hsp hkp hrl hrk hrj HLH
          go_wp2_with fail
          exact bodyPost_ret (v := .tuple #[.slice none 0 0, .bool false]) (by simp [results, Try.results17, go_sem]) rfl (by rw [HNO.out]; exact ⟨none, 0, rfl, Ow.nil _ _, HX.out⟩)
    · obtain rfl : j = keep.length := by omega
      have hwl : (whereL keep).length = rank keep keep.length := rfl
      by_cases hql : rank keep keep.length < l.length
      · have HNO := Lib.hid (sprP_no l keep rest (by rw [hwl]; omega))
        obtain ⟨q, hq⟩ : ∃ q, rank keep keep.length = q := ⟨_, rfl⟩
        rw [hq] at hql ⊢
        have hql' : (q : Int) < l.length := by omega
        clear hq hwl hrs hrk hrj
        go_wp2_with fail
        exact bodyPost_ret (v := .tuple #[.slice none 0 0, .bool false]) (by simp [results, Try.results17, go_sem]) rfl (by rw [HNO.out]; exact ⟨none, 0, rfl, Ow.nil _ _, HX.out⟩)
      · have HYES := Lib.hid (sprP_yes l keep rest (by rw [hwl]; omega))
        obtain ⟨q, hq⟩ : ∃ q, rank keep keep.length = q := ⟨_, rfl⟩
        rw [hq] at hql hrk ⊢
        have hql' : (l.length : Int) ≤ q := by omega
        obtain ⟨Lz, lz, hv, hlz⟩ := HO.out.slice
        subst hv
        clear hq hwl hrs hrk hrj
        go_wp2_with fail
        refine bodyPost_ret (v := .tuple #[.slice Lz (zs (byN keep.length (spreadF l keep rest))).length lz, .bool true]) (by simp [results, Try.results17, go_sem]) rfl (by rw [HYES.out]; exact ⟨Lz, lz, by rw [zs_len], by have := HO.out; rw [zs_len] at this; exact this, HX.out⟩)
end Go.Proofs.Ytbedfjbnafflfaa

/- The program's small ones of scan: right, Blocks, the rules, along. -/
namespace Go.Proofs.Ytbedfjbnafflfaa
open Go.BigFrame
open Go.RowKit Go.Proofs.Ytbedfjbnafflfaa.Plain

set_option maxRecDepth 100000 in
theorem sright_any (b : Int) (w : World) (hb : in64 b) :
    Calls Try.prog 34 #[.int .i64 b] w fun ed w' => ed = .returned (.bool (decide (1 ≤ b ∧ b ≤ 100))) ∧ w = w' := by
  unfold in64 at hb
  go_enter Try.func34, Try.ntmps34
  go_wp2
  all_goals go_ret
  all_goals exact ⟨ret_bool (by simp; try omega), rfl⟩

set_option maxRecDepth 100000 in
theorem sblocksE_any (n : Nat) (b : Int) (w : World) (hn : n ≤ 1000) (hb : in64 b) :
    Calls Try.prog 35 #[.int .i64 n, .int .i64 b] w fun ed w' => ed = .returned (.int .i64 (blocksP n b)) ∧ w = w' := by
  have hn1 : (n : Int) ≤ 1000 := by omega
  have hn0 : (0 : Int) ≤ n := by omega
  have HB := Lib.hid hb
  unfold in64 at hb
  by_cases h1 : 1 ≤ b ∧ b ≤ 100
  · obtain ⟨B, rfl⟩ : ∃ B : Nat, b = B := ⟨b.toNat, by omega⟩
    have e : blocksP n B = (n + B - 1) / B := by unfold blocksP; rw [if_pos (by omega), Int.toNat_natCast]
    have h1' : (1 : Int) ≤ B := by omega
    have h2' : (B : Int) ≤ 100 := by omega
    have hr : ∀ w, Calls Try.prog 34 #[.int .i64 B] w fun ed w' => ed = .returned (.bool true) ∧ w = w' := fun w => (sright_any B w HB.out).mono fun ed w' h => ⟨by rw [h.1, decide_eq_true h1], h.2⟩
    have HR := Lib.hid hr
    have E := Lib.hid e
    clear e h1 hb hr
    go_enter Try.func35, Try.ntmps35
    go_wp2_with fail
    refine (HR.out _).mono ?_
    rintro ed w1 ⟨rfl, rfl⟩
    go_wp2_with fail
    all_goals go_ret
    all_goals refine ⟨ret_int ?_, rfl⟩
    all_goals (rw [E.out, Int.natCast_ediv]; congr 1; omega)
  · have e : blocksP n b = 0 := by unfold blocksP; rw [if_neg (by omega)]
    have hr : ∀ w, Calls Try.prog 34 #[.int .i64 b] w fun ed w' => ed = .returned (.bool false) ∧ w = w' := fun w => (sright_any b w HB.out).mono fun ed w' h => ⟨by rw [h.1, decide_eq_false h1], h.2⟩
    have HR := Lib.hid hr
    rw [e]
    clear e h1 hr
    go_enter Try.func35, Try.ntmps35
    go_wp2_with fail
    refine (HR.out _).mono ?_
    rintro ed w1 ⟨rfl, rfl⟩
    go_wp2_with fail
    all_goals go_ret
    all_goals exact ⟨rfl, rfl⟩

/-- the two rules -/
def Plain.addR (a x : Nat) : Nat := (a + x) % 4294967296
def Plain.maxR (a x : Nat) : Nat := max a x
theorem Plain.addR_lt (a x : Nat) (_ : a < 4294967296) (_ : x < 4294967296) : addR a x < 4294967296 := Nat.mod_lt _ (by decide)
theorem Plain.maxR_lt (a x : Nat) (ha : a < 4294967296) (hx : x < 4294967296) : maxR a x < 4294967296 := by unfold maxR; omega

theorem srule1_any (a x : Nat) (w : World) (ha : a < 4294967296) (hx : x < 4294967296) :
    Calls Try.prog 26 #[.int .u32 a, .int .u32 x] w fun ed w' => ed = .returned (.int .u32 (addR a x : Nat)) ∧ w = w' := by
  obtain ⟨z, hz⟩ : ∃ z, addR a x = z := ⟨_, rfl⟩
  have e : ((a : Int) + x) % 4294967296 = (z : Int) := by unfold addR at hz; omega
  rw [hz]
  clear hz
  go_enter Try.func26, Try.ntmps26
  go_wp2_with fail
  go_ret
  exact ⟨ret_int e, rfl⟩
end Go.Proofs.Ytbedfjbnafflfaa

/- The program's along (scan): of each cell what a rule makes of a start and all ahead of it. -/
namespace Go.Proofs.Ytbedfjbnafflfaa
open Go.BigFrame
open Go.RowKit Go.Proofs.Ytbedfjbnafflfaa.Plain

theorem Plain.byN_set (n : Nat) (f : Nat → Nat) (u v : Nat) : (byN n f).set u v = byN n (fun i => if i = u then v else f i) := by
  apply List.ext_getElem?
  intro i
  unfold byN
  by_cases hi : i < n
  · rw [List.getElem?_set, List.getElem?_map, List.getElem?_map, List.getElem?_range hi]
    by_cases h : u = i
    · subst h; simp [hi]
    · rw [if_neg h, Option.map_some, Option.map_some, if_neg (fun e => h e.symm)]
  · rw [List.getElem?_eq_none (by simp; omega), List.getElem?_eq_none (by simp; omega)]
theorem zs_set (l : List Nat) (u v : Nat) : (zs l).set u (v : Int) = zs (l.set u v) := by unfold zs; rw [List.map_set]
/-- a cell of words of one's own is stored -/
theorem Ow.setN {B g n c : Nat} {w : World} {M : List Nat} (h : Ow kU32 B w (.slice (some ⟨g, 0, none⟩) n c) (zs M)) {u v : Nat} (hu : u < M.length) (hv : v < 4294967296) :
    Ow kU32 B (w.setCell ⟨g, u, none⟩ (.int .u32 v)) (.slice (some ⟨g, 0, none⟩) n c) (zs (M.set u v)) := by
  have h1 := h.set (j := u) (i := 0) (x := (v : Int)) (u := .int .u32 v) (by rw [zs_len]; exact hu) (by decide) rfl (by show (0 : Int) ≤ _ ∧ _ ≤ (4294967295 : Int); omega)
  rw [show u * kU32.n + 0 = u from by show u * 1 + 0 = u; omega, zs_set] at h1
  exact h1
/-- .. what is there -/
theorem Ow.atN {B g n c : Nat} {w : World} {M : List Nat} (h : Ow kU32 B w (.slice (some ⟨g, 0, none⟩) n c) (zs M)) {u : Nat} (hu : u < M.length) :
    w.cell? ⟨g, u, none⟩ = some (.int .u32 (M.getD u 0 : Nat)) ∧ (∀ j, w.frozen? ⟨g, j, none⟩ = false) ∧ M.getD u 0 < 4294967296 ∧ B ≤ g ∧ g < w.heap.size := by
  obtain ⟨g', eg, h1, h2, h3, h4⟩ := h.pos (by rw [zs_len]; omega)
  cases eg
  have z := h3 u (by rw [zs_len]; exact hu) 0 _ rfl
  have hok := h.rd.okAt u (by rw [zs_len]; exact hu)
  rw [show u * kU32.n + 0 = u from by show u * 1 + 0 = u; omega] at z
  have e : (zs M).getD u kU32.d = ((M.getD u 0 : Nat) : Int) := zs_getD M u
  rw [e] at z hok
  have hok' : (0 : Int) ≤ ((M.getD u 0 : Nat) : Int) ∧ ((M.getD u 0 : Nat) : Int) ≤ 4294967295 := hok
  exact ⟨z, h4, by omega, h1, h2⟩
theorem grown_set (w : World) (p : Addr) (v : Value) : w.grownBy (w.setCell p v) (some p.block) :=
  ⟨(Ext.setCell (Ext.refl w) (p := ⟨w.heap.size, 0, none⟩) (Nat.le_refl _) v).os.symm ▸ by simp [World.setCell], by simp [World.setCell], by simp [World.setCell], by simp [World.setCell], fun i hi hne => Below.heap_setCell _ _ _ _ (fun e => hne (by rw [e]))⟩
/-- what along makes of a list: from 'off' on so many cells are others -/
def Plain.alongL (R : Nat → Nat → Nat) (M l : List Nat) (off s j : Nat) : List Nat := byN M.length (fun u => if off ≤ u ∧ u < off + j then (l.take (u - off)).foldl R s else M.getD u 0)
theorem Plain.alongL_len (R : Nat → Nat → Nat) (M l : List Nat) (off s j : Nat) : (alongL R M l off s j).length = M.length := byN_len _ _
theorem Plain.alongL_zero (R : Nat → Nat → Nat) (M l : List Nat) (off s : Nat) : alongL R M l off s 0 = M := by
  unfold alongL
  rw [byN_congr _ _ (fun u => M.getD u 0) (fun u _ => if_neg (by omega))]
  exact byN_id M
theorem Plain.alongL_set (R : Nat → Nat → Nat) (M l : List Nat) (off s j : Nat) : (alongL R M l off s j).set (off + j) ((l.take j).foldl R s) = alongL R M l off s (j + 1) := by
  unfold alongL
  rw [byN_set]
  refine byN_congr _ _ _ (fun u _ => ?_)
  by_cases h : u = off + j
  · subst h
    rw [if_pos rfl, if_pos (by omega), show off + j - off = j by omega]
  · rw [if_neg h]
    by_cases h2 : off ≤ u ∧ u < off + j
    · rw [if_pos h2, if_pos (by omega)]
    · rw [if_neg h2, if_neg (by omega)]
theorem Plain.foldR_lt {R : Nat → Nat → Nat} (hR : ∀ a x, a < 4294967296 → x < 4294967296 → R a x < 4294967296) : ∀ (l : List Nat) (s : Nat), s < 4294967296 → (∀ x ∈ l, x < 4294967296) → l.foldl R s < 4294967296
  | [], _, hs, _ => hs
  | x :: l, s, hs, hl => foldR_lt hR l (R s x) (hR _ _ hs (hl x (by simp))) (fun z hz => hl z (by simp [hz]))
theorem Plain.foldR_snoc (R : Nat → Nat → Nat) (l : List Nat) (s j : Nat) (hj : j < l.length) : (l.take (j + 1)).foldl R s = R ((l.take j).foldl R s) (l.getD j 0) := by
  rw [takeN_snoc hj, List.foldl_append]; rfl
theorem zs_lt {w : World} {v : Value} {l : List Nat} (h : Rd kU32 w v (zs l)) : ∀ x ∈ l, x < 4294967296 := fun x hx => by
  have h1 : (0 : Int) ≤ (x : Int) ∧ (x : Int) ≤ 4294967295 := h.2.1 (x : Int) (List.mem_map.2 ⟨x, hx, rfl⟩)
  omega

set_option maxHeartbeats 1600000 in
set_option maxRecDepth 100000 in
theorem salong1_any (g off m c c0 B0 s : Nat) (M l : List Nat) (L : Option Addr) (lc : Nat) (w : World) (hM : Ow kU32 B0 w (.slice (some ⟨g, 0, none⟩) M.length c0) (zs M)) (hL : Rd kU32 w (.slice L l.length lc) (zs l))
    (hfar : ∀ a, L = some a → a.block ≠ g) (hom : off + m ≤ M.length) (hlm : l.length ≤ m) (hs : s < 4294967296) (hM9 : M.length ≤ 1000) :
    Calls Try.prog 36 #[.slice (some ⟨g, off, none⟩) m c, .slice L l.length lc, .int .u32 s, .func (.func 26) #[] #[]] w fun ed w' =>
      ed = .returned (.int .u32 (l.foldl addR s : Nat)) ∧ Ow kU32 B0 w' (.slice (some ⟨g, 0, none⟩) M.length c0) (zs (alongL addR M l off s l.length)) ∧ w.grownBy w' (some g) := by
  have HM := Lib.hid hM
  have HL := Lib.hid hL
  have HFAR := Lib.hid hfar
  have HS := Lib.hid (And.intro hs (zs_lt hL))
  have hl' : (l.length : Int) ≤ m := by omega
  have hm' : (m : Int) ≤ 1000 := by omega
  clear hM hL hfar hs
  go_enter Try.func36, Try.ntmps36
  go_wp2_with fail
  go_loopw [2, 13] (fun a i wr => ∃ j : Nat, j ≤ l.length ∧ i = .int .i64 j ∧ a = .int .u32 ((l.take j).foldl addR s : Nat) ∧ Ow kU32 B0 wr (.slice (some ⟨g, 0, none⟩) M.length c0) (zs (alongL addR M l off s j)) ∧ w.grownBy wr (some g)) (fun _ i _ => l.length - (intOf i).toNat)
  case atStart => exact ⟨0, Nat.zero_le _, rfl, rfl, by rw [alongL_zero]; exact HM.out, World.grownBy.refl _ _⟩
  case round =>
    obtain ⟨j, hj, rfl, rfl, hO, hX⟩ := hrel
    have HO := Lib.hid hO
    have HX := Lib.hid hX
    have hj0 : (0 : Int) ≤ j := by omega
    clear hO hX
    by_cases hlt : j < l.length
    · have hlt' : (j : Int) < l.length := by omega
      have hjm : (j : Int) < m := by omega
      obtain ⟨bx, ox, rfl, z0, hxl⟩ := u32_at (HL.out.grown HX.out (fun a ha e => HFAR.out a ha (by cases e; rfl))) j hlt
      obtain ⟨z1, z2, _, _, zg⟩ := HO.out.atN (u := off + j) (by rw [alongL_len]; omega)
      have hal : (l.take j).foldl addR s < 4294967296 := foldR_lt addR_lt _ _ HS.out.1 (fun x hx => HS.out.2 x (List.mem_of_mem_take hx))
      have hset := HO.out.setN (u := off + j) (v := (l.take j).foldl addR s) (by rw [alongL_len]; omega) hal
      rw [alongL_set] at hset
      have hsn := foldR_snoc addR l s j hlt
      obtain ⟨ov, hov⟩ : ∃ ov, Value.int IntKind.u32 (((alongL addR M l off s j).getD (off + j) 0 : Nat) : Int) = ov := ⟨_, rfl⟩
      rw [hov] at z1
      obtain ⟨x, hx⟩ : ∃ x, l.getD j 0 = x := ⟨_, rfl⟩
      obtain ⟨a, ha⟩ : ∃ a, (l.take j).foldl addR s = a := ⟨_, rfl⟩
      rw [hx] at z0 hxl hsn
      rw [ha] at hal hset hsn ⊢
      have HSET := Lib.hid hset
      have HSN := Lib.hid hsn
      have HRU := Lib.hid (fun w => srule1_any a x w hal hxl)
      have z2' := z2 (off + j)
      have hbg : bx ≠ g := HFAR.out _ rfl
      clear hset hsn hov hx ha z2 hal hxl
      go_wp2_with fail
      refine (HRU.out _).mono ?_
      rintro ed w1 ⟨rfl, rfl⟩
      go_wp2_with fail
      go_roundw
      case rel =>
        exact ⟨j + 1, by omega, by go_num, by rw [HSN.out], HSET.out, HX.out.trans (grown_set _ _ _)⟩
      case measure => simp [intOf]; omega
    · obtain rfl : j = l.length := by omega
      go_wp2_with fail
      go_ret
      exact ⟨by rw [List.take_length]; rfl, HO.out, HX.out⟩

end Go.Proofs.Ytbedfjbnafflfaa

/- Plain words of fill: what holds of an order, and of cells. No program in it. -/
namespace Go.Proofs.Ytbedfjbnafflfaa.Plain

theorem ordP_good {n : Nat} {g m : Int} {picks : List (Int × Int)} {os : List Nat} {st : Nat} (h : ordP n g m picks = (os, st, 0)) :
    ∃ G M : Nat, g = G ∧ m = M ∧ 1 ≤ G ∧ G ≤ 100 ∧ 1 ≤ M ∧ M ≤ 8 ∧ picks.length ≤ 4000 ∧ os.Perm (List.range n) ∧ st ≤ picks.length + M * (cntT (max 1 n) G + 1) ∧ min 1 n ≤ st := by
  unfold ordP at h
  split at h
  · simp at h
  · rename_i hb
    have hb' : planB g m picks.length = true := by simpa using hb
    obtain ⟨h1, h2, h3, h4, h5⟩ := (planB_iff _ _ _).1 hb'
    refine ⟨g.toNat, m.toNat, by omega, by omega, by omega, by omega, by omega, by omega, h5, ?_⟩
    split at h
    · rename_i hz
      subst hz
      simp only [Prod.mk.injEq] at h
      obtain ⟨rfl, rfl, _⟩ := h
      exact ⟨by simp, by simp, by simp⟩
    · rename_i hz
      simp only [Prod.mk.injEq] at h
      obtain ⟨rfl, rfl, _⟩ := h
      obtain ⟨w1, w2, w3, w4⟩ := whole_ends (g := g.toNat) (n := n) (m := m.toNat) (by omega) (by omega) (by omega) picks
      refine ⟨w4, ?_, ?_⟩
      · rw [show max 1 n = n by omega]; exact w3
      · rcases Nat.eq_zero_or_pos (wholeP g.toNat n m.toNat picks).2.length with h0 | h0
        · exfalso
          have h9 := w4.length_eq
          rw [List.eq_nil_of_length_eq_zero h0, orderL_nil, List.length_range] at h9
          simp at h9
          omega
        · omega
theorem fillP_cases (l : List Nat) (op : Int) (y : Nat) (g m : Int) (picks : List (Int × Int)) :
    (fillP l op y g m picks).2.2 = 1 ∧ (fillP l op y g m picks).1 = [] ∨ (fillP l op y g m picks).2.2 = 0 ∧ (fillP l op y g m picks).1 = l.map (fun x => oneP x op y) ∧ ∃ ou, ordP l.length g m picks = (ou, (fillP l op y g m picks).2.1, 0) := by
  unfold fillP
  split
  · exact .inl ⟨rfl, rfl⟩
  · split
    · rename_i h
      rcases ordP_err l.length g m picks with h1 | h1
      · exact absurd h1 h
      · exact .inl ⟨h1, rfl⟩
    · rename_i h
      refine .inr ⟨rfl, rfl, (ordP l.length g m picks).1, ?_⟩
      have h1 : (ordP l.length g m picks).2.2 = 0 := by simpa using h
      rw [← h1]
end Go.Proofs.Ytbedfjbnafflfaa.Plain
