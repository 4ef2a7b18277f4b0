/- Joined by wip/merge.py: R6B, R6C, D6D, R7A, R7B, R7C, R7D, F7C, F7D, TCount, F7B, F7P, F7E, F7G, F7S, Lit, F7A. -/
import Derived.Test.YtjabahfkgaamdaaJ6
import Derived.Deep.RegionHeld3
import Derived.Deep.RegionLaw
import Derived.BigRegion
import Derived.BigQuiet
import Derived.Deep.DeepCutAuto
import Derived.Laws.BitsAllLaws
import Derived.IntWalk
import Derived.Deep.RegionLawGrows
import Derived.Laws.EntriesVeiled
import Derived.Deep.QuietTactic
import Derived.StillTailTactics
/- The document's Whole (ref06). -/
namespace Go.Proofs.Ytjabahfkgaamdaa
open Go.BigFrame
open Go.RowKit Go.Proofs.Ytjabahfkgaamdaa.Plain

def R6Q (w0 : World) (row : Option Nat) (cv ve vo : Value) (B : Nat) (evs : List Ev) (ev : Ev) : Nat → World → List Value → Value → Prop
  | 0, w, ds, v => v = cv
  | 1, w, ds, v => v = vo
  | 2, w, ds, v => v = ve
  | 3, w, ds, v => OneAt kEv w0.heap.size w v ev
  | 4, w, ds, v => AppAt kEv B w v (evs ++ [ev]) vo w0.heap.size
  | _, _, _, _ => True
theorem R6Q_ext (w0 : World) (row : Option Nat) (cv ve vo : Value) (B : Nat) (evs : List Ev) (ev : Ev) : ∀ i w w' ds v, R6Q w0 row cv ve vo B evs ev i w ds v → Ext w w' → R6Q w0 row cv ve vo B evs ev i w' ds v
  | 0, _, _, _, _, h, _ => h
  | 1, _, _, _, _, h, _ => h
  | 2, _, _, _, _, h, _ => h
  | 3, _, _, _, _, h, hE => OneAt.ext h hE
  | 4, _, _, _, _, h, hE => h.ext hE
  | _ + 5, _, _, _, _, _, _ => trivial
theorem R6Q_sw (w0 : World) (row : Option Nat) (cv ve vo : Value) (B : Nat) (evs : List Ev) (ev : Ev) (hrow : ∀ b, row = some b → b < w0.heap.size) : ∀ i w w' ds v, i ≠ 4 → R6Q w0 row cv ve vo B evs ev i w ds v → Wr row w w' → R6Q w0 row cv ve vo B evs ev i w' ds v
  | 0, _, _, _, _, _, h, _ => h
  | 1, _, _, _, _, _, h, _ => h
  | 2, _, _, _, _, _, h, _ => h
  | 3, _, _, _, _, _, h, hE => OneAt.sw h hE hrow
  | 4, _, _, _, _, hq, _, _ => absurd rfl hq
  | _ + 5, _, _, _, _, _, _, _ => trivial
section
variable (w0 : World) (row : Option Nat) (cv ve vo : Value) (B : Nat) (evs : List Ev) (ev : Ev) (w : World) (ds : List Value) (v : Value)
theorem R6Q_i0 (h : v = cv) : R6Q w0 row cv ve vo B evs ev 0 w ds v := h
theorem R6Q_e0 (h : R6Q w0 row cv ve vo B evs ev 0 w ds v) : v = cv := h
theorem R6Q_i1 (h : v = vo) : R6Q w0 row cv ve vo B evs ev 1 w ds v := h
theorem R6Q_e1 (h : R6Q w0 row cv ve vo B evs ev 1 w ds v) : v = vo := h
theorem R6Q_i2 (h : v = ve) : R6Q w0 row cv ve vo B evs ev 2 w ds v := h
theorem R6Q_e2 (h : R6Q w0 row cv ve vo B evs ev 2 w ds v) : v = ve := h
theorem R6Q_i3 (h : OneAt kEv w0.heap.size w v ev) : R6Q w0 row cv ve vo B evs ev 3 w ds v := h
theorem R6Q_e3 (h : R6Q w0 row cv ve vo B evs ev 3 w ds v) : OneAt kEv w0.heap.size w v ev := h
theorem R6Q_i4 (h : AppAt kEv B w v (evs ++ [ev]) vo w0.heap.size) : R6Q w0 row cv ve vo B evs ev 4 w ds v := h
theorem R6Q_e4 (h : R6Q w0 row cv ve vo B evs ev 4 w ds v) : AppAt kEv B w v (evs ++ [ev]) vo w0.heap.size := h
end

theorem Plain.untilP_over (g m : Nat) (c : Cw) (l : List (Int × Int)) (h : c.over = true) : untilP g m c l = (c, []) := by
  cases l with
  | nil => rfl
  | cons x l => unfold untilP; rw [if_pos h]
theorem Plain.untilP_next (g m k : Nat) (c : Cw) (l : List (Int × Int)) (hk : k < l.length) (h : c.over = false) : untilP g m c (l.drop k) = ((untilP g m (stepP g m c (l.getD k (0, 0)).1 (l.getD k (0, 0)).2).1 (l.drop (k + 1))).1, (stepP g m c (l.getD k (0, 0)).1 (l.getD k (0, 0)).2).2 :: (untilP g m (stepP g m c (l.getD k (0, 0)).1 (l.getD k (0, 0)).2).1 (l.drop (k + 1))).2) := by
  rw [List.drop_eq_getElem_cons hk, List.getD_eq_getElem?_getD, List.getElem?_eq_getElem hk]
  conv => lhs; unfold untilP
  rw [if_neg (by rw [h]; decide)]
  rfl
/-- what stands, k picks on -/
structure U6At (w0 : World) (V g n m : Nat) (picks : List (Int × Int)) (k : Nat) (v : Value) (wr : World) (c : Cw) (evs : List Ev) (A B : Option Addr) (e0 a b e : Nat) : Prop where
  me : m ≤ e
  box : wr.heap[V]? = some (.cells #[.slice A c.ts.length a, .int .i64 g, .slice B c.dn.length b, .slice (some ⟨e0, 0, none⟩) m e, .bool c.over, .int .i64 c.st, .int .i64 c.id] 57)
  cr : CrewO (fun x => x = w0.heap.size ∨ x = V ∨ v.ownBlock = some x) wr m c A B e0 0 a b
  own : Ow kEv (V + 1) wr v evs
  been : Been g n m c evs
  eq : untilP g m (beginC n m) picks = ((untilP g m c (picks.drop k)).1, evs ++ (untilP g m c (picks.drop k)).2)
  len : evs.length ≤ k
  res : wr.heap[w0.heap.size]? = some (.cells #[.slice none 0 0, .int .i64 0, .slice none 0 0, .slice none 0 0, .bool false, .int .i64 0, .int .i64 0] 57)
  ext : Ext w0 wr
  vl : w0.heap.size < V
theorem block_of_grown {w w' : World} {row : Option Nat} (hg : w.grownBy w' row) {b : Nat} {o : Obj} (h : w.heap[b]? = some o) (hne : some b ≠ row) : w'.heap[b]? = some o :=
  (hg.block b (block_lt h) hne).trans h
theorem rstep5_to (A B : Option Addr) (eb eo a b e g n m : Nat) (c c' : Cw) (ev : Ev) (ov : Bool) (done : Nat) (G : List Nat) (p q : Int) (w : World) (hov : c.over = ov) (hr : stepP g m c p q = (c', ev)) (h : CrewAt w m c A B eb eo a b) (me : m ≤ e) (hI : CwI g n m c done G)
    (n1 : 1 ≤ n) (n2 : n ≤ 900) (g1 : 1 ≤ g) (g2 : g ≤ 100) (m1 : 1 ≤ m) (m2 : m ≤ 8) (hst : c.st < 100000) (hid : c.id < 100000) (hp : in64 p) (hq : in64 q) :
    Calls Try.prog 38 #[.agg #[.slice A c.ts.length a, .int .i64 g, .slice B c.dn.length b, .slice (some ⟨eb, eo, none⟩) m e, .bool ov, .int .i64 c.st, .int .i64 c.id], .int .i64 p, .int .i64 q] w fun ed w' =>
      ∃ (A' B' : Option Addr) (e0 a' b' q' : Nat), m ≤ q' ∧ ed = .returned (.tuple #[crewV A' B' e0 0 a' b' q' g m c', evV ev, .int .i64 0]) ∧ CrewO (fun x => x < w.heap.size) w' m c' A' B' e0 0 a' b' ∧ Ext w w' := by
  subst hov
  have h9 := rstep5_any A B eb eo a b e g n m c done G p q w h me hI n1 n2 g1 g2 m1 m2 hst hid hp hq
  rw [hr] at h9
  exact h9.mono fun _ _ hh => hh
/-- behind a step -/
def StepCut6 (wr : World) (g m : Nat) (c : Cw) (ev : Ev) (x e f : Value) (wx : World) : Prop :=
  ∃ (X Y : Nat) (A B : Option Addr) (e0 a b q : Nat), m ≤ q ∧ x = .pointer (some ⟨X, 0, none⟩) ∧ e = .pointer (some ⟨Y, 0, none⟩) ∧ f = .int .i64 0 ∧ Boxed wx X Y A B e0 a b q g m c ev ∧ CrewO (fun b => b < wr.heap.size) wx m c A B e0 0 a b ∧ wr.heap.size ≤ X ∧ wr.heap.size ≤ Y ∧ Ext wr wx

set_option maxHeartbeats 3200000 in
set_option maxRecDepth 100000 in
theorem rwhole_any (n g m : Nat) (Ap : Option Addr) (cp : Nat) (picks : List (Int × Int)) (w : World) (hp : Rd kPk w (.slice Ap picks.length cp) picks) (n1 : 1 ≤ n) (n2 : n ≤ 900) (g1 : 1 ≤ g) (g2 : g ≤ 100) (m1 : 1 ≤ m) (m2 : m ≤ 8) (hl : picks.length ≤ 4000) :
    Calls Try.prog 27 #[.int .i64 n, .int .i64 g, .int .i64 m, .slice Ap picks.length cp] w (R6Said (fun _ => False) g m (wholeP g n m picks) w) := by
  have HP := Lib.hid hp
  clear hp
  have hl' : (picks.length : Int) ≤ 4000 := by omega
  go_enter Try.func27, Try.ntmps27
  go_wp2_with fail
  refine (rbegin5_any n g m _ n1 (by omega) g1 g2 m1 m2).mono ?_
  obtain ⟨c0, hc0⟩ : ∃ x, beginC n m = x := ⟨_, rfl⟩
  rintro ed w2 ⟨A0, B0, e0, a0, b0, rfl, hC, hE⟩
  rw [hc0] at hC ⊢
  have hres := block_keep (heap_alloc_new w (.cells #[.slice none 0 0, .int .i64 0, .slice none 0 0, .slice none 0 0, .bool false, .int .i64 0, .int .i64 0] 57)) hE
  have HRS := Lib.hid hres
  have hz := hE.size
  simp at hz
  have HX2 := Lib.hid (((Ext.refl w).alloc _).trans hE)
  obtain ⟨V, hV⟩ : ∃ V, w2.heap.size = V := ⟨_, rfl⟩
  have HU0 : Hid (U6At w V g n m picks 0 (.slice none 0 0) (w2.alloc (.cells #[.slice A0 c0.ts.length a0, .int .i64 g, .slice B0 c0.dn.length b0, .slice (some ⟨e0, 0, none⟩) m m, .bool c0.over, .int .i64 c0.st, .int .i64 c0.id] 57)) c0 [] A0 B0 e0 a0 b0 m) := Lib.hid ⟨Nat.le_refl _, by rw [← hV]; exact heap_alloc_new w2 _, hC.later m1 (Grew.of ((Ext.refl _).alloc _)) (fun x hx hT => by
      rcases hT with hT | hT | hT
      · simp; omega
      · omega
      · cases hT), Ow.nil _ _, by rw [← hc0]; exact Been.begin g n m n1 m1, by rw [hc0]; simp, Nat.le_refl _, block_keep hres ((Ext.refl _).alloc _), HX2.out.trans ((Ext.refl _).alloc _), by omega⟩
  go_upto_region 2 with fail
  clear hC hE hres hz hV
  generalize (w2.alloc (.cells #[.slice A0 c0.ts.length a0, .int .i64 g, .slice B0 c0.dn.length b0, .slice (some ⟨e0, 0, none⟩) m m, .bool c0.over, .int .i64 c0.st, .int .i64 c0.id] 57)) = w5 at *
  go_wp2_with fail
  go_loopw [13, 14] (fun v i wr => ∃ k : Nat, k ≤ picks.length ∧ i = .int .i64 k ∧ ∃ (c1 : Cw) (evs : List Ev) (A1 B1 : Option Addr) (e0 a1 b1 e1 : Nat), U6At w V g n m picks k v wr c1 evs A1 B1 e0 a1 b1 e1) (fun _ i _ => picks.length - (intOf i).toNat)
  case atStart => exact ⟨0, Nat.zero_le _, rfl, _, _, _, _, _, _, _, _, HU0.out⟩
  case round =>
    obtain ⟨k, hk, rfl, c1, evs, A1, B1, e1, a1, b1, q1, hD⟩ := hrel
    have HD := Lib.hid hD
    have hk0 : (0 : Int) ≤ k := by omega
    have k0 : wr.cell? ⟨V, 0, none⟩ = some (.slice A1 c1.ts.length a1) := (cell_of_row wr (V) 0 _ _ _ hD.box).trans rfl
    have k1 : wr.cell? ⟨V, 1, none⟩ = some (.int .i64 g) := (cell_of_row wr (V) 1 _ _ _ hD.box).trans rfl
    have k2 : wr.cell? ⟨V, 2, none⟩ = some (.slice B1 c1.dn.length b1) := (cell_of_row wr (V) 2 _ _ _ hD.box).trans rfl
    have k3 : wr.cell? ⟨V, 3, none⟩ = some (.slice (some ⟨e1, 0, none⟩) m q1) := (cell_of_row wr (V) 3 _ _ _ hD.box).trans rfl
    have k4 : wr.cell? ⟨V, 4, none⟩ = some (.bool c1.over) := (cell_of_row wr (V) 4 _ _ _ hD.box).trans rfl
    have k5 : wr.cell? ⟨V, 5, none⟩ = some (.int .i64 c1.st) := (cell_of_row wr (V) 5 _ _ _ hD.box).trans rfl
    have k6 : wr.cell? ⟨V, 6, none⟩ = some (.int .i64 c1.id) := (cell_of_row wr (V) 6 _ _ _ hD.box).trans rfl
    have kf := fun o => frozen_of_row wr (V) o _ _ hD.box
    clear hD
    have hex : ∀ (h : k < picks.length → c1.over = true), untilP g m (beginC n m) picks = (c1, evs) := fun h => by
      have h9 := HD.out.eq
      rcases Nat.lt_or_ge k picks.length with h8 | h8
      · rw [untilP_over _ _ _ _ (h h8), List.append_nil] at h9; exact h9
      · rw [List.drop_eq_nil_of_le h8] at h9
        simpa [untilP] using h9
    by_cases hlt : k < picks.length
    · have hlt' : (k : Int) < picks.length := by omega
      cases hov : c1.over with
      | true =>
        have hU := hex (fun _ => hov)
        have k4o := k4
        rw [hov] at k4
        go_upto_region 12 with fail
        obtain ⟨N, hN⟩ : ∃ N, m * cntT n g = N := ⟨_, rfl⟩
        have hW : wholeP g n m picks = ((drainP g m N 0 c1).1, evs ++ (drainP g m N 0 c1).2) := by unfold wholeP; rw [hU, hN]
        obtain ⟨dn, hI⟩ := HD.out.been.inv
        have hcn := (hI.counts g1 n1).2.2.1
        have hNl : N ≤ 14400 := by
          have h1 : m * cntT n g ≤ 8 * 1800 := Nat.mul_le_mul m2 (by omega)
          omega
        have hov9 : (drainP g m N 0 c1).1.over = true := by have := (whole_ends g1 n1 m1 picks).1; rw [hW] at this; exact this
        have hel := HD.out.len
        have hst := HD.out.been.st
        have hid := HD.out.been.id
        have hee : (drainP g m N 0 c1).2.length ≤ 60000 := by
          have h1 := (whole_ends g1 n1 m1 picks).2.2.1
          rw [hW] at h1
          simp only [List.length_append] at h1
          have h2 : m * (cntT n g + 1) ≤ 8 * 1801 := Nat.mul_le_mul m2 (by omega)
          omega
        obtain ⟨Ao, co, hv, hco⟩ := HD.out.own.slice
        obtain ⟨no, hno⟩ : ∃ no, evs.length = no := ⟨_, rfl⟩
        rw [hno] at hv hco
        subst hv
        have hrlt : ∀ x, Value.ownBlock (.slice Ao no co) = some x → V + 1 ≤ x ∧ x < wr.heap.size := fun x hx => HD.out.own.lt x hx
        have HRL := Lib.hid hrlt
        have HW := Lib.hid hW
        have HO9 := Lib.hid (And.intro hov9 (And.intro hel (And.intro hst (And.intro hid hee))))
        have HII := Lib.hid hI
        have lV := block_lt HD.out.box
        have lR := block_lt HD.out.res
        have vl := HD.out.vl
        have HS : Hid (∀ x, (x = w.heap.size ∨ x = V ∨ Value.ownBlock (.slice Ao no co) = some x) → x < wr.heap.size) := Lib.hid (fun x hx => by
          rcases hx with rfl | rfl | hx
          · exact lR
          · exact lV
          · exact (hrlt x hx).2)
        have HNL := Lib.hid hNl
        clear hN hW hI hcn hNl hov9 hel hst hid hco hno hrlt hee
        clear k4 hov
        have k4 := k4o
        clear k4o
        go_wp2_with fail
        have hh := rdrain_any (fun x => x = w.heap.size ∨ x = V ∨ Value.ownBlock (.slice Ao no co) = some x) A1 B1 e1 0 a1 b1 q1 g n m N c1 wr HS.out HD.out.cr HD.out.me ⟨_, _, HII.out⟩ n1 n2 g1 g2 m1 m2 (by have := HO9.out; have := HNL.out; omega) (by have := HO9.out; have := HNL.out; omega) (by have := HNL.out; omega) HO9.out.1
        refine hh.mono ?_
        clear hh
        have HEE : Hid ((drainP g m N 0 c1).2.length ≤ 60000) := Lib.hid HO9.out.2.2.2.2
        obtain ⟨⟨c5, ds⟩, hr⟩ : ∃ x, drainP g m N 0 c1 = x := ⟨_, rfl⟩
        rw [hr] at HEE ⊢
        have hW2 := HW.out
        rw [hr] at hW2
        have HW2 := Lib.hid hW2
        rintro ed w6 ⟨A5, B5, L5, e5, o5, a5, b5, q5, l5, hq5, rfl, hC5, hO5, hE6⟩
        simp only at hC5 hO5
        have hbV := block_keep HD.out.box hE6
        have hbR := block_keep HD.out.res hE6
        have hz6 := hE6.size
        have z0 : w6.cell? ⟨V, 0, none⟩ = some (.slice A1 c1.ts.length a1) := (cell_of_row w6 (V) 0 _ _ _ hbV).trans rfl
        have z1 : w6.cell? ⟨V, 1, none⟩ = some (.int .i64 g) := (cell_of_row w6 (V) 1 _ _ _ hbV).trans rfl
        have z2 : w6.cell? ⟨V, 2, none⟩ = some (.slice B1 c1.dn.length b1) := (cell_of_row w6 (V) 2 _ _ _ hbV).trans rfl
        have z3 : w6.cell? ⟨V, 3, none⟩ = some (.slice (some ⟨e1, 0, none⟩) m q1) := (cell_of_row w6 (V) 3 _ _ _ hbV).trans rfl
        have z4 : w6.cell? ⟨V, 4, none⟩ = some (.bool c1.over) := (cell_of_row w6 (V) 4 _ _ _ hbV).trans rfl
        have z5 : w6.cell? ⟨V, 5, none⟩ = some (.int .i64 c1.st) := (cell_of_row w6 (V) 5 _ _ _ hbV).trans rfl
        have z6 : w6.cell? ⟨V, 6, none⟩ = some (.int .i64 c1.id) := (cell_of_row w6 (V) 6 _ _ _ hbV).trans rfl
        have zf := fun o => frozen_of_row w6 (V) o _ _ hbV
        have HC5 := Lib.hid (And.intro hq5 hC5)
        have HO5 := Lib.hid hO5
        have HE6 := Lib.hid hE6
        have HBV := Lib.hid (set_box7 hbV (.slice A5 c5.ts.length a5) (.int .i64 g) (.slice B5 c5.dn.length b5) (.slice (some ⟨e5, o5, none⟩) m q5) (.bool c5.over) (.int .i64 c5.st) (.int .i64 c5.id))
        have lV6 : V < w6.heap.size := by omega
        clear hr hW2 hC5 hO5 hE6 hq5 hbV k0 k1 k2 k3 k4 k5 k6 kf
        go_upto_region 13 with fail
        have hGV : Grew (fun x => x = V) w6 ((((((((w6.setCell ⟨V, 0, none⟩ (.slice A5 c5.ts.length a5)).setCell ⟨V, 1, none⟩ (.int .i64 g)).setCell ⟨V, 2, none⟩ (.slice B5 c5.dn.length b5)).setCell ⟨V, 3, none⟩ (.slice (some ⟨e5, o5, none⟩) m q5)).setCell ⟨V, 4, none⟩ (.bool c5.over)).setCell ⟨V, 5, none⟩ (.int .i64 c5.st)).setCell ⟨V, 6, none⟩ (.int .i64 c5.id))) := (Grew.setCell (S := fun x => x = V) (p := ⟨V, 6, none⟩) (Grew.setCell (S := fun x => x = V) (p := ⟨V, 5, none⟩) (Grew.setCell (S := fun x => x = V) (p := ⟨V, 4, none⟩) (Grew.setCell (S := fun x => x = V) (p := ⟨V, 3, none⟩) (Grew.setCell (S := fun x => x = V) (p := ⟨V, 2, none⟩) (Grew.setCell (S := fun x => x = V) (p := ⟨V, 1, none⟩) (Grew.setCell (S := fun x => x = V) (p := ⟨V, 0, none⟩) (Grew.refl _ _) rfl _) rfl _) rfl _) rfl _) rfl _) rfl _) rfl _)
        have HBR : Hid (((((((((w6.setCell ⟨V, 0, none⟩ (.slice A5 c5.ts.length a5)).setCell ⟨V, 1, none⟩ (.int .i64 g)).setCell ⟨V, 2, none⟩ (.slice B5 c5.dn.length b5)).setCell ⟨V, 3, none⟩ (.slice (some ⟨e5, o5, none⟩) m q5)).setCell ⟨V, 4, none⟩ (.bool c5.over)).setCell ⟨V, 5, none⟩ (.int .i64 c5.st)).setCell ⟨V, 6, none⟩ (.int .i64 c5.id))).heap[w.heap.size]? = some (.cells #[.slice none 0 0, .int .i64 0, .slice none 0 0, .slice none 0 0, .bool false, .int .i64 0, .int .i64 0] 57)) := Lib.hid (block_wr hbR hGV (by omega))
        have HC7 : Hid (CrewO (fun x => x = w.heap.size ∨ x = V ∨ Value.ownBlock (.slice Ao no co) = some x) ((((((((w6.setCell ⟨V, 0, none⟩ (.slice A5 c5.ts.length a5)).setCell ⟨V, 1, none⟩ (.int .i64 g)).setCell ⟨V, 2, none⟩ (.slice B5 c5.dn.length b5)).setCell ⟨V, 3, none⟩ (.slice (some ⟨e5, o5, none⟩) m q5)).setCell ⟨V, 4, none⟩ (.bool c5.over)).setCell ⟨V, 5, none⟩ (.int .i64 c5.st)).setCell ⟨V, 6, none⟩ (.int .i64 c5.id))) m c5 A5 B5 e5 o5 a5 b5) := Lib.hid (HC5.out.2.grew (hGV.mono (fun x _ hx => .inr (.inl hx))))
        have HO7 : Hid (Ow kEv (V + 1) ((((((((w6.setCell ⟨V, 0, none⟩ (.slice A5 c5.ts.length a5)).setCell ⟨V, 1, none⟩ (.int .i64 g)).setCell ⟨V, 2, none⟩ (.slice B5 c5.dn.length b5)).setCell ⟨V, 3, none⟩ (.slice (some ⟨e5, o5, none⟩) m q5)).setCell ⟨V, 4, none⟩ (.bool c5.over)).setCell ⟨V, 5, none⟩ (.int .i64 c5.st)).setCell ⟨V, 6, none⟩ (.int .i64 c5.id))) (.slice Ao no co) evs) := Lib.hid ((HD.out.own.ext HE6.out).grew hGV (fun x hx e => by have := (HRL.out x hx).1; omega))
        have HY7 : Hid (Rd kEv ((((((((w6.setCell ⟨V, 0, none⟩ (.slice A5 c5.ts.length a5)).setCell ⟨V, 1, none⟩ (.int .i64 g)).setCell ⟨V, 2, none⟩ (.slice B5 c5.dn.length b5)).setCell ⟨V, 3, none⟩ (.slice (some ⟨e5, o5, none⟩) m q5)).setCell ⟨V, 4, none⟩ (.bool c5.over)).setCell ⟨V, 5, none⟩ (.int .i64 c5.st)).setCell ⟨V, 6, none⟩ (.int .i64 c5.id))) (.slice L5 ds.length l5) ds) := Lib.hid (HO5.out.grew hGV (fun x hx e => by have := (HO5.out.lt x hx).1; omega)).rd
        have HE7 : Hid (Ext w ((((((((w6.setCell ⟨V, 0, none⟩ (.slice A5 c5.ts.length a5)).setCell ⟨V, 1, none⟩ (.int .i64 g)).setCell ⟨V, 2, none⟩ (.slice B5 c5.dn.length b5)).setCell ⟨V, 3, none⟩ (.slice (some ⟨e5, o5, none⟩) m q5)).setCell ⟨V, 4, none⟩ (.bool c5.over)).setCell ⟨V, 5, none⟩ (.int .i64 c5.st)).setCell ⟨V, 6, none⟩ (.int .i64 c5.id)))) := Lib.hid (hGV.toExt (HD.out.ext.trans HE6.out) (fun x hx => by omega))
        have hz7 : w6.heap.size = ((((((((w6.setCell ⟨V, 0, none⟩ (.slice A5 c5.ts.length a5)).setCell ⟨V, 1, none⟩ (.int .i64 g)).setCell ⟨V, 2, none⟩ (.slice B5 c5.dn.length b5)).setCell ⟨V, 3, none⟩ (.slice (some ⟨e5, o5, none⟩) m q5)).setCell ⟨V, 4, none⟩ (.bool c5.over)).setCell ⟨V, 5, none⟩ (.int .i64 c5.st)).setCell ⟨V, 6, none⟩ (.int .i64 c5.id))).heap.size := by simp
        generalize (((((((w6.setCell ⟨V, 0, none⟩ (.slice A5 c5.ts.length a5)).setCell ⟨V, 1, none⟩ (.int .i64 g)).setCell ⟨V, 2, none⟩ (.slice B5 c5.dn.length b5)).setCell ⟨V, 3, none⟩ (.slice (some ⟨e5, o5, none⟩) m q5)).setCell ⟨V, 4, none⟩ (.bool c5.over)).setCell ⟨V, 5, none⟩ (.int .i64 c5.st)).setCell ⟨V, 6, none⟩ (.int .i64 c5.id)) = w7 at *
        clear hbR z0 z1 z2 z3 z4 z5 z6 zf hGV
        have x0 : w7.cell? ⟨V, 0, none⟩ = some (.slice A5 c5.ts.length a5) := (cell_of_row w7 (V) 0 _ _ _ HBV.out).trans rfl
        have x1 : w7.cell? ⟨V, 1, none⟩ = some (.int .i64 g) := (cell_of_row w7 (V) 1 _ _ _ HBV.out).trans rfl
        have x2 : w7.cell? ⟨V, 2, none⟩ = some (.slice B5 c5.dn.length b5) := (cell_of_row w7 (V) 2 _ _ _ HBV.out).trans rfl
        have x3 : w7.cell? ⟨V, 3, none⟩ = some (.slice (some ⟨e5, o5, none⟩) m q5) := (cell_of_row w7 (V) 3 _ _ _ HBV.out).trans rfl
        have x4 : w7.cell? ⟨V, 4, none⟩ = some (.bool c5.over) := (cell_of_row w7 (V) 4 _ _ _ HBV.out).trans rfl
        have x5 : w7.cell? ⟨V, 5, none⟩ = some (.int .i64 c5.st) := (cell_of_row w7 (V) 5 _ _ _ HBV.out).trans rfl
        have x6 : w7.cell? ⟨V, 6, none⟩ = some (.int .i64 c5.id) := (cell_of_row w7 (V) 6 _ _ _ HBV.out).trans rfl
        have xf := fun o => frozen_of_row w7 (V) o _ _ HBV.out
        have y0 : w7.cell? ⟨w.heap.size, 0, none⟩ = some (.slice none 0 0) := (cell_of_row w7 (w.heap.size) 0 _ _ _ HBR.out).trans rfl
        have y1 : w7.cell? ⟨w.heap.size, 1, none⟩ = some (.int .i64 0) := (cell_of_row w7 (w.heap.size) 1 _ _ _ HBR.out).trans rfl
        have y2 : w7.cell? ⟨w.heap.size, 2, none⟩ = some (.slice none 0 0) := (cell_of_row w7 (w.heap.size) 2 _ _ _ HBR.out).trans rfl
        have y3 : w7.cell? ⟨w.heap.size, 3, none⟩ = some (.slice none 0 0) := (cell_of_row w7 (w.heap.size) 3 _ _ _ HBR.out).trans rfl
        have y4 : w7.cell? ⟨w.heap.size, 4, none⟩ = some (.bool false) := (cell_of_row w7 (w.heap.size) 4 _ _ _ HBR.out).trans rfl
        have y5 : w7.cell? ⟨w.heap.size, 5, none⟩ = some (.int .i64 0) := (cell_of_row w7 (w.heap.size) 5 _ _ _ HBR.out).trans rfl
        have y6 : w7.cell? ⟨w.heap.size, 6, none⟩ = some (.int .i64 0) := (cell_of_row w7 (w.heap.size) 6 _ _ _ HBR.out).trans rfl
        have yf := fun o => frozen_of_row w7 (w.heap.size) o _ _ HBR.out
        have lV7 : V < w7.heap.size := by omega
        have lR7 : w.heap.size < w7.heap.size := by omega
        have HLL : Hid (evs.length + ds.length ≤ 1048576) := Lib.hid (by have := HO9.out.2.1; have := HEE.out; omega)
        have nRV : ¬ w.heap.size = V := by omega
        go_region_law (first
          | (refine kEv.step_app (by rfl) (.tmp 74) (.tmp 75) (by rfl) (by rfl) (V + 1) _ evs (by rfl) (HO7.out.ext (Ext.refl _).drew) _ ds (by rfl) (HY7.out.ext (Ext.refl _).drew) HLL.out (by simp; omega) ?_
             intro v8 w8 hown8 hgrow8 hat8
             have HA8 := Lib.hid (And.intro hown8 (And.intro hgrow8 hat8))
             have gV := block_of_grown hgrow8 (block_keep HBV.out (Ext.refl _).drew) (fun e => by have := (HRL.out _ e.symm).1; omega)
             have gR := block_of_grown hgrow8 (block_keep HBR.out (Ext.refl _).drew) (fun e => by have := (HRL.out _ e.symm).1; omega)
             have gz := hgrow8.size
             simp at gz
             have lV8 : V < w8.heap.size := by omega
             have lR8 : w.heap.size < w8.heap.size := by omega
             have p0 : w8.cell? ⟨V, 0, none⟩ = some (.slice A5 c5.ts.length a5) := (cell_of_row w8 (V) 0 _ _ _ gV).trans rfl
             have p1 : w8.cell? ⟨V, 1, none⟩ = some (.int .i64 g) := (cell_of_row w8 (V) 1 _ _ _ gV).trans rfl
             have p2 : w8.cell? ⟨V, 2, none⟩ = some (.slice B5 c5.dn.length b5) := (cell_of_row w8 (V) 2 _ _ _ gV).trans rfl
             have p3 : w8.cell? ⟨V, 3, none⟩ = some (.slice (some ⟨e5, o5, none⟩) m q5) := (cell_of_row w8 (V) 3 _ _ _ gV).trans rfl
             have p4 : w8.cell? ⟨V, 4, none⟩ = some (.bool c5.over) := (cell_of_row w8 (V) 4 _ _ _ gV).trans rfl
             have p5 : w8.cell? ⟨V, 5, none⟩ = some (.int .i64 c5.st) := (cell_of_row w8 (V) 5 _ _ _ gV).trans rfl
             have p6 : w8.cell? ⟨V, 6, none⟩ = some (.int .i64 c5.id) := (cell_of_row w8 (V) 6 _ _ _ gV).trans rfl
             have pf := fun o => frozen_of_row w8 (V) o _ _ gV
             have r0 : w8.cell? ⟨w.heap.size, 0, none⟩ = some (.slice none 0 0) := (cell_of_row w8 (w.heap.size) 0 _ _ _ gR).trans rfl
             have r1 : w8.cell? ⟨w.heap.size, 1, none⟩ = some (.int .i64 0) := (cell_of_row w8 (w.heap.size) 1 _ _ _ gR).trans rfl
             have r2 : w8.cell? ⟨w.heap.size, 2, none⟩ = some (.slice none 0 0) := (cell_of_row w8 (w.heap.size) 2 _ _ _ gR).trans rfl
             have r3 : w8.cell? ⟨w.heap.size, 3, none⟩ = some (.slice none 0 0) := (cell_of_row w8 (w.heap.size) 3 _ _ _ gR).trans rfl
             have r4 : w8.cell? ⟨w.heap.size, 4, none⟩ = some (.bool false) := (cell_of_row w8 (w.heap.size) 4 _ _ _ gR).trans rfl
             have r5 : w8.cell? ⟨w.heap.size, 5, none⟩ = some (.int .i64 0) := (cell_of_row w8 (w.heap.size) 5 _ _ _ gR).trans rfl
             have r6 : w8.cell? ⟨w.heap.size, 6, none⟩ = some (.int .i64 0) := (cell_of_row w8 (w.heap.size) 6 _ _ _ gR).trans rfl
             have rf := fun o => frozen_of_row w8 (w.heap.size) o _ _ gR
             clear hown8 hgrow8 hat8 gV gR gz x0 x1 x2 x3 x4 x5 x6 xf y0 y1 y2 y3 y4 y5 y6 yf))
        all_goals go_wp2_with fail
        all_goals
          obtain ⟨hown8, hgrow8, hat8⟩ := HA8.out
          obtain ⟨Lz, cz, hvz, hcz⟩ := hown8.slice
          subst hvz
          have hGR : Grew (fun x => x = w.heap.size) w8 ((((((((w8.setCell ⟨w.heap.size, 0, none⟩ (.slice A5 c5.ts.length a5)).setCell ⟨w.heap.size, 1, none⟩ (.int .i64 g)).setCell ⟨w.heap.size, 2, none⟩ (.slice B5 c5.dn.length b5)).setCell ⟨w.heap.size, 3, none⟩ (.slice (some ⟨e5, o5, none⟩) m q5)).setCell ⟨w.heap.size, 4, none⟩ (.bool c5.over)).setCell ⟨w.heap.size, 5, none⟩ (.int .i64 c5.st)).setCell ⟨w.heap.size, 6, none⟩ (.int .i64 c5.id))) := (Grew.setCell (S := fun x => x = w.heap.size) (p := ⟨w.heap.size, 6, none⟩) (Grew.setCell (S := fun x => x = w.heap.size) (p := ⟨w.heap.size, 5, none⟩) (Grew.setCell (S := fun x => x = w.heap.size) (p := ⟨w.heap.size, 4, none⟩) (Grew.setCell (S := fun x => x = w.heap.size) (p := ⟨w.heap.size, 3, none⟩) (Grew.setCell (S := fun x => x = w.heap.size) (p := ⟨w.heap.size, 2, none⟩) (Grew.setCell (S := fun x => x = w.heap.size) (p := ⟨w.heap.size, 1, none⟩) (Grew.setCell (S := fun x => x = w.heap.size) (p := ⟨w.heap.size, 0, none⟩) (Grew.refl _ _) rfl _) rfl _) rfl _) rfl _) rfl _) rfl _) rfl _)
          refine bodyPost_ret (v := .tuple #[crewV A5 B5 e5 o5 a5 b5 q5 g m c5, .slice Lz (evs ++ ds).length cz, .int .i64 0]) (by simp [results, Try.results27, go_sem]; go_simp) rfl ?_
          rw [HW2.out]
          refine ⟨A5, B5, Lz, e5, o5, a5, b5, q5, cz, HC5.out.1, rfl, ?_, ?_, ?_⟩
          · exact (((HC7.out.ext (Ext.refl _).drew).grew ((Wr.grown hgrow8).mono (fun x _ hx => .inr (.inr hx)))).grew (hGR.mono (fun x _ hx => .inl hx))).at_ m1
          · exact (hown8.grew hGR (fun x hx e => by have := (hown8.lt x hx).1; have := HD.out.vl; omega)).mono (by have := HD.out.vl; omega)
          · exact hGR.toExt (Wr.toExt (Wr.grown hgrow8) (HE7.out.trans (Ext.refl _).drew) (fun x hx => by have := (HRL.out x hx).1; have := HD.out.vl; omega)) (fun x hx => by omega)
      | false =>
        obtain ⟨bp, op, rfl, hcp⟩ := Rd.picks (HP.out.ext HD.out.ext) (by omega)
        obtain ⟨z0, z1⟩ := hcp k hlt
        have hok := HP.out.okAt k hlt
        obtain ⟨⟨p, q⟩, hpq⟩ : ∃ x, picks.getD k (0, 0) = x := ⟨_, rfl⟩
        rw [hpq] at z0 z1
        simp only at z0 z1
        have hpq2 : in64 p ∧ in64 q := by have e0 : picks.getD k kPk.d = (p, q) := hpq; rw [e0] at hok; exact hok
        have HPQ := Lib.hid hpq2
        have lbp : bp < wr.heap.size := World.block_lt_of_cell? _ _ z0
        obtain ⟨dn, hI⟩ := HD.out.been.inv
        have hbn := HD.out.been.step g1 m1 p q
        have hev := hI.evOk g1 n1 n2 m1 m2 p q
        have heq := HD.out.eq
        rw [untilP_next g m k c1 picks hlt hov, hpq] at heq
        obtain ⟨⟨c', ev⟩, hr⟩ : ∃ r, stepP g m c1 p q = r := ⟨_, rfl⟩
        simp only at heq
        rw [hr] at hbn hev heq
        have HBN := Lib.hid hbn
        have HOKE : Hid (kEv.ok ev) := Lib.hid hev
        have HEQ := Lib.hid heq
        have HR := Lib.hid hr
        have HI := Lib.hid hI
        have HOV := Lib.hid hov
        have HCA := Lib.hid (HD.out.cr.at_ m1)
        have HST : Hid (c1.st < 100000 ∧ c1.id < 100000) := Lib.hid (by have := HD.out.been.st; have := HD.out.been.id; have := HD.out.len; omega)
        have lV := block_lt HD.out.box
        have vl := HD.out.vl
        clear hcp hok hpq hpq2 hI hbn hev heq hr hov hex
        rw [HOV.out] at k4
        go_upto_region 8 with fail
        go_cut [15, 16, 17] (fun x e f wx => StepCut6 wr g m c' ev x e f wx)
        case first =>
          have KS : Hid (∀ w', Ext wr w' → w'.cell? ⟨V, 0, none⟩ = some (.slice A1 c1.ts.length a1) ∧ w'.cell? ⟨V, 1, none⟩ = some (.int .i64 g) ∧ w'.cell? ⟨V, 2, none⟩ = some (.slice B1 c1.dn.length b1) ∧ w'.cell? ⟨V, 3, none⟩ = some (.slice (some ⟨e1, 0, none⟩) m q1) ∧ w'.cell? ⟨V, 4, none⟩ = some (.bool false) ∧ w'.cell? ⟨V, 5, none⟩ = some (.int .i64 c1.st) ∧ w'.cell? ⟨V, 6, none⟩ = some (.int .i64 c1.id) ∧ w'.cell? ⟨bp, op + k * 2, none⟩ = some (.int .i64 p) ∧ w'.cell? ⟨bp, op + k * 2 + 1, none⟩ = some (.int .i64 q)) := Lib.hid fun w' hE => ⟨hE.cell k0, hE.cell k1, hE.cell k2, hE.cell k3, hE.cell k4, hE.cell k5, hE.cell k6, hE.cell z0, hE.cell z1⟩
          go_region_held3 (fun w' => w'.cell? ⟨V, 0, none⟩ = some (.slice A1 c1.ts.length a1) ∧ w'.cell? ⟨V, 1, none⟩ = some (.int .i64 g) ∧ w'.cell? ⟨V, 2, none⟩ = some (.slice B1 c1.dn.length b1) ∧ w'.cell? ⟨V, 3, none⟩ = some (.slice (some ⟨e1, 0, none⟩) m q1) ∧ w'.cell? ⟨V, 4, none⟩ = some (.bool false) ∧ w'.cell? ⟨V, 5, none⟩ = some (.int .i64 c1.st) ∧ w'.cell? ⟨V, 6, none⟩ = some (.int .i64 c1.id) ∧ w'.cell? ⟨bp, op + k * 2, none⟩ = some (.int .i64 p) ∧ w'.cell? ⟨bp, op + k * 2 + 1, none⟩ = some (.int .i64 q))
            (first | go_keep | exact KS.out _ (by repeat (first | (with_reducible exact Ext.refl _) | (with_reducible exact hX4) | (with_reducible refine Ext.drew ?_) | (with_reducible refine Ext.alloc ?_ _) | (with_reducible refine Ext.setCell ?_ (by first | (simp; done) | (simp; omega)) _))))
            (first
              | (go_at_call 38
                 refine (rstep5_to A1 B1 e1 0 a1 b1 q1 g n m c1 c' ev false dn _ p q _ HOV.out HR.out (HCA.out.ext (by repeat (first | (with_reducible exact Ext.refl _) | (with_reducible exact hX4) | (with_reducible refine Ext.drew ?_) | (with_reducible refine Ext.alloc ?_ _) | (with_reducible refine Ext.setCell ?_ (by first | (simp; done) | (simp; omega)) _)))) HD.out.me HI.out n1 n2 g1 g2 m1 m2 HST.out.1 HST.out.2 HPQ.out.1 HPQ.out.2).mono ?_
                 rintro ed w4 ⟨A', B', e0', a', b', q', hq', rfl, hC4, hE4⟩
                 obtain ⟨S4, hV4, hS4, hC6⟩ : ∃ S4 : Nat → Prop, (∀ b, b < wr.heap.size → S4 b) ∧ (∀ b, b < _ → S4 b) ∧ CrewO S4 w4 m c' A' B' e0' 0 a' b' := ⟨_, fun b h => by first | exact h | (simp; omega) | omega, fun b h1 => h1, hC4⟩
                 have hX4 : Ext wr w4 := Ext.trans (by repeat (first | (with_reducible exact Ext.refl _) | (with_reducible exact hX4) | (with_reducible refine Ext.drew ?_) | (with_reducible refine Ext.alloc ?_ _) | (with_reducible refine Ext.setCell ?_ (by first | (simp; done) | (simp; omega)) _))) hE4
                 have hz4 := hE4.size
                 simp at hz4
                 have lz4 : wr.heap.size ≤ w4.heap.size := by omega
                 try (have yc00 : w4.cell? ⟨wr.heap.size, 0, none⟩ = some (.slice none 0 0) := hE4.cell (by first | (go_simp; done) | fail)
                      have yc01 : w4.cell? ⟨wr.heap.size, 1, none⟩ = some (.int .i64 0) := hE4.cell (by first | (go_simp; done) | fail)
                      have yc02 : w4.cell? ⟨wr.heap.size, 2, none⟩ = some (.slice none 0 0) := hE4.cell (by first | (go_simp; done) | fail)
                      have yc03 : w4.cell? ⟨wr.heap.size, 3, none⟩ = some (.slice none 0 0) := hE4.cell (by first | (go_simp; done) | fail)
                      have yc04 : w4.cell? ⟨wr.heap.size, 4, none⟩ = some (.bool false) := hE4.cell (by first | (go_simp; done) | fail)
                      have yc05 : w4.cell? ⟨wr.heap.size, 5, none⟩ = some (.int .i64 0) := hE4.cell (by first | (go_simp; done) | fail)
                      have yc06 : w4.cell? ⟨wr.heap.size, 6, none⟩ = some (.int .i64 0) := hE4.cell (by first | (go_simp; done) | fail)
                      have yc0f : ∀ o, w4.frozen? ⟨wr.heap.size, o, none⟩ = false := fun o => (Below.frozen hE4 (p := ⟨wr.heap.size, o, none⟩) (by first | (simp; done) | (simp; omega) | fail)).trans (by first | (go_simp; done) | fail)
                      have yc0l : wr.heap.size < w4.heap.size := by omega)
                 try (have ye03 : w4.cell? ⟨wr.heap.size, 3, none⟩ = some (.bool false) := hE4.cell (by first | (go_simp; done) | fail)
                      have ye00 : w4.cell? ⟨wr.heap.size, 0, none⟩ = some (.int .i64 0) := hE4.cell (by first | (go_simp; done) | fail)
                      have ye01 : w4.cell? ⟨wr.heap.size, 1, none⟩ = some (.int .i64 0) := hE4.cell (by first | (go_simp; done) | fail)
                      have ye02 : w4.cell? ⟨wr.heap.size, 2, none⟩ = some (.int .i64 0) := hE4.cell (by first | (go_simp; done) | fail)
                      have ye0f : ∀ o, w4.frozen? ⟨wr.heap.size, o, none⟩ = false := fun o => (Below.frozen hE4 (p := ⟨wr.heap.size, o, none⟩) (by first | (simp; done) | (simp; omega) | fail)).trans (by first | (go_simp; done) | fail)
                      have ye0l : wr.heap.size < w4.heap.size := by omega)
                 try (have yc10 : w4.cell? ⟨wr.heap.size + 1, 0, none⟩ = some (.slice none 0 0) := hE4.cell (by first | (go_simp; done) | fail)
                      have yc11 : w4.cell? ⟨wr.heap.size + 1, 1, none⟩ = some (.int .i64 0) := hE4.cell (by first | (go_simp; done) | fail)
                      have yc12 : w4.cell? ⟨wr.heap.size + 1, 2, none⟩ = some (.slice none 0 0) := hE4.cell (by first | (go_simp; done) | fail)
                      have yc13 : w4.cell? ⟨wr.heap.size + 1, 3, none⟩ = some (.slice none 0 0) := hE4.cell (by first | (go_simp; done) | fail)
                      have yc14 : w4.cell? ⟨wr.heap.size + 1, 4, none⟩ = some (.bool false) := hE4.cell (by first | (go_simp; done) | fail)
                      have yc15 : w4.cell? ⟨wr.heap.size + 1, 5, none⟩ = some (.int .i64 0) := hE4.cell (by first | (go_simp; done) | fail)
                      have yc16 : w4.cell? ⟨wr.heap.size + 1, 6, none⟩ = some (.int .i64 0) := hE4.cell (by first | (go_simp; done) | fail)
                      have yc1f : ∀ o, w4.frozen? ⟨wr.heap.size + 1, o, none⟩ = false := fun o => (Below.frozen hE4 (p := ⟨wr.heap.size + 1, o, none⟩) (by first | (simp; done) | (simp; omega) | fail)).trans (by first | (go_simp; done) | fail)
                      have yc1l : wr.heap.size + 1 < w4.heap.size := by omega)
                 try (have ye13 : w4.cell? ⟨wr.heap.size + 1, 3, none⟩ = some (.bool false) := hE4.cell (by first | (go_simp; done) | fail)
                      have ye10 : w4.cell? ⟨wr.heap.size + 1, 0, none⟩ = some (.int .i64 0) := hE4.cell (by first | (go_simp; done) | fail)
                      have ye11 : w4.cell? ⟨wr.heap.size + 1, 1, none⟩ = some (.int .i64 0) := hE4.cell (by first | (go_simp; done) | fail)
                      have ye12 : w4.cell? ⟨wr.heap.size + 1, 2, none⟩ = some (.int .i64 0) := hE4.cell (by first | (go_simp; done) | fail)
                      have ye1f : ∀ o, w4.frozen? ⟨wr.heap.size + 1, o, none⟩ = false := fun o => (Below.frozen hE4 (p := ⟨wr.heap.size + 1, o, none⟩) (by first | (simp; done) | (simp; omega) | fail)).trans (by first | (go_simp; done) | fail)
                      have ye1l : wr.heap.size + 1 < w4.heap.size := by omega)
                ))
          all_goals
            go_wp2_with fail
            go_meet
            refine ⟨_, _, A', B', e0', a', b', q', hq', rfl, rfl, rfl, ⟨by go_simp, by go_simp, by go_simp, by go_simp, by go_simp, by go_simp, by go_simp, by go_simp, by go_simp, by go_simp, by go_simp⟩, ?_, (by first | (simp; done) | (simp; omega) | omega), (by first | (simp; done) | (simp; omega) | omega), (by repeat (first | (with_reducible exact Ext.refl _) | (with_reducible exact hX4) | (with_reducible refine Ext.drew ?_) | (with_reducible refine Ext.alloc ?_ _) | (with_reducible refine Ext.setCell ?_ (by first | (simp; done) | (simp; omega)) _)))⟩
            refine CrewO.mono (S := S4) ?_ m1 (fun b hb h => hV4 b h)
            repeat (first | (with_reducible exact hC6) | (with_reducible refine CrewO.setCell ?_ (hS4 _ (by first | (simp; done) | (simp; omega) | omega)) _) | (with_reducible refine CrewO.ext ?_ ((Ext.refl _).alloc _)) | (with_reducible refine CrewO.ext ?_ (Ext.refl _).drew))
        case rest =>
        obtain ⟨X, Y, A5, B5, e5, a5, b5, q5, hq5, rfl, rfl, rfl, hBx, hC5, hXl, hYl, hX⟩ := hcut
        generalize wc = w8 at *
        obtain ⟨x0, x1, x2, x3, x4, x5, x6, y0, y1, y2, y3⟩ := hBx
        have HE8 := Lib.hid hX
        have HC5 := Lib.hid (And.intro hq5 hC5)
        have HB8 := Lib.hid (block_keep HD.out.box hX)
        have hz8 := hX.size
        obtain ⟨Ao, co, hv, hco⟩ := HD.out.own.slice
        obtain ⟨no, hno⟩ : ∃ no, evs.length = no := ⟨_, rfl⟩
        rw [hno] at hv hco
        subst hv
        obtain ⟨row, hrw⟩ : ∃ row, Value.ownBlock (.slice Ao no co) = row := ⟨_, rfl⟩
        have hrlt : ∀ x, row = some x → V + 1 ≤ x ∧ x < wr.heap.size := fun x hx => HD.out.own.lt x (hrw.trans hx)
        have hrow : ∀ x, row = some x → x < w8.heap.size := fun x hx => by have := hrlt x hx; omega
        have nX : ¬ row = some X := fun hh => by have := hrlt _ hh; omega
        have nY : ¬ row = some Y := fun hh => by have := hrlt _ hh; omega
        have HRL := Lib.hid hrlt
        have HO8 : Hid (Ow kEv (V + 1) w8 (.slice Ao no co) evs) := Lib.hid (HD.out.own.ext hX)
        have HLL : Hid (evs.length + [ev].length ≤ 1048576) := Lib.hid (by have := HD.out.len; simp; omega)
        have HBS : Hid (V + 1 ≤ w8.heap.size) := Lib.hid (by omega)
        clear hno hco hrlt hC5 hX hq5
        go_upto_region 11 with fail
        refine MonoW.wp_region_write 5 4 (Wr row) (R6Q w8 row (.agg #[.slice A5 c'.ts.length a5, .int .i64 g, .slice B5 c'.dn.length b5, .slice (some ⟨e5, 0, none⟩) m q5, .bool c'.over, .int .i64 c'.st, .int .i64 c'.id]) (.agg #[.int .i64 ev.wk, .int .i64 ev.fr, .int .i64 ev.tk, .bool ev.pt]) (.slice Ao no co) (V + 1) evs ev) (by kernel_rfl) (by kernel_rfl) (Wr.of row) (Wr.tr row) (R6Q_ext w8 row (.agg #[.slice A5 c'.ts.length a5, .int .i64 g, .slice B5 c'.dn.length b5, .slice (some ⟨e5, 0, none⟩) m q5, .bool c'.over, .int .i64 c'.st, .int .i64 c'.id]) (.agg #[.int .i64 ev.wk, .int .i64 ev.fr, .int .i64 ev.tk, .bool ev.pt]) (.slice Ao no co) (V + 1) evs ev) (R6Q_sw w8 row (.agg #[.slice A5 c'.ts.length a5, .int .i64 g, .slice B5 c'.dn.length b5, .slice (some ⟨e5, 0, none⟩) m q5, .bool c'.over, .int .i64 c'.st, .int .i64 c'.id]) (.agg #[.int .i64 ev.wk, .int .i64 ev.fr, .int .i64 ev.tk, .bool ev.pt]) (.slice Ao no co) (V + 1) evs ev hrow) ?_ ?_
        · intro i o hi ho vals w5 hE hQ hcl
          have hi' : i = 0 ∨ i = 1 ∨ i = 2 ∨ i = 3 ∨ i = 4 := by omega
          rcases hi' with rfl | rfl | rfl | rfl | rfl
          · simp only [List.getElem?_cons_succ, List.getElem?_cons_zero, Option.some.injEq] at ho
            subst ho
            rw [if_pos (Mono.wanted_none rfl)]
            have l0 := hE.cell x0 nX
            have l1 := hE.cell x1 nX
            have l2 := hE.cell x2 nX
            have l3 := hE.cell x3 nX
            have l4 := hE.cell x4 nX
            have l5 := hE.cell x5 nX
            have l6 := hE.cell x6 nX
            clear hcl
            refine Mono.yields_same (.agg #[.slice A5 c'.ts.length a5, .int .i64 g, .slice B5 c'.dn.length b5, .slice (some ⟨e5, 0, none⟩) m q5, .bool c'.over, .int .i64 c'.st, .int .i64 c'.id]) w5 ?_ ⟨MonoW.Out.of (Wr.of row) (Ext.refl _), R6Q_i0 _ _ _ _ _ _ _ _ _ _ _ rfl⟩
            simp only [Mono.all, List.take, Act.put]
            go_simp
          · simp only [List.getElem?_cons_succ, List.getElem?_cons_zero, Option.some.injEq] at ho
            subst ho
            rw [if_pos (Mono.wanted_none rfl)]
            clear hcl
            refine Mono.yields_same (.slice Ao no co) w5 ?_ ⟨MonoW.Out.of (Wr.of row) (Ext.refl _), R6Q_i1 _ _ _ _ _ _ _ _ _ _ _ rfl⟩
            simp only [Mono.all, List.take, Act.put]
            go_simp
          · simp only [List.getElem?_cons_succ, List.getElem?_cons_zero, Option.some.injEq] at ho
            subst ho
            rw [if_pos (Mono.wanted_none rfl)]
            have l0 := hE.cell y0 nY
            have l1 := hE.cell y1 nY
            have l2 := hE.cell y2 nY
            have l3 := hE.cell y3 nY
            clear hcl
            refine Mono.yields_same (.agg #[.int .i64 ev.wk, .int .i64 ev.fr, .int .i64 ev.tk, .bool ev.pt]) w5 ?_ ⟨MonoW.Out.of (Wr.of row) (Ext.refl _), R6Q_i2 _ _ _ _ _ _ _ _ _ _ _ rfl⟩
            simp only [Mono.all, List.take, Act.put]
            go_simp
          · simp only [List.getElem?_cons_succ, List.getElem?_cons_zero, Option.some.injEq] at ho
            subst ho
            rw [if_pos (Mono.wanted_none rfl)]
            have h2 : vals 2 = .agg #[.int .i64 ev.wk, .int .i64 ev.fr, .int .i64 ev.tk, .bool ev.pt] := (R6Q_e2 _ _ _ _ _ _ _ _ _ _ _ (hcl 2 (by kernel_rfl)))
            clear hcl
            refine Mono.yields_same (.slice (some ⟨w5.heap.size, 0, none⟩) 1 1) (w5.alloc (.cells #[.int .i64 ev.wk, .int .i64 ev.fr, .int .i64 ev.tk, .bool ev.pt] kEv.e)) ?_ ⟨MonoW.Out.of (Wr.of row) ((Ext.refl _).alloc _), R6Q_i3 _ _ _ _ _ _ _ _ _ _ _ (OneAt.made kEv w5 hE.size _ _ rfl HOKE.out)⟩
            simp only [Mono.all, List.take, Act.put, kEv]
            go_simp
          · simp only [List.getElem?_cons_succ, List.getElem?_cons_zero, Option.some.injEq] at ho
            subst ho
            rw [if_pos (Mono.wanted_none rfl)]
            obtain ⟨p, h3, o3⟩ := (R6Q_e3 _ _ _ _ _ _ _ _ _ _ _ (hcl 3 (by kernel_rfl)))
            have h1 : vals 1 = .slice Ao no co := (R6Q_e1 _ _ _ _ _ _ _ _ _ _ _ (hcl 1 (by kernel_rfl)))
            have hX := hQ rfl
            clear hcl
            refine Kd.yields_grow kEv (B := V + 1) (n := w8.heap.size) (q := 4) (.tmp 63) (.tmp 65) (v := .slice Ao no co) (y := .slice (some ⟨p, 0, none⟩) 1 1) (xs := evs) (ys := [ev]) (HO8.out.ext hX) o3.rd HLL.out (Nat.le_trans HBS.out hX.size) hX.size rfl rfl (by rw [← h1]; kernel_rfl) (by rw [← h3]; kernel_rfl) ?_
            intro v' w' hA hO
            exact ⟨by rw [← hrw]; exact hO, R6Q_i4 _ _ _ _ _ _ _ _ _ _ _ hA⟩
        · intro vals w5 hE hv
          have hA := (R6Q_e4 _ _ _ _ _ _ _ _ _ _ _ (hv 4 (by omega)))
          have ee0 := (R6Q_e0 _ _ _ _ _ _ _ _ _ _ _ (hv 0 (by omega)))
          have ee3 := (R6Q_e3 _ _ _ _ _ _ _ _ _ _ _ (hv 3 (by omega)))
          have HA := Lib.hid hA
          have HG := Lib.hid hE
          have hbP : w5.heap[V]? = some (.cells #[.slice A1 c1.ts.length a1, .int .i64 g, .slice B1 c1.dn.length b1, .slice (some ⟨e1, 0, none⟩) m q1, .bool c1.over, .int .i64 c1.st, .int .i64 c1.id] 57) := block_wr HB8.out hE (fun hh => by have := (HRL.out _ hh).1; omega)
          have z0 : w5.cell? ⟨V, 0, none⟩ = some (.slice A1 c1.ts.length a1) := (cell_of_row w5 (V) 0 _ _ _ hbP).trans rfl
          have z1 : w5.cell? ⟨V, 1, none⟩ = some (.int .i64 g) := (cell_of_row w5 (V) 1 _ _ _ hbP).trans rfl
          have z2 : w5.cell? ⟨V, 2, none⟩ = some (.slice B1 c1.dn.length b1) := (cell_of_row w5 (V) 2 _ _ _ hbP).trans rfl
          have z3 : w5.cell? ⟨V, 3, none⟩ = some (.slice (some ⟨e1, 0, none⟩) m q1) := (cell_of_row w5 (V) 3 _ _ _ hbP).trans rfl
          have z4 : w5.cell? ⟨V, 4, none⟩ = some (.bool c1.over) := (cell_of_row w5 (V) 4 _ _ _ hbP).trans rfl
          have z5 : w5.cell? ⟨V, 5, none⟩ = some (.int .i64 c1.st) := (cell_of_row w5 (V) 5 _ _ _ hbP).trans rfl
          have z6 : w5.cell? ⟨V, 6, none⟩ = some (.int .i64 c1.id) := (cell_of_row w5 (V) 6 _ _ _ hbP).trans rfl
          have zf := fun o => frozen_of_row w5 (V) o _ _ hbP
          have lP := block_lt hbP
          have HBP := Lib.hid hbP
          clear hA hbP hE ee3
          simp only [Mono.all, List.take, List.drop, Act.put]
          go_wp2_with fail
          go_roundw
          case rel =>
            have hGP : Grew (fun x => x = V) w5 ((((((((w5.setCell ⟨V, 0, none⟩ (.slice A5 c'.ts.length a5)).setCell ⟨V, 1, none⟩ (.int .i64 g)).setCell ⟨V, 2, none⟩ (.slice B5 c'.dn.length b5)).setCell ⟨V, 3, none⟩ (.slice (some ⟨e5, 0, none⟩) m q5)).setCell ⟨V, 4, none⟩ (.bool c'.over)).setCell ⟨V, 5, none⟩ (.int .i64 c'.st)).setCell ⟨V, 6, none⟩ (.int .i64 c'.id))) := (Grew.setCell (S := fun x => x = V) (p := ⟨V, 6, none⟩) (Grew.setCell (S := fun x => x = V) (p := ⟨V, 5, none⟩) (Grew.setCell (S := fun x => x = V) (p := ⟨V, 4, none⟩) (Grew.setCell (S := fun x => x = V) (p := ⟨V, 3, none⟩) (Grew.setCell (S := fun x => x = V) (p := ⟨V, 2, none⟩) (Grew.setCell (S := fun x => x = V) (p := ⟨V, 1, none⟩) (Grew.setCell (S := fun x => x = V) (p := ⟨V, 0, none⟩) (Grew.refl _ _) rfl _) rfl _) rfl _) rfl _) rfl _) rfl _) rfl _)
            have hGr : Grew (fun x => x = V ∨ row = some x) w8 ((((((((w5.setCell ⟨V, 0, none⟩ (.slice A5 c'.ts.length a5)).setCell ⟨V, 1, none⟩ (.int .i64 g)).setCell ⟨V, 2, none⟩ (.slice B5 c'.dn.length b5)).setCell ⟨V, 3, none⟩ (.slice (some ⟨e5, 0, none⟩) m q5)).setCell ⟨V, 4, none⟩ (.bool c'.over)).setCell ⟨V, 5, none⟩ (.int .i64 c'.st)).setCell ⟨V, 6, none⟩ (.int .i64 c'.id))) := (Grew.mono HG.out (fun x _ hx => .inr hx)).trans (hGP.mono (fun x _ hx => .inl hx))
            refine ⟨k + 1, by omega, by go_num, c', evs ++ [ev], A5, B5, e5, a5, b5, q5, HC5.out.1, set_box7 HBP.out _ _ _ _ _ _ _, ?_, HA.out.1.grew hGP (fun x hx e => by have := (HA.out.1.lt x hx).1; omega), HBN.out, ?_, by have := HD.out.len; rw [List.length_append]; simp; omega, ?_, ?_, HD.out.vl⟩
            · refine HC5.out.2.later m1 (W := (((((((w5.setCell ⟨V, 0, none⟩ (.slice A5 c'.ts.length a5)).setCell ⟨V, 1, none⟩ (.int .i64 g)).setCell ⟨V, 2, none⟩ (.slice B5 c'.dn.length b5)).setCell ⟨V, 3, none⟩ (.slice (some ⟨e5, 0, none⟩) m q5)).setCell ⟨V, 4, none⟩ (.bool c'.over)).setCell ⟨V, 5, none⟩ (.int .i64 c'.st)).setCell ⟨V, 6, none⟩ (.int .i64 c'.id))) (hGr.mono (fun x hx hh => ?_)) (fun x hx hT => ?_)
              · rcases hh with hh | hh
                · omega
                · exact (HRL.out x hh).2
              · rcases hT with hT | hT | hT
                · omega
                · omega
                · rcases HA.out.2 with h9 | ⟨p', h9, h10⟩
                  · rw [h9, hrw] at hT
                    exact (HRL.out x hT).2
                  · rw [h9] at hT; cases hT; omega
            · rw [HEQ.out, List.append_assoc]; rfl
            · exact block_wr (block_keep HD.out.res HE8.out) hGr (fun hh => by
                rcases hh with hh | hh
                · omega
                · have := (HRL.out _ hh).1; omega)
            · exact hGr.toExt (HD.out.ext.trans HE8.out) (fun x hx => by
                rcases hx with hx | hx
                · omega
                · have := (HRL.out _ hx).1; omega)
          case measure => simp [intOf]; omega
    · have hlt' : ¬ (k : Int) < picks.length := by omega
      have hld : decide ((k : Int) < picks.length) = false := decide_eq_false hlt'
      have hU := hex (fun h => absurd h hlt)
      go_upto_region 12 with fail
      obtain ⟨N, hN⟩ : ∃ N, m * cntT n g = N := ⟨_, rfl⟩
      have hW : wholeP g n m picks = ((drainP g m N 0 c1).1, evs ++ (drainP g m N 0 c1).2) := by unfold wholeP; rw [hU, hN]
      obtain ⟨dn, hI⟩ := HD.out.been.inv
      have hcn := (hI.counts g1 n1).2.2.1
      have hNl : N ≤ 14400 := by
        have h1 : m * cntT n g ≤ 8 * 1800 := Nat.mul_le_mul m2 (by omega)
        omega
      have hov9 : (drainP g m N 0 c1).1.over = true := by have := (whole_ends g1 n1 m1 picks).1; rw [hW] at this; exact this
      have hel := HD.out.len
      have hst := HD.out.been.st
      have hid := HD.out.been.id
      have hee : (drainP g m N 0 c1).2.length ≤ 60000 := by
        have h1 := (whole_ends g1 n1 m1 picks).2.2.1
        rw [hW] at h1
        simp only [List.length_append] at h1
        have h2 : m * (cntT n g + 1) ≤ 8 * 1801 := Nat.mul_le_mul m2 (by omega)
        omega
      obtain ⟨Ao, co, hv, hco⟩ := HD.out.own.slice
      obtain ⟨no, hno⟩ : ∃ no, evs.length = no := ⟨_, rfl⟩
      rw [hno] at hv hco
      subst hv
      have hrlt : ∀ x, Value.ownBlock (.slice Ao no co) = some x → V + 1 ≤ x ∧ x < wr.heap.size := fun x hx => HD.out.own.lt x hx
      have HRL := Lib.hid hrlt
      have HW := Lib.hid hW
      have HO9 := Lib.hid (And.intro hov9 (And.intro hel (And.intro hst (And.intro hid hee))))
      have HII := Lib.hid hI
      have lV := block_lt HD.out.box
      have lR := block_lt HD.out.res
      have vl := HD.out.vl
      have HS : Hid (∀ x, (x = w.heap.size ∨ x = V ∨ Value.ownBlock (.slice Ao no co) = some x) → x < wr.heap.size) := Lib.hid (fun x hx => by
        rcases hx with rfl | rfl | hx
        · exact lR
        · exact lV
        · exact (hrlt x hx).2)
      have HNL := Lib.hid hNl
      clear hN hW hI hcn hNl hov9 hel hst hid hco hno hrlt hee
      go_wp2_with fail
      have hh := rdrain_any (fun x => x = w.heap.size ∨ x = V ∨ Value.ownBlock (.slice Ao no co) = some x) A1 B1 e1 0 a1 b1 q1 g n m N c1 wr HS.out HD.out.cr HD.out.me ⟨_, _, HII.out⟩ n1 n2 g1 g2 m1 m2 (by have := HO9.out; have := HNL.out; omega) (by have := HO9.out; have := HNL.out; omega) (by have := HNL.out; omega) HO9.out.1
      refine hh.mono ?_
      clear hh
      have HEE : Hid ((drainP g m N 0 c1).2.length ≤ 60000) := Lib.hid HO9.out.2.2.2.2
      obtain ⟨⟨c5, ds⟩, hr⟩ : ∃ x, drainP g m N 0 c1 = x := ⟨_, rfl⟩
      rw [hr] at HEE ⊢
      have hW2 := HW.out
      rw [hr] at hW2
      have HW2 := Lib.hid hW2
      rintro ed w6 ⟨A5, B5, L5, e5, o5, a5, b5, q5, l5, hq5, rfl, hC5, hO5, hE6⟩
      simp only at hC5 hO5
      have hbV := block_keep HD.out.box hE6
      have hbR := block_keep HD.out.res hE6
      have hz6 := hE6.size
      have z0 : w6.cell? ⟨V, 0, none⟩ = some (.slice A1 c1.ts.length a1) := (cell_of_row w6 (V) 0 _ _ _ hbV).trans rfl
      have z1 : w6.cell? ⟨V, 1, none⟩ = some (.int .i64 g) := (cell_of_row w6 (V) 1 _ _ _ hbV).trans rfl
      have z2 : w6.cell? ⟨V, 2, none⟩ = some (.slice B1 c1.dn.length b1) := (cell_of_row w6 (V) 2 _ _ _ hbV).trans rfl
      have z3 : w6.cell? ⟨V, 3, none⟩ = some (.slice (some ⟨e1, 0, none⟩) m q1) := (cell_of_row w6 (V) 3 _ _ _ hbV).trans rfl
      have z4 : w6.cell? ⟨V, 4, none⟩ = some (.bool c1.over) := (cell_of_row w6 (V) 4 _ _ _ hbV).trans rfl
      have z5 : w6.cell? ⟨V, 5, none⟩ = some (.int .i64 c1.st) := (cell_of_row w6 (V) 5 _ _ _ hbV).trans rfl
      have z6 : w6.cell? ⟨V, 6, none⟩ = some (.int .i64 c1.id) := (cell_of_row w6 (V) 6 _ _ _ hbV).trans rfl
      have zf := fun o => frozen_of_row w6 (V) o _ _ hbV
      have HC5 := Lib.hid (And.intro hq5 hC5)
      have HO5 := Lib.hid hO5
      have HE6 := Lib.hid hE6
      have HBV := Lib.hid (set_box7 hbV (.slice A5 c5.ts.length a5) (.int .i64 g) (.slice B5 c5.dn.length b5) (.slice (some ⟨e5, o5, none⟩) m q5) (.bool c5.over) (.int .i64 c5.st) (.int .i64 c5.id))
      have lV6 : V < w6.heap.size := by omega
      clear hr hW2 hC5 hO5 hE6 hq5 hbV k0 k1 k2 k3 k4 k5 k6 kf
      go_upto_region 13 with fail
      have hGV : Grew (fun x => x = V) w6 ((((((((w6.setCell ⟨V, 0, none⟩ (.slice A5 c5.ts.length a5)).setCell ⟨V, 1, none⟩ (.int .i64 g)).setCell ⟨V, 2, none⟩ (.slice B5 c5.dn.length b5)).setCell ⟨V, 3, none⟩ (.slice (some ⟨e5, o5, none⟩) m q5)).setCell ⟨V, 4, none⟩ (.bool c5.over)).setCell ⟨V, 5, none⟩ (.int .i64 c5.st)).setCell ⟨V, 6, none⟩ (.int .i64 c5.id))) := (Grew.setCell (S := fun x => x = V) (p := ⟨V, 6, none⟩) (Grew.setCell (S := fun x => x = V) (p := ⟨V, 5, none⟩) (Grew.setCell (S := fun x => x = V) (p := ⟨V, 4, none⟩) (Grew.setCell (S := fun x => x = V) (p := ⟨V, 3, none⟩) (Grew.setCell (S := fun x => x = V) (p := ⟨V, 2, none⟩) (Grew.setCell (S := fun x => x = V) (p := ⟨V, 1, none⟩) (Grew.setCell (S := fun x => x = V) (p := ⟨V, 0, none⟩) (Grew.refl _ _) rfl _) rfl _) rfl _) rfl _) rfl _) rfl _) rfl _)
      have HBR : Hid (((((((((w6.setCell ⟨V, 0, none⟩ (.slice A5 c5.ts.length a5)).setCell ⟨V, 1, none⟩ (.int .i64 g)).setCell ⟨V, 2, none⟩ (.slice B5 c5.dn.length b5)).setCell ⟨V, 3, none⟩ (.slice (some ⟨e5, o5, none⟩) m q5)).setCell ⟨V, 4, none⟩ (.bool c5.over)).setCell ⟨V, 5, none⟩ (.int .i64 c5.st)).setCell ⟨V, 6, none⟩ (.int .i64 c5.id))).heap[w.heap.size]? = some (.cells #[.slice none 0 0, .int .i64 0, .slice none 0 0, .slice none 0 0, .bool false, .int .i64 0, .int .i64 0] 57)) := Lib.hid (block_wr hbR hGV (by omega))
      have HC7 : Hid (CrewO (fun x => x = w.heap.size ∨ x = V ∨ Value.ownBlock (.slice Ao no co) = some x) ((((((((w6.setCell ⟨V, 0, none⟩ (.slice A5 c5.ts.length a5)).setCell ⟨V, 1, none⟩ (.int .i64 g)).setCell ⟨V, 2, none⟩ (.slice B5 c5.dn.length b5)).setCell ⟨V, 3, none⟩ (.slice (some ⟨e5, o5, none⟩) m q5)).setCell ⟨V, 4, none⟩ (.bool c5.over)).setCell ⟨V, 5, none⟩ (.int .i64 c5.st)).setCell ⟨V, 6, none⟩ (.int .i64 c5.id))) m c5 A5 B5 e5 o5 a5 b5) := Lib.hid (HC5.out.2.grew (hGV.mono (fun x _ hx => .inr (.inl hx))))
      have HO7 : Hid (Ow kEv (V + 1) ((((((((w6.setCell ⟨V, 0, none⟩ (.slice A5 c5.ts.length a5)).setCell ⟨V, 1, none⟩ (.int .i64 g)).setCell ⟨V, 2, none⟩ (.slice B5 c5.dn.length b5)).setCell ⟨V, 3, none⟩ (.slice (some ⟨e5, o5, none⟩) m q5)).setCell ⟨V, 4, none⟩ (.bool c5.over)).setCell ⟨V, 5, none⟩ (.int .i64 c5.st)).setCell ⟨V, 6, none⟩ (.int .i64 c5.id))) (.slice Ao no co) evs) := Lib.hid ((HD.out.own.ext HE6.out).grew hGV (fun x hx e => by have := (HRL.out x hx).1; omega))
      have HY7 : Hid (Rd kEv ((((((((w6.setCell ⟨V, 0, none⟩ (.slice A5 c5.ts.length a5)).setCell ⟨V, 1, none⟩ (.int .i64 g)).setCell ⟨V, 2, none⟩ (.slice B5 c5.dn.length b5)).setCell ⟨V, 3, none⟩ (.slice (some ⟨e5, o5, none⟩) m q5)).setCell ⟨V, 4, none⟩ (.bool c5.over)).setCell ⟨V, 5, none⟩ (.int .i64 c5.st)).setCell ⟨V, 6, none⟩ (.int .i64 c5.id))) (.slice L5 ds.length l5) ds) := Lib.hid (HO5.out.grew hGV (fun x hx e => by have := (HO5.out.lt x hx).1; omega)).rd
      have HE7 : Hid (Ext w ((((((((w6.setCell ⟨V, 0, none⟩ (.slice A5 c5.ts.length a5)).setCell ⟨V, 1, none⟩ (.int .i64 g)).setCell ⟨V, 2, none⟩ (.slice B5 c5.dn.length b5)).setCell ⟨V, 3, none⟩ (.slice (some ⟨e5, o5, none⟩) m q5)).setCell ⟨V, 4, none⟩ (.bool c5.over)).setCell ⟨V, 5, none⟩ (.int .i64 c5.st)).setCell ⟨V, 6, none⟩ (.int .i64 c5.id)))) := Lib.hid (hGV.toExt (HD.out.ext.trans HE6.out) (fun x hx => by omega))
      have hz7 : w6.heap.size = ((((((((w6.setCell ⟨V, 0, none⟩ (.slice A5 c5.ts.length a5)).setCell ⟨V, 1, none⟩ (.int .i64 g)).setCell ⟨V, 2, none⟩ (.slice B5 c5.dn.length b5)).setCell ⟨V, 3, none⟩ (.slice (some ⟨e5, o5, none⟩) m q5)).setCell ⟨V, 4, none⟩ (.bool c5.over)).setCell ⟨V, 5, none⟩ (.int .i64 c5.st)).setCell ⟨V, 6, none⟩ (.int .i64 c5.id))).heap.size := by simp
      generalize (((((((w6.setCell ⟨V, 0, none⟩ (.slice A5 c5.ts.length a5)).setCell ⟨V, 1, none⟩ (.int .i64 g)).setCell ⟨V, 2, none⟩ (.slice B5 c5.dn.length b5)).setCell ⟨V, 3, none⟩ (.slice (some ⟨e5, o5, none⟩) m q5)).setCell ⟨V, 4, none⟩ (.bool c5.over)).setCell ⟨V, 5, none⟩ (.int .i64 c5.st)).setCell ⟨V, 6, none⟩ (.int .i64 c5.id)) = w7 at *
      clear hbR z0 z1 z2 z3 z4 z5 z6 zf hGV
      have x0 : w7.cell? ⟨V, 0, none⟩ = some (.slice A5 c5.ts.length a5) := (cell_of_row w7 (V) 0 _ _ _ HBV.out).trans rfl
      have x1 : w7.cell? ⟨V, 1, none⟩ = some (.int .i64 g) := (cell_of_row w7 (V) 1 _ _ _ HBV.out).trans rfl
      have x2 : w7.cell? ⟨V, 2, none⟩ = some (.slice B5 c5.dn.length b5) := (cell_of_row w7 (V) 2 _ _ _ HBV.out).trans rfl
      have x3 : w7.cell? ⟨V, 3, none⟩ = some (.slice (some ⟨e5, o5, none⟩) m q5) := (cell_of_row w7 (V) 3 _ _ _ HBV.out).trans rfl
      have x4 : w7.cell? ⟨V, 4, none⟩ = some (.bool c5.over) := (cell_of_row w7 (V) 4 _ _ _ HBV.out).trans rfl
      have x5 : w7.cell? ⟨V, 5, none⟩ = some (.int .i64 c5.st) := (cell_of_row w7 (V) 5 _ _ _ HBV.out).trans rfl
      have x6 : w7.cell? ⟨V, 6, none⟩ = some (.int .i64 c5.id) := (cell_of_row w7 (V) 6 _ _ _ HBV.out).trans rfl
      have xf := fun o => frozen_of_row w7 (V) o _ _ HBV.out
      have y0 : w7.cell? ⟨w.heap.size, 0, none⟩ = some (.slice none 0 0) := (cell_of_row w7 (w.heap.size) 0 _ _ _ HBR.out).trans rfl
      have y1 : w7.cell? ⟨w.heap.size, 1, none⟩ = some (.int .i64 0) := (cell_of_row w7 (w.heap.size) 1 _ _ _ HBR.out).trans rfl
      have y2 : w7.cell? ⟨w.heap.size, 2, none⟩ = some (.slice none 0 0) := (cell_of_row w7 (w.heap.size) 2 _ _ _ HBR.out).trans rfl
      have y3 : w7.cell? ⟨w.heap.size, 3, none⟩ = some (.slice none 0 0) := (cell_of_row w7 (w.heap.size) 3 _ _ _ HBR.out).trans rfl
      have y4 : w7.cell? ⟨w.heap.size, 4, none⟩ = some (.bool false) := (cell_of_row w7 (w.heap.size) 4 _ _ _ HBR.out).trans rfl
      have y5 : w7.cell? ⟨w.heap.size, 5, none⟩ = some (.int .i64 0) := (cell_of_row w7 (w.heap.size) 5 _ _ _ HBR.out).trans rfl
      have y6 : w7.cell? ⟨w.heap.size, 6, none⟩ = some (.int .i64 0) := (cell_of_row w7 (w.heap.size) 6 _ _ _ HBR.out).trans rfl
      have yf := fun o => frozen_of_row w7 (w.heap.size) o _ _ HBR.out
      have lV7 : V < w7.heap.size := by omega
      have lR7 : w.heap.size < w7.heap.size := by omega
      have HLL : Hid (evs.length + ds.length ≤ 1048576) := Lib.hid (by have := HO9.out.2.1; have := HEE.out; omega)
      have nRV : ¬ w.heap.size = V := by omega
      go_region_law (first
        | (refine kEv.step_app (by rfl) (.tmp 74) (.tmp 75) (by rfl) (by rfl) (V + 1) _ evs (by rfl) (HO7.out.ext (Ext.refl _).drew) _ ds (by rfl) (HY7.out.ext (Ext.refl _).drew) HLL.out (by simp; omega) ?_
           intro v8 w8 hown8 hgrow8 hat8
           have HA8 := Lib.hid (And.intro hown8 (And.intro hgrow8 hat8))
           have gV := block_of_grown hgrow8 (block_keep HBV.out (Ext.refl _).drew) (fun e => by have := (HRL.out _ e.symm).1; omega)
           have gR := block_of_grown hgrow8 (block_keep HBR.out (Ext.refl _).drew) (fun e => by have := (HRL.out _ e.symm).1; omega)
           have gz := hgrow8.size
           simp at gz
           have lV8 : V < w8.heap.size := by omega
           have lR8 : w.heap.size < w8.heap.size := by omega
           have p0 : w8.cell? ⟨V, 0, none⟩ = some (.slice A5 c5.ts.length a5) := (cell_of_row w8 (V) 0 _ _ _ gV).trans rfl
           have p1 : w8.cell? ⟨V, 1, none⟩ = some (.int .i64 g) := (cell_of_row w8 (V) 1 _ _ _ gV).trans rfl
           have p2 : w8.cell? ⟨V, 2, none⟩ = some (.slice B5 c5.dn.length b5) := (cell_of_row w8 (V) 2 _ _ _ gV).trans rfl
           have p3 : w8.cell? ⟨V, 3, none⟩ = some (.slice (some ⟨e5, o5, none⟩) m q5) := (cell_of_row w8 (V) 3 _ _ _ gV).trans rfl
           have p4 : w8.cell? ⟨V, 4, none⟩ = some (.bool c5.over) := (cell_of_row w8 (V) 4 _ _ _ gV).trans rfl
           have p5 : w8.cell? ⟨V, 5, none⟩ = some (.int .i64 c5.st) := (cell_of_row w8 (V) 5 _ _ _ gV).trans rfl
           have p6 : w8.cell? ⟨V, 6, none⟩ = some (.int .i64 c5.id) := (cell_of_row w8 (V) 6 _ _ _ gV).trans rfl
           have pf := fun o => frozen_of_row w8 (V) o _ _ gV
           have r0 : w8.cell? ⟨w.heap.size, 0, none⟩ = some (.slice none 0 0) := (cell_of_row w8 (w.heap.size) 0 _ _ _ gR).trans rfl
           have r1 : w8.cell? ⟨w.heap.size, 1, none⟩ = some (.int .i64 0) := (cell_of_row w8 (w.heap.size) 1 _ _ _ gR).trans rfl
           have r2 : w8.cell? ⟨w.heap.size, 2, none⟩ = some (.slice none 0 0) := (cell_of_row w8 (w.heap.size) 2 _ _ _ gR).trans rfl
           have r3 : w8.cell? ⟨w.heap.size, 3, none⟩ = some (.slice none 0 0) := (cell_of_row w8 (w.heap.size) 3 _ _ _ gR).trans rfl
           have r4 : w8.cell? ⟨w.heap.size, 4, none⟩ = some (.bool false) := (cell_of_row w8 (w.heap.size) 4 _ _ _ gR).trans rfl
           have r5 : w8.cell? ⟨w.heap.size, 5, none⟩ = some (.int .i64 0) := (cell_of_row w8 (w.heap.size) 5 _ _ _ gR).trans rfl
           have r6 : w8.cell? ⟨w.heap.size, 6, none⟩ = some (.int .i64 0) := (cell_of_row w8 (w.heap.size) 6 _ _ _ gR).trans rfl
           have rf := fun o => frozen_of_row w8 (w.heap.size) o _ _ gR
           clear hown8 hgrow8 hat8 gV gR gz x0 x1 x2 x3 x4 x5 x6 xf y0 y1 y2 y3 y4 y5 y6 yf))
      all_goals go_wp2_with fail
      all_goals
        obtain ⟨hown8, hgrow8, hat8⟩ := HA8.out
        obtain ⟨Lz, cz, hvz, hcz⟩ := hown8.slice
        subst hvz
        have hGR : Grew (fun x => x = w.heap.size) w8 ((((((((w8.setCell ⟨w.heap.size, 0, none⟩ (.slice A5 c5.ts.length a5)).setCell ⟨w.heap.size, 1, none⟩ (.int .i64 g)).setCell ⟨w.heap.size, 2, none⟩ (.slice B5 c5.dn.length b5)).setCell ⟨w.heap.size, 3, none⟩ (.slice (some ⟨e5, o5, none⟩) m q5)).setCell ⟨w.heap.size, 4, none⟩ (.bool c5.over)).setCell ⟨w.heap.size, 5, none⟩ (.int .i64 c5.st)).setCell ⟨w.heap.size, 6, none⟩ (.int .i64 c5.id))) := (Grew.setCell (S := fun x => x = w.heap.size) (p := ⟨w.heap.size, 6, none⟩) (Grew.setCell (S := fun x => x = w.heap.size) (p := ⟨w.heap.size, 5, none⟩) (Grew.setCell (S := fun x => x = w.heap.size) (p := ⟨w.heap.size, 4, none⟩) (Grew.setCell (S := fun x => x = w.heap.size) (p := ⟨w.heap.size, 3, none⟩) (Grew.setCell (S := fun x => x = w.heap.size) (p := ⟨w.heap.size, 2, none⟩) (Grew.setCell (S := fun x => x = w.heap.size) (p := ⟨w.heap.size, 1, none⟩) (Grew.setCell (S := fun x => x = w.heap.size) (p := ⟨w.heap.size, 0, none⟩) (Grew.refl _ _) rfl _) rfl _) rfl _) rfl _) rfl _) rfl _) rfl _)
        refine bodyPost_ret (v := .tuple #[crewV A5 B5 e5 o5 a5 b5 q5 g m c5, .slice Lz (evs ++ ds).length cz, .int .i64 0]) (by simp [results, Try.results27, go_sem]; go_simp) rfl ?_
        rw [HW2.out]
        refine ⟨A5, B5, Lz, e5, o5, a5, b5, q5, cz, HC5.out.1, rfl, ?_, ?_, ?_⟩
        · exact (((HC7.out.ext (Ext.refl _).drew).grew ((Wr.grown hgrow8).mono (fun x _ hx => .inr (.inr hx)))).grew (hGR.mono (fun x _ hx => .inl hx))).at_ m1
        · exact (hown8.grew hGR (fun x hx e => by have := (hown8.lt x hx).1; have := HD.out.vl; omega)).mono (by have := HD.out.vl; omega)
        · exact hGR.toExt (Wr.toExt (Wr.grown hgrow8) (HE7.out.trans (Ext.refl _).drew) (fun x hx => by have := (HRL.out x hx).1; have := HD.out.vl; omega)) (fun x hx => by omega)
end Go.Proofs.Ytjabahfkgaamdaa

/- The document's Leaves (ref06). -/
namespace Go.Proofs.Ytjabahfkgaamdaa
open Go.BigFrame
open Go.RowKit Go.Proofs.Ytjabahfkgaamdaa.Plain

/-- units from .. up to .. -/
def kSpan : Kd (Int × Int) where
  t := 61
  e := 64
  n := 2
  cells := fun x => [.int .i64 x.1, .int .i64 x.2]
  ok := fun x => in64 x.1 ∧ in64 x.2
  d := (0, 0)
  z := .agg #[.int .i64 0, .int .i64 0]
  bytes := 16
  ht := Try.underlying61
  info := by kernel_rfl
  hzs := rfl
  pos := by decide
  small := by decide
  len := fun _ => rfl
  one := fun a u hu => by simp at hu; rcases hu with rfl | rfl <;> rfl
/-- leaves, as they came -/
def Plain.leavesL (ts : List Tk) (evs : List Ev) : List (Int × Int) := evs.flatMap fun e => if e.tk < 0 ∨ e.pt = true then [] else [((T ts e.tk.toNat).lo, (T ts e.tk.toNat).hi)]
theorem Plain.leavesL_app (ts : List Tk) (a b : List Ev) : leavesL ts (a ++ b) = leavesL ts a ++ leavesL ts b := by unfold leavesL; rw [List.flatMap_append]
theorem Plain.order_leaves (ts : List Tk) : ∀ evs : List Ev, orderL ts evs = (leavesL ts evs).flatMap fun s => List.range' s.1.toNat (s.2.toNat - s.1.toNat)
  | [] => rfl
  | e :: r => by
    have h := order_leaves ts r
    unfold orderL leavesL at h ⊢
    rw [List.flatMap_cons, List.flatMap_cons, List.flatMap_append, h]
    congr 1
    split
    · rfl
    · simp [unitsOf]
theorem Plain.leavesL_take (ts : List Tk) (evs : List Ev) (k : Nat) (hk : k < evs.length) : leavesL ts (evs.take (k + 1)) = leavesL ts (evs.take k) ++ (if (evs.getD k ev0).tk < 0 ∨ (evs.getD k ev0).pt = true then [] else [((T ts (evs.getD k ev0).tk.toNat).lo, (T ts (evs.getD k ev0).tk.toNat).hi)]) := by
  rw [List.take_succ_eq_append_getElem hk, leavesL_app, List.getD_eq_getElem?_getD, List.getElem?_eq_getElem hk]
  simp [leavesL]
theorem Plain.leavesL_len (ts : List Tk) (evs : List Ev) : (leavesL ts evs).length ≤ evs.length := by
  induction evs with
  | nil => simp [leavesL]
  | cons e r ih =>
    have h : leavesL ts (e :: r) = leavesL ts [e] ++ leavesL ts r := leavesL_app ts [e] r
    have h2 : (leavesL ts [e]).length ≤ 1 := by unfold leavesL; simp only [List.flatMap_cons, List.flatMap_nil, List.append_nil]; split <;> simp
    rw [h, List.length_append, List.length_cons]; omega
theorem Rd.evs {w : World} {A : Option Addr} {n c : Nat} {xs : List Ev} (h : Rd kEv w (.slice A n c) xs) (hl : 0 < xs.length) : ∃ b off, A = some ⟨b, off, none⟩ ∧ ∀ j, j < xs.length → w.cell? ⟨b, off + j * 4, none⟩ = some (.int .i64 (xs.getD j ev0).wk) ∧ w.cell? ⟨b, off + j * 4 + 1, none⟩ = some (.int .i64 (xs.getD j ev0).fr) ∧ w.cell? ⟨b, off + j * 4 + 2, none⟩ = some (.int .i64 (xs.getD j ev0).tk) ∧ w.cell? ⟨b, off + j * 4 + 3, none⟩ = some (.bool (xs.getD j ev0).pt) := by
  obtain ⟨b, off, rfl, hcc⟩ := h.cells hl
  exact ⟨b, off, rfl, fun j hj => ⟨by have := hcc j hj 0 _ rfl; simpa [kEv] using this, by have := hcc j hj 1 _ rfl; simpa [kEv] using this, by have := hcc j hj 2 _ rfl; simpa [kEv] using this, by have := hcc j hj 3 _ rfl; simpa [kEv] using this⟩⟩

set_option maxHeartbeats 1600000 in
set_option maxRecDepth 100000 in
theorem rleaves_any (A B L : Option Addr) (e0 eo a b e g m l : Nat) (c : Cw) (evs : List Ev) (w : World) (hC : CrewAt w m c A B e0 eo a b) (hE : Rd kEv w (.slice L evs.length l) evs) (hl : evs.length ≤ 100000) (hin : evsIn c.ts.length evs) :
    Calls Try.prog 28 #[crewV A B e0 eo a b e g m c, .slice L evs.length l] w fun ed w' => ∃ v, ed = .returned v ∧ Ow kSpan w.heap.size w' v (leavesL c.ts evs) ∧ Ext w w' := by
  have HT := Lib.hid hC.tsk.rd
  have HE := Lib.hid hE
  have HIN := Lib.hid hin
  have hl' : (evs.length : Int) ≤ 100000 := by omega
  clear hC hE hin
  go_enter Try.func28, Try.ntmps28
  go_wp2_with fail
  have hbx := heap_alloc_new w (.cells #[.slice A c.ts.length a, .int .i64 g, .slice B c.dn.length b, .slice (some ⟨e0, eo, none⟩) m e, .bool c.over, .int .i64 c.st, .int .i64 c.id] 57)
  have HBX := Lib.hid hbx
  have HX1 : Hid (Ext w (w.alloc (.cells #[.slice A c.ts.length a, .int .i64 g, .slice B c.dn.length b, .slice (some ⟨e0, eo, none⟩) m e, .bool c.over, .int .i64 c.st, .int .i64 c.id] 57))) := Lib.hid ((Ext.refl w).alloc _)
  have HW1 : Hid ((w.alloc (.cells #[.slice A c.ts.length a, .int .i64 g, .slice B c.dn.length b, .slice (some ⟨e0, eo, none⟩) m e, .bool c.over, .int .i64 c.st, .int .i64 c.id] 57)).heap.size = w.heap.size + 1) := Lib.hid (by simp)
  generalize w.alloc (.cells #[.slice A c.ts.length a, .int .i64 g, .slice B c.dn.length b, .slice (some ⟨e0, eo, none⟩) m e, .bool c.over, .int .i64 c.st, .int .i64 c.id] 57) = w1 at *
  clear hbx
  go_loopw [5, 6] (fun v i wr => ∃ k : Nat, k ≤ evs.length ∧ i = .int .i64 k ∧ Ow kSpan (w.heap.size + 1) wr v (leavesL c.ts (evs.take k)) ∧ Ext w1 wr) (fun _ i _ => evs.length - (intOf i).toNat)
  case atStart => exact ⟨0, Nat.zero_le _, rfl, Ow.nil _ _, Ext.refl _⟩
  case round =>
    obtain ⟨k, hk, rfl, hO, hX⟩ := hrel
    have HO := Lib.hid hO
    have HX := Lib.hid hX
    have hk0 : (0 : Int) ≤ k := by omega
    clear hO hX
    by_cases hlt : k < evs.length
    · have hlt' : (k : Int) < evs.length := by omega
      obtain ⟨bv, ov, rfl, hcv⟩ := Rd.evs (HE.out.ext (HX1.out.trans HX.out)) (by omega)
      obtain ⟨z0, z1, z2, z3⟩ := hcv k hlt
      have htk := leavesL_take c.ts evs k hlt
      have hint : (evs.getD k ev0).tk < c.ts.length := HIN.out _ (by rw [List.getD_eq_getElem?_getD, List.getElem?_eq_getElem hlt]; exact List.getElem_mem hlt)
      have hok := HE.out.okAt k hlt
      obtain ⟨ev, hev⟩ : ∃ ev, evs.getD k ev0 = ev := ⟨_, rfl⟩
      have hok' : kEv.ok ev := by rw [← hev]; exact hok
      rw [hev] at z0 z1 z2 z3 htk hint
      have HTK := Lib.hid htk
      have lbv : bv < wr.heap.size := World.block_lt_of_cell? _ _ z2
      have hb := block_keep HBX.out HX.out
      have q0 : wr.cell? ⟨w.heap.size, 0, none⟩ = some (.slice A c.ts.length a) := (cell_of_row wr w.heap.size 0 _ _ _ hb).trans rfl
      have hok2 := hok'.2.2
      have hok2' := Lib.hid hok2
      unfold in64 at hok2
      clear htk hok hok' hev hcv hb z0 z1
      by_cases hneg : ev.tk < 0
      · have hd : decide (0 ≤ ev.tk) = false := decide_eq_false (by omega)
        rw [if_pos (.inl hneg), List.append_nil] at HTK
        go_upto_region 5 with fail
        go_quiet (fail)
        go_wp2_with fail
        go_roundw
        case rel => exact ⟨k + 1, by omega, by go_num, by rw [HTK.out]; exact HO.out.ext ((Ext.refl _).drewN _), HX.out.drewN _⟩
        case measure => simp [intOf]; omega
      · have hge : (0 : Int) ≤ ev.tk := by omega
        obtain ⟨K, hK⟩ : ∃ K : Nat, ev.tk = K := ⟨ev.tk.toNat, by omega⟩
        have hKl : K < c.ts.length := by omega
        have hKl' : (K : Int) < c.ts.length := by omega
        have hK0 : (0 : Int) ≤ K := by omega
        rw [hK] at z2
        obtain ⟨bt, ot, rfl, hct⟩ := Rd.tasks (HT.out.ext (HX1.out.trans HX.out)) (by omega)
        obtain ⟨t0, t1, t2, t3⟩ := hct K hKl
        have hkt := HT.out.okAt K hKl
        obtain ⟨tk, htk⟩ : ∃ tk, c.ts.getD K ⟨0, 0, 0, 0⟩ = tk := ⟨_, rfl⟩
        rw [htk] at t0 t1 t2 t3
        have hkt' : kTask.ok tk := by rw [← htk]; exact hkt
        have HKT := Lib.hid hkt'
        have lbt : bt < wr.heap.size := World.block_lt_of_cell? _ _ t0
        have HTT : Hid (T c.ts ev.tk.toNat = tk) := Lib.hid (by rw [hK, Int.toNat_natCast, ← htk]; rfl)
        clear hct hkt hkt' htk
        cases hpt : ev.pt with
        | true =>
          rw [hpt] at z3
          rw [if_pos (.inr hpt), List.append_nil] at HTK
          go_upto_region 5 with fail
          go_quiet (fail)
          go_wp2_with fail
          go_roundw
          case rel => exact ⟨k + 1, by omega, by go_num, by rw [HTK.out]; exact HO.out.ext ((Ext.refl _).drewN _), HX.out.drewN _⟩
          case measure => simp [intOf]; omega
        | false =>
          rw [hpt] at z3
          rw [if_neg (by rw [hpt]; simp; omega)] at HTK
          go_upto_region 5 with fail
          go_quiet (fail)
          generalize hwq : wr.drewN nq = wq at *
          have hEq : Ext wr wq := by rw [← hwq]; exact (Ext.refl _).drewN _
          have HEQ := Lib.hid hEq
          replace q0 := hEq.cell q0
          replace z2 := hEq.cell z2
          replace t0 := hEq.cell t0
          replace t1 := hEq.cell t1
          replace t2 := hEq.cell t2
          replace t3 := hEq.cell t3
          have lq := hEq.size
          have lbv' : bv < wq.heap.size := by omega
          have lbt' : bt < wq.heap.size := by omega
          have lP' : w.heap.size < wq.heap.size := by have := World.block_lt_of_cell? _ _ q0; omega
          clear hwq hEq
          go_upto_region 6 with fail
          go_cut [7] (fun p wx => ∃ X, p = .pointer (some ⟨X, 0, none⟩) ∧ wx.cell? ⟨X, 0, none⟩ = some (.int .i64 tk.lo) ∧ wx.cell? ⟨X, 1, none⟩ = some (.int .i64 tk.hi) ∧ wq.heap.size ≤ X ∧ Ext wq wx)
          case first =>
            go_region
            all_goals go_wp2_with fail
            all_goals go_meet
            all_goals exact ⟨wq.heap.size, rfl, by go_simp, by go_simp, Nat.le_refl _, by repeat (first | exact Ext.refl _ | refine Ext.drew ?_ | refine Ext.drewN ?_ _ | refine Ext.alloc ?_ _ | refine Ext.setCell ?_ (by simp) _)⟩
          case rest =>
          obtain ⟨X, rfl, x0, x1, hXl, hEx⟩ := hcut
          generalize wc = w6 at *
          have HE6 := Lib.hid (HEQ.out.trans hEx)
          have hz6 := hEx.size
          have hrow := HO.out.len
          have HY : Hid (Rd kSpan (w6.alloc (.cells #[.int .i64 tk.lo, .int .i64 tk.hi] 64)) (.slice (some ⟨w6.heap.size, 0, none⟩) 1 1) [(tk.lo, tk.hi)]) := Lib.hid (Ow.rd (K := kSpan) (B := 0) (Ow.lit (K := kSpan) (p := w6.heap.size) (n := 1) w6 [(tk.lo, tk.hi)] #[.int .i64 tk.lo, .int .i64 tk.hi] rfl rfl rfl (Nat.zero_le _) (by simp [maxLen]) (by intro x hx; simp only [List.mem_singleton] at hx; subst hx; exact ⟨HKT.out.1, HKT.out.2.1⟩)))
          have HLL : Hid ((leavesL c.ts (evs.take k)).length + [(tk.lo, tk.hi)].length ≤ 1048576) := Lib.hid (by have := leavesL_len c.ts (evs.take k); rw [List.length_take] at this; simp; omega)
          have hzz := HX1.out.size
          have hzx := HX.out.size
          have hw1 := block_lt HBX.out
          clear hEx hrow q0 z2 t0 t1 t2 t3
          go_wp2_with (at_builtin; refine kSpan.wpList_app (by rfl) (.tmp 50) (.tmp 56) (by rfl) (by rfl) (w.heap.size + 1) _ (leavesL c.ts (evs.take k)) (by rfl) (HO.out.ext (HE6.out.alloc _)) _ [(tk.lo, tk.hi)] (by rfl) HY.out HLL.out (by simp; omega) ?_; intro v' w8 hown8 hgrow8 hat8)
          have H8 := Lib.hid (And.intro hown8 (And.intro hgrow8 hat8))
          clear hown8 hgrow8 hat8
          go_roundw
          case rel =>
            obtain ⟨hown8, hgrow8, hat8⟩ := H8.out
            refine ⟨k + 1, by omega, by go_num, by rw [HTK.out, HTT.out]; exact hown8, ?_⟩
            exact Ext.grown ((HX.out.trans HE6.out).alloc _) hgrow8 (fun x hx => by have := (HO.out.lt x hx).1; have := HW1.out; omega)
          case measure => simp [intOf]; omega
    · obtain rfl : k = evs.length := by omega
      rw [List.take_length] at HO
      go_wp2_with fail
      exact bodyPost_ret (by simp [results, Try.results28, go_sem]) rfl ⟨_, rfl, HO.out.mono (by omega), HX1.out.trans HX.out⟩
end Go.Proofs.Ytjabahfkgaamdaa

/- The program's Leaves. -/
namespace Go.Proofs.Ytjabahfkgaamdaa
open Go.BigFrame
open Go.RowKit Go.Proofs.Ytjabahfkgaamdaa.Plain

/-- events as steps tell them -/
def Plain.evTold (e : Ev) : Prop := (e.fr = -1 ∧ e.tk = -1) ∨ (0 ≤ e.fr ∧ 0 ≤ e.tk)
theorem Plain.stepP_told (g m : Nat) (c : Cw) (p q : Int) : evTold (stepP g m c p q).2 := by
  unfold stepP
  split
  · exact .inl ⟨rfl, rfl⟩
  · refine .inr ?_
    unfold goP
    simp only
    split <;> exact ⟨by simp, by simp⟩
theorem Plain.untilP_told (g m : Nat) : ∀ (l : List (Int × Int)) (c : Cw), ∀ e ∈ (untilP g m c l).2, evTold e
  | [], c, e, h => by cases h
  | x :: l, c, e, h => by
    unfold untilP at h
    split at h
    · cases h
    · rcases List.mem_cons.1 h with h | h
      · rw [h]; exact stepP_told _ _ _ _ _
      · exact Plain.untilP_told g m l _ e h
theorem Plain.drainP_told (g m : Nat) : ∀ (f t : Nat) (c : Cw), ∀ e ∈ (drainP g m f t c).2, evTold e
  | 0, t, c, e, h => by cases h
  | f + 1, t, c, e, h => by
    unfold drainP at h
    split at h
    · cases h
    · rcases List.mem_cons.1 h with h | h
      · rw [h]; exact stepP_told _ _ _ _ _
      · exact Plain.drainP_told g m f (t + 1) _ e h
theorem Plain.wholeP_told (g n m : Nat) (picks : List (Int × Int)) : ∀ e ∈ (wholeP g n m picks).2, evTold e := by
  intro e h
  unfold wholeP at h
  rcases List.mem_append.1 h with h | h
  · exact untilP_told _ _ _ _ e h
  · exact drainP_told _ _ _ _ _ e h

set_option maxRecDepth 100000 in
theorem didle_yes (wk tk : Int) (pt : Bool) (w : World) :
    Calls Try.prog 37 #[.agg #[.int .i64 wk, .int .i64 (-1), .int .i64 tk, .bool pt]] w fun ed w' => ed = .returned (.bool true) ∧ Ext w w' := by
  go_enter Try.func37, Try.ntmps37
  go_wp2
  go_ret
  exact ⟨rfl, (Ext.refl w).alloc _⟩
set_option maxRecDepth 100000 in
theorem didle_no (wk fr tk : Int) (pt : Bool) (w : World) (h1 : 0 ≤ fr) (h2 : 0 ≤ tk) :
    Calls Try.prog 37 #[.agg #[.int .i64 wk, .int .i64 fr, .int .i64 tk, .bool pt]] w fun ed w' => ed = .returned (.bool false) ∧ Ext w w' := by
  have e1 : (fr == -1) = false := by simp; omega
  have e2 : (tk == -1) = false := by simp; omega
  go_enter Try.func37, Try.ntmps37
  go_wp2
  go_ret
  exact ⟨ret_bool (by first | rfl | simp [e1, e2] | simp; omega), (Ext.refl w).alloc _⟩

set_option maxHeartbeats 1600000 in
set_option maxRecDepth 100000 in
theorem dleaves_any (A B L : Option Addr) (e0 eo a b e g m l : Nat) (c : Cw) (evs : List Ev) (w : World) (hC : CrewAt w m c A B e0 eo a b) (hE : Rd kEv w (.slice L evs.length l) evs) (hl : evs.length ≤ 100000) (hin : evsIn c.ts.length evs) (hto : ∀ e ∈ evs, evTold e) :
    Calls Try.prog 26 #[crewV A B e0 eo a b e g m c, .slice L evs.length l] w fun ed w' => ∃ v, ed = .returned v ∧ Ow kSpan w.heap.size w' v (leavesL c.ts evs) ∧ Ext w w' := by
  have HT := Lib.hid hC.tsk.rd
  have HE := Lib.hid hE
  have HIN := Lib.hid hin
  have HTO := Lib.hid hto
  have hl' : (evs.length : Int) ≤ 100000 := by omega
  clear hC hE hin hto
  go_enter Try.func26, Try.ntmps26
  go_wp2_with fail
  have hbx := heap_alloc_new w (.cells #[.slice A c.ts.length a, .int .i64 g, .slice B c.dn.length b, .slice (some ⟨e0, eo, none⟩) m e, .bool c.over, .int .i64 c.st, .int .i64 c.id] 57)
  have HBX := Lib.hid hbx
  have HX1 : Hid (Ext w (w.alloc (.cells #[.slice A c.ts.length a, .int .i64 g, .slice B c.dn.length b, .slice (some ⟨e0, eo, none⟩) m e, .bool c.over, .int .i64 c.st, .int .i64 c.id] 57))) := Lib.hid ((Ext.refl w).alloc _)
  have HW1 : Hid ((w.alloc (.cells #[.slice A c.ts.length a, .int .i64 g, .slice B c.dn.length b, .slice (some ⟨e0, eo, none⟩) m e, .bool c.over, .int .i64 c.st, .int .i64 c.id] 57)).heap.size = w.heap.size + 1) := Lib.hid (by simp)
  generalize w.alloc (.cells #[.slice A c.ts.length a, .int .i64 g, .slice B c.dn.length b, .slice (some ⟨e0, eo, none⟩) m e, .bool c.over, .int .i64 c.st, .int .i64 c.id] 57) = w1 at *
  clear hbx
  go_loopw [5, 11] (fun v i wr => ∃ k : Nat, k ≤ evs.length ∧ i = .int .i64 k ∧ Ow kSpan (w.heap.size + 1) wr v (leavesL c.ts (evs.take k)) ∧ Ext w1 wr) (fun _ i _ => evs.length - (intOf i).toNat)
  case atStart => exact ⟨0, Nat.zero_le _, rfl, Ow.nil _ _, Ext.refl _⟩
  case round =>
    obtain ⟨k, hk, rfl, hO, hX⟩ := hrel
    have HO := Lib.hid hO
    have HX := Lib.hid hX
    have hk0 : (0 : Int) ≤ k := by omega
    clear hO hX
    by_cases hlt : k < evs.length
    · have hlt' : (k : Int) < evs.length := by omega
      obtain ⟨bv, ov, rfl, hcv⟩ := Rd.evs (HE.out.ext (HX1.out.trans HX.out)) (by omega)
      obtain ⟨z0, z1, z2, z3⟩ := hcv k hlt
      have htk := leavesL_take c.ts evs k hlt
      have hmem : evs.getD k ev0 ∈ evs := by rw [List.getD_eq_getElem?_getD, List.getElem?_eq_getElem hlt]; exact List.getElem_mem hlt
      have hint : (evs.getD k ev0).tk < c.ts.length := HIN.out _ hmem
      have htold : evTold (evs.getD k ev0) := HTO.out _ hmem
      obtain ⟨ev, hev⟩ : ∃ ev, evs.getD k ev0 = ev := ⟨_, rfl⟩
      rw [hev] at z0 z1 z2 z3 htk hint htold
      have HTK := Lib.hid htk
      have lbv : bv < wr.heap.size := World.block_lt_of_cell? _ _ z2
      have hb := block_keep HBX.out HX.out
      have q0 : wr.cell? ⟨w.heap.size, 0, none⟩ = some (.slice A c.ts.length a) := (cell_of_row wr w.heap.size 0 _ _ _ hb).trans rfl
      have lq := blk_lt hb
      clear htk hev hcv hb hmem
      cases hpt : ev.pt with
      | true =>
        rw [hpt] at z3
        rw [if_pos (.inr hpt), List.append_nil] at HTK
        clear hpt
        go_wp2_with fail
        go_roundw
        case rel => exact ⟨k + 1, by omega, by go_num, by rw [HTK.out]; exact HO.out.ext ((Ext.refl _).alloc _), HX.out.alloc _⟩
        case measure => simp [intOf]; omega
      | false =>
        rw [hpt] at z3
        rcases htold with ⟨hfr, htk1⟩ | ⟨hfr, hge⟩
        · rw [if_pos (.inl (by omega)), List.append_nil] at HTK
          rw [hfr] at z1
          clear hpt hfr htk1 hint
          go_wp2_with fail
          refine (didle_yes _ _ _ _).mono ?_
          rintro ed w3 ⟨rfl, hE3⟩
          have HE3 := Lib.hid (((Ext.refl wr).alloc _).trans hE3)
          clear hE3
          go_wp2_with fail
          go_roundw
          case rel => exact ⟨k + 1, by omega, by go_num, by rw [HTK.out]; exact HO.out.ext HE3.out, HX.out.trans HE3.out⟩
          case measure => simp [intOf]; omega
        · rw [if_neg (by rw [hpt]; simp; omega)] at HTK
          obtain ⟨K, hK⟩ : ∃ K : Nat, ev.tk = K := ⟨ev.tk.toNat, by omega⟩
          have hKl : K < c.ts.length := by omega
          have hKl' : (K : Int) < c.ts.length := by omega
          have hK0 : (0 : Int) ≤ K := by omega
          rw [hK] at z2
          obtain ⟨bt, ot, rfl, hct⟩ := Rd.tasks (HT.out.ext (HX1.out.trans HX.out)) (by omega)
          obtain ⟨t0, t1, t2, t3⟩ := hct K hKl
          have hkt := HT.out.okAt K hKl
          obtain ⟨tk, htk⟩ : ∃ tk, c.ts.getD K ⟨0, 0, 0, 0⟩ = tk := ⟨_, rfl⟩
          rw [htk] at t0 t1 t2 t3
          have hkt' : kTask.ok tk := by rw [← htk]; exact hkt
          have HKT := Lib.hid hkt'
          have lbt : bt < wr.heap.size := World.block_lt_of_cell? _ _ t0
          have HTT : Hid (T c.ts ev.tk.toNat = tk) := Lib.hid (by rw [hK, Int.toNat_natCast, ← htk]; rfl)
          have HFR : Hid (0 ≤ ev.fr) := Lib.hid hfr
          clear hct hkt hkt' htk hpt hint hge hK hfr
          go_wp2_with fail
          refine (didle_no _ _ _ _ _ HFR.out (by omega)).mono ?_
          rintro ed w3 ⟨rfl, hE3⟩
          have y0 : w3.cell? ⟨wr.heap.size, 0, none⟩ = some (.int .i64 ev.wk) := Ext.cell hE3 (by go_simp)
          have y1 : w3.cell? ⟨wr.heap.size, 1, none⟩ = some (.int .i64 ev.fr) := Ext.cell hE3 (by go_simp)
          have y2 : w3.cell? ⟨wr.heap.size, 2, none⟩ = some (.int .i64 K) := Ext.cell hE3 (by go_simp)
          have y3 : w3.cell? ⟨wr.heap.size, 3, none⟩ = some (.bool false) := Ext.cell hE3 (by go_simp)
          have yf : ∀ o, w3.frozen? ⟨wr.heap.size, o, none⟩ = false := fun o => (Below.frozen hE3 (p := ⟨wr.heap.size, o, none⟩) (by first | omega | (simp; omega) | simp)).trans (by go_simp)
          have hE4 := ((Ext.refl wr).alloc (.cells #[.int .i64 ev.wk, .int .i64 ev.fr, .int .i64 K, .bool false] 77)).trans hE3
          replace q0 := hE4.cell q0
          replace t0 := hE4.cell t0
          replace t1 := hE4.cell t1
          replace t2 := hE4.cell t2
          replace t3 := hE4.cell t3
          have lz := hE3.size
          simp at lz
          have lq3 : w.heap.size < w3.heap.size := by omega
          have lbt3 : bt < w3.heap.size := by omega
          have HE4 := Lib.hid hE4
          clear hE3 hE4 z0 z1 z2 z3
          go_upto_region 7 with fail
          have hrow := HO.out.len
          have HY : Hid (Rd kSpan ((w3.alloc (.cells #[.int .i64 tk.lo, .int .i64 tk.hi, .int .i64 tk.up, .int .i64 tk.wt] 80)).alloc (.cells #[.int .i64 tk.lo, .int .i64 tk.hi] 64)) (.slice (some ⟨w3.heap.size + 1, 0, none⟩) 1 1) [(tk.lo, tk.hi)]) := Lib.hid (Ow.rd (K := kSpan) (B := 0) (Ow.lit (K := kSpan) (p := w3.heap.size + 1) (n := 1) (w3.alloc (.cells #[.int .i64 tk.lo, .int .i64 tk.hi, .int .i64 tk.up, .int .i64 tk.wt] 80)) [(tk.lo, tk.hi)] #[.int .i64 tk.lo, .int .i64 tk.hi] rfl rfl (by simp) (Nat.zero_le _) (by simp [maxLen]) (by intro x hx; simp only [List.mem_singleton] at hx; subst hx; exact ⟨HKT.out.1, HKT.out.2.1⟩)))
          have HLL : Hid ((leavesL c.ts (evs.take k)).length + [(tk.lo, tk.hi)].length ≤ 1048576) := Lib.hid (by have := leavesL_len c.ts (evs.take k); rw [List.length_take] at this; simp; omega)
          have hzz := HX1.out.size
          have hzx := HX.out.size
          have hw1 := blk_lt HBX.out
          clear hrow
          go_wp2_with (at_builtin; refine kSpan.wpList_app (by rfl) (.tmp 42) (.tmp 48) (by rfl) (by rfl) (w.heap.size + 1) _ (leavesL c.ts (evs.take k)) (by rfl) (HO.out.ext ((HE4.out.alloc _).alloc _)) _ [(tk.lo, tk.hi)] (by rfl) HY.out HLL.out (by simp; omega) ?_; intro v' w8 hown8 hgrow8 hat8)
          have H8 := Lib.hid (And.intro hown8 (And.intro hgrow8 hat8))
          clear hown8 hgrow8 hat8
          go_roundw
          case rel =>
            obtain ⟨hown8, hgrow8, hat8⟩ := H8.out
            refine ⟨k + 1, by omega, by go_num, by rw [HTK.out, HTT.out]; exact hown8, ?_⟩
            exact Ext.grown (((HX.out.trans HE4.out).alloc _).alloc _) hgrow8 (fun x hx => by have := (HO.out.lt x hx).1; have := HW1.out; omega)
          case measure => simp [intOf]; omega
    · obtain rfl : k = evs.length := by omega
      rw [List.take_length] at HO
      go_wp2_with fail
      exact bodyPost_ret (by simp [results, Try.results26, go_sem]) rfl ⟨_, rfl, HO.out.mono (by omega), HX1.out.trans HX.out⟩
end Go.Proofs.Ytjabahfkgaamdaa

/- The document's Right and Order of a plan (ref07). -/
namespace Go.Proofs.Ytjabahfkgaamdaa
open Go.BigFrame
open Go.RowKit Go.Proofs.Ytjabahfkgaamdaa.Plain

/-- may a plan be? -/
def Plain.planB (g m : Int) (np : Nat) : Bool := decide (1 ≤ g) && decide (g ≤ 100) && decide (1 ≤ m) && decide (m ≤ 8) && decide (np ≤ 4000)
theorem Plain.planB_iff (g m : Int) (np : Nat) : planB g m np = true ↔ (1 ≤ g ∧ g ≤ 100 ∧ 1 ≤ m ∧ m ≤ 8 ∧ np ≤ 4000) := by
  unfold planB; simp only [Bool.and_eq_true, decide_eq_true_eq]; constructor <;> intro h <;> omega
/-- units as they are done, how many steps, an error -/
def Plain.ordP (n : Nat) (g m : Int) (picks : List (Int × Int)) : List Nat × Nat × Int :=
  if planB g m picks.length = false then ([], 0, 1) else if n = 0 then ([], 0, 0) else
    (orderL (wholeP g.toNat n m.toNat picks).1.ts (wholeP g.toNat n m.toNat picks).2, (wholeP g.toNat n m.toNat picks).2.length, 0)
abbrev planV (g m : Int) (Ap : Option Addr) (np cp : Nat) : Value := .agg #[.int .i64 g, .int .i64 m, .slice Ap np cp]

set_option maxHeartbeats 800000 in
set_option maxRecDepth 100000 in
theorem rright7_any (g m : Int) (Ap : Option Addr) (np cp : Nat) (w : World) (hg : in64 g) (hm : in64 m) (hn : np ≤ 9223372036854775807) :
    Calls Try.prog 17 #[planV g m Ap np cp] w fun ed w' => ed = .returned (.bool (planB g m np)) ∧ Ext w w' := by
  unfold in64 at hg hm
  have hE : Ext w (w.alloc (.cells #[.int .i64 g, .int .i64 m, .slice Ap np cp] 26)) := (Ext.refl w).alloc _
  go_enter Try.func17, Try.ntmps17
  go_upto_region 1 with fail
  have HE := Lib.hid hE
  by_cases h1 : 1 ≤ g
  · by_cases h2 : g ≤ 100
    · by_cases h3 : 1 ≤ m
      · by_cases h4 : m ≤ 8
        · by_cases h5 : (np : Int) ≤ 4000
          · have e : planB g m np = true := by rw [planB_iff]; omega
            go_wp2_with fail
            all_goals go_ret
            all_goals exact ⟨ret_bool (by first | rfl | (rw [e]; done) | (rw [e]; simp; omega)), HE.out⟩
          · have e : planB g m np = false := by
              rw [← Bool.not_eq_true, planB_iff]; omega
            have d5 : decide ((np : Int) ≤ 4000) = false := decide_eq_false h5
            go_wp2_with fail
            all_goals go_ret
            all_goals exact ⟨ret_bool (by first | rfl | (rw [e]; done) | (rw [e]; simp; omega)), HE.out⟩
        · have e : planB g m np = false := by rw [← Bool.not_eq_true, planB_iff]; omega
          have d5 : decide (m ≤ 8) = false := decide_eq_false h4
          go_wp2_with fail
          all_goals go_ret
          all_goals exact ⟨ret_bool (by first | rfl | (rw [e]; done) | (rw [e]; simp; omega)), HE.out⟩
      · have e : planB g m np = false := by rw [← Bool.not_eq_true, planB_iff]; omega
        have d5 : decide (1 ≤ m) = false := decide_eq_false h3
        go_wp2_with fail
        all_goals go_ret
        all_goals exact ⟨ret_bool (by first | rfl | (rw [e]; done) | (rw [e]; simp; omega)), HE.out⟩
    · have e : planB g m np = false := by rw [← Bool.not_eq_true, planB_iff]; omega
      have d5 : decide (g ≤ 100) = false := decide_eq_false h2
      go_wp2_with fail
      all_goals go_ret
      all_goals exact ⟨ret_bool (by first | rfl | (rw [e]; done) | (rw [e]; simp; omega)), HE.out⟩
  · have e : planB g m np = false := by rw [← Bool.not_eq_true, planB_iff]; omega
    have d5 : decide (1 ≤ g) = false := decide_eq_false h1
    go_wp2_with fail
    all_goals go_ret
    all_goals exact ⟨ret_bool (by first | rfl | (rw [e]; done) | (rw [e]; simp; omega)), HE.out⟩

abbrev Plain.rngS (x : Int × Int) : List Nat := List.range' x.1.toNat (x.2.toNat - x.1.toNat)
theorem Plain.leavesL_bd {ts : List Tk} {evs : List Ev} {n : Nat} (h : ∀ k, k < ts.length → 0 ≤ (T ts k).lo ∧ (T ts k).lo ≤ (T ts k).hi ∧ (T ts k).hi ≤ n) (hin : evsIn ts.length evs) : ∀ x ∈ leavesL ts evs, 0 ≤ x.1 ∧ x.1 ≤ x.2 ∧ x.2 ≤ n := by
  intro x hx
  unfold leavesL at hx
  rw [List.mem_flatMap] at hx
  obtain ⟨e, he, hx⟩ := hx
  have h1 := hin e he
  split at hx
  · cases hx
  · rw [List.mem_singleton] at hx
    subst hx
    exact h _ (by omega)
theorem Plain.flat_split (S : List (Int × Int)) (f : Int × Int → List Nat) (j : Nat) (hj : j < S.length) : (S.flatMap f).length = ((S.take j).flatMap f).length + (f (S.getD j (0, 0))).length + ((S.drop (j + 1)).flatMap f).length ∧ (S.take (j + 1)).flatMap f = (S.take j).flatMap f ++ f (S.getD j (0, 0)) := by
  have e : S.getD j (0, 0) = S[j] := by rw [List.getD_eq_getElem?_getD, List.getElem?_eq_getElem hj]; rfl
  constructor
  · conv => lhs; rw [split_at S j hj]
    rw [List.flatMap_append, List.flatMap_cons, List.length_append, List.length_append, e]; omega
  · rw [List.take_succ_eq_append_getElem hj, List.flatMap_append, e]; simp
theorem Rd.spans {w : World} {A : Option Addr} {n c : Nat} {xs : List (Int × Int)} (h : Rd kSpan w (.slice A n c) xs) (hl : 0 < xs.length) : ∃ b off, A = some ⟨b, off, none⟩ ∧ ∀ j, j < xs.length → w.cell? ⟨b, off + j * 2, none⟩ = some (.int .i64 (xs.getD j (0, 0)).1) ∧ w.cell? ⟨b, off + j * 2 + 1, none⟩ = some (.int .i64 (xs.getD j (0, 0)).2) := by
  obtain ⟨b, off, rfl, hcc⟩ := h.cells hl
  exact ⟨b, off, rfl, fun j hj => ⟨by have := hcc j hj 0 _ rfl; simpa [kSpan] using this, by have := hcc j hj 1 _ rfl; simpa [kSpan] using this⟩⟩
/-- what Order leaves -/
def OrdSaid (r : List Nat × Nat × Int) (w : World) (ed : Ending) (w' : World) : Prop :=
  ∃ (L : Option Addr) (l : Nat), ed = .returned (.tuple #[.slice L r.1.length l, .int .i64 r.2.1, .int .i64 r.2.2]) ∧ Ow kInt w.heap.size w' (.slice L r.1.length l) (zs r.1) ∧ Ext w w'

set_option maxHeartbeats 1600000 in
set_option maxRecDepth 100000 in
theorem rorder_any (n : Nat) (g m : Int) (Ap : Option Addr) (cp : Nat) (picks : List (Int × Int)) (w : World) (hp : Rd kPk w (.slice Ap picks.length cp) picks) (n2 : n ≤ 900) (hg : in64 g) (hm : in64 m) :
    Calls Try.prog 11 #[.int .i64 n, planV g m Ap picks.length cp] w (OrdSaid (ordP n g m picks) w) := by
  have HP := Lib.hid hp
  have HL : Hid (picks.length ≤ 9223372036854775807) := Lib.hid hp.len
  have HGM := Lib.hid (And.intro hg hm)
  have n3 : (n : Int) ≤ 900 := by omega
  have n0 : (0 : Int) ≤ n := by omega
  clear hp hg hm
  go_enter Try.func11, Try.ntmps11
  go_wp2_with fail
  refine (rright7_any g m Ap picks.length cp _ HGM.out.1 HGM.out.2 HL.out).mono ?_
  rintro ed w1 ⟨rfl, hE1⟩
  have hb := block_keep (heap_alloc_new w (.cells #[.int .i64 g, .int .i64 m, .slice Ap picks.length cp] 26)) hE1
  have HB := Lib.hid hb
  have HX1 := Lib.hid (((Ext.refl w).alloc _).trans hE1)
  have q0 : w1.cell? ⟨w.heap.size, 0, none⟩ = some (.int .i64 g) := (cell_of_row w1 w.heap.size 0 _ _ _ hb).trans rfl
  have q1 : w1.cell? ⟨w.heap.size, 1, none⟩ = some (.int .i64 m) := (cell_of_row w1 w.heap.size 1 _ _ _ hb).trans rfl
  have q2 : w1.cell? ⟨w.heap.size, 2, none⟩ = some (.slice Ap picks.length cp) := (cell_of_row w1 w.heap.size 2 _ _ _ hb).trans rfl
  clear hb hE1
  cases hok : planB g m picks.length with
  | false =>
    have e : ordP n g m picks = ([], 0, 1) := by unfold ordP; rw [if_pos hok]
    have HEE := Lib.hid e
    clear e hok
    go_wp2_with fail
    exact bodyPost_ret (v := .tuple #[.slice none 0 0, .int .i64 0, .int .i64 1]) (by simp [results, Try.results11, go_sem]) rfl (by rw [HEE.out]; exact ⟨none, 0, rfl, Ow.nil _ _, HX1.out⟩)
  | true =>
    obtain ⟨p1, p2, p3, p4, p5⟩ := (planB_iff _ _ _).1 hok
    obtain ⟨G, rfl⟩ : ∃ G : Nat, g = G := ⟨g.toNat, by omega⟩
    obtain ⟨M, rfl⟩ : ∃ M : Nat, m = M := ⟨m.toNat, by omega⟩
    by_cases hz : n = 0
    · subst hz
      have e : ordP 0 G M picks = ([], 0, 0) := by unfold ordP; rw [if_neg (by rw [hok]; decide), if_pos rfl]
      have HEE := Lib.hid e
      clear e hok
      go_wp2_with fail
      exact bodyPost_ret (v := .tuple #[.slice none 0 0, .int .i64 0, .int .i64 0]) (by simp [results, Try.results11, go_sem]) rfl (by rw [HEE.out]; exact ⟨none, 0, rfl, Ow.nil _ _, HX1.out⟩)
    · have e : ordP n G M picks = (orderL (wholeP G n M picks).1.ts (wholeP G n M picks).2, (wholeP G n M picks).2.length, 0) := by unfold ordP; rw [if_neg (by rw [hok]; decide), if_neg hz]; rfl
      have hne : ((n : Int) == 0) = false := by simp; omega
      obtain ⟨we1, we2, we3, we4⟩ := whole_ends (g := G) (n := n) (m := M) (by omega) (by omega) (by omega) picks
      have hin := we2.ins
      obtain ⟨dn, hI⟩ := we2.inv
      have hcn := (hI.counts (by omega) (by omega)).2.2.1
      have hevl : (wholeP G n M picks).2.length ≤ 60000 := by
        have h2 : M * (cntT n G + 1) ≤ 8 * 1801 := Nat.mul_le_mul (by omega) (by omega)
        omega
      have hbd : ∀ k, k < (wholeP G n M picks).1.ts.length → 0 ≤ (T (wholeP G n M picks).1.ts k).lo ∧ (T (wholeP G n M picks).1.ts k).lo ≤ (T (wholeP G n M picks).1.ts k).hi ∧ (T (wholeP G n M picks).1.ts k).hi ≤ n := fun k hk => by
        have ht := (CrI.inv hI).task k hk
        omega
      have hol : (orderL (wholeP G n M picks).1.ts (wholeP G n M picks).2).length = n := by rw [we4.length_eq, List.length_range]
      obtain ⟨⟨c, evs⟩, hW⟩ : ∃ x, wholeP G n M picks = x := ⟨_, rfl⟩
      rw [hW] at hin hevl hbd hol e
      simp only at hin hevl hbd hol e
      rw [order_leaves] at hol e
      have hsb : ∀ x ∈ leavesL c.ts evs, 0 ≤ x.1 ∧ x.1 ≤ x.2 ∧ x.2 ≤ n := leavesL_bd hbd hin
      have hsl : (leavesL c.ts evs).length ≤ 60000 := Nat.le_trans (leavesL_len _ _) hevl
      have HEE := Lib.hid e
      have HOL := Lib.hid hol
      have HSB := Lib.hid hsb
      have HIN := Lib.hid hin
      have HEV := Lib.hid hevl
      have HSL := Lib.hid hsl
      have HWW := Lib.hid hW
      have hGn : (0 : Int) ≤ G := by omega
      clear e hok we1 we2 we3 we4 hI hcn hW hin hevl hbd hol hsb hsl
      go_wp2_with fail
      refine (rwhole_any n G M Ap cp picks w1 (HP.out.ext HX1.out) (by omega) n2 (by omega) (by omega) (by omega) (by omega) p5).mono ?_
      rw [HWW.out]
      rintro ed w2 ⟨A1, B1, L1, e0, o1, a1, b1, e1, l1, hme, rfl, hC, hO, hE2⟩
      simp only at hC hO ⊢
      have HC := Lib.hid hC
      have HO := Lib.hid hO
      have HX2 := Lib.hid (HX1.out.trans hE2)
      clear hC hO hE2 q0 q1 q2
      go_wp2_with fail
      refine (rleaves_any A1 B1 L1 e0 o1 a1 b1 e1 G M l1 c evs _ (HC.out.ext ((Ext.refl _).alloc _)) (HO.out.rd.ext ((Ext.refl _).alloc _)) (by have := HEV.out; omega) HIN.out).mono ?_
      rintro ed w3 ⟨vs, rfl, hS, hE3⟩
      obtain ⟨S, hSS⟩ : ∃ S, leavesL c.ts evs = S := ⟨_, rfl⟩
      rw [hSS] at hS HEE HOL HSB HSL
      obtain ⟨Ls, ls, hv, hls⟩ := hS.slice
      subst hv
      have HS := Lib.hid hS.rd
      have HX3 := Lib.hid ((HX2.out.alloc _).trans hE3)
      have hsl' : (S.length : Int) ≤ 60000 := by have := HSL.out; omega
      clear hS hE3 hls
      go_wp2_with fail
      go_loopw [10, 12] (fun v i wr => ∃ j : Nat, j ≤ S.length ∧ i = .int .i64 j ∧ Ow kInt w3.heap.size wr v (zs ((S.take j).flatMap rngS)) ∧ Ext w3 wr) (fun _ i _ => S.length - (intOf i).toNat)
      case atStart => exact ⟨0, Nat.zero_le _, rfl, Ow.nil _ _, Ext.refl _⟩
      case round =>
        obtain ⟨j, hj, rfl, hO, hX⟩ := hrel
        have HO5 := Lib.hid hO
        have HX5 := Lib.hid hX
        have hj0 : (0 : Int) ≤ j := by omega
        clear hO hX
        by_cases hlt : j < S.length
        · have hlt' : (j : Int) < S.length := by omega
          obtain ⟨bs, os, rfl, hcs⟩ := Rd.spans HS.out (by omega)
          obtain ⟨z0, z1⟩ := hcs j hlt
          have hmem : S.getD j (0, 0) ∈ S := by rw [List.getD_eq_getElem?_getD, List.getElem?_eq_getElem hlt]; exact List.getElem_mem hlt
          obtain ⟨fl1, fl2⟩ := flat_split S rngS j hlt
          obtain ⟨b1', b2', b3'⟩ := HSB.out _ hmem
          obtain ⟨⟨lo, hi⟩, hlh⟩ : ∃ x, S.getD j (0, 0) = x := ⟨_, rfl⟩
          rw [hlh] at z0 z1 fl1 fl2 b1' b2' b3'
          simp only at z0 z1 b1' b2' b3'
          obtain ⟨Lo, rfl⟩ : ∃ x : Nat, lo = x := ⟨lo.toNat, by omega⟩
          obtain ⟨Hi, rfl⟩ : ∃ x : Nat, hi = x := ⟨hi.toNat, by omega⟩
          have hpre : ((S.take j).flatMap rngS).length + (Hi - Lo) ≤ 900 := by
            have h9 := HOL.out
            change (S.flatMap rngS).length = n at h9
            have e9 : (rngS ((Lo : Int), (Hi : Int))).length = Hi - Lo := by simp [rngS]
            omega
          have HFL := Lib.hid fl2
          have HPRE := Lib.hid hpre
          have lbs : bs < w3.heap.size := World.block_lt_of_cell? _ _ z0
          have HZ1 := Lib.hid z1
          replace z0 := HX5.out.cell z0
          replace z1 := HX5.out.cell z1
          have hll : Lo ≤ Hi := by omega
          have hhi : (Hi : Int) ≤ 900 := by omega
          clear hcs hmem fl1 fl2 hlh hpre
          go_wp2_with fail
          go_loopw [10, 13] (fun v i wr' => ∃ u : Nat, Lo ≤ u ∧ u ≤ Hi ∧ i = .int .i64 u ∧ Ow kInt w3.heap.size wr' v (zs ((S.take j).flatMap rngS ++ List.range' Lo (u - Lo))) ∧ Ext w3 wr') (fun _ i _ => Hi - (intOf i).toNat)
          case atStart => exact ⟨Lo, Nat.le_refl _, hll, rfl, by simpa using HO5.out, HX5.out⟩
          case round =>
            obtain ⟨u, hu1, hu2, rfl, hO, hX⟩ := hrel
            have z1 := hX.cell HZ1.out
            have HO6 := Lib.hid hO
            have HX6 := Lib.hid hX
            have hu0 : (0 : Int) ≤ u := by omega
            clear hO hX
            by_cases hul : u < Hi
            · have hul' : (u : Int) < Hi := by omega
              have HY : ∀ w6 : World, Rd kInt (w6.alloc (.cells #[.int .i64 u] 3)) (.slice (some ⟨w6.heap.size, 0, none⟩) 1 1) [(u : Int)] := fun w6 => Ow.rd (K := kInt) (B := 0) (Ow.lit (K := kInt) (p := w6.heap.size) (n := 1) w6 [(u : Int)] #[.int .i64 u] rfl rfl rfl (Nat.zero_le _) (by simp [maxLen]) (by intro x hx; simp only [List.mem_singleton] at hx; subst hx; exact in64_nat u (by omega)))
              have HYY := Lib.hid HY
              have HLL : Hid ((zs ((S.take j).flatMap rngS ++ List.range' Lo (u - Lo))).length + [(u : Int)].length ≤ 1048576) := Lib.hid (by have := HPRE.out; rw [zs_len, List.length_append, List.length_range', List.length_singleton]; omega)
              have hz6 := HX6.out.size
              clear HY
              go_wp2_with (at_builtin; refine kInt.wpList_app (by rfl) (.tmp 65) (.tmp 67) (by rfl) (by rfl) w3.heap.size _ (zs ((S.take j).flatMap rngS ++ List.range' Lo (u - Lo))) (by rfl) (HO6.out.ext ((Ext.refl _).alloc _)) _ [(u : Int)] (by rfl) (HYY.out _) HLL.out (by simp; omega) ?_; intro v' w8 hown8 hgrow8 hat8)
              have H8 := Lib.hid (And.intro hown8 (And.intro hgrow8 hat8))
              clear hown8 hgrow8 hat8
              go_roundw
              case rel =>
                obtain ⟨hown8, hgrow8, hat8⟩ := H8.out
                refine ⟨u + 1, by omega, by omega, by go_num, ?_, ?_⟩
                · rw [show u + 1 - Lo = (u - Lo) + 1 by omega, List.range'_1_concat, show Lo + (u - Lo) = u by omega, ← List.append_assoc, zs_app]
                  exact hown8
                · exact Ext.grown (HX6.out.alloc _) hgrow8 (fun x hx => (HO6.out.lt x hx).1)
              case measure => simp [intOf]; omega
            · obtain rfl : u = Hi := by omega
              go_wp2_with fail
              go_roundw
              case rel => exact ⟨j + 1, by omega, by go_num, by rw [HFL.out]; exact HO6.out, HX6.out⟩
              case measure => simp [intOf]; omega
        · obtain rfl : j = S.length := by omega
          rw [List.take_length] at HO5
          have HXX := Lib.hid (HX3.out.trans HX5.out)
          have hzz := HX3.out.size
          obtain ⟨Lz, lz, hv, hlz⟩ := HO5.out.slice
          subst hv
          go_wp2_with fail
          refine bodyPost_ret (v := .tuple #[.slice Lz (zs (S.flatMap rngS)).length lz, .int .i64 evs.length, .int .i64 0]) (by simp [results, Try.results11, go_sem]) rfl (by rw [HEE.out]; exact ⟨Lz, lz, by rw [zs_len], by have := HO5.out.mono (B' := w.heap.size) (by omega); rw [zs_len] at this; exact this, HXX.out⟩)
end Go.Proofs.Ytjabahfkgaamdaa

/- The document's One (ref07): what is done to a cell. -/
namespace Go.Proofs.Ytjabahfkgaamdaa
open Go.BigFrame
open Go.RowKit Go.Proofs.Ytjabahfkgaamdaa.Plain

/-- what is done to a cell -/
def Plain.oneP (x : Nat) (op : Int) (y : Nat) : Nat :=
  if op = 1 then (x + y) % 4294967296 else if op = 2 then x ^^^ y else if op = 3 then x * 2 ^ (y % 32) % 4294967296 else if op = 4 then x / 2 ^ (y % 32) else if op = 5 then x &&& y else if op = 6 then (if y < x then 1 else 0) else 0
theorem Plain.bit_next (z k : Nat) : z % 2 ^ (k + 1) = z % 2 ^ k + (z.testBit k).toNat * 2 ^ k := by
  rw [Nat.mod_pow_succ, Nat.toNat_testBit, Nat.mul_comm]

set_option maxHeartbeats 400000 in
theorem rbit_any (x i : Nat) (w : World) (hx : x < 4294967296) (hi : i < 32) :
    Calls Try.prog 29 #[.int .u32 x, .int .i64 i] w fun ed w' => ed = .returned (.int .u32 ((x.testBit i).toNat : Nat)) ∧ w = w' := by
  have h1 : (x : Int) < 4294967296 := by omega
  have h2 : (i : Int) < 32 := by omega
  go_enter Try.func29, Try.ntmps29
  go_wp2
  all_goals go_ret
  refine ⟨ret_int ?_, rfl⟩
  have e : ((x : Int) / 2 ^ i) = ((x / 2 ^ i : Nat) : Int) := by simp
  have hl : x / 2 ^ i < 4294967296 := Nat.lt_of_le_of_lt (Nat.div_le_self _ _) hx
  have h3 := u32_and_nat (x / 2 ^ i) 1 hl (by omega)
  rw [e]
  rw [Nat.and_one_is_mod, ← Nat.toNat_testBit] at h3
  simpa using h3

set_option maxHeartbeats 1600000 in
set_option maxRecDepth 100000 in
theorem rone_any (x : Nat) (op : Int) (y : Nat) (w : World) (hx : x < 4294967296) (hy : y < 4294967296) (ho : in64 op) :
    Calls Try.prog 13 #[.int .u32 x, .int .i64 op, .int .u32 y] w fun ed w' => ed = .returned (.int .u32 (oneP x op y : Nat)) ∧ w = w' := by
  have hx1 : (x : Int) < 4294967296 := by omega
  have hy1 : (y : Int) < 4294967296 := by omega
  have hx0 : (0 : Int) ≤ x := by omega
  have hy0 : (0 : Int) ≤ y := by omega
  have HXY := Lib.hid (And.intro hx hy)
  clear hx hy
  unfold in64 at ho
  by_cases h1 : op = 1
  · subst h1
    have e : oneP x 1 y = (x + y) % 4294967296 := rfl
    rw [e]
    clear e
    go_enter Try.func13, Try.ntmps13
    go_wp2
    all_goals go_ret
    all_goals exact ⟨ret_int (by omega), rfl⟩
  by_cases h6 : op = 6
  · subst h6
    by_cases hxy : y < x
    · have e : oneP x 6 y = 1 := by show (if y < x then 1 else 0) = 1; rw [if_pos hxy]
      have hxy' : (y : Int) < x := by omega
      rw [e]
      clear e h1 ho
      go_enter Try.func13, Try.ntmps13
      go_wp2_with fail
      all_goals go_ret
      all_goals exact ⟨ret_int rfl, rfl⟩
    · have e : oneP x 6 y = 0 := by show (if y < x then 1 else 0) = 0; rw [if_neg hxy]
      have hxy' : ¬ (y : Int) < x := by omega
      rw [e]
      clear e h1 ho
      go_enter Try.func13, Try.ntmps13
      go_wp2_with fail
      all_goals go_ret
      all_goals exact ⟨ret_int rfl, rfl⟩
  by_cases h3 : op = 3
  · subst h3
    have e : oneP x 3 y = x * 2 ^ (y % 32) % 4294967296 := rfl
    rw [e]
    clear e
    go_enter Try.func13, Try.ntmps13
    go_wp2_with fail
    go_loopw [7, 9] (fun o i wr => ∃ k : Nat, k ≤ y % 32 ∧ i = .int .u32 k ∧ o = .int .u64 ((x * 2 ^ k % 4294967296 : Nat) : Int) ∧ wr = w) (fun _ i _ => y % 32 - (intOf i).toNat)
    case atStart => exact ⟨0, Nat.zero_le _, rfl, by have := HXY.out.1; simp; omega, rfl⟩
    case round =>
      obtain ⟨k, hk, rfl, rfl, rfl⟩ := hrel
      obtain ⟨z, hz⟩ : ∃ z, x * 2 ^ k % 4294967296 = z := ⟨_, rfl⟩
      have hzl : z < 4294967296 := by rw [← hz]; omega
      have hz1 : (z : Int) < 4294967296 := by omega
      have hz0 : (0 : Int) ≤ z := by omega
      have hk0 : (0 : Int) ≤ k := by omega
      have hk1 : (k : Int) ≤ 31 := by omega
      have hn : x * 2 ^ (k + 1) % 4294967296 = z * 2 % 4294967296 := by
        rw [Nat.pow_succ, ← Nat.mul_assoc, Nat.mul_mod (x * 2 ^ k) 2, hz]
      have HN := Lib.hid hn
      have HZ := Lib.hid hz
      rw [hz]
      clear hz hn
      by_cases hlt : k < y % 32
      · have hlt' : (k : Int) < (y : Int) % 32 := by omega
        go_wp2_with fail
        go_roundw
        case rel => exact ⟨k + 1, by omega, by go_num, by rw [HN.out]; go_num, by first | rfl | trivial⟩
        case measure => simp [intOf]; omega
      · have hlt' : ¬ (k : Int) < (y : Int) % 32 := by omega
        obtain rfl : k = y % 32 := by omega
        go_wp2_with fail
        all_goals go_ret
        all_goals exact ⟨ret_int (by rw [← HZ.out]; simp), rfl⟩
  by_cases h4 : op = 4
  · subst h4
    have e : oneP x 4 y = x / 2 ^ (y % 32) := rfl
    rw [e]
    clear e
    go_enter Try.func13, Try.ntmps13
    go_wp2_with fail
    go_loopw [7, 10] (fun o i wr => ∃ k : Nat, k ≤ y % 32 ∧ i = .int .u32 k ∧ o = .int .u64 ((x / 2 ^ k : Nat) : Int) ∧ wr = w) (fun _ i _ => y % 32 - (intOf i).toNat)
    case atStart => exact ⟨0, Nat.zero_le _, rfl, by simp, rfl⟩
    case round =>
      obtain ⟨k, hk, rfl, rfl, rfl⟩ := hrel
      obtain ⟨z, hz⟩ : ∃ z, x / 2 ^ k = z := ⟨_, rfl⟩
      have hzl : z < 4294967296 := by rw [← hz]; exact Nat.lt_of_le_of_lt (Nat.div_le_self _ _) HXY.out.1
      have hz1 : (z : Int) < 4294967296 := by omega
      have hz0 : (0 : Int) ≤ z := by omega
      have hk0 : (0 : Int) ≤ k := by omega
      have hk1 : (k : Int) ≤ 31 := by omega
      have hn : x / 2 ^ (k + 1) = z / 2 := by
        rw [Nat.pow_succ, ← Nat.div_div_eq_div_mul, hz]
      have HN := Lib.hid hn
      have HZ := Lib.hid hz
      rw [hz]
      clear hz hn
      by_cases hlt : k < y % 32
      · have hlt' : (k : Int) < (y : Int) % 32 := by omega
        go_wp2_with fail
        go_roundw
        case rel => exact ⟨k + 1, by omega, by go_num, by rw [HN.out]; go_num, by first | rfl | trivial⟩
        case measure => simp [intOf]; omega
      · have hlt' : ¬ (k : Int) < (y : Int) % 32 := by omega
        obtain rfl : k = y % 32 := by omega
        go_wp2_with fail
        all_goals go_ret
        all_goals exact ⟨ret_int (by rw [← HZ.out]; simp), rfl⟩
  by_cases h2 : op = 2
  · subst h2
    have e : oneP x 2 y = x ^^^ y := rfl
    rw [e]
    clear e
    have hzl : x ^^^ y < 4294967296 := Nat.xor_lt_two_pow (n := 32) HXY.out.1 HXY.out.2
    obtain ⟨z, hz⟩ : ∃ z, x ^^^ y = z := ⟨_, rfl⟩
    rw [hz] at hzl ⊢
    have HZ := Lib.hid hz
    have HZL := Lib.hid hzl
    clear hz
    go_enter Try.func13, Try.ntmps13
    go_wp2_with fail
    go_loopw [7, 8] (fun o i wr => ∃ k : Nat, k ≤ 32 ∧ i = .int .i64 k ∧ o = .int .u64 ((z % 2 ^ k : Nat) : Int) ∧ wr = w) (fun _ i _ => 32 - (intOf i).toNat)
    case atStart => exact ⟨0, Nat.zero_le _, rfl, by simp [Nat.mod_one], rfl⟩
    case round =>
      obtain ⟨k, hk, rfl, rfl, rfl⟩ := hrel
      have hk0 : (0 : Int) ≤ k := by omega
      by_cases hlt : k < 32
      · have hlt' : (k : Int) < 32 := by omega
        have hb := bit_next z k
        have hpow : 2 ^ k ≤ 2 ^ 31 := Nat.pow_le_pow_right (by decide) (by omega)
        have htb : z.testBit k = (x.testBit k ^^ y.testBit k) := by rw [← HZ.out]; exact Nat.testBit_xor ..
        obtain ⟨p, hp⟩ : ∃ p : Nat, 2 ^ k = p := ⟨_, rfl⟩
        obtain ⟨r, hr⟩ : ∃ r : Nat, z % 2 ^ k = r := ⟨_, rfl⟩
        have hrl : r < 2 ^ k := by rw [← hr]; exact Nat.mod_lt _ (Nat.two_pow_pos k)
        rw [hr] at hb ⊢
        have HB := Lib.hid hb
        have HP := Lib.hid hp
        have HTB := Lib.hid htb
        have hp1 : (2 : Int) ^ k = p := by rw [← hp]; simp
        have hp2 : (p : Int) ≤ 2147483648 := by rw [hp] at hpow; omega
        have hr1 : (r : Int) < p := by rw [hp] at hrl; omega
        have hr0 : (0 : Int) ≤ r := by omega
        clear hb hr hrl htb hpow hp
        cases hbx : x.testBit k <;> cases hby : y.testBit k
        all_goals
          have HBX := Lib.hid hbx
          have HBY := Lib.hid hby
          clear hbx hby
          go_wp2_with (first | (go_at_call_of 29 (Value.int IntKind.u32 (x : Int)); refine (rbit_any x k _ HXY.out.1 hlt).mono ?_; rw [HBX.out]; rintro ed w5 ⟨rfl, rfl⟩) | (go_at_call_of 29 (Value.int IntKind.u32 (y : Int)); refine (rbit_any y k _ HXY.out.2 hlt).mono ?_; rw [HBY.out]; rintro ed w5 ⟨rfl, rfl⟩))
          go_roundw
          case rel => exact ⟨k + 1, by omega, by go_num, by rw [HB.out, HTB.out, HBX.out, HBY.out, HP.out]; simp, by first | rfl | trivial⟩
          case measure => simp [intOf]; omega
      · obtain rfl : k = 32 := by omega
        have e9 : z % 2 ^ 32 = z := Nat.mod_eq_of_lt HZL.out
        rw [e9]
        have hz1 : (z : Int) < 4294967296 := by omega
        have hz0 : (0 : Int) ≤ z := by omega
        go_wp2_with fail
        all_goals go_ret
        all_goals exact ⟨ret_int rfl, rfl⟩
  by_cases h5 : op = 5
  · subst h5
    have e : oneP x 5 y = x &&& y := rfl
    rw [e]
    clear e
    have hzl : x &&& y < 4294967296 := Nat.lt_of_le_of_lt Nat.and_le_left HXY.out.1
    obtain ⟨z, hz⟩ : ∃ z, x &&& y = z := ⟨_, rfl⟩
    rw [hz] at hzl ⊢
    have HZ := Lib.hid hz
    have HZL := Lib.hid hzl
    clear hz
    go_enter Try.func13, Try.ntmps13
    go_wp2_with fail
    go_loopw [7, 8] (fun o i wr => ∃ k : Nat, k ≤ 32 ∧ i = .int .i64 k ∧ o = .int .u64 ((z % 2 ^ k : Nat) : Int) ∧ wr = w) (fun _ i _ => 32 - (intOf i).toNat)
    case atStart => exact ⟨0, Nat.zero_le _, rfl, by simp [Nat.mod_one], rfl⟩
    case round =>
      obtain ⟨k, hk, rfl, rfl, rfl⟩ := hrel
      have hk0 : (0 : Int) ≤ k := by omega
      by_cases hlt : k < 32
      · have hlt' : (k : Int) < 32 := by omega
        have hb := bit_next z k
        have hpow : 2 ^ k ≤ 2 ^ 31 := Nat.pow_le_pow_right (by decide) (by omega)
        have htb : z.testBit k = (x.testBit k && y.testBit k) := by rw [← HZ.out]; exact Nat.testBit_and ..
        obtain ⟨p, hp⟩ : ∃ p : Nat, 2 ^ k = p := ⟨_, rfl⟩
        obtain ⟨r, hr⟩ : ∃ r : Nat, z % 2 ^ k = r := ⟨_, rfl⟩
        have hrl : r < 2 ^ k := by rw [← hr]; exact Nat.mod_lt _ (Nat.two_pow_pos k)
        rw [hr] at hb ⊢
        have HB := Lib.hid hb
        have HP := Lib.hid hp
        have HTB := Lib.hid htb
        have hp1 : (2 : Int) ^ k = p := by rw [← hp]; simp
        have hp2 : (p : Int) ≤ 2147483648 := by rw [hp] at hpow; omega
        have hr1 : (r : Int) < p := by rw [hp] at hrl; omega
        have hr0 : (0 : Int) ≤ r := by omega
        clear hb hr hrl htb hpow hp
        cases hbx : x.testBit k <;> cases hby : y.testBit k
        all_goals
          have HBX := Lib.hid hbx
          have HBY := Lib.hid hby
          clear hbx hby
          go_wp2_with (first | (go_at_call_of 29 (Value.int IntKind.u32 (x : Int)); refine (rbit_any x k _ HXY.out.1 hlt).mono ?_; rw [HBX.out]; rintro ed w5 ⟨rfl, rfl⟩) | (go_at_call_of 29 (Value.int IntKind.u32 (y : Int)); refine (rbit_any y k _ HXY.out.2 hlt).mono ?_; rw [HBY.out]; rintro ed w5 ⟨rfl, rfl⟩))
          go_roundw
          case rel => exact ⟨k + 1, by omega, by go_num, by rw [HB.out, HTB.out, HBX.out, HBY.out, HP.out]; simp, by first | rfl | trivial⟩
          case measure => simp [intOf]; omega
      · obtain rfl : k = 32 := by omega
        have e9 : z % 2 ^ 32 = z := Nat.mod_eq_of_lt HZL.out
        rw [e9]
        have hz1 : (z : Int) < 4294967296 := by omega
        have hz0 : (0 : Int) ≤ z := by omega
        go_wp2_with fail
        all_goals go_ret
        all_goals exact ⟨ret_int rfl, rfl⟩
  have e : oneP x op y = 0 := by unfold oneP; rw [if_neg h1, if_neg h2, if_neg h3, if_neg h4, if_neg h5, if_neg h6]
  rw [e]
  have b1 : (op == 1) = false := by simp [h1]
  have b2 : (op == 2) = false := by simp [h2]
  have b3 : (op == 3) = false := by simp [h3]
  have b4 : (op == 4) = false := by simp [h4]
  have b5 : (op == 5) = false := by simp [h5]
  have b6 : (op == 6) = false := by simp [h6]
  clear e h1 h2 h3 h4 h5 h6
  go_enter Try.func13, Try.ntmps13
  go_wp2_with fail
  all_goals go_ret
  all_goals exact ⟨ret_int rfl, rfl⟩
end Go.Proofs.Ytjabahfkgaamdaa

/- The document's Words and Fill (ref07). -/
namespace Go.Proofs.Ytjabahfkgaamdaa
open Go.BigFrame
open Go.RowKit Go.Proofs.Ytjabahfkgaamdaa.Plain

/-- words -/
def kU32 : Kd Int where
  t := 22
  e := 28
  n := 1
  cells := fun x => [.int .u32 x]
  ok := fun x => 0 ≤ x ∧ x ≤ 4294967295
  d := 0
  z := .int .u32 0
  bytes := 4
  ht := Try.underlying22
  info := by kernel_rfl
  hzs := rfl
  pos := by decide
  small := by decide
  len := fun _ => rfl
  one := fun a u hu => by simp at hu; subst hu; rfl
theorem Rd.u32s {w : World} {A : Option Addr} {n c : Nat} {xs : List Int} (h : Rd kU32 w (.slice A n c) xs) (hl : 0 < xs.length) : ∃ b off, A = some ⟨b, off, none⟩ ∧ ∀ j, j < xs.length → w.cell? ⟨b, off + j, none⟩ = some (.int .u32 (xs.getD j 0)) := by
  obtain ⟨b, off, rfl, hcc⟩ := h.cells hl
  exact ⟨b, off, rfl, fun j hj => by have := hcc j hj 0 _ rfl; simpa [kU32] using this⟩
set_option maxHeartbeats 400000 in
theorem rwords_any (v u : Value) (xs ys : List Int) (w : World) (h : Rd kU32 w v xs) (h' : Rd kU32 w u ys) :
    Calls Try.prog 14 #[v, u] w fun e w' => e = .returned (.bool (sameB xs ys)) ∧ Ext w w' := by
  have hm := h.len
  have hm' := h'.len
  obtain ⟨A, cap, rfl, hcap⟩ := h.slice
  obtain ⟨A', cap', rfl, hcap'⟩ := h'.slice
  have HH := Lib.hid h
  have HH' := Lib.hid h'
  clear h h'
  by_cases hl : xs.length = ys.length
  · have H := Lib.hid hl
    have e : decide ((xs.length : Int) = (ys.length : Int)) = true := by simp [hl]
    have e2 : ((xs.length : Int) != (ys.length : Int)) = false := by simp [hl]
    clear hl
    go_enter Try.func14, Try.ntmps14
    go_wp2
    clear e e2
    go_loopw [5] (fun i wr => ∃ k : Nat, k ≤ xs.length ∧ i = .int .i64 k ∧ Ext w wr ∧ ∀ j, j < k → xs.getD j 0 = ys.getD j 0) (fun i _ => xs.length - (intOf i).toNat)
    case atStart => exact ⟨0, Nat.zero_le _, rfl, Ext.refl _, by omega⟩
    case round =>
      obtain ⟨k, hk, rfl, hE, ha⟩ := hrel
      have HA := Lib.hid ha
      have HE := Lib.hid hE
      clear ha hE
      by_cases hlt : k < xs.length
      · obtain ⟨b, off, rfl, hcc⟩ := Rd.u32s (HH.out.ext HE.out) (by omega)
        obtain ⟨b', off', rfl, hcc'⟩ := Rd.u32s (HH'.out.ext HE.out) (by have := H.out; omega)
        have hcell := hcc k hlt
        have hcell' := hcc' k (by have := H.out; omega)
        have hlt' : k < ys.length := by have := H.out; omega
        clear hcc hcc'
        by_cases he : xs.getD k 0 = ys.getD k 0
        · have HEQ := Lib.hid he
          have e1 : ((xs.getD k 0) != (ys.getD k 0)) = false := by rw [he]; simp
          generalize hg : xs.getD k 0 = g at *
          generalize hg' : ys.getD k 0 = g' at *
          clear he
          go_wp2
          go_quiet (fail)
          go_wp2
          go_roundw
          case rel => exact ⟨k + 1, by omega, by go_num, HE.out.drewN _, fun j hj => by
            rcases Nat.lt_or_ge j k with h1 | h1
            · exact HA.out j h1
            · obtain rfl : j = k := by omega
              rw [hg, hg', HEQ.out]⟩
          case measure => simp [intOf]; omega
        · have e1 : ((xs.getD k 0) != (ys.getD k 0)) = true := by simpa using he
          have HR : Hid (sameB xs ys = false) := Lib.hid (by unfold sameB; rw [decide_eq_false_iff_not]; intro h; exact he (by rw [h]))
          generalize hg : xs.getD k 0 = g at *
          generalize hg' : ys.getD k 0 = g' at *
          clear he
          go_wp2
          go_quiet (fail)
          go_wp2
          go_ret
          exact ⟨ret_bool HR.out.symm, HE.out.drewN _⟩
      · have HR : Hid (sameB xs ys = true) := Lib.hid (by unfold sameB; rw [decide_eq_true_eq]; exact eq_of_all _ _ H.out (fun j hj => HA.out j (by omega)))
        go_wp2
        go_ret
        exact ⟨ret_bool HR.out.symm, HE.out⟩
  · have e : decide ((xs.length : Int) = (ys.length : Int)) = false := by simp; omega
    have e2 : ((xs.length : Int) != (ys.length : Int)) = true := by simp; omega
    have HR : Hid (sameB xs ys = false) := Lib.hid (by unfold sameB; rw [decide_eq_false_iff_not]; intro h; exact hl (by rw [h]))
    clear hl
    go_enter Try.func14, Try.ntmps14
    go_wp2
    go_ret
    exact ⟨ret_bool HR.out.symm, Ext.refl _⟩

/-- is there such an op? -/
def Plain.knownB (op : Int) : Bool := decide (1 ≤ op) && decide (op ≤ 6)
theorem rknown_any (op : Int) (w : World) (ho : in64 op) :
    Calls Try.prog 24 #[.int .i64 op] w fun ed w' => ed = .returned (.bool (knownB op)) ∧ w = w' := by
  unfold in64 at ho
  unfold knownB
  go_enter Try.func24, Try.ntmps24
  go_wp2
  all_goals go_ret
  all_goals exact ⟨ret_bool (by simp; try omega), rfl⟩
/-- all cells -/
def Plain.fillP (l : List Nat) (op : Int) (y : Nat) (g m : Int) (picks : List (Int × Int)) : List Nat × Nat × Int :=
  if knownB op = false then ([], 0, 1) else if (ordP l.length g m picks).2.2 ≠ 0 then ([], 0, (ordP l.length g m picks).2.2) else
    (l.map (fun x => oneP x op y), (ordP l.length g m picks).2.1, 0)
theorem Plain.ordP_err (n : Nat) (g m : Int) (picks : List (Int × Int)) : (ordP n g m picks).2.2 = 0 ∨ (ordP n g m picks).2.2 = 1 := by
  unfold ordP
  split
  · exact .inr rfl
  · split
    · exact .inl rfl
    · exact .inl rfl
/-- words, a number, an error -/
def WordsSaid (r : List Nat × Nat × Int) (w : World) (ed : Ending) (w' : World) : Prop :=
  ∃ (L : Option Addr) (l : Nat), ed = .returned (.tuple #[.slice L r.1.length l, .int .i64 r.2.1, .int .i64 r.2.2]) ∧ Ow kU32 w.heap.size w' (.slice L r.1.length l) (zs r.1) ∧ Ext w w'
theorem Plain.oneP_lt (x : Nat) (op : Int) (y : Nat) (hx : x < 4294967296) (hy : y < 4294967296) : oneP x op y < 4294967296 := by
  unfold oneP
  have h1 := Nat.xor_lt_two_pow (n := 32) hx hy
  have h2 : x &&& y ≤ x := Nat.and_le_left
  have h3 : x / 2 ^ (y % 32) ≤ x := Nat.div_le_self _ _
  repeat' split
  all_goals omega
theorem u32_lit (w : World) (x : Nat) (hx : x < 4294967296) : Rd kU32 (w.alloc (.cells #[.int .u32 x] 28)) (.slice (some ⟨w.heap.size, 0, none⟩) 1 1) [(x : Int)] :=
  Ow.rd (K := kU32) (B := 0) (Ow.lit (K := kU32) (p := w.heap.size) (n := 1) w [(x : Int)] #[.int .u32 x] rfl rfl rfl (Nat.zero_le _) (by simp [maxLen]) (by intro z hz; simp only [List.mem_singleton] at hz; subst hz; show (0 : Int) ≤ x ∧ (x : Int) ≤ 4294967295; omega))

set_option maxHeartbeats 1600000 in
set_option maxRecDepth 100000 in
theorem rfill_any (l : List Nat) (L : Option Addr) (lc : Nat) (op : Int) (y : Nat) (g m : Int) (Ap : Option Addr) (cp : Nat) (picks : List (Int × Int)) (w : World) (hL : Rd kU32 w (.slice L l.length lc) (zs l)) (hp : Rd kPk w (.slice Ap picks.length cp) picks) (hl : l.length ≤ 900) (ho : in64 op) (hy : y < 4294967296) (hg : in64 g) (hm : in64 m) :
    Calls Try.prog 9 #[.slice L l.length lc, .int .i64 op, .int .u32 y, planV g m Ap picks.length cp] w (WordsSaid (fillP l op y g m picks) w) := by
  have HP := Lib.hid hp
  have HL := Lib.hid hL
  have HGM := Lib.hid (And.intro hg (And.intro hm (And.intro ho hy)))
  have hl' : (l.length : Int) ≤ 900 := by omega
  clear hp hL hg hm ho hy
  go_enter Try.func9, Try.ntmps9
  go_wp2_with fail
  refine (rknown_any op _ HGM.out.2.2.1).mono ?_
  rintro ed w1 ⟨rfl, rfl⟩
  cases hk : knownB op with
  | false =>
    have HE : Hid (fillP l op y g m picks = ([], 0, 1)) := Lib.hid (by unfold fillP; rw [if_pos hk])
    go_wp2_with fail
    exact bodyPost_ret (v := .tuple #[.slice none 0 0, .int .i64 0, .int .i64 1]) (by simp [results, Try.results9, go_sem]) rfl (by rw [HE.out]; exact ⟨none, 0, rfl, Ow.nil _ _, (Ext.refl _).alloc _⟩)
  | true =>
    go_wp2_with fail
    refine (rorder_any l.length g m Ap cp picks _ (HP.out.ext ((Ext.refl _).alloc _)) hl HGM.out.1 HGM.out.2.1).mono ?_
    have HF : Hid (fillP l op y g m picks = if (ordP l.length g m picks).2.2 ≠ 0 then ([], 0, (ordP l.length g m picks).2.2) else (l.map (fun x => oneP x op y), (ordP l.length g m picks).2.1, 0)) := Lib.hid (by unfold fillP; rw [if_neg (by rw [hk]; decide)])
    have herr := ordP_err l.length g m picks
    obtain ⟨⟨os, st, er⟩, hr⟩ : ∃ x, ordP l.length g m picks = x := ⟨_, rfl⟩
    rw [hr] at HF herr ⊢
    simp only at HF herr
    rintro ed w1 ⟨Lo, lo, rfl, hO, hE1⟩
    simp only at hO ⊢
    have HX1 := Lib.hid (((Ext.refl w).alloc _).trans hE1)
    clear hO hE1 hr hk
    rcases herr with rfl | rfl
    · rw [if_neg (by simp)] at HF
      have hz1 := HX1.out.size
      go_wp2_with fail
      go_loopw [14, 15] (fun v i wr => ∃ k : Nat, k ≤ l.length ∧ i = .int .i64 k ∧ Ow kU32 w1.heap.size wr v (zs ((l.take k).map (fun x => oneP x op y))) ∧ Ext w1 wr) (fun _ i _ => l.length - (intOf i).toNat)
      case atStart => exact ⟨0, Nat.zero_le _, rfl, Ow.nil _ _, Ext.refl _⟩
      case round =>
        obtain ⟨k, hk, rfl, hO, hX⟩ := hrel
        have HO := Lib.hid hO
        have HX := Lib.hid hX
        have hk0 : (0 : Int) ≤ k := by omega
        clear hO hX
        by_cases hlt : k < l.length
        · have hlt' : (k : Int) < l.length := by omega
          obtain ⟨bx, ox, rfl, hcx⟩ := Rd.u32s (HL.out.ext (HX1.out.trans HX.out)) (by rw [zs_len]; omega)
          have hzk : k < (zs l).length := by rw [zs_len]; exact hlt
          have z0 := hcx k hzk
          have hok := HL.out.okAt k hzk
          have htk : (l.take (k + 1)).map (fun x => oneP x op y) = (l.take k).map (fun x => oneP x op y) ++ [oneP (l.getD k 0) op y] := by
            rw [List.take_succ_eq_append_getElem hlt, List.map_append, List.getD_eq_getElem?_getD, List.getElem?_eq_getElem hlt]; rfl
          rw [zs_getD] at z0
          have hok' : (0 : Int) ≤ ((l.getD k 0 : Nat) : Int) ∧ ((l.getD k 0 : Nat) : Int) ≤ 4294967295 := by rw [← zs_getD]; exact hok
          obtain ⟨x, hx⟩ : ∃ x, l.getD k 0 = x := ⟨_, rfl⟩
          rw [hx] at z0 hok' htk
          have hxl : x < 4294967296 := by omega
          have HXL := Lib.hid (And.intro hxl (oneP_lt x op y hxl HGM.out.2.2.2))
          have HTK := Lib.hid htk
          have HLL : Hid ((zs ((l.take k).map (fun x => oneP x op y))).length + [((oneP x op y : Nat) : Int)].length ≤ 1048576) := Lib.hid (by rw [zs_len, List.length_map, List.length_take, List.length_singleton]; omega)
          have hzx := HX.out.size
          clear hcx hzk hok htk hok' hx hxl
          go_wp2_with fail
          refine (rone_any x op y _ HXL.out.1 HGM.out.2.2.2 HGM.out.2.2.1).mono ?_
          rintro ed w5 ⟨rfl, rfl⟩
          obtain ⟨z, hz⟩ : ∃ z, oneP x op y = z := ⟨_, rfl⟩
          rw [hz] at HXL HTK HLL ⊢
          clear hz
          go_wp2_with (at_builtin; refine kU32.wpList_app (by rfl) (.tmp 36) (.tmp 44) (by rfl) (by rfl) w1.heap.size _ (zs ((l.take k).map (fun x => oneP x op y))) (by rfl) (HO.out.ext ((Ext.refl _).alloc _)) _ [(z : Int)] (by rfl) (u32_lit _ z HXL.out.2) HLL.out (by simp; omega) ?_; intro v' w8 hown8 hgrow8 hat8)
          have H8 := Lib.hid (And.intro hown8 (And.intro hgrow8 hat8))
          clear hown8 hgrow8 hat8
          go_roundw
          case rel =>
            obtain ⟨hown8, hgrow8, hat8⟩ := H8.out
            exact ⟨k + 1, by omega, by go_num, by rw [HTK.out, zs_app]; exact hown8, Ext.grown (HX.out.alloc _) hgrow8 (fun q hq => (HO.out.lt q hq).1)⟩
          case measure => simp [intOf]; omega
        · obtain rfl : k = l.length := by omega
          rw [List.take_length] at HO
          obtain ⟨Lz, lz, hv, hlz⟩ := HO.out.slice
          subst hv
          have HXX := Lib.hid (HX1.out.trans HX.out)
          go_wp2_with fail
          refine bodyPost_ret (v := .tuple #[.slice Lz (zs (l.map (fun x => oneP x op y))).length lz, .int .i64 st, .int .i64 0]) (by simp [results, Try.results9, go_sem]) rfl (by rw [HF.out]; exact ⟨Lz, lz, by rw [zs_len], by have := HO.out.mono (B' := w.heap.size) (by omega); rw [zs_len] at this; exact this, HXX.out⟩)
    · rw [if_pos (by decide)] at HF
      go_wp2_with fail
      exact bodyPost_ret (v := .tuple #[.slice none 0 0, .int .i64 0, .int .i64 1]) (by simp [results, Try.results9, go_sem]) rfl (by rw [HF.out]; exact ⟨none, 0, rfl, Ow.nil _ _, HX1.out⟩)
end Go.Proofs.Ytjabahfkgaamdaa

/- The document's Zip (ref07). -/
namespace Go.Proofs.Ytjabahfkgaamdaa
open Go.BigFrame
open Go.RowKit Go.Proofs.Ytjabahfkgaamdaa.Plain

abbrev Plain.zipF (l r : List Nat) (op : Int) (i : Nat) : Nat := oneP (l.getD i 0) op (r.getD i 0)
/-- cell by cell -/
def Plain.zipP (l r : List Nat) (op : Int) (g m : Int) (picks : List (Int × Int)) : List Nat × Nat × Int :=
  if l.length ≠ r.length ∨ knownB op = false then ([], 0, 1) else if (ordP l.length g m picks).2.2 ≠ 0 then ([], 0, (ordP l.length g m picks).2.2) else
    ((List.range l.length).map (zipF l r op), (ordP l.length g m picks).2.1, 0)

set_option maxHeartbeats 1600000 in
set_option maxRecDepth 100000 in
theorem rzip_any (l r : List Nat) (L R : Option Addr) (lc rc : Nat) (op : Int) (g m : Int) (Ap : Option Addr) (cp : Nat) (picks : List (Int × Int)) (w : World) (hL : Rd kU32 w (.slice L l.length lc) (zs l)) (hR : Rd kU32 w (.slice R r.length rc) (zs r)) (hp : Rd kPk w (.slice Ap picks.length cp) picks) (hl : l.length ≤ 900) (ho : in64 op) (hg : in64 g) (hm : in64 m) :
    Calls Try.prog 19 #[.slice L l.length lc, .slice R r.length rc, .int .i64 op, planV g m Ap picks.length cp] w (WordsSaid (zipP l r op g m picks) w) := by
  have HP := Lib.hid hp
  have HL := Lib.hid hL
  have HGM := Lib.hid (And.intro hg (And.intro hm ho))
  have hl' : (l.length : Int) ≤ 900 := by omega
  have HR := Lib.hid hR
  clear hp hL hR hg hm ho
  go_enter Try.func19, Try.ntmps19
  by_cases hlr : l.length ≠ r.length
  · have hne : ((l.length : Int) != (r.length : Int)) = true := by simp; omega
    have HE : Hid (zipP l r op g m picks = ([], 0, 1)) := Lib.hid (by unfold zipP; rw [if_pos (.inl hlr)])
    go_wp2_with fail
    exact bodyPost_ret (v := .tuple #[.slice none 0 0, .int .i64 0, .int .i64 1]) (by simp [results, Try.results19, go_sem]) rfl (by rw [HE.out]; exact ⟨none, 0, rfl, Ow.nil _ _, (Ext.refl _).alloc _⟩)
  have hlr' : l.length = r.length := by omega
  have hne : ((l.length : Int) != (r.length : Int)) = false := by simp; omega
  have HLR := Lib.hid hlr'
  clear hlr hlr'
  go_wp2_with fail
  refine (rknown_any op _ HGM.out.2.2).mono ?_
  rintro ed w1 ⟨rfl, rfl⟩
  cases hk : knownB op with
  | false =>
    have HE : Hid (zipP l r op g m picks = ([], 0, 1)) := Lib.hid (by unfold zipP; rw [if_pos (.inr hk)])
    go_wp2_with fail
    exact bodyPost_ret (v := .tuple #[.slice none 0 0, .int .i64 0, .int .i64 1]) (by simp [results, Try.results19, go_sem]) rfl (by rw [HE.out]; exact ⟨none, 0, rfl, Ow.nil _ _, (Ext.refl _).alloc _⟩)
  | true =>
    go_wp2_with fail
    refine (rorder_any l.length g m Ap cp picks _ (HP.out.ext ((Ext.refl _).alloc _)) hl HGM.out.1 HGM.out.2.1).mono ?_
    have HF : Hid (zipP l r op g m picks = if (ordP l.length g m picks).2.2 ≠ 0 then ([], 0, (ordP l.length g m picks).2.2) else ((List.range l.length).map (zipF l r op), (ordP l.length g m picks).2.1, 0)) := Lib.hid (by unfold zipP; rw [if_neg (by rw [hk]; have := HLR.out; simp; omega)])
    have herr := ordP_err l.length g m picks
    obtain ⟨⟨os, st, er⟩, hr⟩ : ∃ x, ordP l.length g m picks = x := ⟨_, rfl⟩
    rw [hr] at HF herr ⊢
    simp only at HF herr
    rintro ed w1 ⟨Lo, lo, rfl, hO, hE1⟩
    simp only at hO ⊢
    have HX1 := Lib.hid (((Ext.refl w).alloc _).trans hE1)
    clear hO hE1 hr hk
    rcases herr with rfl | rfl
    · rw [if_neg (by simp)] at HF
      have hz1 := HX1.out.size
      go_wp2_with fail
      go_loopw [14, 15] (fun v i wr => ∃ k : Nat, k ≤ l.length ∧ i = .int .i64 k ∧ Ow kU32 w1.heap.size wr v (zs ((List.range k).map (zipF l r op))) ∧ Ext w1 wr) (fun _ i _ => l.length - (intOf i).toNat)
      case atStart => exact ⟨0, Nat.zero_le _, rfl, Ow.nil _ _, Ext.refl _⟩
      case round =>
        obtain ⟨k, hk, rfl, hO, hX⟩ := hrel
        have HO := Lib.hid hO
        have HX := Lib.hid hX
        have hk0 : (0 : Int) ≤ k := by omega
        clear hO hX
        by_cases hlt : k < l.length
        · have hlt' : (k : Int) < l.length := by omega
          have hlt2 : (k : Int) < r.length := by have := HLR.out; omega
          obtain ⟨bx, ox, rfl, hcx⟩ := Rd.u32s (HL.out.ext (HX1.out.trans HX.out)) (by rw [zs_len]; omega)
          obtain ⟨by', oy, rfl, hcy⟩ := Rd.u32s (HR.out.ext (HX1.out.trans HX.out)) (by rw [zs_len]; omega)
          have hzk : k < (zs l).length := by rw [zs_len]; exact hlt
          have hzk2 : k < (zs r).length := by rw [zs_len]; omega
          have z0 := hcx k hzk
          have z1 := hcy k hzk2
          have hok := HL.out.okAt k hzk
          have hok2 := HR.out.okAt k hzk2
          have htk : (List.range (k + 1)).map (zipF l r op) = (List.range k).map (zipF l r op) ++ [oneP (l.getD k 0) op (r.getD k 0)] := by
            rw [List.range_succ, List.map_append]; rfl
          rw [zs_getD] at z0 z1
          have hok' : (0 : Int) ≤ ((l.getD k 0 : Nat) : Int) ∧ ((l.getD k 0 : Nat) : Int) ≤ 4294967295 := by rw [← zs_getD]; exact hok
          have hok2' : (0 : Int) ≤ ((r.getD k 0 : Nat) : Int) ∧ ((r.getD k 0 : Nat) : Int) ≤ 4294967295 := by rw [← zs_getD]; exact hok2
          obtain ⟨x, hx⟩ : ∃ x, l.getD k 0 = x := ⟨_, rfl⟩
          obtain ⟨y, hy⟩ : ∃ y, r.getD k 0 = y := ⟨_, rfl⟩
          rw [hx] at z0 hok' htk
          rw [hy] at z1 hok2' htk
          have hxl : x < 4294967296 := by omega
          have hyl : y < 4294967296 := by omega
          have HXL := Lib.hid (And.intro hxl (And.intro hyl (oneP_lt x op y hxl hyl)))
          have HTK := Lib.hid htk
          have HLL : Hid ((zs ((List.range k).map (zipF l r op))).length + [((oneP x op y : Nat) : Int)].length ≤ 1048576) := Lib.hid (by rw [zs_len, List.length_map, List.length_range, List.length_singleton]; omega)
          have hzx := HX.out.size
          have lbx : bx < wr.heap.size := World.block_lt_of_cell? _ _ z0
          have lby : by' < wr.heap.size := World.block_lt_of_cell? _ _ z1
          obtain ⟨z, hz⟩ : ∃ z, oneP x op y = z := ⟨_, rfl⟩
          rw [hz] at HXL HTK HLL
          have HZ := Lib.hid hz
          clear hcx hcy hzk hzk2 hok hok2 htk hok' hok2' hx hy hxl hyl hz
          go_upto_region 10 with fail
          go_region_law (first
            | (go_simp; go_at_call 13; refine (rone_any x op y _ HXL.out.1 HXL.out.2.1 HGM.out.2.2).mono ?_; rw [HZ.out]; rintro ed w5 ⟨rfl, rfl⟩)
            | (refine kU32.step_app (by rfl) (.tmp 43) (.tmp 54) (by rfl) (by rfl) w1.heap.size _ (zs ((List.range k).map (zipF l r op))) (by rfl) (HO.out.ext (by repeat (first | exact Ext.refl _ | refine Ext.alloc ?_ _ | refine Ext.drew ?_ | refine Ext.drewN ?_ _))) _ [(z : Int)] (by rfl) (u32_lit _ z HXL.out.2.2) HLL.out (by simp; omega) ?_
               intro v8 w8 hown8 hgrow8 hat8
               have H8 := Lib.hid (And.intro hown8 (Ext.grown (HX.out.trans (by repeat (first | exact Ext.refl _ | refine Ext.alloc ?_ _ | refine Ext.drew ?_ | refine Ext.drewN ?_ _))) hgrow8 (fun q hq => (HO.out.lt q hq).1)))
               clear hown8 hgrow8 hat8))
          all_goals go_wp2_with fail
          all_goals go_roundw
          all_goals first
            | exact ⟨k + 1, by omega, by go_num, by rw [HTK.out, zs_app]; exact H8.out.1, H8.out.2⟩
            | (simp [intOf]; omega)
        · obtain rfl : k = l.length := by omega
          obtain ⟨Lz, lz, hv, hlz⟩ := HO.out.slice
          subst hv
          have HXX := Lib.hid (HX1.out.trans HX.out)
          go_wp2_with fail
          refine bodyPost_ret (v := .tuple #[.slice Lz (zs ((List.range l.length).map (zipF l r op))).length lz, .int .i64 st, .int .i64 0]) (by simp [results, Try.results19, go_sem]) rfl (by rw [HF.out]; exact ⟨Lz, lz, by rw [zs_len], by have := HO.out.mono (B' := w.heap.size) (by omega); rw [zs_len] at this; exact this, HXX.out⟩)
    · rw [if_pos (by decide)] at HF
      go_wp2_with fail
      exact bodyPost_ret (v := .tuple #[.slice none 0 0, .int .i64 0, .int .i64 1]) (by simp [results, Try.results19, go_sem]) rfl (by rw [HF.out]; exact ⟨none, 0, rfl, Ow.nil _ _, HX1.out⟩)
end Go.Proofs.Ytjabahfkgaamdaa

/- The program's small ones of fill: Right, known, One, and the two closures. -/
namespace Go.Proofs.Ytjabahfkgaamdaa
open Go.BigFrame
open Go.RowKit Go.Proofs.Ytjabahfkgaamdaa.Plain

set_option maxHeartbeats 800000 in
set_option maxRecDepth 100000 in
theorem fright7_any (g m : Int) (Ap : Option Addr) (np cp : Nat) (w : World) (hg : in64 g) (hm : in64 m) (hn : np ≤ 9223372036854775807) :
    Calls Try.prog 16 #[planV g m Ap np cp] w fun ed w' => ed = .returned (.bool (planB g m np)) ∧ Ext w w' := by
  unfold in64 at hg hm
  have hE : Ext w (w.alloc (.cells #[.int .i64 g, .int .i64 m, .slice Ap np cp] 26)) := (Ext.refl w).alloc _
  go_enter Try.func16, Try.ntmps16
  go_upto_region 1 with fail
  have HE := Lib.hid hE
  by_cases h1 : 1 ≤ g
  · by_cases h2 : g ≤ 100
    · by_cases h3 : 1 ≤ m
      · by_cases h4 : m ≤ 8
        · by_cases h5 : (np : Int) ≤ 4000
          · have e : planB g m np = true := by rw [planB_iff]; omega
            go_wp2_with fail
            all_goals go_ret
            all_goals exact ⟨ret_bool (by first | rfl | (rw [e]; done) | (rw [e]; simp; omega)), HE.out⟩
          · have e : planB g m np = false := by
              rw [← Bool.not_eq_true, planB_iff]; omega
            have d5 : decide ((np : Int) ≤ 4000) = false := decide_eq_false h5
            go_wp2_with fail
            all_goals go_ret
            all_goals exact ⟨ret_bool (by first | rfl | (rw [e]; done) | (rw [e]; simp; omega)), HE.out⟩
        · have e : planB g m np = false := by rw [← Bool.not_eq_true, planB_iff]; omega
          have d5 : decide (m ≤ 8) = false := decide_eq_false h4
          go_wp2_with fail
          all_goals go_ret
          all_goals exact ⟨ret_bool (by first | rfl | (rw [e]; done) | (rw [e]; simp; omega)), HE.out⟩
      · have e : planB g m np = false := by rw [← Bool.not_eq_true, planB_iff]; omega
        have d5 : decide (1 ≤ m) = false := decide_eq_false h3
        go_wp2_with fail
        all_goals go_ret
        all_goals exact ⟨ret_bool (by first | rfl | (rw [e]; done) | (rw [e]; simp; omega)), HE.out⟩
    · have e : planB g m np = false := by rw [← Bool.not_eq_true, planB_iff]; omega
      have d5 : decide (g ≤ 100) = false := decide_eq_false h2
      go_wp2_with fail
      all_goals go_ret
      all_goals exact ⟨ret_bool (by first | rfl | (rw [e]; done) | (rw [e]; simp; omega)), HE.out⟩
  · have e : planB g m np = false := by rw [← Bool.not_eq_true, planB_iff]; omega
    have d5 : decide (1 ≤ g) = false := decide_eq_false h1
    go_wp2_with fail
    all_goals go_ret
    all_goals exact ⟨ret_bool (by first | rfl | (rw [e]; done) | (rw [e]; simp; omega)), HE.out⟩

theorem fknown_any (op : Int) (w : World) (ho : in64 op) :
    Calls Try.prog 33 #[.int .i64 op] w fun ed w' => ed = .returned (.bool (knownB op)) ∧ w = w' := by
  unfold in64 at ho
  unfold knownB
  go_enter Try.func33, Try.ntmps33
  go_wp2
  all_goals go_ret
  all_goals exact ⟨ret_bool (by simp; try omega), rfl⟩

theorem fby1_any (i : Value) (b y : Nat) (w : World) (hy : w.cell? ⟨b, 0, none⟩ = some (.int .u32 y)) :
    Calls Try.prog 23 #[i, .pointer (some ⟨b, 0, none⟩)] w fun ed w' => ed = .returned (.int .u32 y) ∧ w = w' := by
  go_enter Try.func23, Try.ntmps23
  go_wp2_with fail
  go_ret
  exact ⟨rfl, rfl⟩
theorem fby2_any (i b n c rb ro x : Nat) (w : World) (hi : i < n) (hn : n ≤ 900) (hy : w.cell? ⟨b, 0, none⟩ = some (.slice (some ⟨rb, ro, none⟩) n c)) (hx : w.cell? ⟨rb, ro + i, none⟩ = some (.int .u32 x)) :
    Calls Try.prog 30 #[.int .i64 i, .pointer (some ⟨b, 0, none⟩)] w fun ed w' => ed = .returned (.int .u32 x) ∧ w = w' := by
  have i0 : (0 : Int) ≤ i := by omega
  have i1 : (i : Int) < n := by omega
  have i2 : (n : Int) ≤ 900 := by omega
  go_enter Try.func30, Try.ntmps30
  go_wp2_with fail
  go_ret
  exact ⟨rfl, rfl⟩

set_option maxHeartbeats 1600000 in
set_option maxRecDepth 100000 in
theorem fone_any (x : Nat) (op : Int) (y : Nat) (w : World) (hx : x < 4294967296) (hy : y < 4294967296) (ho : in64 op) :
    Calls Try.prog 12 #[.int .u32 x, .int .i64 op, .int .u32 y] w fun ed w' => ed = .returned (.int .u32 (oneP x op y : Nat)) ∧ w = w' := by
  have hx1 : (x : Int) < 4294967296 := by omega
  have hy1 : (y : Int) < 4294967296 := by omega
  have hx0 : (0 : Int) ≤ x := by omega
  have hy0 : (0 : Int) ≤ y := by omega
  have HXY := Lib.hid (And.intro hx hy)
  clear hx hy
  unfold in64 at ho
  by_cases h1 : op = 1
  · subst h1
    have e : oneP x 1 y = (x + y) % 4294967296 := rfl
    rw [e]
    clear e
    go_enter Try.func12, Try.ntmps12
    go_wp2_with fail
    all_goals go_ret
    all_goals exact ⟨ret_int (by omega), rfl⟩
  by_cases h6 : op = 6
  · subst h6
    by_cases hxy : y < x
    · have e : oneP x 6 y = 1 := by show (if y < x then 1 else 0) = 1; rw [if_pos hxy]
      have hxy' : (y : Int) < x := by omega
      rw [e]
      clear e h1 ho
      go_enter Try.func12, Try.ntmps12
      go_wp2_with fail
      all_goals go_ret
      all_goals exact ⟨ret_int rfl, rfl⟩
    · have e : oneP x 6 y = 0 := by show (if y < x then 1 else 0) = 0; rw [if_neg hxy]
      have hxy' : ¬ (y : Int) < x := by omega
      rw [e]
      clear e h1 ho
      go_enter Try.func12, Try.ntmps12
      go_wp2_with fail
      all_goals go_ret
      all_goals exact ⟨ret_int rfl, rfl⟩
  by_cases h3 : op = 3
  · subst h3
    have e : oneP x 3 y = x * 2 ^ (y % 32) % 4294967296 := rfl
    rw [e]
    clear e
    obtain ⟨k, hk⟩ : ∃ k, y % 32 = k := ⟨_, rfl⟩
    have hk1 : (y : Int) % 32 = k := by omega
    have hk2 : k < 32 := by omega
    have hk3 : (k : Int) < 32 := by omega
    have hk0 : (0 : Int) ≤ k := by omega
    rw [hk]
    go_enter Try.func12, Try.ntmps12
    go_wp2_with fail
    all_goals go_ret
    all_goals exact ⟨ret_int (by simp), rfl⟩
  by_cases h4 : op = 4
  · subst h4
    have e : oneP x 4 y = x / 2 ^ (y % 32) := rfl
    rw [e]
    clear e
    obtain ⟨k, hk⟩ : ∃ k, y % 32 = k := ⟨_, rfl⟩
    have hk1 : (y : Int) % 32 = k := by omega
    have hk2 : k < 32 := by omega
    have hk3 : (k : Int) < 32 := by omega
    have hk0 : (0 : Int) ≤ k := by omega
    rw [hk]
    go_enter Try.func12, Try.ntmps12
    go_wp2_with fail
    all_goals go_ret
    all_goals exact ⟨ret_int (by simp), rfl⟩
  by_cases h2 : op = 2
  · subst h2
    have e : oneP x 2 y = x ^^^ y := rfl
    rw [e]
    clear e
    have h9 := u32_xor_nat x y HXY.out.1 HXY.out.2
    go_enter Try.func12, Try.ntmps12
    go_wp2_with fail
    all_goals go_ret
    all_goals exact ⟨ret_int (by first | rfl | exact h9 | simp), rfl⟩
  by_cases h5 : op = 5
  · subst h5
    have e : oneP x 5 y = x &&& y := rfl
    rw [e]
    clear e
    have h9 := u32_and_nat x y HXY.out.1 HXY.out.2
    go_enter Try.func12, Try.ntmps12
    go_wp2_with fail
    all_goals go_ret
    all_goals exact ⟨ret_int (by first | rfl | exact h9 | simp), rfl⟩
  have e : oneP x op y = 0 := by unfold oneP; rw [if_neg h1, if_neg h2, if_neg h3, if_neg h4, if_neg h5, if_neg h6]
  rw [e]
  have b1 : (op == 1) = false := by simp [h1]
  have b2 : (op == 2) = false := by simp [h2]
  have b3 : (op == 3) = false := by simp [h3]
  have b4 : (op == 4) = false := by simp [h4]
  have b5 : (op == 5) = false := by simp [h5]
  have b6 : (op == 6) = false := by simp [h6]
  clear e h1 h2 h3 h4 h5 h6
  go_enter Try.func12, Try.ntmps12
  go_wp2_with fail
  all_goals go_ret
  all_goals exact ⟨ret_int rfl, rfl⟩
end Go.Proofs.Ytjabahfkgaamdaa

/- The program's Order of a plan's units (fill). -/
namespace Go.Proofs.Ytjabahfkgaamdaa
open Go.BigFrame
open Go.RowKit Go.Proofs.Ytjabahfkgaamdaa.Plain

/-- make([]T, 0, n) -/
theorem Kd.makeCap {α : Type} (K : Kd α) (n : Nat) (hn : n ≤ 1048576) :
    ∃ C : Array Value, (∀ w : World, (Instr.makeSlice K.t (.int .i64 0) (.int .i64 n)).run Try.prog w = .ok (.slice (some ⟨w.heap.size, 0, none⟩) 0 n) (w.alloc (.cells C K.e))) ∧
      ∀ (w : World) (B p : Nat), p = w.heap.size → B ≤ p → Ow K B (w.alloc (.cells C K.e)) (.slice (some ⟨p, 0, none⟩) 0 n) [] := by
  refine ⟨madeCells K.z.cells (n * K.n), fun w => ?_, fun w B p hp hB => ?_⟩
  · obtain ⟨i0, hi, hz0, hz1, hz2⟩ := info_parts K.info
    have hsm := K.small
    have hb : K.bytes * n ≤ 256 * 1048576 := Nat.mul_le_mul hsm hn
    have h := run_make (P := Try.prog) w K.t K.e i0 K.z K.ht hi hz0 .i64 .i64 0 n (by omega) (by omega) (by rw [hz2, ← Int.natCast_mul]; omega) (by omega)
    simp only [Int.toNat_natCast, hz1] at h
    exact h
  · subst hp
    exact ⟨World.ownsRow_made w _ n hB (by unfold maxLen; omega) (size_madeCells _ _), by simp⟩

/-- a list of one's own stays, where one of another kind grows -/
theorem Ow.beside {α β : Type} {K : Kd α} {K' : Kd β} {B B' : Nat} {w w' : World} {v u : Value} {xs : List α} {ys : List β} (h : Ow K B w v xs) (h' : Ow K' B' w u ys) (hne : K.e ≠ K'.e) (hg : w.grownBy w' u.ownBlock) : Ow K B w' v xs :=
  h.kept hg (by
    cases hv : v.ownBlock with
    | none => exact .inl rfl
    | some k => exact .inr fun e => Ow.far hne h h' k hv e.symm)
set_option maxHeartbeats 1600000 in
set_option maxRecDepth 100000 in
theorem forder_any (n : Nat) (g m : Int) (Ap : Option Addr) (cp : Nat) (picks : List (Int × Int)) (w : World) (hp : Rd kPk w (.slice Ap picks.length cp) picks) (n2 : n ≤ 900) (hg : in64 g) (hm : in64 m) :
    Calls Try.prog 10 #[.int .i64 n, planV g m Ap picks.length cp] w (OrdSaid (ordP n g m picks) w) := by
  have HP := Lib.hid hp
  have HL : Hid (picks.length ≤ 9223372036854775807) := Lib.hid hp.len
  have HGM := Lib.hid (And.intro hg hm)
  have n3 : (n : Int) ≤ 900 := by omega
  have n0 : (0 : Int) ≤ n := by omega
  clear hp hg hm
  go_enter Try.func10, Try.ntmps10
  go_wp2_with fail
  refine (fright7_any g m Ap picks.length cp _ HGM.out.1 HGM.out.2 HL.out).mono ?_
  rintro ed w1 ⟨rfl, hE1⟩
  have hb := block_keep (heap_alloc_new w (.cells #[.int .i64 g, .int .i64 m, .slice Ap picks.length cp] 26)) hE1
  have HB := Lib.hid hb
  have HX1 := Lib.hid (((Ext.refl w).alloc _).trans hE1)
  have q0 : w1.cell? ⟨w.heap.size, 0, none⟩ = some (.int .i64 g) := (cell_of_row w1 w.heap.size 0 _ _ _ hb).trans rfl
  have q1 : w1.cell? ⟨w.heap.size, 1, none⟩ = some (.int .i64 m) := (cell_of_row w1 w.heap.size 1 _ _ _ hb).trans rfl
  have q2 : w1.cell? ⟨w.heap.size, 2, none⟩ = some (.slice Ap picks.length cp) := (cell_of_row w1 w.heap.size 2 _ _ _ hb).trans rfl
  clear hb hE1
  cases hok : planB g m picks.length with
  | false =>
    have e : ordP n g m picks = ([], 0, 1) := by unfold ordP; rw [if_pos hok]
    have HEE := Lib.hid e
    clear e hok
    go_wp2_with fail
    exact bodyPost_ret (v := .tuple #[.slice none 0 0, .int .i64 0, .int .i64 1]) (by simp [results, Try.results10, go_sem]) rfl (by rw [HEE.out]; exact ⟨none, 0, rfl, Ow.nil _ _, HX1.out⟩)
  | true =>
    obtain ⟨p1, p2, p3, p4, p5⟩ := (planB_iff _ _ _).1 hok
    obtain ⟨G, rfl⟩ : ∃ G : Nat, g = G := ⟨g.toNat, by omega⟩
    obtain ⟨M, rfl⟩ : ∃ M : Nat, m = M := ⟨m.toNat, by omega⟩
    by_cases hz : n = 0
    · subst hz
      have e : ordP 0 G M picks = ([], 0, 0) := by unfold ordP; rw [if_neg (by rw [hok]; decide), if_pos rfl]
      have HEE := Lib.hid e
      clear e hok
      go_wp2_with fail
      exact bodyPost_ret (v := .tuple #[.slice none 0 0, .int .i64 0, .int .i64 0]) (by simp [results, Try.results10, go_sem]) rfl (by rw [HEE.out]; exact ⟨none, 0, rfl, Ow.nil _ _, HX1.out⟩)
    · have e : ordP n G M picks = (orderL (wholeP G n M picks).1.ts (wholeP G n M picks).2, (wholeP G n M picks).2.length, 0) := by unfold ordP; rw [if_neg (by rw [hok]; decide), if_neg hz]; rfl
      have hne : ((n : Int) == 0) = false := by simp; omega
      obtain ⟨we1, we2, we3, we4⟩ := whole_ends (g := G) (n := n) (m := M) (by omega) (by omega) (by omega) picks
      have hto := wholeP_told G n M picks
      have hin := we2.ins
      obtain ⟨dn, hI⟩ := we2.inv
      have hcn := (hI.counts (by omega) (by omega)).2.2.1
      have hevl : (wholeP G n M picks).2.length ≤ 60000 := by
        have h2 : M * (cntT n G + 1) ≤ 8 * 1801 := Nat.mul_le_mul (by omega) (by omega)
        omega
      have hbd : ∀ k, k < (wholeP G n M picks).1.ts.length → 0 ≤ (T (wholeP G n M picks).1.ts k).lo ∧ (T (wholeP G n M picks).1.ts k).lo ≤ (T (wholeP G n M picks).1.ts k).hi ∧ (T (wholeP G n M picks).1.ts k).hi ≤ n := fun k hk => by
        have ht := (CrI.inv hI).task k hk
        omega
      have hol : (orderL (wholeP G n M picks).1.ts (wholeP G n M picks).2).length = n := by rw [we4.length_eq, List.length_range]
      obtain ⟨⟨c, evs⟩, hW⟩ : ∃ x, wholeP G n M picks = x := ⟨_, rfl⟩
      rw [hW] at hin hevl hbd hol e hto
      simp only at hin hevl hbd hol e hto
      rw [order_leaves] at hol e
      have hsb : ∀ x ∈ leavesL c.ts evs, 0 ≤ x.1 ∧ x.1 ≤ x.2 ∧ x.2 ≤ n := leavesL_bd hbd hin
      have hsl : (leavesL c.ts evs).length ≤ 60000 := Nat.le_trans (leavesL_len _ _) hevl
      have HEE := Lib.hid e
      have HOL := Lib.hid hol
      have HSB := Lib.hid hsb
      have HIN := Lib.hid hin
      have HTO := Lib.hid hto
      have HEV := Lib.hid hevl
      have HSL := Lib.hid hsl
      have HWW := Lib.hid hW
      have hGn : (0 : Int) ≤ G := by omega
      obtain ⟨C, hmk, hmown⟩ := kInt.makeCap n (by omega)
      have HMK := Lib.hid hmown
      have hmk2 : ∀ w : World, (Instr.makeSlice 32 (.int .i64 0) (.int .i64 n)).run Try.prog w = .ok (.slice (some ⟨w.heap.size, 0, none⟩) 0 n) (w.alloc (.cells C 3)) := hmk
      clear e hok we1 we2 we3 we4 hI hcn hW hin hevl hbd hol hsb hsl hto hmk hmown
      go_wp2_with fail
      refine (dwhole_any n G M Ap cp picks w1 (HP.out.ext HX1.out) (by omega) n2 (by omega) (by omega) (by omega) (by omega) p5).mono ?_
      rw [HWW.out]
      rintro ed w2 ⟨A1, B1, L1, e0, o1, a1, b1, e1, l1, hme, rfl, hC, hO, hE2⟩
      simp only at hC hO ⊢
      have HC := Lib.hid hC
      have HO := Lib.hid hO
      have HX2 := Lib.hid (HX1.out.trans hE2)
      clear hC hO hE2 q0 q1 q2
      go_wp2_with fail
      refine (dleaves_any A1 B1 L1 e0 o1 a1 b1 e1 G M l1 c evs _ (HC.out.ext (((Ext.refl _).alloc _).alloc _)) (HO.out.rd.ext (((Ext.refl _).alloc _).alloc _)) (by have := HEV.out; omega) HIN.out HTO.out).mono ?_
      rintro ed w3 ⟨vs, rfl, hS, hE3⟩
      obtain ⟨S, hSS⟩ : ∃ S, leavesL c.ts evs = S := ⟨_, rfl⟩
      rw [hSS] at hS HEE HOL HSB HSL
      obtain ⟨Ls, ls, hv, hls⟩ := hS.slice
      subst hv
      have hz2 := HX2.out.size
      have hz3 := hE3.size
      simp at hz3
      have HS := Lib.hid (hS.mono (B' := w2.heap.size) (by simp; omega))
      have HM := Lib.hid ((HMK.out _ w2.heap.size (w2.heap.size + 1) (by simp) (by omega)).ext hE3)
      have HX3 := Lib.hid (((Ext.refl w2).alloc _).alloc _ |>.trans hE3)
      have hsl' : (S.length : Int) ≤ 60000 := by have := HSL.out; omega
      obtain ⟨G2, hG2⟩ : ∃ G2, w2.heap.size = G2 := ⟨_, rfl⟩
      rw [hG2] at HS HM hz2 hz3
      have HG2 := Lib.hid hG2
      clear hS hE3 hls hmk2 hSS
      go_wp2_with fail
      try rw [hG2]
      clear hG2
      go_loopw [10, 48] (fun v i wr => ∃ j : Nat, j ≤ S.length ∧ i = .int .i64 j ∧ Ow kInt G2 wr v (zs ((S.take j).flatMap rngS)) ∧ Ext w2 wr ∧ Ow kSpan G2 wr (.slice Ls S.length ls) S) (fun _ i _ => S.length - (intOf i).toNat)
      case atStart => exact ⟨0, Nat.zero_le _, rfl, HM.out, HX3.out, HS.out⟩
      case round =>
        obtain ⟨j, hj, rfl, hO, hX, hSr⟩ := hrel
        have HO5 := Lib.hid hO
        have HX5 := Lib.hid hX
        have HS5 := Lib.hid hSr
        have hj0 : (0 : Int) ≤ j := by omega
        clear hO hX hSr
        by_cases hlt : j < S.length
        · have hlt' : (j : Int) < S.length := by omega
          obtain ⟨bs, os, rfl, hcs⟩ := Rd.spans HS5.out.rd (by omega)
          obtain ⟨z0, z1⟩ := hcs j hlt
          have hmem : S.getD j (0, 0) ∈ S := by rw [List.getD_eq_getElem?_getD, List.getElem?_eq_getElem hlt]; exact List.getElem_mem hlt
          obtain ⟨fl1, fl2⟩ := flat_split S rngS j hlt
          obtain ⟨b1', b2', b3'⟩ := HSB.out _ hmem
          obtain ⟨⟨lo, hi⟩, hlh⟩ : ∃ x, S.getD j (0, 0) = x := ⟨_, rfl⟩
          rw [hlh] at z0 z1 fl1 fl2 b1' b2' b3'
          simp only at z0 z1 b1' b2' b3'
          obtain ⟨Lo, rfl⟩ : ∃ x : Nat, lo = x := ⟨lo.toNat, by omega⟩
          obtain ⟨Hi, rfl⟩ : ∃ x : Nat, hi = x := ⟨hi.toNat, by omega⟩
          have hpre : ((S.take j).flatMap rngS).length + (Hi - Lo) ≤ 900 := by
            have h9 := HOL.out
            change (S.flatMap rngS).length = n at h9
            have e9 : (rngS ((Lo : Int), (Hi : Int))).length = Hi - Lo := by simp [rngS]
            omega
          have HFL := Lib.hid fl2
          have HPRE := Lib.hid hpre
          have hll : Lo ≤ Hi := by omega
          have hhi : (Hi : Int) ≤ 900 := by omega
          have hzr := HX5.out.size
          rw [HG2.out] at hzr
          have HB5 : Hid (Ow kSpan G2 (wr.alloc (.cells #[.int .i64 Lo, .int .i64 Hi] 64)) (.slice (some ⟨wr.heap.size, 0, none⟩) 1 1) [((Lo : Int), (Hi : Int))]) := Lib.hid (Ow.lit (K := kSpan) (p := wr.heap.size) (n := 1) wr [((Lo : Int), (Hi : Int))] #[.int .i64 Lo, .int .i64 Hi] rfl rfl rfl hzr (by simp [maxLen]) (by intro x hx; simp only [List.mem_singleton] at hx; subst hx; exact ⟨in64_nat Lo (by omega), in64_nat Hi (by omega)⟩))
          have HO5' := Lib.hid (HO5.out.ext ((Ext.refl wr).alloc (.cells #[.int .i64 Lo, .int .i64 Hi] 64)))
          have HS5' := Lib.hid (HS5.out.ext ((Ext.refl wr).alloc (.cells #[.int .i64 Lo, .int .i64 Hi] 64)))
          have HX5' := Lib.hid (HX5.out.alloc (.cells #[.int .i64 Lo, .int .i64 Hi] 64))
          obtain ⟨lb, hlb⟩ : ∃ lb, wr.heap.size = lb := ⟨_, rfl⟩
          rw [hlb] at HB5
          clear hcs hmem fl1 fl2 hlh hpre HO5 HS5 HX5
          go_wp2_with fail
          try rw [hlb]
          clear hlb
          go_loopw [10, 13] (fun v i wr' => ∃ u : Nat, Lo ≤ u ∧ u ≤ Hi ∧ i = .int .i64 u ∧ Ow kInt G2 wr' v (zs ((S.take j).flatMap rngS ++ List.range' Lo (u - Lo))) ∧ Ext w2 wr' ∧ Ow kSpan G2 wr' (.slice (some ⟨bs, os, none⟩) S.length ls) S ∧ Ow kSpan G2 wr' (.slice (some ⟨lb, 0, none⟩) 1 1) [((Lo : Int), (Hi : Int))]) (fun _ i _ => Hi - (intOf i).toNat)
          case atStart => exact ⟨Lo, Nat.le_refl _, hll, rfl, by simpa using HO5'.out, HX5'.out, HS5'.out, HB5.out⟩
          case round =>
            obtain ⟨u, hu1, hu2, rfl, hO, hX, hSS, hBB⟩ := hrel
            have z1 : wr.cell? ⟨lb, 1, none⟩ = some (.int .i64 Hi) := by
              obtain ⟨g9, e9, _, _, h9, _⟩ := hBB.pos (by simp)
              cases e9
              simpa using h9 0 (by simp) 1 (.int .i64 Hi) rfl
            have HO6 := Lib.hid hO
            have HX6 := Lib.hid hX
            have HS6 := Lib.hid hSS
            have HB6 := Lib.hid hBB
            have hu0 : (0 : Int) ≤ u := by omega
            clear hO hX hSS hBB
            by_cases hul : u < Hi
            · have hul' : (u : Int) < Hi := by omega
              have HY : ∀ w6 : World, Rd kInt (w6.alloc (.cells #[.int .i64 u] 3)) (.slice (some ⟨w6.heap.size, 0, none⟩) 1 1) [(u : Int)] := fun w6 => Ow.rd (K := kInt) (B := 0) (Ow.lit (K := kInt) (p := w6.heap.size) (n := 1) w6 [(u : Int)] #[.int .i64 u] rfl rfl rfl (Nat.zero_le _) (by simp [maxLen]) (by intro x hx; simp only [List.mem_singleton] at hx; subst hx; exact in64_nat u (by omega)))
              have HYY := Lib.hid HY
              have HLL : Hid ((zs ((S.take j).flatMap rngS ++ List.range' Lo (u - Lo))).length + [(u : Int)].length ≤ 1048576) := Lib.hid (by have := HPRE.out; rw [zs_len, List.length_append, List.length_range', List.length_singleton]; omega)
              have hz6 := HX6.out.size
              rw [HG2.out] at hz6
              clear HY
              go_wp2_with (at_builtin; refine kInt.wpList_app (by rfl) (.tmp 60) (.tmp 62) (by rfl) (by rfl) G2 _ (zs ((S.take j).flatMap rngS ++ List.range' Lo (u - Lo))) (by rfl) (HO6.out.ext ((Ext.refl _).alloc _)) _ [(u : Int)] (by rfl) (HYY.out _) HLL.out (by simp; omega) ?_; intro v' w8 hown8 hgrow8 hat8)
              have H8 := Lib.hid (And.intro hown8 (And.intro hgrow8 hat8))
              clear hown8 hgrow8 hat8
              go_roundw
              case rel =>
                obtain ⟨hown8, hgrow8, hat8⟩ := H8.out
                have hsi : kSpan.e ≠ kInt.e := by decide
                refine ⟨u + 1, by omega, by omega, by go_num, ?_, ?_, ?_, ?_⟩
                · rw [show u + 1 - Lo = (u - Lo) + 1 by omega, List.range'_1_concat, show Lo + (u - Lo) = u by omega, ← List.append_assoc, zs_app]
                  exact hown8
                · exact Ext.grown (HX6.out.alloc _) hgrow8 (fun x hx => by rw [HG2.out]; exact (HO6.out.lt x hx).1)
                · exact (HS6.out.ext ((Ext.refl _).alloc _)).beside (HO6.out.ext ((Ext.refl _).alloc _)) hsi hgrow8
                · exact (HB6.out.ext ((Ext.refl _).alloc _)).beside (HO6.out.ext ((Ext.refl _).alloc _)) hsi hgrow8
              case measure => simp [intOf]; omega
            · obtain rfl : u = Hi := by omega
              go_wp2_with fail
              go_roundw
              case rel => exact ⟨j + 1, by omega, by go_num, by rw [HFL.out]; exact HO6.out, HX6.out, HS6.out⟩
              case measure => simp [intOf]; omega
        · obtain rfl : j = S.length := by omega
          rw [List.take_length] at HO5
          have HXX := Lib.hid (HX2.out.trans HX5.out)
          obtain ⟨Lz, lz, hv, hlz⟩ := HO5.out.slice
          subst hv
          go_wp2_with fail
          refine bodyPost_ret (v := .tuple #[.slice Lz (zs (S.flatMap rngS)).length lz, .int .i64 evs.length, .int .i64 0]) (by simp [results, Try.results10, go_sem]) rfl (by rw [HEE.out]; exact ⟨Lz, lz, by rw [zs_len], by have := HO5.out.mono (B' := w.heap.size) (by omega); rw [zs_len] at this; exact this, HXX.out⟩)
end Go.Proofs.Ytjabahfkgaamdaa

/- The document's Count. -/
namespace Go.Proofs.Ytjabahfkgaamdaa
open Go.RowKit Go.Proofs.Ytjabahfkgaamdaa.Plain

def CountSaid (w : World) (n g : Int) (e : Ending) (w' : World) : Prop := e = .returned (.tuple #[.int .i64 (countT n g), .int .i64 (countL n g)]) ∧ w = w'

set_option maxRecDepth 100000 in
theorem rcount_no (n g : Int) (w : World) (hn : -9223372036854775808 ≤ n ∧ n ≤ 9223372036854775807) (hg : -9223372036854775808 ≤ g ∧ g ≤ 9223372036854775807) (h : n < 1 ∨ 1000 < n ∨ g < 1 ∨ 100 < g) :
    Calls Try.prog 32 #[.int .i64 n, .int .i64 g] w (CountSaid w n g) := by
  have HC := Lib.hid (count_no n g h)
  go_enter Try.func32, Try.ntmps32
  go_wp2_with fail
  all_goals first
    | (exfalso; omega)
    | (go_ret2; exact ⟨by rw [HC.out.1, HC.out.2]; rfl, rfl⟩)

set_option maxHeartbeats 400000 in
set_option maxRecDepth 100000 in
theorem rcount_yes (g : Nat) (h3 : 1 ≤ g) (h4 : g ≤ 100) : ∀ (f n : Nat) (w : World), n ≤ f → 1 ≤ n → n ≤ 1000 →
    Calls Try.prog 32 #[.int .i64 n, .int .i64 g] w (CountSaid w n g) := by
  intro f
  induction f with
  | zero => intro n w hf h1 _; omega
  | succ f ih =>
    intro n w hf h1 h2
    obtain ⟨e1, e2, _, _⟩ := count_ok n g h1 h2 h3 h4
    have E := Lib.hid (And.intro e1 e2)
    have i1 : (1 : Int) ≤ n := by omega
    have i2 : (n : Int) ≤ 1000 := by omega
    have i3 : (1 : Int) ≤ g := by omega
    have i4 : (g : Int) ≤ 100 := by omega
    clear e1 e2
    by_cases hn : n ≤ g
    · have C := Lib.hid (cnt_one n g hn)
      have hn' : (n : Int) ≤ g := by omega
      clear hn
      go_enter Try.func32, Try.ntmps32
      go_wp2_with fail
      go_ret2
      exact ⟨by rw [E.out.1, E.out.2, C.out.1, C.out.2]; rfl, rfl⟩
    · have C := Lib.hid (cnt_more n g h3 (by omega))
      have hn' : (g : Int) < n := by omega
      obtain ⟨a, ha⟩ : ∃ a : Nat, n / 2 = a := ⟨_, rfl⟩
      obtain ⟨b, hb⟩ : ∃ b : Nat, n - n / 2 = b := ⟨_, rfl⟩
      have ha' : (n : Int) / 2 = a := by omega
      have hb' : (n : Int) - (a : Int) = b := by omega
      obtain ⟨A1, A2, A3, A4⟩ := count_ok a g (by omega) (by omega) h3 h4
      obtain ⟨B1, B2, B3, B4⟩ := count_ok b g (by omega) (by omega) h3 h4
      have IA : ∀ w, Calls Try.prog 32 #[.int .i64 a, .int .i64 g] w fun e w' => e = .returned (.tuple #[.int .i64 (cntT a g), .int .i64 (cntL a g)]) ∧ w = w' := fun w =>
        (ih a w (by omega) (by omega) (by omega)).mono fun e w' h => by unfold CountSaid at h; rw [A1, A2] at h; exact h
      have IB : ∀ w, Calls Try.prog 32 #[.int .i64 b, .int .i64 g] w fun e w' => e = .returned (.tuple #[.int .i64 (cntT b g), .int .i64 (cntL b g)]) ∧ w = w' := fun w =>
        (ih b w (by omega) (by omega) (by omega)).mono fun e w' h => by unfold CountSaid at h; rw [B1, B2] at h; exact h
      have HC : Hid (cntT n g = cntT a g + cntT b g + 1 ∧ cntL n g = cntL a g + cntL b g) := Lib.hid (by rw [← hb, ← ha]; exact C.out)
      generalize cntT a g = ta at *
      generalize cntL a g = la at *
      generalize cntT b g = tb at *
      generalize cntL b g = lb at *
      have HA := Lib.hid IA
      have HB := Lib.hid IB
      clear ih IA IB A1 A2 B1 B2 C ha hb hn
      go_enter Try.func32, Try.ntmps32
      go_wp2_with fail
      refine (HA.out _).mono ?_
      rintro e w1 ⟨rfl, rfl⟩
      go_wp2_with fail
      refine (HB.out _).mono ?_
      rintro e w2 ⟨rfl, rfl⟩
      go_wp2_with fail
      go_ret2
      exact ⟨by rw [E.out.1, E.out.2, HC.out.1, HC.out.2]; first | rfl | go_num | (simp; done), rfl⟩

theorem rcount_any (n g : Int) (w : World) (hn : -9223372036854775808 ≤ n ∧ n ≤ 9223372036854775807) (hg : -9223372036854775808 ≤ g ∧ g ≤ 9223372036854775807) :
    Calls Try.prog 32 #[.int .i64 n, .int .i64 g] w (CountSaid w n g) := by
  by_cases h : n < 1 ∨ 1000 < n ∨ g < 1 ∨ 100 < g
  · exact rcount_no n g w hn hg h
  · obtain ⟨a, rfl⟩ : ∃ a : Nat, n = a := ⟨n.toNat, by omega⟩
    obtain ⟨b, rfl⟩ : ∃ b : Nat, g = b := ⟨g.toNat, by omega⟩
    exact rcount_yes b (by omega) (by omega) a a w (Nat.le_refl _) (by omega) (by omega)
end Go.Proofs.Ytjabahfkgaamdaa

/- The document's Bound (ref06) and Once (ref07). -/
namespace Go.Proofs.Ytjabahfkgaamdaa
open Go.BigFrame
open Go.RowKit Go.Proofs.Ytjabahfkgaamdaa.Plain

set_option maxHeartbeats 800000 in
set_option maxRecDepth 100000 in
theorem rbound_any (n g m : Nat) (w : World) (n1 : 1 ≤ n) (n2 : n ≤ 1000) (g1 : 1 ≤ g) (g2 : g ≤ 100) (m1 : 1 ≤ m) (m2 : m ≤ 8) :
    Calls Try.prog 20 #[.int .i64 n, .int .i64 g, .int .i64 m] w fun ed w' => ed = .returned (.int .i64 ((m * (cntT n g + 1) : Nat) : Int)) ∧ Ext w w' := by
  obtain ⟨c1, _, c3, _⟩ := count_ok n g n1 n2 g1 g2
  obtain ⟨C, hC⟩ : ∃ C, cntT n g = C := ⟨_, rfl⟩
  rw [hC] at c1 c3
  have HC := Lib.hid hC
  have HCT := Lib.hid c1
  have hm : m * (C + 1) ≤ 8 * 2001 := Nat.mul_le_mul m2 (by omega)
  have HM : Hid (wrap64 ((m : Int) * ((C : Int) + 1)) = ((m * (C + 1) : Nat) : Int)) := Lib.hid (by
    have e : (m : Int) * ((C : Int) + 1) = ((m * (C + 1) : Nat) : Int) := by simp
    rw [e]; exact IntWalk.wrap64_in _ (by omega))
  have hc0 : (0 : Int) ≤ C := by omega
  have hc1 : (C : Int) ≤ 2000 := by omega
  rw [hC]
  clear c1 hC hm
  go_enter Try.func20, Try.ntmps20
  go_wp2_with fail
  refine (rbegin5_any n g m _ n1 n2 g1 g2 m1 m2).mono ?_
  rintro ed w1 ⟨A, B, e0, a, b, rfl, hC, hE⟩
  have HE := Lib.hid hE
  clear hE hC
  go_wp2_with fail
  refine (rcount_any n g _ (by omega) (by omega)).mono ?_
  rintro ed w2 ⟨rfl, rfl⟩
  rw [HCT.out]
  go_wp2_with fail
  go_ret
  refine ⟨ret_int ?_, HE.out.alloc _⟩
  have h9 := HM.out
  exact h9

/-- numbers from 0 on, by a rule -/
def Plain.byL (n : Nat) (f : Nat → Int) : List Int := (List.range n).map f
theorem Plain.byL_len (n : Nat) (f : Nat → Int) : (byL n f).length = n := by simp [byL]
theorem Plain.byL_getD (n : Nat) (f : Nat → Int) (j : Nat) (hj : j < n) : (byL n f).getD j 0 = f j := by
  unfold byL
  rw [List.getD_eq_getElem?_getD, List.getElem?_map, List.getElem?_range hj]; rfl
theorem Plain.byL_set (n : Nat) (f : Nat → Int) (j : Nat) (v : Int) : (byL n f).set j v = byL n (fun u => if u = j then v else f u) := by
  unfold byL
  apply List.ext_getElem?
  intro i
  rw [List.getElem?_set, List.getElem?_map, List.getElem?_map]
  by_cases hi : i < n
  · rw [List.getElem?_range hi]
    by_cases hij : j = i
    · subst hij
      rw [if_pos rfl, if_pos (by simpa using hi)]
      simp
    · rw [if_neg hij]
      simp [Ne.symm hij]
  · rw [List.getElem?_eq_none (by simpa using hi)]
    by_cases hij : j = i
    · subst hij
      rw [if_pos rfl, if_neg (by simpa using hi)]; simp
    · rw [if_neg hij]; simp
theorem Plain.byL_congr (n : Nat) (f h : Nat → Int) (e : ∀ u, u < n → f u = h u) : byL n f = byL n h := List.map_congr_left fun u hu => e u (List.mem_range.1 hu)
theorem Plain.byL_zs (n : Nat) : byL n (fun u => (u : Int)) = zs (List.range n) := rfl
theorem Plain.byL_zero (n : Nat) : byL n (fun _ => 0) = List.replicate n 0 := by simp [byL, List.map_const']

set_option maxHeartbeats 1600000 in
set_option maxRecDepth 100000 in
theorem ronce_any (n : Nat) (l : List Nat) (L : Option Addr) (lc : Nat) (w : World) (hl : Rd kInt w (.slice L l.length lc) (zs l)) (hp : l.Perm (List.range n)) (hn : n ≤ 1000) :
    Calls Try.prog 21 #[.slice L l.length lc, .int .i64 n] w fun ed w' => ed = .returned (.bool true) ∧ Ext w w' := by
  have hlen : l.length = n := by rw [hp.length_eq, List.length_range]
  have hmem : ∀ u, u ∈ l ↔ u < n := fun u => by rw [hp.mem_iff, List.mem_range]
  have HL := Lib.hid hl
  have HLN := Lib.hid hlen
  have HME := Lib.hid hmem
  have hn0 : (0 : Int) ≤ n := by omega
  have hn1 : (n : Int) ≤ 1000 := by omega
  obtain ⟨C, hmk, hmown⟩ := kInt.make 0 rfl (in64_nat 0 (by omega)) n (by omega)
  have HMK := Lib.hid hmown
  have hmk2 : ∀ w : World, (Instr.makeSlice 32 (.int .i64 n) (.int .i64 n)).run Try.prog w = .ok (.slice (some ⟨w.heap.size, 0, none⟩) n n) (w.alloc (.cells C 3)) := hmk
  clear hl hlen hmem hmk hmown hp
  go_enter Try.func21, Try.ntmps21
  go_wp2_with fail
  go_loopw [5, 6] (fun v i wr => ∃ k : Nat, k ≤ n ∧ i = .int .i64 k ∧ Ow kInt w.heap.size wr v (zs (List.range k)) ∧ Ext w wr) (fun _ i _ => n - (intOf i).toNat)
  case atStart => exact ⟨0, Nat.zero_le _, rfl, Ow.nil _ _, Ext.refl _⟩
  case round =>
    obtain ⟨k, hk, rfl, hO, hX⟩ := hrel
    have HO := Lib.hid hO
    have HX := Lib.hid hX
    have hk0 : (0 : Int) ≤ k := by omega
    clear hO hX
    by_cases hlt : k < n
    · have hlt' : (k : Int) < n := by omega
      have HY : ∀ w6 : World, Rd kInt (w6.alloc (.cells #[.int .i64 k] 3)) (.slice (some ⟨w6.heap.size, 0, none⟩) 1 1) [(k : Int)] := fun w6 => Ow.rd (K := kInt) (B := 0) (Ow.lit (K := kInt) (p := w6.heap.size) (n := 1) w6 [(k : Int)] #[.int .i64 k] rfl rfl rfl (Nat.zero_le _) (by simp [maxLen]) (by intro x hx; simp only [List.mem_singleton] at hx; subst hx; exact in64_nat k (by omega)))
      have HYY := Lib.hid HY
      have HLL : Hid ((zs (List.range k)).length + [(k : Int)].length ≤ 1048576) := Lib.hid (by rw [zs_len, List.length_range, List.length_singleton]; omega)
      have hz6 := HX.out.size
      clear HY
      go_wp2_with (at_builtin; refine kInt.wpList_app (by rfl) (.tmp 15) (.tmp 17) (by rfl) (by rfl) w.heap.size _ (zs (List.range k)) (by rfl) (HO.out.ext ((Ext.refl _).alloc _)) _ [(k : Int)] (by rfl) (HYY.out _) HLL.out (by simp; omega) ?_; intro v' w8 hown8 hgrow8 hat8)
      have H8 := Lib.hid (And.intro hown8 (And.intro hgrow8 hat8))
      clear hown8 hgrow8 hat8
      go_roundw
      case rel =>
        obtain ⟨hown8, hgrow8, hat8⟩ := H8.out
        exact ⟨k + 1, by omega, by go_num, by rw [List.range_succ, zs_app]; exact hown8, Ext.grown (HX.out.alloc _) hgrow8 (fun q hq => (HO.out.lt q hq).1)⟩
      case measure => simp [intOf]; omega
    · obtain rfl : k = n := by omega
      obtain ⟨R, rc, hv, hrc⟩ := HO.out.slice
      subst hv
      rw [zs_len, List.length_range] at HO
      go_wp2_with fail
      have HX3 : Hid (Ext w (wr.alloc (.cells C 3))) := Lib.hid (HX.out.alloc _)
      have HR3 : Hid (Rd kInt (wr.alloc (.cells C 3)) (.slice R k rc) (zs (List.range k))) := Lib.hid (HO.out.rd.ext ((Ext.refl _).alloc _))
      obtain ⟨G, hG⟩ : ∃ G, wr.heap.size = G := ⟨_, rfl⟩
      have HM3 : Hid (Ow kInt G (wr.alloc (.cells C 3)) (.slice (some ⟨G, 0, none⟩) k k) (byL k (fun _ => 0))) := Lib.hid (by rw [byL_zero, ← hG]; exact HMK.out wr wr.heap.size wr.heap.size rfl (Nat.le_refl _))
      have HZ3 : Hid (Ext wr (wr.alloc (.cells C 3))) := Lib.hid ((Ext.refl _).alloc _)
      rw [hG]
      generalize (wr.alloc (.cells C 3)) = w3 at *
      have HGW := Lib.hid hG
      clear hG hmk2
      generalize wr = wa at *
      go_loopw [8] (fun i wq => ∃ j : Nat, j ≤ l.length ∧ i = .int .i64 j ∧ Ow kInt G wq (.slice (some ⟨G, 0, none⟩) k k) (byL k (fun u => if u ∈ l.take j then (u : Int) + 1 else 0)) ∧ Ext wa wq) (fun i _ => l.length - (intOf i).toNat)
      case atStart => exact ⟨0, Nat.zero_le _, rfl, by simpa using HM3.out, HZ3.out⟩
      case round =>
        obtain ⟨j, hj, rfl, hM, hZ⟩ := hrel
        have HM := Lib.hid hM
        have HZ := Lib.hid hZ
        have hj0 : (0 : Int) ≤ j := by omega
        clear hM hZ
        by_cases hlj : j < l.length
        · have hlj' : (j : Int) < l.length := by omega
          obtain ⟨bl, ol, rfl, hcl⟩ := (ints_of_rd (HL.out.ext (HX.out.trans HZ.out))).cells (by rw [zs_len]; omega)
          have z0 := hcl j (by rw [zs_len]; exact hlj)
          rw [zs_getD] at z0
          have hmem : l.getD j 0 ∈ l := by rw [List.getD_eq_getElem?_getD, List.getElem?_eq_getElem hlj]; exact List.getElem_mem hlj
          have hun := (HME.out _).1 hmem
          have htk : l.take (j + 1) = l.take j ++ [l.getD j 0] := by rw [List.take_succ_eq_append_getElem hlj, List.getD_eq_getElem?_getD, List.getElem?_eq_getElem hlj]; rfl
          obtain ⟨u, hu⟩ : ∃ u, l.getD j 0 = u := ⟨_, rfl⟩
          rw [hu] at z0 hun htk
          have hset := HM.out.set (j := u) (i := 0) (x := (u : Int) + 1) (u := .int .i64 ((u : Int) + 1)) (by rw [byL_len]; exact hun) (by decide) rfl (by show in64 _; unfold in64; omega)
          rw [byL_set] at hset
          rw [byL_congr _ _ (fun v => if v ∈ l.take (j + 1) then (v : Int) + 1 else 0) (fun v hv => by
            rw [htk]
            by_cases hvu : v = u
            · subst hvu; simp
            · simp [hvu])] at hset
          rw [show u * kInt.n + 0 = u from by show u * 1 + 0 = u; omega] at hset
          have HSET := Lib.hid hset
          obtain ⟨g', eg, _, hgl, hgc, hgf⟩ := HM.out.pos (by rw [byL_len]; omega)
          obtain rfl : g' = G := by cases eg; rfl
          have zm := hgc u (by rw [byL_len]; exact hun) 0 _ rfl
          rw [show u * kInt.n + 0 = u from by show u * 1 + 0 = u; omega] at zm
          obtain ⟨ov, hov⟩ : ∃ ov, Value.int IntKind.i64 ((byL k (fun u => if u ∈ l.take j then (u : Int) + 1 else 0)).getD u kInt.d) = ov := ⟨_, rfl⟩
          have zm' : wr.cell? ⟨g', u, none⟩ = some ov := by rw [← hov]; exact zm
          have hd1 : decide ((u : Int) < 0) = false := decide_eq_false (by omega)
          have hd2 : decide ((k : Int) ≤ (u : Int)) = false := decide_eq_false (by omega)
          have hu0 : (0 : Int) ≤ u := by omega
          have hu1 : (u : Int) < k := by omega
          have hl9 : (l.length : Int) ≤ 1000 := by have := HLN.out; omega
          have hs9 : IntKind.i64.wrap ((u : Int) + 1) = (u : Int) + 1 := IntWalk.i64_in _ (by omega)
          have lbl : bl < wr.heap.size := World.block_lt_of_cell? _ _ z0
          have hmo : Try.prog.follows .mixedOrders = true := by kernel_rfl
          clear hcl hmem htk hu hset eg zm hov hgc
          go_upto_region 12 with fail
          go_still_tail 11, hmo
          go_wp2_with fail
          go_roundw
          case rel =>
            exact ⟨j + 1, by omega, by go_num, HSET.out.ext (Ext.refl _).drew, (HZ.out.setCell (p := ⟨g', u, none⟩) (by rw [HGW.out]; exact Nat.le_refl _) _).drew⟩
          case measure => simp [intOf]; omega
        · obtain rfl : j = l.length := by omega
          have hall := HM.out
          rw [List.take_length, byL_congr _ _ (fun u => (u : Int) + 1) (fun u hu => if_pos ((HME.out u).2 hu))] at hall
          have HM4 : Hid (Ow kInt G wr (.slice (some ⟨G, 0, none⟩) k k) (byL k (fun u => if u < 0 then (u : Int) else (u : Int) + 1))) := Lib.hid (by simpa using hall)
          have HZ4 := Lib.hid HZ.out
          clear hall
          go_wp2_with fail
          generalize wr = wb at *
          go_loopw [9] (fun i wq => ∃ j : Nat, j ≤ k ∧ i = .int .i64 j ∧ Ow kInt G wq (.slice (some ⟨G, 0, none⟩) k k) (byL k (fun u => if u < j then (u : Int) else (u : Int) + 1)) ∧ Ext wa wq) (fun i _ => k - (intOf i).toNat)
          case atStart => exact ⟨0, Nat.zero_le _, rfl, HM4.out, HZ4.out⟩
          case round =>
            obtain ⟨u, hu, rfl, hM, hZ⟩ := hrel
            have HM := Lib.hid hM
            have HZ := Lib.hid hZ
            have hu0 : (0 : Int) ≤ u := by omega
            clear hM hZ
            by_cases hlu : u < k
            · have hlu' : (u : Int) < k := by omega
              have hset := HM.out.set (j := u) (i := 0) (x := (u : Int)) (u := .int .i64 (u : Int)) (by rw [byL_len]; exact hlu) (by decide) rfl (by show in64 _; unfold in64; omega)
              rw [byL_set] at hset
              rw [byL_congr _ _ (fun v => if v < u + 1 then (v : Int) else (v : Int) + 1) (fun v hv => by
                by_cases hvu : v = u
                · subst hvu; simp
                · rw [if_neg hvu]
                  by_cases h9 : v < u
                  · rw [if_pos h9, if_pos (by omega)]
                  · rw [if_neg h9, if_neg (by omega)])] at hset
              rw [show u * kInt.n + 0 = u from by show u * 1 + 0 = u; omega] at hset
              have HSET := Lib.hid hset
              obtain ⟨g', eg, _, hgl, hgc, hgf⟩ := HM.out.pos (by rw [byL_len]; omega)
              obtain rfl : g' = G := by cases eg; rfl
              have zm := hgc u (by rw [byL_len]; exact hlu) 0 _ rfl
              rw [show u * kInt.n + 0 = u from by show u * 1 + 0 = u; omega] at zm
              have zm' : wr.cell? ⟨g', u, none⟩ = some (.int .i64 ((u : Int) + 1)) := by
                rw [zm]
                have h9 := byL_getD k (fun v => if v < u then (v : Int) else (v : Int) + 1) u hlu
                rw [if_neg (by omega)] at h9
                show some (Value.int IntKind.i64 _) = _
                rw [← h9]
                rfl
              clear hset eg zm hgc
              go_wp2_with fail
              go_roundw
              case rel => exact ⟨u + 1, by omega, by go_num, by first | exact HSET.out | (have h9 := HSET.out; simpa using h9), HZ.out.setCell (p := ⟨g', u, none⟩) (by rw [HGW.out]; exact Nat.le_refl _) _⟩
              case measure => simp [intOf]; omega
            · obtain rfl : u = k := by omega
              have hfin := HM.out
              rw [byL_congr _ _ (fun v => (v : Int)) (fun v hv => if_pos hv), byL_zs] at hfin
              have HM5 : Hid (Rd kInt wr (.slice (some ⟨G, 0, none⟩) u u) (zs (List.range u))) := Lib.hid (hfin.rd)
              have HR5 : Hid (Rd kInt wr (.slice R (zs (List.range u)).length rc) (zs (List.range u))) := Lib.hid (by rw [zs_len, List.length_range]; exact HO.out.rd.ext HZ.out)
              have HX5 := Lib.hid (HX.out.trans HZ.out)
              have hle : ((l.length : Int) == (u : Int)) = true := by have := HLN.out; simp; omega
              clear hfin
              go_wp2_with fail
              refine (ints_any _ _ _ _ _ (ints_of_rd HM5.out) (ints_of_rd HR5.out)).mono ?_
              rintro ed w6 ⟨rfl, n6, rfl⟩
              rw [sameB_refl]
              go_wp2_with fail
              go_ret
              exact ⟨ret_bool (by first | rfl | simp), HX5.out.drewN _⟩
end Go.Proofs.Ytjabahfkgaamdaa

/- Plain words of fill: what holds of an order, and of cells. No program in it. -/
namespace Go.Proofs.Ytjabahfkgaamdaa.Plain

theorem ordP_good {n : Nat} {g m : Int} {picks : List (Int × Int)} {os : List Nat} {st : Nat} (h : ordP n g m picks = (os, st, 0)) :
    ∃ G M : Nat, g = G ∧ m = M ∧ 1 ≤ G ∧ G ≤ 100 ∧ 1 ≤ M ∧ M ≤ 8 ∧ picks.length ≤ 4000 ∧ os.Perm (List.range n) ∧ st ≤ picks.length + M * (cntT (max 1 n) G + 1) ∧ min 1 n ≤ st := by
  unfold ordP at h
  split at h
  · simp at h
  · rename_i hb
    have hb' : planB g m picks.length = true := by simpa using hb
    obtain ⟨h1, h2, h3, h4, h5⟩ := (planB_iff _ _ _).1 hb'
    refine ⟨g.toNat, m.toNat, by omega, by omega, by omega, by omega, by omega, by omega, h5, ?_⟩
    split at h
    · rename_i hz
      subst hz
      simp only [Prod.mk.injEq] at h
      obtain ⟨rfl, rfl, _⟩ := h
      exact ⟨by simp, by simp, by simp⟩
    · rename_i hz
      simp only [Prod.mk.injEq] at h
      obtain ⟨rfl, rfl, _⟩ := h
      obtain ⟨w1, w2, w3, w4⟩ := whole_ends (g := g.toNat) (n := n) (m := m.toNat) (by omega) (by omega) (by omega) picks
      refine ⟨w4, ?_, ?_⟩
      · rw [show max 1 n = n by omega]; exact w3
      · rcases Nat.eq_zero_or_pos (wholeP g.toNat n m.toNat picks).2.length with h0 | h0
        · exfalso
          have h9 := w4.length_eq
          rw [List.eq_nil_of_length_eq_zero h0, orderL_nil, List.length_range] at h9
          simp at h9
          omega
        · omega
theorem fillP_cases (l : List Nat) (op : Int) (y : Nat) (g m : Int) (picks : List (Int × Int)) :
    (fillP l op y g m picks).2.2 = 1 ∧ (fillP l op y g m picks).1 = [] ∨ (fillP l op y g m picks).2.2 = 0 ∧ (fillP l op y g m picks).1 = l.map (fun x => oneP x op y) ∧ ∃ ou, ordP l.length g m picks = (ou, (fillP l op y g m picks).2.1, 0) := by
  unfold fillP
  split
  · exact .inl ⟨rfl, rfl⟩
  · split
    · rename_i h
      rcases ordP_err l.length g m picks with h1 | h1
      · exact absurd h1 h
      · exact .inl ⟨h1, rfl⟩
    · rename_i h
      refine .inr ⟨rfl, rfl, (ordP l.length g m picks).1, ?_⟩
      have h1 : (ordP l.length g m picks).2.2 = 0 := by simpa using h
      rw [← h1]
end Go.Proofs.Ytjabahfkgaamdaa.Plain

/- The program's each (fill), by Fill's closure. -/
namespace Go.Proofs.Ytjabahfkgaamdaa
open Go.BigFrame
open Go.RowKit Go.Proofs.Ytjabahfkgaamdaa.Plain

theorem Plain.byL_map (l : List Nat) (f : Nat → Nat) : byL l.length (fun u => ((f (l.getD u 0) : Nat) : Int)) = zs (l.map f) := by
  unfold byL zs
  apply List.ext_getElem?
  intro i
  by_cases hi : i < l.length
  · rw [List.getElem?_map, List.getElem?_range hi, List.getElem?_map, List.getElem?_map, List.getElem?_eq_getElem hi, Option.map_some, List.getD_eq_getElem?_getD, List.getElem?_eq_getElem hi]; rfl
  · rw [List.getElem?_eq_none (by simpa using hi), List.getElem?_eq_none (by simpa using hi)]
theorem Plain.byL_range (n : Nat) (f : Nat → Nat) : byL n (fun u => ((f u : Nat) : Int)) = zs ((List.range n).map f) := by
  unfold byL zs; rw [List.map_map]; rfl

set_option maxHeartbeats 1600000 in
set_option maxRecDepth 100000 in
theorem feach1_any (l : List Nat) (L : Option Addr) (lc yb : Nat) (op : Int) (y : Nat) (g m : Int) (Ap : Option Addr) (cp : Nat) (picks : List (Int × Int)) (w : World) (hL : Rd kU32 w (.slice L l.length lc) (zs l)) (hyb : w.cell? ⟨yb, 0, none⟩ = some (.int .u32 y)) (hy : y < 4294967296) (hp : Rd kPk w (.slice Ap picks.length cp) picks) (hl : l.length ≤ 900) (ho : in64 op) (hg : in64 g) (hm : in64 m) :
    Calls Try.prog 22 #[.slice L l.length lc, .int .i64 op, planV g m Ap picks.length cp, (.func (.func 23) #[] #[.pointer (some ⟨yb, 0, none⟩)])] w (WordsSaid (fillP l op y g m picks) w) := by
  have HP := Lib.hid hp
  have HL := Lib.hid hL
  have HGM := Lib.hid (And.intro hg (And.intro hm ho))
  have HYB := Lib.hid hyb
  have hl' : (l.length : Int) ≤ 900 := by omega
  have HY := Lib.hid hy
  clear hp hL hg hm ho hyb 
  clear hy
  go_enter Try.func22, Try.ntmps22
  go_wp2_with fail
  refine (fknown_any op _ HGM.out.2.2).mono ?_
  rintro ed w1 ⟨rfl, rfl⟩
  cases hk : knownB op with
  | false =>
    have HE : Hid (fillP l op y g m picks = ([], 0, 1)) := Lib.hid (by unfold fillP; rw [if_pos  hk])
    go_wp2_with fail
    exact bodyPost_ret (v := .tuple #[.slice none 0 0, .int .i64 0, .int .i64 1]) (by simp [results, Try.results22, go_sem]) rfl (by rw [HE.out]; exact ⟨none, 0, rfl, Ow.nil _ _, (Ext.refl _).alloc _⟩)
  | true =>
    go_wp2_with fail
    refine (forder_any l.length g m Ap cp picks _ (HP.out.ext ((Ext.refl _).alloc _)) hl HGM.out.1 HGM.out.2.1).mono ?_
    have HF : Hid (fillP l op y g m picks = if (ordP l.length g m picks).2.2 ≠ 0 then ([], 0, (ordP l.length g m picks).2.2) else (l.map (fun x => oneP x op y), (ordP l.length g m picks).2.1, 0)) := Lib.hid (by unfold fillP; rw [if_neg (by rw [hk]; decide)])
    have herr := ordP_err l.length g m picks
    obtain ⟨⟨os, st, er⟩, hr⟩ : ∃ x, ordP l.length g m picks = x := ⟨_, rfl⟩
    have HORD := Lib.hid hr
    rw [hr] at HF herr ⊢
    simp only at HF herr
    rintro ed w1 ⟨Lo, lo, rfl, hO, hE1⟩
    simp only at hO ⊢
    have HX1 := Lib.hid (((Ext.refl w).alloc _).trans hE1)
    have HO := Lib.hid hO
    clear hO hE1 hr hk
    rcases herr with rfl | rfl
    · rw [if_neg (by simp)] at HF
      have hperm : os.Perm (List.range l.length) := by
        obtain ⟨_, _, e1, e2, _, _, _, _, _, h9, _⟩ := ordP_good HORD.out
        exact h9
      have hlen : os.length = l.length := by rw [hperm.length_eq, List.length_range]
      have HME : Hid (∀ u, u ∈ os ↔ u < l.length) := Lib.hid fun u => by rw [hperm.mem_iff, List.mem_range]
      have HLN := Lib.hid hlen
      obtain ⟨C, hmk, hmown⟩ := kU32.make 0 rfl (show (0 : Int) ≤ 0 ∧ (0 : Int) ≤ 4294967295 by omega) l.length (by omega)
      have HMK := Lib.hid hmown
      have hmk2 : ∀ w : World, (Instr.makeSlice 22 (.int .i64 l.length) (.int .i64 l.length)).run Try.prog w = .ok (.slice (some ⟨w.heap.size, 0, none⟩) l.length l.length) (w.alloc (.cells C 28)) := hmk
      have hz1 := HX1.out.size
      clear hperm hmk hmown HORD
      rw [hlen] at HO ⊢
      clear hlen
      go_wp2_with fail
      obtain ⟨G, hG⟩ : ∃ G, w1.heap.size = G := ⟨_, rfl⟩
      have HM3 : Hid (Ow kU32 G (w1.alloc (.cells C 28)) (.slice (some ⟨G, 0, none⟩) l.length l.length) (byL l.length (fun _ => 0))) := Lib.hid (by rw [byL_zero, ← hG]; exact HMK.out w1 w1.heap.size w1.heap.size rfl (Nat.le_refl _))
      have HZ3 : Hid (Ext w1 (w1.alloc (.cells C 28))) := Lib.hid ((Ext.refl _).alloc _)
      rw [hG]
      generalize (w1.alloc (.cells C 28)) = w3 at *
      have HGW := Lib.hid hG
      rw [hG] at hz1
      clear hG hmk2
      go_loopw [36] (fun i wr => ∃ j : Nat, j ≤ l.length ∧ i = .int .i64 j ∧ Ow kU32 G wr (.slice (some ⟨G, 0, none⟩) l.length l.length) (byL l.length (fun u => if u ∈ os.take j then (((oneP (l.getD u 0) op y) : Nat) : Int) else 0)) ∧ Ext w1 wr) (fun i _ => l.length - (intOf i).toNat)
      case atStart => exact ⟨0, Nat.zero_le _, rfl, by simpa using HM3.out, HZ3.out⟩
      case round =>
        obtain ⟨j, hj, rfl, hM, hZ⟩ := hrel
        have HM := Lib.hid hM
        have HZ := Lib.hid hZ
        have hj0 : (0 : Int) ≤ j := by omega
        clear hM hZ
        by_cases hlj : j < l.length
        · have hlj' : (j : Int) < l.length := by omega
          have hjo : j < os.length := by have := HLN.out; omega
          obtain ⟨bo, oo, rfl, hco⟩ := (ints_of_rd (HO.out.rd.ext HZ.out)).cells (by rw [zs_len]; omega)
          have z0 := hco j (by rw [zs_len]; exact hjo)
          rw [zs_getD] at z0
          have hmem : os.getD j 0 ∈ os := by rw [List.getD_eq_getElem?_getD, List.getElem?_eq_getElem hjo]; exact List.getElem_mem hjo
          have hun := (HME.out _).1 hmem
          have htk : os.take (j + 1) = os.take j ++ [os.getD j 0] := by rw [List.take_succ_eq_append_getElem hjo, List.getD_eq_getElem?_getD, List.getElem?_eq_getElem hjo]; rfl
          obtain ⟨u, hu⟩ : ∃ u, os.getD j 0 = u := ⟨_, rfl⟩
          rw [hu] at z0 hun htk
          obtain ⟨bx, ox, rfl, hcx⟩ := Rd.u32s (HL.out.ext (HX1.out.trans HZ.out)) (by rw [zs_len]; omega)
          have hzu : u < (zs l).length := by rw [zs_len]; exact hun
          have z1 := hcx u hzu
          have hok := HL.out.okAt u hzu
          rw [zs_getD] at z1
          have hok' : (0 : Int) ≤ ((l.getD u 0 : Nat) : Int) ∧ ((l.getD u 0 : Nat) : Int) ≤ 4294967295 := by rw [← zs_getD]; exact hok
          have hyl : y < 4294967296 := HY.out
          obtain ⟨x, hx⟩ : ∃ x, l.getD u 0 = x := ⟨_, rfl⟩
          rw [hx] at z1 hok'
          have hxl : x < 4294967296 := by omega
          have hlt9 := oneP_lt x op y hxl hyl
          have hFu : (oneP (l.getD u 0) op y) = oneP x op y := by rw [hx]
          have hset := HM.out.set (j := u) (i := 0) (x := ((oneP x op y : Nat) : Int)) (u := .int .u32 ((oneP x op y : Nat) : Int)) (by rw [byL_len]; exact hun) (by decide) rfl (by show (0 : Int) ≤ _ ∧ _ ≤ (4294967295 : Int); omega)
          rw [byL_set] at hset
          rw [byL_congr _ _ (fun u => if u ∈ os.take (j + 1) then (((oneP (l.getD u 0) op y) : Nat) : Int) else 0) (fun v hv => by
            rw [htk]
            by_cases hvu : v = u
            · subst hvu; rw [if_pos rfl, if_pos (by simp), hFu]
            · simp [hvu])] at hset
          rw [show u * kU32.n + 0 = u from by show u * 1 + 0 = u; omega] at hset
          have HSET := Lib.hid hset
          obtain ⟨g', eg, _, hgl, hgc, hgf⟩ := HM.out.pos (by rw [byL_len]; omega)
          obtain rfl : g' = G := by cases eg; rfl
          have zm := hgc u (by rw [byL_len]; exact hun) 0 _ rfl
          rw [show u * kU32.n + 0 = u from by show u * 1 + 0 = u; omega] at zm
          obtain ⟨ov, hov⟩ : ∃ ov, Value.int IntKind.u32 ((byL l.length (fun u => if u ∈ os.take j then (((oneP (l.getD u 0) op y) : Nat) : Int) else 0)).getD u kU32.d) = ov := ⟨_, rfl⟩
          have zm' : wr.cell? ⟨g', u, none⟩ = some ov := by rw [← hov]; exact zm
          have hd1 : decide ((u : Int) < 0) = false := decide_eq_false (by omega)
          have hd2 : decide ((l.length : Int) ≤ (u : Int)) = false := decide_eq_false (by omega)
          have hu0 : (0 : Int) ≤ u := by omega
          have hu1 : (u : Int) < l.length := by omega
          have lbo : bo < wr.heap.size := World.block_lt_of_cell? _ _ z0
          have lbx : bx < wr.heap.size := World.block_lt_of_cell? _ _ z1
          have hmo : Try.prog.follows .mixedOrders = true := by kernel_rfl
          have HCO : Hid (Calls Try.prog 12 #[.int .u32 x, .int .i64 op, .int .u32 y] wr.drew (fun e w'' => e = .returned (.int .u32 ((oneP x op y : Nat) : Int)) ∧ w'' = wr.drew)) := Lib.hid ((fone_any x op y _ hxl hyl HGM.out.2.2).mono fun _ _ h => ⟨h.1, h.2.symm⟩)
          have hcb : wr.drew.cell? ⟨yb, 0, none⟩ = _ := Ext.cell (((HX1.out.trans HZ.out)).trans (Ext.refl _).drew) HYB.out
          have HCB : Hid (Calls Try.prog 23 #[.int .i64 u, .pointer (some ⟨yb, 0, none⟩)] wr.drew (fun e w'' => e = .returned (.int .u32 (y : Int)) ∧ w'' = wr.drew)) := Lib.hid ((fby1_any (.int .i64 u) yb y _ hcb).mono fun _ _ h => ⟨h.1, h.2.symm⟩)
          obtain ⟨q, hq⟩ : ∃ q, oneP x op y = q := ⟨_, rfl⟩
          rw [hq] at HCO HSET
          clear hco hcx hmem htk hu hx hset eg zm hov hgc hok hok' hzu hlt9 hFu hcb hq 
          go_upto_region 10 with fail
          refine wp_region_still_tail 12 hmo (by kernel_rfl) ?_
          simp only [List.take_succ_cons, List.take_zero, List.drop_succ_cons, List.drop_zero]
          repeat (first | still_step | still_call HCB.out | still_call HCO.out)
          try refine wpStill_nil ?_
          go_wp2_with fail
          go_roundw
          case rel =>
            exact ⟨j + 1, by omega, by go_num, HSET.out.ext (Ext.refl _).drew, (HZ.out.setCell (p := ⟨g', u, none⟩) (by rw [HGW.out]; exact Nat.le_refl _) _).drew⟩
          case measure => simp [intOf]; omega
        · obtain rfl : j = l.length := by omega
          have hall := HM.out
          have hl9 := HLN.out
          rw [← hl9, List.take_length, hl9, byL_congr _ _ (fun u => (((oneP (l.getD u 0) op y) : Nat) : Int)) (fun u hu => if_pos ((HME.out u).2 hu)), byL_map l (fun x => oneP x op y)] at hall
          have HALL := Lib.hid hall
          have HXX := Lib.hid (HX1.out.trans HZ.out)
          clear hall hl9
          go_wp2_with fail
          refine bodyPost_ret (v := .tuple #[.slice (some ⟨G, 0, none⟩) l.length l.length, .int .i64 st, .int .i64 0]) (by simp [results, Try.results22, go_sem]) rfl (by rw [HF.out]; exact ⟨some ⟨G, 0, none⟩, l.length, by simp, by have := HALL.out.mono (B' := w.heap.size) (by omega); simpa using this, HXX.out⟩)
    · rw [if_pos (by decide)] at HF
      go_wp2_with fail
      exact bodyPost_ret (v := .tuple #[.slice none 0 0, .int .i64 0, .int .i64 1]) (by simp [results, Try.results22, go_sem]) rfl (by rw [HF.out]; exact ⟨none, 0, rfl, Ow.nil _ _, HX1.out⟩)
end Go.Proofs.Ytjabahfkgaamdaa

/- The program's each (fill), by Zip's closure. -/
namespace Go.Proofs.Ytjabahfkgaamdaa
open Go.BigFrame
open Go.RowKit Go.Proofs.Ytjabahfkgaamdaa.Plain

set_option maxHeartbeats 1600000 in
set_option maxRecDepth 100000 in
theorem feach2_any (l r : List Nat) (L R : Option Addr) (lc rc yb : Nat) (op : Int) (g m : Int) (Ap : Option Addr) (cp : Nat) (picks : List (Int × Int)) (w : World) (hL : Rd kU32 w (.slice L l.length lc) (zs l)) (hR : Rd kU32 w (.slice R r.length rc) (zs r)) (hlr : l.length = r.length) (hyb : w.cell? ⟨yb, 0, none⟩ = some (.slice R r.length rc)) (hp : Rd kPk w (.slice Ap picks.length cp) picks) (hl : l.length ≤ 900) (ho : in64 op) (hg : in64 g) (hm : in64 m) :
    Calls Try.prog 22 #[.slice L l.length lc, .int .i64 op, planV g m Ap picks.length cp, (.func (.func 30) #[] #[.pointer (some ⟨yb, 0, none⟩)])] w (WordsSaid (zipP l r op g m picks) w) := by
  have HP := Lib.hid hp
  have HL := Lib.hid hL
  have HGM := Lib.hid (And.intro hg (And.intro hm ho))
  have HYB := Lib.hid hyb
  have hl' : (l.length : Int) ≤ 900 := by omega
  have HR := Lib.hid hR
  have HLR := Lib.hid hlr
  clear hp hL hg hm ho hyb hlr hR
  go_enter Try.func22, Try.ntmps22
  go_wp2_with fail
  refine (fknown_any op _ HGM.out.2.2).mono ?_
  rintro ed w1 ⟨rfl, rfl⟩
  cases hk : knownB op with
  | false =>
    have HE : Hid (zipP l r op g m picks = ([], 0, 1)) := Lib.hid (by unfold zipP; rw [if_pos (.inr hk)])
    go_wp2_with fail
    exact bodyPost_ret (v := .tuple #[.slice none 0 0, .int .i64 0, .int .i64 1]) (by simp [results, Try.results22, go_sem]) rfl (by rw [HE.out]; exact ⟨none, 0, rfl, Ow.nil _ _, (Ext.refl _).alloc _⟩)
  | true =>
    go_wp2_with fail
    refine (forder_any l.length g m Ap cp picks _ (HP.out.ext ((Ext.refl _).alloc _)) hl HGM.out.1 HGM.out.2.1).mono ?_
    have HF : Hid (zipP l r op g m picks = if (ordP l.length g m picks).2.2 ≠ 0 then ([], 0, (ordP l.length g m picks).2.2) else ((List.range l.length).map (zipF l r op), (ordP l.length g m picks).2.1, 0)) := Lib.hid (by unfold zipP; rw [if_neg (by rw [hk]; have := HLR.out; simp; omega)])
    have herr := ordP_err l.length g m picks
    obtain ⟨⟨os, st, er⟩, hr⟩ : ∃ x, ordP l.length g m picks = x := ⟨_, rfl⟩
    have HORD := Lib.hid hr
    rw [hr] at HF herr ⊢
    simp only at HF herr
    rintro ed w1 ⟨Lo, lo, rfl, hO, hE1⟩
    simp only at hO ⊢
    have HX1 := Lib.hid (((Ext.refl w).alloc _).trans hE1)
    have HO := Lib.hid hO
    clear hO hE1 hr hk
    rcases herr with rfl | rfl
    · rw [if_neg (by simp)] at HF
      have hperm : os.Perm (List.range l.length) := by
        obtain ⟨_, _, e1, e2, _, _, _, _, _, h9, _⟩ := ordP_good HORD.out
        exact h9
      have hlen : os.length = l.length := by rw [hperm.length_eq, List.length_range]
      have HME : Hid (∀ u, u ∈ os ↔ u < l.length) := Lib.hid fun u => by rw [hperm.mem_iff, List.mem_range]
      have HLN := Lib.hid hlen
      obtain ⟨C, hmk, hmown⟩ := kU32.make 0 rfl (show (0 : Int) ≤ 0 ∧ (0 : Int) ≤ 4294967295 by omega) l.length (by omega)
      have HMK := Lib.hid hmown
      have hmk2 : ∀ w : World, (Instr.makeSlice 22 (.int .i64 l.length) (.int .i64 l.length)).run Try.prog w = .ok (.slice (some ⟨w.heap.size, 0, none⟩) l.length l.length) (w.alloc (.cells C 28)) := hmk
      have hz1 := HX1.out.size
      clear hperm hmk hmown HORD
      rw [hlen] at HO ⊢
      clear hlen
      go_wp2_with fail
      obtain ⟨G, hG⟩ : ∃ G, w1.heap.size = G := ⟨_, rfl⟩
      have HM3 : Hid (Ow kU32 G (w1.alloc (.cells C 28)) (.slice (some ⟨G, 0, none⟩) l.length l.length) (byL l.length (fun _ => 0))) := Lib.hid (by rw [byL_zero, ← hG]; exact HMK.out w1 w1.heap.size w1.heap.size rfl (Nat.le_refl _))
      have HZ3 : Hid (Ext w1 (w1.alloc (.cells C 28))) := Lib.hid ((Ext.refl _).alloc _)
      rw [hG]
      generalize (w1.alloc (.cells C 28)) = w3 at *
      have HGW := Lib.hid hG
      rw [hG] at hz1
      clear hG hmk2
      go_loopw [36] (fun i wr => ∃ j : Nat, j ≤ l.length ∧ i = .int .i64 j ∧ Ow kU32 G wr (.slice (some ⟨G, 0, none⟩) l.length l.length) (byL l.length (fun u => if u ∈ os.take j then (((zipF l r op u) : Nat) : Int) else 0)) ∧ Ext w1 wr) (fun i _ => l.length - (intOf i).toNat)
      case atStart => exact ⟨0, Nat.zero_le _, rfl, by simpa using HM3.out, HZ3.out⟩
      case round =>
        obtain ⟨j, hj, rfl, hM, hZ⟩ := hrel
        have HM := Lib.hid hM
        have HZ := Lib.hid hZ
        have hj0 : (0 : Int) ≤ j := by omega
        clear hM hZ
        by_cases hlj : j < l.length
        · have hlj' : (j : Int) < l.length := by omega
          have hjo : j < os.length := by have := HLN.out; omega
          obtain ⟨bo, oo, rfl, hco⟩ := (ints_of_rd (HO.out.rd.ext HZ.out)).cells (by rw [zs_len]; omega)
          have z0 := hco j (by rw [zs_len]; exact hjo)
          rw [zs_getD] at z0
          have hmem : os.getD j 0 ∈ os := by rw [List.getD_eq_getElem?_getD, List.getElem?_eq_getElem hjo]; exact List.getElem_mem hjo
          have hun := (HME.out _).1 hmem
          have htk : os.take (j + 1) = os.take j ++ [os.getD j 0] := by rw [List.take_succ_eq_append_getElem hjo, List.getD_eq_getElem?_getD, List.getElem?_eq_getElem hjo]; rfl
          obtain ⟨u, hu⟩ : ∃ u, os.getD j 0 = u := ⟨_, rfl⟩
          rw [hu] at z0 hun htk
          obtain ⟨bx, ox, rfl, hcx⟩ := Rd.u32s (HL.out.ext (HX1.out.trans HZ.out)) (by rw [zs_len]; omega)
          have hzu : u < (zs l).length := by rw [zs_len]; exact hun
          have z1 := hcx u hzu
          have hok := HL.out.okAt u hzu
          rw [zs_getD] at z1
          have hok' : (0 : Int) ≤ ((l.getD u 0 : Nat) : Int) ∧ ((l.getD u 0 : Nat) : Int) ≤ 4294967295 := by rw [← zs_getD]; exact hok
          obtain ⟨by', oy, rfl, hcy⟩ := Rd.u32s (HR.out.ext (HX1.out.trans HZ.out)) (by rw [zs_len]; have := HLR.out; omega)
          have hzu2 : u < (zs r).length := by rw [zs_len]; have := HLR.out; omega
          have z2 := hcy u hzu2
          have hok2 := HR.out.okAt u hzu2
          rw [zs_getD] at z2
          have hok2' : (0 : Int) ≤ ((r.getD u 0 : Nat) : Int) ∧ ((r.getD u 0 : Nat) : Int) ≤ 4294967295 := by rw [← zs_getD]; exact hok2
          obtain ⟨y, hy⟩ : ∃ y, r.getD u 0 = y := ⟨_, rfl⟩
          rw [hy] at z2 hok2'
          have hyl : y < 4294967296 := by omega
          obtain ⟨x, hx⟩ : ∃ x, l.getD u 0 = x := ⟨_, rfl⟩
          rw [hx] at z1 hok'
          have hxl : x < 4294967296 := by omega
          have hlt9 := oneP_lt x op y hxl hyl
          have hFu : (zipF l r op u) = oneP x op y := by show oneP (l.getD u 0) op (r.getD u 0) = _; rw [hx, hy]
          have hset := HM.out.set (j := u) (i := 0) (x := ((oneP x op y : Nat) : Int)) (u := .int .u32 ((oneP x op y : Nat) : Int)) (by rw [byL_len]; exact hun) (by decide) rfl (by show (0 : Int) ≤ _ ∧ _ ≤ (4294967295 : Int); omega)
          rw [byL_set] at hset
          rw [byL_congr _ _ (fun u => if u ∈ os.take (j + 1) then (((zipF l r op u) : Nat) : Int) else 0) (fun v hv => by
            rw [htk]
            by_cases hvu : v = u
            · subst hvu; rw [if_pos rfl, if_pos (by simp), hFu]
            · simp [hvu])] at hset
          rw [show u * kU32.n + 0 = u from by show u * 1 + 0 = u; omega] at hset
          have HSET := Lib.hid hset
          obtain ⟨g', eg, _, hgl, hgc, hgf⟩ := HM.out.pos (by rw [byL_len]; omega)
          obtain rfl : g' = G := by cases eg; rfl
          have zm := hgc u (by rw [byL_len]; exact hun) 0 _ rfl
          rw [show u * kU32.n + 0 = u from by show u * 1 + 0 = u; omega] at zm
          obtain ⟨ov, hov⟩ : ∃ ov, Value.int IntKind.u32 ((byL l.length (fun u => if u ∈ os.take j then (((zipF l r op u) : Nat) : Int) else 0)).getD u kU32.d) = ov := ⟨_, rfl⟩
          have zm' : wr.cell? ⟨g', u, none⟩ = some ov := by rw [← hov]; exact zm
          have hd1 : decide ((u : Int) < 0) = false := decide_eq_false (by omega)
          have hd2 : decide ((l.length : Int) ≤ (u : Int)) = false := decide_eq_false (by omega)
          have hu0 : (0 : Int) ≤ u := by omega
          have hu1 : (u : Int) < l.length := by omega
          have lbo : bo < wr.heap.size := World.block_lt_of_cell? _ _ z0
          have lbx : bx < wr.heap.size := World.block_lt_of_cell? _ _ z1
          have hmo : Try.prog.follows .mixedOrders = true := by kernel_rfl
          have HCO : Hid (Calls Try.prog 12 #[.int .u32 x, .int .i64 op, .int .u32 y] wr.drew (fun e w'' => e = .returned (.int .u32 ((oneP x op y : Nat) : Int)) ∧ w'' = wr.drew)) := Lib.hid ((fone_any x op y _ hxl hyl HGM.out.2.2).mono fun _ _ h => ⟨h.1, h.2.symm⟩)
          have hcb : wr.drew.cell? ⟨yb, 0, none⟩ = _ := Ext.cell (((HX1.out.trans HZ.out)).trans (Ext.refl _).drew) HYB.out
          have z2' : wr.drew.cell? ⟨by', oy + u, none⟩ = some (.int .u32 y) := Ext.cell (Ext.refl wr).drew z2
          have HCB : Hid (Calls Try.prog 30 #[.int .i64 u, .pointer (some ⟨yb, 0, none⟩)] wr.drew (fun e w'' => e = .returned (.int .u32 (y : Int)) ∧ w'' = wr.drew)) := Lib.hid ((fby2_any u yb r.length rc by' oy y _ (by have := HLR.out; omega) (by have := HLR.out; omega) hcb z2').mono fun _ _ h => ⟨h.1, h.2.symm⟩)
          obtain ⟨q, hq⟩ : ∃ q, oneP x op y = q := ⟨_, rfl⟩
          rw [hq] at HCO HSET
          clear hco hcx hmem htk hu hx hset eg zm hov hgc hok hok' hzu hlt9 hFu hcb hq hcy hzu2 hok2 hok2' z2' hy
          go_upto_region 10 with fail
          refine wp_region_still_tail 12 hmo (by kernel_rfl) ?_
          simp only [List.take_succ_cons, List.take_zero, List.drop_succ_cons, List.drop_zero]
          repeat (first | still_step | still_call HCB.out | still_call HCO.out)
          try refine wpStill_nil ?_
          go_wp2_with fail
          go_roundw
          case rel =>
            exact ⟨j + 1, by omega, by go_num, HSET.out.ext (Ext.refl _).drew, (HZ.out.setCell (p := ⟨g', u, none⟩) (by rw [HGW.out]; exact Nat.le_refl _) _).drew⟩
          case measure => simp [intOf]; omega
        · obtain rfl : j = l.length := by omega
          have hall := HM.out
          have hl9 := HLN.out
          rw [← hl9, List.take_length, hl9, byL_congr _ _ (fun u => (((zipF l r op u) : Nat) : Int)) (fun u hu => if_pos ((HME.out u).2 hu)), byL_range l.length (zipF l r op)] at hall
          have HALL := Lib.hid hall
          have HXX := Lib.hid (HX1.out.trans HZ.out)
          clear hall hl9
          go_wp2_with fail
          refine bodyPost_ret (v := .tuple #[.slice (some ⟨G, 0, none⟩) l.length l.length, .int .i64 st, .int .i64 0]) (by simp [results, Try.results22, go_sem]) rfl (by rw [HF.out]; exact ⟨some ⟨G, 0, none⟩, l.length, by simp, by have := HALL.out.mono (B' := w.heap.size) (by omega); simpa using this, HXX.out⟩)
    · rw [if_pos (by decide)] at HF
      go_wp2_with fail
      exact bodyPost_ret (v := .tuple #[.slice none 0 0, .int .i64 0, .int .i64 1]) (by simp [results, Try.results22, go_sem]) rfl (by rw [HF.out]; exact ⟨none, 0, rfl, Ow.nil _ _, HX1.out⟩)
end Go.Proofs.Ytjabahfkgaamdaa

/- The program's Fill and Zip: with Right, Order, One the five contracts of fill. -/
namespace Go.Proofs.Ytjabahfkgaamdaa
open Go.BigFrame
open Go.RowKit Go.Proofs.Ytjabahfkgaamdaa.Plain

set_option maxHeartbeats 1600000 in
set_option maxRecDepth 100000 in
theorem ffill_any (l : List Nat) (L : Option Addr) (lc : Nat) (op : Int) (y : Nat) (g m : Int) (Ap : Option Addr) (cp : Nat) (picks : List (Int × Int)) (w : World) (hL : Rd kU32 w (.slice L l.length lc) (zs l)) (hp : Rd kPk w (.slice Ap picks.length cp) picks) (hl : l.length ≤ 900) (ho : in64 op) (hy : y < 4294967296) (hg : in64 g) (hm : in64 m) :
    Calls Try.prog 8 #[.slice L l.length lc, .int .i64 op, .int .u32 y, planV g m Ap picks.length cp] w (WordsSaid (fillP l op y g m picks) w) := by
  have HP := Lib.hid hp
  have HL := Lib.hid hL
  have HGM := Lib.hid (And.intro hg (And.intro hm (And.intro ho hy)))
  have hl' : (l.length : Int) ≤ 900 := by omega
  have hmf : ∀ (fn : Fn) (first cap : Array Value) (w : World), (Instr.makeFunc fn first cap).run Try.prog w = .ok (.func fn first cap) w := fun _ _ _ _ => rfl
  clear hp hL hg hm ho hy
  go_enter Try.func8, Try.ntmps8
  go_wp2_with fail
  obtain ⟨res, hres⟩ : ∃ x, fillP l op y g m picks = x := ⟨_, rfl⟩
  have hyb : ((w.alloc (.cells #[.int .u32 y] 28)).alloc (.cells #[.int .i64 g, .int .i64 m, .slice Ap picks.length cp] 26)).cell? ⟨w.heap.size, 0, none⟩ = some (.int .u32 y) := by go_simp
  have hh := (feach1_any l L lc w.heap.size op y g m Ap cp picks ((w.alloc (.cells #[.int .u32 y] 28)).alloc (.cells #[.int .i64 g, .int .i64 m, .slice Ap picks.length cp] 26)) (HL.out.ext (((Ext.refl _).alloc _).alloc _)) hyb HGM.out.2.2.2 (HP.out.ext (((Ext.refl _).alloc _).alloc _)) hl HGM.out.2.2.1 HGM.out.1 HGM.out.2.1)
  rw [hres] at hh
  have HRES := Lib.hid hres
  refine hh.mono ?_
  clear hh hres
  rintro ed w1 ⟨La, la, rfl, hO, hE1⟩
  have HO := Lib.hid (hO.mono (B' := w.heap.size) (by simp; omega))
  have HX := Lib.hid ((((Ext.refl w).alloc _).alloc _).trans hE1)
  clear hO hE1
  go_wp2_with fail
  exact bodyPost_ret (v := .tuple #[.slice La res.1.length la, .int .i64 res.2.1, .int .i64 res.2.2]) (by simp [results, Try.results8, go_sem]) rfl (by rw [HRES.out]; exact ⟨La, la, rfl, HO.out, HX.out⟩)

set_option maxHeartbeats 1600000 in
set_option maxRecDepth 100000 in
theorem fzip_any (l r : List Nat) (L R : Option Addr) (lc rc : Nat) (op : Int) (g m : Int) (Ap : Option Addr) (cp : Nat) (picks : List (Int × Int)) (w : World) (hL : Rd kU32 w (.slice L l.length lc) (zs l)) (hR : Rd kU32 w (.slice R r.length rc) (zs r)) (hp : Rd kPk w (.slice Ap picks.length cp) picks) (hl : l.length ≤ 900) (ho : in64 op) (hg : in64 g) (hm : in64 m) :
    Calls Try.prog 18 #[.slice L l.length lc, .slice R r.length rc, .int .i64 op, planV g m Ap picks.length cp] w (WordsSaid (zipP l r op g m picks) w) := by
  have HP := Lib.hid hp
  have HL := Lib.hid hL
  have HR := Lib.hid hR
  have HGM := Lib.hid (And.intro hg (And.intro hm ho))
  have hl' : (l.length : Int) ≤ 900 := by omega
  have hmf : ∀ (fn : Fn) (first cap : Array Value) (w : World), (Instr.makeFunc fn first cap).run Try.prog w = .ok (.func fn first cap) w := fun _ _ _ _ => rfl
  clear hp hL hR hg hm ho
  go_enter Try.func18, Try.ntmps18
  by_cases hlr : l.length ≠ r.length
  · have hne : ((l.length : Int) != (r.length : Int)) = true := by simp; omega
    have HE : Hid (zipP l r op g m picks = ([], 0, 1)) := Lib.hid (by unfold zipP; rw [if_pos (.inl hlr)])
    go_wp2_with fail
    exact bodyPost_ret (v := .tuple #[.slice none 0 0, .int .i64 0, .int .i64 1]) (by simp [results, Try.results18, go_sem]) rfl (by rw [HE.out]; exact ⟨none, 0, rfl, Ow.nil _ _, ((Ext.refl _).alloc _).alloc _⟩)
  have hlr' : l.length = r.length := by omega
  have hne : ((l.length : Int) != (r.length : Int)) = false := by simp; omega
  have HLR := Lib.hid hlr'
  clear hlr hlr'
  go_wp2_with fail
  obtain ⟨res, hres⟩ : ∃ x, zipP l r op g m picks = x := ⟨_, rfl⟩
  have hyb : ((w.alloc (.cells #[.slice R r.length rc] 22)).alloc (.cells #[.int .i64 g, .int .i64 m, .slice Ap picks.length cp] 26)).cell? ⟨w.heap.size, 0, none⟩ = some (.slice R r.length rc) := by go_simp
  have hh := (feach2_any l r L R lc rc w.heap.size op g m Ap cp picks ((w.alloc (.cells #[.slice R r.length rc] 22)).alloc (.cells #[.int .i64 g, .int .i64 m, .slice Ap picks.length cp] 26)) (HL.out.ext (((Ext.refl _).alloc _).alloc _)) (HR.out.ext (((Ext.refl _).alloc _).alloc _)) HLR.out hyb (HP.out.ext (((Ext.refl _).alloc _).alloc _)) hl HGM.out.2.2 HGM.out.1 HGM.out.2.1)
  rw [hres] at hh
  have HRES := Lib.hid hres
  refine hh.mono ?_
  clear hh hres
  rintro ed w1 ⟨La, la, rfl, hO, hE1⟩
  have HO := Lib.hid (hO.mono (B' := w.heap.size) (by simp; omega))
  have HX := Lib.hid ((((Ext.refl w).alloc _).alloc _).trans hE1)
  clear hO hE1
  go_wp2_with fail
  exact bodyPost_ret (v := .tuple #[.slice La res.1.length la, .int .i64 res.2.1, .int .i64 res.2.2]) (by simp [results, Try.results18, go_sem]) rfl (by rw [HRES.out]; exact ⟨La, la, rfl, HO.out, HX.out⟩)
end Go.Proofs.Ytjabahfkgaamdaa

/- Literals of numbers of 32 bits. -/
namespace Go.Proofs.Ytjabahfkgaamdaa
open Go.BigFrame
open Go.RowKit Go.Proofs.Ytjabahfkgaamdaa.Plain
instance (x : Int) : Decidable (in64 x) := by unfold in64; exact inferInstance
theorem u32_list (w : World) (xs : List Nat) (p n : Nat) (cs : Array Value) (hcs : cs.toList = (zs xs).map (Value.int .u32)) (hn : xs.length = n) (hp : p = w.heap.size) (hm : n ≤ 1000) (hx : ∀ x ∈ xs, x < 4294967296) : Rd kU32 (w.alloc (.cells cs 28)) (.slice (some ⟨p, 0, none⟩) n n) (zs xs) :=
  Ow.rd (K := kU32) (B := 0) (Ow.lit (K := kU32) w (zs xs) cs (by rw [hcs]; simp [Kd.flat, kU32]; induction (zs xs) with | nil => rfl | cons a l ih => simp [ih]) (by rw [zs_len, hn]) hp (Nat.zero_le _) (by unfold maxLen; omega) (by
    intro z hz
    unfold zs at hz
    obtain ⟨x, h1, rfl⟩ := List.mem_map.1 hz
    have := hx x h1
    show (0 : Int) ≤ x ∧ (x : Int) ≤ 4294967295
    omega))
end Go.Proofs.Ytjabahfkgaamdaa

/- The fixed fact of fill's statements: calls with answers named. -/
namespace Go.Proofs.Ytjabahfkgaamdaa
open Go.BigFrame
open Go.RowKit Go.Proofs.Ytjabahfkgaamdaa.Plain

theorem forder_to (n np : Nat) (ni g m : Int) (Ap : Option Addr) (cp : Nat) (picks : List (Int × Int)) (os : List Nat) (st k : Nat) (er si : Int) (w : World) (hp : Rd kPk w (.slice Ap np cp) picks) (hnp : picks.length = np) (n2 : n ≤ 900) (hg : in64 g) (hm : in64 m) (e1 : (n : Int) = ni) (he : ordP n g m picks = (os, st, er)) (hk : os.length = k) (hs : (st : Int) = si) :
    Calls Try.prog 10 #[.int .i64 ni, planV g m Ap np cp] w fun ed w' => ∃ (L : Option Addr) (l : Nat), ed = .returned (.tuple #[.slice L k l, .int .i64 si, .int .i64 er]) ∧ Ow kInt w.heap.size w' (.slice L k l) (zs os) ∧ Ext w w' := by
  subst hnp e1 hk hs
  have h := forder_any n g m Ap cp picks w hp n2 hg hm
  rw [he] at h
  exact h.mono fun _ _ hh => hh
theorem ffill_to (l : List Nat) (ln np : Nat) (L : Option Addr) (lc : Nat) (op : Int) (y : Nat) (yi g m : Int) (Ap : Option Addr) (cp : Nat) (picks : List (Int × Int)) (os : List Nat) (st k : Nat) (er si : Int) (w : World) (hL : Rd kU32 w (.slice L ln lc) (zs l)) (hln : l.length = ln) (hp : Rd kPk w (.slice Ap np cp) picks) (hnp : picks.length = np) (hl : l.length ≤ 900) (ho : in64 op) (hy : y < 4294967296) (hg : in64 g) (hm : in64 m) (e1 : (y : Int) = yi) (he : fillP l op y g m picks = (os, st, er)) (hk : os.length = k) (hs : (st : Int) = si) :
    Calls Try.prog 8 #[.slice L ln lc, .int .i64 op, .int .u32 yi, planV g m Ap np cp] w fun ed w' => ∃ (L : Option Addr) (l : Nat), ed = .returned (.tuple #[.slice L k l, .int .i64 si, .int .i64 er]) ∧ Ow kU32 w.heap.size w' (.slice L k l) (zs os) ∧ Ext w w' := by
  subst hln hnp e1 hk hs
  have h := ffill_any l L lc op y g m Ap cp picks w hL hp hl ho hy hg hm
  rw [he] at h
  exact h.mono fun _ _ hh => hh
theorem fzip_to (l r : List Nat) (ln rn np : Nat) (L R : Option Addr) (lc rc : Nat) (op : Int) (g m : Int) (Ap : Option Addr) (cp : Nat) (picks : List (Int × Int)) (os : List Nat) (st k : Nat) (er si : Int) (w : World) (hL : Rd kU32 w (.slice L ln lc) (zs l)) (hln : l.length = ln) (hR : Rd kU32 w (.slice R rn rc) (zs r)) (hrn : r.length = rn) (hp : Rd kPk w (.slice Ap np cp) picks) (hnp : picks.length = np) (hl : l.length ≤ 900) (ho : in64 op) (hg : in64 g) (hm : in64 m) (he : zipP l r op g m picks = (os, st, er)) (hk : os.length = k) (hs : (st : Int) = si) :
    Calls Try.prog 18 #[.slice L ln lc, .slice R rn rc, .int .i64 op, planV g m Ap np cp] w fun ed w' => ∃ (L : Option Addr) (l : Nat), ed = .returned (.tuple #[.slice L k l, .int .i64 si, .int .i64 er]) ∧ Ow kU32 w.heap.size w' (.slice L k l) (zs os) ∧ Ext w w' := by
  subst hln hrn hnp hk hs
  have h := fzip_any l r L R lc rc op g m Ap cp picks w hL hR hp hl ho hg hm
  rw [he] at h
  exact h.mono fun _ _ hh => hh
set_option maxHeartbeats 1600000 in
set_option maxRecDepth 100000 in
theorem falive_any (w : World) : Calls Try.prog 7 #[] w fun ed w' => ed = .returned (.bool true) ∧ Ext w w' := by
  have he1 : ordP 3 1 2 [(0, 0), (1, 0)] = ([0, 1, 2], 6, 0) := by decide +kernel
  have he2 : fillP [1, 2, 4294967295] 1 10 1 2 [(0, 0), (1, 0)] = ([11, 12, 9], 6, 0) := by decide +kernel
  have he3 : zipP [1, 2] [5, 1] 3 1 2 [(0, 0), (1, 0)] = ([32, 4], 3, 0) := by decide +kernel
  have he4 : fillP [] 7 0 1 2 [(0, 0), (1, 0)] = ([], 0, 1) := by decide +kernel
  have H1 := Lib.hid he1
  have H2 := Lib.hid he2
  have H3 := Lib.hid he3
  have H4 := Lib.hid he4
  clear he1 he2 he3 he4
  go_enter Try.func7, Try.ntmps7
  go_wp2_with fail
  have HP0 : Hid (∀ W, Ext (w.alloc (.cells #[.int .i64 0, .int .i64 0, .int .i64 1, .int .i64 0] 23)) W → Rd kPk W (.slice (some ⟨w.heap.size, 0, none⟩) 2 2) [(0, 0), (1, 0)]) := Lib.hid (fun W hW => (Ow.rd (K := kPk) (B := 0) (Ow.lit (K := kPk) (p := w.heap.size) (n := 2) w [(0, 0), (1, 0)] #[.int .i64 0, .int .i64 0, .int .i64 1, .int .i64 0] rfl rfl rfl (Nat.zero_le _) (by simp [maxLen]) (by intro x hx; simp only [List.mem_cons, List.not_mem_nil, or_false] at hx; rcases hx with rfl | rfl <;> exact ⟨by decide, by decide⟩))).ext hW)
  refine (forder_to 3 2 3 1 2 _ 2 [(0, 0), (1, 0)] [0, 1, 2] 6 3 0 6 _ (HP0.out _ ((Ext.refl _).alloc _)) rfl (by decide) (by decide) (by decide) rfl H1.out rfl rfl).mono ?_
  rintro ed w1 ⟨L1, l1, rfl, hO1, hE1⟩
  have k0 : w1.cell? ⟨w.heap.size + 1, 0, none⟩ = some (.int .i64 1) := Ext.cell hE1 (by go_simp)
  have k1 : w1.cell? ⟨w.heap.size + 1, 1, none⟩ = some (.int .i64 2) := Ext.cell hE1 (by go_simp)
  have k2 : w1.cell? ⟨w.heap.size + 1, 2, none⟩ = some (.slice (some ⟨w.heap.size, 0, none⟩) 2 2) := Ext.cell hE1 (by go_simp)
  have kf : ∀ o, w1.frozen? ⟨w.heap.size + 1, o, none⟩ = false := fun o => (Below.frozen hE1 (p := ⟨w.heap.size + 1, o, none⟩) (by first | omega | (simp; omega) | simp)).trans (by go_simp)
  have HX1 := Lib.hid (((Ext.refl (w.alloc (.cells #[.int .i64 0, .int .i64 0, .int .i64 1, .int .i64 0] 23))).alloc (.cells #[.int .i64 1, .int .i64 2, .slice (some ⟨w.heap.size, 0, none⟩) 2 2] 26)).trans hE1)
  have lz1 := hE1.size
  simp at lz1
  have l1' : w.heap.size + 1 < w1.heap.size := by omega
  clear hE1 hO1
  go_wp2_with fail
  refine (ffill_to [1, 2, 4294967295] 3 2 (some ⟨w1.heap.size, 0, none⟩) 3 1 10 10 1 2 _ 2 [(0, 0), (1, 0)] [11, 12, 9] 6 3 0 6 _ (u32_list w1 [1, 2, 4294967295] _ 3 #[.int .u32 1, .int .u32 2, .int .u32 4294967295] rfl rfl rfl (by decide) (by decide)) rfl (HP0.out _ (HX1.out.alloc _)) rfl (by decide) (by decide) (by decide) (by decide) (by decide) rfl H2.out rfl rfl).mono ?_
  rintro ed w2 ⟨L2, l2, rfl, hO2, hE2⟩
  have hE2' := ((Ext.refl w1).alloc (.cells #[.int .u32 1, .int .u32 2, .int .u32 4294967295] 28)).trans hE2
  have HX2 := Lib.hid (HX1.out.trans hE2')
  have HO2 := Lib.hid hO2
  replace k0 := hE2'.cell k0
  replace k1 := hE2'.cell k1
  replace k2 := hE2'.cell k2
  have lz2 := hE2'.size
  have l2' : w.heap.size + 1 < w2.heap.size := by omega
  have l2x : w.heap.size + 1 < w2.heap.size + 1 := by omega
  clear hE2 hE2' hO2 kf HX1 l1'
  go_wp2_with fail
  refine (fzip_to [1, 2] [5, 1] 2 2 2 (some ⟨w2.heap.size, 0, none⟩) (some ⟨w2.heap.size + 1, 0, none⟩) 2 2 3 1 2 _ 2 [(0, 0), (1, 0)] [32, 4] 3 2 0 3 _ ((u32_list w2 [1, 2] _ 2 #[.int .u32 1, .int .u32 2] rfl rfl rfl (by decide) (by decide)).ext ((Ext.refl _).alloc (.cells #[.int .u32 5, .int .u32 1] 28))) rfl (u32_list (w2.alloc (.cells #[.int .u32 1, .int .u32 2] 28)) [5, 1] (w2.heap.size + 1) 2 #[.int .u32 5, .int .u32 1] rfl rfl (by simp) (by decide) (by decide)) rfl (HP0.out _ ((HX2.out.alloc _).alloc _)) rfl (by decide) (by decide) (by decide) (by decide) H3.out rfl rfl).mono ?_
  rintro ed w3 ⟨L3, l3, rfl, hO3, hE3⟩
  have hE3' := (((Ext.refl w2).alloc (.cells #[.int .u32 1, .int .u32 2] 28)).alloc (.cells #[.int .u32 5, .int .u32 1] 28)).trans hE3
  have HX3 := Lib.hid (HX2.out.trans hE3')
  have HO3 := Lib.hid hO3
  have HO2' := Lib.hid (HO2.out.ext hE3')
  replace k0 := hE3'.cell k0
  replace k1 := hE3'.cell k1
  replace k2 := hE3'.cell k2
  have lz3 := hE3'.size
  have l3' : w.heap.size + 1 < w3.heap.size := by omega
  clear hE3 hE3' hO3 HX2 HO2 l2' l2x
  go_wp2_with fail
  refine (ffill_to [] 0 2 none 0 7 0 0 1 2 _ 2 [(0, 0), (1, 0)] [] 0 0 1 0 _ (Rd.nil _ _ _) rfl (HP0.out _ HX3.out) rfl (by decide) (by decide) (by decide) (by decide) (by decide) rfl H4.out rfl rfl).mono ?_
  rintro ed w4 ⟨L4, l4, rfl, hO4, hE4⟩
  have HX4 := Lib.hid (HX3.out.trans hE4)
  have HO3' := Lib.hid (HO3.out.ext hE4)
  have HO2'' := Lib.hid (HO2'.out.ext hE4)
  replace k0 := hE4.cell k0
  replace k1 := hE4.cell k1
  replace k2 := hE4.cell k2
  have lz4 := hE4.size
  have l4' : w.heap.size + 1 < w4.heap.size := by omega
  clear hE4 hO4 HX3 HO3 HO2' l3'
  go_wp2_with fail
  refine (rwords_any _ _ _ (zs [11, 12, 9]) _ (HO2''.out.rd.ext ((Ext.refl _).alloc _)) (u32_list w4 [11, 12, 9] _ 3 #[.int .u32 11, .int .u32 12, .int .u32 9] rfl rfl rfl (by decide) (by decide))).mono ?_
  rintro ed w5 ⟨rfl, hE5⟩
  rw [show sameB (zs [11, 12, 9]) (zs [11, 12, 9]) = true by decide +kernel]
  have hE5' := ((Ext.refl w4).alloc (.cells #[.int .u32 11, .int .u32 12, .int .u32 9] 28)).trans hE5
  have HX5 := Lib.hid (HX4.out.trans hE5')
  have HO5 := Lib.hid (HO3'.out.ext hE5')
  replace k0 := hE5'.cell k0
  replace k1 := hE5'.cell k1
  replace k2 := hE5'.cell k2
  have lz5 := hE5'.size
  have l5' : w.heap.size + 1 < w5.heap.size := by omega
  clear hE5 hE5' HX4 HO3' HO2'' l4'
  go_wp2_with fail
  refine (rwords_any _ _ _ (zs [32, 4]) _ (HO5.out.rd.ext ((Ext.refl _).alloc _)) (u32_list w5 [32, 4] _ 2 #[.int .u32 32, .int .u32 4] rfl rfl rfl (by decide) (by decide))).mono ?_
  rintro ed w6 ⟨rfl, hE6⟩
  rw [show sameB (zs [32, 4]) (zs [32, 4]) = true by decide +kernel]
  have hE6' := ((Ext.refl w5).alloc (.cells #[.int .u32 32, .int .u32 4] 28)).trans hE6
  have HX6 := Lib.hid (HX5.out.trans hE6')
  replace k0 := hE6'.cell k0
  replace k1 := hE6'.cell k1
  replace k2 := hE6'.cell k2
  have lz6 := hE6'.size
  have l6' : w.heap.size + 1 < w6.heap.size := by omega
  clear hE6 hE6' HX5 HO5 l5'
  go_wp2_with fail
  have h1 := fone_any 6 5 3 w6 (by decide) (by decide) (by decide)
  rw [show ((oneP 6 5 3 : Nat) : Int) = 2 by decide +kernel] at h1
  refine h1.mono ?_
  clear h1
  rintro ed w7 ⟨rfl, rfl⟩
  go_wp2_with fail
  have h1 := fright7_any 1 2 (some ⟨w.heap.size, 0, none⟩) 2 2 w6 (by decide) (by decide) (by decide)
  rw [show planB 1 2 2 = true by decide +kernel] at h1
  refine h1.mono ?_
  clear h1
  rintro ed w7 ⟨rfl, hE7⟩
  have HX7 := Lib.hid ((((Ext.refl w).alloc _).trans HX6.out).trans hE7)
  clear hE7
  go_wp2_with fail
  go_ret
  exact ⟨rfl, HX7.out⟩
end Go.Proofs.Ytjabahfkgaamdaa
