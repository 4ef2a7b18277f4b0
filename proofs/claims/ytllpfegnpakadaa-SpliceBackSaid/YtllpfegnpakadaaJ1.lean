/- Joined by wip/merge.py: NPlain, T13P, T13Q, T14P, T14Q, T15P, T15Q, T15S, T15W, T15L, Mem, CPlain, CBase. -/
import Derived.Test.YtllpfegnpakadaaRows
import Derived.WalkKit
import Derived.Below
import Derived.Laws.OwnMore
import Derived.Deep.Draws
import Derived.Lib.Hide
import Derived.Maps.OwnSet
import Derived.Maps.AppendAt
import Derived.Deep.AppendLies
import Derived.OwnWalk
import Derived.BigQuiet
import Derived.Outline
import Derived.LoopTactic
import Derived.WalkSpells
import Derived.Deep.QuietTactic
import Derived.Lib.SliceRun
import Derived.Deep.RegionHeld3
set_option linter.unusedVariables false
set_option linter.unusedSimpArgs false
set_option linter.unnecessarySimpa false
/- Plain words of lists by a rule. No program in it. -/
namespace Go.Proofs.Ytllpfegnpakadaa.Plain
abbrev kept (keep : List Bool) (i : Nat) : Bool := keep.getD i false
end Go.Proofs.Ytllpfegnpakadaa.Plain

/- Plain words of rings: turned, least, joined, cut, next. No program in it. -/
namespace Go.Proofs.Ytllpfegnpakadaa.Plain
instance nodupDec : (l : List Int) → Decidable l.Nodup
  | [] => isTrue List.nodup_nil
  | a :: l => match nodupDec l with
    | isTrue h => if ha : a ∈ l then isFalse (fun h2 => (List.nodup_cons.1 h2).1 ha) else isTrue (List.nodup_cons.2 ⟨ha, h⟩)
    | isFalse h => isFalse (fun h2 => h (List.nodup_cons.1 h2).2)
def placeP (l : List Int) (x : Int) : Int := if x ∈ l then (l.idxOf x : Nat) else -1
def tokOk (x : Int) : Bool := decide (0 ≤ x) && decide (x ≤ 10000)
def rightL (l : List Int) : Bool := decide (l.length ≤ 1000) && l.all tokOk && decide l.Nodup
theorem rightL_iff (l : List Int) : rightL l = true ↔ l.length ≤ 1000 ∧ (∀ x ∈ l, 0 ≤ x ∧ x ≤ 10000) ∧ l.Nodup := by
  unfold rightL
  rw [Bool.and_eq_true, Bool.and_eq_true, decide_eq_true_eq, decide_eq_true_eq, List.all_eq_true]
  constructor
  · rintro ⟨⟨h1, h2⟩, h3⟩
    refine ⟨h1, fun x hx => ?_, h3⟩
    have := h2 x hx
    unfold tokOk at this
    rw [Bool.and_eq_true, decide_eq_true_eq, decide_eq_true_eq] at this; exact this
  · rintro ⟨h1, h2, h3⟩
    refine ⟨⟨h1, fun x hx => ?_⟩, h3⟩
    unfold tokOk
    rw [Bool.and_eq_true, decide_eq_true_eq, decide_eq_true_eq]; exact h2 x hx
def fromL (l : List Int) (x : Int) : List Int := l.drop (l.idxOf x) ++ l.take (l.idxOf x)
def fromR (l : List Int) (x : Int) : List Int × Bool := if rightL l = true ∧ x ∈ l then (fromL l x, true) else ([], false)
def leastL (l : List Int) : Int := l.foldl min (l.headD 0)
def plainR (l : List Int) : List Int := if rightL l = true ∧ l ≠ [] then fromL l (leastL l) else []
def insB (a : List Int) (x : Int) (b : List Int) : List Int := a.take (a.idxOf x + 1) ++ b ++ a.drop (a.idxOf x + 1)
def joinR (a : List Int) (x : Int) (b : List Int) (y : Int) : List Int × Bool :=
  if (rightL b = true ∧ y ∈ b) ∧ (rightL a = true ∧ x ∈ a) ∧ rightL (insB (plainR a) x (fromL b y)) = true then (insB (plainR a) x (fromL b y), true) else ([], false)
/-- all behind one, itself the last -/
def behind (l : List Int) (x : Int) : List Int := (fromL l x).drop 1 ++ [x]
def cutPart (l : List Int) (x y : Int) : List Int := (behind l x).take ((behind l x).idxOf y + 1)
def cutR (l : List Int) (x y : Int) : List Int × List Int × Bool :=
  if rightL l = true ∧ x ∈ l ∧ y ∈ l then (l.filter (fun t => !(cutPart l x y).contains t), cutPart l x y, true) else ([], [], false)
def nextR (l : List Int) (x d : Int) : Int × Bool := if rightL l = true ∧ x ∈ l then ((fromL l x).getD (d % (l.length : Int)).toNat 0, true) else (0, false)
def sameR (a b : List Int) : Bool := rightL a && rightL b && decide (plainR a = plainR b)

theorem at_split {l : List Int} {x : Int} (h : x ∈ l) : ∃ u v, l = u ++ x :: v ∧ x ∉ u := by
  induction l with
  | nil => cases h
  | cons a l ih =>
    by_cases e : a = x
    · subst e; exact ⟨[], l, rfl, by simp⟩
    · have hm : x ∈ l := by
        rcases List.mem_cons.1 h with h1 | h1
        · exact absurd h1.symm e
        · exact h1
      obtain ⟨u, v, rfl, hu⟩ := ih hm
      refine ⟨a :: u, v, rfl, fun h2 => ?_⟩
      rcases List.mem_cons.1 h2 with h3 | h3
      · exact e h3.symm
      · exact hu h3
theorem idx_split {u v : List Int} {x : Int} (h : x ∉ u) : (u ++ x :: v).idxOf x = u.length := by
  rw [List.idxOf_append, if_neg h, List.idxOf_cons_self]; omega
theorem from_split {u v : List Int} {x : Int} (h : x ∉ u) : fromL (u ++ x :: v) x = x :: v ++ u := by
  unfold fromL
  rw [idx_split h, List.drop_left, List.take_left]
theorem ins_split {u v b : List Int} {x : Int} (h : x ∉ u) : insB (u ++ x :: v) x b = u ++ x :: (b ++ v) := by
  unfold insB
  have e : u ++ x :: v = (u ++ [x]) ++ v := by simp
  have hl : (u ++ [x]).length = u.length + 1 := by simp
  rw [idx_split h, e, ← hl, List.take_left, List.drop_left]; simp
theorem behind_split {u v : List Int} {x : Int} (h : x ∉ u) : behind (u ++ x :: v) x = v ++ u ++ [x] := by
  unfold behind
  rw [from_split h]; rfl
theorem from_perm {l : List Int} (x : Int) : (fromL l x).Perm l := by
  unfold fromL
  exact List.perm_append_comm.trans (by rw [List.take_append_drop])
theorem from_len (l : List Int) (x : Int) : (fromL l x).length = l.length := (from_perm x).length_eq
theorem right_perm {a b : List Int} (h : a.Perm b) (hr : rightL a = true) : rightL b = true := by
  rw [rightL_iff] at hr ⊢
  exact ⟨by rw [← h.length_eq]; exact hr.1, fun x hx => hr.2.1 x (h.mem_iff.2 hx), h.nodup_iff.1 hr.2.2⟩
/-- turned -/
def Rot (a b : List Int) : Prop := ∃ u v, a = u ++ v ∧ b = v ++ u
theorem rot_from {l : List Int} (x : Int) : Rot l (fromL l x) := ⟨l.take (l.idxOf x), l.drop (l.idxOf x), (List.take_append_drop _ _).symm, rfl⟩
theorem rot_perm {a b : List Int} (h : Rot a b) : a.Perm b := by
  obtain ⟨u, v, rfl, rfl⟩ := h
  exact List.perm_append_comm
theorem rot_symm {a b : List Int} (h : Rot a b) : Rot b a := by
  obtain ⟨u, v, rfl, rfl⟩ := h
  exact ⟨v, u, rfl, rfl⟩
theorem rot_one {a b : List Int} (h : Rot a b) (hn : a.Nodup) {x : Int} (hx : x ∈ a) : fromL a x = fromL b x := by
  obtain ⟨u, v, rfl, rfl⟩ := h
  rw [List.nodup_append] at hn
  obtain ⟨h1, h2, h3⟩ := hn
  rcases List.mem_append.1 hx with h | h
  · obtain ⟨p, q, rfl, hp⟩ := at_split h
    have hv : x ∉ v := fun hv => h3 x h x hv rfl
    have e : v ++ (p ++ x :: q) = (v ++ p) ++ x :: q := by simp
    have e2 : (p ++ x :: q) ++ v = p ++ x :: (q ++ v) := by simp
    rw [e, e2, from_split hp, from_split (fun h8 => (List.mem_append.1 h8).elim hv hp)]; simp
  · obtain ⟨p, q, rfl, hp⟩ := at_split h
    have hu : x ∉ u := fun hu => h3 x hu x h rfl
    have e : u ++ (p ++ x :: q) = (u ++ p) ++ x :: q := by simp
    have e2 : (p ++ x :: q) ++ u = p ++ x :: (q ++ u) := by simp
    rw [e, e2, from_split hp, from_split (fun h8 => (List.mem_append.1 h8).elim hu hp)]; simp
theorem foldl_min_le (l : List Int) : ∀ a : Int, l.foldl min a ≤ a ∧ (∀ x ∈ l, l.foldl min a ≤ x) ∧ (l.foldl min a = a ∨ l.foldl min a ∈ l) := by
  induction l with
  | nil => intro a; exact ⟨Int.le_refl _, by simp, .inl rfl⟩
  | cons b l ih =>
    intro a
    obtain ⟨h1, h2, h3⟩ := ih (min a b)
    rw [List.foldl_cons]
    refine ⟨by omega, fun x hx => ?_, ?_⟩
    · rcases List.mem_cons.1 hx with rfl | hx
      · omega
      · exact h2 x hx
    · rcases h3 with h3 | h3
      · rw [h3]
        by_cases h4 : a ≤ b
        · left; omega
        · right; have : min a b = b := by omega
          rw [this]; simp
      · exact .inr (List.mem_cons_of_mem _ h3)
theorem least_in {l : List Int} (h : l ≠ []) : leastL l ∈ l ∧ ∀ x ∈ l, leastL l ≤ x := by
  obtain ⟨a, t, rfl⟩ := List.exists_cons_of_ne_nil h
  unfold leastL
  obtain ⟨h1, h2, h3⟩ := foldl_min_le (a :: t) a
  refine ⟨?_, h2⟩
  rcases h3 with h3 | h3
  · show List.foldl min a (a :: t) ∈ _
    rw [h3]; simp
  · exact h3
theorem least_perm {a b : List Int} (h : a.Perm b) (hne : a ≠ []) : leastL a = leastL b := by
  have hb : b ≠ [] := fun e => hne (by rw [e] at h; exact h.eq_nil)
  obtain ⟨h1, h2⟩ := least_in hne
  obtain ⟨h3, h4⟩ := least_in hb
  have := h2 _ (h.mem_iff.2 h3)
  have := h4 _ (h.mem_iff.1 h1)
  omega
theorem plain_right {l : List Int} (h : rightL l = true) : Rot l (plainR l) := by
  unfold plainR
  by_cases e : l = []
  · subst e; rw [if_neg (by simp)]; exact ⟨[], [], rfl, rfl⟩
  · rw [if_pos ⟨h, e⟩]; exact rot_from _
theorem plain_rot {a b : List Int} (h : Rot a b) (hr : rightL a = true) : plainR a = plainR b := by
  have hp := rot_perm h
  have hb := right_perm hp hr
  unfold plainR
  by_cases e : a = []
  · subst e; rw [hp.symm.eq_nil]
  · have e2 : b ≠ [] := fun e2 => e (by rw [e2] at hp; exact hp.eq_nil)
    rw [if_pos ⟨hr, e⟩, if_pos ⟨hb, e2⟩, ← least_perm hp e]
    exact rot_one h ((rightL_iff a).1 hr).2.2 (least_in e).1
theorem same_rot {a b : List Int} (h : Rot a b) (hr : rightL a = true) : sameR a b = true := by
  unfold sameR
  rw [hr, right_perm (rot_perm h) hr, plain_rot h hr]; simp
/-- the same, by where both begin with one token -/
theorem same_of {a b : List Int} {x : Int} (ha : rightL a = true) (hb : rightL b = true) (h : fromL a x = fromL b x) : sameR a b = true := by
  have h1 : plainR a = plainR (fromL a x) := plain_rot (rot_from x) ha
  have h2 : plainR b = plainR (fromL b x) := plain_rot (rot_from x) hb
  unfold sameR
  rw [ha, hb, h1, h2, h]; simp
/-- a token of a turned ring -/
theorem from_at {l : List Int} {x : Int} (hx : x ∈ l) (d : Nat) (hd : d < l.length) : (fromL l x).getD d 0 = l.getD ((l.idxOf x + d) % l.length) 0 := by
  have hi := List.idxOf_lt_length_of_mem hx
  unfold fromL
  rw [List.getD_eq_getElem?_getD, List.getD_eq_getElem?_getD]
  by_cases h : d < l.length - l.idxOf x
  · rw [List.getElem?_append_left (by rw [List.length_drop]; exact h), List.getElem?_drop, Nat.mod_eq_of_lt (by omega)]
  · rw [List.getElem?_append_right (by rw [List.length_drop]; omega), List.length_drop, List.getElem?_take_of_lt (by omega)]
    rw [Nat.mod_eq_sub_mod (by omega), Nat.mod_eq_of_lt (by omega)]
    congr 2; omega
theorem from_head {l : List Int} {x : Int} (hx : x ∈ l) : (fromL l x).getD 0 0 = x := by
  obtain ⟨u, v, rfl, hu⟩ := at_split hx
  rw [from_split hu]; rfl
theorem ints_nodup_at {l : List Int} (h : l.Nodup) {i j : Nat} (hi : i < l.length) (hj : j < l.length) (e : l.getD i 0 = l.getD j 0) : i = j := by
  rw [List.nodup_iff_pairwise_ne, List.pairwise_iff_getElem] at h
  rw [List.getD_eq_getElem?_getD, List.getElem?_eq_getElem hi, List.getD_eq_getElem?_getD, List.getElem?_eq_getElem hj] at e
  simp only [Option.getD_some] at e
  rcases Nat.lt_trichotomy i j with h1 | h1 | h1
  · exact absurd e (h i j hi hj h1)
  · exact h1
  · exact absurd e.symm (h j i hj hi h1)
theorem ints_idx_at {l : List Int} (h : l.Nodup) {i : Nat} (hi : i < l.length) : l.idxOf (l.getD i 0) = i := by
  have hm : l.getD i 0 ∈ l := by rw [List.getD_eq_getElem?_getD, List.getElem?_eq_getElem hi]; exact List.getElem_mem _
  have hlt := List.idxOf_lt_length_of_mem hm
  refine ints_nodup_at h hlt hi ?_
  rw [List.getD_eq_getElem?_getD, List.getElem?_eq_getElem hlt, List.getElem_idxOf hlt]; rfl
theorem ints_at_idx {l : List Int} {x : Int} (hx : x ∈ l) : l.getD (l.idxOf x) 0 = x := by
  have hlt := List.idxOf_lt_length_of_mem hx
  rw [List.getD_eq_getElem?_getD, List.getElem?_eq_getElem hlt, List.getElem_idxOf hlt]; rfl
end Go.Proofs.Ytllpfegnpakadaa.Plain

/- Plain words of rings: what is joined is cut out again, what is cut is put back, turned. No program in it. -/
namespace Go.Proofs.Ytllpfegnpakadaa.Plain
theorem right_nodup {l : List Int} (h : rightL l = true) : l.Nodup := ((rightL_iff l).1 h).2.2
theorem plain_mem {a : List Int} (h : rightL a = true) (x : Int) : x ∈ plainR a ↔ x ∈ a := ((rot_perm (plain_right h)).mem_iff).symm
theorem plain_is_right {a : List Int} (h : rightL a = true) : rightL (plainR a) = true := right_perm (rot_perm (plain_right h)) h
theorem plain_from {a : List Int} (h : rightL a = true) {x : Int} (hx : x ∈ a) : fromL (plainR a) x = fromL a x := (rot_one (plain_right h) (right_nodup h) hx).symm
theorem join_ok {a b j : List Int} {x y : Int} (h : joinR a x b y = (j, true)) :
    rightL a = true ∧ x ∈ a ∧ rightL b = true ∧ y ∈ b ∧ rightL j = true ∧ ∃ u v, plainR a = u ++ x :: v ∧ x ∉ u ∧ j = u ++ x :: (fromL b y ++ v) := by
  unfold joinR at h
  split at h
  · rename_i hc
    obtain ⟨⟨h1, h2⟩, ⟨h3, h4⟩, h5⟩ := hc
    obtain ⟨u, v, e, hu⟩ := at_split ((plain_mem h3 x).2 h4)
    simp only [Prod.mk.injEq, and_true] at h
    rw [e, ins_split hu] at h
    rw [e, ins_split hu, h] at h5
    exact ⟨h3, h4, h1, h2, h5, u, v, e, hu, h.symm⟩
  · simp at h
theorem next_is {l : List Int} {x d : Int} (hr : rightL l = true) (hx : x ∈ l) : nextR l x d = ((fromL l x).getD (d % (l.length : Int)).toNat 0, true) := by
  unfold nextR; rw [if_pos ⟨hr, hx⟩]
theorem last_split {l : List Int} (h : l ≠ []) : ∃ m, l = m ++ [l.getD (l.length - 1) 0] := by
  refine ⟨l.dropLast, ?_⟩
  have e := (List.dropLast_concat_getLast h).symm
  rw [List.getLast_eq_getElem] at e
  have hl : l.length - 1 < l.length := by have := List.length_pos_iff.2 h; omega
  rw [List.getD_eq_getElem?_getD, List.getElem?_eq_getElem hl]
  exact e
theorem filter_out {p s : List Int} (h : ∀ x ∈ s, x ∉ p) : s.filter (fun t => !p.contains t) = s := by
  rw [List.filter_eq_self]
  intro x hx
  have := h x hx
  simpa using this
theorem filter_in {p s : List Int} (h : ∀ x ∈ s, x ∈ p) : s.filter (fun t => !p.contains t) = [] := by
  rw [List.filter_eq_nil_iff]
  intro x hx
  have := h x hx
  simpa using this
theorem ring_cuts {l : List Int} {x y : Int} (hr : rightL l = true) (hx : x ∈ l) (hy : y ∈ l) :
    ∃ r p, cutR l x y = (r, p, true) ∧ r.length + p.length = l.length ∧ 0 < p.length ∧ p.getD (p.length - 1) 0 = y ∧ (x = y ↔ r.length = 0) ∧ (r.length = 0 → sameR p l = true) ∧
      (0 < r.length → ∃ j, joinR r x p (p.getD 0 0) = (j, true) ∧ sameR j l = true ∧ nextR l x 1 = (p.getD 0 0, true) ∧ x ∈ r ∧ y ∉ r) := by
  obtain ⟨u, v, rfl, hu⟩ := at_split hx
  have hnd := right_nodup hr
  have hw : (v ++ u ++ [x]).Perm (u ++ x :: v) := by
    have h1 : Rot (u ++ x :: v) (v ++ (u ++ [x])) := ⟨u ++ [x], v, by simp, rfl⟩
    rw [List.append_assoc]
    exact (rot_perm h1).symm
  have hyw : y ∈ v ++ u ++ [x] := hw.mem_iff.2 hy
  have hnw : (v ++ u ++ [x]).Nodup := hw.nodup_iff.2 hnd
  obtain ⟨p', s, hps, hp'⟩ := at_split hyw
  have hcp : cutPart (u ++ x :: v) x y = p' ++ [y] := by
    unfold cutPart
    rw [behind_split hu, hps, idx_split hp']
    have e1 : p' ++ y :: s = (p' ++ [y]) ++ s := by simp
    have e2 : p'.length + 1 = (p' ++ [y]).length := by simp
    rw [e1, e2, List.take_left]
  obtain ⟨p, hp⟩ : ∃ p, p' ++ [y] = p := ⟨_, rfl⟩
  rw [hp] at hcp
  have hws : v ++ u ++ [x] = p ++ s := by rw [hps, ← hp]; simp
  have hdis : ∀ t ∈ s, t ∉ p := by
    rw [hws, List.nodup_append] at hnw
    exact fun t ht h9 => hnw.2.2 t h9 t ht rfl
  have hyp : y ∈ p := by rw [← hp]; simp
  obtain ⟨r, hrr⟩ : ∃ r, (u ++ x :: v).filter (fun t => !p.contains t) = r := ⟨_, rfl⟩
  have hrs : r.Perm s := by
    rw [← hrr]
    refine (hw.symm.filter _).trans ?_
    rw [hws, List.filter_append, filter_in (fun t ht => ht), filter_out hdis, List.nil_append]
  have hlen : r.length + p.length = (u ++ x :: v).length := by
    rw [hrs.length_eq, ← hw.length_eq, hws, List.length_append]; omega
  have hcut : cutR (u ++ x :: v) x y = (r, p, true) := by
    unfold cutR
    rw [if_pos ⟨hr, by simp, hy⟩, hcp, hrr]
  have hp0 : 0 < p.length := by rw [← hp]; simp
  have hpl : p.getD (p.length - 1) 0 = y := by
    rw [← hp, List.length_append, List.length_singleton, Nat.add_sub_cancel, List.getD_eq_getElem?_getD, List.getElem?_append_right (Nat.le_refl _), Nat.sub_self]; rfl
  have hxy : x = y ↔ r.length = 0 := by
    rw [hrs.length_eq]
    constructor
    · intro e
      subst e
      rw [List.nodup_append] at hnw
      have hx9 : x ∉ v ++ u := fun h9 => hnw.2.2 x h9 x (by simp) rfl
      have e1 : (v ++ u ++ [x]).idxOf x = (v ++ u).length := idx_split hx9
      rw [hps, idx_split hp'] at e1
      have e2 := congrArg List.length hps
      simp only [List.length_append, List.length_cons, List.length_nil] at e1 e2
      omega
    · intro e
      have hs : s = [] := List.eq_nil_of_length_eq_zero e
      rw [hs] at hps
      have := congrArg List.getLast? hps
      rw [List.getLast?_append, List.getLast?_append] at this
      simpa using this
  refine ⟨r, p, hcut, hlen, hp0, hpl, hxy, fun h0 => ?_, fun h0 => ?_⟩
  · have hs : s = [] := List.eq_nil_of_length_eq_zero (by rw [← hrs.length_eq]; exact h0)
    rw [hs, List.append_nil] at hws
    rw [← hws]
    refine same_rot (rot_symm ⟨u ++ [x], v, by simp, by simp⟩) (right_perm hw.symm hr)
  · have hne : x ≠ y := fun e => by have := hxy.1 e; omega
    have hs0 : 0 < s.length := by rw [← hrs.length_eq]; exact h0
    have hsne : s ≠ [] := fun e => by rw [e] at hs0; simp at hs0
    obtain ⟨s', hs'⟩ := last_split hsne
    obtain ⟨z, hz⟩ : ∃ z, s.getD (s.length - 1) 0 = z := ⟨_, rfl⟩
    rw [hz] at hs'
    have hvu : v ++ u = p ++ s' ∧ x = z := by
      have h1 : (v ++ u) ++ [x] = (p ++ s') ++ [z] := by rw [hws, hs']; simp
      have := List.append_inj' h1 rfl
      exact ⟨this.1, by simpa using this.2⟩
    obtain ⟨hvu, rfl⟩ := hvu
    have hxs : x ∈ s := by rw [hs']; simp
    have hxr : x ∈ r := hrs.mem_iff.2 hxs
    have hxp : x ∉ p := hdis x hxs
    have hyr : y ∉ r := fun h9 => hdis y (hrs.mem_iff.1 h9) hyp
    have hfr : fromL r x = x :: s' := by
      rw [← hrr, List.filter_append, List.filter_cons, if_pos (by simpa using hxp), from_split (fun h9 => hu (List.mem_filter.1 h9).1)]
      have : v.filter (fun t => !p.contains t) ++ u.filter (fun t => !p.contains t) = s' := by
        rw [← List.filter_append, hvu, List.filter_append, filter_in (fun t ht => ht), filter_out (fun t ht => hdis t (by rw [hs']; simp [ht])), List.nil_append]
      rw [List.cons_append, this]
    have hrright : rightL r = true := by
      rw [rightL_iff] at hr ⊢
      refine ⟨by have := hr.1; omega, fun t ht => hr.2.1 t ?_, ?_⟩
      · rw [← hrr] at ht; exact (List.mem_filter.1 ht).1
      · rw [← hrr]; exact hr.2.2.sublist List.filter_sublist
    have hsp : ∀ t ∈ p, t ∈ u ++ x :: v := fun t ht => hw.mem_iff.1 (by rw [hws]; simp [ht])
    have hpright : rightL p = true := by
      rw [rightL_iff] at hr ⊢
      refine ⟨by have := hr.1; omega, fun t ht => hr.2.1 t (hsp t ht), ?_⟩
      rw [hws, List.nodup_append] at hnw
      exact hnw.1
    obtain ⟨q, hq⟩ : ∃ q, p.getD 0 0 = q := ⟨_, rfl⟩
    obtain ⟨pt, hpt⟩ : ∃ pt, p = q :: pt := by
      cases p with
      | nil => simp at hp0
      | cons a t => exact ⟨t, by rw [← hq]; rfl⟩
    have hfp : fromL p q = p := by
      rw [hpt]; unfold fromL; rw [List.idxOf_cons_self]; simp
    obtain ⟨u2, v2, e2, hu2⟩ := at_split ((plain_mem hrright x).2 hxr)
    have hfr2 : x :: v2 ++ u2 = x :: s' := by rw [← hfr, ← plain_from hrright hxr, e2, from_split hu2]
    have hj : insB (plainR r) x (fromL p q) = u2 ++ x :: (p ++ v2) := by rw [hfp, e2, ins_split hu2]
    have hfj : fromL (u2 ++ x :: (p ++ v2)) x = fromL (u ++ x :: v) x := by
      rw [from_split hu2, from_split hu]
      have h9 : v2 ++ u2 = s' := by simpa using hfr2
      show x :: (p ++ v2 ++ u2) = x :: (v ++ u)
      rw [hvu, List.append_assoc, h9]
    have hjr : rightL (u2 ++ x :: (p ++ v2)) = true := by
      refine right_perm ((from_perm x).symm.trans ?_) hr
      rw [← hfj]; exact from_perm x
    refine ⟨u2 ++ x :: (p ++ v2), ?_, same_of hjr hr hfj, ?_, hxr, hyr⟩
    · rw [hq]
      unfold joinR
      rw [if_pos ⟨⟨hpright, by rw [hpt]; simp⟩, ⟨hrright, hxr⟩, by rw [hj]; exact hjr⟩, hj]
    · rw [next_is hr (by simp), hq, from_split hu]
      have h2 : 2 ≤ (u ++ x :: v).length := by omega
      have h1 : ((1 : Int) % ((u ++ x :: v).length : Int)).toNat = 1 := by rw [Int.emod_eq_of_lt (by omega) (by omega)]; rfl
      rw [h1]
      show ((x :: (v ++ u)).getD 1 0, true) = _
      rw [hvu, hpt]; rfl
end Go.Proofs.Ytllpfegnpakadaa.Plain

/- Plain words of towers: next, built, head, walks, levels. No program in it. -/
namespace Go.Proofs.Ytllpfegnpakadaa.Plain
/-- how far on until one is so (least, from 1 on), of n places -/
def farK (f : Nat → Bool) (n : Nat) : Nat := ((List.range n).find? (fun k => f (k + 1))).getD 0 + 1
theorem farK_of (f : Nat → Bool) (n k : Nat) (h1 : 1 ≤ k) (hk : k ≤ n) (hb : ∀ j, 1 ≤ j → j < k → f j = false) (ht : f k = true) : farK f n = k := by
  unfold farK
  have : (List.range n).find? (fun k => f (k + 1)) = some (k - 1) := by
    rw [List.find?_range_eq_some]
    refine ⟨by rw [show k - 1 + 1 = k by omega]; exact ht, List.mem_range.2 (by omega), fun j hj => ?_⟩
    rw [hb (j + 1) (by omega) (by omega)]; rfl
  rw [this]; show k - 1 + 1 = k; omega
theorem farK_spec (f : Nat → Bool) (n : Nat) (h : ∃ k, 1 ≤ k ∧ k ≤ n ∧ f k = true) : 1 ≤ farK f n ∧ farK f n ≤ n ∧ f (farK f n) = true ∧ ∀ j, 1 ≤ j → j < farK f n → f j = false := by
  obtain ⟨k, h1, h2, h3⟩ := h
  cases hf : (List.range n).find? (fun k => f (k + 1)) with
  | none =>
    rw [List.find?_eq_none] at hf
    have := hf (k - 1) (List.mem_range.2 (by omega))
    rw [show k - 1 + 1 = k by omega] at this
    exact absurd h3 this
  | some d =>
    have he : farK f n = d + 1 := by unfold farK; rw [hf]; rfl
    rw [List.find?_range_eq_some] at hf
    rw [he]
    refine ⟨by omega, by have := List.mem_range.1 hf.2.1; omega, hf.1, fun j h4 h5 => ?_⟩
    have := hf.2.2 (j - 1) (by omega)
    rw [show j - 1 + 1 = j by omega] at this
    simpa using this
def above (hs : List Int) (i h : Nat) (k : Nat) : Bool := decide ((h : Int) < hs.getD ((i + k) % hs.length) 0)
def nextP (hs : List Int) (i h : Nat) : Nat := (i + farK (above hs i h) hs.length) % hs.length
def nextsP (hs : List Int) (i : Nat) : List Int := (List.range (hs.getD i 0).toNat).map (fun h => (nextP hs i h : Int))
theorem nextsP_len (hs : List Int) (i : Nat) : (nextsP hs i).length = (hs.getD i 0).toNat := by simp [nextsP]
theorem nextsP_at (hs : List Int) (i h : Nat) (hh : h < (hs.getD i 0).toNat) : (nextsP hs i).getD h 0 = (nextP hs i h : Int) := by
  unfold nextsP
  rw [List.getD_eq_getElem?_getD, List.getElem?_map, List.getElem?_range hh]; rfl
/-- a tower, as it is handed in -/
structure Tw where
  tokens : List Int
  heights : List Int
  next : List (List Int)
deriving DecidableEq
def noTw : Tw := ⟨[], [], []⟩
def hOk (x : Int) : Bool := decide (1 ≤ x) && decide (x ≤ 8)
def mayB (tokens heights : List Int) : Bool := rightL tokens && decide (tokens.length ≠ 0) && decide (heights.length = tokens.length) && heights.all hOk
def twOf (tokens heights : List Int) : Tw := ⟨tokens, heights, (List.range heights.length).map (nextsP heights)⟩
def buildP (tokens heights : List Int) : Tw × Int := if mayB tokens heights = true then (twOf tokens heights, 0) else (noTw, 1)
theorem mayB_iff (tokens heights : List Int) : mayB tokens heights = true ↔ rightL tokens = true ∧ tokens.length ≠ 0 ∧ heights.length = tokens.length ∧ ∀ x ∈ heights, 1 ≤ x ∧ x ≤ 8 := by
  unfold mayB
  rw [Bool.and_eq_true, Bool.and_eq_true, Bool.and_eq_true, decide_eq_true_eq, decide_eq_true_eq, List.all_eq_true]
  constructor
  · rintro ⟨⟨⟨h1, h2⟩, h3⟩, h4⟩
    refine ⟨h1, h2, h3, fun x hx => ?_⟩
    have := h4 x hx
    unfold hOk at this
    rw [Bool.and_eq_true, decide_eq_true_eq, decide_eq_true_eq] at this; exact this
  · rintro ⟨h1, h2, h3, h4⟩
    refine ⟨⟨⟨h1, h2⟩, h3⟩, fun x hx => ?_⟩
    unfold hOk
    rw [Bool.and_eq_true, decide_eq_true_eq, decide_eq_true_eq]; exact h4 x hx
def rightTw (t : Tw) : Bool := decide (buildP t.tokens t.heights = (t, 0))
theorem rightTw_iff (t : Tw) : rightTw t = true ↔ mayB t.tokens t.heights = true ∧ t = twOf t.tokens t.heights := by
  unfold rightTw
  rw [decide_eq_true_eq]
  unfold buildP
  split
  · rename_i h
    constructor
    · intro h2; exact ⟨h, (congrArg Prod.fst h2).symm⟩
    · rintro ⟨_, h2⟩; rw [← h2]
  · rename_i h
    constructor
    · intro h2; have := congrArg Prod.snd h2; cases this
    · rintro ⟨h2, _⟩; exact absurd h2 h
theorem right_built {tokens heights : List Int} (h : mayB tokens heights = true) : rightTw (twOf tokens heights) = true := (rightTw_iff _).2 ⟨h, rfl⟩
/-- what is next is above, and nothing between is -/
theorem next_spec {hs : List Int} {i h : Nat} (hi : i < hs.length) (hh : (h : Int) < hs.getD i 0) : nextP hs i h < hs.length ∧ (h : Int) < hs.getD (nextP hs i h) 0 ∧ ∃ k, 1 ≤ k ∧ k ≤ hs.length ∧ nextP hs i h = (i + k) % hs.length ∧ farK (above hs i h) hs.length = k ∧ ∀ j, 1 ≤ j → j < k → hs.getD ((i + j) % hs.length) 0 ≤ h := by
  have hn : 0 < hs.length := by omega
  obtain ⟨h1, h2, h3, h4⟩ := farK_spec (above hs i h) hs.length ⟨hs.length, by omega, Nat.le_refl _, by
    unfold above
    rw [Nat.add_mod_right, Nat.mod_eq_of_lt hi]; exact decide_eq_true hh⟩
  refine ⟨Nat.mod_lt _ hn, of_decide_eq_true h3, _, h1, h2, rfl, rfl, fun j h5 h6 => ?_⟩
  have := h4 j h5 h6
  unfold above at this
  rw [decide_eq_false_iff_not] at this
  omega
end Go.Proofs.Ytllpfegnpakadaa.Plain

/- Plain words of a tower's laws: levels go round, walks end at the greatest height, levels add up. No program in it. -/
namespace Go.Proofs.Ytllpfegnpakadaa.Plain
/-- places above a level -/
def lv (hs : List Int) (h : Int) : List Nat := (List.range hs.length).filter (fun i => decide (h < hs.getD i 0))
theorem lv_mem (hs : List Int) (h : Int) (i : Nat) : i ∈ lv hs h ↔ i < hs.length ∧ h < hs.getD i 0 := by
  unfold lv; rw [List.mem_filter, List.mem_range, decide_eq_true_eq]
theorem lv_rise (hs : List Int) (h : Int) : (lv hs h).Pairwise (· < ·) := List.pairwise_lt_range.filter _
theorem nat_mem {l : List Nat} {i : Nat} (h : i < l.length) : l.getD i 0 ∈ l := by
  rw [List.getD_eq_getElem?_getD, List.getElem?_eq_getElem h]; exact List.getElem_mem h
theorem rise_lt {l : List Nat} (hp : l.Pairwise (· < ·)) {a b : Nat} (h : a < b) (hb : b < l.length) : l.getD a 0 < l.getD b 0 := by
  rw [List.pairwise_iff_getElem] at hp
  have := hp a b (by omega) hb h
  rw [List.getD_eq_getElem?_getD, List.getD_eq_getElem?_getD, List.getElem?_eq_getElem (by omega), List.getElem?_eq_getElem hb]
  exact this
theorem rise_at {l : List Nat} {x : Nat} (hx : x ∈ l) : ∃ j, j < l.length ∧ l.getD j 0 = x := by
  obtain ⟨j, hj, e⟩ := List.getElem_of_mem hx
  exact ⟨j, hj, by rw [List.getD_eq_getElem?_getD, List.getElem?_eq_getElem hj]; exact e⟩
/-- along a level one comes to the next one, and round -/
theorem lv_round {hs : List Int} {h : Nat} {i : Nat} (hi : i < (lv hs h).length) : nextP hs ((lv hs h).getD i 0) h = (lv hs h).getD ((i + 1) % (lv hs h).length) 0 := by
  have hp := lv_rise hs h
  have hm := lv_mem hs h
  obtain ⟨l, hl⟩ : ∃ l, lv hs h = l := ⟨_, rfl⟩
  rw [hl] at hi hp hm ⊢
  obtain ⟨a1, a2⟩ := (hm _).1 (nat_mem hi)
  obtain ⟨p, hpp⟩ : ∃ p, l.getD i 0 = p := ⟨_, rfl⟩
  rw [hpp] at a1 a2 ⊢
  have hno : ∀ q, q < hs.length → (∀ j, j < l.length → l.getD j 0 ≠ q) → decide ((h : Int) < hs.getD q 0) = false := fun q hq hn => by
    rw [decide_eq_false_iff_not]
    intro hc
    obtain ⟨j, h1, h2⟩ := rise_at ((hm q).2 ⟨hq, hc⟩)
    exact hn j h1 h2
  unfold nextP
  rcases Nat.lt_or_ge (i + 1) l.length with hlt | hge
  · rw [Nat.mod_eq_of_lt hlt]
    obtain ⟨b1, b2⟩ := (hm _).1 (nat_mem hlt)
    have hpq := rise_lt hp (Nat.lt_succ_self i) hlt
    rw [hpp] at hpq
    obtain ⟨p', hp'⟩ : ∃ p', l.getD (i + 1) 0 = p' := ⟨_, rfl⟩
    rw [Nat.succ_eq_add_one, hp'] at hpq
    rw [hp'] at b1 b2 ⊢
    rw [farK_of (above hs p h) hs.length (p' - p) (by omega) (by omega) (fun j h1 h2 => ?_) (by unfold above; rw [show p + (p' - p) = p' by omega, Nat.mod_eq_of_lt b1]; exact decide_eq_true b2), show p + (p' - p) = p' by omega, Nat.mod_eq_of_lt b1]
    unfold above
    rw [Nat.mod_eq_of_lt (by omega)]
    refine hno _ (by omega) fun k hk e => ?_
    rcases Nat.lt_or_ge k (i + 1) with h3 | h3
    · have : l.getD k 0 ≤ p := by
        rcases Nat.lt_or_ge k i with h4 | h4
        · have := rise_lt hp h4 hi; omega
        · obtain rfl : k = i := by omega
          omega
      omega
    · have : p' ≤ l.getD k 0 := by
        rcases Nat.lt_or_ge (i + 1) k with h4 | h4
        · have := rise_lt hp h4 hk; omega
        · obtain rfl : k = i + 1 := by omega
          omega
      omega
  · have hle9 : l.length = i + 1 := by omega
    rw [hle9, Nat.mod_self]
    have h0 : 0 < l.length := by omega
    obtain ⟨b1, b2⟩ := (hm _).1 (nat_mem h0)
    have hle : l.getD 0 0 ≤ p := by
      rcases Nat.eq_zero_or_pos i with e | e
      · subst e; omega
      · have := rise_lt hp e hi; omega
    obtain ⟨p', hp'⟩ : ∃ p', l.getD 0 0 = p' := ⟨_, rfl⟩
    rw [hp'] at b1 b2 hle ⊢
    rw [farK_of (above hs p h) hs.length (p' + hs.length - p) (by omega) (by omega) (fun j h1 h2 => ?_) (by unfold above; rw [show p + (p' + hs.length - p) = p' + hs.length by omega, Nat.add_mod_right, Nat.mod_eq_of_lt b1]; exact decide_eq_true b2), show p + (p' + hs.length - p) = p' + hs.length by omega, Nat.add_mod_right, Nat.mod_eq_of_lt b1]
    unfold above
    rcases Nat.lt_or_ge (p + j) hs.length with h3 | h3
    · rw [Nat.mod_eq_of_lt h3]
      refine hno _ h3 fun k hk e => ?_
      have : l.getD k 0 ≤ p := by
        rcases Nat.lt_or_ge k i with h4 | h4
        · have := rise_lt hp h4 hi; omega
        · obtain rfl : k = i := by omega
          omega
      omega
    · rw [show p + j = (p + j - hs.length) + hs.length by omega, Nat.add_mod_right, Nat.mod_eq_of_lt (by omega)]
      refine hno _ (by omega) fun k hk e => ?_
      have : p' ≤ l.getD k 0 := by
        rcases Nat.eq_zero_or_pos k with h4 | h4
        · subst h4; omega
        · have := rise_lt hp h4 hk; omega
      omega
end Go.Proofs.Ytllpfegnpakadaa.Plain

/- Plain words of towers cut and joined, and of links. No program in it. -/
namespace Go.Proofs.Ytllpfegnpakadaa.Plain
abbrev Lk := Int × Int × Int
/-- what the last one of a token and a level tells -/
def lastP (l : List Lk) (tk lv : Int) : Int × Bool := l.foldl (fun r x => if x.1 = tk ∧ x.2.1 = lv then (x.2.2, true) else r) (0, false)
theorem lastP_snoc (l : List Lk) (x : Lk) (tk lv : Int) : lastP (l ++ [x]) tk lv = if x.1 = tk ∧ x.2.1 = lv then (x.2.2, true) else lastP l tk lv := by
  unfold lastP; rw [List.foldl_append]; rfl
/-- how many are so, of the first k -/
def chF (f : Nat → Bool) : Nat → Nat
  | 0 => 0
  | k + 1 => chF f k + (if f k = true then 1 else 0)
theorem chF_le (f : Nat → Bool) : ∀ k, chF f k ≤ k
  | 0 => Nat.le_refl _
  | k + 1 => by have := chF_le f k; unfold chF; split <;> omega
def lk0 : Lk := (0, 0, 0)
def condA (a b : List Lk) (i : Nat) : Bool := !(lastP (a.take i) (a.getD i lk0).1 (a.getD i lk0).2.1).2 && (!(lastP b (a.getD i lk0).1 (a.getD i lk0).2.1).2 || (lastP a (a.getD i lk0).1 (a.getD i lk0).2.1).1 != (lastP b (a.getD i lk0).1 (a.getD i lk0).2.1).1)
def condB (a b : List Lk) (i : Nat) : Bool := !(lastP (b.take i) (b.getD i lk0).1 (b.getD i lk0).2.1).2 && !(lastP a (b.getD i lk0).1 (b.getD i lk0).2.1).2
def changedP (a b : List Lk) : Nat := chF (condA a b) a.length + chF (condB a b) b.length
/-- a token's height -/
def heightP (t : Tw) (x : Int) : Int := if rightTw t = true ∧ x ∈ t.tokens then t.heights.getD (t.tokens.idxOf x) 0 else 0
/-- of tokens that stand in one of two towers -/
def builtP (l : List Int) (a b : Tw) : Tw × Int := buildP l (l.map (fun x => max (heightP a x) (heightP b x)))
def joinT (a : Tw) (x : Int) (b : Tw) (y : Int) : Tw × Bool :=
  if rightTw a = true ∧ rightTw b = true ∧ (joinR a.tokens x b.tokens y).2 = true then ((builtP (joinR a.tokens x b.tokens y).1 a b).1, decide ((builtP (joinR a.tokens x b.tokens y).1 a b).2 = 0)) else (noTw, false)
def fromT (t : Tw) (x : Int) : Tw × Bool :=
  if rightTw t = true ∧ (fromR t.tokens x).2 = true then ((builtP (fromR t.tokens x).1 t t).1, decide ((builtP (fromR t.tokens x).1 t t).2 = 0)) else (noTw, false)
def cutT (t : Tw) (x y : Int) : Tw × Tw × Bool :=
  if rightTw t = true ∧ (cutR t.tokens x y).2.2 = true ∧ (cutR t.tokens x y).1.length ≠ 0 then ((builtP (cutR t.tokens x y).1 t t).1, (builtP (cutR t.tokens x y).2.1 t t).1, true) else (noTw, noTw, false)
/-- links of one token, by levels -/
def linkP (tk hs : List Int) (i h : Nat) : Lk := (tk.getD i 0, (h : Int), tk.getD (nextP hs i h) 0)
def rowP (tk hs : List Int) (i n : Nat) : List Lk := (List.range n).map (linkP tk hs i)
def linksF (tk hs : List Int) : Nat → List Lk
  | 0 => []
  | i + 1 => linksF tk hs i ++ rowP tk hs i (hs.getD i 0).toNat
def linksP (t : Tw) : List Lk := if rightTw t = true then linksF t.tokens t.heights t.heights.length else []
theorem rowP_succ (tk hs : List Int) (i n : Nat) : rowP tk hs i (n + 1) = rowP tk hs i n ++ [linkP tk hs i n] := by
  unfold rowP; rw [List.range_succ, List.map_append]; rfl
theorem rowP_len (tk hs : List Int) (i n : Nat) : (rowP tk hs i n).length = n := by simp [rowP]
theorem linksF_len {tk hs : List Int} (h8 : ∀ j, j < hs.length → hs.getD j 0 ≤ 8) : ∀ k, k ≤ hs.length → (linksF tk hs k).length ≤ 8 * k
  | 0, _ => by simp [linksF]
  | k + 1, hk => by
    have h1 := linksF_len (tk := tk) h8 k (by omega)
    have h2 := h8 k (by omega)
    unfold linksF
    rw [List.length_append, rowP_len]; omega
end Go.Proofs.Ytllpfegnpakadaa.Plain

/- Plain words of changed links: each pair of a token and a level once. No program in it. -/
namespace Go.Proofs.Ytllpfegnpakadaa.Plain
abbrev LKey := Int × Int
def keyL (e : Lk) : LKey := (e.1, e.2.1)
theorem nodup_len_le {α : Type} [DecidableEq α] : ∀ (l X : List α), l.Nodup → (∀ x ∈ l, x ∈ X) → l.length ≤ X.length
  | [], _, _, _ => Nat.zero_le _
  | a :: l, X, hn, hs => by
    rw [List.nodup_cons] at hn
    have ha := hs a (by simp)
    have h := nodup_len_le l (X.erase a) hn.2 fun x hx => by
      have hne : x ≠ a := fun e => hn.1 (e ▸ hx)
      exact (List.mem_erase_of_ne hne).2 (hs x (by simp [hx]))
    rw [List.length_erase_of_mem ha] at h
    have : 0 < X.length := List.length_pos_of_mem ha
    rw [List.length_cons]; omega
theorem nodup_len_eq {α : Type} [DecidableEq α] {l X : List α} (h1 : l.Nodup) (h2 : X.Nodup) (h : ∀ x, x ∈ l ↔ x ∈ X) : l.length = X.length :=
  Nat.le_antisymm (nodup_len_le l X h1 fun x hx => (h x).1 hx) (nodup_len_le X l h2 fun x hx => (h x).2 hx)
theorem lastP_has (l : List Lk) (u v : Int) : (lastP l u v).2 = true ↔ (u, v) ∈ l.map keyL := by
  suffices H : ∀ n (l : List Lk), l.length = n → ((lastP l u v).2 = true ↔ (u, v) ∈ l.map keyL) from H _ l rfl
  intro n
  induction n with
  | zero => intro l hl; obtain rfl := List.eq_nil_of_length_eq_zero hl; simp [lastP]
  | succ n ih =>
    intro l hl
    obtain ⟨m, x, rfl⟩ : ∃ m x, l = m ++ [x] := ⟨l.dropLast, l.getLast (by intro h; subst h; simp at hl), (List.dropLast_concat_getLast _).symm⟩
    rw [List.length_append, List.length_singleton] at hl
    rw [lastP_snoc, List.map_append, List.mem_append]
    by_cases h : x.1 = u ∧ x.2.1 = v
    · rw [if_pos h]
      refine ⟨fun _ => .inr (by rw [List.map_singleton, List.mem_singleton]; unfold keyL; rw [h.1, h.2]), fun _ => rfl⟩
    · rw [if_neg h, ih m (by omega)]
      refine ⟨.inl, fun h2 => h2.elim id fun h3 => ?_⟩
      rw [List.map_singleton, List.mem_singleton] at h3
      unfold keyL at h3
      exact absurd ⟨(congrArg Prod.fst h3).symm, (congrArg Prod.snd h3).symm⟩ h
/-- the last one of a pair is one of them -/
theorem lastP_mem (l : List Lk) (u v : Int) (h : (lastP l u v).2 = true) : (u, v, (lastP l u v).1) ∈ l := by
  suffices H : ∀ n (l : List Lk), l.length = n → (lastP l u v).2 = true → (u, v, (lastP l u v).1) ∈ l from H _ l rfl h
  intro n
  induction n with
  | zero => intro l hl h; obtain rfl := List.eq_nil_of_length_eq_zero hl; cases h
  | succ n ih =>
    intro l hl h
    obtain ⟨m, x, rfl⟩ : ∃ m x, l = m ++ [x] := ⟨l.dropLast, l.getLast (by intro h; subst h; simp at hl), (List.dropLast_concat_getLast _).symm⟩
    rw [List.length_append, List.length_singleton] at hl
    rw [lastP_snoc] at h ⊢
    rw [List.mem_append]
    by_cases h9 : x.1 = u ∧ x.2.1 = v
    · rw [if_pos h9]
      exact .inr (by rw [List.mem_singleton, ← h9.1, ← h9.2])
    · rw [if_neg h9] at h ⊢
      exact .inl (ih m (by omega) h)
/-- the pairs of the first k, each once -/
def dkF (l : List Lk) : Nat → List LKey
  | 0 => []
  | k + 1 => if (lastP (l.take k) (l.getD k lk0).1 (l.getD k lk0).2.1).2 = true then dkF l k else dkF l k ++ [keyL (l.getD k lk0)]
theorem lkt_snoc {l : List Lk} {k : Nat} (h : k < l.length) : l.take (k + 1) = l.take k ++ [l.getD k lk0] := by
  rw [List.take_succ_eq_append_getElem h, List.getD_eq_getElem?_getD, List.getElem?_eq_getElem h]; rfl
theorem dkF_good (l : List Lk) : ∀ k, k ≤ l.length → (dkF l k).Nodup ∧ ∀ x, x ∈ dkF l k ↔ x ∈ (l.take k).map keyL
  | 0, _ => by simp [dkF]
  | k + 1, hk => by
    obtain ⟨h1, h2⟩ := dkF_good l k (by omega)
    have hl := lastP_has (l.take k) (l.getD k lk0).1 (l.getD k lk0).2.1
    unfold dkF
    by_cases h : (lastP (l.take k) (l.getD k lk0).1 (l.getD k lk0).2.1).2 = true
    · rw [if_pos h]
      refine ⟨h1, fun x => ?_⟩
      rw [h2, lkt_snoc (by omega), List.map_append, List.mem_append, List.map_singleton, List.mem_singleton]
      refine ⟨.inl, fun h3 => h3.elim id fun h4 => ?_⟩
      rw [h4]; exact hl.1 h
    · rw [if_neg h]
      have hn : keyL (l.getD k lk0) ∉ dkF l k := fun h3 => h (hl.2 ((h2 _).1 h3))
      refine ⟨?_, fun x => ?_⟩
      · rw [List.nodup_append]
        exact ⟨h1, by simp, fun a ha b hb => by rw [List.mem_singleton] at hb; subst hb; exact fun e => hn (e ▸ ha)⟩
      · rw [List.mem_append, h2, lkt_snoc (by omega), List.map_append, List.mem_append, List.map_singleton]
def dk (l : List Lk) : List LKey := dkF l l.length
theorem dk_nodup (l : List Lk) : (dk l).Nodup := (dkF_good l _ (Nat.le_refl _)).1
theorem dk_mem (l : List Lk) (x : LKey) : x ∈ dk l ↔ x ∈ l.map keyL := by
  have := (dkF_good l _ (Nat.le_refl _)).2 x
  rw [List.take_length] at this; exact this
theorem chF_dk (l : List Lk) (g : LKey → Bool) : ∀ k, chF (fun i => !(lastP (l.take i) (l.getD i lk0).1 (l.getD i lk0).2.1).2 && g (keyL (l.getD i lk0))) k = ((dkF l k).filter g).length
  | 0 => rfl
  | k + 1 => by
    have ih := chF_dk l g k
    unfold chF dkF
    rw [ih]
    by_cases h : (lastP (l.take k) (l.getD k lk0).1 (l.getD k lk0).2.1).2 = true
    · rw [if_pos h, h]; simp
    · rw [if_neg h]
      rw [Bool.not_eq_true] at h
      rw [h, List.filter_append, List.length_append]
      by_cases h2 : g (keyL (l.getD k lk0)) = true
      · rw [h2, List.filter_cons_of_pos h2]; rfl
      · rw [List.filter_cons_of_neg h2]
        rw [Bool.not_eq_true] at h2
        rw [h2]; rfl
def gA (a b : List Lk) (k : LKey) : Bool := !(lastP b k.1 k.2).2 || (lastP a k.1 k.2).1 != (lastP b k.1 k.2).1
def gB (a : List Lk) (k : LKey) : Bool := !(lastP a k.1 k.2).2
theorem changed_dk (a b : List Lk) : changedP a b = ((dk a).filter (gA a b)).length + ((dk b).filter (gB a)).length := by
  unfold changedP dk
  rw [← chF_dk a (gA a b), ← chF_dk b (gB a)]
  rfl
theorem has_dk (l : List Lk) (k : LKey) : (lastP l k.1 k.2).2 = true ↔ k ∈ dk l := by rw [lastP_has, dk_mem]
theorem filter_or {α : Type} (p q : α → Bool) : ∀ l : List α, (l.filter (fun x => p x || q x)).length = (l.filter p).length + (l.filter (fun x => !p x && q x)).length
  | [] => rfl
  | x :: l => by
    have ih := filter_or p q l
    cases hp : p x <;> cases hq : q x <;> simp [List.filter_cons, hp, hq, ih] <;> omega
/-- whichever is the first -/
theorem changed_symm (a b : List Lk) : changedP a b = changedP b a := by
  rw [changed_dk, changed_dk]
  have e1 : ((dk a).filter (gA a b)).length = ((dk a).filter (gB b)).length + ((dk a).filter (fun k => !gB b k && (lastP a k.1 k.2).1 != (lastP b k.1 k.2).1)).length := filter_or (gB b) (fun k => (lastP a k.1 k.2).1 != (lastP b k.1 k.2).1) (dk a)
  have e2 : ((dk b).filter (gA b a)).length = ((dk b).filter (gB a)).length + ((dk b).filter (fun k => !gB a k && (lastP b k.1 k.2).1 != (lastP a k.1 k.2).1)).length := filter_or (gB a) (fun k => (lastP b k.1 k.2).1 != (lastP a k.1 k.2).1) (dk b)
  have e3 : ((dk a).filter (fun k => !gB b k && (lastP a k.1 k.2).1 != (lastP b k.1 k.2).1)).length = ((dk b).filter (fun k => !gB a k && (lastP b k.1 k.2).1 != (lastP a k.1 k.2).1)).length := by
    refine nodup_len_eq ((dk_nodup a).filter _) ((dk_nodup b).filter _) fun k => ?_
    rw [List.mem_filter, List.mem_filter]
    unfold gB
    rw [Bool.not_not, Bool.not_not, Bool.and_eq_true, Bool.and_eq_true, bne_iff_ne, bne_iff_ne, has_dk, has_dk]
    exact ⟨fun h => ⟨h.2.1, h.1, fun e => h.2.2 e.symm⟩, fun h => ⟨h.2.1, h.1, fun e => h.2.2 e.symm⟩⟩
  omega
theorem changed_self (a : List Lk) : changedP a a = 0 := by
  rw [changed_dk]
  have h1 : (dk a).filter (gA a a) = [] := List.filter_eq_nil_iff.2 fun k hk => by
    unfold gA
    rw [(has_dk a k).2 hk]; simp
  have h2 : (dk a).filter (gB a) = [] := List.filter_eq_nil_iff.2 fun k hk => by
    unfold gB
    rw [(has_dk a k).2 hk]; simp
  rw [h1, h2]; rfl
theorem changed_le (a b : List Lk) : changedP a b ≤ a.length + b.length := by
  unfold changedP
  have := chF_le (condA a b) a.length
  have := chF_le (condB a b) b.length
  omega
/-- links of which each pair stands once -/
def Once15 (l : List Lk) : Prop := ∀ x ∈ l, ∀ y ∈ l, keyL x = keyL y → x = y
/-- few are others, where few pairs are -/
theorem changed_few {a b : List Lk} (ha : Once15 a) (hb : Once15 b) (hk : ∀ k, k ∈ a.map keyL ↔ k ∈ b.map keyL) (X : List LKey) (hX : ∀ e ∈ a, e ∉ b → keyL e ∈ X) : changedP a b ≤ X.length := by
  rw [changed_dk]
  have h2 : (dk b).filter (gB a) = [] := List.filter_eq_nil_iff.2 fun k hkb => by
    unfold gB
    rw [(has_dk a k).2 ((dk_mem a k).2 ((hk k).2 ((dk_mem b k).1 hkb)))]; simp
  have h1 : ((dk a).filter (gA a b)).length ≤ X.length := by
    refine nodup_len_le _ X ((dk_nodup a).filter _) fun k hka => ?_
    rw [List.mem_filter] at hka
    obtain ⟨h3, h4⟩ := hka
    have h5 := (dk_mem a k).1 h3
    have h6 := (has_dk a k).2 h3
    have h7 := (has_dk b k).2 ((dk_mem b k).2 ((hk k).1 h5))
    unfold gA at h4
    rw [h7] at h4
    simp only [Bool.not_true, Bool.false_or, bne_iff_ne] at h4
    have hma := lastP_mem a k.1 k.2 h6
    have hmb := lastP_mem b k.1 k.2 h7
    have := hX _ hma fun h8 => h4 (by
      have := hb _ h8 _ hmb rfl
      exact congrArg (fun x => x.2.2) this)
    exact this
  rw [h2]; exact h1
theorem changed_none {a b : List Lk} (ha : Once15 a) (hb : Once15 b) (h : ∀ e, e ∈ a ↔ e ∈ b) : changedP a b = 0 := by
  have := changed_few ha hb (fun k => by
    rw [List.mem_map, List.mem_map]
    exact ⟨fun ⟨e, h1, h2⟩ => ⟨e, (h e).1 h1, h2⟩, fun ⟨e, h1, h2⟩ => ⟨e, (h e).2 h1, h2⟩⟩) [] (fun e h1 h2 => absurd ((h e).1 h1) h2)
  simpa using this
end Go.Proofs.Ytllpfegnpakadaa.Plain

/- Plain words of links as a set: a level's tokens follow one another round. No program in it. -/
namespace Go.Proofs.Ytllpfegnpakadaa.Plain
/-- the one behind, going round -/
def nextC (l : List Int) (x : Int) : Int := ((fromL l x).drop 1 ++ [x]).getD 0 0
/-- tokens above a level -/
def aboveL (l : List Int) (f : Int → Int) (h : Int) : List Int := l.filter (fun x => decide (h < f x))
theorem above_mem {l : List Int} {f : Int → Int} {h x : Int} : x ∈ aboveL l f h ↔ x ∈ l ∧ h < f x := by
  unfold aboveL; rw [List.mem_filter, decide_eq_true_eq]
theorem above_nodup {l : List Int} (f : Int → Int) (h : Int) (hn : l.Nodup) : (aboveL l f h).Nodup := hn.filter _
theorem above_app (a b : List Int) (f : Int → Int) (h : Int) : aboveL (a ++ b) f h = aboveL a f h ++ aboveL b f h := List.filter_append ..
theorem above_congr {l : List Int} {f g : Int → Int} (h : Int) (e : ∀ x ∈ l, f x = g x) : aboveL l f h = aboveL l g h :=
  List.filter_congr fun x hx => by rw [e x hx]
theorem above_rot {a b : List Int} (f : Int → Int) (h : Int) (hr : Rot a b) : Rot (aboveL a f h) (aboveL b f h) := by
  obtain ⟨u, v, rfl, rfl⟩ := hr
  exact ⟨aboveL u f h, aboveL v f h, above_app .., above_app ..⟩
theorem nextC_rot {a b : List Int} (hr : Rot a b) (hn : a.Nodup) {x : Int} (hx : x ∈ a) : nextC a x = nextC b x := by
  unfold nextC; rw [rot_one hr hn hx]
theorem drop_head {G : List Int} {x : Int} (h : 1 < G.length) : (G.drop 1 ++ [x]).getD 0 0 = G.getD 1 0 := by
  rcases G with _ | ⟨a, _ | ⟨b, G⟩⟩
  · simp at h
  · simp at h
  · rfl
theorem nextC_at {F : List Int} (hn : F.Nodup) {j : Nat} (hj : j < F.length) : nextC F (F.getD j 0) = F.getD ((j + 1) % F.length) 0 := by
  have hx : F.getD j 0 ∈ F := by rw [List.getD_eq_getElem?_getD, List.getElem?_eq_getElem hj]; exact List.getElem_mem hj
  have hi := ints_idx_at hn hj
  have hl := from_len F (F.getD j 0)
  unfold nextC
  rcases Nat.lt_or_ge 1 F.length with h | h
  · have h1 := from_at hx 1 h
    rw [hi] at h1
    rw [← h1]
    exact drop_head (by rw [hl]; exact h)
  · have h1 : F.length = 1 := by omega
    obtain rfl : j = 0 := by omega
    have h2 : (fromL F (F.getD 0 0)).drop 1 = [] := List.eq_nil_of_length_eq_zero (by rw [List.length_drop, hl]; omega)
    rw [h2, h1]; rfl
theorem map_getD {f : Int → Int} {l : List Int} {i : Nat} (h : i < l.length) : (l.map f).getD i 0 = f (l.getD i 0) := by
  rw [List.getD_eq_getElem?_getD, List.getElem?_map, List.getD_eq_getElem?_getD, List.getElem?_eq_getElem h]; rfl
theorem above_lv (tk : List Int) (f : Int → Int) (h : Int) : aboveL tk f h = (lv (tk.map f) h).map (fun i => tk.getD i 0) := by
  have e : tk = (List.range tk.length).map (fun i => tk.getD i 0) := by
    apply List.ext_getElem?
    intro i
    rw [List.getElem?_map]
    by_cases hi : i < tk.length
    · rw [List.getElem?_range hi, List.getElem?_eq_getElem hi, Option.map_some, List.getD_eq_getElem?_getD, List.getElem?_eq_getElem hi]; rfl
    · rw [List.getElem?_eq_none (by omega), List.getElem?_eq_none (by simpa using hi)]; rfl
  unfold aboveL lv
  conv => lhs; rw [e]
  rw [List.filter_map, List.length_map]
  congr 1
  refine List.filter_congr fun i hi => ?_
  rw [map_getD (List.mem_range.1 hi)]; rfl
/-- Next of a level tells the one behind of that level -/
theorem next_above {tk : List Int} {f : Int → Int} (hn : tk.Nodup) {i h : Nat} (hi : i < tk.length) (hh : (h : Int) < f (tk.getD i 0)) : tk.getD (nextP (tk.map f) i h) 0 = nextC (aboveL tk f h) (tk.getD i 0) := by
  have hm : i ∈ lv (tk.map f) (h : Int) := (lv_mem _ _ _).2 ⟨by rw [List.length_map]; exact hi, by rw [map_getD hi]; exact hh⟩
  obtain ⟨j, hj, e⟩ := rise_at hm
  have hr := lv_round (hs := tk.map f) (h := h) hj
  rw [e] at hr
  have hF := above_lv tk f h
  have hFn := above_nodup f (h : Int) hn
  have hFl : (aboveL tk f h).length = (lv (tk.map f) (h : Int)).length := by rw [hF, List.length_map]
  have hg : ∀ q, q < (lv (tk.map f) (h : Int)).length → (aboveL tk f h).getD q 0 = tk.getD ((lv (tk.map f) (h : Int)).getD q 0) 0 := fun q hq => by
    rw [hF, List.getD_eq_getElem?_getD, List.getElem?_map, List.getD_eq_getElem?_getD (l := lv _ _), List.getElem?_eq_getElem hq]; rfl
  have h9 := nextC_at hFn (j := j) (by rw [hFl]; exact hj)
  rw [hg j hj, e, hFl, hg _ (Nat.mod_lt _ (by omega)), ← hr] at h9
  exact h9.symm
/-- what stands among the links -/
def LS (tk : List Int) (f : Int → Int) (e : Lk) : Prop := e.1 ∈ tk ∧ 0 ≤ e.2.1 ∧ e.2.1 < f e.1 ∧ e.2.2 = nextC (aboveL tk f e.2.1) e.1
theorem linksF_mem (tk hs : List Int) (e : Lk) : ∀ k, e ∈ linksF tk hs k ↔ ∃ i h, i < k ∧ h < (hs.getD i 0).toNat ∧ e = linkP tk hs i h
  | 0 => by simp [linksF]
  | k + 1 => by
    unfold linksF
    rw [List.mem_append, linksF_mem tk hs e k]
    unfold rowP
    rw [List.mem_map]
    constructor
    · rintro (⟨i, h, h1, h2, h3⟩ | ⟨h, h1, h2⟩)
      · exact ⟨i, h, by omega, h2, h3⟩
      · exact ⟨k, h, by omega, List.mem_range.1 h1, h2.symm⟩
    · rintro ⟨i, h, h1, h2, h3⟩
      rcases Nat.lt_or_ge i k with h4 | h4
      · exact .inl ⟨i, h, h4, h2, h3⟩
      · obtain rfl : i = k := by omega
        exact .inr ⟨h, List.mem_range.2 h2, h3.symm⟩
theorem links_LS {tk : List Int} {f : Int → Int} (hn : tk.Nodup) (e : Lk) : e ∈ linksF tk (tk.map f) tk.length ↔ LS tk f e := by
  rw [linksF_mem]
  constructor
  · rintro ⟨i, h, h1, h2, rfl⟩
    rw [map_getD h1] at h2
    have h3 : (h : Int) < f (tk.getD i 0) := by omega
    exact ⟨by show tk.getD i 0 ∈ tk; rw [List.getD_eq_getElem?_getD, List.getElem?_eq_getElem h1]; exact List.getElem_mem h1, by show (0 : Int) ≤ (h : Int); omega, h3, next_above hn h1 h3⟩
  · rintro ⟨h1, h2, h3, h4⟩
    obtain ⟨x, lev, z⟩ := e
    simp only at h1 h2 h3 h4
    obtain ⟨h, rfl⟩ : ∃ h : Nat, lev = h := ⟨lev.toNat, by omega⟩
    have hi := List.idxOf_lt_length_of_mem h1
    have hx := ints_at_idx h1
    refine ⟨tk.idxOf x, h, hi, by rw [map_getD hi, hx]; omega, ?_⟩
    unfold linkP
    rw [next_above hn hi (by rw [hx]; exact h3), hx, ← h4]
theorem LS_once {tk : List Int} {f : Int → Int} {x y : Lk} (hx : LS tk f x) (hy : LS tk f y) (hk : keyL x = keyL y) : x = y := by
  obtain ⟨a, b, c⟩ := x
  obtain ⟨a', b', c'⟩ := y
  unfold keyL at hk
  simp only [Prod.mk.injEq] at hk
  obtain ⟨rfl, rfl⟩ := hk
  have h1 := hx.2.2.2
  have h2 := hy.2.2.2
  simp only at h1 h2
  rw [h1, h2]
theorem LS_congr {tk : List Int} {f g : Int → Int} (h : ∀ x ∈ tk, f x = g x) (e : Lk) : LS tk f e ↔ LS tk g e := by
  unfold LS
  constructor
  · rintro ⟨h1, h2, h3, h4⟩
    exact ⟨h1, h2, by rw [← h _ h1]; exact h3, by rw [← above_congr _ h]; exact h4⟩
  · rintro ⟨h1, h2, h3, h4⟩
    exact ⟨h1, h2, by rw [h _ h1]; exact h3, by rw [above_congr _ h]; exact h4⟩
theorem LS_rot {a b : List Int} (f : Int → Int) (hr : Rot a b) (hn : a.Nodup) (e : Lk) : LS a f e → LS b f e := by
  rintro ⟨h1, h2, h3, h4⟩
  exact ⟨(rot_perm hr).mem_iff.1 h1, h2, h3, by rw [h4]; exact nextC_rot (above_rot f _ hr) (above_nodup _ _ hn) (above_mem.2 ⟨h1, h3⟩)⟩
/-- the last one -/
def lastI (l : List Int) : Int := l.getD (l.length - 1) 0
theorem nextC_left {a b : List Int} {x : Int} (hx : x ∈ a) (hl : x ≠ lastI a) : nextC (a ++ b) x = nextC a x := by
  obtain ⟨u, v, rfl, hu⟩ := at_split hx
  unfold nextC
  rw [List.append_assoc, List.cons_append, from_split hu, from_split hu]
  rcases v with _ | ⟨y, v⟩
  · exact absurd (by unfold lastI; rw [List.length_append, List.length_singleton, Nat.add_sub_cancel, List.getD_eq_getElem?_getD, List.getElem?_append_right (Nat.le_refl _)]; simp) hl
  · rfl
theorem nextC_right {a b : List Int} {x : Int} (hx : x ∈ b) (hl : x ≠ lastI b) (ha : x ∉ a) : nextC (a ++ b) x = nextC b x := by
  obtain ⟨u, v, rfl, hu⟩ := at_split hx
  have hau : x ∉ a ++ u := fun h => (List.mem_append.1 h).elim ha hu
  unfold nextC
  rw [← List.append_assoc, from_split hau, from_split hu]
  rcases v with _ | ⟨y, v⟩
  · exact absurd (by unfold lastI; rw [List.length_append, List.length_singleton, Nat.add_sub_cancel, List.getD_eq_getElem?_getD, List.getElem?_append_right (Nat.le_refl _)]; simp) hl
  · rfl
/-- the pairs that a cut, or a join, changes at most -/
def cutX (P S : List Int) (f : Int → Int) : Nat → List LKey
  | 0 => []
  | m + 1 => cutX P S f m ++ [(lastI (aboveL P f m), (m : Int)), (lastI (aboveL S f m), (m : Int))]
theorem cutX_len (P S : List Int) (f : Int → Int) : ∀ m, (cutX P S f m).length = 2 * m
  | 0 => rfl
  | m + 1 => by unfold cutX; rw [List.length_append, cutX_len P S f m]; simp; omega
theorem cutX_mem (P S : List Int) (f : Int → Int) : ∀ m h : Nat, h < m → (lastI (aboveL P f h), (h : Int)) ∈ cutX P S f m ∧ (lastI (aboveL S f h), (h : Int)) ∈ cutX P S f m
  | 0, h, hh => absurd hh (Nat.not_lt_zero _)
  | m + 1, h, hh => by
    unfold cutX
    rw [List.mem_append, List.mem_append]
    rcases Nat.lt_or_ge h m with h9 | h9
    · exact ⟨.inl (cutX_mem P S f m h h9).1, .inl (cutX_mem P S f m h h9).2⟩
    · obtain rfl : h = m := by omega
      exact ⟨.inr (by simp), .inr (by simp)⟩
theorem cut_links {P S : List Int} {f : Int → Int} (hn : (P ++ S).Nodup) {most : Nat} (hm : ∀ x ∈ P ++ S, f x ≤ most) (e : Lk) (hk : (e.1 ∈ P ∨ e.1 ∈ S) ∧ 0 ≤ e.2.1 ∧ e.2.1 < f e.1) (hx : keyL e ∉ cutX P S f most) :
    (LS (P ++ S) f e ↔ LS P f e ∨ LS S f e) := by
  obtain ⟨x, lev, z⟩ := e
  simp only at hk
  obtain ⟨h1, h2, h3⟩ := hk
  obtain ⟨h, rfl⟩ : ∃ h : Nat, lev = h := ⟨lev.toNat, by omega⟩
  have hhm : h < most := by
    have := hm x (List.mem_append.2 h1)
    omega
  obtain ⟨c1, c2⟩ := cutX_mem P S f most h hhm
  have hPl : x ∈ P → x ≠ lastI (aboveL P f h) := fun _ e => hx (by unfold keyL; simp only; rw [e]; exact c1)
  have hSl : x ∈ S → x ≠ lastI (aboveL S f h) := fun _ e => hx (by unfold keyL; simp only; rw [e]; exact c2)
  rw [List.nodup_append] at hn
  obtain ⟨_, _, hd⟩ := hn
  unfold LS
  simp only
  rw [above_app]
  rcases h1 with hP | hS
  · have e1 := nextC_left (b := aboveL S f h) (above_mem.2 ⟨hP, h3⟩) (hPl hP)
    rw [e1]
    have hnS : x ∉ S := fun hs => hd x hP x hs rfl
    exact ⟨fun hh => .inl ⟨hP, hh.2⟩, fun hh => hh.elim (fun g => ⟨List.mem_append.2 (.inl hP), g.2⟩) fun g => absurd g.1 hnS⟩
  · have hnP : x ∉ P := fun hp => hd x hp x hS rfl
    have e1 := nextC_right (a := aboveL P f h) (above_mem.2 ⟨hS, h3⟩) (hSl hS) (fun hp => hnP (above_mem.1 hp).1)
    rw [e1]
    exact ⟨fun hh => .inr ⟨hS, hh.2⟩, fun hh => hh.elim (fun g => absurd g.1 hnP) fun g => ⟨List.mem_append.2 (.inr hS), g.2⟩⟩
end Go.Proofs.Ytllpfegnpakadaa.Plain

/- Plain words of towers that are cut, joined and turned: heights and links. No program in it. -/
namespace Go.Proofs.Ytllpfegnpakadaa.Plain
theorem right_tok {t : Tw} (hr : rightTw t = true) : rightL t.tokens = true ∧ t.tokens.Nodup ∧ t.tokens ≠ [] ∧ t.heights.length = t.tokens.length ∧ (∀ x ∈ t.heights, 1 ≤ x ∧ x ≤ 8) ∧ t = twOf t.tokens t.heights := by
  obtain ⟨h1, h2⟩ := (rightTw_iff t).1 hr
  obtain ⟨g1, g2, g3, g4⟩ := (mayB_iff _ _).1 h1
  exact ⟨g1, right_nodup g1, fun e => g2 (by rw [e]; rfl), g3, g4, h2⟩
theorem height_at {t : Tw} (hr : rightTw t = true) {i : Nat} (hi : i < t.tokens.length) : heightP t (t.tokens.getD i 0) = t.heights.getD i 0 := by
  obtain ⟨_, hn, _⟩ := right_tok hr
  unfold heightP
  rw [if_pos ⟨hr, by rw [List.getD_eq_getElem?_getD, List.getElem?_eq_getElem hi]; exact List.getElem_mem hi⟩, ints_idx_at hn hi]
theorem heights_map {t : Tw} (hr : rightTw t = true) : t.heights = t.tokens.map (heightP t) := by
  obtain ⟨_, _, _, hl, _⟩ := right_tok hr
  apply List.ext_getElem?
  intro i
  by_cases hi : i < t.tokens.length
  · have h := height_at hr hi
    rw [List.getElem?_map, List.getElem?_eq_getElem hi, List.getElem?_eq_getElem (by omega), Option.map_some]
    rw [List.getD_eq_getElem?_getD, List.getD_eq_getElem?_getD, List.getElem?_eq_getElem hi, List.getElem?_eq_getElem (by omega)] at h
    exact congrArg some h.symm
  · rw [List.getElem?_eq_none (by omega), List.getElem?_eq_none (by rw [List.length_map]; omega)]
theorem height_bd15 {t : Tw} (hr : rightTw t = true) {x : Int} (hx : x ∈ t.tokens) : 1 ≤ heightP t x ∧ heightP t x ≤ 8 := by
  obtain ⟨_, _, _, _, h8, _⟩ := right_tok hr
  have hm : heightP t x ∈ t.tokens.map (heightP t) := List.mem_map.2 ⟨x, hx, rfl⟩
  rw [← heights_map hr] at hm
  exact h8 _ hm
theorem height_out {t : Tw} {x : Int} (hx : x ∉ t.tokens) : heightP t x = 0 := by
  unfold heightP; rw [if_neg (fun h => hx h.2)]
theorem height_ge (t : Tw) (x : Int) : 0 ≤ heightP t x := by
  unfold heightP
  split
  · rename_i h
    have := height_bd15 h.1 h.2
    unfold heightP at this
    rw [if_pos h] at this; omega
  · exact Int.le_refl _
/-- a tower that is built of tokens of two -/
theorem built_of {l : List Int} {a b : Tw} (hl : rightL l = true) (hne : l ≠ []) (g : Int → Int) (hg : ∀ x ∈ l, max (heightP a x) (heightP b x) = g x) (h8 : ∀ x ∈ l, 1 ≤ g x ∧ g x ≤ 8) :
    ∃ t : Tw, builtP l a b = (t, 0) ∧ rightTw t = true ∧ t.tokens = l ∧ ∀ x ∈ l, heightP t x = g x := by
  have hm : l.map (fun x => max (heightP a x) (heightP b x)) = l.map g := List.map_congr_left hg
  have hmay : mayB l (l.map g) = true := (mayB_iff _ _).2 ⟨hl, fun e => hne (List.eq_nil_of_length_eq_zero e), List.length_map .., fun x hx => by
    obtain ⟨y, hy, rfl⟩ := List.mem_map.1 hx
    exact h8 y hy⟩
  have hrt := right_built hmay
  refine ⟨twOf l (l.map g), by unfold builtP; rw [hm]; unfold buildP; rw [if_pos hmay], hrt, rfl, fun x hx => ?_⟩
  have hi := List.idxOf_lt_length_of_mem hx
  have h := height_at hrt (i := l.idxOf x) hi
  rw [show (twOf l (l.map g)).tokens.getD (l.idxOf x) 0 = x from ints_at_idx hx] at h
  rw [h]
  show (l.map g).getD (l.idxOf x) 0 = g x
  rw [map_getD hi, ints_at_idx hx]
theorem tower_ext {a b : Tw} (ha : rightTw a = true) (hb : rightTw b = true) (ht : a.tokens = b.tokens) (hh : ∀ x ∈ a.tokens, heightP a x = heightP b x) : a = b := by
  obtain ⟨_, _, _, _, _, ea⟩ := right_tok ha
  obtain ⟨_, _, _, _, _, eb⟩ := right_tok hb
  have h : a.heights = b.heights := by
    rw [heights_map ha, heights_map hb, ← ht]
    exact List.map_congr_left hh
  rw [ea, eb, ht, h]
theorem links_mem {t : Tw} (hr : rightTw t = true) (e : Lk) : e ∈ linksP t ↔ LS t.tokens (heightP t) e := by
  obtain ⟨_, hn, _, hl, _⟩ := right_tok hr
  unfold linksP
  rw [if_pos hr, hl]
  conv => lhs; rw [heights_map hr]
  exact links_LS hn e
theorem linksF_sum (tk hs : List Int) : ∀ k, k ≤ hs.length → (linksF tk hs k).length = ((hs.take k).map Int.toNat).sum
  | 0, _ => by simp [linksF]
  | k + 1, h => by
    unfold linksF
    rw [List.length_append, linksF_sum tk hs k (by omega), rowP_len, List.take_succ_eq_append_getElem (by omega), List.map_append, List.sum_append, List.getD_eq_getElem?_getD, List.getElem?_eq_getElem (by omega)]
    simp
theorem links_len {t : Tw} (hr : rightTw t = true) : (linksP t).length = (t.tokens.map (fun x => (heightP t x).toNat)).sum := by
  unfold linksP
  rw [if_pos hr, linksF_sum _ _ _ (Nat.le_refl _), List.take_length, heights_map hr, List.map_map]; rfl
theorem sum_perm {a b : List Int} (g : Int → Nat) (h : a.Perm b) : (a.map g).sum = (b.map g).sum := by
  induction h with
  | nil => rfl
  | cons x _ ih => simp only [List.map_cons, List.sum_cons]; rw [ih]
  | swap x y l => simp only [List.map_cons, List.sum_cons]; omega
  | trans _ _ h1 h2 => rw [h1, h2]
theorem from_mem {l : List Int} {x z : Int} : z ∈ fromL l x ↔ z ∈ l := (from_perm x).mem_iff
theorem from_first {l : List Int} (hl : l ≠ []) : fromL l (l.getD 0 0) = l := by
  rcases l with _ | ⟨a, l⟩
  · exact absurd rfl hl
  · have : (a :: l).idxOf ((a :: l).getD 0 0) = 0 := by simp
    unfold fromL
    rw [this]; simp
/-- a tower, turned -/
theorem turn_tower {t : Tw} (hr : rightTw t = true) {x : Int} (hx : x ∈ t.tokens) :
    ∃ f : Tw, fromT t x = (f, true) ∧ rightTw f = true ∧ f.tokens = fromL t.tokens x ∧ (∀ z ∈ t.tokens, heightP f z = heightP t z) ∧ changedP (linksP t) (linksP f) = 0 := by
  obtain ⟨hl, hn, hne, _⟩ := right_tok hr
  have hfr : fromR t.tokens x = (fromL t.tokens x, true) := by unfold fromR; rw [if_pos ⟨hl, hx⟩]
  have hrl : rightL (fromL t.tokens x) = true := right_perm (from_perm x).symm hl
  obtain ⟨f, h1, h2, h3, h4⟩ := built_of (a := t) (b := t) hrl (fun e => by
    have := from_len t.tokens x
    rw [e] at this
    exact hne (List.eq_nil_of_length_eq_zero this.symm)) (heightP t) (fun z _ => by omega) (fun z hz => height_bd15 hr (from_mem.1 hz))
  have h5 : ∀ z ∈ t.tokens, heightP f z = heightP t z := fun z hz => h4 z (from_mem.2 hz)
  refine ⟨f, by unfold fromT; rw [hfr, if_pos ⟨hr, rfl⟩, h1]; rfl, h2, h3, h5, ?_⟩
  refine changed_none (fun a ha b hb hk => LS_once ((links_mem hr a).1 ha) ((links_mem hr b).1 hb) hk) (fun a ha b hb hk => LS_once ((links_mem h2 a).1 ha) ((links_mem h2 b).1 hb) hk) fun e => ?_
  rw [links_mem hr, links_mem h2, h3]
  have hrot := rot_from (l := t.tokens) x
  constructor
  · exact fun h => (LS_congr (fun z hz => (h4 z hz).symm) e).1 (LS_rot (heightP t) hrot hn e h)
  · exact fun h => LS_rot (heightP t) (rot_symm hrot) (right_nodup hrl) e ((LS_congr (fun z hz => h4 z hz) e).1 h)
theorem turn_back {t f : Tw} (hr : rightTw t = true) {x : Int} (hx : x ∈ t.tokens) (hf : rightTw f = true) (ht : f.tokens = fromL t.tokens x) (hh : ∀ z ∈ t.tokens, heightP f z = heightP t z) : fromT f (t.tokens.getD 0 0) = (t, true) := by
  obtain ⟨hl, hn, hne, _⟩ := right_tok hr
  have h0 : t.tokens.getD 0 0 ∈ t.tokens := by
    rw [List.getD_eq_getElem?_getD, List.getElem?_eq_getElem (List.length_pos_iff.2 hne)]; exact List.getElem_mem _
  have hm : t.tokens.getD 0 0 ∈ f.tokens := by rw [ht]; exact from_mem.2 h0
  obtain ⟨g, g1, g2, g3, g4, _⟩ := turn_tower hf hm
  rw [g1]
  have hgt : g.tokens = t.tokens := by
    rw [g3, ht, ← rot_one (rot_from (l := t.tokens) x) hn h0, from_first hne]
  rw [tower_ext g2 hr hgt fun z hz => by rw [hgt] at hz; rw [g4 z (by rw [ht]; exact from_mem.2 hz), hh z hz]]
/-- few links are others, behind a cut or a join -/
theorem changed_cut {P S : List Int} {f : Int → Int} (hn : (P ++ S).Nodup) {most : Nat} (hm : ∀ x ∈ P ++ S, f x ≤ most) {a b : List Lk} (ha : ∀ e, e ∈ a ↔ LS (P ++ S) f e) (hb : ∀ e, e ∈ b ↔ LS P f e ∨ LS S f e) : changedP a b ≤ 2 * most := by
  have hd := (List.nodup_append.1 hn).2.2
  have hkey : ∀ k : LKey, (k ∈ a.map keyL ↔ (k.1 ∈ P ∨ k.1 ∈ S) ∧ 0 ≤ k.2 ∧ k.2 < f k.1) ∧ (k ∈ b.map keyL ↔ (k.1 ∈ P ∨ k.1 ∈ S) ∧ 0 ≤ k.2 ∧ k.2 < f k.1) := fun k => by
    rw [List.mem_map, List.mem_map]
    refine ⟨⟨fun ⟨e, h1, h2⟩ => ?_, fun h => ⟨(k.1, k.2, nextC (aboveL (P ++ S) f k.2) k.1), (ha _).2 ⟨List.mem_append.2 h.1, h.2.1, h.2.2, rfl⟩, rfl⟩⟩, ⟨fun ⟨e, h1, h2⟩ => ?_, fun h => ?_⟩⟩
    · subst h2
      have := (ha e).1 h1
      exact ⟨List.mem_append.1 this.1, this.2.1, this.2.2.1⟩
    · subst h2
      rcases (hb e).1 h1 with h | h
      · exact ⟨.inl h.1, h.2.1, h.2.2.1⟩
      · exact ⟨.inr h.1, h.2.1, h.2.2.1⟩
    · rcases h with ⟨h | h, h2, h3⟩
      · exact ⟨(k.1, k.2, nextC (aboveL P f k.2) k.1), (hb _).2 (.inl ⟨h, h2, h3, rfl⟩), rfl⟩
      · exact ⟨(k.1, k.2, nextC (aboveL S f k.2) k.1), (hb _).2 (.inr ⟨h, h2, h3, rfl⟩), rfl⟩
  have := changed_few (a := a) (b := b) (fun x hx y hy hk => LS_once ((ha x).1 hx) ((ha y).1 hy) hk) (fun x hx y hy hk => by
    have e1 : x.1 = y.1 := congrArg (fun k : LKey => k.1) hk
    rcases (hb x).1 hx with h | h <;> rcases (hb y).1 hy with h' | h'
    · exact LS_once h h' hk
    · exact absurd rfl (hd x.1 h.1 x.1 (by rw [e1]; exact h'.1))
    · exact absurd rfl (hd x.1 (by rw [e1]; exact h'.1) x.1 h.1)
    · exact LS_once h h' hk) (fun k => (hkey k).1.trans (hkey k).2.symm) (cutX P S f most) (fun e h1 h2 => by
    refine Decidable.byContradiction fun hx => h2 ((hb e).2 ?_)
    have h3 := (ha e).1 h1
    exact (cut_links hn hm e ⟨List.mem_append.1 h3.1, h3.2.1, h3.2.2.1⟩ hx).1 h3)
  rw [cutX_len] at this
  exact this
theorem rot_filter {a b : List Int} (q : Int → Bool) (h : Rot a b) : Rot (a.filter q) (b.filter q) := by
  obtain ⟨u, v, rfl, rfl⟩ := h
  exact ⟨u.filter q, v.filter q, List.filter_append .., List.filter_append ..⟩
theorem cut_rot {l : List Int} {x y : Int} (hr : rightL l = true) (hx : x ∈ l) (hy : y ∈ l) :
    ∃ p s, cutR l x y = (l.filter (fun t => !p.contains t), p, true) ∧ Rot l (p ++ s) ∧ Rot (l.filter (fun t => !p.contains t)) s := by
  have hnd := right_nodup hr
  obtain ⟨u, v, rfl, hu⟩ := at_split hx
  have hrot : Rot (u ++ x :: v) (v ++ (u ++ [x])) := ⟨u ++ [x], v, by simp, rfl⟩
  have hsp : cutPart (u ++ x :: v) x y ++ (behind (u ++ x :: v) x).drop ((behind (u ++ x :: v) x).idxOf y + 1) = v ++ (u ++ [x]) := by
    unfold cutPart
    rw [List.take_append_drop, behind_split hu, List.append_assoc]
  obtain ⟨p, hp⟩ : ∃ p, cutPart (u ++ x :: v) x y = p := ⟨_, rfl⟩
  obtain ⟨s, hs⟩ : ∃ s, (behind (u ++ x :: v) x).drop ((behind (u ++ x :: v) x).idxOf y + 1) = s := ⟨_, rfl⟩
  rw [hp, hs] at hsp
  refine ⟨p, s, by unfold cutR; rw [if_pos ⟨hr, hx, hy⟩, hp], by rw [hsp]; exact hrot, ?_⟩
  have h1 := rot_filter (fun t => !p.contains t) hrot
  have hnp : (p ++ s).Nodup := by rw [hsp]; exact (rot_perm hrot).nodup_iff.1 hnd
  have e1 : (v ++ (u ++ [x])).filter (fun t => !p.contains t) = s := by
    rw [← hsp, List.filter_append, filter_in (fun z hz => hz), List.nil_append]
    exact filter_out (fun z hz hzp => (List.nodup_append.1 hnp).2.2 z hzp z hz rfl)
  rw [e1] at h1
  exact h1
/-- a tower, cut -/
theorem cut_tower {t : Tw} (hr : rightTw t = true) {x y : Int} (hx : x ∈ t.tokens) (hy : y ∈ t.tokens) :
    (x = y ∧ cutT t x y = (noTw, noTw, false)) ∨ (x ≠ y ∧ ∃ r p : Tw, cutT t x y = (r, p, true) ∧ rightTw r = true ∧ rightTw p = true ∧ cutR t.tokens x y = (r.tokens, p.tokens, true) ∧ (∀ z ∈ r.tokens, heightP r z = heightP t z) ∧ (∀ z ∈ p.tokens, heightP p z = heightP t z) ∧ ∃ s, Rot t.tokens (p.tokens ++ s) ∧ Rot r.tokens s) := by
  obtain ⟨hl, hn, hne, _⟩ := right_tok hr
  obtain ⟨p, s, c1, c2, c3⟩ := cut_rot hl hx hy
  obtain ⟨r', p', k1, k2, k3, _, k5, _⟩ := ring_cuts hl hx hy
  rw [c1] at k1
  simp only [Prod.mk.injEq, and_true] at k1
  obtain ⟨rfl, rfl⟩ := k1
  obtain ⟨R, hR⟩ : ∃ R, t.tokens.filter (fun t => !p.contains t) = R := ⟨_, rfl⟩
  rw [hR] at c1 c3 k2 k5
  have hsub : ∀ z ∈ R, z ∈ t.tokens := fun z hz => by rw [← hR] at hz; exact (List.mem_filter.1 hz).1
  have hpm : (p ++ s).Perm t.tokens := (rot_perm c2).symm
  have hnp : (p ++ s).Nodup := hpm.nodup_iff.2 hn
  have hpsub : ∀ z ∈ p, z ∈ t.tokens := fun z hz => hpm.mem_iff.1 (List.mem_append.2 (.inl hz))
  have hRn : R.Nodup := by rw [← hR]; exact hn.filter _
  have hbd := ((rightL_iff _).1 hl)
  have hRr : rightL R = true := (rightL_iff _).2 ⟨by omega, fun z hz => hbd.2.1 z (hsub z hz), hRn⟩
  have hpr : rightL p = true := (rightL_iff _).2 ⟨by omega, fun z hz => hbd.2.1 z (hpsub z hz), (List.nodup_append.1 hnp).1⟩
  by_cases e : x = y
  · refine .inl ⟨e, ?_⟩
    unfold cutT
    rw [c1, if_neg (fun h => h.2.2 (k5.1 e))]
  · have hR0 : R.length ≠ 0 := fun h => e (k5.2 h)
    refine .inr ⟨e, ?_⟩
    obtain ⟨tr, r1, r2, r3, r4⟩ := built_of (a := t) (b := t) hRr (fun h => hR0 (by rw [h]; rfl)) (heightP t) (fun z _ => by omega) (fun z hz => height_bd15 hr (hsub z hz))
    obtain ⟨tp, p1, p2, p3, p4⟩ := built_of (a := t) (b := t) hpr (fun h => by rw [h] at k3; exact absurd k3 (Nat.lt_irrefl 0)) (heightP t) (fun z _ => by omega) (fun z hz => height_bd15 hr (hpsub z hz))
    refine ⟨tr, tp, ?_, r2, p2, by rw [c1, r3, p3], by rw [r3]; exact r4, by rw [p3]; exact p4, s, by rw [p3]; exact c2, by rw [r3]; exact c3⟩
    unfold cutT
    rw [c1, if_pos ⟨hr, rfl, hR0⟩]
    simp only
    rw [r1, p1]
theorem cut_few {t r p : Tw} {s : List Int} (hr : rightTw t = true) (h1 : rightTw r = true) (h2 : rightTw p = true) (h3 : ∀ z ∈ r.tokens, heightP r z = heightP t z) (h4 : ∀ z ∈ p.tokens, heightP p z = heightP t z) (h5 : Rot t.tokens (p.tokens ++ s)) (h6 : Rot r.tokens s) {most : Nat} (hm : ∀ z ∈ t.tokens, heightP t z ≤ most) :
    changedP (linksP t) (linksP r ++ linksP p) ≤ 2 * most ∧ (linksP r ++ linksP p).length = (linksP t).length := by
  obtain ⟨_, hn, _⟩ := right_tok hr
  obtain ⟨_, hrn, _⟩ := right_tok h1
  have hpm := rot_perm h5
  have hnp : (p.tokens ++ s).Nodup := hpm.nodup_iff.1 hn
  have hsr := rot_perm h6
  constructor
  · refine changed_cut hnp (f := heightP t) (fun z hz => hm z (hpm.mem_iff.2 hz)) (fun e => ?_) (fun e => ?_)
    · rw [links_mem hr]
      exact ⟨LS_rot _ h5 hn e, LS_rot _ (rot_symm h5) hnp e⟩
    · rw [List.mem_append, links_mem h1, links_mem h2, LS_congr h3, LS_congr h4]
      constructor
      · rintro (h | h)
        · exact .inr (LS_rot _ h6 hrn e h)
        · exact .inl h
      · rintro (h | h)
        · exact .inr h
        · exact .inl (LS_rot _ (rot_symm h6) (hsr.nodup_iff.1 hrn) e h)
  · rw [List.length_append, links_len hr, links_len h1, links_len h2, sum_perm _ hpm, List.map_append, List.sum_append]
    have e1 : (r.tokens.map (fun x => (heightP r x).toNat)).sum = (s.map (fun x => (heightP t x).toNat)).sum := by
      rw [← sum_perm _ hsr]
      congr 1
      exact List.map_congr_left fun z hz => by rw [h3 z hz]
    have e2 : (p.tokens.map (fun x => (heightP p x).toNat)).sum = (p.tokens.map (fun x => (heightP t x).toNat)).sum := by
      congr 1
      exact List.map_congr_left fun z hz => by rw [h4 z hz]
    rw [e1, e2]; omega
/-- two towers, joined -/
theorem join_tower {a b : Tw} (ha : rightTw a = true) (hb : rightTw b = true) {x y : Int} :
    ((joinR a.tokens x b.tokens y).2 = false ∧ joinT a x b y = (noTw, false)) ∨ (x ∈ a.tokens ∧ y ∈ b.tokens ∧ ∃ j : Tw, joinT a x b y = (j, true) ∧ rightTw j = true ∧ joinR a.tokens x b.tokens y = (j.tokens, true) ∧ (∀ z ∈ a.tokens, heightP j z = heightP a z ∧ z ∈ j.tokens) ∧ (∀ z ∈ b.tokens, heightP j z = heightP b z ∧ z ∈ j.tokens) ∧ ∃ P S, Rot j.tokens (P ++ S) ∧ Rot b.tokens P ∧ Rot a.tokens S) := by
  obtain ⟨⟨js, ok⟩, hj⟩ : ∃ r, joinR a.tokens x b.tokens y = r := ⟨_, rfl⟩
  cases ok with
  | false => exact .inl ⟨by rw [hj], by unfold joinT; rw [hj, if_neg (fun h => by cases h.2.2)]⟩
  | true =>
    obtain ⟨hal, hx, hbl, hy, hjl, u, v, e, hu, hjs⟩ := join_ok hj
    obtain ⟨P, hP⟩ : ∃ P, fromL b.tokens y = P := ⟨_, rfl⟩
    rw [hP] at hjs
    have hrb : Rot b.tokens P := by rw [← hP]; exact rot_from y
    have hra0 : Rot (plainR a.tokens) ((v ++ u) ++ [x]) := by rw [e]; exact ⟨u ++ [x], v, by simp, by simp⟩
    have hrp := plain_right hal
    have han := right_nodup hal
    have hSperm : ((v ++ u) ++ [x]).Perm a.tokens := ((rot_perm hrp).trans (rot_perm hra0)).symm
    have hra : Rot a.tokens ((v ++ u) ++ [x]) := by
      have hxs : x ∈ (v ++ u) ++ [x] := by simp
      have h1 : fromL a.tokens x = fromL ((v ++ u) ++ [x]) x := by
        rw [rot_one hrp han hx, rot_one hra0 ((rot_perm hrp).nodup_iff.1 han) ((plain_mem hal x).2 hx)]
      obtain ⟨c, d, e1, e2⟩ := rot_from (l := a.tokens) x
      obtain ⟨c', d', e1', e2'⟩ := rot_from (l := (v ++ u) ++ [x]) x
      have hxn : x ∉ v ++ u := fun h => by
        have := hSperm.nodup_iff.2 han
        rw [List.nodup_append] at this
        exact this.2.2 x h x (by simp) rfl
      have h2 : fromL ((v ++ u) ++ [x]) x = [x] ++ (v ++ u) := by
        have := from_split (u := v ++ u) (v := []) (x := x) hxn
        simpa using this
      rw [h2] at h1
      obtain ⟨p, q, hp, hpx⟩ := at_split hx
      have h3 := from_split (u := p) (v := q) (x := x) hpx
      rw [← hp, h1] at h3
      have h4 : v ++ u = q ++ p := by simpa using h3
      exact ⟨p ++ [x], q, by rw [hp]; simp, by rw [h4]; simp⟩
    have hrj : Rot js (P ++ ((v ++ u) ++ [x])) := by rw [hjs]; exact ⟨u ++ [x], P ++ v, by simp, by simp⟩
    have hjn := right_nodup hjl
    have hpm := rot_perm hrj
    have hnp : (P ++ ((v ++ u) ++ [x])).Nodup := hpm.nodup_iff.1 hjn
    have hdis : ∀ z ∈ b.tokens, z ∉ a.tokens := fun z hz hza => (List.nodup_append.1 hnp).2.2 z ((rot_perm hrb).mem_iff.1 hz) z (hSperm.mem_iff.2 hza) rfl
    have hjm : ∀ z, z ∈ js ↔ z ∈ b.tokens ∨ z ∈ a.tokens := fun z => by
      rw [hpm.mem_iff, List.mem_append, (rot_perm hrb).mem_iff, hSperm.mem_iff]
    obtain ⟨j, j1, j2, j3, j4⟩ := built_of (l := js) (a := a) (b := b) hjl (fun h => by
      have := (hjm x).2 (.inr hx)
      rw [h] at this; cases this) (fun z => max (heightP a z) (heightP b z)) (fun z _ => rfl) (fun z hz => by
      have ga := height_ge a z
      have gb := height_ge b z
      rcases (hjm z).1 hz with h | h
      · have h1 := height_bd15 hb h
        have h2 := height_out (t := a) (hdis z h)
        omega
      · have h1 := height_bd15 ha h
        have h2 : heightP b z = 0 := height_out fun hz2 => hdis z hz2 h
        omega)
    refine .inr ⟨hx, hy, j, by unfold joinT; rw [hj, if_pos ⟨ha, hb, rfl⟩, j1]; rfl, j2, by rw [hj, j3], fun z hz => ?_, fun z hz => ?_, P, (v ++ u) ++ [x], by rw [j3]; exact hrj, hrb, hra⟩
    · have hzj := (hjm z).2 (.inr hz)
      refine ⟨?_, by rw [j3]; exact hzj⟩
      rw [j4 z hzj]
      have h2 : heightP b z = 0 := height_out fun hz2 => hdis z hz2 hz
      have h1 := height_ge a z
      omega
    · have hzj := (hjm z).2 (.inl hz)
      refine ⟨?_, by rw [j3]; exact hzj⟩
      rw [j4 z hzj]
      have h2 := height_out (t := a) (hdis z hz)
      have h1 := height_ge b z
      omega
theorem join_few {a b j : Tw} {P S : List Int} (ha : rightTw a = true) (hb : rightTw b = true) (hj : rightTw j = true) (h1 : ∀ z ∈ a.tokens, heightP j z = heightP a z ∧ z ∈ j.tokens) (h2 : ∀ z ∈ b.tokens, heightP j z = heightP b z ∧ z ∈ j.tokens) (h3 : Rot j.tokens (P ++ S)) (h4 : Rot b.tokens P) (h5 : Rot a.tokens S) {most : Nat} (hma : ∀ z ∈ a.tokens, heightP a z ≤ most) (hmb : ∀ z ∈ b.tokens, heightP b z ≤ most) :
    changedP (linksP a ++ linksP b) (linksP j) ≤ 2 * most ∧ (linksP j).length = (linksP a ++ linksP b).length ∧ j.tokens.length = a.tokens.length + b.tokens.length := by
  obtain ⟨_, hjn, _⟩ := right_tok hj
  obtain ⟨_, han, _⟩ := right_tok ha
  obtain ⟨_, hbn, _⟩ := right_tok hb
  have hpm := rot_perm h3
  have hnp : (P ++ S).Nodup := hpm.nodup_iff.1 hjn
  have hPb := rot_perm h4
  have hSa := rot_perm h5
  refine ⟨?_, ?_, ?_⟩
  · rw [changed_symm]
    refine changed_cut hnp (f := heightP j) (fun z hz => ?_) (fun e => ?_) (fun e => ?_)
    · rcases List.mem_append.1 hz with h | h
      · have h9 := hPb.mem_iff.2 h
        rw [(h2 z h9).1]; exact hmb z h9
      · have h9 := hSa.mem_iff.2 h
        rw [(h1 z h9).1]; exact hma z h9
    · rw [links_mem hj]
      exact ⟨LS_rot _ h3 hjn e, LS_rot _ (rot_symm h3) hnp e⟩
    · rw [List.mem_append, links_mem ha, links_mem hb, LS_congr (fun z hz => ((h1 z hz).1).symm), LS_congr (fun z hz => ((h2 z hz).1).symm)]
      constructor
      · rintro (h | h)
        · exact .inr (LS_rot _ h5 han e h)
        · exact .inl (LS_rot _ h4 hbn e h)
      · rintro (h | h)
        · exact .inr (LS_rot _ (rot_symm h4) (hPb.nodup_iff.1 hbn) e h)
        · exact .inl (LS_rot _ (rot_symm h5) (hSa.nodup_iff.1 han) e h)
  · rw [List.length_append, links_len hj, links_len ha, links_len hb, sum_perm _ hpm, List.map_append, List.sum_append]
    have e1 : (S.map (fun x => (heightP j x).toNat)).sum = (a.tokens.map (fun x => (heightP a x).toNat)).sum := by
      rw [← sum_perm _ hSa]
      congr 1
      exact List.map_congr_left fun z hz => by rw [(h1 z hz).1]
    have e2 : (P.map (fun x => (heightP j x).toNat)).sum = (b.tokens.map (fun x => (heightP b x).toNat)).sum := by
      rw [← sum_perm _ hPb]
      congr 1
      exact List.map_congr_left fun z hz => by rw [(h2 z hz).1]
    rw [e1, e2]; omega
  · rw [hpm.length_eq, List.length_append, ← hPb.length_eq, ← hSa.length_eq]; omega
/-- cut, and joined again -/
theorem back_tower {t r p : Tw} {x y : Int} (hr : rightTw t = true) (hx : x ∈ t.tokens) (hy : y ∈ t.tokens) (hxy : x ≠ y) (h1 : rightTw r = true) (h2 : rightTw p = true) (h0 : cutR t.tokens x y = (r.tokens, p.tokens, true)) (h3 : ∀ z ∈ r.tokens, heightP r z = heightP t z) (h4 : ∀ z ∈ p.tokens, heightP p z = heightP t z) :
    ∃ j f : Tw, joinT r x p (p.tokens.getD 0 0) = (j, true) ∧ rightTw j = true ∧ fromT t x = (f, true) ∧ fromT j x = (f, true) ∧ changedP (linksP t) (linksP j) = 0 := by
  obtain ⟨hl, hn, _⟩ := right_tok hr
  obtain ⟨r', p', k1, _, _, _, k5, _, k6⟩ := ring_cuts hl hx hy
  rw [h0] at k1
  simp only [Prod.mk.injEq, and_true] at k1
  obtain ⟨rfl, rfl⟩ := k1
  obtain ⟨js, j1, j2, _, hxr, _⟩ := k6 (by rcases Nat.eq_zero_or_pos r.tokens.length with e | e; exact absurd (k5.2 e) hxy; exact e)
  rcases join_tower h1 h2 (x := x) (y := p.tokens.getD 0 0) with ⟨g1, _⟩ | ⟨_, _, j, g1, g2, g3, g4, g5, _⟩
  · rw [j1] at g1; cases g1
  · rw [j1] at g3
    have ejs : js = j.tokens := congrArg Prod.fst g3
    rw [ejs] at j2
    have hpl : plainR j.tokens = plainR t.tokens := by
      unfold sameR at j2
      rw [Bool.and_eq_true, decide_eq_true_eq] at j2
      exact j2.2
    obtain ⟨hjl, hjn, _⟩ := right_tok g2
    have hjt : ∀ z, z ∈ j.tokens ↔ z ∈ t.tokens := fun z => by rw [← plain_mem hjl, hpl, plain_mem hl]
    have hjh : ∀ z ∈ j.tokens, heightP j z = heightP t z := fun z hz => by
      have hzt := (hjt z).1 hz
      unfold cutR at h0
      rw [if_pos ⟨hl, hx, hy⟩] at h0
      simp only [Prod.mk.injEq, and_true] at h0
      by_cases hzp : z ∈ p.tokens
      · rw [(g5 z hzp).1, h4 z hzp]
      · have hzr : z ∈ r.tokens := by
          rw [← h0.1, List.mem_filter]
          exact ⟨hzt, by rw [h0.2]; simpa using hzp⟩
        rw [(g4 z hzr).1, h3 z hzr]
    have hxj : x ∈ j.tokens := (hjt x).2 hx
    obtain ⟨f, f1, f2, f3, f4, _⟩ := turn_tower hr hx
    obtain ⟨f', f1', f2', f3', f4', _⟩ := turn_tower g2 hxj
    have hff : fromL j.tokens x = fromL t.tokens x := by rw [← plain_from hjl hxj, hpl, plain_from hl hx]
    have e9 : f' = f := tower_ext f2' f2 (by rw [f3', f3, hff]) fun z hz => by
      rw [f3', hff] at hz
      have hzt := from_mem.1 hz
      have hzj := (hjt z).2 hzt
      rw [f4' z hzj, hjh z hzj, f4 z hzt]
    refine ⟨j, f, g1, g2, f1, by rw [f1', e9], ?_⟩
    refine changed_none (fun a ha b hb hk => LS_once ((links_mem hr a).1 ha) ((links_mem hr b).1 hb) hk) (fun a ha b hb hk => LS_once ((links_mem g2 a).1 ha) ((links_mem g2 b).1 hb) hk) fun e => ?_
    have r1 := plain_right hl
    have r2 := plain_right hjl
    rw [hpl] at r2
    have n1 := (rot_perm r1).nodup_iff.1 hn
    rw [links_mem hr, links_mem g2]
    constructor
    · exact fun h => (LS_congr (fun z hz => (hjh z hz).symm) e).1 (LS_rot _ (rot_symm r2) n1 e (LS_rot _ r1 hn e h))
    · exact fun h => LS_rot _ (rot_symm r1) n1 e (LS_rot _ r2 hjn e ((LS_congr hjh e).1 h))
end Go.Proofs.Ytllpfegnpakadaa.Plain

/- Plain words of the program's splice: heights by tokens, what the last links tell, how many were counted. No program in it. -/
namespace Go.Proofs.Ytllpfegnpakadaa.Plain
/-- of some towers each token's height: the last tower that has it tells -/
def hF (t : Nat → Tw) : Nat → Int → Option Int
  | 0, _ => none
  | k + 1, x => if x ∈ (t k).tokens then some (heightP (t k) x) else hF t k x
/-- .. and of the tower behind them the first j tokens -/
def hJ (t : Nat → Tw) (k j : Nat) (x : Int) : Option Int := if x ∈ (t k).tokens.take j then some (heightP (t k) x) else hF t k x
theorem hJ_zero (t : Nat → Tw) (k : Nat) : hJ t k 0 = hF t k := by
  funext x; unfold hJ; rw [List.take_zero, if_neg (by simp)]
theorem hJ_all (t : Nat → Tw) (k : Nat) : hJ t k (t k).tokens.length = hF t (k + 1) := by
  funext x; unfold hJ; rw [List.take_length]; rfl
theorem take_snoc15 {l : List Int} {j : Nat} (h : j < l.length) : l.take (j + 1) = l.take j ++ [l.getD j 0] := by
  rw [List.take_add_one, List.getD_eq_getElem?_getD, List.getElem?_eq_getElem h]; rfl
theorem hJ_succ (t : Nat → Tw) (k j : Nat) (hj : j < (t k).tokens.length) : hJ t k (j + 1) = fun x => if x = (t k).tokens.getD j 0 then some (heightP (t k) ((t k).tokens.getD j 0)) else hJ t k j x := by
  funext x; unfold hJ
  rw [take_snoc15 hj]
  by_cases h1 : x = (t k).tokens.getD j 0
  · rw [if_pos (by rw [h1]; simp), if_pos h1, h1]
  · rw [if_neg h1]
    by_cases h2 : x ∈ (t k).tokens.take j
    · rw [if_pos (List.mem_append_left _ h2), if_pos h2]
    · rw [if_neg h2, if_neg (by rw [List.mem_append, List.mem_singleton]; exact fun h => h.elim h2 h1)]
/-- a token's height as it is looked up -/
def hAt (f : Int → Option Int) (x : Int) : Int := (f x).getD 0
theorem hAt_one (t : Tw) (x : Int) : hAt (hF (fun _ => t) 1) x = heightP t x := by
  unfold hAt
  by_cases h : x ∈ t.tokens
  · have : hF (fun _ => t) 1 x = some (heightP t x) := if_pos h
    rw [this]; rfl
  · have : hF (fun _ => t) 1 x = none := if_neg h
    rw [this]; exact (height_out h).symm
theorem hAt_two (t : Nat → Tw) (x : Int) (hd : x ∈ (t 0).tokens → x ∈ (t 1).tokens → False) : hAt (hF t 2) x = max (heightP (t 0) x) (heightP (t 1) x) := by
  unfold hAt
  by_cases h1 : x ∈ (t 1).tokens
  · have : hF t 2 x = some (heightP (t 1) x) := if_pos h1
    rw [this, height_out (fun h => hd h h1)]
    have := height_ge (t 1) x
    show heightP (t 1) x = _
    omega
  · have e2 : hF t 2 x = hF t 1 x := if_neg h1
    rw [e2, height_out h1]
    by_cases h0 : x ∈ (t 0).tokens
    · have : hF t 1 x = some (heightP (t 0) x) := if_pos h0
      rw [this]
      have := height_ge (t 0) x
      show heightP (t 0) x = _
      omega
    · have : hF t 1 x = none := if_neg h0
      rw [this, height_out h0]; rfl
theorem built_one (l : List Int) (t : Tw) : buildP l (l.map (hAt (hF (fun _ => t) 1))) = builtP l t t := by
  unfold builtP
  congr 1
  refine List.map_congr_left fun x _ => ?_
  rw [hAt_one]; omega
theorem built_two (l : List Int) (t : Nat → Tw) (hd : ∀ x, x ∈ (t 0).tokens → x ∈ (t 1).tokens → False) : buildP l (l.map (hAt (hF t 2))) = builtP l (t 0) (t 1) := by
  unfold builtP
  congr 1
  exact List.map_congr_left fun x _ => hAt_two t x (hd x)
theorem join_apart {a b : List Int} {x y : Int} (h : (joinR a x b y).2 = true) (z : Int) (h1 : z ∈ a) (h2 : z ∈ b) : False := by
  unfold joinR at h
  by_cases hc : (rightL b = true ∧ y ∈ b) ∧ (rightL a = true ∧ x ∈ a) ∧ rightL (insB (plainR a) x (fromL b y)) = true
  · have hn := right_nodup hc.2.2
    unfold insB at hn
    have hp : z ∈ plainR a := by
      unfold plainR
      rw [if_pos ⟨hc.2.1.1, fun e => by rw [e] at h1; cases h1⟩]
      exact from_mem.2 h1
    have hf : z ∈ fromL b y := from_mem.2 h2
    rw [List.append_assoc, List.nodup_append] at hn
    obtain ⟨_, hn2, hn3⟩ := hn
    rw [List.nodup_append] at hn2
    rw [← List.take_append_drop ((plainR a).idxOf x + 1) (plainR a), List.mem_append] at hp
    rcases hp with hp | hp
    · exact hn3 z hp z (List.mem_append_left _ hf) rfl
    · exact hn2.2.2 z hf z hp rfl
  · rw [if_neg hc] at h; cases h
/-- what the last links tell, by token and level -/
def lkF (l : List Lk) (k : LKey) : Option Int := if (lastP l k.1 k.2).2 = true then some (lastP l k.1 k.2).1 else none
theorem lkF_nil : lkF [] = fun _ => none := rfl
theorem lkF_snoc (l : List Lk) (x : Lk) : lkF (l ++ [x]) = fun z => if z = keyL x then some x.2.2 else lkF l z := by
  funext z
  unfold lkF
  rw [lastP_snoc]
  by_cases h : z = keyL x
  · rw [if_pos h, if_pos (show x.1 = z.1 ∧ x.2.1 = z.2 by rw [h]; exact ⟨rfl, rfl⟩)]; rfl
  · rw [if_neg h, if_neg (fun e : x.1 = z.1 ∧ x.2.1 = z.2 => h (by show z = (x.1, x.2.1); rw [e.1, e.2]))]
theorem lkF_some (l : List Lk) (k : LKey) : (lkF l k).isSome = (lastP l k.1 k.2).2 := by
  unfold lkF; cases (lastP l k.1 k.2).2 <;> rfl
theorem lkF_get {l : List Lk} {k : LKey} {c : Int} (h : lkF l k = some c) : (lastP l k.1 k.2).2 = true ∧ (lastP l k.1 k.2).1 = c := by
  unfold lkF at h
  by_cases e : (lastP l k.1 k.2).2 = true
  · rw [if_pos e] at h; exact ⟨e, by simpa using h⟩
  · rw [if_neg e] at h; cases h
theorem lkF_mem {l : List Lk} {k : LKey} (h : (lkF l k).isSome = true) : k ∈ dk l := by
  rw [lkF_some] at h; exact (has_dk l k).1 h
/-- how many of some keys, that are no longer to come, are so -/
def cntL (l : List LKey) (g left : LKey → Bool) : Nat := (l.filter (fun k => !left k && g k)).length
theorem cntL_start (l : List LKey) (g left : LKey → Bool) (h : ∀ k ∈ l, left k = true) : cntL l g left = 0 := by
  unfold cntL
  rw [List.length_eq_zero_iff, List.filter_eq_nil_iff]
  intro k hk; rw [h k hk]; simp
theorem cntL_end (l : List LKey) (g left : LKey → Bool) (h : ∀ k, left k = false) : cntL l g left = (l.filter g).length := by
  unfold cntL
  congr 1
  refine List.filter_congr fun k _ => ?_
  rw [h k]; rfl
theorem cntL_le (l : List LKey) (g left : LKey → Bool) : cntL l g left ≤ l.length := List.length_filter_le _ _
theorem cntL_off : ∀ (l : List LKey) (g left : LKey → Bool) (k : LKey), k ∉ l → cntL l g (fun z => left z && !decide (z = k)) = cntL l g left := by
  intro l g left k hk
  unfold cntL
  congr 1
  refine List.filter_congr fun z hz => ?_
  show (!(left z && !decide (z = k)) && g z) = _
  rw [decide_eq_false (fun e : z = k => hk (e ▸ hz))]; simp
theorem cntL_step : ∀ (l : List LKey) (g left : LKey → Bool) (k : LKey), l.Nodup → k ∈ l → left k = true →
    cntL l g (fun z => left z && !decide (z = k)) = cntL l g left + (if g k = true then 1 else 0)
  | [], _, _, _, _, h, _ => by cases h
  | a :: l, g, left, k, hn, hk, hl => by
    rw [List.nodup_cons] at hn
    by_cases e : a = k
    · subst e
      have h1 := cntL_off l g left a hn.1
      unfold cntL at h1 ⊢
      rw [List.filter_cons, List.filter_cons, hl]
      simp only [decide_true, Bool.not_true, Bool.and_false, Bool.not_false, Bool.true_and, Bool.false_and, Bool.false_eq_true, if_false]
      by_cases hg : g a = true
      · rw [if_pos hg, if_pos hg, List.length_cons, h1]
      · rw [if_neg hg, if_neg hg, h1]; rfl
    · have h1 := cntL_step l g left k hn.2 ((List.mem_cons.1 hk).resolve_left (fun h => e h.symm)) hl
      unfold cntL at h1 ⊢
      rw [List.filter_cons, List.filter_cons]
      simp only [decide_eq_false e, Bool.not_false, Bool.and_true]
      by_cases hg : (!left a && g a) = true
      · rw [if_pos hg, if_pos hg, List.length_cons, List.length_cons, h1]; omega
      · rw [if_neg hg, if_neg hg, h1]
theorem cntL_congr {l : List LKey} {g left left' : LKey → Bool} (h : ∀ k ∈ l, left k = left' k) : cntL l g left = cntL l g left' := by
  unfold cntL
  congr 1
  exact List.filter_congr fun k hk => by rw [h k hk]
theorem dk_in {l : List Lk} {p : LKey → Prop} (h : ∀ x ∈ l, p (keyL x)) (k : LKey) (hk : k ∈ dk l) : p k := by
  rw [dk_mem, List.mem_map] at hk
  obtain ⟨x, hx, rfl⟩ := hk
  exact h x hx
theorem dk_len (l : List Lk) : (dk l).length ≤ l.length := by
  refine Nat.le_trans (nodup_len_le _ (l.map keyL) (dk_nodup l) fun x hx => (dk_mem l x).1 hx) ?_
  rw [List.length_map]; exact Nat.le_refl _
end Go.Proofs.Ytllpfegnpakadaa.Plain

/- Words for memory: a slice value that reads as a list of integers; what stays of it. -/
namespace Go.Proofs.Ytllpfegnpakadaa
open Go.RowKit

/-- all blocks of the one world are in the other as they were -/
def Ext (w W : World) : Prop := Below w.heap.size w W
theorem Ext.refl (w : World) : Ext w w := Below.refl _ _
theorem Ext.trans {a b c : World} (h : Ext a b) (k : Ext b c) : Ext a c := Below.trans h (Below.mono k h.size)
theorem Ext.alloc {w W : World} (h : Ext w W) (o : Obj) : Ext w (W.alloc o) := Below.alloc h h.size o
theorem Ext.drewN {w W : World} (h : Ext w W) (n : Nat) : Ext w (W.drewN n) := ⟨h.os, h.tape, h.output, h.size, h.block⟩
theorem Ext.drew {w W : World} (h : Ext w W) : Ext w W.drew := Below.drew h
theorem Ext.setCell {w W : World} (h : Ext w W) {p : Addr} (hp : w.heap.size ≤ p.block) (u : Value) : Ext w (W.setCell p u) := Below.setCell h hp u
theorem Ext.cell {w W : World} (h : Ext w W) {a : Addr} {v : Value} (hv : w.cell? a = some v) : W.cell? a = some v := (Below.cell h (World.block_lt_of_cell? _ _ hv)).trans hv
theorem Ext.grown {w W W' : World} (h : Ext w W) {row : Option Nat} (hg : W.grownBy W' row) (hr : ∀ k, row = some k → w.heap.size ≤ k) : Ext w W' := Below.grown h hg h.size hr
theorem Ext.size {w W : World} (h : Ext w W) : w.heap.size ≤ W.heap.size := Below.size h

/-- a slice value that reads as these integers -/
def Ints (w : World) (v : Value) (xs : List Int) : Prop :=
  xs.length ≤ maxLen ∧ (∀ n ∈ xs, -9223372036854775808 ≤ n ∧ n ≤ 9223372036854775807) ∧
  ∃ A cap, v = .slice A xs.length cap ∧ xs.length ≤ cap ∧
    (0 < xs.length → ∃ b off, A = some ⟨b, off, none⟩ ∧ ∀ j, j < xs.length → w.cell? ⟨b, off + j, none⟩ = some (.int .i64 (xs.getD j 0)))

theorem Ints.ext {w W : World} {v : Value} {xs : List Int} (h : Ints w v xs) (hE : Ext w W) : Ints W v xs := by
  obtain ⟨h1, h2, A, cap, rfl, hc, h3⟩ := h
  refine ⟨h1, h2, A, cap, rfl, hc, fun hl => ?_⟩
  obtain ⟨b, off, rfl, hc⟩ := h3 hl
  exact ⟨b, off, rfl, fun j hj => hE.cell (hc j hj)⟩
theorem Ints.cells {w : World} {A : Option Addr} {n c : Nat} {xs : List Int} (h : Ints w (.slice A n c) xs) (hl : 0 < xs.length) :
    ∃ b off, A = some ⟨b, off, none⟩ ∧ ∀ j, j < xs.length → w.cell? ⟨b, off + j, none⟩ = some (.int .i64 (xs.getD j 0)) := by
  obtain ⟨_, _, A', c', hv, _, h3⟩ := h
  cases hv
  exact h3 hl
theorem Ints.nil (w : World) (A : Option Addr) (c : Nat) : Ints w (.slice A 0 c) [] := ⟨by simp, by simp, A, c, rfl, by simp, by simp⟩

/-- integers that a call's own row holds -/
theorem Ints.own {w : World} {base : Nat} {e : TypeId} {v : Value} {xs : List Int} (h : w.ownsRow base e 1 v xs.length (xs.map (Value.int .i64))) (hm : xs.length ≤ maxLen)
    (hb : ∀ n ∈ xs, -9223372036854775808 ≤ n ∧ n ≤ 9223372036854775807) : Ints w v xs := by
  rcases h.2 with ⟨rfl, hx⟩ | ⟨g, cap, cur, hv, hg, hh, hnc, h4⟩
  · obtain rfl : xs = [] := by simpa using hx
    exact Ints.nil w _ _
  · refine ⟨hm, hb, some ⟨g, 0, none⟩, cap, hv, hnc, fun hl => ⟨g, 0, rfl, fun j hj => ?_⟩⟩
    have hx := h.cells (g := g) (by rw [hv]; rfl) j (.int .i64 (xs.getD j 0)) (by
      rw [List.getElem?_map, List.getD_eq_getElem?_getD, List.getElem?_eq_getElem hj]; rfl)
    have e : (⟨g, 0, none⟩ : Addr).add j = ⟨g, 0 + j, none⟩ := by
      by_cases h0 : j = 0
      · subst h0; rfl
      · simp [Addr.add, h0]
    rw [e] at hx
    exact hx

/-- a region whose order is open, over a class of worlds -/
theorem wp_region_class {P : Program} {id : Nat} {Q : Exit → Act → World → Prop} {a : Act} {w : World} {l : List Oper} (C : World → Prop) (hm : P.follows .mixedOrders = true) (hB : Region.lexB .any l.toArray = true) (hC : C w.drew)
    (h : wpQuiet P l.toArray C (fun a' => ∀ w', C w' → Q .normal a' w') l a) : (Code.region id l.toArray true).wp P Q a w :=
  wp_region_quiet (C := C) hm hB hC (by simpa using h)
theorem ret_bool {a b : Bool} (h : a = b) : Ending.returned (.bool a) = .returned (.bool b) := by rw [h]
theorem ret_int {k : IntKind} {a b : Int} (h : a = b) : Ending.returned (.int k a) = .returned (.int k b) := by rw [h]
/-- a slice of integers that a call has made: it lies in blocks from B on -/
def Own (B : Nat) (w : World) (v : Value) (xs : List Int) : Prop :=
  w.ownsRow B 3 1 v xs.length (xs.map (Value.int .i64)) ∧ ∀ n ∈ xs, -9223372036854775808 ≤ n ∧ n ≤ 9223372036854775807
theorem Own.len {B : Nat} {w : World} {v : Value} {xs : List Int} (h : Own B w v xs) : xs.length ≤ maxLen := by
  rcases h.1.2 with ⟨_, hx⟩ | ⟨g, cap, cur, hv, hg, hh, hnc, h4, _⟩ <;> omega
theorem Own.lt {B : Nat} {w : World} {v : Value} {xs : List Int} (h : Own B w v xs) : ∀ k, v.ownBlock = some k → B ≤ k ∧ k < w.heap.size := h.1.lt
theorem Own.ext {B : Nat} {w W : World} {v : Value} {xs : List Int} (h : Own B w v xs) (hE : Ext w W) : Own B W v xs := by
  obtain ⟨⟨h1, h2⟩, hb⟩ := h
  refine ⟨⟨h1, ?_⟩, hb⟩
  rcases h2 with h2 | ⟨g, cap, cur, hv, hg, hh, hr⟩
  · exact .inl h2
  · have hlt : g < w.heap.size := by
      rcases Nat.lt_or_ge g w.heap.size with hlt | hge
      · exact hlt
      · rw [Array.getElem?_eq_none hge] at hh; cases hh
    exact .inr ⟨g, cap, cur, hv, hg, (Below.block hE g hlt).trans hh, hr⟩
theorem Own.nil (B : Nat) (w : World) : Own B w (.slice none 0 0) [] := ⟨World.ownsRow_nil _ _ _ _, by simp⟩
theorem Own.made (w : World) (cur : Array Value) (cap : Nat) {B : Nat} (hb : B ≤ w.heap.size) (hm : cap ≤ maxLen) (hs : cur.size = cap) :
    Own B (w.alloc (.cells cur 3)) (.slice (some ⟨w.heap.size, 0, none⟩) 0 cap) [] := ⟨World.ownsRow_made w cur cap hb hm (by omega), by simp⟩
theorem Own.lit (w : World) (xs : List Int) {B : Nat} (hb : B ≤ w.heap.size) (hm : xs.length ≤ maxLen) (hx : ∀ n ∈ xs, -9223372036854775808 ≤ n ∧ n ≤ 9223372036854775807) :
    Own B (w.alloc (.cells (xs.map (Value.int .i64)).toArray 3)) (.slice (some ⟨w.heap.size, 0, none⟩) xs.length xs.length) xs := by
  have h := World.ownsRow_lit (e := 3) (size := 1) w (xs.map (Value.int .i64)).toArray xs.length hb hm (by simp)
  exact ⟨by simpa using h, hx⟩
/-- a row that isn't empty, with its block -/
theorem Own.pos {B : Nat} {w : World} {A : Option Addr} {n c : Nat} {xs : List Int} (h : Own B w (.slice A n c) xs) (hl : 0 < xs.length) :
    ∃ g, A = some ⟨g, 0, none⟩ ∧ B ≤ g ∧ g < w.heap.size ∧ (∀ j, j < xs.length → w.cell? ⟨g, j, none⟩ = some (.int .i64 (xs.getD j 0))) ∧ (∀ j, w.frozen? ⟨g, j, none⟩ = false) ∧
      (∀ j u, j < xs.length → (-9223372036854775808 ≤ u ∧ u ≤ 9223372036854775807) → Own B (w.setCell ⟨g, j, none⟩ (.int .i64 u)) (.slice A n c) (xs.set j u)) := by
  obtain ⟨h1, hb⟩ := h
  have hh := h1
  rcases h1.2 with ⟨_, hx⟩ | ⟨g, cap, cur, hv, hg, hh', hnc, h4, h5, h6⟩
  · omega
  · cases hv
    refine ⟨g, rfl, hg, (hh.lt g rfl).2, fun j hj => ?_, fun j => World.ownsRow.frozenAt hh j, fun j u hj hu => ?_⟩
    · rw [World.ownsRow.cellAt hh j (by omega), List.getElem?_map, List.getD_eq_getElem?_getD, List.getElem?_eq_getElem hj]; rfl
    · have hs := World.ownsRow.stored hh j (.int .i64 u)
      refine ⟨?_, ?_⟩
      · rw [List.map_set, List.length_set]; exact hs.1
      · intro n hn
        rcases List.mem_or_eq_of_mem_set hn with h | h
        · exact hb n h
        · subst h; exact hu
theorem Own.set {B g n c : Nat} {w : World} {xs : List Int} (h : Own B w (.slice (some ⟨g, 0, none⟩) n c) xs) {j : Nat} (hj : j < xs.length) {u : Int} (hu : -9223372036854775808 ≤ u ∧ u ≤ 9223372036854775807) :
    Own B (w.setCell ⟨g, j, none⟩ (.int .i64 u)) (.slice (some ⟨g, 0, none⟩) n c) (xs.set j u) := by
  obtain ⟨g', he, _, _, _, _, hs⟩ := h.pos (by omega)
  cases he
  exact hs j u hj hu
theorem Own.setOther {B : Nat} {w : World} {v : Value} {xs : List Int} (h : Own B w v xs) {p : Addr} (hp : v.ownBlock ≠ some p.block) (u : Value) : Own B (w.setCell p u) v xs := by
  obtain ⟨⟨h1, h2⟩, hb⟩ := h
  refine ⟨⟨h1, ?_⟩, hb⟩
  rcases h2 with h2 | ⟨g, cap, cur, rfl, hg, hh, hr⟩
  · exact .inl h2
  · exact .inr ⟨g, cap, cur, rfl, hg, (Below.heap_setCell _ _ _ _ (fun e => hp (by simp [Value.ownBlock, e]))).trans hh, hr⟩
theorem Own.take {B : Nat} {w : World} {A : Option Addr} {n c : Nat} {xs : List Int} (h : Own B w (.slice A n c) xs) (k : Nat) (hk : k ≤ xs.length) (h0 : 0 < xs.length) : Own B w (.slice A k c) (xs.take k) := by
  obtain ⟨⟨h1, h2⟩, hb⟩ := h
  have hl : (xs.take k).length = k := by simp; omega
  refine ⟨⟨by simp, ?_⟩, fun n hn => hb n (List.mem_of_mem_take hn)⟩
  rw [hl]
  rcases h2 with ⟨_, h2⟩ | ⟨g, cap, cur, hv, hg, hh, hnc, hcm, hcs, ht⟩
  · omega
  · cases hv
    refine .inr ⟨g, _, cur, rfl, hg, hh, by omega, hcm, hcs, ?_⟩
    rw [List.map_take, ← ht, List.take_take, Nat.min_eq_left (by omega), Nat.mul_one]
theorem Own.mono {B B' : Nat} {w : World} {v : Value} {xs : List Int} (h : Own B w v xs) (hB : B' ≤ B) : Own B' w v xs := by
  obtain ⟨⟨h1, h2⟩, hb⟩ := h
  refine ⟨⟨h1, ?_⟩, hb⟩
  rcases h2 with h2 | ⟨g, cap, cur, hv, hg, hr⟩
  · exact .inl h2
  · exact .inr ⟨g, cap, cur, hv, by omega, hr⟩
theorem Own.setBelow {B : Nat} {w : World} {v : Value} {xs : List Int} (h : Own B w v xs) {p : Addr} (hp : p.block < B) (u : Value) : Own B (w.setCell p u) v xs :=
  ⟨ownsRow_setCell_below h.1 hp u, h.2⟩
/-- a step that writes nothing of it leaves it -/
theorem Own.kept {B : Nat} {w w' : World} {v : Value} {xs : List Int} {row : Option Nat} (h : Own B w v xs) (hg : w.grownBy w' row) (hne : v.ownBlock = none ∨ v.ownBlock ≠ row) : Own B w' v xs := ⟨h.1.kept hg hne, h.2⟩

/-- a slice of a block from B on -/
def From (B : Nat) (A : Option Addr) : Prop := ∀ a, A = some a → B ≤ a.block
theorem From.none (B : Nat) : From B none := fun a h => by cases h
theorem Own.from {B n c : Nat} {A : Option Addr} {w : World} {xs : List Int} (h : Own B w (.slice A n c) xs) : From B A := fun a ha => by
  subst ha
  rcases h.1.2 with ⟨h0, _⟩ | ⟨g, cap, cur, hv, hg, _⟩
  · cases h0
  · cases hv; exact hg
theorem From.mono {B B' : Nat} {A : Option Addr} (h : From B A) (hB : B' ≤ B) : From B' A := fun a ha => Nat.le_trans hB (h a ha)

theorem Ints.grown {w w' : World} {A : Option Addr} {n c : Nat} {xs : List Int} {row : Option Nat} (h : Ints w (.slice A n c) xs) (hg : w.grownBy w' row) (hne : ∀ a, A = some a → some a.block ≠ row) : Ints w' (.slice A n c) xs := by
  obtain ⟨h1, h2, A', cap, hv, hcap, h3⟩ := h
  cases hv
  refine ⟨h1, h2, A, c, rfl, hcap, fun hl => ?_⟩
  obtain ⟨b, off, rfl, hcc⟩ := h3 hl
  exact ⟨b, off, rfl, fun j hj => hg.cell (hcc j hj) (hne ⟨b, off, none⟩ rfl)⟩

theorem intInfo : (Try.prog.info? 3).map (fun i => (i.zero, i.size, i.bytes)) = some (some (.int .i64 0), 1, 8) := by kernel_rfl

theorem run_app (w : World) (B : Nat) (v : Value) (xs : List Int) (hown : Own B w v xs) (y : Value) (ys : List Int) (hy : Ints w y ys) (hl : xs.length + ys.length ≤ 1048576) (hB : B ≤ w.heap.size) :
    ∃ v' w', (Builtin.append_ #[22, 22] 22 #[v, y]).run Try.prog w = .ok v' w' ∧ Own B w' v' (xs ++ ys) ∧ w.grownBy w' v.ownBlock ∧ (v'.ownBlock = v.ownBlock ∨ v'.ownBlock = some w.heap.size) := by
  obtain ⟨hm, hb, A, cap, rfl, hcap, hc⟩ := hy
  obtain ⟨i0, hi, hz0, hz1, hz2⟩ := info_parts intInfo
  rcases A with _ | ad
  · have h0 : ys = [] := by
      cases ys with
      | nil => rfl
      | cons a l => obtain ⟨b, off, h, _⟩ := hc (by simp); cases h
    subst h0
    have hr : (Builtin.append_ #[22, 22] 22 #[v, .slice none 0 cap]).run Try.prog w = .ok v w := by
      rcases hown.1.2 with ⟨rfl, _⟩ | ⟨g, cap', cur, rfl, _, _, hnc, _⟩
      · simp [Builtin.append_, run_underlying Try.underlying22, sizeOf, typeInfo, hi, Builtin.lenOf, Builtin.firstCells]
      · simp [Builtin.append_, run_underlying Try.underlying22, sizeOf, typeInfo, hi, Builtin.lenOf, Builtin.firstCells, hnc, storeCells]
    exact ⟨v, w, hr, by simpa using hown, World.grownBy.refl w _, .inl rfl⟩
  · have hcells : ∀ j u, (ys.map (Value.int .i64))[j]? = some u → w.cell? (ad.add j) = some u := by
      intro j u hu
      rw [List.getElem?_map] at hu
      cases h : ys[j]? with
      | none => rw [h] at hu; cases hu
      | some z =>
        rw [h] at hu
        cases hu
        have hj : j < ys.length := by
          rcases Nat.lt_or_ge j ys.length with hlt | hge
          · exact hlt
          · rw [List.getElem?_eq_none hge] at h; cases h
        obtain ⟨b, off, he, hcc⟩ := hc (by omega)
        cases he
        have := hcc j hj
        rw [List.getD_eq_getElem?_getD, h] at this
        have e : (⟨b, off, none⟩ : Addr).add j = ⟨b, off + j, none⟩ := by
          by_cases h0 : j = 0
          · subst h0; rfl
          · simp [Addr.add, h0]
        rw [e]; exact this
    obtain ⟨v', w', hr, h2, h3, _, h5⟩ := run_append_own_at (P := Try.prog) w B 22 22 3 i0 (.int .i64 0) 1 8 Try.underlying22 hi hz0 hz1 hz2 rfl (by decide) v xs.length _ hown.1 ad ys.length cap (ys.map (Value.int .i64)) (by simp) hcells
      (by intro u hu; obtain ⟨z, _, rfl⟩ := List.mem_map.1 hu; rfl) (by unfold maxLen; omega) (by omega) hB
    exact ⟨v', w', hr, ⟨by simpa using h2, by
      intro n hn
      rcases List.mem_append.1 hn with h | h
      · exact hown.2 n h
      · exact hb n h⟩, h3, h5⟩

theorem wp_app {o : Oper} {a : Act} {w : World} {K : Act → World → Prop} {Q : Exit → Act → World → Prop} (s x : Operand)
    (ho : o.op = .call { callee := .builtin .append, args := #[s, x], argTypes := #[22, 22] }) (hty : o.type = 22)
    (B : Nat) (v : Value) (xs : List Int) (hs : a.eval s = v) (hown : Own B w v xs) (y : Value) (ys : List Int) (hx : a.eval x = y) (hy : Ints w y ys) (hl : xs.length + ys.length ≤ 1048576) (hB : B ≤ w.heap.size)
    (h : ∀ v' w', Own B w' v' (xs ++ ys) → w.grownBy w' v.ownBlock → (v'.ownBlock = v.ownBlock ∨ v'.ownBlock = some w.heap.size) → K (a.put o.dst v') w') : o.wp Try.prog a w K Q := by
  obtain ⟨v', w', hr, h2, h3, h4⟩ := run_app w B v xs hown y ys hy hl hB
  unfold Oper.wp execOp
  simp only [ho, hty, resolve, invoke, builtin, Sem.run_bind, Sem.run_pure, Result.andThen_ok, List.map_toArray, List.map_cons, List.map_nil, hs, hx, hr]
  exact h v' w' h2 h3 h4

theorem wpList_app {ops : Array Oper} {rest : List Oper} {o : Oper} {a : Act} {w : World} {Q : Exit → Act → World → Prop} (hgd : o.guard = none) (s x : Operand)
    (ho : o.op = .call { callee := .builtin .append, args := #[s, x], argTypes := #[22, 22] }) (hty : o.type = 22)
    (B : Nat) (v : Value) (xs : List Int) (hs : a.eval s = v) (hown : Own B w v xs) (y : Value) (ys : List Int) (hx : a.eval x = y) (hy : Ints w y ys) (hl : xs.length + ys.length ≤ 1048576) (hB : B ≤ w.heap.size)
    (h : ∀ v' w', Own B w' v' (xs ++ ys) → w.grownBy w' v.ownBlock → (v'.ownBlock = v.ownBlock ∨ v'.ownBlock = some w.heap.size) → wpList Try.prog ops Q rest (a.put o.dst v') w') : wpList Try.prog ops Q (o :: rest) a w :=
  wpList_plain hgd fun _ hK => wp_app s x ho hty B v xs hs hown y ys hx hy hl hB fun v' w' h2 h3 h4 => hK _ _ (h v' w' h2 h3 h4)

theorem step_app {ops : Array Oper} {o : Oper} {a : Act} {w : World} {K : Act → World → Prop} {Q : Exit → Act → World → Prop} {E : Prop} (hgd : o.guard = none) (s x : Operand)
    (ho : o.op = .call { callee := .builtin .append, args := #[s, x], argTypes := #[22, 22] }) (hty : o.type = 22)
    (B : Nat) (v : Value) (xs : List Int) (hs : a.eval s = v) (hown : Own B w v xs) (y : Value) (ys : List Int) (hx : a.eval x = y) (hy : Ints w y ys) (hl : xs.length + ys.length ≤ 1048576) (hB : B ≤ w.heap.size)
    (h : ∀ v' w', Own B w' v' (xs ++ ys) → w.grownBy w' v.ownBlock → (v'.ownBlock = v.ownBlock ∨ v'.ownBlock = some w.heap.size) → K (a.put o.dst v') w') :
    if Region.wanted o (yielded ops a.tmps) = true then Oper.wp Try.prog o a w K Q else E := by
  have hw : Region.wanted o (yielded ops a.tmps) = true := by simp [Region.wanted, hgd]
  rw [if_pos hw]
  exact wp_app s x ho hty B v xs hs hown y ys hx hy hl hB h

/-- one integer, laid in a block of its own -/
theorem Ints.one (w : World) (x : Int) (c : Nat) (hc : 1 ≤ c) (hx : -9223372036854775808 ≤ x ∧ x ≤ 9223372036854775807) :
    Ints (w.alloc (.cells #[.int .i64 x] 3)) (.slice (some ⟨w.heap.size, 0, none⟩) 1 c) [x] := by
  refine ⟨by simp [maxLen], by simpa using hx, _, c, rfl, hc, fun _ => ⟨w.heap.size, 0, rfl, fun j hj => ?_⟩⟩
  obtain rfl : j = 0 := by simp at hj; omega
  simp

/-- a map value that is the set of these integers -/
def SetIs (w : World) (v : Value) (xs : List Int) : Prop :=
  ∃ (b n : Nat) (D : DataW Unit), v = .map (some b) ∧ w.ownsMap Try.prog 3 unitElem b n D ∧ ∀ c : Int, Maps.has D (.int .i64 c) = decide (c ∈ xs)
theorem SetIs.ext {w W : World} {v : Value} {xs : List Int} (h : SetIs w v xs) (hE : Ext w W) : SetIs W v xs := by
  obtain ⟨b, n, D, rfl, ⟨es, clock, hb, hr⟩, hD⟩ := h
  have hlt : b < w.heap.size := by
    rcases Nat.lt_or_ge b w.heap.size with hlt | hge
    · exact hlt
    · rw [Array.getElem?_eq_none hge] at hb; cases hb
  exact ⟨b, n, D, rfl, ⟨es, clock, (Below.block hE b hlt).trans hb, hr⟩, hD⟩
end Go.Proofs.Ytllpfegnpakadaa

/- Plain words on lists of integers: no program in it. -/
namespace Go.Proofs.Ytllpfegnpakadaa.Plain
theorem eq_of_all (xs ys : List Int) (hl : xs.length = ys.length) (h : ∀ j, j < xs.length → xs.getD j 0 = ys.getD j 0) : xs = ys := by
  apply List.ext_getElem hl
  intro i h1 h2
  have := h i h1
  simpa [List.getD_eq_getElem?_getD, List.getElem?_eq_getElem h1, List.getElem?_eq_getElem h2] using this
end Go.Proofs.Ytllpfegnpakadaa.Plain

/- Whether two lists are the same; a clone. -/
namespace Go.Proofs.Ytllpfegnpakadaa
open Go.RowKit Go.Proofs.Ytllpfegnpakadaa.Plain

def sameB (xs ys : List Int) : Bool := decide (xs = ys)

set_option maxHeartbeats 400000 in
theorem ints_any (v u : Value) (xs ys : List Int) (w : World) (h : Ints w v xs) (h' : Ints w u ys) :
    Calls Try.prog 27 #[v, u] w fun e w' => e = .returned (.bool (sameB xs ys)) ∧ ∃ n, w' = w.drewN n := by
  obtain ⟨hm, hb, A, cap, rfl, hcap, hc⟩ := h
  obtain ⟨hm', hb', A', cap', rfl, hcap', hc'⟩ := h'
  unfold maxLen at hm hm'
  by_cases hl : xs.length = ys.length
  · have H := Lib.hid hl
    have e : decide ((xs.length : Int) = (ys.length : Int)) = true := by simp [hl]
    have e2 : ((xs.length : Int) != (ys.length : Int)) = false := by simp [hl]
    clear hl
    go_enter Try.func27, Try.ntmps27
    go_wp2
    clear e e2
    go_loopw [5] (fun i wr => ∃ k n : Nat, k ≤ xs.length ∧ i = .int .i64 k ∧ wr = w.drewN n ∧ ∀ j, j < k → xs.getD j 0 = ys.getD j 0) (fun i _ => xs.length - (intOf i).toNat)
    case atStart => exact ⟨0, 0, Nat.zero_le _, rfl, rfl, by omega⟩
    case round =>
      obtain ⟨k, n, hk, rfl, rfl, ha⟩ := hrel
      have HA := Lib.hid ha
      clear ha
      by_cases hlt : k < xs.length
      · obtain ⟨b, off, rfl, hcc⟩ := hc (by omega)
        obtain ⟨b', off', rfl, hcc'⟩ := hc' (by have := H.out; omega)
        have hcell := hcc k hlt
        have hcell' := hcc' k (by have := H.out; omega)
        have hlt' : k < ys.length := by have := H.out; omega
        have HC := Lib.hid hc
        have HC' := Lib.hid hc'
        clear hc hcc hc' hcc'
        by_cases he : xs.getD k 0 = ys.getD k 0
        · have HE := Lib.hid he
          have e1 : ((xs.getD k 0) != (ys.getD k 0)) = false := by rw [he]; simp
          generalize hg : xs.getD k 0 = g at *
          generalize hg' : ys.getD k 0 = g' at *
          clear he
          go_wp2
          go_quiet (fail)
          go_wp2
          go_roundw
          case rel => exact ⟨k + 1, _, by omega, by go_num, rfl, fun j hj => by
            rcases Nat.lt_or_ge j k with h1 | h1
            · exact HA.out j h1
            · obtain rfl : j = k := by omega
              rw [hg, hg', HE.out]⟩
          case measure => simp [intOf]; omega
        · have HE := Lib.hid he
          have e1 : ((xs.getD k 0) != (ys.getD k 0)) = true := by simpa using he
          have HR : Hid (sameB xs ys = false) := Lib.hid (by unfold sameB; rw [decide_eq_false_iff_not]; intro h; exact he (by rw [h]))
          generalize hg : xs.getD k 0 = g at *
          generalize hg' : ys.getD k 0 = g' at *
          clear he
          go_wp2
          go_quiet (fail)
          go_wp2
          go_ret
          exact ⟨ret_bool HR.out.symm, n + nq, by simp⟩
      · have HR : Hid (sameB xs ys = true) := Lib.hid (by unfold sameB; rw [decide_eq_true_eq]; exact eq_of_all _ _ H.out (fun j hj => HA.out j (by omega)))
        clear hc hc'
        go_wp2
        go_ret
        exact ⟨ret_bool HR.out.symm, _, rfl⟩
  · have e2 : ((xs.length : Int) != (ys.length : Int)) = true := by simp; omega
    have HR : Hid (sameB xs ys = false) := Lib.hid (by unfold sameB; rw [decide_eq_false_iff_not]; intro h; exact hl (by rw [h]))
    clear hl hc hc'
    go_enter Try.func27, Try.ntmps27
    go_wp2
    go_ret
    exact ⟨ret_bool HR.out.symm, 0, rfl⟩

end Go.Proofs.Ytllpfegnpakadaa
