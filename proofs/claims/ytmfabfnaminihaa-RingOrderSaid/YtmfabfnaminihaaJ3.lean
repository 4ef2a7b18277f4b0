/- Joined by wip/merge.py: T13P, T13Q, T13R, LwJ. -/
import Derived.Test.YtmfabfnaminihaaJ2
import Derived.Deep.QuietTactic
import Derived.BigQuiet
import Derived.Deep.CutBlock
import Derived.Deep.RegionLaw
set_option linter.unusedVariables false
set_option linter.unusedSimpArgs false
set_option linter.unnecessarySimpa false
/- Plain words of rings: turned, least, joined, cut, next. No program in it. -/
namespace Go.Proofs.Ytmfabfnaminihaa.Plain
instance nodupDec : (l : List Int) → Decidable l.Nodup
  | [] => isTrue List.nodup_nil
  | a :: l => match nodupDec l with
    | isTrue h => if ha : a ∈ l then isFalse (fun h2 => (List.nodup_cons.1 h2).1 ha) else isTrue (List.nodup_cons.2 ⟨ha, h⟩)
    | isFalse h => isFalse (fun h2 => h (List.nodup_cons.1 h2).2)
def placeP (l : List Int) (x : Int) : Int := if x ∈ l then (l.idxOf x : Nat) else -1
def tokOk (x : Int) : Bool := decide (0 ≤ x) && decide (x ≤ 10000)
def rightL (l : List Int) : Bool := decide (l.length ≤ 1000) && l.all tokOk && decide l.Nodup
theorem rightL_iff (l : List Int) : rightL l = true ↔ l.length ≤ 1000 ∧ (∀ x ∈ l, 0 ≤ x ∧ x ≤ 10000) ∧ l.Nodup := by
  unfold rightL
  rw [Bool.and_eq_true, Bool.and_eq_true, decide_eq_true_eq, decide_eq_true_eq, List.all_eq_true]
  constructor
  · rintro ⟨⟨h1, h2⟩, h3⟩
    refine ⟨h1, fun x hx => ?_, h3⟩
    have := h2 x hx
    unfold tokOk at this
    rw [Bool.and_eq_true, decide_eq_true_eq, decide_eq_true_eq] at this; exact this
  · rintro ⟨h1, h2, h3⟩
    refine ⟨⟨h1, fun x hx => ?_⟩, h3⟩
    unfold tokOk
    rw [Bool.and_eq_true, decide_eq_true_eq, decide_eq_true_eq]; exact h2 x hx
def fromL (l : List Int) (x : Int) : List Int := l.drop (l.idxOf x) ++ l.take (l.idxOf x)
def fromR (l : List Int) (x : Int) : List Int × Bool := if rightL l = true ∧ x ∈ l then (fromL l x, true) else ([], false)
def leastL (l : List Int) : Int := l.foldl min (l.headD 0)
def plainR (l : List Int) : List Int := if rightL l = true ∧ l ≠ [] then fromL l (leastL l) else []
def insB (a : List Int) (x : Int) (b : List Int) : List Int := a.take (a.idxOf x + 1) ++ b ++ a.drop (a.idxOf x + 1)
def joinR (a : List Int) (x : Int) (b : List Int) (y : Int) : List Int × Bool :=
  if (rightL b = true ∧ y ∈ b) ∧ (rightL a = true ∧ x ∈ a) ∧ rightL (insB (plainR a) x (fromL b y)) = true then (insB (plainR a) x (fromL b y), true) else ([], false)
/-- all behind one, itself the last -/
def behind (l : List Int) (x : Int) : List Int := (fromL l x).drop 1 ++ [x]
def cutPart (l : List Int) (x y : Int) : List Int := (behind l x).take ((behind l x).idxOf y + 1)
def cutR (l : List Int) (x y : Int) : List Int × List Int × Bool :=
  if rightL l = true ∧ x ∈ l ∧ y ∈ l then (l.filter (fun t => !(cutPart l x y).contains t), cutPart l x y, true) else ([], [], false)
def nextR (l : List Int) (x d : Int) : Int × Bool := if rightL l = true ∧ x ∈ l then ((fromL l x).getD (d % (l.length : Int)).toNat 0, true) else (0, false)
def sameR (a b : List Int) : Bool := rightL a && rightL b && decide (plainR a = plainR b)

theorem at_split {l : List Int} {x : Int} (h : x ∈ l) : ∃ u v, l = u ++ x :: v ∧ x ∉ u := by
  induction l with
  | nil => cases h
  | cons a l ih =>
    by_cases e : a = x
    · subst e; exact ⟨[], l, rfl, by simp⟩
    · have hm : x ∈ l := by
        rcases List.mem_cons.1 h with h1 | h1
        · exact absurd h1.symm e
        · exact h1
      obtain ⟨u, v, rfl, hu⟩ := ih hm
      refine ⟨a :: u, v, rfl, fun h2 => ?_⟩
      rcases List.mem_cons.1 h2 with h3 | h3
      · exact e h3.symm
      · exact hu h3
theorem idx_split {u v : List Int} {x : Int} (h : x ∉ u) : (u ++ x :: v).idxOf x = u.length := by
  rw [List.idxOf_append, if_neg h, List.idxOf_cons_self]; omega
theorem from_split {u v : List Int} {x : Int} (h : x ∉ u) : fromL (u ++ x :: v) x = x :: v ++ u := by
  unfold fromL
  rw [idx_split h, List.drop_left, List.take_left]
theorem ins_split {u v b : List Int} {x : Int} (h : x ∉ u) : insB (u ++ x :: v) x b = u ++ x :: (b ++ v) := by
  unfold insB
  have e : u ++ x :: v = (u ++ [x]) ++ v := by simp
  have hl : (u ++ [x]).length = u.length + 1 := by simp
  rw [idx_split h, e, ← hl, List.take_left, List.drop_left]; simp
theorem behind_split {u v : List Int} {x : Int} (h : x ∉ u) : behind (u ++ x :: v) x = v ++ u ++ [x] := by
  unfold behind
  rw [from_split h]; rfl
theorem from_perm {l : List Int} (x : Int) : (fromL l x).Perm l := by
  unfold fromL
  exact List.perm_append_comm.trans (by rw [List.take_append_drop])
theorem from_len (l : List Int) (x : Int) : (fromL l x).length = l.length := (from_perm x).length_eq
theorem right_perm {a b : List Int} (h : a.Perm b) (hr : rightL a = true) : rightL b = true := by
  rw [rightL_iff] at hr ⊢
  exact ⟨by rw [← h.length_eq]; exact hr.1, fun x hx => hr.2.1 x (h.mem_iff.2 hx), h.nodup_iff.1 hr.2.2⟩
/-- turned -/
def Rot (a b : List Int) : Prop := ∃ u v, a = u ++ v ∧ b = v ++ u
theorem rot_from {l : List Int} (x : Int) : Rot l (fromL l x) := ⟨l.take (l.idxOf x), l.drop (l.idxOf x), (List.take_append_drop _ _).symm, rfl⟩
theorem rot_perm {a b : List Int} (h : Rot a b) : a.Perm b := by
  obtain ⟨u, v, rfl, rfl⟩ := h
  exact List.perm_append_comm
theorem rot_symm {a b : List Int} (h : Rot a b) : Rot b a := by
  obtain ⟨u, v, rfl, rfl⟩ := h
  exact ⟨v, u, rfl, rfl⟩
theorem rot_one {a b : List Int} (h : Rot a b) (hn : a.Nodup) {x : Int} (hx : x ∈ a) : fromL a x = fromL b x := by
  obtain ⟨u, v, rfl, rfl⟩ := h
  rw [List.nodup_append] at hn
  obtain ⟨h1, h2, h3⟩ := hn
  rcases List.mem_append.1 hx with h | h
  · obtain ⟨p, q, rfl, hp⟩ := at_split h
    have hv : x ∉ v := fun hv => h3 x h x hv rfl
    have e : v ++ (p ++ x :: q) = (v ++ p) ++ x :: q := by simp
    have e2 : (p ++ x :: q) ++ v = p ++ x :: (q ++ v) := by simp
    rw [e, e2, from_split hp, from_split (fun h8 => (List.mem_append.1 h8).elim hv hp)]; simp
  · obtain ⟨p, q, rfl, hp⟩ := at_split h
    have hu : x ∉ u := fun hu => h3 x hu x h rfl
    have e : u ++ (p ++ x :: q) = (u ++ p) ++ x :: q := by simp
    have e2 : (p ++ x :: q) ++ u = p ++ x :: (q ++ u) := by simp
    rw [e, e2, from_split hp, from_split (fun h8 => (List.mem_append.1 h8).elim hu hp)]; simp
theorem foldl_min_le (l : List Int) : ∀ a : Int, l.foldl min a ≤ a ∧ (∀ x ∈ l, l.foldl min a ≤ x) ∧ (l.foldl min a = a ∨ l.foldl min a ∈ l) := by
  induction l with
  | nil => intro a; exact ⟨Int.le_refl _, by simp, .inl rfl⟩
  | cons b l ih =>
    intro a
    obtain ⟨h1, h2, h3⟩ := ih (min a b)
    rw [List.foldl_cons]
    refine ⟨by omega, fun x hx => ?_, ?_⟩
    · rcases List.mem_cons.1 hx with rfl | hx
      · omega
      · exact h2 x hx
    · rcases h3 with h3 | h3
      · rw [h3]
        by_cases h4 : a ≤ b
        · left; omega
        · right; have : min a b = b := by omega
          rw [this]; simp
      · exact .inr (List.mem_cons_of_mem _ h3)
theorem least_in {l : List Int} (h : l ≠ []) : leastL l ∈ l ∧ ∀ x ∈ l, leastL l ≤ x := by
  obtain ⟨a, t, rfl⟩ := List.exists_cons_of_ne_nil h
  unfold leastL
  obtain ⟨h1, h2, h3⟩ := foldl_min_le (a :: t) a
  refine ⟨?_, h2⟩
  rcases h3 with h3 | h3
  · show List.foldl min a (a :: t) ∈ _
    rw [h3]; simp
  · exact h3
theorem least_perm {a b : List Int} (h : a.Perm b) (hne : a ≠ []) : leastL a = leastL b := by
  have hb : b ≠ [] := fun e => hne (by rw [e] at h; exact h.eq_nil)
  obtain ⟨h1, h2⟩ := least_in hne
  obtain ⟨h3, h4⟩ := least_in hb
  have := h2 _ (h.mem_iff.2 h3)
  have := h4 _ (h.mem_iff.1 h1)
  omega
theorem plain_right {l : List Int} (h : rightL l = true) : Rot l (plainR l) := by
  unfold plainR
  by_cases e : l = []
  · subst e; rw [if_neg (by simp)]; exact ⟨[], [], rfl, rfl⟩
  · rw [if_pos ⟨h, e⟩]; exact rot_from _
theorem plain_rot {a b : List Int} (h : Rot a b) (hr : rightL a = true) : plainR a = plainR b := by
  have hp := rot_perm h
  have hb := right_perm hp hr
  unfold plainR
  by_cases e : a = []
  · subst e; rw [hp.symm.eq_nil]
  · have e2 : b ≠ [] := fun e2 => e (by rw [e2] at hp; exact hp.eq_nil)
    rw [if_pos ⟨hr, e⟩, if_pos ⟨hb, e2⟩, ← least_perm hp e]
    exact rot_one h ((rightL_iff a).1 hr).2.2 (least_in e).1
theorem same_rot {a b : List Int} (h : Rot a b) (hr : rightL a = true) : sameR a b = true := by
  unfold sameR
  rw [hr, right_perm (rot_perm h) hr, plain_rot h hr]; simp
/-- the same, by where both begin with one token -/
theorem same_of {a b : List Int} {x : Int} (ha : rightL a = true) (hb : rightL b = true) (h : fromL a x = fromL b x) : sameR a b = true := by
  have h1 : plainR a = plainR (fromL a x) := plain_rot (rot_from x) ha
  have h2 : plainR b = plainR (fromL b x) := plain_rot (rot_from x) hb
  unfold sameR
  rw [ha, hb, h1, h2, h]; simp
/-- a token of a turned ring -/
theorem from_at {l : List Int} {x : Int} (hx : x ∈ l) (d : Nat) (hd : d < l.length) : (fromL l x).getD d 0 = l.getD ((l.idxOf x + d) % l.length) 0 := by
  have hi := List.idxOf_lt_length_of_mem hx
  unfold fromL
  rw [List.getD_eq_getElem?_getD, List.getD_eq_getElem?_getD]
  by_cases h : d < l.length - l.idxOf x
  · rw [List.getElem?_append_left (by rw [List.length_drop]; exact h), List.getElem?_drop, Nat.mod_eq_of_lt (by omega)]
  · rw [List.getElem?_append_right (by rw [List.length_drop]; omega), List.length_drop, List.getElem?_take_of_lt (by omega)]
    rw [Nat.mod_eq_sub_mod (by omega), Nat.mod_eq_of_lt (by omega)]
    congr 2; omega
theorem from_head {l : List Int} {x : Int} (hx : x ∈ l) : (fromL l x).getD 0 0 = x := by
  obtain ⟨u, v, rfl, hu⟩ := at_split hx
  rw [from_split hu]; rfl
theorem ints_nodup_at {l : List Int} (h : l.Nodup) {i j : Nat} (hi : i < l.length) (hj : j < l.length) (e : l.getD i 0 = l.getD j 0) : i = j := by
  rw [List.nodup_iff_pairwise_ne, List.pairwise_iff_getElem] at h
  rw [List.getD_eq_getElem?_getD, List.getElem?_eq_getElem hi, List.getD_eq_getElem?_getD, List.getElem?_eq_getElem hj] at e
  simp only [Option.getD_some] at e
  rcases Nat.lt_trichotomy i j with h1 | h1 | h1
  · exact absurd e (h i j hi hj h1)
  · exact h1
  · exact absurd e.symm (h j i hj hi h1)
theorem ints_idx_at {l : List Int} (h : l.Nodup) {i : Nat} (hi : i < l.length) : l.idxOf (l.getD i 0) = i := by
  have hm : l.getD i 0 ∈ l := by rw [List.getD_eq_getElem?_getD, List.getElem?_eq_getElem hi]; exact List.getElem_mem _
  have hlt := List.idxOf_lt_length_of_mem hm
  refine ints_nodup_at h hlt hi ?_
  rw [List.getD_eq_getElem?_getD, List.getElem?_eq_getElem hlt, List.getElem_idxOf hlt]; rfl
theorem ints_at_idx {l : List Int} {x : Int} (hx : x ∈ l) : l.getD (l.idxOf x) 0 = x := by
  have hlt := List.idxOf_lt_length_of_mem hx
  rw [List.getD_eq_getElem?_getD, List.getElem?_eq_getElem hlt, List.getElem_idxOf hlt]; rfl
end Go.Proofs.Ytmfabfnaminihaa.Plain

/- Plain words of rings: what is joined is cut out again, what is cut is put back, turned. No program in it. -/
namespace Go.Proofs.Ytmfabfnaminihaa.Plain
theorem right_nodup {l : List Int} (h : rightL l = true) : l.Nodup := ((rightL_iff l).1 h).2.2
theorem plain_mem {a : List Int} (h : rightL a = true) (x : Int) : x ∈ plainR a ↔ x ∈ a := ((rot_perm (plain_right h)).mem_iff).symm
theorem plain_is_right {a : List Int} (h : rightL a = true) : rightL (plainR a) = true := right_perm (rot_perm (plain_right h)) h
theorem plain_same {a : List Int} (h : rightL a = true) : sameR (plainR a) a = true := same_rot (rot_symm (plain_right h)) (plain_is_right h)
theorem plain_from {a : List Int} (h : rightL a = true) {x : Int} (hx : x ∈ a) : fromL (plainR a) x = fromL a x := (rot_one (plain_right h) (right_nodup h) hx).symm
theorem join_ok {a b j : List Int} {x y : Int} (h : joinR a x b y = (j, true)) :
    rightL a = true ∧ x ∈ a ∧ rightL b = true ∧ y ∈ b ∧ rightL j = true ∧ ∃ u v, plainR a = u ++ x :: v ∧ x ∉ u ∧ j = u ++ x :: (fromL b y ++ v) := by
  unfold joinR at h
  split at h
  · rename_i hc
    obtain ⟨⟨h1, h2⟩, ⟨h3, h4⟩, h5⟩ := hc
    obtain ⟨u, v, e, hu⟩ := at_split ((plain_mem h3 x).2 h4)
    simp only [Prod.mk.injEq, and_true] at h
    rw [e, ins_split hu] at h
    rw [e, ins_split hu, h] at h5
    exact ⟨h3, h4, h1, h2, h5, u, v, e, hu, h.symm⟩
  · simp at h
theorem join_no {a b j : List Int} {x y : Int} (h : joinR a x b y = (j, false)) : j = [] := by
  unfold joinR at h
  split at h
  · simp at h
  · simp only [Prod.mk.injEq, and_true] at h; exact h.symm
theorem next_is {l : List Int} {x d : Int} (hr : rightL l = true) (hx : x ∈ l) : nextR l x d = ((fromL l x).getD (d % (l.length : Int)).toNat 0, true) := by
  unfold nextR; rw [if_pos ⟨hr, hx⟩]
theorem last_split {l : List Int} (h : l ≠ []) : ∃ m, l = m ++ [l.getD (l.length - 1) 0] := by
  refine ⟨l.dropLast, ?_⟩
  have e := (List.dropLast_concat_getLast h).symm
  rw [List.getLast_eq_getElem] at e
  have hl : l.length - 1 < l.length := by have := List.length_pos_iff.2 h; omega
  rw [List.getD_eq_getElem?_getD, List.getElem?_eq_getElem hl]
  exact e
theorem filter_out {p s : List Int} (h : ∀ x ∈ s, x ∉ p) : s.filter (fun t => !p.contains t) = s := by
  rw [List.filter_eq_self]
  intro x hx
  have := h x hx
  simpa using this
theorem filter_in {p s : List Int} (h : ∀ x ∈ s, x ∈ p) : s.filter (fun t => !p.contains t) = [] := by
  rw [List.filter_eq_nil_iff]
  intro x hx
  have := h x hx
  simpa using this
theorem ring_back {a b j : List Int} {x y : Int} (h : joinR a x b y = (j, true)) :
    (nextR b y (-1)).2 = true ∧ cutR j x (nextR b y (-1)).1 = (plainR a, fromL b y, true) ∧ fromR b y = (fromL b y, true) ∧ sameR (plainR a) a = true ∧ j.length = a.length + b.length := by
  obtain ⟨ha, hx, hb, hy, hj, u, v, e, hu, rfl⟩ := join_ok h
  have hlb : (fromL b y).length = b.length := from_len b y
  have hla : (plainR a).length = a.length := (rot_perm (plain_right ha)).length_eq.symm
  have hb0 : 0 < b.length := List.length_pos_of_mem hy
  have hm : ((-1 : Int) % (b.length : Int)).toNat = b.length - 1 := by
    have : (-1 : Int) % (b.length : Int) = (b.length : Int) - 1 := by
      rw [← Int.add_emod_right (a := -1), Int.emod_eq_of_lt (by omega) (by omega)]; omega
    rw [this]; omega
  rw [next_is hb hy, hm]
  obtain ⟨F, hF⟩ : ∃ F, fromL b y = F := ⟨_, rfl⟩
  rw [hF] at hlb hj ⊢
  have hFne : F ≠ [] := fun e => by rw [e] at hlb; simp at hlb; omega
  obtain ⟨F', hF'⟩ := last_split hFne
  rw [hlb] at hF'
  obtain ⟨z, hz⟩ : ∃ z, F.getD (b.length - 1) 0 = z := ⟨_, rfl⟩
  rw [hz] at hF' ⊢
  have hnd := right_nodup hj
  have hnd2 := hnd
  rw [List.nodup_append] at hnd2
  obtain ⟨n1, n2, n3⟩ := hnd2
  rw [List.nodup_cons] at n2
  obtain ⟨n4, n5⟩ := n2
  rw [List.nodup_append] at n5
  obtain ⟨n6, n7, n8⟩ := n5
  have hzF : z ∉ F' := by
    have h9 := n6
    rw [hF', List.nodup_append] at h9
    exact fun hz9 => h9.2.2 z hz9 z (by simp) rfl
  have hcp : cutPart (u ++ x :: (F ++ v)) x z = F := by
    unfold cutPart
    rw [behind_split hu]
    have e1 : F ++ v ++ u ++ [x] = F' ++ z :: (v ++ u ++ [x]) := by rw [hF']; simp
    rw [e1, idx_split hzF]
    have e2 : F' ++ z :: (v ++ u ++ [x]) = F ++ (v ++ u ++ [x]) := by rw [hF']; simp
    have e3 : F'.length + 1 = F.length := by rw [hF']; simp
    rw [e2, e3, List.take_left]
  refine ⟨rfl, ?_, ?_, plain_same ha, ?_⟩
  · unfold cutR
    rw [if_pos ⟨hj, by simp, by rw [hF']; simp⟩, hcp, e]
    have h1 : u.filter (fun t => !F.contains t) = u := filter_out fun t ht hF9 => n3 t ht t (by simp [hF9]) rfl
    have h2 : v.filter (fun t => !F.contains t) = v := filter_out fun t ht hF9 => n8 t hF9 t ht rfl
    have h3 : F.filter (fun t => !F.contains t) = [] := filter_in fun t ht => ht
    have h4 : x ∉ F := fun h9 => n4 (List.mem_append_left _ h9)
    rw [List.filter_append, List.filter_cons, if_pos (by simpa using h4), List.filter_append, h1, h2, h3]; rfl
  · unfold fromR; rw [if_pos ⟨hb, hy⟩, hF]
  · rw [← hla, e, ← hlb]
    simp only [List.length_append, List.length_cons]; omega
theorem ring_order {a b j : List Int} {x y : Int} (h : joinR a x b y = (j, true)) :
    nextR j x 1 = (y, true) ∧ nextR j x ((b.length : Int) + 1) = nextR a x 1 ∧ (nextR a x 1).2 = true ∧ sameR (j.filter (fun t => a.contains t)) a = true ∧ sameR (j.filter (fun t => !a.contains t)) b = true := by
  obtain ⟨ha, hx, hb, hy, hj, u, v, e, hu, rfl⟩ := join_ok h
  have hlb : (fromL b y).length = b.length := from_len b y
  have hla : (plainR a).length = a.length := (rot_perm (plain_right ha)).length_eq.symm
  have hb0 : 0 < b.length := List.length_pos_of_mem hy
  have hh := from_head hy
  have hfa : fromL a x = x :: v ++ u := by rw [← plain_from ha hx, e, from_split hu]
  have hsb : sameR (fromL b y) b = true := same_rot (rot_symm (rot_from y)) (right_perm (from_perm y).symm hb)
  have hma := plain_mem ha
  rw [e] at hma hla
  have hlj : (u ++ x :: (fromL b y ++ v)).length = a.length + b.length := by rw [← hla, ← hlb]; simp only [List.length_append, List.length_cons]; omega
  rw [next_is hj (by simp), next_is hj (by simp), next_is ha hx, hlj, from_split hu, hfa]
  have hnd := right_nodup hj
  rw [List.nodup_append] at hnd
  obtain ⟨n1, n2, n3⟩ := hnd
  rw [List.nodup_cons] at n2
  obtain ⟨n4, n5⟩ := n2
  rw [List.nodup_append] at n5
  obtain ⟨n6, n7, n8⟩ := n5
  obtain ⟨F, hF⟩ : ∃ F, fromL b y = F := ⟨_, rfl⟩
  rw [hF] at hlb hh hsb n3 n4 n6 n8 ⊢
  have hFa : ∀ t ∈ F, t ∉ a := by
    intro t ht h9
    rw [← hma t, List.mem_append, List.mem_cons] at h9
    rcases h9 with h9 | rfl | h9
    · exact n3 t h9 t (by simp [ht]) rfl
    · exact n4 (List.mem_append_left _ ht)
    · exact n8 t ht t h9 rfl
  have hua : ∀ t ∈ u, t ∈ a := fun t ht => (hma t).1 (by simp [ht])
  have hva : ∀ t ∈ v, t ∈ a := fun t ht => (hma t).1 (by simp [ht])
  have ha0 : 0 < a.length := List.length_pos_of_mem hx
  have hal : u.length + v.length + 1 = a.length := by rw [← hla]; simp only [List.length_append, List.length_cons]; omega
  refine ⟨?_, ?_, rfl, ?_, ?_⟩
  · have h1 : ((1 : Int) % ((a.length + b.length : Nat) : Int)).toNat = 1 := by rw [Int.emod_eq_of_lt (by omega) (by omega)]; rfl
    rw [h1]
    cases F with
    | nil => simp at hlb; omega
    | cons f F => simp only [Prod.mk.injEq, and_true]; exact hh
  · simp only [Prod.mk.injEq, and_true]
    by_cases h2 : a.length = 1
    · have e1 : (((b.length : Int) + 1) % ((a.length + b.length : Nat) : Int)).toNat = 0 := by
        rw [show ((a.length + b.length : Nat) : Int) = (b.length : Int) + 1 by omega, Int.emod_self]; rfl
      have e2 : ((1 : Int) % (a.length : Int)).toNat = 0 := by rw [h2]; rfl
      rw [e1, e2]; rfl
    · have e1 : (((b.length : Int) + 1) % ((a.length + b.length : Nat) : Int)).toNat = F.length + 1 := by rw [Int.emod_eq_of_lt (by omega) (by omega)]; omega
      have e2 : ((1 : Int) % (a.length : Int)).toNat = 1 := by rw [Int.emod_eq_of_lt (by omega) (by omega)]; rfl
      rw [e1, e2]
      show (x :: ((F ++ v) ++ u)).getD (F.length + 1) 0 = (x :: (v ++ u)).getD 1 0
      rw [List.getD_cons_succ, List.getD_cons_succ, List.append_assoc, List.getD_eq_getElem?_getD, List.getElem?_append_right (Nat.le_refl _), Nat.sub_self, ← List.getD_eq_getElem?_getD]
  · have e1 : u.filter (fun t => a.contains t) = u := List.filter_eq_self.2 fun t ht => by simpa using hua t ht
    have e2 : v.filter (fun t => a.contains t) = v := List.filter_eq_self.2 fun t ht => by simpa using hva t ht
    have e3 : F.filter (fun t => a.contains t) = [] := List.filter_eq_nil_iff.2 fun t ht => by simpa using hFa t ht
    rw [List.filter_append, List.filter_cons, if_pos (by simpa using hx), List.filter_append, e1, e2, e3, List.nil_append, ← e]
    exact plain_same ha
  · have e1 : u.filter (fun t => !a.contains t) = [] := filter_in hua
    have e2 : v.filter (fun t => !a.contains t) = [] := filter_in hva
    have e3 : F.filter (fun t => !a.contains t) = F := filter_out hFa
    rw [List.filter_append, List.filter_cons, if_neg (by simpa using hx), List.filter_append, e1, e2, e3, List.nil_append, List.append_nil]
    exact hsb
theorem ring_cuts {l : List Int} {x y : Int} (hr : rightL l = true) (hx : x ∈ l) (hy : y ∈ l) :
    ∃ r p, cutR l x y = (r, p, true) ∧ r.length + p.length = l.length ∧ 0 < p.length ∧ p.getD (p.length - 1) 0 = y ∧ (x = y ↔ r.length = 0) ∧ (r.length = 0 → sameR p l = true) ∧
      (0 < r.length → ∃ j, joinR r x p (p.getD 0 0) = (j, true) ∧ sameR j l = true ∧ nextR l x 1 = (p.getD 0 0, true) ∧ x ∈ r ∧ y ∉ r) := by
  obtain ⟨u, v, rfl, hu⟩ := at_split hx
  have hnd := right_nodup hr
  have hw : (v ++ u ++ [x]).Perm (u ++ x :: v) := by
    have h1 : Rot (u ++ x :: v) (v ++ (u ++ [x])) := ⟨u ++ [x], v, by simp, rfl⟩
    rw [List.append_assoc]
    exact (rot_perm h1).symm
  have hyw : y ∈ v ++ u ++ [x] := hw.mem_iff.2 hy
  have hnw : (v ++ u ++ [x]).Nodup := hw.nodup_iff.2 hnd
  obtain ⟨p', s, hps, hp'⟩ := at_split hyw
  have hcp : cutPart (u ++ x :: v) x y = p' ++ [y] := by
    unfold cutPart
    rw [behind_split hu, hps, idx_split hp']
    have e1 : p' ++ y :: s = (p' ++ [y]) ++ s := by simp
    have e2 : p'.length + 1 = (p' ++ [y]).length := by simp
    rw [e1, e2, List.take_left]
  obtain ⟨p, hp⟩ : ∃ p, p' ++ [y] = p := ⟨_, rfl⟩
  rw [hp] at hcp
  have hws : v ++ u ++ [x] = p ++ s := by rw [hps, ← hp]; simp
  have hdis : ∀ t ∈ s, t ∉ p := by
    rw [hws, List.nodup_append] at hnw
    exact fun t ht h9 => hnw.2.2 t h9 t ht rfl
  have hyp : y ∈ p := by rw [← hp]; simp
  obtain ⟨r, hrr⟩ : ∃ r, (u ++ x :: v).filter (fun t => !p.contains t) = r := ⟨_, rfl⟩
  have hrs : r.Perm s := by
    rw [← hrr]
    refine (hw.symm.filter _).trans ?_
    rw [hws, List.filter_append, filter_in (fun t ht => ht), filter_out hdis, List.nil_append]
  have hlen : r.length + p.length = (u ++ x :: v).length := by
    rw [hrs.length_eq, ← hw.length_eq, hws, List.length_append]; omega
  have hcut : cutR (u ++ x :: v) x y = (r, p, true) := by
    unfold cutR
    rw [if_pos ⟨hr, by simp, hy⟩, hcp, hrr]
  have hp0 : 0 < p.length := by rw [← hp]; simp
  have hpl : p.getD (p.length - 1) 0 = y := by
    rw [← hp, List.length_append, List.length_singleton, Nat.add_sub_cancel, List.getD_eq_getElem?_getD, List.getElem?_append_right (Nat.le_refl _), Nat.sub_self]; rfl
  have hxy : x = y ↔ r.length = 0 := by
    rw [hrs.length_eq]
    constructor
    · intro e
      subst e
      rw [List.nodup_append] at hnw
      have hx9 : x ∉ v ++ u := fun h9 => hnw.2.2 x h9 x (by simp) rfl
      have e1 : (v ++ u ++ [x]).idxOf x = (v ++ u).length := idx_split hx9
      rw [hps, idx_split hp'] at e1
      have e2 := congrArg List.length hps
      simp only [List.length_append, List.length_cons, List.length_nil] at e1 e2
      omega
    · intro e
      have hs : s = [] := List.eq_nil_of_length_eq_zero e
      rw [hs] at hps
      have := congrArg List.getLast? hps
      rw [List.getLast?_append, List.getLast?_append] at this
      simpa using this
  refine ⟨r, p, hcut, hlen, hp0, hpl, hxy, fun h0 => ?_, fun h0 => ?_⟩
  · have hs : s = [] := List.eq_nil_of_length_eq_zero (by rw [← hrs.length_eq]; exact h0)
    rw [hs, List.append_nil] at hws
    rw [← hws]
    refine same_rot (rot_symm ⟨u ++ [x], v, by simp, by simp⟩) (right_perm hw.symm hr)
  · have hne : x ≠ y := fun e => by have := hxy.1 e; omega
    have hs0 : 0 < s.length := by rw [← hrs.length_eq]; exact h0
    have hsne : s ≠ [] := fun e => by rw [e] at hs0; simp at hs0
    obtain ⟨s', hs'⟩ := last_split hsne
    obtain ⟨z, hz⟩ : ∃ z, s.getD (s.length - 1) 0 = z := ⟨_, rfl⟩
    rw [hz] at hs'
    have hvu : v ++ u = p ++ s' ∧ x = z := by
      have h1 : (v ++ u) ++ [x] = (p ++ s') ++ [z] := by rw [hws, hs']; simp
      have := List.append_inj' h1 rfl
      exact ⟨this.1, by simpa using this.2⟩
    obtain ⟨hvu, rfl⟩ := hvu
    have hxs : x ∈ s := by rw [hs']; simp
    have hxr : x ∈ r := hrs.mem_iff.2 hxs
    have hxp : x ∉ p := hdis x hxs
    have hyr : y ∉ r := fun h9 => hdis y (hrs.mem_iff.1 h9) hyp
    have hfr : fromL r x = x :: s' := by
      rw [← hrr, List.filter_append, List.filter_cons, if_pos (by simpa using hxp), from_split (fun h9 => hu (List.mem_filter.1 h9).1)]
      have : v.filter (fun t => !p.contains t) ++ u.filter (fun t => !p.contains t) = s' := by
        rw [← List.filter_append, hvu, List.filter_append, filter_in (fun t ht => ht), filter_out (fun t ht => hdis t (by rw [hs']; simp [ht])), List.nil_append]
      rw [List.cons_append, this]
    have hrright : rightL r = true := by
      rw [rightL_iff] at hr ⊢
      refine ⟨by have := hr.1; omega, fun t ht => hr.2.1 t ?_, ?_⟩
      · rw [← hrr] at ht; exact (List.mem_filter.1 ht).1
      · rw [← hrr]; exact hr.2.2.sublist List.filter_sublist
    have hsp : ∀ t ∈ p, t ∈ u ++ x :: v := fun t ht => hw.mem_iff.1 (by rw [hws]; simp [ht])
    have hpright : rightL p = true := by
      rw [rightL_iff] at hr ⊢
      refine ⟨by have := hr.1; omega, fun t ht => hr.2.1 t (hsp t ht), ?_⟩
      rw [hws, List.nodup_append] at hnw
      exact hnw.1
    obtain ⟨q, hq⟩ : ∃ q, p.getD 0 0 = q := ⟨_, rfl⟩
    obtain ⟨pt, hpt⟩ : ∃ pt, p = q :: pt := by
      cases p with
      | nil => simp at hp0
      | cons a t => exact ⟨t, by rw [← hq]; rfl⟩
    have hfp : fromL p q = p := by
      rw [hpt]; unfold fromL; rw [List.idxOf_cons_self]; simp
    obtain ⟨u2, v2, e2, hu2⟩ := at_split ((plain_mem hrright x).2 hxr)
    have hfr2 : x :: v2 ++ u2 = x :: s' := by rw [← hfr, ← plain_from hrright hxr, e2, from_split hu2]
    have hj : insB (plainR r) x (fromL p q) = u2 ++ x :: (p ++ v2) := by rw [hfp, e2, ins_split hu2]
    have hfj : fromL (u2 ++ x :: (p ++ v2)) x = fromL (u ++ x :: v) x := by
      rw [from_split hu2, from_split hu]
      have h9 : v2 ++ u2 = s' := by simpa using hfr2
      show x :: (p ++ v2 ++ u2) = x :: (v ++ u)
      rw [hvu, List.append_assoc, h9]
    have hjr : rightL (u2 ++ x :: (p ++ v2)) = true := by
      refine right_perm ((from_perm x).symm.trans ?_) hr
      rw [← hfj]; exact from_perm x
    refine ⟨u2 ++ x :: (p ++ v2), ?_, same_of hjr hr hfj, ?_, hxr, hyr⟩
    · rw [hq]
      unfold joinR
      rw [if_pos ⟨⟨hpright, by rw [hpt]; simp⟩, ⟨hrright, hxr⟩, by rw [hj]; exact hjr⟩, hj]
    · rw [next_is hr (by simp), hq, from_split hu]
      have h2 : 2 ≤ (u ++ x :: v).length := by omega
      have h1 : ((1 : Int) % ((u ++ x :: v).length : Int)).toNat = 1 := by rw [Int.emod_eq_of_lt (by omega) (by omega)]; rfl
      rw [h1]
      show ((x :: (v ++ u)).getD 1 0, true) = _
      rw [hvu, hpt]; rfl
theorem ring_turns {l : List Int} {t d : Int} (hr : rightL l = true) (ht : t ∈ l) :
    fromR l t = (fromL l t, true) ∧ (nextR l t d).2 = true ∧ nextR l (nextR l t d).1 (-(d.tmod l.length)) = (t, true) ∧ nextR l t l.length = (t, true) ∧ (fromL l t).length = l.length ∧ (fromL l t).getD 0 0 = t ∧ sameR (fromL l t) l = true ∧ plainR (fromL l t) = plainR l := by
  have hl0 : 0 < l.length := List.length_pos_of_mem ht
  have hnd := right_nodup hr
  refine ⟨by unfold fromR; rw [if_pos ⟨hr, ht⟩], by rw [next_is hr ht], ?_, ?_, from_len l t, from_head ht, same_rot (rot_symm (rot_from t)) (right_perm (from_perm t).symm hr), (plain_rot (rot_from t) hr).symm⟩
  · rw [next_is hr ht]
    obtain ⟨e, he⟩ : ∃ e : Nat, d % (l.length : Int) = e := ⟨(d % (l.length : Int)).toNat, by have := Int.emod_nonneg d (b := (l.length : Int)) (by omega); omega⟩
    have hel : e < l.length := by have := Int.emod_lt_of_pos d (b := (l.length : Int)) (by omega); omega
    rw [he]
    show nextR l ((fromL l t).getD e 0) (-(d.tmod l.length)) = (t, true)
    rw [from_at ht e hel]
    have hi := List.idxOf_lt_length_of_mem ht
    have hat := ints_at_idx ht
    obtain ⟨i, hix⟩ : ∃ i, l.idxOf t = i := ⟨_, rfl⟩
    rw [hix] at hi hat ⊢
    have hq : (i + e) % l.length < l.length := Nat.mod_lt _ hl0
    obtain ⟨q, hqx⟩ : ∃ q, (i + e) % l.length = q := ⟨_, rfl⟩
    rw [hqx] at hq ⊢
    have hmem : l.getD q 0 ∈ l := by rw [List.getD_eq_getElem?_getD, List.getElem?_eq_getElem hq]; exact List.getElem_mem _
    rw [next_is hr hmem]
    obtain ⟨f, hf⟩ : ∃ f : Nat, (-(d.tmod l.length)) % (l.length : Int) = f := ⟨((-(d.tmod l.length)) % (l.length : Int)).toNat, by have := Int.emod_nonneg (-(d.tmod l.length)) (b := (l.length : Int)) (by omega); omega⟩
    have hfl : f < l.length := by have := Int.emod_lt_of_pos (-(d.tmod l.length)) (b := (l.length : Int)) (by omega); omega
    rw [hf]
    show ((fromL l (l.getD q 0)).getD f 0, true) = _
    rw [from_at hmem f hfl, ints_idx_at hnd hq]
    have hsum : (q + f) % l.length = i := by
      obtain ⟨n, hn⟩ : ∃ n, l.length = n := ⟨_, rfl⟩
      rw [hn] at hl0 he hf hi hqx hel hfl ⊢
      have h1 : ((e : Int) + f) % n = 0 := by
        rw [← he, ← hf, ← Int.add_emod]
        have h2 := Int.mul_tdiv_add_tmod d n
        have h3 : d + -(d.tmod n) = (n : Int) * d.tdiv n := by omega
        rw [h3, Int.mul_emod_right]
      have h4 : (e + f) % n = 0 := by
        have h5 : (((e + f) % n : Nat) : Int) = 0 := by rw [Int.natCast_emod, Int.natCast_add]; exact h1
        omega
      rw [← hqx, Nat.mod_add_mod, Nat.add_assoc, Nat.add_mod, h4, Nat.add_zero, Nat.mod_mod]
      exact Nat.mod_eq_of_lt hi
    rw [hsum, hat]
  · rw [next_is hr ht, Int.emod_self]
    show ((fromL l t).getD 0 0, true) = _
    rw [from_head ht]
end Go.Proofs.Ytmfabfnaminihaa.Plain

/- The document's Place, Right, From, Plain (ref13). -/
namespace Go.Proofs.Ytmfabfnaminihaa
open Go.BigFrame
open Go.RowKit Go.Proofs.Ytmfabfnaminihaa.Plain

theorem Plain.ints_take {l : List Int} {j : Nat} (h : j < l.length) : l.take (j + 1) = l.take j ++ [l.getD j 0] := by
  rw [List.take_succ_eq_append_getElem h, List.getD_eq_getElem?_getD, List.getElem?_eq_getElem h]; rfl
theorem Plain.ints_mem {l : List Int} {j : Nat} (h : j < l.length) : l.getD j 0 ∈ l := by
  rw [List.getD_eq_getElem?_getD, List.getElem?_eq_getElem h]; exact List.getElem_mem h
theorem Plain.place_is {l : List Int} {x : Int} {j : Nat} (h : x ∉ l.take j) (hj : j < l.length) (e : l.getD j 0 = x) : placeP l x = (j : Int) ∧ l.idxOf x = j := by
  have hs : l = l.take j ++ x :: l.drop (j + 1) := by
    have h1 := ints_take hj
    rw [e] at h1
    conv => lhs; rw [← List.take_append_drop (j + 1) l, h1]
    simp
  have hi : l.idxOf x = j := by
    rw [hs, idx_split h, List.length_take]; omega
  have hm : x ∈ l := by rw [← e]; exact ints_mem hj
  exact ⟨by unfold placeP; rw [if_pos hm, hi], hi⟩
theorem Plain.place_no {l : List Int} {x : Int} (h : x ∉ l) : placeP l x = -1 := if_neg h
theorem Plain.place_in {l : List Int} {x : Int} (h : x ∈ l) : placeP l x = (l.idxOf x : Nat) := if_pos h
theorem Plain.place_iff (l : List Int) (x : Int) : (0 ≤ placeP l x) ↔ x ∈ l := by
  unfold placeP
  split
  · rename_i h; exact ⟨fun _ => h, fun _ => by omega⟩
  · rename_i h; exact ⟨fun h1 => by omega, fun h1 => absurd h1 h⟩
theorem Plain.place_lt (l : List Int) (x : Int) : -1 ≤ placeP l x ∧ (placeP l x < l.length ∨ placeP l x = -1) := by
  unfold placeP
  split
  · rename_i h
    have := List.idxOf_lt_length_of_mem h
    omega
  · omega

set_option maxHeartbeats 1600000 in
set_option maxRecDepth 100000 in
theorem rplace_any (l : List Int) (L : Option Addr) (lc : Nat) (x : Int) (w : World) (hL : Rd kInt w (.slice L l.length lc) l) :
    Calls Try.prog 24 #[.slice L l.length lc, .int .i64 x] w fun ed w' => ed = .returned (.int .i64 (placeP l x)) ∧ w = w' := by
  have HL := Lib.hid hL
  have hm := hL.len
  have hm' : (l.length : Int) ≤ 9223372036854775807 := by omega
  clear hL hm
  go_enter Try.func24, Try.ntmps24
  go_wp2_with fail
  go_loopw [5] (fun i wr => ∃ j : Nat, j ≤ l.length ∧ i = .int .i64 j ∧ x ∉ l.take j ∧ w = wr) (fun i _ => l.length - (intOf i).toNat)
  case atStart => exact ⟨0, Nat.zero_le _, rfl, by simp, rfl⟩
  case round =>
    obtain ⟨j, hj, rfl, hno, rfl⟩ := hrel
    have hj0 : (0 : Int) ≤ j := by omega
    by_cases hlt : j < l.length
    · have hlt' : (j : Int) < l.length := by omega
      obtain ⟨bl, ol, rfl, hcl⟩ := (ints_of_rd HL.out).cells (by omega)
      have z0 := hcl j hlt
      have htk := ints_take hlt
      have hpl := fun e => place_is hno hlt e
      obtain ⟨y, hy⟩ : ∃ y, l.getD j 0 = y := ⟨_, rfl⟩
      rw [hy] at z0 htk hpl
      by_cases he : y = x
      · have HR := Lib.hid (hpl he).1
        have e1 : (y == x) = true := by simp [he]
        clear hcl htk hpl hy he hno
        go_wp2_with fail
        go_ret
        exact ⟨ret_int HR.out.symm, rfl⟩
      · have e1 : (y == x) = false := by simp [he]
        have HNO : Hid (x ∉ l.take (j + 1)) := Lib.hid (by
          rw [htk, List.mem_append, List.mem_singleton]
          rintro (h | h)
          · exact hno h
          · exact he h.symm)
        clear hcl htk hpl hy he hno
        go_wp2_with fail
        go_roundw
        case rel => exact ⟨j + 1, by omega, by go_num, HNO.out, by first | rfl | trivial⟩
        case measure => simp [intOf]; omega
    · obtain rfl : j = l.length := by omega
      have HR : Hid (placeP l x = -1) := Lib.hid (place_no (by rw [List.take_length] at hno; exact hno))
      clear hno
      go_wp2_with fail
      go_ret
      exact ⟨ret_int HR.out.symm, rfl⟩
theorem rplace_to (l : List Int) (n : Nat) (L : Option Addr) (lc : Nat) (x : Int) (w : World) (hL : Rd kInt w (.slice L n lc) l) (hn : l.length = n) :
    Calls Try.prog 24 #[.slice L n lc, .int .i64 x] w fun ed w' => ed = .returned (.int .i64 (placeP l x)) ∧ w = w' := by
  subst hn; exact rplace_any l L lc x w hL

theorem Plain.right_out (l : List Int) (x : Int) (hx : x ∈ l) (h : x < 0 ∨ 10000 < x) : rightL l = false := by
  rw [← Bool.not_eq_true, rightL_iff]
  intro h9
  have := h9.2.1 x hx
  omega
theorem Plain.right_twice (l : List Int) (j : Nat) (x : Int) (h : l.take (j + 1) = l.take j ++ [x]) (hx : x ∈ l.take j) : rightL l = false := by
  rw [← Bool.not_eq_true, rightL_iff]
  intro h9
  have h1 := h9.2.2
  rw [← List.take_append_drop (j + 1) l, h, List.nodup_append] at h1
  have h2 := h1.1
  rw [List.nodup_append] at h2
  exact h2.2.2 x hx x (by simp) rfl
theorem Plain.ints_snoc (l : List Int) (x : Int) (h : l.Nodup) (hx : x ∉ l) : (l ++ [x]).Nodup := by
  rw [List.nodup_append]
  refine ⟨h, by simp, fun a ha b hb => ?_⟩
  rw [List.mem_singleton] at hb
  subst hb
  exact fun e => hx (e ▸ ha)
set_option maxHeartbeats 1600000 in
set_option maxRecDepth 100000 in
theorem rright13_any (l : List Int) (L : Option Addr) (lc : Nat) (w : World) (hL : Rd kInt w (.slice L l.length lc) l) :
    Calls Try.prog 21 #[.slice L l.length lc] w fun ed w' => ed = .returned (.bool (rightL l)) ∧ Ext w w' := by
  have HL := Lib.hid hL
  obtain ⟨_, _, hsl, hlc⟩ := hL.slice
  cases hsl
  clear hL
  by_cases hbig : 1000 < l.length
  · have HR : Hid (rightL l = false) := Lib.hid (by rw [← Bool.not_eq_true, rightL_iff]; omega)
    have hd : decide ((1000 : Int) < l.length) = true := decide_eq_true (by omega)
    go_enter Try.func21, Try.ntmps21
    go_wp2_with fail
    go_ret
    exact ⟨ret_bool HR.out.symm, Ext.refl _⟩
  have hd : decide ((1000 : Int) < l.length) = false := decide_eq_false (by omega)
  have hl1 : (l.length : Int) ≤ 1000 := by omega
  have hlc' : (l.length : Int) ≤ lc := by omega
  go_enter Try.func21, Try.ntmps21
  go_wp2_with fail
  go_loopw [3] (fun i wr => ∃ j : Nat, j ≤ l.length ∧ i = .int .i64 j ∧ (∀ x ∈ l.take j, 0 ≤ x ∧ x ≤ 10000) ∧ (l.take j).Nodup ∧ Ext w wr) (fun i _ => l.length - (intOf i).toNat)
  case atStart => exact ⟨0, Nat.zero_le _, rfl, by simp, by simp, Ext.refl _⟩
  case round =>
    obtain ⟨j, hj, rfl, hin, hnd, hX⟩ := hrel
    have HX := Lib.hid hX
    have HIN := Lib.hid (And.intro hin hnd)
    have hj0 : (0 : Int) ≤ j := by omega
    clear hX hin hnd
    by_cases hlt : j < l.length
    · have hlt' : (j : Int) < l.length := by omega
      obtain ⟨bl, ol, rfl, hcl⟩ := (ints_of_rd (HL.out.ext HX.out)).cells (by omega)
      have z0 := hcl j hlt
      have htk := ints_take hlt
      have hmem := ints_mem hlt
      obtain ⟨x, hx⟩ : ∃ x, l.getD j 0 = x := ⟨_, rfl⟩
      rw [hx] at z0 htk hmem
      have KS : Hid (∀ w', Ext wr w' → w'.cell? ⟨bl, ol + j, none⟩ = some (.int .i64 x) ∧ True) := Lib.hid (fun w' hE => ⟨hE.cell z0, trivial⟩)
      obtain ⟨q, hq⟩ : ∃ q, placeP (l.take j) x = q := ⟨_, rfl⟩
      have HF1 : Hid (∀ w', Ext wr w' → Calls Try.prog 24 #[.slice (some ⟨bl, ol, none⟩) j lc, .int .i64 x] w' fun ed w'' => ed = .returned (.int .i64 q) ∧ Ext wr w'') := Lib.hid fun w' hE => by
        rw [← hq]
        refine (rplace_to (l.take j) j _ lc x w' (Rd.take ((HL.out.ext HX.out).ext hE) j lc (by omega) (by omega)) (by rw [List.length_take]; omega)).mono ?_
        rintro ed w'' ⟨rfl, rfl⟩
        exact ⟨rfl, hE⟩
      have hqi := place_iff (l.take j) x
      rw [hq] at hqi
      have hjc : (j : Int) ≤ lc := by omega
      have lbl : bl < wr.heap.size := World.block_lt_of_cell? _ _ z0
      clear hcl hx z0 hq
      by_cases h1 : x < 0
      · have hd1 : decide (x < 0) = true := decide_eq_true h1
        have HR := Lib.hid (right_out l x hmem (.inl h1))
        clear htk hmem hqi h1
        go_wp2_with fail
        refine wp_region_class (Ext wr) (by kernel_rfl) (by kernel_rfl) (Ext.refl _).drew ?_
        try simp only [List.append_eq, List.cons_append, List.nil_append]
        repeat (first
          | go_big_quiet_skip
          | (go_big_quiet_want
             first
             | (go_big_quiet_op; go_big_quiet_on)
             | (unfold Oper.quiet
                apply Exists.intro
                refine ⟨fun w' hC => ?_, ?_⟩
                · (obtain ⟨k1, k2⟩ := KS.out w' hC
                   unfold Oper.quietAt
                   go_simp
                   first
                   | exact rfl
                   | (with_reducible exact HF1.out w' hC))
                go_simp
                go_big_quiet_on)
             | (go_big_quiet_op
                apply Exists.intro
                refine ⟨fun w' hC => ?_, ?_⟩
                · exact HF1.out w' hC
                go_big_quiet_on)))
        refine wpQuiet_nil ?_
        intro w9 hC9
        go_wp2_with fail
        go_ret
        exact ⟨ret_bool HR.out.symm, HX.out.trans hC9⟩
      have hd1 : decide (x < 0) = false := decide_eq_false h1
      by_cases h2 : 10000 < x
      · have hd2 : decide (10000 < x) = true := decide_eq_true h2
        have HR := Lib.hid (right_out l x hmem (.inr h2))
        clear htk hmem hqi h1 h2
        go_wp2_with fail
        refine wp_region_class (Ext wr) (by kernel_rfl) (by kernel_rfl) (Ext.refl _).drew ?_
        try simp only [List.append_eq, List.cons_append, List.nil_append]
        repeat (first
          | go_big_quiet_skip
          | (go_big_quiet_want
             first
             | (go_big_quiet_op; go_big_quiet_on)
             | (unfold Oper.quiet
                apply Exists.intro
                refine ⟨fun w' hC => ?_, ?_⟩
                · (obtain ⟨k1, k2⟩ := KS.out w' hC
                   unfold Oper.quietAt
                   go_simp
                   first
                   | exact rfl
                   | (with_reducible exact HF1.out w' hC))
                go_simp
                go_big_quiet_on)
             | (go_big_quiet_op
                apply Exists.intro
                refine ⟨fun w' hC => ?_, ?_⟩
                · exact HF1.out w' hC
                go_big_quiet_on)))
        refine wpQuiet_nil ?_
        intro w9 hC9
        go_wp2_with fail
        go_ret
        exact ⟨ret_bool HR.out.symm, HX.out.trans hC9⟩
      have hd2 : decide (10000 < x) = false := decide_eq_false h2
      by_cases h3 : x ∈ l.take j
      · have hd3 : decide (0 ≤ q) = true := decide_eq_true (hqi.2 h3)
        have HR := Lib.hid (right_twice l j x htk h3)
        clear htk hmem hqi h1 h2 h3
        go_wp2_with fail
        refine wp_region_class (Ext wr) (by kernel_rfl) (by kernel_rfl) (Ext.refl _).drew ?_
        try simp only [List.append_eq, List.cons_append, List.nil_append]
        repeat (first
          | go_big_quiet_skip
          | (go_big_quiet_want
             first
             | (go_big_quiet_op; go_big_quiet_on)
             | (unfold Oper.quiet
                apply Exists.intro
                refine ⟨fun w' hC => ?_, ?_⟩
                · (obtain ⟨k1, k2⟩ := KS.out w' hC
                   unfold Oper.quietAt
                   go_simp
                   first
                   | exact rfl
                   | (with_reducible exact HF1.out w' hC))
                go_simp
                go_big_quiet_on)
             | (go_big_quiet_op
                apply Exists.intro
                refine ⟨fun w' hC => ?_, ?_⟩
                · exact HF1.out w' hC
                go_big_quiet_on)))
        refine wpQuiet_nil ?_
        intro w9 hC9
        go_wp2_with fail
        go_ret
        exact ⟨ret_bool HR.out.symm, HX.out.trans hC9⟩
      · have hd3 : decide (0 ≤ q) = false := decide_eq_false (fun h => h3 (hqi.1 h))
        have HIN2 : Hid ((∀ x ∈ l.take (j + 1), 0 ≤ x ∧ x ≤ 10000) ∧ (l.take (j + 1)).Nodup) := Lib.hid (by
          rw [htk]
          refine ⟨fun y hy => ?_, ints_snoc _ _ HIN.out.2 h3⟩
          rw [List.mem_append, List.mem_singleton] at hy
          rcases hy with hy | hy
          · exact HIN.out.1 y hy
          · rw [hy]; omega)
        clear htk hmem hqi h1 h2 h3
        go_wp2_with fail
        refine wp_region_class (Ext wr) (by kernel_rfl) (by kernel_rfl) (Ext.refl _).drew ?_
        try simp only [List.append_eq, List.cons_append, List.nil_append]
        repeat (first
          | go_big_quiet_skip
          | (go_big_quiet_want
             first
             | (go_big_quiet_op; go_big_quiet_on)
             | (unfold Oper.quiet
                apply Exists.intro
                refine ⟨fun w' hC => ?_, ?_⟩
                · (obtain ⟨k1, k2⟩ := KS.out w' hC
                   unfold Oper.quietAt
                   go_simp
                   first
                   | exact rfl
                   | (with_reducible exact HF1.out w' hC))
                go_simp
                go_big_quiet_on)
             | (go_big_quiet_op
                apply Exists.intro
                refine ⟨fun w' hC => ?_, ?_⟩
                · exact HF1.out w' hC
                go_big_quiet_on)))
        refine wpQuiet_nil ?_
        intro w9 hC9
        go_wp2_with fail
        go_roundw
        case rel => exact ⟨j + 1, by omega, by go_num, HIN2.out.1, HIN2.out.2, HX.out.trans hC9⟩
        case measure => simp [intOf]; omega
    · obtain rfl : j = l.length := by omega
      have HR : Hid (rightL l = true) := Lib.hid (by
        have h1 := HIN.out
        rw [List.take_length] at h1
        exact (rightL_iff l).2 ⟨by omega, h1.1, h1.2⟩)
      go_wp2_with fail
      go_ret
      exact ⟨ret_bool HR.out.symm, HX.out⟩

/-- tokens, or not -/
def LbSaid (r : List Int × Bool) (w : World) (ed : Ending) (w' : World) : Prop :=
  ∃ (L : Option Addr) (c : Nat), ed = .returned (.tuple #[.slice L r.1.length c, .bool r.2]) ∧ Ow kInt w.heap.size w' (.slice L r.1.length c) r.1 ∧ Ext w w'
/-- tokens -/
def LsSaid (r : List Int) (w : World) (ed : Ending) (w' : World) : Prop :=
  ∃ (L : Option Addr) (c : Nat), ed = .returned (.slice L r.length c) ∧ Ow kInt w.heap.size w' (.slice L r.length c) r ∧ Ext w w'
set_option maxHeartbeats 1600000 in
set_option maxRecDepth 100000 in
theorem rfrom_any (l : List Int) (L : Option Addr) (lc : Nat) (x : Int) (w : World) (hL : Rd kInt w (.slice L l.length lc) l) :
    Calls Try.prog 14 #[.slice L l.length lc, .int .i64 x] w (LbSaid (fromR l x) w) := by
  have HL := Lib.hid hL
  obtain ⟨_, _, hsl, hlc⟩ := hL.slice
  cases hsl
  clear hL
  go_enter Try.func14, Try.ntmps14
  go_wp2_with fail
  refine (rplace_any l L lc x _ HL.out).mono ?_
  rintro ed w1 ⟨rfl, rfl⟩
  have hpi := place_iff l x
  have hin := fun h : x ∈ l => place_in h
  obtain ⟨p, hp⟩ : ∃ p, placeP l x = p := ⟨_, rfl⟩
  rw [hp] at hpi hin ⊢
  clear hp
  go_wp2_with fail
  refine (rright13_any l L lc _ HL.out).mono ?_
  rintro ed w2 ⟨rfl, hE2⟩
  have HX2 := Lib.hid hE2
  clear hE2
  cases hr : rightL l with
  | false =>
    have HR : Hid (fromR l x = ([], false)) := Lib.hid (by unfold fromR; rw [if_neg (by rw [hr]; simp)])
    clear hr hpi hin
    go_wp2_with fail
    exact bodyPost_ret (v := .tuple #[.slice none 0 0, .bool false]) (by simp [results, Try.results14, go_sem]) rfl (by rw [HR.out]; exact ⟨none, 0, rfl, Ow.nil _ _, HX2.out⟩)
  | true =>
    by_cases hx : x ∈ l
    · have hd : decide (p < 0) = false := decide_eq_false (by have := hpi.2 hx; omega)
      have HR : Hid (fromR l x = (l.drop (l.idxOf x) ++ l.take (l.idxOf x), true)) := Lib.hid (by unfold fromR fromL; rw [if_pos ⟨hr, hx⟩])
      have hil := List.idxOf_lt_length_of_mem hx
      have hl9 := ((rightL_iff l).1 hr).1
      have hpx := hin hx
      obtain ⟨q, hq⟩ : ∃ q, l.idxOf x = q := ⟨_, rfl⟩
      rw [hq] at HR hil hpx
      subst hpx
      have hq0 : (0 : Int) ≤ q := by omega
      have hq1 : (q : Int) ≤ l.length := by omega
      have hq2 : (q : Int) ≤ lc := by omega
      have hl2 : (l.length : Int) ≤ lc := by omega
      have HD : Hid (Rd kInt w2 (.slice (if lc = q then L else Option.map (fun x => x.add q) L) (l.length - q) (lc - q)) (l.drop q)) := Lib.hid (Rd.sliced (HL.out.ext HX2.out) rfl q (by omega))
      have HT : Hid (Rd kInt w2 (.slice L q lc) (l.take q)) := Lib.hid (Rd.take (HL.out.ext HX2.out) q lc (by omega) (by omega))
      have HLL : Hid (l.length ≤ 1000 ∧ q ≤ l.length) := Lib.hid ⟨hl9, by omega⟩
      have hz2 := HX2.out.size
      clear hr hpi hin hx hq hl9 hil
      go_upto_region 1 with fail
      go_region_law (first
        | (refine kInt.step_app (by rfl) (.tmp 17) (.tmp 20) (by rfl) (by rfl) w2.heap.size _ [] (by rfl) (empty_at (by first | exact heap_alloc_new _ _ | exact (heap_alloc_old _ _ (by first | (simp; done) | (simp; omega) | omega)).trans (heap_alloc_new _ _) | exact heap_alloc_at (by first | (simp; done) | (simp; omega) | omega)) (by first | omega | (simp; done) | (simp; omega))) _ (l.drop q) (by rfl) (Rd.ext HD.out (by repeat (first | (with_reducible exact Ext.refl _) | (with_reducible assumption) | refine Ext.alloc ?_ _ | refine Ext.drew ?_ | refine Ext.drewN ?_ _))) (by rw [List.length_drop, List.length_nil]; have := HLL.out; omega) (by first | omega | (simp; done) | (simp; omega)) ?_
           intro v5 w5 hown5 hgrow5 hat5
           have hx5 : Ext w2 w5 := Ext.grown (by repeat (first | (with_reducible exact Ext.refl _) | (with_reducible assumption) | refine Ext.alloc ?_ _ | refine Ext.drew ?_ | refine Ext.drewN ?_ _)) hgrow5 (fun b hb => by cases hb; simp)
           rw [List.nil_append] at hown5
           have hs5 := hx5.size)
        | (refine kInt.step_app (by rfl) (.tmp 21) (.tmp 24) (by rfl) (by rfl) w2.heap.size _ (l.drop q) (by rfl) (Ow.ext hown5 (by repeat (first | (with_reducible exact Ext.refl _) | (with_reducible assumption) | refine Ext.alloc ?_ _ | refine Ext.drew ?_ | refine Ext.drewN ?_ _))) _ (l.take q) (by rfl) (Rd.ext HT.out (by repeat (first | (with_reducible exact Ext.refl _) | (with_reducible assumption) | refine Ext.alloc ?_ _ | refine Ext.drew ?_ | refine Ext.drewN ?_ _))) (by rw [List.length_drop, List.length_take]; have := HLL.out; omega) (by first | omega | (simp; omega)) ?_
           intro v6 w6 hown6 hgrow6 hat6
           have hx6 : Ext w2 w6 := Ext.grown (by repeat (first | (with_reducible exact Ext.refl _) | (with_reducible assumption) | refine Ext.alloc ?_ _ | refine Ext.drew ?_ | refine Ext.drewN ?_ _)) hgrow6 (fun b hb => (hown5.lt b hb).1)
           obtain ⟨A6, c6, hv6, hc6⟩ := hown6.slice
           subst hv6)
        | fail)
      all_goals go_wp2_with fail
      all_goals exact bodyPost_ret (v := .tuple #[.slice A6 (l.drop q ++ l.take q).length c6, .bool true]) (by simp [results, Try.results14, go_sem]) rfl (by rw [HR.out]; exact ⟨A6, c6, rfl, hown6.mono hz2, HX2.out.trans hx6⟩)
    · have hd : decide (p < 0) = true := decide_eq_true (by
        refine Decidable.byContradiction fun h => hx (hpi.1 (by omega)))
      have HR : Hid (fromR l x = ([], false)) := Lib.hid (by unfold fromR; rw [if_neg (fun h => hx h.2)])
      clear hr hpi hin hx
      go_wp2_with fail
      exact bodyPost_ret (v := .tuple #[.slice none 0 0, .bool false]) (by simp [results, Try.results14, go_sem]) rfl (by rw [HR.out]; exact ⟨none, 0, rfl, Ow.nil _ _, HX2.out⟩)
end Go.Proofs.Ytmfabfnaminihaa

/- The library at integers: Index, Min. Written by wip/mk_lwi.py. -/
namespace Go.Proofs.Ytmfabfnaminihaa
open Go.BigFrame
open Go.RowKit Go.Proofs.Ytmfabfnaminihaa.Plain

set_option maxHeartbeats 3200000 in
set_option maxRecDepth 100000 in
theorem indexI (l : List Int) (L : Option Addr) (lc : Nat) (x : Int) (w : World) (hL : Rd kInt w (.slice L l.length lc) l) :
    Calls Try.prog 29 #[.slice L l.length lc, .int .i64 x] w fun ed w' => ed = .returned (.int .i64 (placeP l x)) ∧ w = w' := by
  have HL := Lib.hid hL
  have hm := hL.len
  have hm' : (l.length : Int) ≤ 9223372036854775807 := by omega
  clear hL hm
  go_enter Try.func29, Try.ntmps29
  go_wp2_with fail
  go_loopw [8] (fun i wr => ∃ j : Nat, j ≤ l.length ∧ i = .int .i64 j ∧ x ∉ l.take j ∧ w = wr) (fun i _ => l.length - (intOf i).toNat)
  case atStart => exact ⟨0, Nat.zero_le _, rfl, by simp, rfl⟩
  case round =>
    obtain ⟨j, hj, rfl, hno, rfl⟩ := hrel
    have hj0 : (0 : Int) ≤ j := by omega
    by_cases hlt : j < l.length
    · have hlt' : (j : Int) < l.length := by omega
      obtain ⟨bl, ol, rfl, z0⟩ := int_at9 HL.out j hlt
      have htk := ints_take hlt
      have hpl := fun e => place_is hno hlt e
      obtain ⟨y, hy⟩ : ∃ y, l.getD j 0 = y := ⟨_, rfl⟩
      rw [hy] at z0 htk hpl
      by_cases he : y = x
      · have HR := Lib.hid (hpl he).1
        have e1 : (x == y) = true := by simp [he]
        clear htk hpl hy he hno
        go_wp2_with fail
        go_ret
        exact ⟨ret_int HR.out.symm, rfl⟩
      · have e1 : (x == y) = false := by simp [Ne.symm he]
        have HNO : Hid (x ∉ l.take (j + 1)) := Lib.hid (by
          rw [htk, List.mem_append, List.mem_singleton]
          rintro (h | h)
          · exact hno h
          · exact he h.symm)
        clear htk hpl hy he hno
        go_wp2_with fail
        go_roundw
        case rel => exact ⟨j + 1, by omega, by go_num, HNO.out, by first | rfl | trivial⟩
        case measure => simp [intOf]; omega
    · obtain rfl : j = l.length := by omega
      have HR : Hid (placeP l x = -1) := Lib.hid (place_no (by rw [List.take_length] at hno; exact hno))
      clear hno
      go_wp2_with fail
      go_ret
      exact ⟨ret_int HR.out.symm, rfl⟩
theorem Plain.fold_min_take (l : List Int) (j : Nat) (h : j < l.length) (a : Int) : (l.take (j + 1)).foldl min a = min ((l.take j).foldl min a) (l.getD j 0) := by
  rw [ints_take h, List.foldl_append]; rfl
set_option maxHeartbeats 3200000 in
set_option maxRecDepth 100000 in
theorem minI (l : List Int) (L : Option Addr) (lc : Nat) (w : World) (hL : Rd kInt w (.slice L l.length lc) l) (hne : l ≠ []) (hl : l.length ≤ 1000000) :
    Calls Try.prog 30 #[.slice L l.length lc] w fun ed w' => ed = .returned (.int .i64 (leastL l)) ∧ w = w' := by
  have HL := Lib.hid hL
  have hpos : 0 < l.length := List.length_pos_iff.2 hne
  have hpos' : (1 : Int) ≤ l.length := by omega
  have hl' : (l.length : Int) ≤ 1000000 := by omega
  have hd0 : decide ((l.length : Int) < 1) = false := decide_eq_false (by omega)
  have hd0N : decide (l.length < 1) = false := decide_eq_false (by omega)
  obtain ⟨b0, o0, hb0, z00⟩ := int_at9 hL 0 hpos
  have z0 : w.cell? ⟨b0, o0, none⟩ = some (.int .i64 (l.getD 0 0)) := z00
  subst hb0
  have HNE := Lib.hid hne
  obtain ⟨h0, hh0⟩ : ∃ h, l.getD 0 0 = h := ⟨_, rfl⟩
  have HH0 := Lib.hid hh0
  rw [hh0] at z0
  have H1 : Hid ((l.take 1).foldl min h0 = h0) := Lib.hid (by
    have e := fold_min_take l 0 hpos h0
    rw [hh0] at e
    rw [show (1 : Nat) = 0 + 1 from rfl, e]
    simp)
  clear hL hne z00 hh0
  have lb0 : b0 < w.heap.size := World.block_lt_of_cell? _ _ z0
  go_enter Try.func30, Try.ntmps30
  go_wp2_with fail
  clear z0
  go_loopw [3, 4] (fun m i wr => ∃ j : Nat, (1 ≤ j ∧ j ≤ l.length) ∧ i = .int .i64 j ∧ m = .int .i64 ((l.take j).foldl min h0) ∧ w = wr) (fun _ i _ => l.length - (intOf i).toNat)
  case atStart => exact ⟨1, ⟨Nat.le_refl _, hpos⟩, rfl, by rw [H1.out], rfl⟩
  case round =>
    obtain ⟨j, ⟨hj1, hj⟩, rfl, rfl, rfl⟩ := hrel
    have hj0 : (0 : Int) ≤ j := by omega
    by_cases hlt : j < l.length
    · have hlt' : (j : Int) < l.length := by omega
      obtain ⟨b1, o1, hb1, z1⟩ := int_at9 HL.out j hlt
      cases hb1
      have htk := fold_min_take l j hlt h0
      obtain ⟨y, hy⟩ : ∃ y, l.getD j 0 = y := ⟨_, rfl⟩
      obtain ⟨a, ha⟩ : ∃ a, (l.take j).foldl min h0 = a := ⟨_, rfl⟩
      rw [hy, ha] at htk
      rw [hy] at z1
      rw [ha]
      clear hy ha
      rcases Int.lt_trichotomy a y with hc | hc | hc
      · have HTK : Hid ((l.take (j + 1)).foldl min h0 = a) := Lib.hid (by rw [htk]; omega)
        clear htk
        go_wp2_with fail
        go_roundw
        case rel => exact ⟨j + 1, ⟨by omega, by omega⟩, by go_num, by rw [HTK.out], by first | rfl | trivial⟩
        case measure => simp [intOf]; omega
      · have HTK : Hid ((l.take (j + 1)).foldl min h0 = y) := Lib.hid (by rw [htk]; omega)
        subst hc
        clear htk
        go_wp2_with fail
        go_roundw
        case rel => exact ⟨j + 1, ⟨by omega, by omega⟩, by go_num, by rw [HTK.out], by first | rfl | trivial⟩
        case measure => simp [intOf]; omega
      · have HTK : Hid ((l.take (j + 1)).foldl min h0 = y) := Lib.hid (by rw [htk]; omega)
        clear htk
        go_wp2_with fail
        go_roundw
        case rel => exact ⟨j + 1, ⟨by omega, by omega⟩, by go_num, by rw [HTK.out], by first | rfl | trivial⟩
        case measure => simp [intOf]; omega
    · obtain rfl : j = l.length := by omega
      have hll : (l.take l.length).foldl min h0 = leastL l := by
        rw [List.take_length, ← HH0.out]
        unfold leastL
        obtain ⟨a, t, rfl⟩ := List.exists_cons_of_ne_nil HNE.out
        rfl
      have HLL := Lib.hid hll
      rw [hll]
      clear hll
      go_wp2_with fail
      go_ret
      exact ⟨rfl, rfl⟩
end Go.Proofs.Ytmfabfnaminihaa
