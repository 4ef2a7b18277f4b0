/- Plain words of a deque: no program in it. -/
import Derived.Test.YtfhkmaikilgolaaPlain
namespace Go.Proofs.Ytfhkmaikilgolaa.Plain

/-- for how many more there is room -/
def roomN (n : Nat) : Nat := 1000 - n
def pushE (l : List Int) : Int := if 1000 ≤ l.length then 2 else 0
def pushL (l : List Int) (n : Int) : List Int := if 1000 ≤ l.length then l else l ++ [n]
def popE (l : List Int) : Int := if l.length = 0 then 4 else 0
def popL (l : List Int) : List Int := l.take (l.length - 1)
def stealL (l : List Int) : List Int := l.drop 1
def topD (l : List Int) : Int := l.getD 0 0
def lookB (l : List Int) : Bool := decide (0 < l.length)
def moveN (from_ to_ : List Int) (most : Int) : Nat := min (min most.toNat from_.length) (roomN to_.length)
def moveF (from_ to_ : List Int) (most : Int) : List Int := from_.drop (moveN from_ to_ most)
def moveT (from_ to_ : List Int) (most : Int) : List Int := to_ ++ from_.take (moveN from_ to_ most)

theorem getD_lt (l : List Int) (j : Nat) (h : j < l.length) : l.getD j 0 = l[j] := by
  rw [List.getD_eq_getElem?_getD, List.getElem?_eq_getElem h]; rfl
theorem getD_drop (l : List Int) (k j : Nat) : (l.drop k).getD j 0 = l.getD (k + j) 0 := by
  simp [List.getD_eq_getElem?_getD, List.getElem?_drop]
theorem getD_take (l : List Int) (k j : Nat) (h : j < k) : (l.take k).getD j 0 = l.getD j 0 := by
  simp [List.getD_eq_getElem?_getD, List.getElem?_take_of_lt h]
theorem popL_len (l : List Int) : (popL l).length = l.length - 1 := by unfold popL; rw [List.length_take]; omega
theorem stealL_len (l : List Int) : (stealL l).length = l.length - 1 := by unfold stealL; rw [List.length_drop]
theorem pushL_len_le (l : List Int) (n : Int) : (pushL l n).length ≤ l.length + 1 := by unfold pushL; split <;> simp
theorem moveN_from (f t : List Int) (m : Int) : moveN f t m ≤ f.length := by unfold moveN; omega
theorem moveF_len (f t : List Int) (m : Int) : (moveF f t m).length = f.length - moveN f t m := by unfold moveF; rw [List.length_drop]
theorem moveT_len (f t : List Int) (m : Int) : (moveT f t m).length = t.length + moveN f t m := by
  unfold moveT; rw [List.length_append, List.length_take]; have := moveN_from f t m; omega
theorem moveN_end (f t : List Int) (m : Int) (k : Nat) (hk : k ≤ moveN f t m) (h : m ≤ k ∨ f.length ≤ k ∨ 1000 ≤ t.length + k) : moveN f t m = k := by
  unfold moveN roomN at *
  rcases h with h | h | h <;> omega
theorem moveN_more (f t : List Int) (m : Int) (k : Nat) (h1 : (k : Int) < m) (h2 : k < f.length) (h3 : t.length + k < 1000) : k + 1 ≤ moveN f t m := by
  unfold moveN roomN
  omega
theorem drop_steal (f : List Int) (k : Nat) : stealL (f.drop k) = f.drop (k + 1) := by unfold stealL; rw [List.drop_drop]
theorem drop_top (f : List Int) (k : Nat) : topD (f.drop k) = f.getD k 0 := by unfold topD; rw [getD_drop]; rfl
theorem push_more (f t : List Int) (k : Nat) (h : k < f.length) (h3 : t.length + k < 1000) : pushL (t ++ f.take k) (f.getD k 0) = t ++ f.take (k + 1) := by
  unfold pushL
  rw [if_neg (by rw [List.length_append, List.length_take]; omega), List.append_assoc, take_snoc f k h]
theorem pushE_more (f t : List Int) (k : Nat) (h : k ≤ f.length) (h3 : t.length + k < 1000) : pushE (t ++ f.take k) = 0 := by
  unfold pushE
  rw [if_neg (by rw [List.length_append, List.length_take]; omega)]
theorem pushE_full (f t : List Int) (k : Nat) (h : k ≤ f.length) (h3 : 1000 ≤ t.length + k) : pushE (t ++ f.take k) = 2 := by
  unfold pushE
  rw [if_pos (by rw [List.length_append, List.length_take]; omega)]
theorem popE_more (f : List Int) (k : Nat) (h : k < f.length) : popE (f.drop k) = 0 := by
  unfold popE
  rw [if_neg (by rw [List.length_drop]; omega)]
theorem popE_end (f : List Int) (k : Nat) (h : f.length ≤ k) : popE (f.drop k) = 4 := by
  unfold popE
  rw [if_pos (by rw [List.length_drop]; omega)]
theorem push_small (l : List Int) (n : Int) (h : l.length < 1000) : pushL l n = l ++ [n] ∧ pushE l = 0 := by
  unfold pushL pushE; rw [if_neg (by omega), if_neg (by omega)]; exact ⟨rfl, rfl⟩
theorem pop_snoc (l : List Int) (n : Int) : popL (l ++ [n]) = l ∧ popE (l ++ [n]) = 0 ∧ lookB (l ++ [n]) = true ∧ lastD (l ++ [n]) = n := by
  refine ⟨by unfold popL; simp, by unfold popE; simp, by unfold lookB; simp, ?_⟩
  unfold lastD
  rw [List.getD_eq_getElem?_getD]
  simp
theorem popE_pos (l : List Int) (h : 0 < l.length) : popE l = 0 ∧ lookB l = true := by
  unfold popE lookB; rw [if_neg (by omega)]; exact ⟨rfl, by simpa using h⟩
theorem top_steal (l : List Int) (h : 0 < l.length) : [topD l] ++ stealL l = l := by
  cases l with
  | nil => simp at h
  | cons a l => rfl
end Go.Proofs.Ytfhkmaikilgolaa.Plain
