/- Plain words of work that is done: units marked, and whom a task belongs to. No program in it. -/
import Derived.Test.YtfigfndabokepaaTPlain
namespace Go.Proofs.Ytfigfndabokepaa.Plain

/-- the units from a up to b are done -/
def marked (dn : List Bool) (a b : Nat) : List Bool := dn.take a ++ List.replicate (b - a) true ++ dn.drop b
theorem marked_len (dn : List Bool) (a b : Nat) (h : a ≤ b) (hb : b ≤ dn.length) : (marked dn a b).length = dn.length := by
  unfold marked; simp; omega
theorem marked_none (dn : List Bool) (a : Nat) : marked dn a a = dn := by unfold marked; simp
theorem marked_getD (dn : List Bool) (a b : Nat) (h : a ≤ b) (hb : b ≤ dn.length) (k : Nat) : (marked dn a b).getD k false = (if a ≤ k ∧ k < b then true else dn.getD k false) := by
  unfold marked
  simp only [List.getD_eq_getElem?_getD]
  by_cases h1 : k < a
  · rw [if_neg (by omega), List.getElem?_append_left (by simp; omega), List.getElem?_append_left (by simp; omega), List.getElem?_take_of_lt h1]
  · by_cases h2 : k < b
    · rw [if_pos (by omega), List.getElem?_append_left (by simp; omega), List.getElem?_append_right (by simp; omega), List.getElem?_replicate]
      rw [if_pos (by simp; omega)]; rfl
    · rw [if_neg (by omega), List.getElem?_append_right (by simp; omega), List.getElem?_drop]
      congr 2; simp; omega
theorem marked_succ (dn : List Bool) (a k : Nat) (h : a ≤ k) (hk : k < dn.length) : marked dn a (k + 1) = (marked dn a k).set k true := by
  apply List.ext_getElem?
  intro i
  have e1 : (marked dn a (k + 1)).length = dn.length := marked_len dn a (k + 1) (by omega) (by omega)
  have e2 : ((marked dn a k).set k true).length = dn.length := by rw [List.length_set]; exact marked_len dn a k h (by omega)
  by_cases hi : i < dn.length
  · have f1 : (marked dn a (k + 1))[i]? = some ((marked dn a (k + 1)).getD i false) := by rw [List.getD_eq_getElem?_getD, List.getElem?_eq_getElem (by omega)]; rfl
    have f2 : ((marked dn a k).set k true)[i]? = some (((marked dn a k).set k true).getD i false) := by rw [List.getD_eq_getElem?_getD, List.getElem?_eq_getElem (by omega)]; rfl
    rw [f1, f2, marked_getD dn a (k + 1) (by omega) (by omega) i]
    by_cases hik : i = k
    · subst hik
      rw [if_pos (by omega), List.getD_eq_getElem?_getD, List.getElem?_set_self (by rw [marked_len dn a i h (by omega)]; omega)]; rfl
    · rw [List.getD_eq_getElem?_getD (l := (marked dn a k).set k true), List.getElem?_set_ne (by omega), ← List.getD_eq_getElem?_getD, marked_getD dn a k h (by omega) i]
      by_cases hc : a ≤ i ∧ i < k
      · rw [if_pos hc, if_pos (by omega)]
      · rw [if_neg hc, if_neg (by omega)]
  · rw [List.getElem?_eq_none (by omega), List.getElem?_eq_none (by omega)]
/-- one less to wait for, of the j-th task -/
def wless (ts : List Tk) (j : Nat) : List Tk := ts.set j ⟨(ts.getD j tk0).lo, (ts.getD j tk0).hi, (ts.getD j tk0).up, (ts.getD j tk0).wt - 1⟩
theorem wless_len (ts : List Tk) (j : Nat) : (wless ts j).length = ts.length := by unfold wless; rw [List.length_set]
theorem wless_at (ts : List Tk) (j i : Nat) (hj : j < ts.length) : (wless ts j).getD i tk0 = if i = j then ⟨(ts.getD j tk0).lo, (ts.getD j tk0).hi, (ts.getD j tk0).up, (ts.getD j tk0).wt - 1⟩ else ts.getD i tk0 := by
  unfold wless
  by_cases h : i = j
  · subst h
    rw [if_pos rfl, List.getD_eq_getElem?_getD, List.getElem?_set_self hj]; rfl
  · rw [if_neg h, List.getD_eq_getElem?_getD, List.getElem?_set_ne (by omega), ← List.getD_eq_getElem?_getD]
theorem wless_ok (ts : List Tk) (n j k : Nat) (hj : j < ts.length) (h : wOkTo ts n k = true) (hk : j < k) (hw : (ts.getD j tk0).wt ≠ 0) : wOkTo (wless ts j) n k = true := by
  unfold wOkTo
  rw [List.all_eq_true]
  intro i hi
  have hi' := List.mem_range.1 hi
  rw [wless_at ts j i hj]
  have hh := wOkTo_at ts n k h i hi'
  by_cases e : i = j
  · subst e
    rw [if_pos rfl]
    rw [tkOk_iff] at hh ⊢
    simp only
    omega
  · rw [if_neg e]; exact hh
/-- whom it belongs to waits for one less, and so on: the tasks, and is all done? 'f' bounds how far up -/
def climb : Nat → List Tk → Int → List Tk × Bool
  | 0, ts, _ => (ts, true)
  | f + 1, ts, up =>
    if up = -1 then (ts, true) else if (tkAt ts up).wt = 0 then (ts, false) else
      if 0 < (tkAt ts up).wt - 1 then (wless ts up.toNat, false) else climb f (wless ts up.toNat) (tkAt ts up).up
theorem climb_len : ∀ (f : Nat) (ts : List Tk) (up : Int), (climb f ts up).1.length = ts.length
  | 0, _, _ => rfl
  | f + 1, ts, up => by
    unfold climb
    split
    · rfl
    · split
      · rfl
      · split
        · exact wless_len _ _
        · rw [climb_len f]; exact wless_len _ _
theorem climb_fuel (n : Nat) : ∀ (f f' : Nat) (ts : List Tk) (up : Int), wOkTo ts n ts.length = true → -1 ≤ up → up < ts.length → up < f → up < f' → climb (f + 1) ts up = climb (f' + 1) ts up
  | f, f', ts, up, h, h1, h2, h3, h4 => by
    by_cases hu : up = -1
    · simp [climb, hu]
    · obtain ⟨j, rfl⟩ : ∃ j : Nat, up = j := ⟨up.toNat, by omega⟩
      have hj : j < ts.length := by omega
      have e0 : tkAt ts (j : Int) = ts.getD j tk0 := by unfold tkAt; rw [Int.toNat_natCast]
      have ok := (tkOk_iff _ _ _).1 (wOkTo_at ts n ts.length h j hj)
      rw [climb, climb, e0, if_neg hu, if_neg hu, Int.toNat_natCast]
      by_cases hw : (ts.getD j tk0).wt = 0
      · rw [if_pos hw, if_pos hw]
      · rw [if_neg hw, if_neg hw]
        by_cases hq : 0 < (ts.getD j tk0).wt - 1
        · rw [if_pos hq, if_pos hq]
        · rw [if_neg hq, if_neg hq]
          obtain ⟨f, rfl⟩ : ∃ x, f = x + 1 := ⟨f - 1, by omega⟩
          obtain ⟨f', rfl⟩ : ∃ x, f' = x + 1 := ⟨f' - 1, by omega⟩
          exact climb_fuel n f f' _ _ (by rw [wless_len]; exact wless_ok ts n j _ hj h hj hw) ok.2.2.2.1 (by rw [wless_len]; omega) (by omega) (by omega)
end Go.Proofs.Ytfigfndabokepaa.Plain
