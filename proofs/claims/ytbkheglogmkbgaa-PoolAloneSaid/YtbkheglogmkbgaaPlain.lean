/- Plain words of a pool: no program in it. -/
namespace Go.Proofs.Ytbkheglogmkbgaa.Plain

def sizedB (n : Int) : Bool := decide (1 ≤ n) && decide (n ≤ 1000)
def gOk (g : Int) : Bool := decide (0 ≤ g) && decide (g ≤ 1073741824)
def agedB (gs : List Int) : Bool := gs.all gOk
/-- free cells: in range, each once -/
def freeB (n : Nat) (xs : List Int) : Bool := decide (xs.Nodup ∧ ∀ c ∈ xs, 0 ≤ c ∧ c < (n : Int))
def rightB (gs xs : List Int) : Bool := sizedB gs.length && agedB gs && freeB gs.length xs
def goodB (gs xs : List Int) (c g : Int) : Bool := decide (0 ≤ c) && decide (c < (gs.length : Int)) && !(decide (c ∈ xs)) && decide (gs.getD c.toNat 0 = g)

theorem take_snoc (xs : List Int) (k : Nat) (h : k < xs.length) : xs.take (k + 1) = xs.take k ++ [xs.getD k 0] := by
  rw [List.take_succ_eq_append_getElem h, List.getD_eq_getElem?_getD, List.getElem?_eq_getElem h]; rfl
theorem getD_mem (xs : List Int) (k : Nat) (h : k < xs.length) : xs.getD k 0 ∈ xs := by
  rw [List.getD_eq_getElem?_getD, List.getElem?_eq_getElem h]; exact List.getElem_mem _
theorem aged_false (gs : List Int) (k : Nat) (h : k < gs.length) (hg : gOk (gs.getD k 0) = false) : agedB gs = false := by
  unfold agedB; rw [List.all_eq_false]; exact ⟨_, getD_mem gs k h, by rw [hg]; decide⟩
theorem aged_snoc (gs : List Int) (k : Nat) (h : k < gs.length) (ha : agedB (gs.take k) = true) (hg : gOk (gs.getD k 0) = true) : agedB (gs.take (k + 1)) = true := by
  rw [take_snoc gs k h]; unfold agedB at *; simp only [List.all_append, ha, List.all_cons, hg, List.all_nil]; rfl
theorem eq_of_all (xs ys : List Int) (hl : xs.length = ys.length) (h : ∀ j, j < xs.length → xs.getD j 0 = ys.getD j 0) : xs = ys := by
  apply List.ext_getElem hl
  intro i h1 h2
  have := h i h1
  simpa [List.getD_eq_getElem?_getD, List.getElem?_eq_getElem h1, List.getElem?_eq_getElem h2] using this
theorem freeB_iff (n : Nat) (xs : List Int) : freeB n xs = true ↔ xs.Nodup ∧ ∀ c ∈ xs, 0 ≤ c ∧ c < (n : Int) := by unfold freeB; simp
theorem freeB_snoc (n : Nat) (xs : List Int) (k : Nat) (hk : k < xs.length) (h : freeB n (xs.take k) = true) (h1 : xs.getD k 0 ∉ xs.take k) (h2 : 0 ≤ xs.getD k 0) (h3 : xs.getD k 0 < (n : Int)) : freeB n (xs.take (k + 1)) = true := by
  rw [take_snoc xs k hk]
  rw [freeB_iff] at h ⊢
  refine ⟨?_, ?_⟩
  · rw [List.nodup_append]
    exact ⟨h.1, by simp, fun a ha b hb => by simp only [List.mem_singleton] at hb; subst hb; intro e; subst e; exact h1 ha⟩
  · intro c hc
    rcases List.mem_append.1 hc with hc | hc
    · exact h.2 c hc
    · simp only [List.mem_singleton] at hc; subst hc; exact ⟨h2, h3⟩
theorem freeB_no (n : Nat) (xs : List Int) (k : Nat) (hk : k < xs.length) (h : xs.getD k 0 ∈ xs.take k ∨ xs.getD k 0 < 0 ∨ (n : Int) ≤ xs.getD k 0) : freeB n xs = false := by
  rw [Bool.eq_false_iff]
  intro hf
  rw [freeB_iff] at hf
  have hm := getD_mem xs k hk
  rcases h with h | h | h
  · have hs := take_snoc xs k hk
    have hn : (xs.take (k + 1)).Nodup := hf.1.sublist (List.take_sublist _ _)
    rw [hs, List.nodup_append] at hn
    exact hn.2.2 _ h _ (by simp) rfl
  · have := hf.2 _ hm; omega
  · have := hf.2 _ hm; omega
theorem pig : ∀ (n : Nat) (xs : List Int), xs.Nodup → (∀ c ∈ xs, 0 ≤ c ∧ c < (n : Int)) → xs.length ≤ n
  | 0, [], _, _ => Nat.le_refl _
  | 0, c :: l, _, h => by have := h c (by simp); omega
  | n + 1, xs, hn, h => by
    have hy := pig n (xs.erase (n : Int)) (hn.erase _) (fun c hc => by
      rw [hn.mem_erase_iff] at hc
      have := h c hc.2
      have := hc.1
      omega)
    rw [List.length_erase] at hy
    split at hy <;> omega
theorem freeB_len (n : Nat) (xs : List Int) (h : freeB n xs = true) : xs.length ≤ n := by
  rw [freeB_iff] at h
  exact pig n xs h.1 h.2
def lastD (xs : List Int) : Int := xs.getD (xs.length - 1) 0
/-- Take: the error, and what comes of it -/
def takeE (gs xs : List Int) : Int := if rightB gs xs = false then 1 else if xs.length = 0 then 2 else if gs.getD (lastD xs).toNat 0 = 1073741824 then 2 else 0
def takeG (gs xs : List Int) : List Int := if takeE gs xs = 0 then gs.set (lastD xs).toNat (gs.getD (lastD xs).toNat 0 + 1) else gs
def takeX (gs xs : List Int) : List Int := if takeE gs xs = 0 then xs.take (xs.length - 1) else xs
def takeC (gs xs : List Int) : Int := if takeE gs xs = 0 then lastD xs else 0
def takeN (gs xs : List Int) : Int := if takeE gs xs = 0 then gs.getD (lastD xs).toNat 0 + 1 else 0
def giveE (gs xs : List Int) (c g : Int) : Int := if rightB gs xs = false then 1 else if goodB gs xs c g = false then 3 else 0
def giveX (gs xs : List Int) (c g : Int) : List Int := if giveE gs xs c g = 0 then xs ++ [c] else xs
def makeE (n : Int) : Int := if sizedB n = true then 0 else 1
def makeG (n : Int) : List Int := if sizedB n = true then List.replicate n.toNat 0 else []
def downFrom (n : Nat) : List Int := (List.range n).reverse.map Int.ofNat
def makeX (n : Int) : List Int := if sizedB n = true then downFrom n.toNat else []
/-- the cells below n that are taken -/
def takenUpTo (xs : List Int) (n : Nat) : List Int := ((List.range n).map Int.ofNat).filter (fun c => !(decide (c ∈ xs)))
def takenL (gs xs : List Int) : List Int := if rightB gs xs = true then takenUpTo xs gs.length else []
theorem right_parts (gs xs : List Int) (h : rightB gs xs = true) : 1 ≤ gs.length ∧ gs.length ≤ 1000 ∧ (∀ j, j < gs.length → 0 ≤ gs.getD j 0 ∧ gs.getD j 0 ≤ 1073741824) ∧ xs.Nodup ∧ (∀ c ∈ xs, 0 ≤ c ∧ c < (gs.length : Int)) ∧ xs.length ≤ gs.length := by
  unfold rightB at h
  simp only [Bool.and_eq_true] at h
  obtain ⟨⟨h1, h2⟩, h3⟩ := h
  unfold sizedB at h1
  simp only [Bool.and_eq_true, decide_eq_true_eq] at h1
  have h4 := (freeB_iff _ _).1 h3
  refine ⟨by omega, by omega, fun j hj => ?_, h4.1, h4.2, freeB_len _ _ h3⟩
  unfold agedB at h2
  rw [List.all_eq_true] at h2
  have := h2 _ (getD_mem gs j hj)
  unfold gOk at this
  simpa using this
theorem last_mem (xs : List Int) (h : 0 < xs.length) : lastD xs ∈ xs := getD_mem xs _ (by omega)
/-- the free cells while they are laid from the end -/
def fillL (n k : Nat) : List Int := (List.range n).map (fun i => if n - 1 - i < k then ((n - 1 - i : Nat) : Int) else 0)
theorem fillL_len (n k : Nat) : (fillL n k).length = n := by simp [fillL]
theorem fillL_zero (n : Nat) : fillL n 0 = List.replicate n 0 := by
  apply List.ext_getElem (by simp [fillL])
  intro i h1 h2
  simp [fillL]
theorem fillL_succ (n k : Nat) (hk : k < n) : (fillL n k).set (n - 1 - k) (k : Int) = fillL n (k + 1) := by
  apply List.ext_getElem (by simp [fillL])
  intro i h1 h2
  have hi : i < n := by simpa [fillL] using h2
  rw [List.getElem_set]
  simp only [fillL, List.getElem_map, List.getElem_range]
  by_cases h : n - 1 - k = i
  · rw [if_pos h, if_pos (by omega)]; congr 1; omega
  · rw [if_neg h]
    by_cases h3 : n - 1 - i < k
    · rw [if_pos h3, if_pos (by omega)]
    · rw [if_neg h3, if_neg (by omega)]
theorem downFrom_len (n : Nat) : (downFrom n).length = n := by simp [downFrom]
theorem fillL_full (n : Nat) : fillL n n = downFrom n := by
  apply List.ext_getElem (by simp [fillL, downFrom])
  intro i h1 h2
  have hi : i < n := by simpa [fillL] using h1
  simp only [fillL, downFrom, List.getElem_map, List.getElem_range, List.getElem_reverse, List.length_range]
  rw [if_pos (by omega)]; rfl
theorem downFrom_getD (n k : Nat) (hk : k < n) : (downFrom n).getD k 0 = ((n - 1 - k : Nat) : Int) := by
  rw [List.getD_eq_getElem?_getD, List.getElem?_eq_getElem (by rw [downFrom_len]; exact hk)]
  simp [downFrom]
theorem downFrom_take (n k : Nat) (hk : k < n) : (downFrom n).take (k + 1) = (downFrom n).take k ++ [((n - 1 - k : Nat) : Int)] := by
  rw [take_snoc _ k (by rw [downFrom_len]; exact hk), downFrom_getD n k hk]
theorem takenUpTo_succ (xs : List Int) (k : Nat) : takenUpTo xs (k + 1) = if (k : Int) ∈ xs then takenUpTo xs k else takenUpTo xs k ++ [(k : Int)] := by
  unfold takenUpTo
  rw [List.range_succ, List.map_append, List.filter_append]
  by_cases h : (k : Int) ∈ xs
  · rw [if_pos h]; simp [h]
  · rw [if_neg h]; simp [h]
theorem takenUpTo_zero (xs : List Int) : takenUpTo xs 0 = [] := rfl
theorem takenUpTo_len (xs : List Int) (k : Nat) : (takenUpTo xs k).length ≤ k := by
  unfold takenUpTo
  exact Nat.le_trans (List.length_filter_le _ _) (by simp)
end Go.Proofs.Ytbkheglogmkbgaa.Plain
