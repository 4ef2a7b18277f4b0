/- What is pushed, popped and stolen: each number is there, or gone, once. No program in it. -/
import Derived.Test.YtfhkmaikilgolaaDPlain
namespace Go.Proofs.Ytfhkmaikilgolaa.Plain

/-- the numbers below 'next' are there, rising, or gone, each once; 'first' was stolen last -/
def OnceI (l gone : List Int) (next : Nat) (first : Int) : Prop :=
  l.Pairwise (· < ·) ∧ (∀ x ∈ l, first ≤ x ∧ x < next) ∧ (l ++ gone).Nodup ∧ (∀ x ∈ gone, 0 ≤ x ∧ x < next) ∧ 0 ≤ first ∧ first ≤ next ∧ l.length + gone.length = next

theorem once_nil : OnceI [] [] 0 0 := by unfold OnceI; simp

theorem once_push {l gone : List Int} {next : Nat} {first : Int} (h : OnceI l gone next first) : OnceI (l ++ [(next : Int)]) gone (next + 1) first := by
  obtain ⟨h1, h2, h3, h4, h5, h6, h7⟩ := h
  refine ⟨?_, ?_, ?_, ?_, h5, by omega, by simp; omega⟩
  · rw [List.pairwise_append]
    exact ⟨h1, by simp, fun a ha b hb => by simp only [List.mem_singleton] at hb; subst hb; exact (h2 a ha).2⟩
  · intro x hx
    rcases List.mem_append.1 hx with hx | hx
    · have := h2 x hx; omega
    · simp only [List.mem_singleton] at hx; subst hx; omega
  · rw [List.nodup_append] at h3 ⊢
    refine ⟨?_, h3.2.1, fun a ha b hb => ?_⟩
    · rw [List.nodup_append]
      exact ⟨h3.1, by simp, fun a ha b hb => by simp only [List.mem_singleton] at hb; subst hb; have := (h2 a ha).2; omega⟩
    · rcases List.mem_append.1 ha with ha | ha
      · exact h3.2.2 a ha b hb
      · simp only [List.mem_singleton] at ha; subst ha; have := h4 b hb; omega
  · intro x hx; have := h4 x hx; omega

theorem split_last' (xs : List Int) (h : 0 < xs.length) : xs = popL xs ++ [lastD xs] := by
  have := take_snoc xs (xs.length - 1) (by omega)
  rw [show xs.length - 1 + 1 = xs.length from by omega, List.take_length] at this
  exact this

theorem once_pop {l gone : List Int} {next : Nat} {first : Int} (h : OnceI l gone next first) (h0 : 0 < l.length) : OnceI (popL l) (gone ++ [lastD l]) next first := by
  have hs := split_last' l h0
  obtain ⟨h1, h2, h3, h4, h5, h6, h7⟩ := h
  have hm : lastD l ∈ l := last_mem l h0
  have hsub : ∀ x ∈ popL l, x ∈ l := fun x hx => List.mem_of_mem_take hx
  have hlen := popL_len l
  refine ⟨?_, fun x hx => h2 x (hsub x hx), ?_, ?_, h5, h6, by simp; omega⟩
  · rw [hs, List.pairwise_append] at h1; exact h1.1
  · have hp : (popL l ++ (gone ++ [lastD l])).Perm (l ++ gone) := by
      have e : l ++ gone = (popL l ++ [lastD l]) ++ gone := by rw [← hs]
      rw [e, List.append_assoc]
      exact List.Perm.append_left _ List.perm_append_comm
    exact hp.nodup_iff.2 h3
  · intro x hx
    rcases List.mem_append.1 hx with hx | hx
    · exact h4 x hx
    · simp only [List.mem_singleton] at hx; subst hx; have := h2 _ hm; omega

theorem once_steal {l gone : List Int} {next : Nat} {first : Int} (h : OnceI l gone next first) (h0 : 0 < l.length) : OnceI (stealL l) (gone ++ [topD l]) next (topD l) ∧ first ≤ topD l := by
  have hs := top_steal l h0
  obtain ⟨h1, h2, h3, h4, h5, h6, h7⟩ := h
  have hm : topD l ∈ l := getD_mem l 0 h0
  have hsub : ∀ x ∈ stealL l, x ∈ l := fun x hx => List.mem_of_mem_drop hx
  have hlen := stealL_len l
  have hb := h2 _ hm
  have hp1 := h1
  rw [← hs, List.pairwise_append] at hp1
  refine ⟨⟨hp1.2.1, fun x hx => ⟨?_, (h2 x (hsub x hx)).2⟩, ?_, ?_, by omega, by omega, by simp; omega⟩, hb.1⟩
  · have := hp1.2.2 (topD l) (by simp) x hx; omega
  · have hp : (stealL l ++ (gone ++ [topD l])).Perm (l ++ gone) := by
      have e : l ++ gone = ([topD l] ++ stealL l) ++ gone := by rw [hs]
      rw [e, List.append_assoc, ← List.append_assoc]
      exact List.perm_append_comm
    exact hp.nodup_iff.2 h3
  · intro x hx
    rcases List.mem_append.1 hx with hx | hx
    · exact h4 x hx
    · simp only [List.mem_singleton] at hx; subst hx; omega

theorem once_all {l gone : List Int} {next : Nat} {first : Int} (h : OnceI l gone next first) : (l ++ gone).Nodup ∧ (∀ x ∈ l ++ gone, 0 ≤ x ∧ x < next) ∧ (l ++ gone).length = next := by
  obtain ⟨h1, h2, h3, h4, h5, h6, h7⟩ := h
  refine ⟨h3, fun x hx => ?_, by simp; omega⟩
  rcases List.mem_append.1 hx with hx | hx
  · have := h2 x hx; omega
  · exact h4 x hx

/-- which numbers were met -/
def metL (n : Nat) (xs : List Int) : List Bool := (List.range n).map (fun j : Nat => decide ((j : Int) ∈ xs))
theorem metL_len (n : Nat) (xs : List Int) : (metL n xs).length = n := by simp [metL]
theorem metL_nil (n : Nat) : metL n [] = List.replicate n false := by
  apply List.ext_getElem (by simp [metL])
  intro i h1 h2
  simp [metL]
theorem metL_get (n : Nat) (xs : List Int) (j : Nat) (hj : j < n) : (metL n xs).getD j false = decide ((j : Int) ∈ xs) := by
  rw [List.getD_eq_getElem?_getD, List.getElem?_eq_getElem (by rw [metL_len]; exact hj)]
  simp [metL]
theorem metL_snoc (n : Nat) (xs : List Int) (j : Nat) (hj : j < n) : (metL n xs).set j true = metL n (xs ++ [(j : Int)]) := by
  apply List.ext_getElem (by simp [metL])
  intro i h1 h2
  rw [List.getElem_set]
  simp only [metL, List.getElem_map, List.getElem_range, List.mem_append, List.mem_singleton]
  by_cases h : j = i
  · rw [if_pos h]; subst h; simp
  · rw [if_neg h]
    congr 1
    apply propext
    constructor
    · exact .inl
    · rintro (h' | h')
      · exact h'
      · exfalso; omega
theorem nodup_take_get (xs : List Int) (k : Nat) (hk : k < xs.length) (h : xs.Nodup) : xs.getD k 0 ∉ xs.take k := by
  have hn : (xs.take (k + 1)).Nodup := h.sublist (List.take_sublist _ _)
  rw [take_snoc xs k hk, List.nodup_append] at hn
  intro hm
  exact hn.2.2 _ hm _ (by simp) rfl
end Go.Proofs.Ytfhkmaikilgolaa.Plain
