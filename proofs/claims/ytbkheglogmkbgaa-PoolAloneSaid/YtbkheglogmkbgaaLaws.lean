/- What is taken and given back: plain. -/
import Derived.Test.YtbkheglogmkbgaaPlain
namespace Go.Proofs.Ytbkheglogmkbgaa.Plain

theorem getD_set_same (l : List Int) (q : Nat) (y : Int) (h : q < l.length) : (l.set q y).getD q 0 = y := by
  rw [List.getD_eq_getElem?_getD, List.getElem?_set_self h]; rfl
theorem getD_set_other (l : List Int) (q j : Nat) (y : Int) (h : j ≠ q) : (l.set q y).getD j 0 = l.getD j 0 := by
  rw [List.getD_eq_getElem?_getD, List.getElem?_set_ne (Ne.symm h), ← List.getD_eq_getElem?_getD]
theorem aged_iff (gs : List Int) : agedB gs = true ↔ ∀ j, j < gs.length → 0 ≤ gs.getD j 0 ∧ gs.getD j 0 ≤ 1073741824 := by
  unfold agedB
  rw [List.all_eq_true]
  constructor
  · intro h j hj
    have := h _ (getD_mem gs j hj)
    unfold gOk at this
    simpa using this
  · intro h x hx
    obtain ⟨j, hj, rfl⟩ := List.getElem_of_mem hx
    have := h j hj
    rw [List.getD_eq_getElem?_getD, List.getElem?_eq_getElem hj] at this
    unfold gOk
    simpa using this
theorem right_mk (gs xs : List Int) (h1 : 1 ≤ gs.length) (h2 : gs.length ≤ 1000) (h3 : ∀ j, j < gs.length → 0 ≤ gs.getD j 0 ∧ gs.getD j 0 ≤ 1073741824) (h4 : xs.Nodup) (h5 : ∀ c ∈ xs, 0 ≤ c ∧ c < (gs.length : Int)) : rightB gs xs = true := by
  unfold rightB sizedB
  rw [(aged_iff gs).2 h3, (freeB_iff _ _).2 ⟨h4, h5⟩, decide_eq_true (show (1 : Int) ≤ gs.length by omega), decide_eq_true (show (gs.length : Int) ≤ 1000 by omega)]
  rfl
theorem good_iff (gs xs : List Int) (c g : Int) : goodB gs xs c g = true ↔ 0 ≤ c ∧ c < (gs.length : Int) ∧ c ∉ xs ∧ gs.getD c.toNat 0 = g := by
  unfold goodB
  simp only [Bool.and_eq_true, decide_eq_true_eq, Bool.not_eq_true', decide_eq_false_iff_not]
  constructor
  · rintro ⟨⟨⟨a, b⟩, c⟩, d⟩; exact ⟨a, b, c, d⟩
  · rintro ⟨a, b, c, d⟩; exact ⟨⟨⟨a, b⟩, c⟩, d⟩
theorem split_last (xs : List Int) (h : 0 < xs.length) : xs = xs.take (xs.length - 1) ++ [lastD xs] := by
  have := take_snoc xs (xs.length - 1) (by omega)
  rw [show xs.length - 1 + 1 = xs.length from by omega, List.take_length] at this
  exact this
theorem take_zero (gs xs : List Int) (h : takeE gs xs = 0) : rightB gs xs = true ∧ 0 < xs.length ∧ gs.getD (lastD xs).toNat 0 ≠ 1073741824 := by
  unfold takeE at h
  cases hr : rightB gs xs with
  | false => rw [hr] at h; simp at h
  | true =>
    rw [hr] at h
    simp only [Bool.true_eq_false, if_false] at h
    by_cases h0 : xs.length = 0
    · rw [if_pos h0] at h; omega
    · rw [if_neg h0] at h
      by_cases h1 : gs.getD (lastD xs).toNat 0 = 1073741824
      · rw [if_pos h1] at h; omega
      · exact ⟨rfl, by omega, h1⟩
theorem take_give (gs xs : List Int) (h : takeE gs xs = 0) :
    giveE (takeG gs xs) (takeX gs xs) (takeC gs xs) (takeN gs xs) = 0 ∧ giveX (takeG gs xs) (takeX gs xs) (takeC gs xs) (takeN gs xs) = xs ∧ (takeG gs xs).length = gs.length ∧ (takeX gs xs).length ≤ xs.length ∧
      0 ≤ takeC gs xs ∧ takeC gs xs < (gs.length : Int) ∧ takeC gs xs ∈ xs ∧ 0 ≤ takeN gs xs ∧ takeN gs xs ≤ 1073741824 := by
  obtain ⟨hr, h0, h1⟩ := take_zero gs xs h
  obtain ⟨p1, p2, p3, p4, p5, p6⟩ := right_parts gs xs hr
  have hm := last_mem xs h0
  have hc := p5 _ hm
  have eG : takeG gs xs = gs.set (lastD xs).toNat (gs.getD (lastD xs).toNat 0 + 1) := by unfold takeG; rw [if_pos h]
  have eX : takeX gs xs = xs.take (xs.length - 1) := by unfold takeX; rw [if_pos h]
  have eC : takeC gs xs = lastD xs := by unfold takeC; rw [if_pos h]
  have eN : takeN gs xs = gs.getD (lastD xs).toNat 0 + 1 := by unfold takeN; rw [if_pos h]
  have hg := p3 (lastD xs).toNat (by omega)
  have hs := split_last xs h0
  have hnd := p4
  rw [hs, List.nodup_append] at hnd
  have hnot : lastD xs ∉ xs.take (xs.length - 1) := fun hmem => hnd.2.2 _ hmem _ (by simp) rfl
  have hR : rightB (takeG gs xs) (takeX gs xs) = true := by
    rw [eG, eX]
    refine right_mk _ _ (by simpa using p1) (by simpa using p2) (fun j hj => ?_) hnd.1 (fun c hcm => ?_)
    · by_cases e : j = (lastD xs).toNat
      · subst e; rw [getD_set_same _ _ _ (by simpa using hj)]; omega
      · rw [getD_set_other _ _ _ _ e]; exact p3 j (by simpa using hj)
    · simpa using p5 c (List.mem_of_mem_take hcm)
  have hGd : goodB (takeG gs xs) (takeX gs xs) (takeC gs xs) (takeN gs xs) = true := by
    rw [good_iff, eG, eX, eC, eN]
    exact ⟨hc.1, by simpa using hc.2, hnot, getD_set_same _ _ _ (by omega)⟩
  have hE : giveE (takeG gs xs) (takeX gs xs) (takeC gs xs) (takeN gs xs) = 0 := by unfold giveE; rw [hR, hGd]; rfl
  refine ⟨hE, ?_, by rw [eG]; simp, by rw [eX]; simp, by rw [eC]; exact hc.1, by rw [eC]; exact hc.2, by rw [eC]; exact hm, by rw [eN]; omega, by rw [eN]; omega⟩
  unfold giveX
  rw [if_pos hE, eX, eC]
  exact hs.symm
theorem good_free (gs xs : List Int) (c g : Int) (h : c ∈ xs) : goodB gs xs c g = false := by
  rw [Bool.eq_false_iff]
  intro hh
  exact ((good_iff _ _ _ _).1 hh).2.2.1 h
theorem give_zero (gs xs : List Int) (c g : Int) (h : giveE gs xs c g = 0) : rightB gs xs = true ∧ goodB gs xs c g = true := by
  unfold giveE at h
  cases hr : rightB gs xs with
  | false => rw [hr] at h; simp at h
  | true =>
    cases hg : goodB gs xs c g with
    | false => rw [hr, hg] at h; simp at h
    | true => exact ⟨rfl, rfl⟩
theorem last_snoc (xs : List Int) (c : Int) : lastD (xs ++ [c]) = c := by
  unfold lastD
  rw [List.getD_eq_getElem?_getD]
  simp
theorem give_take (gs xs : List Int) (c g : Int) (h : giveE gs xs c g = 0) :
    giveX gs xs c g = xs ++ [c] ∧ rightB gs (xs ++ [c]) = true ∧ (xs ++ [c]).length ≤ gs.length ∧ 0 ≤ g ∧ g ≤ 1073741824 ∧ c < (gs.length : Int) ∧
      ((takeE gs (xs ++ [c]) = 2) ∨ (takeE gs (xs ++ [c]) = 0 ∧ takeC gs (xs ++ [c]) = c ∧ takeN gs (xs ++ [c]) = g + 1 ∧ takeX gs (xs ++ [c]) = xs)) := by
  obtain ⟨hr, hg⟩ := give_zero gs xs c g h
  obtain ⟨p1, p2, p3, p4, p5, p6⟩ := right_parts gs xs hr
  obtain ⟨g1, g2, g3, g4⟩ := (good_iff _ _ _ _).1 hg
  have hR : rightB gs (xs ++ [c]) = true := by
    refine right_mk _ _ p1 p2 p3 ?_ (fun x hx => ?_)
    · rw [List.nodup_append]
      exact ⟨p4, by simp, fun a ha b hb => by simp only [List.mem_singleton] at hb; subst hb; intro e; subst e; exact g3 ha⟩
    · rcases List.mem_append.1 hx with hx | hx
      · exact p5 x hx
      · simp only [List.mem_singleton] at hx; subst hx; exact ⟨g1, g2⟩
  have hb := p3 c.toNat (by omega)
  rw [g4] at hb
  refine ⟨by unfold giveX; rw [if_pos h], hR, (right_parts gs _ hR).2.2.2.2.2, hb.1, hb.2, g2, ?_⟩
  by_cases h1 : g = 1073741824
  · left
    unfold takeE
    rw [hR, last_snoc, g4, if_pos h1]
    simp
  · right
    have hE : takeE gs (xs ++ [c]) = 0 := by
      unfold takeE
      rw [hR, last_snoc, g4, if_neg h1]
      simp
    refine ⟨hE, ?_, ?_, ?_⟩
    · unfold takeC; rw [if_pos hE, last_snoc]
    · unfold takeN; rw [if_pos hE, last_snoc, g4]
    · unfold takeX; rw [if_pos hE]; simp
end Go.Proofs.Ytbkheglogmkbgaa.Plain
