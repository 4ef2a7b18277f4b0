/- What PoolOrder walks through: all cells are taken, some given back, and taken again. No program in it. -/
import Derived.Test.YtbkheglogmkbgaaLaws
namespace Go.Proofs.Ytbkheglogmkbgaa.Plain

theorem downFrom_mem (k : Nat) (c : Int) : c ∈ downFrom k ↔ 0 ≤ c ∧ c < (k : Int) := by
  unfold downFrom
  rw [List.mem_map]
  constructor
  · rintro ⟨a, ha, rfl⟩
    rw [List.mem_reverse, List.mem_range] at ha
    simp; omega
  · rintro ⟨h0, h1⟩
    exact ⟨c.toNat, by rw [List.mem_reverse, List.mem_range]; omega, by simp; omega⟩
theorem downFrom_nodup (k : Nat) : (downFrom k).Nodup := by
  rw [List.nodup_iff_pairwise_ne]
  rw [List.pairwise_iff_getElem]
  intro i j hi hj hij
  have h1 := downFrom_getD k i (by rw [downFrom_len] at hi; exact hi)
  have h2 := downFrom_getD k j (by rw [downFrom_len] at hj; exact hj)
  rw [List.getD_eq_getElem?_getD, List.getElem?_eq_getElem hi] at h1
  rw [List.getD_eq_getElem?_getD, List.getElem?_eq_getElem hj] at h2
  simp only [Option.getD_some] at h1 h2
  rw [h1, h2]
  rw [downFrom_len] at hi hj
  omega

/-- i cells are taken: the least ones -/
def TookI (k i : Nat) (gs xs : List Int) : Prop := gs.length = k ∧ xs = (downFrom k).take (k - i) ∧ ∀ c, c < k → gs.getD c 0 = if c < i then 1 else 0
theorem took_zero (k : Nat) (h1 : 1 ≤ k) (h2 : k ≤ 20) : makeE k = 0 ∧ TookI k 0 (makeG k) (makeX k) := by
  have hs : sizedB (k : Int) = true := by unfold sizedB; simp; omega
  have hg : makeG (k : Int) = List.replicate k 0 := by unfold makeG; rw [if_pos hs]; rfl
  have hx : makeX (k : Int) = downFrom k := by unfold makeX; rw [if_pos hs]; rfl
  refine ⟨by unfold makeE; rw [if_pos hs], by rw [hg]; simp, by rw [hx, Nat.sub_zero, List.take_of_length_le (by rw [downFrom_len]; omega)], fun c hc => ?_⟩
  rw [hg, List.getD_eq_getElem?_getD, List.getElem?_replicate, if_pos hc]
  simp
theorem took_right {k i : Nat} {gs xs : List Int} (h : TookI k i gs xs) (h1 : 1 ≤ k) (h2 : k ≤ 20) : rightB gs xs = true := by
  obtain ⟨hl, rfl, hg⟩ := h
  refine right_mk _ _ (by omega) (by omega) (fun j hj => ?_) ((downFrom_nodup k).sublist (List.take_sublist _ _)) (fun c hc => ?_)
  · rw [hg j (by omega)]; split <;> omega
  · have := (downFrom_mem k c).1 (List.mem_of_mem_take hc); omega
theorem took_len {k i : Nat} {gs xs : List Int} (h : TookI k i gs xs) (hi : i ≤ k) : xs.length = k - i := by
  obtain ⟨_, rfl, _⟩ := h; rw [List.length_take, downFrom_len]; omega
theorem took_step {k i : Nat} {gs xs : List Int} (h : TookI k i gs xs) (h1 : 1 ≤ k) (h2 : k ≤ 20) (hi : i < k) :
    takeE gs xs = 0 ∧ takeC gs xs = i ∧ takeN gs xs = 1 ∧ TookI k (i + 1) (takeG gs xs) (takeX gs xs) := by
  have hr := took_right h h1 h2
  have hxl := took_len h (by omega)
  obtain ⟨hl, hx, hg⟩ := h
  have hlast : lastD xs = i := by
    unfold lastD
    rw [hxl, hx, List.getD_eq_getElem?_getD, List.getElem?_take_of_lt (by omega), ← List.getD_eq_getElem?_getD, downFrom_getD k _ (by omega)]
    omega
  have hgi : gs.getD i 0 = 0 := by rw [hg i hi, if_neg (by omega)]
  have hE : takeE gs xs = 0 := by
    unfold takeE
    rw [hlast, Int.toNat_natCast, hgi, if_neg (by rw [hr]; decide), if_neg (by omega), if_neg (by omega)]
  refine ⟨hE, by unfold takeC; rw [if_pos hE, hlast], by unfold takeN; rw [if_pos hE, hlast, Int.toNat_natCast, hgi]; rfl, ?_, ?_, ?_⟩
  · unfold takeG; rw [if_pos hE, List.length_set]; exact hl
  · unfold takeX; rw [if_pos hE, hxl, hx, List.take_take]; congr 1; omega
  · intro c hc
    unfold takeG
    rw [if_pos hE, hlast, Int.toNat_natCast, hgi]
    by_cases e : c = i
    · subst e
      rw [getD_set_same _ _ _ (by omega), if_pos (by omega)]; rfl
    · rw [getD_set_other _ _ _ _ e, hg c hc]
      by_cases h3 : c < i
      · rw [if_pos h3, if_pos (by omega)]
      · rw [if_neg h3, if_neg (by omega)]

/-- all cells were taken once; these are free -/
def GaveI (k : Nat) (gs xs : List Int) : Prop := gs.length = k ∧ (∀ c, c < k → gs.getD c 0 = 1) ∧ xs.Nodup ∧ ∀ c ∈ xs, 0 ≤ c ∧ c < (k : Int)
theorem gave_of_took {k : Nat} {gs xs : List Int} (h : TookI k k gs xs) : GaveI k gs xs ∧ xs = [] := by
  obtain ⟨hl, hx, hg⟩ := h
  have : xs = [] := by rw [hx]; simp
  exact ⟨⟨hl, fun c hc => by rw [hg c hc, if_pos hc], by rw [this]; simp, by rw [this]; simp⟩, this⟩
theorem gave_right {k : Nat} {gs xs : List Int} (h : GaveI k gs xs) (h1 : 1 ≤ k) (h2 : k ≤ 20) : rightB gs xs = true := by
  obtain ⟨hl, hg, hn, hb⟩ := h
  exact right_mk _ _ (by omega) (by omega) (fun j hj => by rw [hg j (by omega)]; omega) hn (fun c hc => by have := hb c hc; omega)
theorem gave_len {k : Nat} {gs xs : List Int} (h : GaveI k gs xs) : xs.length ≤ k := pig k xs h.2.2.1 h.2.2.2
theorem gave_step {k : Nat} {gs xs : List Int} (h : GaveI k gs xs) (h1 : 1 ≤ k) (h2 : k ≤ 20) (j : Nat) (hj : j < k) :
    ((j : Int) ∈ xs → (rightB gs xs && goodB gs xs j 1) = false ∧ giveE gs xs j 1 = 3 ∧ giveX gs xs j 1 = xs) ∧
    ((j : Int) ∉ xs → (rightB gs xs && goodB gs xs j 1) = true ∧ giveE gs xs j 1 = 0 ∧ giveX gs xs j 1 = xs ++ [(j : Int)] ∧ GaveI k gs (xs ++ [(j : Int)])) := by
  have hr := gave_right h h1 h2
  obtain ⟨hl, hg, hn, hb⟩ := h
  constructor
  · intro hm
    have hgd := good_free gs xs j 1 hm
    have hE : giveE gs xs j 1 = 3 := by unfold giveE; rw [if_neg (by rw [hr]; decide), if_pos hgd]
    exact ⟨by rw [hgd]; simp, hE, by unfold giveX; rw [if_neg (by omega)]⟩
  · intro hm
    have hgd : goodB gs xs j 1 = true := by rw [good_iff, Int.toNat_natCast]; exact ⟨by omega, by omega, hm, hg j hj⟩
    have hE : giveE gs xs j 1 = 0 := by unfold giveE; rw [if_neg (by rw [hr]; decide), if_neg (by rw [hgd]; decide)]
    refine ⟨by rw [hr, hgd]; rfl, hE, by unfold giveX; rw [if_pos hE], hl, hg, ?_, ?_⟩
    · rw [List.nodup_append]
      exact ⟨hn, by simp, fun a ha b hb => by simp only [List.mem_singleton] at hb; subst hb; intro e; subst e; exact hm ha⟩
    · intro c hc
      rcases List.mem_append.1 hc with hc | hc
      · exact hb c hc
      · simp only [List.mem_singleton] at hc; subst hc; omega

/-- what was given back is taken again, the last first: m are still free -/
def BackI (k : Nat) (order : List Int) (m : Nat) (gs xs : List Int) : Prop :=
  gs.length = k ∧ xs = order.take m ∧ order.Nodup ∧ (∀ c ∈ order, 0 ≤ c ∧ c < (k : Int)) ∧ (∀ c, c < k → 1 ≤ gs.getD c 0 ∧ gs.getD c 0 ≤ 2) ∧ ∀ c ∈ xs, gs.getD c.toNat 0 = 1
theorem back_of_gave {k : Nat} {gs xs : List Int} (h : GaveI k gs xs) : BackI k xs xs.length gs xs := by
  obtain ⟨hl, hg, hn, hb⟩ := h
  exact ⟨hl, by rw [List.take_length], hn, hb, fun c hc => by rw [hg c hc]; omega, fun c hc => by have := hb c hc; exact hg _ (by omega)⟩
theorem back_right {k m : Nat} {order gs xs : List Int} (h : BackI k order m gs xs) (h1 : 1 ≤ k) (h2 : k ≤ 20) : rightB gs xs = true := by
  obtain ⟨hl, rfl, hn, hb, hg, _⟩ := h
  exact right_mk _ _ (by omega) (by omega) (fun j hj => by have := hg j (by omega); omega) (hn.sublist (List.take_sublist _ _)) (fun c hc => by have := hb c (List.mem_of_mem_take hc); omega)
theorem back_step {k m : Nat} {order gs xs : List Int} (h : BackI k order (m + 1) gs xs) (h1 : 1 ≤ k) (h2 : k ≤ 20) (hm : m < order.length) :
    takeE gs xs = 0 ∧ takeC gs xs = order.getD m 0 ∧ takeN gs xs = 2 ∧ BackI k order m (takeG gs xs) (takeX gs xs) := by
  have hr := back_right h h1 h2
  obtain ⟨hl, hx, hn, hb, hg, hf⟩ := h
  have hxl : xs.length = m + 1 := by rw [hx, List.length_take]; omega
  have hlast : lastD xs = order.getD m 0 := by
    unfold lastD
    rw [hxl, hx, List.getD_eq_getElem?_getD, List.getElem?_take_of_lt (by omega), ← List.getD_eq_getElem?_getD]
    rfl
  have hmem := last_mem xs (by omega)
  have hg1 := hf _ hmem
  have hsub : ∀ c ∈ xs, c ∈ order := fun c hc => by rw [hx] at hc; exact List.mem_of_mem_take hc
  have hbl := hb (lastD xs) (hsub _ hmem)
  have hE : takeE gs xs = 0 := by
    unfold takeE
    rw [hg1, if_neg (by rw [hr]; decide), if_neg (by omega), if_neg (by omega)]
  have hsnoc : xs = order.take m ++ [order.getD m 0] := by rw [hx]; exact take_snoc order m hm
  have hnx : xs.Nodup := by rw [hx]; exact hn.sublist (List.take_sublist _ _)
  refine ⟨hE, by unfold takeC; rw [if_pos hE, hlast], by unfold takeN; rw [if_pos hE, hg1]; rfl, ?_, ?_, hn, hb, ?_, ?_⟩
  · unfold takeG; rw [if_pos hE, List.length_set]; exact hl
  · unfold takeX; rw [if_pos hE, hxl, hx, List.take_take]; congr 1; omega
  · intro c hc
    unfold takeG
    rw [if_pos hE, hg1]
    by_cases e : c = (lastD xs).toNat
    · rw [e, getD_set_same _ _ _ (by omega)]; omega
    · rw [getD_set_other _ _ _ _ e]; exact hg c hc
  · intro c hc
    unfold takeX at hc
    rw [if_pos hE, hxl, Nat.add_sub_cancel] at hc
    have hcx : c ∈ xs := List.mem_of_mem_take hc
    have hcm : c ∈ order.take m := by rw [hx, List.take_take, Nat.min_eq_left (by omega)] at hc; exact hc
    have hne : c ≠ lastD xs := by
      rw [hsnoc, List.nodup_append] at hnx
      rw [hlast]
      exact hnx.2.2 c hcm _ (by simp)
    have hcb := hb c (hsub c hcx)
    unfold takeG
    rw [if_pos hE, getD_set_other _ _ _ _ (by omega)]
    exact hf c hcx
theorem back_end {k : Nat} {order gs xs : List Int} (h : BackI k order 0 gs xs) (h1 : 1 ≤ k) (h2 : k ≤ 20) : takeE gs xs = 2 ∧ xs = [] ∧ (takenL gs xs).length = k := by
  have hr := back_right h h1 h2
  obtain ⟨hl, hx, _⟩ := h
  have h0 : xs = [] := by rw [hx]; simp
  refine ⟨by unfold takeE; rw [if_neg (by rw [hr]; decide), h0]; rfl, h0, ?_⟩
  unfold takenL
  rw [hr, h0]
  unfold takenUpTo
  rw [List.filter_eq_self.2 (by simp)]
  simp
  exact hl
theorem take_refused (gs xs : List Int) (h : takeE gs xs ≠ 0) : takeG gs xs = gs ∧ takeX gs xs = xs ∧ takeC gs xs = 0 ∧ takeN gs xs = 0 := by
  unfold takeG takeX takeC takeN
  rw [if_neg h, if_neg h, if_neg h, if_neg h]
  exact ⟨rfl, rfl, rfl, rfl⟩
end Go.Proofs.Ytbkheglogmkbgaa.Plain
