/- What PoolAlone walks through: cells are taken and given back, in whatever order. No program in it. -/
import Derived.Test.YtbkheglogmkbgaaPPlain
namespace Go.Proofs.Ytbkheglogmkbgaa.Plain

/-- what holds behind t acts: the handles that are good, and those that were given back -/
structure AloneI (k t : Nat) (gs xs : List Int) (good gone : List (Int × Int)) : Prop where
  len : gs.length = k
  gen : ∀ c, c < k → 0 ≤ gs.getD c 0 ∧ gs.getD c 0 ≤ t
  nd : xs.Nodup
  bd : ∀ c ∈ xs, 0 ≤ c ∧ c < (k : Int)
  one : (good.map (·.1)).Nodup
  isg : ∀ h ∈ good, 0 ≤ h.1 ∧ h.1 < (k : Int) ∧ h.1 ∉ xs ∧ gs.getD h.1.toNat 0 = h.2
  sum : good.length + xs.length = k
  old : ∀ h ∈ gone, 0 ≤ h.1 ∧ h.1 < (k : Int) ∧ 0 ≤ h.2 ∧ h.2 ≤ t ∧ (h.2 < gs.getD h.1.toNat 0 ∨ (gs.getD h.1.toNat 0 = h.2 ∧ h.1 ∈ xs))
  few : gone.length ≤ t

variable {k t : Nat} {gs xs : List Int} {good gone : List (Int × Int)}

theorem AloneI.right (h : AloneI k t gs xs good gone) (h1 : 1 ≤ k) (h2 : k ≤ 20) (ht : t ≤ 100) : rightB gs xs = true :=
  right_mk _ _ (by have := h.len; omega) (by have := h.len; omega) (fun j hj => by have := h.gen j (by have := h.len; omega); omega) h.nd (fun c hc => by have := h.bd c hc; have := h.len; omega)

theorem alone_zero (h1 : 1 ≤ k) (h2 : k ≤ 20) : AloneI k 0 (makeG k) (makeX k) [] [] := by
  obtain ⟨_, hT⟩ := took_zero k h1 h2
  have hx : makeX (k : Int) = downFrom k := by rw [hT.2.1, Nat.sub_zero, List.take_of_length_le (by rw [downFrom_len]; omega)]
  refine ⟨hT.1, fun c hc => by rw [hT.2.2 c hc, if_neg (by omega)]; simp, by rw [hx]; exact downFrom_nodup k, fun c hc => by rw [hx] at hc; exact (downFrom_mem k c).1 hc, by simp, by simp, ?_, by simp, by simp⟩
  rw [hx, downFrom_len]; simp

theorem AloneI.more (h : AloneI k t gs xs good gone) : AloneI k (t + 1) gs xs good gone :=
  ⟨h.len, fun c hc => by have := h.gen c hc; omega, h.nd, h.bd, h.one, h.isg, h.sum, fun g hg => ⟨(h.old g hg).1, (h.old g hg).2.1, (h.old g hg).2.2.1, by have := (h.old g hg).2.2.2.1; omega, (h.old g hg).2.2.2.2⟩, by have := h.few; omega⟩

theorem AloneI.full (h : AloneI k t gs xs good gone) (h1 : 1 ≤ k) (h2 : k ≤ 20) (ht : t ≤ 100) (h0 : good.length = k) : takeE gs xs = 2 ∧ takeG gs xs = gs ∧ takeX gs xs = xs ∧ takeC gs xs = 0 ∧ takeN gs xs = 0 := by
  have hE : takeE gs xs = 2 := by
    unfold takeE
    rw [if_neg (by rw [h.right h1 h2 ht]; decide), if_pos (by have := h.sum; omega)]
  exact ⟨hE, take_refused gs xs (by omega)⟩

theorem AloneI.take (h : AloneI k t gs xs good gone) (h1 : 1 ≤ k) (h2 : k ≤ 20) (ht : t ≤ 100) (h0 : good.length < k) :
    takeE gs xs = 0 ∧ 0 ≤ takeC gs xs ∧ takeC gs xs < (k : Int) ∧ 0 ≤ takeN gs xs ∧ takeN gs xs ≤ 1000 ∧ (takeG gs xs).length = k ∧ (takeX gs xs).length = xs.length - 1 ∧ AloneI k (t + 1) (takeG gs xs) (takeX gs xs) (good ++ [(takeC gs xs, takeN gs xs)]) gone := by
  have hr := h.right h1 h2 ht
  have hl := h.len
  have hx0 : 0 < xs.length := by have := h.sum; omega
  have hm := last_mem xs hx0
  have hb := h.bd _ hm
  have hg := h.gen (lastD xs).toNat (by omega)
  have hE : takeE gs xs = 0 := by
    unfold takeE
    rw [if_neg (by rw [hr]; decide), if_neg (by omega), if_neg (by omega)]
  have eG : takeG gs xs = gs.set (lastD xs).toNat (gs.getD (lastD xs).toNat 0 + 1) := by unfold takeG; rw [if_pos hE]
  have eX : takeX gs xs = xs.take (xs.length - 1) := by unfold takeX; rw [if_pos hE]
  have eC : takeC gs xs = lastD xs := by unfold takeC; rw [if_pos hE]
  have eN : takeN gs xs = gs.getD (lastD xs).toNat 0 + 1 := by unfold takeN; rw [if_pos hE]
  have hs := split_last xs hx0
  have hnd := h.nd
  rw [hs, List.nodup_append] at hnd
  have hnot : lastD xs ∉ xs.take (xs.length - 1) := fun hmem => hnd.2.2 _ hmem _ (by simp) rfl
  have hsub : ∀ c ∈ xs.take (xs.length - 1), c ∈ xs := fun c hc => List.mem_of_mem_take hc
  rw [eG, eX, eC, eN]
  refine ⟨hE, hb.1, hb.2, by omega, by omega, by simpa using hl, by rw [List.length_take]; omega, by simpa using hl, ?_, hnd.1, fun c hc => h.bd c (hsub c hc), ?_, ?_, ?_, ?_, by have := h.few; omega⟩
  · intro c hc
    by_cases e : c = (lastD xs).toNat
    · rw [e, getD_set_same _ _ _ (by omega)]; omega
    · rw [getD_set_other _ _ _ _ e]; have := h.gen c hc; omega
  · rw [List.map_append, List.nodup_append]
    refine ⟨h.one, by simp, fun a ha b hb' => ?_⟩
    simp only [List.map_cons, List.map_nil, List.mem_singleton] at hb'
    subst hb'
    obtain ⟨g, hg', rfl⟩ := List.mem_map.1 ha
    intro e
    exact (h.isg g hg').2.2.1 (e ▸ hm)
  · intro g hg'
    rcases List.mem_append.1 hg' with hg' | hg'
    · have hi := h.isg g hg'
      have hne : g.1 ≠ lastD xs := fun e => hi.2.2.1 (e ▸ hm)
      refine ⟨hi.1, hi.2.1, fun hc => hi.2.2.1 (hsub _ hc), ?_⟩
      rw [getD_set_other _ _ _ _ (by omega)]; exact hi.2.2.2
    · simp only [List.mem_singleton] at hg'
      subst hg'
      exact ⟨hb.1, hb.2, hnot, getD_set_same _ _ _ (by omega)⟩
  · rw [List.length_append, List.length_take]
    have := h.sum
    simp only [List.length_cons, List.length_nil]
    omega
  · intro g hg'
    have hi := h.old g hg'
    refine ⟨hi.1, hi.2.1, hi.2.2.1, by omega, ?_⟩
    by_cases e : g.1 = lastD xs
    · left
      rw [e, getD_set_same _ _ _ (by omega)]
      have := hi.2.2.2.2
      rw [e] at this
      omega
    · rw [getD_set_other _ _ _ _ (by omega)]
      rcases hi.2.2.2.2 with h3 | ⟨h3, h4⟩
      · exact .inl h3
      · refine .inr ⟨h3, ?_⟩
        rw [hs] at h4
        rcases List.mem_append.1 h4 with h4 | h4
        · exact h4
        · simp only [List.mem_singleton] at h4; exact absurd h4 e

theorem nodup_split {α β : Type} (f : α → β) (l : List α) (q : Nat) (d : α) (hq : q < l.length) (h : (l.map f).Nodup) : l = l.take q ++ [l.getD q d] ++ l.drop (q + 1) ∧ (∀ a ∈ l.take q ++ l.drop (q + 1), f a ≠ f (l.getD q d)) ∧ ((l.take q ++ l.drop (q + 1)).map f).Nodup := by
  have e : l = l.take q ++ [l.getD q d] ++ l.drop (q + 1) := by
    have h1 : l.take (q + 1) = l.take q ++ [l.getD q d] := by
      rw [List.take_succ_eq_append_getElem hq, List.getD_eq_getElem?_getD, List.getElem?_eq_getElem hq]; rfl
    rw [← h1, List.take_append_drop]
  refine ⟨e, ?_, ?_⟩
  · rw [e] at h
    simp only [List.map_append, List.map_cons, List.map_nil] at h
    rw [List.nodup_append, List.nodup_append] at h
    obtain ⟨⟨_, _, h1⟩, _, h2⟩ := h
    intro a ha
    rcases List.mem_append.1 ha with ha | ha
    · exact h1 _ (List.mem_map_of_mem ha) _ (by simp)
    · exact fun e => h2 (f (l.getD q d)) (by simp) _ (List.mem_map_of_mem ha) e.symm
  · have hsub : (l.take q ++ l.drop (q + 1)).Sublist l := by
      have : (l.take q ++ l.drop (q + 1)).Sublist (l.take q ++ [l.getD q d] ++ l.drop (q + 1)) := by
        rw [List.append_assoc]
        exact List.Sublist.append (List.Sublist.refl _) (List.sublist_append_right _ _)
      rw [← e] at this; exact this
    exact h.sublist (hsub.map f)

theorem AloneI.give (h : AloneI k t gs xs good gone) (h1 : 1 ≤ k) (h2 : k ≤ 20) (ht : t ≤ 100) (q : Nat) (hq : q < good.length) :
    giveE gs xs (good.getD q (0, 0)).1 (good.getD q (0, 0)).2 = 0 ∧ giveX gs xs (good.getD q (0, 0)).1 (good.getD q (0, 0)).2 = xs ++ [(good.getD q (0, 0)).1] ∧
      AloneI k (t + 1) gs (xs ++ [(good.getD q (0, 0)).1]) (good.take q ++ good.drop (q + 1)) (gone ++ [good.getD q (0, 0)]) := by
  have hr := h.right h1 h2 ht
  obtain ⟨e, hne, hnd⟩ := nodup_split (·.1) good q (0, 0) hq h.one
  have hmem : good.getD q (0, 0) ∈ good := by rw [List.getD_eq_getElem?_getD, List.getElem?_eq_getElem hq]; exact List.getElem_mem _
  have hlen := congrArg List.length e
  generalize good.getD q (0, 0) = g at *
  have hi := h.isg g hmem
  have hgd : goodB gs xs g.1 g.2 = true := by rw [good_iff]; exact ⟨hi.1, by have := h.len; omega, hi.2.2.1, hi.2.2.2⟩
  have hE : giveE gs xs g.1 g.2 = 0 := by unfold giveE; rw [if_neg (by rw [hr]; decide), if_neg (by rw [hgd]; decide)]
  have hgen := h.gen g.1.toNat (by omega)
  have hsub : ∀ a ∈ good.take q ++ good.drop (q + 1), a ∈ good := fun a ha => by
    rcases List.mem_append.1 ha with ha | ha
    · exact List.mem_of_mem_take ha
    · exact List.mem_of_mem_drop ha
  refine ⟨hE, by unfold giveX; rw [if_pos hE], h.len, fun c hc => by have := h.gen c hc; omega, ?_, ?_, hnd, ?_, ?_, ?_, ?_⟩
  · rw [List.nodup_append]
    exact ⟨h.nd, by simp, fun a ha b hb => by simp only [List.mem_singleton] at hb; subst hb; intro e; subst e; exact hi.2.2.1 ha⟩
  · intro c hc
    rcases List.mem_append.1 hc with hc | hc
    · exact h.bd c hc
    · simp only [List.mem_singleton] at hc; subst hc; exact ⟨hi.1, hi.2.1⟩
  · intro a ha
    have hia := h.isg a (hsub a ha)
    refine ⟨hia.1, hia.2.1, ?_, hia.2.2.2⟩
    intro hc
    rcases List.mem_append.1 hc with hc | hc
    · exact hia.2.2.1 hc
    · simp only [List.mem_singleton] at hc; exact hne a ha hc
  · have := h.sum
    simp only [List.length_append, List.length_cons, List.length_nil] at hlen ⊢
    omega
  · intro a ha
    rcases List.mem_append.1 ha with ha | ha
    · have hia := h.old a ha
      refine ⟨hia.1, hia.2.1, hia.2.2.1, by omega, ?_⟩
      rcases hia.2.2.2.2 with h3 | ⟨h3, h4⟩
      · exact .inl h3
      · exact .inr ⟨h3, by simp [h4]⟩
    · simp only [List.mem_singleton] at ha
      subst ha
      exact ⟨hi.1, hi.2.1, by rw [← hi.2.2.2]; omega, by rw [← hi.2.2.2]; omega, .inr ⟨hi.2.2.2, by simp⟩⟩
  · have := h.few
    simp only [List.length_append, List.length_cons, List.length_nil]
    omega

theorem AloneI.notGood (h : AloneI k t gs xs good gone) (q : Nat) (hq : q < gone.length) : (rightB gs xs && goodB gs xs (gone.getD q (0, 0)).1 (gone.getD q (0, 0)).2) = false := by
  have hmem : gone.getD q (0, 0) ∈ gone := by rw [List.getD_eq_getElem?_getD, List.getElem?_eq_getElem hq]; exact List.getElem_mem _
  have hi := h.old _ hmem
  have : goodB gs xs (gone.getD q (0, 0)).1 (gone.getD q (0, 0)).2 = false := by
    rw [Bool.eq_false_iff]
    intro hg
    rw [good_iff] at hg
    rcases hi.2.2.2.2 with h3 | ⟨_, h4⟩
    · have := hg.2.2.2; omega
    · exact hg.2.2.1 h4
  rw [this]; simp
theorem AloneI.isGood (h : AloneI k t gs xs good gone) (h1 : 1 ≤ k) (h2 : k ≤ 20) (ht : t ≤ 100) (q : Nat) (hq : q < good.length) : (rightB gs xs && goodB gs xs (good.getD q (0, 0)).1 (good.getD q (0, 0)).2) = true := by
  have hmem : good.getD q (0, 0) ∈ good := by rw [List.getD_eq_getElem?_getD, List.getElem?_eq_getElem hq]; exact List.getElem_mem _
  have hi := h.isg _ hmem
  have : goodB gs xs (good.getD q (0, 0)).1 (good.getD q (0, 0)).2 = true := by rw [good_iff]; exact ⟨hi.1, by have := h.len; omega, hi.2.2.1, hi.2.2.2⟩
  rw [this, h.right h1 h2 ht]; rfl
theorem AloneI.two (h : AloneI k t gs xs good gone) (p q : Nat) (hp : p < q) (hq : q < good.length) : (good.getD p (0, 0)).1 ≠ (good.getD q (0, 0)).1 := by
  have ho := h.one
  rw [List.nodup_iff_pairwise_ne, List.pairwise_iff_getElem] at ho
  have := ho p q (by simp; omega) (by simp; omega) hp
  rw [List.getElem_map, List.getElem_map] at this
  rw [List.getD_eq_getElem?_getD, List.getD_eq_getElem?_getD, List.getElem?_eq_getElem (by omega), List.getElem?_eq_getElem hq]
  exact this

theorem count_out : ∀ (xs L : List Int), xs.Nodup → L.Nodup → (∀ c ∈ xs, c ∈ L) → (L.filter (fun c => decide (c ∉ xs))).length + xs.length = L.length
  | [], L, _, _, _ => by rw [List.filter_eq_self.2 (by simp)]; rfl
  | a :: xs, L, hn, hL, hs => by
    have ha : a ∈ L := hs a (by simp)
    have hn' := List.nodup_cons.1 hn
    have ih := count_out xs (L.erase a) hn'.2 (hL.erase a) (fun c hc => by
      rw [hL.mem_erase_iff]
      exact ⟨fun e => hn'.1 (e ▸ hc), hs c (by simp [hc])⟩)
    have e : L.filter (fun c => decide (c ∉ a :: xs)) = (L.erase a).filter (fun c => decide (c ∉ xs)) := by
      rw [hL.erase_eq_filter, List.filter_filter]
      apply List.filter_congr
      intro c _
      by_cases h1 : c = a <;> by_cases h2 : c ∈ xs <;> simp [h1, h2]
    have h0 : 0 < L.length := List.length_pos_of_mem ha
    rw [List.length_erase_of_mem ha] at ih
    rw [e, List.length_cons]
    omega
theorem AloneI.taken (h : AloneI k t gs xs good gone) (h1 : 1 ≤ k) (h2 : k ≤ 20) (ht : t ≤ 100) : (takenL gs xs).length = good.length := by
  have hr := h.right h1 h2 ht
  unfold takenL
  rw [if_pos hr, h.len]
  unfold takenUpTo
  have hL : ((List.range k).map Int.ofNat).Nodup := by
    rw [List.nodup_iff_pairwise_ne, List.pairwise_iff_getElem]
    intro i j hi hj hij
    simp only [List.getElem_map, List.getElem_range]
    intro e
    have : (i : Int) = j := e
    omega
  have := count_out xs ((List.range k).map Int.ofNat) h.nd hL (fun c hc => by
    have := h.bd c hc
    rw [List.mem_map]
    exact ⟨c.toNat, by rw [List.mem_range]; omega, by simp; omega⟩)
  have hs := h.sum
  rw [List.length_map, List.length_range] at this
  have e : ∀ l : List Int, l.filter (fun c => decide (c ∉ xs)) = l.filter (fun c => !decide (c ∈ xs)) := fun l => by congr 1; funext c; by_cases h : c ∈ xs <;> simp [h]
  rw [e] at this
  omega
end Go.Proofs.Ytbkheglogmkbgaa.Plain
