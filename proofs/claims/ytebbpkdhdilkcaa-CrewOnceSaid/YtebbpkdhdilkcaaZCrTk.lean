import Derived.Test.YtebbpkdhdilkcaaJ7
/- Plain words of a run of steps: which tasks are gone at, each once. No program in it. -/
namespace Go.Proofs.Ytebbpkdhdilkcaa.Plain

/-- the tasks that are gone at, as they came -/
def takenL (l : List Ev) : List Nat := l.filterMap fun e => if e.tk < 0 then none else some e.tk.toNat
theorem takenL_app (a b : List Ev) : takenL (a ++ b) = takenL a ++ takenL b := by unfold takenL; rw [List.filterMap_append]
theorem takenL_no (e : Ev) (h : e.tk < 0) : takenL [e] = [] := by unfold takenL; simp [h]
theorem takenL_yes (e : Ev) (k : Nat) (h : e.tk = k) : takenL [e] = [k] := by unfold takenL; simp [h]
theorem takenL_snoc (l : List Ev) (j : Nat) (hj : j < l.length) : takenL (l.take (j + 1)) = takenL (l.take j) ++ takenL [l.getD j ev0] := by
  rw [List.take_succ_eq_append_getElem hj, takenL_app, List.getD_eq_getElem?_getD, List.getElem?_eq_getElem hj]; rfl
theorem takenL_new (l : List Ev) (hn : (takenL l).Nodup) (j : Nat) (hj : j < l.length) (x : Nat) (hx : (l.getD j ev0).tk = x) : x ∈ takenL l ∧ x ∉ takenL (l.take j) := by
  have e : takenL l = takenL (l.take j) ++ (takenL [l.getD j ev0] ++ takenL (l.drop (j + 1))) := by
    have e0 : l = l.take j ++ ([l.getD j ev0] ++ l.drop (j + 1)) := by
      rw [List.getD_eq_getElem?_getD, List.getElem?_eq_getElem hj]
      conv => lhs; rw [← List.take_append_drop j l, List.drop_eq_getElem_cons hj]
      rfl
    rw [← takenL_app, ← takenL_app, ← e0]
  rw [takenL_yes _ x hx] at e
  rw [e] at hn ⊢
  rw [List.nodup_append] at hn
  exact ⟨by simp, fun h => hn.2.2 x h x (by simp) rfl⟩
theorem CwI.stepG {g n m : Nat} {c : Cw} {done : Nat} {G : List Nat} (h : CwI g n m c done G) (hg : 1 ≤ g) (hm : 1 ≤ m) (p q : Int) : ∃ done', CwI g n m (stepP g m c p q).1 done' (G ++ takenL [(stepP g m c p q).2]) := by
  rcases h.step hg hm p q with ⟨he, _, h'⟩ | ⟨k, F, _, _, _, he, _, _, _, _, h'⟩ | ⟨k, F, _, _, _, he, _, _, _, _, _, h'⟩
  · refine ⟨done, ?_⟩
    rw [takenL_no _ (by rw [he]; simp only; omega), List.append_nil]
    exact h'
  · exact ⟨done, by rw [takenL_yes _ k (by rw [he])]; exact h'⟩
  · exact ⟨_, by rw [takenL_yes _ k (by rw [he])]; exact h'⟩
theorem CwI.runG {g n m : Nat} (hg : 1 ≤ g) (hm : 1 ≤ m) : ∀ (l : List (Int × Int)) (c : Cw) (done : Nat) (G : List Nat), CwI g n m c done G → ∃ done', CwI g n m (runP g m c l).1 done' (G ++ takenL (runP g m c l).2)
  | [], c, done, G, h => ⟨done, by simpa [runP, takenL] using h⟩
  | x :: l, c, done, G, h => by
    obtain ⟨d1, h1⟩ := h.stepG hg hm x.1 x.2
    obtain ⟨d2, h2⟩ := CwI.runG hg hm l _ _ _ h1
    refine ⟨d2, ?_⟩
    have e : takenL (runP g m c (x :: l)).2 = takenL [(stepP g m c x.1 x.2).2] ++ takenL (runP g m (stepP g m c x.1 x.2).1 l).2 := by
      rw [← takenL_app]; rfl
    rw [e, ← List.append_assoc]
    exact h2
/-- the end: how many are gone at, held, and over -/
theorem CwI.counts {g n m : Nat} {c : Cw} {done : Nat} {G : List Nat} (h : CwI g n m c done G) (hg : 1 ≤ g) (hn : 1 ≤ n) : G.length + (held c.D).length = c.ts.length ∧ c.ts.length ≤ cntT n g ∧ cntT n g ≤ 2 * n ∧ (c.over = true ↔ G.length = cntT n g) := by
  have h1 := (CrI.fresh h).2.2.2
  have h2 := (CrI.inv h).few hg hn
  refine ⟨h1, h2.1, by omega, ?_⟩
  have hov := CrI.ov h
  constructor
  · intro ho
    rw [ho] at hov
    have he : held c.D = [] := of_decide_eq_true hov.symm
    have hI := CrI.inv h
    rw [he] at hI h1
    have := hI.over.2.1
    simp only [List.length_nil] at h1
    omega
  · intro hl
    rw [hov, decide_eq_true_eq]
    exact List.eq_nil_of_length_eq_zero (by omega)
end Go.Proofs.Ytebbpkdhdilkcaa.Plain
