import Derived.Test.YtebbpkdhdilkcaaJ7
/- Plain words of a crew of one: its leaves come from the left to the right. No program in it. -/
namespace Go.Proofs.Ytebbpkdhdilkcaa.Plain

theorem cutN_one (p : Int) : cutN 1 p = 0 := by have := cutN_lt 1 p (by decide); omega
theorem held_one {D : List (List Nat)} (h : D.length = 1) : held D = D.getD 0 [] := by
  match D, h with
  | [xs], _ => simp [held]
theorem rev_snoc (xs : List Nat) (h : xs ≠ []) : xs.reverse = xs.getLastD 0 :: xs.dropLast.reverse := by
  conv => lhs; rw [getLastD_snoc xs h]
  rw [List.reverse_append]; rfl
theorem set_one (D : List (List Nat)) (h : D.length = 1) (x : List Nat) : D.set 0 x = [x] := by
  match D, h with
  | [_], _ => rfl
/-- a step of one who works alone -/
theorem CwI.own {g n : Nat} {c : Cw} {done : Nat} {G : List Nat} {at' : Int} (h : CwI g n 1 c done G) (hg : 1 ≤ g) (hc : chain c.ts (c.D.getD 0 []).reverse at' n) (p q : Int) :
    (c.D.getD 0 [] = [] ∧ (stepP g 1 c p q).2 = ⟨0, -1, -1, false⟩ ∧ chain (stepP g 1 c p q).1.ts ((stepP g 1 c p q).1.D.getD 0 []).reverse at' n) ∨
    (∃ k : Nat, c.D.getD 0 [] ≠ [] ∧ (stepP g 1 c p q).2 = ⟨0, 0, k, true⟩ ∧ chain (stepP g 1 c p q).1.ts ((stepP g 1 c p q).1.D.getD 0 []).reverse at' n) ∨
    (∃ k : Nat, c.D.getD 0 [] ≠ [] ∧ (stepP g 1 c p q).2 = ⟨0, 0, k, false⟩ ∧ k < (stepP g 1 c p q).1.ts.length ∧ (T (stepP g 1 c p q).1.ts k).lo = at' ∧ chain (stepP g 1 c p q).1.ts ((stepP g 1 c p q).1.D.getD 0 []).reverse (T (stepP g 1 c p q).1.ts k).hi n) := by
  have hwk : c.D.length = 1 := CrI.wk h
  have hh := held_one hwk
  unfold stepP
  rw [cutN_one, cutN_one]
  by_cases h0 : c.D.getD 0 [] = []
  · have hs : srcN c.D 0 0 = none := by unfold srcN; rw [if_neg (by rw [h0]; simp), if_neg (by rw [h0]; simp)]
    rw [hs]
    exact .inl ⟨h0, rfl, hc⟩
  · have hs : srcN c.D 0 0 = some 0 := by unfold srcN; rw [if_pos h0]
    rw [hs]
    simp only
    have htk : takeN c.D 0 0 = ((c.D.getD 0 []).getLastD 0, (c.D.getD 0 []).dropLast) := by unfold takeN; rw [if_pos rfl]
    obtain ⟨k, hk⟩ : ∃ k, (c.D.getD 0 []).getLastD 0 = k := ⟨_, rfl⟩
    obtain ⟨R, hR⟩ : ∃ R, (c.D.getD 0 []).dropLast = R := ⟨_, rfl⟩
    rw [rev_snoc _ h0, hk, hR] at hc
    rw [hk, hR] at htk
    have hnd := (CrI.inv h).nd
    have hlt := (CrI.inv h).lt
    rw [hh, getLastD_snoc _ h0, hk, hR] at hnd hlt
    rw [List.nodup_append] at hnd
    have hkl : k < c.ts.length := hlt k (by simp)
    have hset := set_one c.D hwk R
    by_cases hz : g < sz c.ts k
    · refine .inr (.inl ⟨k, h0, ?_⟩)
      unfold goP
      rw [htk]
      simp only
      rw [if_pos hz, hset]
      refine ⟨rfl, ?_⟩
      show chain (partedL c.ts k) (R ++ [c.ts.length + 1, c.ts.length]).reverse at' n
      rw [List.reverse_append]
      show chain (partedL c.ts k) (c.ts.length :: (c.ts.length + 1) :: R.reverse) at' n
      exact chain_parted c.ts k R.reverse at' n hkl (fun j hj => ⟨hlt j (by simp [List.mem_reverse.1 hj]), fun e => hnd.2.2 j (List.mem_reverse.1 hj) k (by simp) e⟩) hc
    · refine .inr (.inr ⟨k, h0, ?_⟩)
      unfold goP
      rw [htk]
      simp only
      rw [if_neg hz, hset]
      have hs' := climb_same (c.ts.length + 1) c.ts (T c.ts k).up
      obtain ⟨hlo, hch⟩ := chain_did c.ts _ k R.reverse at' n hs' hc
      refine ⟨rfl, ?_, ?_, ?_⟩
      · show k < (climb (c.ts.length + 1) c.ts (T c.ts k).up).1.length
        rw [climb_len]; exact hkl
      · show (T (climb (c.ts.length + 1) c.ts (T c.ts k).up).1 k).lo = at'
        rw [(hs'.2 k).1]; exact hlo
      · show chain (climb (c.ts.length + 1) c.ts (T c.ts k).up).1 R.reverse (T (climb (c.ts.length + 1) c.ts (T c.ts k).up).1 k).hi n
        rw [(hs'.2 k).2.1]; exact hch
/-- over, just where all is gone through -/
theorem CwI.ownEnd {g n : Nat} {c : Cw} {done : Nat} {G : List Nat} {at' : Int} (h : CwI g n 1 c done G) (hc : chain c.ts (c.D.getD 0 []).reverse at' n) : at' ≤ n ∧ (c.over = true ↔ at' = n) := by
  have hwk : c.D.length = 1 := CrI.wk h
  have hh := held_one hwk
  have hI := CrI.inv h
  obtain ⟨h1, h2⟩ := chain_end c.ts (c.D.getD 0 []).reverse at' n (fun j hj => by
    have hm : j ∈ held c.D := by rw [hh]; exact List.mem_reverse.1 hj
    exact (hI.task j (hI.lt j hm)).2.1) hc
  refine ⟨h1, ?_⟩
  rw [h2, CrI.ov h, decide_eq_true_eq, hh, List.reverse_eq_nil_iff]
end Go.Proofs.Ytebbpkdhdilkcaa.Plain
