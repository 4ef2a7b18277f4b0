/- Plain words of scans: what holds of them. No program in it. -/
import Derived.Test.YtkpbanfpnilifaaJ6
set_option linter.unusedVariables false
set_option linter.unusedSimpArgs false
set_option linter.unnecessarySimpa false
namespace Go.Proofs.Ytkpbanfpnilifaa.Plain

theorem stepsP_good (n : Nat) (b g m : Int) (picks : List (Int × Int)) (h1 : 1 ≤ b) (h2 : b ≤ 100) (hb : planB g m picks.length = true) : (stepsP n b g m picks).2 = 0 := by
  have he : (ordP n g m picks).2.2 = 0 := by
    unfold ordP
    rw [if_neg (by rw [hb]; decide)]
    split <;> rfl
  unfold stepsP
  rw [if_neg (by omega), if_neg (by rw [he]; simp)]
theorem sumsP_good (l : List Nat) (b g m : Int) (picks : List (Int × Int)) (h1 : 1 ≤ b) (h2 : b ≤ 100) (hb : planB g m picks.length = true) : ∃ st, sumsP l b g m picks = (sumsW l, totW l, st, 0) := by
  have h := stepsP_good l.length b g m picks h1 h2 hb
  unfold sumsP
  rw [if_neg (by rw [h]; simp)]
  exact ⟨_, rfl⟩
theorem highP_good (l : List Nat) (b g m : Int) (picks : List (Int × Int)) (h1 : 1 ≤ b) (h2 : b ≤ 100) (hb : planB g m picks.length = true) : ∃ st, highP l b g m picks = (highW l, st, 0) := by
  have h := stepsP_good l.length b g m picks h1 h2 hb
  unfold highP
  rw [if_neg (by rw [h]; simp)]
  exact ⟨_, rfl⟩
theorem sumsW_len (l : List Nat) : (sumsW l).length = l.length := byN_len _ _
theorem highW_len (l : List Nat) : (highW l).length = l.length := byN_len _ _
theorem sumsW_at (l : List Nat) (i : Nat) (h : i < l.length) : (sumsW l).getD i 0 = totW (l.take i) := byN_getD _ _ _ h
theorem highW_at (l : List Nat) (i : Nat) (h : i < l.length) : (highW l).getD i 0 = maxL (l.take (i + 1)) := byN_getD _ _ _ h
/-- there and back -/
theorem back_sums (l : List Nat) (hl : ∀ x ∈ l, x < 4294967296) : backW (sumsW l) (totW l) = l := by
  have e : backW (sumsW l) (totW l) = byN l.length (fun i => l.getD i 0) := by
    unfold backW
    rw [sumsW_len]
    refine byN_congr _ _ _ fun i hi => ?_
    have hx : l.getD i 0 < 4294967296 := by
      rw [List.getD_eq_getElem?_getD, List.getElem?_eq_getElem hi]
      exact hl _ (List.getElem_mem hi)
    have hn : (if i + 1 < (sumsW l).length then (sumsW l).getD (i + 1) 0 else totW l) = totW (l.take (i + 1)) := by
      rw [sumsW_len]
      split
      · rename_i h; exact sumsW_at l (i + 1) h
      · rw [List.take_of_length_le (by omega)]
    unfold backF
    rw [hn, sumsW_at l i hi, takeN_snoc hi, totW_snoc]
    have := totW_lt (l.take i)
    omega
  rw [e, byN_id]
/-- blocks' sums, added up -/
theorem totW_blocks (l : List Nat) (B : Nat) : ∀ k : Nat, totW (byN k (fun i => totW ((l.drop (i * B)).take B))) = totW (l.take (k * B))
  | 0 => by simp [byN]
  | k + 1 => by
    rw [byN_snoc, totW_snoc, totW_blocks l B k, Nat.succ_mul, List.take_add, totW_app]
theorem blocksP_all (n B : Nat) (h1 : 1 ≤ B) (h2 : B ≤ 100) (hn : n ≤ 1000) : n ≤ blocksP n (B : Int) * B := by
  unfold blocksP
  rw [if_pos (by omega), Int.toNat_natCast]
  have h3 := Nat.div_add_mod (n + B - 1) B
  have h4 := Nat.mod_lt (n + B - 1) (by omega : B > 0)
  rw [Nat.mul_comm] at h3
  omega
theorem totW_totals (l : List Nat) (B : Nat) (h1 : 1 ≤ B) (h2 : B ≤ 100) (hn : l.length ≤ 1000) : totW (totalsW l (B : Int)) = totW l := by
  unfold totalsW
  rw [Int.toNat_natCast, totW_blocks, List.take_of_length_le (blocksP_all l.length B h1 h2 hn)]
theorem totalsW_len (l : List Nat) (b : Int) : (totalsW l b).length = blocksP l.length b := byN_len _ _
theorem highW_take (l : List Nat) (n : Nat) (h : n ≤ l.length) : highW (l.take n) = (highW l).take n := by
  unfold highW
  rw [byN_take _ _ _ h, List.length_take, Nat.min_eq_left h]
  refine byN_congr _ _ _ fun i hi => ?_
  rw [List.take_take, Nat.min_eq_left (by omega)]
theorem highW_step (l : List Nat) (i : Nat) (h : i < l.length) : (highW l).getD i 0 = max (maxL (l.take i)) (l.getD i 0) := by
  rw [highW_at l i h, takeN_snoc h, maxL_snoc]
theorem sumsW_app (a b : List Nat) : (sumsW (a ++ b)).take a.length = sumsW a := by
  unfold sumsW
  rw [byN_take _ _ _ (by rw [List.length_append]; omega)]
  refine byN_congr _ _ _ fun i hi => ?_
  rw [List.take_append_of_le_length (by omega)]
theorem sumsW_app_at (a b : List Nat) (i : Nat) (h : i < b.length) : (sumsW (a ++ b)).getD (a.length + i) 0 = ((sumsW b).getD i 0 + totW a) % 4294967296 := by
  rw [sumsW_at _ _ (by rw [List.length_append]; omega), sumsW_at b i h, List.take_length_add_append, totW_app, Nat.add_comm]
end Go.Proofs.Ytkpbanfpnilifaa.Plain
