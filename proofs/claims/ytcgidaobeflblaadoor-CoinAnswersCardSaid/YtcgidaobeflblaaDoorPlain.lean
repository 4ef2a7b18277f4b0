/- Plain facts on words of 32 bits, for stage 1: no program stands here. -/
import Derived.WalkKit
import Derived.Laws.BitsAllLaws
import Derived.Lib.TrailingZeros
namespace Go.Proofs.YtcgidaobeflblaaDoor.Plain
open Go.RowKit

/-- bit i of x; 0 of others -/
def bitN (x i : Nat) : Nat := x / 2 ^ i % 2
/-- the word's n bits from a on -/
def cutN (x a n : Nat) : Nat := x / 2 ^ a % 2 ^ n
/-- the lowest n bits with a sign -/
def sgnI (x n : Nat) : Int := if 2 * (x % 2 ^ n) < 2 ^ n ∨ n = 0 then (x % 2 ^ n : Nat) else ((x % 2 ^ n : Nat) : Int) - 2 ^ n
def rotN (a : Nat) : Nat := a * 32 % 4294967296 + a / 134217728
def mixN (a b : Nat) : Nat := (rotN a ^^^ b) * 2654435761 % 4294967296
def heightN (x : Nat) : Nat := min (Lib.ctz 32 x + 1) 8

theorem and_one (x : Nat) (hx : x < 4294967296) : bits .and .u32 (x : Int) 1 = ((x % 2 : Nat) : Int) := by
  have := u32_and_nat x 1 hx (by omega)
  simpa [Nat.and_one_is_mod] using this

theorem and_mask (x k : Nat) (hx : x < 4294967296) (hk : k ≤ 32) : bits .and .u32 (x : Int) ((2 ^ k - 1) % 4294967296) = ((x % 2 ^ k : Nat) : Int) := by
  have hp : 2 ^ k ≤ 2 ^ 32 := Nat.pow_le_pow_right (by decide) hk
  have h1 : 1 ≤ 2 ^ k := Nat.one_le_two_pow
  have e : ((2 ^ k - 1) % 4294967296 : Int) = ((2 ^ k - 1 : Nat) : Int) := by
    have : ((2 ^ k - 1 : Nat) : Int) = 2 ^ k - 1 := by rw [Int.ofNat_sub h1]; simp
    rw [← this]; omega
  rw [e, u32_and_nat x _ hx (by omega), Nat.and_two_pow_sub_one_eq_mod]

theorem cut_step (x a i : Nat) : cutN x a i + bitN x (a + i) * 2 ^ i = cutN x a (i + 1) := by
  unfold cutN bitN
  rw [Nat.pow_add 2 a i, ← Nat.div_div_eq_div_mul, Nat.pow_succ, Nat.mod_mul]
  rw [Nat.mul_comm (2 ^ i)]
theorem cut_zero (x a : Nat) : cutN x a 0 = 0 := by simp [cutN, Nat.mod_one]
theorem cut_lt (x a n : Nat) : cutN x a n < 2 ^ n := Nat.mod_lt _ (Nat.two_pow_pos _)
theorem cut_high (x a n : Nat) (hx : x < 4294967296) (ha : 32 ≤ a) : cutN x a n = 0 := by
  unfold cutN
  rw [Nat.div_eq_of_lt]
  · simp
  · exact Nat.lt_of_lt_of_le hx (show 2 ^ 32 ≤ 2 ^ a from Nat.pow_le_pow_right (by decide) ha)
theorem cut_min (x a n : Nat) (hx : x < 4294967296) : cutN x (min a 32) (min n 32) = cutN x a n := by
  by_cases ha : 32 ≤ a
  · rw [cut_high x _ _ hx (by omega), cut_high x a n hx ha]
  · rw [Nat.min_eq_left (by omega)]
    by_cases hn : 32 ≤ n
    · rw [Nat.min_eq_right hn]; unfold cutN
      have : x / 2 ^ a < 2 ^ 32 := Nat.lt_of_le_of_lt (Nat.div_le_self _ _) hx
      rw [Nat.mod_eq_of_lt this, Nat.mod_eq_of_lt (Nat.lt_of_lt_of_le this (Nat.pow_le_pow_right (by decide) hn))]
    · rw [Nat.min_eq_left (by omega)]
theorem bit_lt (x i : Nat) : bitN x i < 2 := Nat.mod_lt _ (by decide)
theorem bit_high (x i : Nat) (hx : x < 4294967296) (hi : 32 ≤ i) : bitN x i = 0 := by
  unfold bitN
  rw [Nat.div_eq_of_lt (Nat.lt_of_lt_of_le hx (show 2 ^ 32 ≤ 2 ^ i from Nat.pow_le_pow_right (by decide) hi))]

/-- the lowest bits, with a sign, by shifts -/
theorem sgn_shift (x n : Nat) (hn : n ≤ 32) : wrap32 ((x : Int) * 2 ^ (32 - n) % 4294967296) / 2 ^ (32 - n) = sgnI x n := by
  unfold sgnI wrap32
  have hp : (2 : Int) ^ 32 = 2 ^ n * 2 ^ (32 - n) := by rw [← Int.pow_add]; congr 1; omega
  have hpN : (2 : Nat) ^ 32 = 2 ^ n * 2 ^ (32 - n) := by rw [← Nat.pow_add]; congr 1; omega
  have hm : x % 2 ^ n < 2 ^ n := Nat.mod_lt _ (Nat.two_pow_pos _)
  have e1 : (x : Int) * 2 ^ (32 - n) % 4294967296 = ((x % 2 ^ n : Nat) : Int) * 2 ^ (32 - n) := by
    have : x * 2 ^ (32 - n) % 2 ^ 32 = x % 2 ^ n * 2 ^ (32 - n) := by rw [hpN, Nat.mul_mod_mul_right]
    have h2 : ((x * 2 ^ (32 - n) % 2 ^ 32 : Nat) : Int) = ((x % 2 ^ n * 2 ^ (32 - n) : Nat) : Int) := by rw [this]
    simpa using h2
  rw [e1]
  generalize hmm : x % 2 ^ n = m at *
  have hpos : (0 : Int) < 2 ^ (32 - n) := Int.pow_pos (by decide)
  generalize hU : (2 : Int) ^ (32 - n) = U at *
  have hmN : m < 2 ^ n := hm
  have hNc : ((2 ^ n : Nat) : Int) = (2 : Int) ^ n := by simp
  by_cases h0 : n = 0
  · subst h0
    have : m = 0 := by simpa using hm
    subst this
    simp
  have hcast : ((2 ^ (n - 1) : Nat) : Int) = (2 : Int) ^ (n - 1) := by simp
  have hn1 : 2 ^ n = 2 * 2 ^ (n - 1) := by rw [← Nat.pow_succ']; congr 1; omega
  have hn1I : (2 : Int) ^ n = 2 * 2 ^ (n - 1) := by rw [← Int.pow_succ']; congr 1; omega
  have hprod : (2 : Int) ^ (n - 1) * U = 2147483648 := by
    rw [hn1I] at hp
    rw [Int.mul_assoc] at hp
    omega
  by_cases hlt : 2 * m < 2 ^ n
  · rw [if_pos (Or.inl hlt)]
    have hb : (m : Int) * U < 2147483648 := by
      rw [← hprod]
      exact Int.mul_lt_mul_of_pos_right (by rw [← hcast]; omega) hpos
    have hb0 : 0 ≤ (m : Int) * U := Int.mul_nonneg (by omega) (by omega)
    have : ((m : Int) * U + 2147483648) % 4294967296 - 2147483648 = m * U := by omega
    rw [this, Int.mul_ediv_cancel _ (by omega)]
  · rw [if_neg (by omega)]
    have hb : 2147483648 ≤ (m : Int) * U := by
      rw [← hprod]
      exact Int.mul_le_mul_of_nonneg_right (by rw [← hcast]; omega) (by omega)
    have hb1 : (m : Int) * U < 4294967296 := by
      have : (4294967296 : Int) = 2 ^ n * U := by rw [← hp]; rfl
      rw [this]
      exact Int.mul_lt_mul_of_pos_right (by rw [← hNc]; omega) hpos
    have : ((m : Int) * U + 2147483648) % 4294967296 - 2147483648 = (m - 2 ^ n) * U := by
      rw [Int.sub_mul, ← hp]; omega
    rw [this, Int.mul_ediv_cancel _ (by omega)]

/-- the sum of the lower bits, less the sign's -/
theorem sgn_sum (x k : Nat) (hk : 1 ≤ k) : (cutN x 0 (k - 1) : Int) - bitN x (k - 1) * 2 ^ (k - 1) = sgnI x k := by
  have hs := cut_step x 0 (k - 1)
  simp only [Nat.zero_add] at hs
  rw [show k - 1 + 1 = k from by omega] at hs
  have hl := cut_lt x 0 (k - 1)
  have hb := bit_lt x (k - 1)
  have hc : cutN x 0 k = x % 2 ^ k := by simp [cutN]
  have hp : 2 ^ k = 2 * 2 ^ (k - 1) := by rw [← Nat.pow_succ']; congr 1; omega
  have hcast : ((2 ^ (k - 1) : Nat) : Int) = (2 : Int) ^ (k - 1) := by simp
  have hcast2 : ((2 ^ k : Nat) : Int) = (2 : Int) ^ k := by simp
  unfold sgnI
  rw [← hc, ← hs, ← hcast, ← hcast2, hp]
  have : bitN x (k - 1) = 0 ∨ bitN x (k - 1) = 1 := by omega
  rcases this with h | h
  · rw [h, if_pos (Or.inl (by omega))]; simp
  · rw [h, if_neg (by omega)]
    simp only [Nat.one_mul, Int.natCast_add, Int.natCast_mul]
    omega

theorem bitN_test (x i : Nat) : bitN x i = (x.testBit i).toNat := (Nat.toNat_testBit x i).symm
theorem bit_xor (r b i : Nat) : bitN (r ^^^ b) i = if bitN r i = bitN b i then 0 else 1 := by
  rw [bitN_test, bitN_test, bitN_test, Nat.testBit_xor]
  cases r.testBit i <;> cases b.testBit i <;> rfl
theorem cut_all (x : Nat) (hx : x < 4294967296) : cutN x 0 32 = x := by unfold cutN; omega
theorem xor_lt (a b : Nat) (ha : a < 4294967296) (hb : b < 4294967296) : a ^^^ b < 4294967296 := Nat.xor_lt_two_pow (n := 32) ha hb
theorem rot_lt (a : Nat) (ha : a < 4294967296) : rotN a < 4294967296 := by unfold rotN; omega
theorem rot_or (a : Nat) (ha : a < 4294967296) : (a * 32 % 4294967296) ||| (a / 134217728) = rotN a := by
  unfold rotN
  exact nat_join 5 _ _ (by omega) (by omega)
theorem mix_lt (a b : Nat) : mixN a b < 4294967296 := Nat.mod_lt _ (by decide)
theorem mul_back (p : Nat) (hp : p < 4294967296) : p * 2654435761 % 4294967296 * 244002641 % 4294967296 = p := by
  rw [Nat.mod_mul_mod, Nat.mul_assoc, show 2654435761 * 244002641 = 1 + 4294967296 * 150801925 from rfl, Nat.mul_add, Nat.mul_one, Nat.mul_left_comm, Nat.add_mul_mod_self_left, Nat.mod_eq_of_lt hp]
theorem mul_inj (p q : Nat) (hp : p < 4294967296) (hq : q < 4294967296) (h : p * 2654435761 % 4294967296 = q * 2654435761 % 4294967296) : p = q := by
  rw [← mul_back p hp, h, mul_back q hq]
theorem rot_inj (a b : Nat) (ha : a < 4294967296) (hb : b < 4294967296) (h : rotN a = rotN b) : a = b := by
  have e : ∀ x : Nat, x * 32 % 4294967296 = x % 134217728 * 32 := fun x => Nat.mul_mod_mul_right 32 x 134217728
  unfold rotN at h
  rw [e, e] at h
  omega
theorem xor_inj (a b c : Nat) (h : a ^^^ c = b ^^^ c) : a = b := by
  have : (a ^^^ c) ^^^ c = (b ^^^ c) ^^^ c := by rw [h]
  simpa [Nat.xor_assoc] using this
theorem mix_left (a b c : Nat) (ha : a < 4294967296) (hb : b < 4294967296) (hc : c < 4294967296) : mixN a c = mixN b c ↔ a = b := by
  constructor
  · intro h
    have h1 := mul_inj _ _ (xor_lt _ _ (rot_lt a ha) hc) (xor_lt _ _ (rot_lt b hb) hc) h
    exact rot_inj a b ha hb (xor_inj _ _ _ h1)
  · intro h; rw [h]
theorem mix_right (a b c : Nat) (ha : a < 4294967296) (hb : b < 4294967296) (hc : c < 4294967296) : mixN c a = mixN c b ↔ a = b := by
  constructor
  · intro h
    have h1 := mul_inj _ _ (xor_lt _ _ (rot_lt c hc) ha) (xor_lt _ _ (rot_lt c hc) hb) h
    rw [Nat.xor_comm, Nat.xor_comm (rotN c)] at h1
    exact xor_inj _ _ _ h1
  · intro h; rw [h]

/-- the height: the first place from below that has a bit, 8 at most -/
theorem ctz_bits (x : Nat) (i : Nat) (hx : x < 4294967296) (hi : i < Lib.ctz 32 x) : bitN x i = 0 := by
  by_cases h0 : x = 0
  · subst h0; simp [bitN]
  · obtain ⟨m, hm, hk⟩ := Lib.ctzFrom_spec 32 x (by omega) hx
    have e : Lib.ctz 32 x = Lib.ctzFrom 32 x := by simp [Lib.ctz, h0]
    rw [e] at hi
    obtain ⟨d, hd⟩ : ∃ d, Lib.ctzFrom 32 x = i + (d + 1) := ⟨Lib.ctzFrom 32 x - i - 1, by omega⟩
    rw [hd, Nat.pow_add, Nat.mul_assoc] at hm
    unfold bitN
    rw [hm, Nat.mul_div_cancel_left _ (Nat.two_pow_pos _), Nat.pow_succ]
    rw [show 2 ^ d * 2 * (2 * m + 1) = 2 * (2 ^ d * (2 * m + 1)) from by rw [Nat.mul_comm (2 ^ d) 2, Nat.mul_assoc]]
    exact Nat.mul_mod_right _ _
theorem ctz_bit (x : Nat) (hx : x < 4294967296) (h0 : x ≠ 0) : bitN x (Lib.ctz 32 x) = 1 := by
  obtain ⟨m, hm, hk⟩ := Lib.ctzFrom_spec 32 x (by omega) hx
  have e : Lib.ctz 32 x = Lib.ctzFrom 32 x := by simp [Lib.ctz, h0]
  rw [e]
  unfold bitN
  generalize Lib.ctzFrom 32 x = c at *
  rw [hm, Nat.mul_div_cancel_left _ (Nat.two_pow_pos _)]
  omega
theorem height_go (x n : Nat) (hx : x < 4294967296) (h1 : 1 ≤ n) (hn : n ≤ heightN x) (h8 : n < 8) (hb : bitN x (n - 1) = 0) : n + 1 ≤ heightN x := by
  unfold heightN at *
  by_cases h0 : x = 0
  · have : Lib.ctz 32 x = 32 := by simp [Lib.ctz, h0]
    omega
  · have := ctz_bit x hx h0
    by_cases he : n - 1 = Lib.ctz 32 x
    · rw [he] at hb; omega
    · omega
theorem height_stop (x n : Nat) (hx : x < 4294967296) (h1 : 1 ≤ n) (hn : n ≤ heightN x) (hs : ¬ (n < 8 ∧ bitN x (n - 1) = 0)) : n = heightN x := by
  unfold heightN at *
  by_cases h8 : n < 8
  · by_cases hlt : n - 1 < Lib.ctz 32 x
    · exact absurd ⟨h8, ctz_bits x _ hx hlt⟩ hs
    · omega
  · omega

theorem parts (x n : Nat) (hx : x < 4294967296) : cutN x 0 n + cutN x n 32 * 2 ^ n = x := by
  have h : cutN x n 32 = x / 2 ^ n := by
    unfold cutN
    exact Nat.mod_eq_of_lt (Nat.lt_of_le_of_lt (Nat.div_le_self _ _) hx)
  rw [h]
  simp only [cutN, Nat.pow_zero, Nat.div_one]
  rw [Nat.mul_comm]; exact Nat.mod_add_div x (2 ^ n)
theorem top_bit (x n : Nat) (hn : 1 ≤ n) : cutN x (n - 1) 1 = cutN x 0 n / 2 ^ (n - 1) := by
  unfold cutN
  have hp : 2 ^ n = 2 ^ (n - 1) * 2 := by rw [← Nat.pow_succ]; congr 1; omega
  rw [hp, Nat.pow_zero, Nat.div_one, Nat.mod_mul_right_div_self, Nat.pow_one]
theorem sgn_range (x n : Nat) (hn : 1 ≤ n) : -(2 ^ (n - 1) : Int) ≤ sgnI x n ∧ sgnI x n < 2 ^ (n - 1) := by
  have hm : x % 2 ^ n < 2 ^ n := Nat.mod_lt _ (Nat.two_pow_pos _)
  have hp : 2 ^ n = 2 * 2 ^ (n - 1) := by rw [← Nat.pow_succ']; congr 1; omega
  have hcast : ((2 ^ (n - 1) : Nat) : Int) = (2 : Int) ^ (n - 1) := by simp
  have hcast2 : ((2 ^ n : Nat) : Int) = (2 : Int) ^ n := by simp
  unfold sgnI
  rw [← hcast, ← hcast2]
  split <;> omega
theorem sgn_up (x n : Nat) (hn : n ≤ 32) : sgnI x n % 4294967296 * 2 ^ (32 - n) % 4294967296 = (cutN x 0 n : Int) * 2 ^ (32 - n) % 4294967296 := by
  have hp : (4294967296 : Int) = 2 ^ n * 2 ^ (32 - n) := by rw [← Int.pow_add, show n + (32 - n) = 32 from by omega]; rfl
  have hc : cutN x 0 n = x % 2 ^ n := by simp [cutN]
  rw [hc]
  have hmm : ∀ a U : Int, a % 4294967296 * U % 4294967296 = a * U % 4294967296 := fun a U => by rw [Int.mul_emod, Int.emod_emod, ← Int.mul_emod]
  rw [hmm]
  unfold sgnI
  split
  · rfl
  · rw [Int.sub_mul, ← hp]; omega
theorem sgn_more (x n m : Nat) (hn : 1 ≤ n) (hm : n ≤ m) (h32 : m ≤ 32) : sgnI (sgnI x n % 4294967296).toNat m = sgnI x n := by
  have hr := sgn_range x n hn
  generalize sgnI x n = s at *
  have h1 : 2 ^ (n - 1) ≤ 2 ^ (m - 1) := Nat.pow_le_pow_right (by decide) (by omega)
  have hp : 2 ^ m = 2 * 2 ^ (m - 1) := by rw [← Nat.pow_succ']; congr 1; omega
  have hM : 4294967296 = 2 ^ m * 2 ^ (32 - m) := by rw [← Nat.pow_add, show m + (32 - m) = 32 from by omega]
  have hm32 : 2 ^ m ≤ 2 ^ 32 := Nat.pow_le_pow_right (by decide) h32
  have hcast : ((2 ^ (n - 1) : Nat) : Int) = (2 : Int) ^ (n - 1) := by simp
  have hcast2 : ((2 ^ m : Nat) : Int) = (2 : Int) ^ m := by simp
  rw [← hcast] at hr
  by_cases h0 : 0 ≤ s
  · have e : (s % 4294967296).toNat = s.toNat := by omega
    rw [e]
    have e2 : s.toNat % 2 ^ m = s.toNat := Nat.mod_eq_of_lt (by omega)
    unfold sgnI
    rw [e2, if_pos (Or.inl (by omega))]
    omega
  · obtain ⟨d, hd⟩ : ∃ d : Nat, s = -(d : Int) := ⟨(-s).toNat, by omega⟩
    have e : (s % 4294967296).toNat = (2 ^ m - d) + 2 ^ m * (2 ^ (32 - m) - 1) := by
      have h2 : 1 ≤ 2 ^ (32 - m) := Nat.one_le_two_pow
      rw [Nat.mul_sub, ← hM]
      omega
    have e2 : (s % 4294967296).toNat % 2 ^ m = 2 ^ m - d := by
      rw [e, Nat.add_mul_mod_self_left, Nat.mod_eq_of_lt (by omega)]
    unfold sgnI
    rw [e2, ← hcast2, if_neg (by omega)]
    omega
end Go.Proofs.YtcgidaobeflblaaDoor.Plain
