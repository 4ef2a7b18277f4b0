/- Stage 1: the document's own answers that go round: height, bits, a number with a sign, two words mixed. -/
import Derived.Test.YtcgidaobeflblaaDoorBase
namespace Go.Proofs.YtcgidaobeflblaaDoor
open Go.RowKit Go.Proofs.YtcgidaobeflblaaDoor.Plain

set_option maxHeartbeats 400000 in
theorem rHeight_any (x : Int) (w : World) (hx : 0 ≤ x ∧ x ≤ 4294967295) :
    Calls Tryd.prog 12 #[.int .u32 x] w fun e w' => e = .returned (.int .i64 (heightN x.toNat)) ∧ w = w' := by
  have h1 : 1 ≤ heightN x.toNat := by unfold heightN; omega
  have h8 : heightN x.toNat ≤ 8 := by unfold heightN; omega
  go_enter Tryd.func12, Tryd.ntmps12
  go_wp2
  go_loop [3] (fun n => ∃ k : Nat, 1 ≤ k ∧ k ≤ heightN x.toNat ∧ n = .int .i64 k) (fun n => 8 - (intOf n).toNat)
  case atStart => exact ⟨1, by omega, by omega, rfl⟩
  case round =>
    obtain ⟨k, hk1, hk, rfl⟩ := hrel
    have hkk : (k : Int) - 1 = ((k - 1 : Nat) : Int) := by omega
    by_cases hlt : k < 8
    · have hgo := height_go x.toNat k (by omega) hk1 hk hlt
      have hst := height_stop x.toNat k (by omega) hk1 hk
      by_cases hb : bitN x.toNat (k - 1) = 0
      · have hk2 := hgo hb
        have hbb : ((bitN x.toNat (k - 1) : Int) == 0) = true := by simp [hb]
        clear hgo hst hb hkk
        go_wp2_with (go_at_call 26; refine (bit_any _ _ _ hx (by omega)).mono ?_; rw [show ((k : Int) - 1).toNat = k - 1 from by omega]; rintro e w' ⟨rfl, rfl⟩)
        go_round
        case rel => exact ⟨k + 1, by omega, hk2, by go_num⟩
        case measure => simp [intOf]; omega
      · have hk2 := hst (fun h => hb h.2)
        have hbb : ((bitN x.toNat (k - 1) : Int) == 0) = false := by simp; omega
        clear hgo hst hb hkk
        have HK := Lib.hid hk2; clear hk2
        go_wp2_with (go_at_call 26; refine (bit_any _ _ _ hx (by omega)).mono ?_; rw [show ((k : Int) - 1).toNat = k - 1 from by omega]; rintro e w' ⟨rfl, rfl⟩)
        go_ret
        exact ⟨ret_int (by rw [← HK.out]), rfl⟩
    · have hk2 := height_stop x.toNat k (by omega) hk1 hk (fun h => hlt h.1)
      have HK := Lib.hid hk2; clear hk2 hkk
      go_wp2
      go_ret
      exact ⟨ret_int (by rw [← HK.out]), rfl⟩

theorem val_u32 {c b k c' : Nat} (h : c + b * 2 ^ k = c') (hl : c' < 4294967296) : Value.int .u32 (((c : Int) + (b : Int) * 2 ^ k % 4294967296) % 4294967296) = .int .u32 c' := by
  have e : ((b * 2 ^ k : Nat) : Int) = (b : Int) * 2 ^ k := by simp
  rw [← e]; congr 1; omega

set_option maxHeartbeats 400000 in
theorem rBits_any (x a n : Int) (w : World) (hx : 0 ≤ x ∧ x ≤ 4294967295) (ha : 0 ≤ a ∧ a ≤ 255) (hn : 0 ≤ n ∧ n ≤ 255) :
    Calls Tryd.prog 14 #[.int .u32 x, .int .u8 a, .int .u8 n] w fun e w' => e = .returned (.int .u32 (cutN x.toNat a.toNat n.toNat)) ∧ w = w' := by
  have hm : cutN x.toNat a.toNat n.toNat = cutN x.toNat a.toNat (min n.toNat 32) := by
    by_cases h : n.toNat ≤ 32
    · rw [Nat.min_eq_left h]
    · rw [Nat.min_eq_right (by omega), ← cut_min _ _ _ (by omega), ← cut_min x.toNat a.toNat 32 (by omega), Nat.min_eq_right (show 32 ≤ n.toNat by omega)]; rfl
  rw [hm]; clear hm
  go_enter Tryd.func14, Tryd.ntmps14
  go_wp2
  go_loop [7, 8] (fun o i => ∃ k : Nat, k ≤ min n.toNat 32 ∧ i = .int .i64 k ∧ o = .int .u32 (cutN x.toNat a.toNat k)) (fun _ i => 32 - (intOf i).toNat)
  case atStart => exact ⟨0, by omega, rfl, by rw [cut_zero]; rfl⟩
  case round =>
    obtain ⟨k, hk, rfl, rfl⟩ := hrel
    by_cases hlt : k < min n.toNat 32
    · have hs := cut_step x.toNat a.toNat k
      have hc := cut_lt x.toNat a.toNat (k + 1)
      have hp : 2 ^ (k + 1) ≤ 2 ^ 32 := Nat.pow_le_pow_right (by decide) (by omega)
      have hb := bit_lt x.toNat (a.toNat + k)
      have h1 : (k : Int) < n := by omega
      have h2 : k < 32 := by omega
      have hle : bitN x.toNat (a.toNat + k) * 2 ^ k < 4294967296 := by omega
      have hle2 : cutN x.toNat a.toNat k + bitN x.toNat (a.toNat + k) * 2 ^ k < 4294967296 := by omega
      have HS := Lib.hid hs
      clear hs hc hp
      go_wp2_with (go_at_call 26; refine (bit_any _ _ _ hx (by omega)).mono ?_; rw [show (a + (k : Int)).toNat = a.toNat + k from by omega]; rintro e w' ⟨rfl, rfl⟩)
      go_round
      case rel => exact ⟨k + 1, by omega, by go_num, val_u32 HS.out (by have := HS.out; omega)⟩
      case measure => simp [intOf]; omega
    · have hK := Lib.hid (show k = min n.toNat 32 by omega)
      by_cases h1 : (k : Int) < n
      · have h2 : ¬ k < 32 := by omega
        go_wp2
        go_ret
        exact ⟨ret_int (by rw [← hK.out]), rfl⟩
      · go_wp2
        go_ret
        exact ⟨ret_int (by rw [← hK.out]), rfl⟩

set_option maxHeartbeats 400000 in
theorem rSigned_any (x n : Int) (w : World) (hx : 0 ≤ x ∧ x ≤ 4294967295) (hn : 0 ≤ n ∧ n ≤ 255) :
    Calls Tryd.prog 16 #[.int .u32 x, .int .u8 n] w fun e w' => e = .returned (.int .i32 (sgnI x.toNat (min n.toNat 32))) ∧ w = w' := by
  by_cases h0 : n = 0
  · subst h0
    have : sgnI x.toNat 0 = 0 := by simp [sgnI, Nat.mod_one]
    rw [show min (0 : Int).toNat 32 = 0 from rfl, this]
    clear this
    go_enter Tryd.func16, Tryd.ntmps16
    go_wp2
    go_ret
    exact ⟨rfl, rfl⟩
  · have hz : (n == 0) = false := by simp; omega
    obtain ⟨K, hK⟩ : ∃ K : Nat, K = min n.toNat 32 := ⟨_, rfl⟩
    rw [← hK]
    have HK := Lib.hid hK
    have hK1 : 1 ≤ K := by omega
    have hK2 : K ≤ 32 := by omega
    have hmin : (if 32 < n then (32 : Int) else n) = K := by split <;> omega
    clear hK
    go_enter Tryd.func16, Tryd.ntmps16
    go_wp2
    clear hmin hz
    go_loop [6, 7] (fun s i => ∃ k : Nat, k ≤ K - 1 ∧ i = .int .i64 k ∧ s = .int .i64 (cutN x.toNat 0 k)) (fun _ i => 32 - (intOf i).toNat)
    case atStart => exact ⟨0, by omega, rfl, by rw [cut_zero]; rfl⟩
    case round =>
      obtain ⟨k, hk, rfl, rfl⟩ := hrel
      have hkl : (k : Int) < 9223372036854775807 := by omega
      by_cases hlt : k < K - 1
      · have hs := cut_step x.toNat 0 k
        rw [Nat.zero_add] at hs
        have hc := cut_lt x.toNat 0 (k + 1)
        have hp : 2 ^ (k + 1) ≤ 2 ^ 32 := Nat.pow_le_pow_right (by decide) (by omega)
        have h1 : (k : Int) < (K : Int) - 1 := by omega
        have hb := bit_lt x.toNat k
        have hle : bitN x.toNat k * 2 ^ k < 4294967296 := by omega
        have hleI : (bitN x.toNat k : Int) * 2 ^ k < 4294967296 ∧ 0 ≤ (bitN x.toNat k : Int) * 2 ^ k := by
          have e : ((bitN x.toNat k * 2 ^ k : Nat) : Int) = (bitN x.toNat k : Int) * 2 ^ k := by simp
          omega
        have hle2 : cutN x.toNat 0 k < 4294967296 := by omega
        have HS := Lib.hid hs
        clear hs hc hp hle
        go_wp2_with (go_at_call 26; refine (bit_any _ _ _ hx (by omega)).mono ?_; rw [Int.toNat_natCast]; rintro e w' ⟨rfl, rfl⟩)
        go_round
        case rel => exact ⟨k + 1, by omega, by go_num, by rw [← HS.out]; simp⟩
        case measure => simp [intOf]; omega
      · have hk2 : k = K - 1 := by omega
        have hs := sgn_sum x.toNat K hK1
        rw [← hk2] at hs
        have hkk : (K : Int) - 1 = k := by omega
        have hb := bit_lt x.toNat k
        have hp : 2 ^ k ≤ 2 ^ 31 := Nat.pow_le_pow_right (by decide) (by omega)
        have hleI : (bitN x.toNat k : Int) * 2 ^ k ≤ 2147483648 ∧ 0 ≤ (bitN x.toNat k : Int) * 2 ^ k := by
          have hle : bitN x.toNat k * 2 ^ k ≤ 1 * 2 ^ 31 := Nat.mul_le_mul (by omega) hp
          have e : ((bitN x.toNat k * 2 ^ k : Nat) : Int) = (bitN x.toNat k : Int) * 2 ^ k := by simp
          omega
        have hc := cut_lt x.toNat 0 k
        have hle2 : cutN x.toNat 0 k < 2147483648 := by omega
        have HS := Lib.hid hs
        have HK2 := Lib.hid hk2
        clear hs hp hc hk2 hlt
        go_wp2_with (go_at_call 26; refine (bit_any _ _ _ hx (by omega)).mono ?_; rw [show (k : Int).toNat = k from rfl]; rintro e w' ⟨rfl, rfl⟩)
        go_ret
        exact ⟨ret_int HS.out, rfl⟩

set_option maxHeartbeats 400000 in
theorem rMix_any (a b : Int) (w : World) (ha : 0 ≤ a ∧ a ≤ 4294967295) (hb : 0 ≤ b ∧ b ≤ 4294967295) :
    Calls Tryd.prog 22 #[.int .u32 a, .int .u32 b] w fun e w' => e = .returned (.int .u32 (mixN a.toNat b.toNat)) ∧ w = w' := by
  have hr : a * 32 % 4294967296 + a / 134217728 = rotN a.toNat := by
    unfold rotN; omega
  have hrl := rot_lt a.toNat (by omega)
  have hxl := xor_lt _ b.toNat hrl (by omega)
  go_enter Tryd.func22, Tryd.ntmps22
  go_wp2
  clear hr
  obtain ⟨r, hr⟩ : ∃ r, r = rotN a.toNat := ⟨_, rfl⟩
  have HR := Lib.hid hr
  rw [← hr] at hrl hxl
  rw [← hr]
  clear hr
  have hmx : (r ^^^ b.toNat) * 2654435761 < 18446744073709551616 := by omega
  go_loop [6, 7] (fun s i => ∃ k : Nat, k ≤ 32 ∧ i = .int .i64 k ∧ s = .int .u64 (cutN (r ^^^ b.toNat) 0 k)) (fun _ i => 32 - (intOf i).toNat)
  case atStart => exact ⟨0, by omega, rfl, by rw [cut_zero]; rfl⟩
  case round =>
    obtain ⟨k, hk, rfl, rfl⟩ := hrel
    by_cases hlt : k < 32
    · have hs := cut_step (r ^^^ b.toNat) 0 k
      rw [Nat.zero_add, bit_xor] at hs
      have hp : 2 ^ k ≤ 2 ^ 31 := Nat.pow_le_pow_right (by decide) (by omega)
      have hc := cut_lt (r ^^^ b.toNat) 0 k
      have hpI : (2 : Int) ^ k ≤ 2147483648 ∧ 0 ≤ (2 : Int) ^ k := by
        have e : ((2 ^ k : Nat) : Int) = 2 ^ k := by simp
        omega
      have hle2 : cutN (r ^^^ b.toNat) 0 k < 2147483648 := by omega
      by_cases hd : bitN r k = bitN b.toNat k
      · rw [if_pos hd] at hs
        have HS := Lib.hid hs
        have ht : ((bitN r k : Int) != bitN b.toNat k) = false := by simp [hd]
        clear hs hp hc hd
        go_wp2_with (go_at_call 26; refine (bit_any _ _ _ (by omega) (by omega)).mono ?_; rw [Int.toNat_natCast]; rintro e w' ⟨rfl, rfl⟩)
        go_round
        case rel => exact ⟨k + 1, by omega, by go_num, by rw [← HS.out]; simp⟩
        case measure => simp [intOf]; omega
      · rw [if_neg hd] at hs
        have HS := Lib.hid hs
        have ht : ((bitN r k : Int) != bitN b.toNat k) = true := by simp; omega
        clear hs hp hc hd
        go_wp2_with (go_at_call 26; refine (bit_any _ _ _ (by omega) (by omega)).mono ?_; rw [Int.toNat_natCast]; rintro e w' ⟨rfl, rfl⟩)
        go_round
        case rel => exact ⟨k + 1, by omega, by go_num, by rw [← HS.out]; simp⟩
        case measure => simp [intOf]; omega
    · have HK := Lib.hid (show k = 32 by omega)
      have hx2 := Lib.hid (show cutN (r ^^^ b.toNat) 0 k = r ^^^ b.toNat by rw [HK.out]; exact cut_all _ hxl)
      have hle : cutN (r ^^^ b.toNat) 0 k < 4294967296 := by rw [hx2.out]; exact hxl
      go_wp2
      go_ret
      refine ⟨ret_int ?_, rfl⟩
      rw [hx2.out]
      unfold mixN
      rw [← HR.out]
      omega
end Go.Proofs.YtcgidaobeflblaaDoor
