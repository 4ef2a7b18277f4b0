/- Stage 1: the walks of the five laws, over their callees' contracts. -/
import Derived.Test.YtcgidaobeflblaaDoorAlive
namespace Go.Proofs.YtcgidaobeflblaaDoor
open Go.RowKit Go.Proofs.YtcgidaobeflblaaDoor.Plain

/-- the block that 'alive' leaves behind -/
abbrev two34 : Obj := .cells #[.int .u32 3, .int .u32 4] 25

set_option maxHeartbeats 1000000 in
theorem mixes_walk (a b x : Int) (w : World) (hT : Tab w) (ha : 0 ≤ a ∧ a ≤ 4294967295) (hb : 0 ≤ b ∧ b ≤ 4294967295) (hx : 0 ≤ x ∧ x ≤ 18446744073709551615) :
    Calls Tryd.prog 4 #[.int .u32 a, .int .u32 b, .int .u64 x] w fun e w' => e = .returned (.bool true) ∧ w.alloc two34 = w' := by
  have HT := Lib.hid hT; clear hT
  go_enter Tryd.func4, Tryd.ntmps4
  go_wp2_with (go_at_call 8; refine (alive_any _ HT.out).mono ?_; rintro e w' ⟨rfl, rfl⟩)
  go_wp2_with (first | (go_at_call 19; refine (Halves_any _ _ hx).mono ?_; rintro e w' ⟨rfl, rfl⟩) | (go_at_call 20; refine (rHalves_any _ _ hx).mono ?_; rintro e w' ⟨rfl, rfl⟩) | (go_at_call 21; refine (Mix_any _ _ _ ha hb).mono ?_; rintro e w' ⟨rfl, rfl⟩) | (go_at_call 22; refine (rMix_any _ _ _ ha hb).mono ?_; rintro e w' ⟨rfl, rfl⟩) | (go_at_call 23; refine (Whole_any _ _ _ ha hb).mono ?_; rintro e w' ⟨rfl, rfl⟩) | (go_at_call 24; refine (rWhole_any _ _ _ ha hb).mono ?_; rintro e w' ⟨rfl, rfl⟩))
  go_ret
  exact ⟨rfl, rfl⟩

set_option maxHeartbeats 1000000 in
theorem back_walk (x a b : Int) (w : World) (hT : Tab w) (hx : 0 ≤ x ∧ x ≤ 18446744073709551615) (ha : 0 ≤ a ∧ a ≤ 4294967295) (hb : 0 ≤ b ∧ b ≤ 4294967295) :
    Calls Tryd.prog 5 #[.int .u64 x, .int .u32 a, .int .u32 b] w fun e w' => e = .returned (.bool true) ∧ w.alloc two34 = w' := by
  have HT := Lib.hid hT; clear hT
  have c1 : ∀ w, Calls Tryd.prog 19 #[.int .u64 (a * 4294967296 + b)] w fun e w' => e = .returned (.tuple #[.int .u32 a, .int .u32 b]) ∧ w = w' := by
    intro w
    have c := Halves_any (a * 4294967296 + b) w (by omega)
    rwa [show (a * 4294967296 + b) / 4294967296 = a from by omega, show (a * 4294967296 + b) % 4294967296 = b from by omega] at c
  have c2 : ∀ w, Calls Tryd.prog 23 #[.int .u32 (x / 4294967296), .int .u32 (x % 4294967296)] w fun e w' => e = .returned (.int .u64 x) ∧ w = w' := by
    intro w
    have c := Whole_any (x / 4294967296) (x % 4294967296) w (by omega) (by omega)
    rwa [show x / 4294967296 * 4294967296 + x % 4294967296 = x from by omega] at c
  have H1 := Lib.hid c1; have H2 := Lib.hid c2; clear c1 c2
  go_enter Tryd.func5, Tryd.ntmps5
  go_wp2_with (go_at_call 8; refine (alive_any _ HT.out).mono ?_; rintro e w' ⟨rfl, rfl⟩)
  refine (Halves_any _ _ hx).mono ?_; rintro e w' ⟨rfl, rfl⟩
  go_wp2_with fail
  refine (Whole_any _ _ _ ha hb).mono ?_; rintro e w' ⟨rfl, rfl⟩
  go_wp2_with fail
  refine (H1.out _).mono ?_; rintro e w' ⟨rfl, rfl⟩
  go_wp2_with fail
  refine (H2.out _).mono ?_; rintro e w' ⟨rfl, rfl⟩
  go_wp2
  go_ret
  exact ⟨rfl, rfl⟩

set_option maxHeartbeats 1000000 in
theorem mixed_walk (a b c : Int) (w : World) (hT : Tab w) (ha : 0 ≤ a ∧ a ≤ 4294967295) (hb : 0 ≤ b ∧ b ≤ 4294967295) (hc : 0 ≤ c ∧ c ≤ 4294967295) :
    Calls Tryd.prog 7 #[.int .u32 a, .int .u32 b, .int .u32 c] w fun e w' => e = .returned (.bool true) ∧ w.alloc two34 = w' := by
  have HT := Lib.hid hT; clear hT
  by_cases hab : a = b
  · subst hab
    go_enter Tryd.func7, Tryd.ntmps7
    go_wp2_with (go_at_call 8; refine (alive_any _ HT.out).mono ?_; rintro e w' ⟨rfl, rfl⟩)
    refine (Mix_any _ _ _ ha hc).mono ?_; rintro e w' ⟨rfl, rfl⟩
    go_wp2_with fail
    refine (Mix_any _ _ _ ha hc).mono ?_; rintro e w' ⟨rfl, rfl⟩
    go_wp2_with fail
    refine (Mix_any _ _ _ hc ha).mono ?_; rintro e w' ⟨rfl, rfl⟩
    go_wp2_with fail
    refine (Mix_any _ _ _ hc ha).mono ?_; rintro e w' ⟨rfl, rfl⟩
    go_wp2
    go_ret
    exact ⟨rfl, rfl⟩
  · have l1 := mix_left a.toNat b.toNat c.toNat (by omega) (by omega) (by omega)
    have r1 := mix_right a.toNat b.toNat c.toNat (by omega) (by omega) (by omega)
    have e1 : ((mixN a.toNat c.toNat : Int) == mixN b.toNat c.toNat) = false := by
      rw [beq_eq_false_iff_ne]; omega
    have e2 : ((mixN c.toNat a.toNat : Int) == mixN c.toNat b.toNat) = false := by
      rw [beq_eq_false_iff_ne]; omega
    have e3 : (a == b) = false := by rw [beq_eq_false_iff_ne]; omega
    clear l1 r1 hab
    go_enter Tryd.func7, Tryd.ntmps7
    go_wp2_with (go_at_call 8; refine (alive_any _ HT.out).mono ?_; rintro e w' ⟨rfl, rfl⟩)
    refine (Mix_any _ _ _ ha hc).mono ?_; rintro e w' ⟨rfl, rfl⟩
    go_wp2_with fail
    refine (Mix_any _ _ _ hb hc).mono ?_; rintro e w' ⟨rfl, rfl⟩
    go_wp2_with fail
    refine (Mix_any _ _ _ hc ha).mono ?_; rintro e w' ⟨rfl, rfl⟩
    go_wp2_with fail
    refine (Mix_any _ _ _ hc hb).mono ?_; rintro e w' ⟨rfl, rfl⟩
    go_wp2
    go_ret
    exact ⟨rfl, rfl⟩

theorem bits_low (x : Int) (n : Nat) (w : World) (hx : 0 ≤ x ∧ x ≤ 4294967295) (h : n ≤ 32) :
    Calls Tryd.prog 13 #[.int .u32 x, .int .u8 0, .int .u8 n] w fun e w' => e = .returned (.int .u32 (cutN x.toNat 0 n)) ∧ w = w' := by
  have c := Bits_any x 0 n w hx (by omega) (by omega)
  simpa using c
theorem bits_high (x : Int) (n : Nat) (w : World) (hx : 0 ≤ x ∧ x ≤ 4294967295) (h : n ≤ 32) :
    Calls Tryd.prog 13 #[.int .u32 x, .int .u8 n, .int .u8 32] w fun e w' => e = .returned (.int .u32 (cutN x.toNat n 32)) ∧ w = w' := by
  have c := Bits_any x n 32 w hx (by omega) (by omega)
  simpa using c
theorem bits_top (x : Int) (n : Nat) (w : World) (hx : 0 ≤ x ∧ x ≤ 4294967295) (h1 : 1 ≤ n) (h : n ≤ 32) :
    Calls Tryd.prog 13 #[.int .u32 x, .int .u8 ((n : Int) - 1), .int .u8 1] w fun e w' => e = .returned (.int .u32 ((cutN x.toNat 0 n : Int) / 2 ^ (n - 1))) ∧ w = w' := by
  have c := Bits_any x ((n : Int) - 1) 1 w hx (by omega) (by omega)
  rw [show ((n : Int) - 1).toNat = n - 1 from by omega, show (1 : Int).toNat = 1 from rfl, top_bit _ _ h1, Int.natCast_ediv, Int.natCast_pow] at c
  exact c
theorem signed_at (x : Int) (n : Nat) (w : World) (hx : 0 ≤ x ∧ x ≤ 4294967295) (h : n ≤ 32) :
    Calls Tryd.prog 15 #[.int .u32 x, .int .u8 n] w fun e w' => e = .returned (.int .i32 (sgnI x.toNat n)) ∧ w = w' := by
  have c := Signed_any x n w hx (by omega)
  rw [Int.toNat_natCast, Nat.min_eq_left h] at c
  exact c

set_option maxHeartbeats 1000000 in
theorem parts_a (x p q : Int) (n m : Nat) (w : World) (hT : Tab w) (hx : 0 ≤ x ∧ x ≤ 4294967295) (hp : 0 ≤ p ∧ p ≤ 255) (hq : 0 ≤ q ∧ q ≤ 255)
    (hpn : p % 33 = (n : Int)) (hqm : q % 33 = (m : Int)) (h1 : 1 ≤ n) (h31 : n ≤ 31) (hm : n ≤ m) :
    Calls Tryd.prog 6 #[.int .u32 x, .agg #[.int .u8 p, .int .u8 q]] w fun e w' => e = .returned (.bool true) ∧ (w.alloc (.cells #[.int .u8 p, .int .u8 q] 23)).alloc two34 = w' := by
  have HT := Lib.hid hT; clear hT
  have hpa := parts x.toNat n (by omega)
  have hpI : ((cutN x.toNat n 32 * 2 ^ n : Nat) : Int) = (cutN x.toNat n 32 : Int) * 2 ^ n := by simp
  have hprod : (cutN x.toNat n 32 : Int) * 2 ^ n ≤ 4294967295 ∧ 0 ≤ (cutN x.toNat n 32 : Int) * 2 ^ n := by omega
  have hne : ((cutN x.toNat 0 n : Int) + (cutN x.toNat n 32 : Int) * 2 ^ n != x) = false := by rw [bne_eq_false_iff_eq]; omega
  have hlo : cutN x.toNat 0 n < 4294967296 := by omega
  have hhi : cutN x.toNat n 32 < 4294967296 := Nat.lt_of_lt_of_le (cut_lt _ _ 32) (by decide)
  have h32 : m ≤ 32 := by omega
  have hup := sgn_up x.toNat n (by omega)
  have hmo : ∀ w, Calls Tryd.prog 15 #[.int .u32 (sgnI x.toNat n % 4294967296), .int .u8 m] w fun e w' => e = .returned (.int .i32 (sgnI x.toNat n)) ∧ w = w' := by
    intro w
    have c := signed_at (sgnI x.toNat n % 4294967296) m w (by omega) (by omega)
    rwa [sgn_more _ _ _ h1 hm (by omega)] at c
  have HM := Lib.hid hmo; clear hmo
  clear hpa hpI
  go_enter Tryd.func6, Tryd.ntmps6
  go_wp2_with fail
  refine (alive_any _ (HT.out.alloc _)).mono ?_; rintro e w' ⟨rfl, rfl⟩
  go_wp2_with fail
  refine (bits_low _ _ _ hx (by omega)).mono ?_; rintro e w' ⟨rfl, rfl⟩
  go_wp2_with fail
  refine (bits_high _ _ _ hx (by omega)).mono ?_; rintro e w' ⟨rfl, rfl⟩
  go_wp2_with fail
  refine (bits_top _ _ _ hx h1 (by omega)).mono ?_; rintro e w' ⟨rfl, rfl⟩
  go_wp2_with fail
  refine (signed_at _ _ _ hx (by omega)).mono ?_; rintro e w' ⟨rfl, rfl⟩
  go_wp2_with fail
  refine (HM.out _).mono ?_; rintro e w' ⟨rfl, rfl⟩
  go_wp2_with fail
  go_ret
  exact ⟨rfl, rfl⟩

set_option maxHeartbeats 1000000 in
theorem parts_b (x p q : Int) (n m : Nat) (w : World) (hT : Tab w) (hx : 0 ≤ x ∧ x ≤ 4294967295) (hp : 0 ≤ p ∧ p ≤ 255) (hq : 0 ≤ q ∧ q ≤ 255)
    (hpn : p % 33 = (n : Int)) (hqm : q % 33 = (m : Int)) (h1 : 1 ≤ n) (h31 : n ≤ 31) (hm : m < n) :
    Calls Tryd.prog 6 #[.int .u32 x, .agg #[.int .u8 p, .int .u8 q]] w fun e w' => e = .returned (.bool true) ∧ (w.alloc (.cells #[.int .u8 p, .int .u8 q] 23)).alloc two34 = w' := by
  have HT := Lib.hid hT; clear hT
  have hpa := parts x.toNat n (by omega)
  have hpI : ((cutN x.toNat n 32 * 2 ^ n : Nat) : Int) = (cutN x.toNat n 32 : Int) * 2 ^ n := by simp
  have hprod : (cutN x.toNat n 32 : Int) * 2 ^ n ≤ 4294967295 ∧ 0 ≤ (cutN x.toNat n 32 : Int) * 2 ^ n := by omega
  have hne : ((cutN x.toNat 0 n : Int) + (cutN x.toNat n 32 : Int) * 2 ^ n != x) = false := by rw [bne_eq_false_iff_eq]; omega
  have hlo : cutN x.toNat 0 n < 4294967296 := by omega
  have hhi : cutN x.toNat n 32 < 4294967296 := Nat.lt_of_lt_of_le (cut_lt _ _ 32) (by decide)
  have h32 : m ≤ 32 := by omega
  have hup := sgn_up x.toNat n (by omega)
  clear hpa hpI
  go_enter Tryd.func6, Tryd.ntmps6
  go_wp2_with fail
  refine (alive_any _ (HT.out.alloc _)).mono ?_; rintro e w' ⟨rfl, rfl⟩
  go_wp2_with fail
  refine (bits_low _ _ _ hx (by omega)).mono ?_; rintro e w' ⟨rfl, rfl⟩
  go_wp2_with fail
  refine (bits_high _ _ _ hx (by omega)).mono ?_; rintro e w' ⟨rfl, rfl⟩
  go_wp2_with fail
  refine (bits_top _ _ _ hx h1 (by omega)).mono ?_; rintro e w' ⟨rfl, rfl⟩
  go_wp2_with fail
  refine (signed_at _ _ _ hx (by omega)).mono ?_; rintro e w' ⟨rfl, rfl⟩
  go_wp2_with fail
  go_ret
  exact ⟨rfl, rfl⟩

set_option maxHeartbeats 1000000 in
theorem parts_c (x p q : Int) (n m : Nat) (w : World) (hT : Tab w) (hx : 0 ≤ x ∧ x ≤ 4294967295) (hp : 0 ≤ p ∧ p ≤ 255) (hq : 0 ≤ q ∧ q ≤ 255)
    (hpn : p % 33 = (n : Int)) (hqm : q % 33 = (m : Int)) (h1 : 1 ≤ n) (h31 : 32 ≤ n) (hm : n ≤ m) :
    Calls Tryd.prog 6 #[.int .u32 x, .agg #[.int .u8 p, .int .u8 q]] w fun e w' => e = .returned (.bool true) ∧ (w.alloc (.cells #[.int .u8 p, .int .u8 q] 23)).alloc two34 = w' := by
  have HT := Lib.hid hT; clear hT
  have hpa := parts x.toNat n (by omega)
  have hpI : ((cutN x.toNat n 32 * 2 ^ n : Nat) : Int) = (cutN x.toNat n 32 : Int) * 2 ^ n := by simp
  have hprod : (cutN x.toNat n 32 : Int) * 2 ^ n ≤ 4294967295 ∧ 0 ≤ (cutN x.toNat n 32 : Int) * 2 ^ n := by omega
  have hne : ((cutN x.toNat 0 n : Int) + (cutN x.toNat n 32 : Int) * 2 ^ n != x) = false := by rw [bne_eq_false_iff_eq]; omega
  have hlo : cutN x.toNat 0 n < 4294967296 := by omega
  have hhi : cutN x.toNat n 32 < 4294967296 := Nat.lt_of_lt_of_le (cut_lt _ _ 32) (by decide)
  have h32 : m ≤ 32 := by omega
  have hup : sgnI x.toNat n % 4294967296 = (cutN x.toNat 0 n : Int) := by
    have h := sgn_up x.toNat n (by omega)
    rw [show 32 - n = 0 from by omega] at h
    omega
  have hmo : ∀ w, Calls Tryd.prog 15 #[.int .u32 (cutN x.toNat 0 n), .int .u8 m] w fun e w' => e = .returned (.int .i32 (sgnI x.toNat n)) ∧ w = w' := by
    intro w
    have c := signed_at (sgnI x.toNat n % 4294967296) m w (by omega) (by omega)
    rwa [sgn_more _ _ _ h1 hm (by omega), hup] at c
  have HM := Lib.hid hmo; clear hmo
  clear hpa hpI
  go_enter Tryd.func6, Tryd.ntmps6
  go_wp2_with fail
  refine (alive_any _ (HT.out.alloc _)).mono ?_; rintro e w' ⟨rfl, rfl⟩
  go_wp2_with fail
  refine (bits_low _ _ _ hx (by omega)).mono ?_; rintro e w' ⟨rfl, rfl⟩
  go_wp2_with fail
  refine (bits_high _ _ _ hx (by omega)).mono ?_; rintro e w' ⟨rfl, rfl⟩
  go_wp2_with fail
  refine (signed_at _ _ _ hx (by omega)).mono ?_; rintro e w' ⟨rfl, rfl⟩
  go_wp2_with fail
  refine (HM.out _).mono ?_; rintro e w' ⟨rfl, rfl⟩
  go_wp2_with fail
  go_ret
  exact ⟨rfl, rfl⟩

set_option maxHeartbeats 1000000 in
theorem parts_d (x p q : Int) (n m : Nat) (w : World) (hT : Tab w) (hx : 0 ≤ x ∧ x ≤ 4294967295) (hp : 0 ≤ p ∧ p ≤ 255) (hq : 0 ≤ q ∧ q ≤ 255)
    (hpn : p % 33 = (n : Int)) (hqm : q % 33 = (m : Int)) (h1 : 1 ≤ n) (h31 : 32 ≤ n) (hm : m < n) :
    Calls Tryd.prog 6 #[.int .u32 x, .agg #[.int .u8 p, .int .u8 q]] w fun e w' => e = .returned (.bool true) ∧ (w.alloc (.cells #[.int .u8 p, .int .u8 q] 23)).alloc two34 = w' := by
  have HT := Lib.hid hT; clear hT
  have hpa := parts x.toNat n (by omega)
  have hpI : ((cutN x.toNat n 32 * 2 ^ n : Nat) : Int) = (cutN x.toNat n 32 : Int) * 2 ^ n := by simp
  have hprod : (cutN x.toNat n 32 : Int) * 2 ^ n ≤ 4294967295 ∧ 0 ≤ (cutN x.toNat n 32 : Int) * 2 ^ n := by omega
  have hne : ((cutN x.toNat 0 n : Int) + (cutN x.toNat n 32 : Int) * 2 ^ n != x) = false := by rw [bne_eq_false_iff_eq]; omega
  have hlo : cutN x.toNat 0 n < 4294967296 := by omega
  have hhi : cutN x.toNat n 32 < 4294967296 := Nat.lt_of_lt_of_le (cut_lt _ _ 32) (by decide)
  have h32 : m ≤ 32 := by omega
  have hup : sgnI x.toNat n % 4294967296 = (cutN x.toNat 0 n : Int) := by
    have h := sgn_up x.toNat n (by omega)
    rw [show 32 - n = 0 from by omega] at h
    omega
  clear hpa hpI
  go_enter Tryd.func6, Tryd.ntmps6
  go_wp2_with fail
  refine (alive_any _ (HT.out.alloc _)).mono ?_; rintro e w' ⟨rfl, rfl⟩
  go_wp2_with fail
  refine (bits_low _ _ _ hx (by omega)).mono ?_; rintro e w' ⟨rfl, rfl⟩
  go_wp2_with fail
  refine (bits_high _ _ _ hx (by omega)).mono ?_; rintro e w' ⟨rfl, rfl⟩
  go_wp2_with fail
  refine (signed_at _ _ _ hx (by omega)).mono ?_; rintro e w' ⟨rfl, rfl⟩
  go_wp2_with fail
  go_ret
  exact ⟨rfl, rfl⟩

set_option maxHeartbeats 1000000 in
theorem parts_e (x p q : Int) (w : World) (hT : Tab w) (hx : 0 ≤ x ∧ x ≤ 4294967295) (hp : 0 ≤ p ∧ p ≤ 255) (hq : 0 ≤ q ∧ q ≤ 255)
    (hpn : p % 33 = 0) :
    Calls Tryd.prog 6 #[.int .u32 x, .agg #[.int .u8 p, .int .u8 q]] w fun e w' => e = .returned (.bool true) ∧ (w.alloc (.cells #[.int .u8 p, .int .u8 q] 23)).alloc two34 = w' := by
  have HT := Lib.hid hT; clear hT
  have hlo : ∀ w, Calls Tryd.prog 13 #[.int .u32 x, .int .u8 0, .int .u8 0] w fun e w' => e = .returned (.int .u32 0) ∧ w = w' := by
    intro w
    have c := bits_low x 0 w hx (by omega)
    rwa [cut_zero] at c
  have hhi : ∀ w, Calls Tryd.prog 13 #[.int .u32 x, .int .u8 0, .int .u8 32] w fun e w' => e = .returned (.int .u32 x) ∧ w = w' := by
    intro w
    have c := bits_high x 0 w hx (by omega)
    rwa [cut_all _ (by omega), Int.toNat_of_nonneg hx.1] at c
  have hs : ∀ w, Calls Tryd.prog 15 #[.int .u32 x, .int .u8 0] w fun e w' => e = .returned (.int .i32 0) ∧ w = w' := by
    intro w
    have c := signed_at x 0 w hx (by omega)
    rwa [show sgnI x.toNat 0 = 0 from by simp [sgnI, Nat.mod_one]] at c
  have H1 := Lib.hid hlo; have H2 := Lib.hid hhi; have H3 := Lib.hid hs
  clear hlo hhi hs
  go_enter Tryd.func6, Tryd.ntmps6
  go_wp2_with fail
  refine (alive_any _ (HT.out.alloc _)).mono ?_; rintro e w' ⟨rfl, rfl⟩
  go_wp2_with fail
  refine (H1.out _).mono ?_; rintro e w' ⟨rfl, rfl⟩
  go_wp2_with fail
  refine (H2.out _).mono ?_; rintro e w' ⟨rfl, rfl⟩
  go_wp2_with fail
  refine (H3.out _).mono ?_; rintro e w' ⟨rfl, rfl⟩
  go_wp2_with fail
  go_ret
  exact ⟨rfl, rfl⟩

theorem parts_walk (x p q : Int) (w : World) (hT : Tab w) (hx : 0 ≤ x ∧ x ≤ 4294967295) (hp : 0 ≤ p ∧ p ≤ 255) (hq : 0 ≤ q ∧ q ≤ 255) :
    Calls Tryd.prog 6 #[.int .u32 x, .agg #[.int .u8 p, .int .u8 q]] w fun e w' => e = .returned (.bool true) ∧ (w.alloc (.cells #[.int .u8 p, .int .u8 q] 23)).alloc two34 = w' := by
  obtain ⟨n, hn⟩ := nat_of (show 0 ≤ p % 33 by omega)
  obtain ⟨m, hm⟩ := nat_of (show 0 ≤ q % 33 by omega)
  by_cases h0 : n = 0
  · exact parts_e x p q w hT hx hp hq (by omega)
  by_cases h31 : n ≤ 31
  · by_cases hnm : n ≤ m
    · exact parts_a x p q n m w hT hx hp hq hn hm (by omega) h31 hnm
    · exact parts_b x p q n m w hT hx hp hq hn hm (by omega) h31 (by omega)
  · by_cases hnm : n ≤ m
    · exact parts_c x p q n m w hT hx hp hq hn hm (by omega) (by omega) hnm
    · exact parts_d x p q n m w hT hx hp hq hn hm (by omega) (by omega) (by omega)
end Go.Proofs.YtcgidaobeflblaaDoor
