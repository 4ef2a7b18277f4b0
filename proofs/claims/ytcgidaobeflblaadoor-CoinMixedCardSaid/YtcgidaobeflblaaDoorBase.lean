/- Base of stage 1: what each function of coin, and of the document's own answers, does, as plain functions on numbers. -/
import Derived.Test.YtcgidaobeflblaaDoorRows
import Derived.Test.YtcgidaobeflblaaDoorPlain
import Derived.WalkSpells
import Derived.WalkLawsBesides
import Derived.Lib.Hide
import Derived.BigQuiet
import Derived.Deep.QuietTactic
namespace Go.Proofs.YtcgidaobeflblaaDoor
open Go.RowKit Go.Proofs.YtcgidaobeflblaaDoor.Plain

theorem ret_int {k : IntKind} {a b : Int} (h : a = b) : Ending.returned (.int k a) = .returned (.int k b) := by rw [h]
theorem nat_of {x : Int} (h : 0 ≤ x) : ∃ n : Nat, x = n := Int.eq_ofNat_of_zero_le h

set_option maxHeartbeats 400000 in
theorem bit_any (x i : Int) (w : World) (hx : 0 ≤ x ∧ x ≤ 4294967295) (hi : 0 ≤ i ∧ i ≤ 9223372036854775807) :
    Calls Tryd.prog 26 #[.int .u32 x, .int .i64 i] w fun e w' => e = .returned (.int .u32 (bitN x.toNat i.toNat)) ∧ w = w' := by
  have h1 : ¬ i < 0 := by omega
  by_cases h2 : 31 < i
  · go_enter Tryd.func26, Tryd.ntmps26
    go_wp2
    go_ret
    refine ⟨ret_int ?_, rfl⟩
    rw [bit_high _ _ (by omega) (by omega)]; rfl
  · go_enter Tryd.func26, Tryd.ntmps26
    go_wp2
    go_ret
    refine ⟨ret_int ?_, rfl⟩
    obtain ⟨n, rfl⟩ := nat_of hx.1
    have hd : n / 2 ^ i.toNat ≤ n := Nat.div_le_self _ _
    have := and_one (n / 2 ^ i.toNat) (by omega)
    rw [Int.natCast_ediv] at this
    simpa [bitN] using this

set_option maxHeartbeats 400000 in
theorem Bits_any (x a n : Int) (w : World) (hx : 0 ≤ x ∧ x ≤ 4294967295) (ha : 0 ≤ a ∧ a ≤ 255) (hn : 0 ≤ n ∧ n ≤ 255) :
    Calls Tryd.prog 13 #[.int .u32 x, .int .u8 a, .int .u8 n] w fun e w' => e = .returned (.int .u32 (cutN x.toNat a.toNat n.toNat)) ∧ w = w' := by
  go_enter Tryd.func13, Tryd.ntmps13
  go_wp2
  go_ret
  refine ⟨ret_int ?_, rfl⟩
  obtain ⟨m, rfl⟩ := nat_of hx.1
  rw [← cut_min _ _ _ (by omega)]
  have hd : m / 2 ^ min a.toNat 32 ≤ m := Nat.div_le_self _ _
  have := and_mask (m / 2 ^ min a.toNat 32) (min n.toNat 32) (by omega) (by omega)
  rw [Int.natCast_ediv] at this
  simpa [cutN] using this

set_option maxHeartbeats 400000 in
theorem Signed_any (x n : Int) (w : World) (hx : 0 ≤ x ∧ x ≤ 4294967295) (hn : 0 ≤ n ∧ n ≤ 255) :
    Calls Tryd.prog 15 #[.int .u32 x, .int .u8 n] w fun e w' => e = .returned (.int .i32 (sgnI x.toNat (min n.toNat 32))) ∧ w = w' := by
  by_cases h : 32 < n
  · go_enter Tryd.func15, Tryd.ntmps15
    go_wp2
    go_ret
    refine ⟨ret_int ?_, rfl⟩
    obtain ⟨m, rfl⟩ := nat_of hx.1
    have := sgn_shift m 32 (by omega)
    rw [Nat.min_eq_right (by omega)]
    have e : (m : Int) % 4294967296 = m := by omega
    simp [e] at this
    simpa using this
  · go_enter Tryd.func15, Tryd.ntmps15
    go_wp2
    go_ret
    refine ⟨ret_int ?_, rfl⟩
    obtain ⟨m, rfl⟩ := nat_of hx.1
    obtain ⟨k, rfl⟩ := nat_of hn.1
    have := sgn_shift m k (by omega)
    rw [show ((32 : Int) - k).toNat = 32 - k from by omega]
    simpa using this

set_option maxHeartbeats 400000 in
theorem Rot_any (x : Int) (w : World) (hx : 0 ≤ x ∧ x ≤ 4294967295) :
    Calls Tryd.prog 27 #[.int .u32 x, .int .i64 5] w fun e w' => e = .returned (.int .u32 (rotN x.toNat)) ∧ w = w' := by
  have h5 : bits .and .u64 5 31 = 5 := by decide
  go_enter Tryd.func27, Tryd.ntmps27
  go_wp2
  go_ret
  refine ⟨ret_int ?_, rfl⟩
  clear h5
  obtain ⟨m, rfl⟩ := nat_of hx.1
  have h := u32_or_nat (m * 32 % 4294967296) (m / 134217728) (by omega) (by omega)
  rw [rot_or m (by omega)] at h
  simpa using h

set_option maxHeartbeats 400000 in
theorem Mix_any (a b : Int) (w : World) (ha : 0 ≤ a ∧ a ≤ 4294967295) (hb : 0 ≤ b ∧ b ≤ 4294967295) :
    Calls Tryd.prog 21 #[.int .u32 a, .int .u32 b] w fun e w' => e = .returned (.int .u32 (mixN a.toNat b.toNat)) ∧ w = w' := by
  go_enter Tryd.func21, Tryd.ntmps21
  go_wp2_with (go_at_call 27; refine (Rot_any _ _ ha).mono ?_; rintro e w' ⟨rfl, rfl⟩)
  go_ret
  refine ⟨ret_int ?_, rfl⟩
  obtain ⟨m, rfl⟩ := nat_of ha.1
  obtain ⟨n, rfl⟩ := nat_of hb.1
  simp only [Int.toNat_natCast]
  rw [u32_xor_nat _ _ (rot_lt m (by omega)) (by omega)]
  simp [mixN]

set_option maxHeartbeats 400000 in
theorem Whole_any (a b : Int) (w : World) (ha : 0 ≤ a ∧ a ≤ 4294967295) (hb : 0 ≤ b ∧ b ≤ 4294967295) :
    Calls Tryd.prog 23 #[.int .u32 a, .int .u32 b] w fun e w' => e = .returned (.int .u64 (a * 4294967296 + b)) ∧ w = w' := by
  go_enter Tryd.func23, Tryd.ntmps23
  go_wp2
  go_ret
  refine ⟨ret_int ?_, rfl⟩
  obtain ⟨m, rfl⟩ := nat_of ha.1
  obtain ⟨n, rfl⟩ := nat_of hb.1
  have h := u64_or_nat (m * 4294967296) n (by omega) (by omega)
  rw [nat_join 32 (m * 4294967296) n (by omega) (by omega)] at h
  simpa using h

set_option maxHeartbeats 400000 in
theorem rWhole_any (a b : Int) (w : World) (ha : 0 ≤ a ∧ a ≤ 4294967295) (hb : 0 ≤ b ∧ b ≤ 4294967295) :
    Calls Tryd.prog 24 #[.int .u32 a, .int .u32 b] w fun e w' => e = .returned (.int .u64 (a * 4294967296 + b)) ∧ w = w' := by
  go_enter Tryd.func24, Tryd.ntmps24
  go_wp2
  go_ret
  exact ⟨rfl, rfl⟩

set_option maxHeartbeats 400000 in
theorem Halves_any (x : Int) (w : World) (hx : 0 ≤ x ∧ x ≤ 18446744073709551615) :
    Calls Tryd.prog 19 #[.int .u64 x] w fun e w' => e = .returned (.tuple #[.int .u32 (x / 4294967296), .int .u32 (x % 4294967296)]) ∧ w = w' := by
  go_enter Tryd.func19, Tryd.ntmps19
  go_wp2
  go_ret2
  exact ⟨rfl, rfl⟩
set_option maxHeartbeats 400000 in
theorem rHalves_any (x : Int) (w : World) (hx : 0 ≤ x ∧ x ≤ 18446744073709551615) :
    Calls Tryd.prog 20 #[.int .u64 x] w fun e w' => e = .returned (.tuple #[.int .u32 (x / 4294967296), .int .u32 (x % 4294967296)]) ∧ w = w' := by
  go_enter Tryd.func20, Tryd.ntmps20
  go_wp2
  go_ret2
  exact ⟨rfl, rfl⟩

/-- the library's table of 32 bytes, in its variable -/
def Tab (w : World) : Prop := ∀ j, j < 32 → w.cell? ⟨0, j, none⟩ = some (.int .u8 (Lib.deBruijn32tab.getD j 0))

theorem Tab.alloc {w : World} (h : Tab w) (o : Obj) : Tab (w.alloc o) := by
  intro j hj
  rw [World.cell?_alloc_lt w o _ (World.block_lt_of_cell? _ _ (h j hj))]
  exact h j hj

set_option maxHeartbeats 400000 in
theorem tz_core (x k idx : Nat) (w : World) (hx0 : ((x : Int) == 0) = false)
    (key : bits BinOp.and IntKind.u32 (x : Int) (-(x : Int) % 4294967296) * 125613361 % 4294967296 / 134217728 = (idx : Int))
    (hi : idx < 32) (hk : k < 32) (hcell : w.cell? ⟨0, idx, none⟩ = some (.int .u8 k)) :
    Calls Tryd.prog 25 #[.int .u32 x] w fun e w' => e = .returned (.int .i64 k) ∧ w = w' := by
  go_enter Tryd.func25, Tryd.ntmps25
  go_wp2_with (simp only [key])
  go_ret
  exact ⟨rfl, rfl⟩
theorem tz_zero (w : World) : Calls Tryd.prog 25 #[.int .u32 0] w fun e w' => e = .returned (.int .i64 32) ∧ w = w' := by
  go_enter Tryd.func25, Tryd.ntmps25
  go_wp2
  go_ret
  exact ⟨rfl, rfl⟩
theorem tz_key (x a : Nat) (hx : x < 4294967296) (hx0 : x ≠ 0) (hlow : x &&& (4294967296 - x) = a) :
    bits BinOp.and IntKind.u32 (x : Int) (-(x : Int) % 4294967296) * 125613361 % 4294967296 / 134217728 = ((a * 125613361 % 4294967296 / 134217728 : Nat) : Int) := by
  have e1 : -(x : Int) % 4294967296 = ((4294967296 - x : Nat) : Int) := by omega
  rw [e1, u32_and_nat x _ hx (by omega), hlow]
  omega
theorem tz_any (x : Int) (w : World) (hx : 0 ≤ x ∧ x ≤ 4294967295) (hT : Tab w) :
    Calls Tryd.prog 25 #[.int .u32 x] w fun e w' => e = .returned (.int .i64 (Lib.ctz 32 x.toNat)) ∧ w = w' := by
  obtain ⟨x, rfl⟩ := nat_of hx.1
  by_cases hx0 : x = 0
  · subst hx0
    exact tz_zero w
  · obtain ⟨hlow, hk⟩ := Lib.lowest_bit 32 x hx0 (by omega)
    obtain ⟨hi, htab⟩ := Lib.deBruijn32_at _ hk
    have hcell := hT _ hi
    rw [htab] at hcell
    exact tz_core x _ _ w (by simp; omega) (tz_key x _ (by omega) hx0 hlow) hi hk hcell
set_option maxHeartbeats 400000 in
theorem Height_any (x : Int) (w : World) (hx : 0 ≤ x ∧ x ≤ 4294967295) (hT : Tab w) :
    Calls Tryd.prog 11 #[.int .u32 x] w fun e w' => e = .returned (.int .i64 (heightN x.toNat)) ∧ w = w' := by
  have T := tz_any x w hx hT; clear hT
  have hc : Lib.ctz 32 x.toNat ≤ 32 := by
    by_cases h0 : x.toNat = 0
    · simp [Lib.ctz, h0]
    · exact Nat.le_of_lt (Lib.lowest_bit 32 x.toNat h0 (by omega)).2
  have hh : heightN x.toNat = min (Lib.ctz 32 x.toNat + 1) 8 := rfl
  rw [hh]; clear hh
  generalize Lib.ctz 32 x.toNat = c at *
  have H := Lib.hid T; clear T
  by_cases h8 : c + 1 ≤ 8
  · go_enter Tryd.func11, Tryd.ntmps11
    go_wp2_with (go_at_call 25; refine (H.out).mono ?_; rintro e w' ⟨rfl, rfl⟩)
    go_ret
    exact ⟨ret_int (by omega), rfl⟩
  · go_enter Tryd.func11, Tryd.ntmps11
    go_wp2_with (go_at_call 25; refine (H.out).mono ?_; rintro e w' ⟨rfl, rfl⟩)
    go_ret
    exact ⟨ret_int (by omega), rfl⟩

/-- what a script of words gives at a place -/
def atI (zs : List Int) (len : Nat) (i : Int) : Int := if i < 0 ∨ len = 0 then 0 else zs.getD (i % len).toNat 0

set_option maxHeartbeats 400000 in
theorem At_neg (s : Value) (i : Int) (w : World) (hi : i < 0) :
    Calls Tryd.prog 9 #[s, .int .i64 i] w fun e w' => e = .returned (.int .u32 0) ∧ w = w' := by
  go_enter Tryd.func9, Tryd.ntmps9
  go_wp2
  go_ret
  exact ⟨rfl, rfl⟩
set_option maxHeartbeats 400000 in
theorem At_none (a : Option Addr) (cap : Nat) (i : Int) (w : World) (hi : 0 ≤ i ∧ i ≤ 9223372036854775807) :
    Calls Tryd.prog 9 #[.slice a 0 cap, .int .i64 i] w fun e w' => e = .returned (.int .u32 0) ∧ w = w' := by
  have h1 : ¬ i < 0 := by omega
  go_enter Tryd.func9, Tryd.ntmps9
  go_wp2
  go_ret
  exact ⟨rfl, rfl⟩
set_option maxHeartbeats 400000 in
theorem At_in (b off len cap : Nat) (i v : Int) (w : World) (hi : 0 ≤ i ∧ i ≤ 9223372036854775807) (hl : 0 < len) (hlm : len ≤ 9223372036854775807)
    (hc : w.cell? ⟨b, off + (i % len).toNat, none⟩ = some (.int .u32 v)) :
    Calls Tryd.prog 9 #[.slice (some ⟨b, off, none⟩) len cap, .int .i64 i] w fun e w' => e = .returned (.int .u32 v) ∧ w = w' := by
  have h1 : ¬ i < 0 := by omega
  have h2 : ((len : Int) == 0) = false := by simp; omega
  have h3 : 0 ≤ i % (len : Int) := Int.emod_nonneg _ (by omega)
  have h4 : i % (len : Int) < len := Int.emod_lt_of_pos _ (by omega)
  go_enter Tryd.func9, Tryd.ntmps9
  go_wp2
  go_ret
  exact ⟨rfl, rfl⟩
set_option maxHeartbeats 400000 in
theorem rAt_neg (s : Value) (i : Int) (w : World) (hi : i < 0) :
    Calls Tryd.prog 10 #[s, .int .i64 i] w fun e w' => e = .returned (.int .u32 0) ∧ w = w' := by
  go_enter Tryd.func10, Tryd.ntmps10
  go_wp2
  go_ret
  exact ⟨rfl, rfl⟩
set_option maxHeartbeats 400000 in
theorem rAt_none (a : Option Addr) (cap : Nat) (i : Int) (w : World) (hi : 0 ≤ i ∧ i ≤ 9223372036854775807) :
    Calls Tryd.prog 10 #[.slice a 0 cap, .int .i64 i] w fun e w' => e = .returned (.int .u32 0) ∧ w = w' := by
  have h1 : ¬ i < 0 := by omega
  go_enter Tryd.func10, Tryd.ntmps10
  go_wp2
  go_ret
  exact ⟨rfl, rfl⟩
set_option maxHeartbeats 400000 in
theorem rAt_in (b off len cap : Nat) (i v : Int) (w : World) (hi : 0 ≤ i ∧ i ≤ 9223372036854775807) (hl : 0 < len) (hlm : len ≤ 9223372036854775807)
    (hc : w.cell? ⟨b, off + (i % len).toNat, none⟩ = some (.int .u32 v)) :
    Calls Tryd.prog 10 #[.slice (some ⟨b, off, none⟩) len cap, .int .i64 i] w fun e w' => e = .returned (.int .u32 v) ∧ w = w' := by
  have h1 : ¬ i < 0 := by omega
  have h2 : ((len : Int) == 0) = false := by simp; omega
  have h3 : 0 ≤ i % (len : Int) := Int.emod_nonneg _ (by omega)
  have h4 : i % (len : Int) < len := Int.emod_lt_of_pos _ (by omega)
  go_enter Tryd.func10, Tryd.ntmps10
  go_wp2
  go_ret
  exact ⟨rfl, rfl⟩
set_option maxHeartbeats 400000 in
theorem Pick_any (x n : Int) (w : World) (hx : 0 ≤ x ∧ x ≤ 4294967295) (hn : -9223372036854775808 ≤ n ∧ n ≤ 9223372036854775807) :
    Calls Tryd.prog 17 #[.int .u32 x, .int .i64 n] w fun e w' => e = .returned (.int .i64 (if n < 1 then 0 else x % n)) ∧ w = w' := by
  by_cases h : n < 1
  · go_enter Tryd.func17, Tryd.ntmps17
    go_wp2
    go_ret
    exact ⟨rfl, rfl⟩
  · have h5 : 0 ≤ x % n := Int.emod_nonneg _ (by omega)
    have h6 : x % n < n := Int.emod_lt_of_pos _ (by omega)
    go_enter Tryd.func17, Tryd.ntmps17
    go_wp2
    go_ret
    exact ⟨rfl, rfl⟩
set_option maxHeartbeats 400000 in
theorem rPick_any (x n : Int) (w : World) (hx : 0 ≤ x ∧ x ≤ 4294967295) (hn : -9223372036854775808 ≤ n ∧ n ≤ 9223372036854775807) :
    Calls Tryd.prog 18 #[.int .u32 x, .int .i64 n] w fun e w' => e = .returned (.int .i64 (if n < 1 then 0 else x % n)) ∧ w = w' := by
  by_cases h : n < 1
  · go_enter Tryd.func18, Tryd.ntmps18
    go_wp2
    go_ret
    exact ⟨rfl, rfl⟩
  · have h5 : 0 ≤ x % n := Int.emod_nonneg _ (by omega)
    have h6 : x % n < n := Int.emod_lt_of_pos _ (by omega)
    go_enter Tryd.func18, Tryd.ntmps18
    go_wp2
    go_ret
    exact ⟨rfl, rfl⟩
end Go.Proofs.YtcgidaobeflblaaDoor
