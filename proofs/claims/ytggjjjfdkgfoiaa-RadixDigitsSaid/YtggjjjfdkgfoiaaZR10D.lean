/- RadixDigits: the law returns true. Written by wip/mk_r10.py. -/
import Derived.Test.YtggjjjfdkgfoiaaJ6
set_option linter.unusedVariables false
set_option linter.unusedSimpArgs false
set_option linter.unnecessarySimpa false
namespace Go.Proofs.Ytggjjjfdkgfoiaa
open Go.BigFrame
open Go.RowKit Go.Proofs.Ytggjjjfdkgfoiaa.Plain

set_option maxHeartbeats 3200000 in
set_option maxRecDepth 100000 in
theorem radixdigits_any (key : Nat) (b : Int) (W : World) (hk : key < 4294967296) (hb : 0 ≤ b ∧ b ≤ 255) :
    Calls Try.prog 6 #[.int .u32 key, .int .u8 b] W fun ed w' => ed = .returned (.bool true) ∧ Ext W w' := by
  obtain ⟨b0, b1⟩ := hb
  obtain ⟨B, hB⟩ : ∃ B : Nat, 1 + b % 16 = (B : Int) := ⟨(1 + b % 16).toNat, by omega⟩
  have hB1 : 1 ≤ B := by omega
  have hB2 : B ≤ 16 := by omega
  have hd0 : digitP key (passesP B : Nat) B = 0 := by unfold digitP; rw [if_pos (by omega)]
  have hdm : digitP key (-1) B = 0 := by unfold digitP; rw [if_pos (by omega)]
  have hdi : ∀ i : Nat, i < passesP B → digitP key (i : Nat) B = key / 2 ^ (i * B) % 2 ^ B := fun i hi => by unfold digitP; rw [if_neg (by omega)]; simp
  obtain ⟨e1, e2, e3, e4⟩ := passesP_enough B hB1 hB2
  have hz : key / 2 ^ (passesP B * B) = 0 := Nat.div_eq_of_lt (Nat.lt_of_lt_of_le (show key < 2 ^ 32 by omega) (Nat.pow_le_pow_right (by decide) e1))
  obtain ⟨N, hN⟩ : ∃ N, passesP B = N := ⟨_, rfl⟩
  rw [hN] at hd0 hdi e1 e2 e3 e4 hz
  have HN := Lib.hid hN
  have HD := Lib.hid (And.intro hd0 hdm)
  have HDI := Lib.hid hdi
  have HZ := Lib.hid hz
  have HK := Lib.hid hk
  have HE := Lib.hid (And.intro e1 e2)
  have hN1 : (1 : Int) ≤ N := by omega
  have hN2 : (N : Int) ≤ 32 := by omega
  have HBI : Hid (in64 (B : Int)) := Lib.hid (in64_nat B (by omega))
  clear hN hd0 hdm hdi hz hk e1 e2 e3 e4
  go_enter Try.func6, Try.ntmps6
  go_wp2_with fail
  refine (ralive_any _).mono ?_
  rintro ed w1 ⟨rfl, hE1⟩
  have HX1 := Lib.hid hE1
  clear hE1
  go_wp2_with fail
  refine (ppasses_any B _ HBI.out).mono ?_
  rw [HN.out]
  rintro ed w2 ⟨rfl, hE2⟩
  have HX2 := Lib.hid (HX1.out.trans hE2)
  clear hE2 HX1 hB b0 b1
  go_wp2_with fail
  go_loopw [7, 8] (fun s i wr => ∃ k : Nat, k ≤ N ∧ i = .int .i64 ((k : Int) - 1) ∧ s = .int .u64 ((key / 2 ^ (k * B) : Nat) : Int) ∧ Ext w2 wr) (fun _ i _ => (intOf i + 1).toNat)
  case atStart => exact ⟨N, Nat.le_refl _, by go_num, by rw [HZ.out]; rfl, Ext.refl _⟩
  case round =>
    obtain ⟨k, hkN, rfl, rfl, hX⟩ := hrel
    have HX := Lib.hid (HX2.out.trans hX)
    have HXR := Lib.hid hX
    clear hX
    rcases k with _ | j
    · have hkk : key / 2 ^ (0 * B) = key := by rw [Nat.zero_mul, Nat.pow_zero, Nat.div_one]
      rw [hkk]
      obtain ⟨M, hM⟩ : ∃ M, N * B = M := ⟨_, rfl⟩
      obtain ⟨M', hM'⟩ : ∃ M, (N - 1) * B = M := ⟨_, rfl⟩
      have hm1 : 32 ≤ M := by have := HE.out.1; omega
      have hm2 : M' < 32 := by have := HE.out.2; omega
      have hm3 : M ≤ 512 := by have : N * B ≤ 32 * 16 := Nat.mul_le_mul (by omega) hB2; omega
      have hM2 : (N : Int) * (B : Int) = (M : Int) := by rw [← hM]; simp
      obtain ⟨N', hN'⟩ : ∃ N' : Nat, (N : Int) - 1 = N' := ⟨N - 1, by omega⟩
      have hM3 : (N' : Int) * (B : Int) = (M' : Int) := by rw [← hM', show N - 1 = N' by omega]; simp
      have hM9 : IntKind.i64.wrap (M : Int) = (M : Int) := IntWalk.i64_in _ (by omega)
      have hM8 : IntKind.i64.wrap (M' : Int) = (M' : Int) := IntWalk.i64_in _ (by omega)
      have hN9 : IntKind.i64.wrap (N' : Int) = (N' : Int) := IntWalk.i64_in _ (by omega)
      have hm4 : (32 : Int) ≤ M := by omega
      have hm5 : (M' : Int) < 32 := by omega
      have hd4 : decide ((32 : Int) ≤ (M : Int)) = true := decide_eq_true hm4
      have hd5 : decide ((M' : Int) < 32) = true := decide_eq_true hm5
      have hd6 : decide (32 ≤ M) = true := decide_eq_true hm1
      have hd7 : decide (M' < 32) = true := decide_eq_true hm2
      have hky : (key : Int) < 18446744073709551616 := by have := HK.out; omega
      have hk0 : (0 : Int) ≤ key := by omega
      clear hkk hM hM'
      go_wp2_with fail
      refine (pdigit_any key N B _ HK.out (in64_nat N (by omega)) HBI.out).mono ?_
      rw [HD.out.1]
      rintro ed w3 ⟨rfl, hE3⟩
      have HX3 := Lib.hid (HX.out.trans hE3)
      clear hE3 HX
      go_wp2_with fail
      refine (pdigit_any key (-1) B _ HK.out (by decide) HBI.out).mono ?_
      rw [HD.out.2]
      rintro ed w4 ⟨rfl, hE4⟩
      have HX4 := Lib.hid (HX3.out.trans hE4)
      clear hE4 HX3
      go_wp2_with fail
      go_ret
      exact ⟨ret_bool (by first | rfl | simp), HX4.out⟩
    · have hj0 : (0 : Int) ≤ j := by omega
      have hij : ((j + 1 : Nat) : Int) - 1 = (j : Int) := by omega
      rw [hij]
      have hdj := HDI.out j (by omega)
      have hs : key / 2 ^ ((j + 1) * B) = key / 2 ^ (j * B) / 2 ^ B := by rw [Nat.div_div_eq_div_mul, ← Nat.pow_add, Nat.add_mul, Nat.one_mul]
      obtain ⟨Z, hZ⟩ : ∃ Z, key / 2 ^ (j * B) = Z := ⟨_, rfl⟩
      have hZl : Z < 4294967296 := by rw [← hZ]; exact Nat.lt_of_le_of_lt (Nat.div_le_self _ _) HK.out
      rw [hZ] at hdj hs
      have HZZ := Lib.hid hZ
      obtain ⟨S, hS⟩ : ∃ S, Z / 2 ^ B = S := ⟨_, rfl⟩
      obtain ⟨D, hD⟩ : ∃ D, Z % 2 ^ B = D := ⟨_, rfl⟩
      rw [hS] at hs
      rw [hD] at hdj
      rw [hs]
      have HDJ := Lib.hid hdj
      have hjN : (j : Int) < N := by omega
      obtain ⟨P, hP⟩ : ∃ P, 2 ^ B = P := ⟨_, rfl⟩
      have hPI : (2 : Int) ^ B = (P : Int) := by rw [← hP]; simp
      have hP0 : 0 < P := by rw [← hP]; exact Nat.two_pow_pos B
      have hPl : P ≤ 65536 := by rw [← hP]; exact Nat.pow_le_pow_right (n := 2) (by decide) hB2
      have hPm : (P : Int) % 4294967296 = (P : Int) := by omega
      rw [hP] at hS hD
      have hDP : (D : Int) < P := by rw [← hD]; exact Int.ofNat_lt.2 (Nat.mod_lt _ hP0)
      have hD0 : (0 : Int) ≤ D := by omega
      have hdec : decide ((P : Int) ≤ (D : Int)) = false := decide_eq_false (by omega)
      have hZS : S * P + D = Z := by rw [← hS, ← hD, Nat.mul_comm]; exact Nat.div_add_mod Z P
      obtain ⟨V, hV⟩ : ∃ V, S * P = V := ⟨_, rfl⟩
      have hVI : (S : Int) * (P : Int) = (V : Int) := by rw [← hV]; simp
      rw [hV] at hZS
      have hV9 : IntKind.u64.wrap (V : Int) = (V : Int) := by rw [IntKind.wrap_u64]; omega
      have hZI : (V : Int) + (D : Int) = (Z : Int) := by omega
      have hZ9 : IntKind.u64.wrap (Z : Int) = (Z : Int) := by rw [IntKind.wrap_u64]; omega
      have hB9 : (B : Int) ≤ 16 := by omega
      have hB8 : (1 : Int) ≤ B := by omega
      clear hs hdj hZ hZl hS hD hij hP hPl hP0 hZS hV
      go_wp2_with fail
      refine (pdigit_any key j B _ HK.out (in64_nat j (by omega)) HBI.out).mono ?_
      rw [HDJ.out]
      rintro ed w3 ⟨rfl, hE3⟩
      have HX3 := Lib.hid (HXR.out.trans hE3)
      clear hE3 HX HXR
      clear hB1 hB2
      go_wp2_with fail
      go_roundw
      case rel => exact ⟨j, by omega, by first | rfl | go_num, by rw [HZZ.out], HX3.out⟩
      case measure => first | (simp [intOf]; done) | (simp [intOf]; omega)
end Go.Proofs.Ytggjjjfdkgfoiaa
