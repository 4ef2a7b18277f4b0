/- How many tasks: the law. -/
import Derived.Test.YtghjkfhkpmenoaaTAlive
namespace Go.Proofs.Ytghjkfhkpmenoaa
open Go.BigFrame
open Go.RowKit Go.Proofs.Ytghjkfhkpmenoaa.Plain

theorem Plain.counts_plain (k s t : Int) (h1 : 1 ≤ k) (h2 : k ≤ 1000) (h3 : 1 ≤ s) (h4 : s ≤ t) (h5 : t ≤ 100) :
    ∃ l m p : Int, countT k s = 2 * l - 1 ∧ countL k s = l ∧ countT k t = 2 * m - 1 ∧ countL k t = m ∧ m * t = p ∧ 1 ≤ m ∧ m ≤ l ∧ l ≤ k ∧ k ≤ p ∧ p ≤ 100000 ∧ (t < k → 1 < m) ∧ (k ≤ t → m = 1) := by
  obtain ⟨K, rfl⟩ : ∃ K : Nat, k = K := ⟨k.toNat, by omega⟩
  obtain ⟨S, rfl⟩ : ∃ S : Nat, s = S := ⟨s.toNat, by omega⟩
  obtain ⟨T, rfl⟩ : ∃ T : Nat, t = T := ⟨t.toNat, by omega⟩
  obtain ⟨a1, a2, _, _⟩ := count_ok K S (by omega) (by omega) (by omega) (by omega)
  obtain ⟨b1, b2, _, _⟩ := count_ok K T (by omega) (by omega) (by omega) (by omega)
  obtain ⟨c1, c2, c3, _⟩ := cnt_bd S (by omega) K K (Nat.le_refl _) (by omega)
  obtain ⟨d1, d2, d3, d4⟩ := cnt_bd T (by omega) K K (Nat.le_refl _) (by omega)
  have hm := cnt_mono_g S T (by omega) (by omega) K K (Nat.le_refl _) (by omega)
  have hp : cntL K T * T ≤ 1000 * 100 := Nat.mul_le_mul (by omega) (by omega)
  refine ⟨cntL K S, cntL K T, (cntL K T * T : Nat), by rw [a1]; omega, a2, by rw [b1]; omega, b2, by simp, by omega, by omega, by omega, by omega, by omega, fun h => ?_, fun h => ?_⟩
  · have := (cnt_more K T (by omega) (by omega)).2
    have e1 := (cnt_bd T (by omega) (K / 2) (K / 2) (Nat.le_refl _) (by omega)).2.1
    have e2 := (cnt_bd T (by omega) (K - K / 2) (K - K / 2) (Nat.le_refl _) (by omega)).2.1
    omega
  · have := (cnt_one K T (by omega)).2
    omega

set_option maxHeartbeats 1600000 in
set_option maxRecDepth 100000 in
theorem tcounts_any (x0 xa xb : Int) (W : World) (b0 : 0 ≤ x0 ∧ x0 ≤ 65535) (ba : 0 ≤ xa ∧ xa ≤ 255) (bb : 0 ≤ xb ∧ xb ≤ 255) :
    Calls Try.prog 6 #[.int .u16 x0, .agg #[.int .u8 xa, .int .u8 xb]] W fun e w' => e = .returned (.bool true) ∧ Ext W w' := by
  obtain ⟨q0, h0⟩ : ∃ q, x0 % 1000 = q := ⟨_, rfl⟩
  obtain ⟨qa, ha⟩ : ∃ q, xa % 100 = q := ⟨_, rfl⟩
  obtain ⟨qb, hb⟩ : ∃ q, xb % 100 = q := ⟨_, rfl⟩
  obtain ⟨b01, b02⟩ := b0
  obtain ⟨ba1, ba2⟩ := ba
  obtain ⟨bb1, bb2⟩ := bb
  have r01 : 0 ≤ q0 := by omega
  have r02 : q0 ≤ 999 := by omega
  have ra1 : 0 ≤ qa := by omega
  have ra2 : qa ≤ 99 := by omega
  have rb1 : 0 ≤ qb := by omega
  have rb2 : qb ≤ 99 := by omega
  rcases (by omega : qa < qb ∨ qa = qb ∨ qb < qa) with hab | hab | hab
  · obtain ⟨l, m, p, e1, e2, e3, e4, e5, e6, e7, e8, e9, e10, e11, e12⟩ := counts_plain (1 + q0) (1 + qa) (1 + qb) (by omega) (by omega) (by omega) (by omega) (by omega)
    have HE := Lib.hid (And.intro e1 (And.intro e2 (And.intro e3 e4)))
    clear e1 e2 e3 e4
    by_cases hk : 1 + q0 ≤ 1 + qb
    · have hm := e12 hk
      clear e11 e12
      go_enter Try.func6, Try.ntmps6
      go_wp2_with fail
      refine (talive_any _).mono ?_
      rintro e w1 ⟨rfl, hE⟩
      have c0 : w1.cell? ⟨W.heap.size, 0, none⟩ = some (.int .u8 xa) := hE.cell (by go_simp)
      have c1 : w1.cell? ⟨W.heap.size, 1, none⟩ = some (.int .u8 xb) := hE.cell (by go_simp)
      have E1 := Lib.hid (((Ext.refl W).alloc _).trans hE)
      clear hE
      go_wp2_with fail
      go_quiet (fail)
      clear c0 c1
      go_wp2_with fail
      refine (count_to (1 + q0) (1 + qa) (2 * l - 1) l _ (by unfold in64; omega) (by unfold in64; omega) HE.out.1 HE.out.2.1).mono ?_
      rintro e w2 ⟨rfl, hE⟩
      have E2 := Lib.hid ((E1.out.drewN _).trans hE)
      clear hE E1
      go_wp2_with fail
      refine (count_to (1 + q0) (1 + qb) (2 * m - 1) m _ (by unfold in64; omega) (by unfold in64; omega) HE.out.2.2.1 HE.out.2.2.2).mono ?_
      rintro e w3 ⟨rfl, hE⟩
      have E3 := Lib.hid (E2.out.trans hE)
      clear hE E2
      go_wp2_with fail
      go_ret
      exact ⟨ret_bool (by simp; try omega), E3.out⟩
    · have hm := e11 (by omega)
      clear e11 e12
      go_enter Try.func6, Try.ntmps6
      go_wp2_with fail
      refine (talive_any _).mono ?_
      rintro e w1 ⟨rfl, hE⟩
      have c0 : w1.cell? ⟨W.heap.size, 0, none⟩ = some (.int .u8 xa) := hE.cell (by go_simp)
      have c1 : w1.cell? ⟨W.heap.size, 1, none⟩ = some (.int .u8 xb) := hE.cell (by go_simp)
      have E1 := Lib.hid (((Ext.refl W).alloc _).trans hE)
      clear hE
      go_wp2_with fail
      go_quiet (fail)
      clear c0 c1
      go_wp2_with fail
      refine (count_to (1 + q0) (1 + qa) (2 * l - 1) l _ (by unfold in64; omega) (by unfold in64; omega) HE.out.1 HE.out.2.1).mono ?_
      rintro e w2 ⟨rfl, hE⟩
      have E2 := Lib.hid ((E1.out.drewN _).trans hE)
      clear hE E1
      go_wp2_with fail
      refine (count_to (1 + q0) (1 + qb) (2 * m - 1) m _ (by unfold in64; omega) (by unfold in64; omega) HE.out.2.2.1 HE.out.2.2.2).mono ?_
      rintro e w3 ⟨rfl, hE⟩
      have E3 := Lib.hid (E2.out.trans hE)
      clear hE E2
      go_wp2_with fail
      go_ret
      exact ⟨ret_bool (by simp; try omega), E3.out⟩
  · subst hab
    obtain ⟨l, m, p, e1, e2, e3, e4, e5, e6, e7, e8, e9, e10, e11, e12⟩ := counts_plain (1 + q0) (1 + qa) (1 + qa) (by omega) (by omega) (by omega) (by omega) (by omega)
    have HE := Lib.hid (And.intro e1 (And.intro e2 (And.intro e3 e4)))
    clear e1 e2 e3 e4
    by_cases hk : 1 + q0 ≤ 1 + qa
    · have hm := e12 hk
      clear e11 e12
      go_enter Try.func6, Try.ntmps6
      go_wp2_with fail
      refine (talive_any _).mono ?_
      rintro e w1 ⟨rfl, hE⟩
      have c0 : w1.cell? ⟨W.heap.size, 0, none⟩ = some (.int .u8 xa) := hE.cell (by go_simp)
      have c1 : w1.cell? ⟨W.heap.size, 1, none⟩ = some (.int .u8 xb) := hE.cell (by go_simp)
      have E1 := Lib.hid (((Ext.refl W).alloc _).trans hE)
      clear hE
      go_wp2_with fail
      go_quiet (fail)
      clear c0 c1
      go_wp2_with fail
      refine (count_to (1 + q0) (1 + qa) (2 * l - 1) l _ (by unfold in64; omega) (by unfold in64; omega) HE.out.1 HE.out.2.1).mono ?_
      rintro e w2 ⟨rfl, hE⟩
      have E2 := Lib.hid ((E1.out.drewN _).trans hE)
      clear hE E1
      go_wp2_with fail
      refine (count_to (1 + q0) (1 + qa) (2 * m - 1) m _ (by unfold in64; omega) (by unfold in64; omega) HE.out.2.2.1 HE.out.2.2.2).mono ?_
      rintro e w3 ⟨rfl, hE⟩
      have E3 := Lib.hid (E2.out.trans hE)
      clear hE E2
      go_wp2_with fail
      go_ret
      exact ⟨ret_bool (by simp; try omega), E3.out⟩
    · have hm := e11 (by omega)
      clear e11 e12
      go_enter Try.func6, Try.ntmps6
      go_wp2_with fail
      refine (talive_any _).mono ?_
      rintro e w1 ⟨rfl, hE⟩
      have c0 : w1.cell? ⟨W.heap.size, 0, none⟩ = some (.int .u8 xa) := hE.cell (by go_simp)
      have c1 : w1.cell? ⟨W.heap.size, 1, none⟩ = some (.int .u8 xb) := hE.cell (by go_simp)
      have E1 := Lib.hid (((Ext.refl W).alloc _).trans hE)
      clear hE
      go_wp2_with fail
      go_quiet (fail)
      clear c0 c1
      go_wp2_with fail
      refine (count_to (1 + q0) (1 + qa) (2 * l - 1) l _ (by unfold in64; omega) (by unfold in64; omega) HE.out.1 HE.out.2.1).mono ?_
      rintro e w2 ⟨rfl, hE⟩
      have E2 := Lib.hid ((E1.out.drewN _).trans hE)
      clear hE E1
      go_wp2_with fail
      refine (count_to (1 + q0) (1 + qa) (2 * m - 1) m _ (by unfold in64; omega) (by unfold in64; omega) HE.out.2.2.1 HE.out.2.2.2).mono ?_
      rintro e w3 ⟨rfl, hE⟩
      have E3 := Lib.hid (E2.out.trans hE)
      clear hE E2
      go_wp2_with fail
      go_ret
      exact ⟨ret_bool (by simp; try omega), E3.out⟩
  · obtain ⟨l, m, p, e1, e2, e3, e4, e5, e6, e7, e8, e9, e10, e11, e12⟩ := counts_plain (1 + q0) (1 + qb) (1 + qa) (by omega) (by omega) (by omega) (by omega) (by omega)
    have HE := Lib.hid (And.intro e1 (And.intro e2 (And.intro e3 e4)))
    clear e1 e2 e3 e4
    by_cases hk : 1 + q0 ≤ 1 + qa
    · have hm := e12 hk
      clear e11 e12
      go_enter Try.func6, Try.ntmps6
      go_wp2_with fail
      refine (talive_any _).mono ?_
      rintro e w1 ⟨rfl, hE⟩
      have c0 : w1.cell? ⟨W.heap.size, 0, none⟩ = some (.int .u8 xa) := hE.cell (by go_simp)
      have c1 : w1.cell? ⟨W.heap.size, 1, none⟩ = some (.int .u8 xb) := hE.cell (by go_simp)
      have E1 := Lib.hid (((Ext.refl W).alloc _).trans hE)
      clear hE
      go_wp2_with fail
      go_quiet (fail)
      clear c0 c1
      go_wp2_with fail
      refine (count_to (1 + q0) (1 + qb) (2 * l - 1) l _ (by unfold in64; omega) (by unfold in64; omega) HE.out.1 HE.out.2.1).mono ?_
      rintro e w2 ⟨rfl, hE⟩
      have E2 := Lib.hid ((E1.out.drewN _).trans hE)
      clear hE E1
      go_wp2_with fail
      refine (count_to (1 + q0) (1 + qa) (2 * m - 1) m _ (by unfold in64; omega) (by unfold in64; omega) HE.out.2.2.1 HE.out.2.2.2).mono ?_
      rintro e w3 ⟨rfl, hE⟩
      have E3 := Lib.hid (E2.out.trans hE)
      clear hE E2
      go_wp2_with fail
      go_ret
      exact ⟨ret_bool (by simp; try omega), E3.out⟩
    · have hm := e11 (by omega)
      clear e11 e12
      go_enter Try.func6, Try.ntmps6
      go_wp2_with fail
      refine (talive_any _).mono ?_
      rintro e w1 ⟨rfl, hE⟩
      have c0 : w1.cell? ⟨W.heap.size, 0, none⟩ = some (.int .u8 xa) := hE.cell (by go_simp)
      have c1 : w1.cell? ⟨W.heap.size, 1, none⟩ = some (.int .u8 xb) := hE.cell (by go_simp)
      have E1 := Lib.hid (((Ext.refl W).alloc _).trans hE)
      clear hE
      go_wp2_with fail
      go_quiet (fail)
      clear c0 c1
      go_wp2_with fail
      refine (count_to (1 + q0) (1 + qb) (2 * l - 1) l _ (by unfold in64; omega) (by unfold in64; omega) HE.out.1 HE.out.2.1).mono ?_
      rintro e w2 ⟨rfl, hE⟩
      have E2 := Lib.hid ((E1.out.drewN _).trans hE)
      clear hE E1
      go_wp2_with fail
      refine (count_to (1 + q0) (1 + qa) (2 * m - 1) m _ (by unfold in64; omega) (by unfold in64; omega) HE.out.2.2.1 HE.out.2.2.2).mono ?_
      rintro e w3 ⟨rfl, hE⟩
      have E3 := Lib.hid (E2.out.trans hE)
      clear hE E2
      go_wp2_with fail
      go_ret
      exact ⟨ret_bool (by simp; try omega), E3.out⟩
end Go.Proofs.Ytghjkfhkpmenoaa
