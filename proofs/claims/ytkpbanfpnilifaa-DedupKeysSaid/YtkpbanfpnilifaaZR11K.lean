/- DedupKeys: the law returns true. Written by wip/mk_r11.py. -/
import Derived.Test.YtkpbanfpnilifaaJ6
set_option linter.unusedVariables false
set_option linter.unusedSimpArgs false
set_option linter.unnecessarySimpa false
namespace Go.Proofs.Ytkpbanfpnilifaa
open Go.BigFrame
open Go.RowKit Go.Proofs.Ytkpbanfpnilifaa.Plain

theorem Plain.edgeP_key {U V : Nat} (h1 : U ≤ 65535) (h2 : V ≤ 65535) : edgeP (keyP U V) = (((min U V : Nat) : Int), ((max U V : Nat) : Int)) := by
  rw [(keyP_yes h1 h2).2]
  unfold edgeP
  have h3 : max U V < 65536 := by omega
  rw [Nat.mul_comm, Nat.mul_add_div (by decide), Nat.div_eq_of_lt h3, Nat.mul_add_mod, Nat.mod_eq_of_lt h3, Nat.add_zero]
theorem Plain.same_bools (A B : Nat) : ((A : Int) == (B : Int)) = decide (A = B) ∧ (A == B) = decide (A = B) ∧ decide ((A : Int) = (B : Int)) = decide (A = B) := by
  by_cases h : A = B
  · subst h; simp
  · have h' : ¬ (A : Int) = (B : Int) := by omega
    exact ⟨by rw [decide_eq_false h]; exact beq_eq_false_iff_ne.2 h', by rw [decide_eq_false h]; exact beq_eq_false_iff_ne.2 h, by rw [decide_eq_false h, decide_eq_false h']⟩
set_option maxHeartbeats 3200000 in
set_option maxRecDepth 100000 in
theorem dedupkeys_any (u1 v1 u2 v2 : Int) (W : World) (hu1 : in64 u1) (hv1 : in64 v1) (hu2 : in64 u2) (hv2 : in64 v2) :
    Calls Try.prog 4 #[.agg #[.int .i64 u1, .int .i64 v1], .agg #[.int .i64 u2, .int .i64 v2]] W fun ed w' => ed = .returned (.bool true) ∧ Ext W w' := by
  have HG := Lib.hid (And.intro (And.intro hu1 hv1) (And.intro hu2 hv2))
  clear hu1 hv1 hu2 hv2
  go_enter Try.func4, Try.ntmps4
  go_wp2_with fail
  refine (dalive_any _).mono ?_
  rintro ed w1 ⟨rfl, hE1⟩
  have a0 : w1.cell? ⟨W.heap.size, 0, none⟩ = some (.int .i64 u1) := Ext.cell hE1 (by go_simp)
  have a1 : w1.cell? ⟨W.heap.size, 1, none⟩ = some (.int .i64 v1) := Ext.cell hE1 (by go_simp)
  have af : ∀ o, w1.frozen? ⟨W.heap.size, o, none⟩ = false := fun o => (Below.frozen hE1 (p := ⟨W.heap.size, o, none⟩) (by first | omega | (simp; omega) | simp)).trans (by go_simp)
  have b0 : w1.cell? ⟨(W.heap.size + 1), 0, none⟩ = some (.int .i64 u2) := Ext.cell hE1 (by go_simp)
  have b1 : w1.cell? ⟨(W.heap.size + 1), 1, none⟩ = some (.int .i64 v2) := Ext.cell hE1 (by go_simp)
  have bf : ∀ o, w1.frozen? ⟨(W.heap.size + 1), o, none⟩ = false := fun o => (Below.frozen hE1 (p := ⟨(W.heap.size + 1), o, none⟩) (by first | omega | (simp; omega) | simp)).trans (by go_simp)
  have HX1 := Lib.hid ((((Ext.refl W).alloc (.cells #[.int .i64 u1, .int .i64 v1] 39)).alloc (.cells #[.int .i64 u2, .int .i64 v2] 39)).trans hE1)
  have lz1 := hE1.size
  simp at lz1
  have n1 : W.heap.size < w1.heap.size := by omega
  have n2 : (W.heap.size + 1) < w1.heap.size := by omega
  clear hE1
  have HKO : Hid ((keyOk u1 v1 = false → keyP u1 v1 = 0) ∧ (keyOk u2 v2 = false → keyP u2 v2 = 0)) := Lib.hid ⟨fun h => by unfold keyP; rw [if_neg (by rw [h]; decide)], fun h => by unfold keyP; rw [if_neg (by rw [h]; decide)]⟩
  have HOK : Hid ((keyOk u1 v1 = true → 0 ≤ u1 ∧ 0 ≤ v1 ∧ u1 ≤ 65535 ∧ v1 ≤ 65535) ∧ (keyOk u2 v2 = true → 0 ≤ u2 ∧ 0 ≤ v2 ∧ u2 ≤ 65535 ∧ v2 ≤ 65535)) := Lib.hid ⟨fun h => by
    unfold keyOk at h
    simp only [Bool.and_eq_true, decide_eq_true_eq] at h
    omega, fun h => by
    unfold keyOk at h
    simp only [Bool.and_eq_true, decide_eq_true_eq] at h
    omega⟩
  go_wp2_with fail
  refine (pkey_any u1 v1 _ HG.out.1.1 HG.out.1.2).mono ?_
  rintro ed w2 ⟨rfl, hE2⟩
  replace a0 := Ext.cell hE2 a0
  replace a1 := Ext.cell hE2 a1
  replace b0 := Ext.cell hE2 b0
  replace b1 := Ext.cell hE2 b1
  have lb2_0 : W.heap.size < w2.heap.size := by have := Ext.size hE2; omega
  have lb2_1 : W.heap.size + 1 < w2.heap.size := by have := Ext.size hE2; omega
  have HX2 := Lib.hid (HX1.out.trans hE2)
  clear hE2 HX1 n1 n2
  go_wp2_with fail
  refine (pkey_any u2 v2 _ HG.out.2.1 HG.out.2.2).mono ?_
  rintro ed w3 ⟨rfl, hE3⟩
  replace a0 := Ext.cell hE3 a0
  replace a1 := Ext.cell hE3 a1
  replace b0 := Ext.cell hE3 b0
  replace b1 := Ext.cell hE3 b1
  have lb3_0 : W.heap.size < w3.heap.size := by have := Ext.size hE3; omega
  have lb3_1 : W.heap.size + 1 < w3.heap.size := by have := Ext.size hE3; omega
  have HX3 := Lib.hid (HX2.out.trans hE3)
  clear hE3 HX2 lb2_0 lb2_1
  cases ho1 : keyOk u1 v1 with
  | false =>
    rw [HKO.out.1 ho1]
    cases ho2 : keyOk u2 v2 with
    | false =>
      rw [HKO.out.2 ho2]
      clear ho1 ho2
      go_wp2_with fail
      go_ret
      exact ⟨ret_bool (by first | rfl | simp), HX3.out⟩
    | true =>
      clear ho1 ho2
      go_wp2_with fail
      go_ret
      exact ⟨ret_bool (by first | rfl | simp), HX3.out⟩
  | true =>
    cases ho2 : keyOk u2 v2 with
    | false =>
      rw [HKO.out.2 ho2]
      clear ho1 ho2
      go_wp2_with fail
      go_ret
      exact ⟨ret_bool (by first | rfl | simp), HX3.out⟩
    | true =>
      obtain ⟨p1, p2, p3, p4⟩ := HOK.out.1 ho1
      obtain ⟨p5, p6, p7, p8⟩ := HOK.out.2 ho2
      obtain ⟨U1, rfl⟩ : ∃ x : Nat, u1 = x := ⟨u1.toNat, by omega⟩
      obtain ⟨V1, rfl⟩ : ∃ x : Nat, v1 = x := ⟨v1.toNat, by omega⟩
      obtain ⟨U2, rfl⟩ : ∃ x : Nat, u2 = x := ⟨u2.toNat, by omega⟩
      obtain ⟨V2, rfl⟩ : ∃ x : Nat, v2 = x := ⟨v2.toNat, by omega⟩
      have e1 := (keyP_yes (U := U1) (V := V1) (by omega) (by omega)).2
      have e2 := (keyP_yes (U := U2) (V := V2) (by omega) (by omega)).2
      have e3 := edgeP_key (U := U1) (V := V1) (by omega) (by omega)
      obtain ⟨M, hM⟩ : ∃ x, min U1 V1 = x := ⟨_, rfl⟩
      obtain ⟨X, hX⟩ : ∃ x, max U1 V1 = x := ⟨_, rfl⟩
      have hMX : M ≤ X := by omega
      have e4 := (keyP_yes (U := M) (V := X) (by omega) (by omega))
      rw [show min M X = M by omega, show max M X = X by omega] at e4
      rw [hM, hX] at e1 e3
      rw [← e1] at e4
      have hkl := keyP_lt U1 V1
      obtain ⟨K1, hK1⟩ : ∃ x, keyP U1 V1 = x := ⟨_, rfl⟩
      obtain ⟨K2, hK2⟩ : ∃ x, keyP U2 V2 = x := ⟨_, rfl⟩
      rw [hK1] at e1 e3 e4 hkl ⊢
      rw [hK2] at e2 ⊢
      have hiff : K1 = K2 ↔ (U1 = U2 ∧ V1 = V2) ∨ (U1 = V2 ∧ V1 = U2) := by omega
      have HIFF := Lib.hid hiff
      have HE := Lib.hid (And.intro e3 (And.intro e4.1 (And.intro e4.2 hkl)))
      obtain ⟨sb, hsb⟩ : ∃ s, decide (K1 = K2) = s := ⟨_, rfl⟩
      have HSB := Lib.hid hsb
      obtain ⟨s1, s2, s3⟩ := same_bools K1 K2
      rw [hsb] at s1 s2 s3
      have HPP : Hid ((U1 ≤ 65535 ∧ V1 ≤ 65535) ∧ min U1 V1 = M ∧ max U1 V1 = X) := Lib.hid ⟨by omega, hM, hX⟩
      clear ho1 ho2 p1 p2 p3 p4 p5 p6 p7 p8 e1 e2 e3 e4 hM hX hK1 hK2 hkl hiff hsb
      go_upto_region 7 with fail
      go_cut [9] from 43 to 59 (fun s wx => s = .bool sb ∧ wx = w3)
      case first =>
        have h1 := same_bools U1 U2
        have h2 := same_bools V1 V2
        have h3 := same_bools U1 V2
        have h4 := same_bools V1 U2
        obtain ⟨h1a, h1b, h1c⟩ := h1
        obtain ⟨h2a, h2b, h2c⟩ := h2
        obtain ⟨h3a, h3b, h3c⟩ := h3
        obtain ⟨h4a, h4b, h4c⟩ := h4
        by_cases c1 : U1 = U2 <;> by_cases c2 : V1 = V2 <;> by_cases c3 : U1 = V2 <;> by_cases c4 : V1 = U2
        all_goals
          have hv : sb = decide ((U1 = U2 ∧ V1 = V2) ∨ (U1 = V2 ∧ V1 = U2)) := by
            rw [← HSB.out]
            by_cases hh : K1 = K2
            · rw [decide_eq_true hh, decide_eq_true (HIFF.out.1 hh)]
            · rw [decide_eq_false hh, decide_eq_false (fun h => hh (HIFF.out.2 h))]
          have HV := Lib.hid hv
          clear hv
          first | rw [decide_eq_true c1] at h1a h1b h1c | rw [decide_eq_false c1] at h1a h1b h1c
          first | rw [decide_eq_true c2] at h2a h2b h2c | rw [decide_eq_false c2] at h2a h2b h2c
          first | rw [decide_eq_true c3] at h3a h3b h3c | rw [decide_eq_false c3] at h3a h3b h3c
          first | rw [decide_eq_true c4] at h4a h4b h4c | rw [decide_eq_false c4] at h4a h4b h4c
          have HC := Lib.hid (And.intro c1 (And.intro c2 (And.intro c3 c4)))
          clear c1 c2 c3 c4
          go_wp2_with fail
          go_meet
          obtain ⟨c1, c2, c3, c4⟩ := HC.out
          exact ⟨by rw [HV.out]; first | rw [decide_eq_true (show (U1 = U2 ∧ V1 = V2) ∨ (U1 = V2 ∧ V1 = U2) by omega)] | rw [decide_eq_false (show ¬ ((U1 = U2 ∧ V1 = V2) ∨ (U1 = V2 ∧ V1 = U2)) by omega)], rfl⟩
      case rest =>
      obtain ⟨rfl, rfl⟩ := hcut
      go_wp2_with fail
      refine (pedge_any K1 _ HE.out.2.2.2).mono ?_
      rw [HE.out.1]
      rintro ed w5 ⟨rfl, hE5⟩
      simp only
      replace a0 := hE5.cell a0
      replace a1 := hE5.cell a1
      have la5 : W.heap.size < w5.heap.size := World.block_lt_of_cell? _ _ a0
      have HX5 := Lib.hid (HX3.out.trans hE5)
      clear hE5 b0 b1
      go_wp2_with fail
      refine (pkey_any M X _ (in64_nat M (by have := HPP.out; omega)) (in64_nat X (by have := HPP.out; omega))).mono ?_
      rw [HE.out.2.2.1, HE.out.2.1]
      rintro ed w6 ⟨rfl, hE6⟩
      have e0 : w6.cell? ⟨w5.heap.size, 0, none⟩ = some (.int .i64 M) := Ext.cell hE6 (by go_simp)
      have e1 : w6.cell? ⟨w5.heap.size, 1, none⟩ = some (.int .i64 X) := Ext.cell hE6 (by go_simp)
      have ef : ∀ o, w6.frozen? ⟨w5.heap.size, o, none⟩ = false := fun o => (Below.frozen hE6 (p := ⟨w5.heap.size, o, none⟩) (by first | omega | (simp; omega) | simp)).trans (by go_simp)
      have hF6 := ((Ext.refl w5).alloc (.cells #[.int .i64 M, .int .i64 X] 39)).trans hE6
      replace a0 := hF6.cell a0
      replace a1 := hF6.cell a1
      have la6 : W.heap.size < w6.heap.size := World.block_lt_of_cell? _ _ a0
      have le6 : w5.heap.size < w6.heap.size := World.block_lt_of_cell? _ _ e0
      have HX6 := Lib.hid (HX5.out.trans hF6)
      have hss : (sb == sb) = true := by simp
      have hkk1 : (K1 == K1) = true := by simp
      have hkk2 : ((K1 : Int) == (K1 : Int)) = true := by simp
      have hmx : (M : Int) ≤ X := by omega
      have hmd : decide ((M : Int) ≤ (X : Int)) = true := decide_eq_true hmx
      have hme : decide (M ≤ X) = true := decide_eq_true (by omega)
      clear hE6 hF6
      rcases Nat.lt_or_ge V1 U1 with hlt | hge
      · obtain rfl : M = V1 := by have := HPP.out; omega
        obtain rfl : X = U1 := by have := HPP.out; omega
        obtain ⟨f1, f2, f3⟩ := same_bools M X
        rw [decide_eq_false (show ¬ M = X by omega)] at f1 f2 f3
        obtain ⟨g1, g2, g3⟩ := same_bools X M
        rw [decide_eq_false (show ¬ X = M by omega)] at g1 g2 g3
        clear hlt hMX
        go_wp2_with fail
        go_ret
        exact ⟨ret_bool (by first | rfl | simp), HX6.out⟩
      · obtain rfl : M = U1 := by have := HPP.out; omega
        obtain rfl : X = V1 := by have := HPP.out; omega
        clear hge hMX
        go_wp2_with fail
        go_ret
        exact ⟨ret_bool (by first | rfl | simp), HX6.out⟩
end Go.Proofs.Ytkpbanfpnilifaa
