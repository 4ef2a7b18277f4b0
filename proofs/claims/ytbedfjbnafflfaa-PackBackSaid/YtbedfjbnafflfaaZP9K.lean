/- PackBack: the law returns true. Written by wip/mk_p9k.py. -/
import Derived.Test.YtbedfjbnafflfaaJ7
import Derived.Test.YtbedfjbnafflfaaZP9B
set_option linter.unusedVariables false
set_option linter.unusedSimpArgs false
set_option linter.unnecessarySimpa false
namespace Go.Proofs.Ytbedfjbnafflfaa
open Go.BigFrame
open Go.RowKit Go.Proofs.Ytbedfjbnafflfaa.Plain

set_option maxHeartbeats 3200000 in
set_option maxRecDepth 100000 in
theorem packback_any (l : List Nat) (L : Option Addr) (lc : Nat) (keep : List Bool) (K : Option Addr) (kc : Nat) (rest : Nat) (W : World) (hL : Rd kU32 W (.slice L l.length lc) (zs l)) (hK : Rd kBool W (.slice K keep.length kc) keep) (hr : rest < 4294967296) :
    Calls Try.prog 4 #[.slice L l.length lc, .slice K keep.length kc, .int .u32 rest] W fun ed w' => ed = .returned (.bool true) ∧ Ext W w' := by
  have HL := Lib.hid hL
  have HK := Lib.hid hK
  have HR := Lib.hid hr
  clear hL hK hr
  go_enter Try.func4, Try.ntmps4
  go_wp2_with fail
  refine (palive_any _).mono ?_
  rintro ed w1 ⟨rfl, hE1⟩
  have HX1 := Lib.hid hE1
  clear hE1
  by_cases h1 : (200 : Int) < l.length
  · go_wp2_with fail
    go_ret
    exact ⟨rfl, HX1.out⟩
  have h1' : (l.length : Int) ≤ 200 := by omega
  clear h1
  by_cases h2 : (200 : Int) < keep.length
  · go_wp2_with fail
    go_ret
    exact ⟨rfl, HX1.out⟩
  have h2' : (keep.length : Int) ≤ 200 := by omega
  clear h2
  have HKN : Hid (keep.length ≤ 200) := Lib.hid (by omega)
  by_cases hw : (whereL keep).length = l.length
  · have hs := sprP_yes l keep rest hw
    obtain ⟨sq, eq⟩ := packP_good (byN keep.length (spreadF l keep rest)) keep 7 3 2 [] (byN_len _ _) (by decide) (by decide) (by decide)
    have hback : packL (byN keep.length (spreadF l keep rest)) keep = l := pack_spread l keep rest (by unfold spreadB; exact decide_eq_true hw)
    rw [hback] at eq
    have HEQ := Lib.hid eq
    have HS := Lib.hid hs
    clear eq hs hback hw
    go_wp2_with fail
    refine (pspread_any l keep L K lc kc rest _ (HL.out.ext HX1.out) (HK.out.ext HX1.out) (by have := HKN.out; omega) HR.out).mono ?_
    rw [HS.out]
    rintro ed w2 ⟨L2, l2, rfl, hO2, hE2⟩
    simp only at hO2 ⊢
    have HX2 := Lib.hid (HX1.out.trans hE2)
    have Hs_2 := Lib.hid (hO2.rd)
    clear hE2 HX1
    go_wp2_with fail
    refine (rspread_any l keep L K lc kc rest _ (HL.out.ext HX2.out) (HK.out.ext HX2.out) (by have := HKN.out; omega) HR.out).mono ?_
    rw [HS.out]
    rintro ed w3 ⟨L3, l3, rfl, hO3, hE3⟩
    simp only at hO3 ⊢
    have HX3 := Lib.hid (HX2.out.trans hE3)
    have Hs_3 := Lib.hid (Hs_2.out.ext hE3)
    have Ht_3 := Lib.hid (hO3.rd)
    clear hE3 HX2 Hs_2
    go_wp2_with fail
    refine (rwords_any _ _ _ _ _ Hs_3.out Ht_3.out).mono ?_
    rintro ed w4 ⟨rfl, hE4⟩
    rw [sameB_refl]
    have HX4 := Lib.hid (HX3.out.trans hE4)
    have Hs_4 := Lib.hid (Hs_3.out.ext hE4)
    have Ht_4 := Lib.hid (Ht_3.out.ext hE4)
    clear hE4 HX3 Hs_3 Ht_3
    go_wp2_with fail
    refine (ppack_any (byN keep.length (spreadF l keep rest)) keep L2 K l2 kc 7 3 2 none 0 [] _ Hs_4.out (HK.out.ext HX4.out) (Rd.nil _ _ _) (by have := HKN.out; omega) (by decide) (by decide) (by decide)).mono ?_
    rw [HEQ.out]
    rintro ed w5 ⟨L4, l4, rfl, hO4, hE5⟩
    simp only at hO4 ⊢
    have HX5 := Lib.hid (HX4.out.trans hE5)
    have Hs_5 := Lib.hid (Hs_4.out.ext hE5)
    have Ht_5 := Lib.hid (Ht_4.out.ext hE5)
    have Hc_5 := Lib.hid (hO4.rd)
    clear hE5 HX4 Hs_4 Ht_4
    go_wp2_with fail
    clear Hs_5
    clear Ht_5
    refine (rwords_any _ _ _ _ _ Hc_5.out (HL.out.ext HX5.out)).mono ?_
    rintro ed w6 ⟨rfl, hE6⟩
    rw [sameB_refl]
    have HX6 := Lib.hid (HX5.out.trans hE6)
    have Hc_6 := Lib.hid (Hc_5.out.ext hE6)
    clear hE6 HX5 Hc_5
    clear Hc_6
    by_cases hlk : l.length ≠ keep.length
    · have hne : ((l.length : Int) != (keep.length : Int)) = true := by simp; omega
      have hnf : (l.length != keep.length) = true := by simp; omega
      go_wp2_with fail
      go_ret
      exact ⟨ret_bool (by first | rfl | simp), HX6.out⟩
    have hlk2 : l.length = keep.length := by omega
    have hne : ((l.length : Int) != (keep.length : Int)) = false := by simp; omega
    have hnf : (l.length != keep.length) = false := by simp; omega
    have HLK := Lib.hid hlk2
    obtain ⟨sp, ep⟩ := packP_good l keep 5 2 3 [] hlk2 (by decide) (by decide) (by decide)
    have HEP := Lib.hid ep
    have hsy := sprP_yes (packL l keep) keep rest (packL_len l keep).symm
    have HSY := Lib.hid hsy
    clear hlk hlk2 ep hsy
    go_wp2_with fail
    refine (ppack_any l keep L K lc kc 5 2 3 none 0 [] _ (HL.out.ext HX6.out) (HK.out.ext HX6.out) (Rd.nil _ _ _) (by have := HKN.out; omega) (by decide) (by decide) (by decide)).mono ?_
    rw [HEP.out]
    rintro ed w7 ⟨Lp, lp, rfl, hOp, hE7⟩
    simp only at hOp ⊢
    have HX7 := Lib.hid (HX6.out.trans hE7)
    have Ha_7 := Lib.hid (hOp.rd)
    clear hE7 HX6
    go_wp2_with fail
    refine (pspread_any (packL l keep) keep Lp K lp kc rest _ Ha_7.out (HK.out.ext HX7.out) (by have := HKN.out; omega) HR.out).mono ?_
    rw [HSY.out]
    rintro ed w8 ⟨Lb, lb, rfl, hOb, hE8⟩
    simp only at hOb ⊢
    rw [byN_len keep.length (spreadF (packL l keep) keep rest)] at hOb ⊢
    have HX8 := Lib.hid (HX7.out.trans hE8)
    have Ha_8 := Lib.hid (Ha_7.out.ext hE8)
    have Hb_8 := Lib.hid (hOb.rd)
    clear hE8 HX7 Ha_7
    have hnl : ((keep.length : Int) != (l.length : Int)) = false := by have := HLK.out; simp; omega
    have hng : (keep.length != l.length) = false := by have := HLK.out; simp; omega
    have HSP := Lib.hid (fun j (hj : j < keep.length) => (spread_pack l keep rest j hj).2)
    go_wp2_with fail
    go_loopw [19] (fun i wr => ∃ k : Nat, k ≤ l.length ∧ i = .int .i64 k ∧ Ext w8 wr) (fun i _ => l.length - (intOf i).toNat)
    case atStart => exact ⟨0, Nat.zero_le _, rfl, Ext.refl _⟩
    case round =>
      obtain ⟨k, hk, rfl, hX⟩ := hrel
      have HX := Lib.hid hX
      have hk0 : (0 : Int) ≤ k := by omega
      clear hX
      by_cases hlt : k < l.length
      · have hlt' : (k : Int) < l.length := by omega
        have hkk : k < keep.length := by have := HLK.out; omega
        have hkk' : (k : Int) < keep.length := by omega
        obtain ⟨bk, ok, rfl, y0⟩ := bool_at (HK.out.ext (HX8.out.trans HX.out)) k hkk
        obtain ⟨bl, ol, rfl, x0, hxl⟩ := u32_at (HL.out.ext (HX8.out.trans HX.out)) k hlt
        have hrb := Hb_8.out.ext HX.out
        obtain ⟨bz, oz, rfl, z0, hzl⟩ := u32_at (l := byN keep.length (spreadF (packL l keep) keep rest)) (by rw [byN_len]; exact hrb) k (by rw [byN_len]; exact hkk)
        have hsp := HSP.out k hkk
        have hsp' : (byN keep.length (spreadF (packL l keep) keep rest)).getD k 0 = if kept keep k = true then l.getD k 0 else rest := hsp
        rw [hsp'] at z0
        have lbk : bk < wr.heap.size := World.block_lt_of_cell? _ _ y0
        have lbl : bl < wr.heap.size := World.block_lt_of_cell? _ _ x0
        have lbz : bz < wr.heap.size := World.block_lt_of_cell? _ _ z0
        obtain ⟨p, hp⟩ : ∃ p, l.getD k 0 = p := ⟨_, rfl⟩
        rw [hp] at x0 z0
        clear hrb hsp hsp' hzl hxl hp
        have npp : ((p : Int) != (p : Int)) = false := by simp
        have nrr : ((rest : Int) != (rest : Int)) = false := by simp
        cases hkp : kept keep k with
        | true =>
          rw [hkp] at y0 z0
          rw [if_pos rfl] at z0
          have KS : Hid (∀ w', Ext wr w' → w'.cell? ⟨bk, ok + k, none⟩ = some (.bool true) ∧ w'.cell? ⟨bl, ol + k, none⟩ = some (.int .u32 p) ∧ w'.cell? ⟨bz, oz + k, none⟩ = some (.int .u32 p)) := Lib.hid (fun w' hE => ⟨hE.cell y0, hE.cell x0, hE.cell z0⟩)
          clear y0 x0 z0 hkp
          go_wp2_with fail
          refine wp_region_class (Ext wr) (by kernel_rfl) (by kernel_rfl) (Ext.refl _).drew ?_
          try simp only [List.append_eq, List.cons_append, List.nil_append]
          repeat (first
            | go_big_quiet_skip
            | (go_big_quiet_want
               first
               | (go_big_quiet_op; go_big_quiet_on)
               | (unfold Oper.quiet
                  apply Exists.intro
                  refine ⟨fun w' hC => ?_, ?_⟩
                  · (obtain ⟨k1, k2, k3⟩ := KS.out w' hC
                     unfold Oper.quietAt
                     go_simp
                     first
                     | exact rfl)
                  go_simp
                  go_big_quiet_on)))
          refine wpQuiet_nil ?_
          intro w9 hC9
          go_wp2_with fail
          go_roundw
          case rel => exact ⟨k + 1, by omega, by go_num, HX.out.trans hC9⟩
          case measure => simp [intOf]; omega
        | false =>
          rw [hkp] at y0 z0
          rw [if_neg (by decide)] at z0
          have KS : Hid (∀ w', Ext wr w' → w'.cell? ⟨bk, ok + k, none⟩ = some (.bool false) ∧ w'.cell? ⟨bl, ol + k, none⟩ = some (.int .u32 p) ∧ w'.cell? ⟨bz, oz + k, none⟩ = some (.int .u32 rest)) := Lib.hid (fun w' hE => ⟨hE.cell y0, hE.cell x0, hE.cell z0⟩)
          clear y0 x0 z0 hkp
          go_wp2_with fail
          refine wp_region_class (Ext wr) (by kernel_rfl) (by kernel_rfl) (Ext.refl _).drew ?_
          try simp only [List.append_eq, List.cons_append, List.nil_append]
          repeat (first
            | go_big_quiet_skip
            | (go_big_quiet_want
               first
               | (go_big_quiet_op; go_big_quiet_on)
               | (unfold Oper.quiet
                  apply Exists.intro
                  refine ⟨fun w' hC => ?_, ?_⟩
                  · (obtain ⟨k1, k2, k3⟩ := KS.out w' hC
                     unfold Oper.quietAt
                     go_simp
                     first
                     | exact rfl)
                  go_simp
                  go_big_quiet_on)))
          refine wpQuiet_nil ?_
          intro w9 hC9
          go_wp2_with fail
          go_roundw
          case rel => exact ⟨k + 1, by omega, by go_num, HX.out.trans hC9⟩
          case measure => simp [intOf]; omega
      · obtain rfl : k = l.length := by omega
        have HX6 := Lib.hid (HX8.out.trans HX.out)
        go_wp2_with fail
        go_ret
        exact ⟨ret_bool (by first | rfl | simp), HX6.out⟩
  · have hs := sprP_no l keep rest hw
    have HS := Lib.hid hs
    clear hs hw
    go_wp2_with fail
    refine (pspread_any l keep L K lc kc rest _ (HL.out.ext HX1.out) (HK.out.ext HX1.out) (by have := HKN.out; omega) HR.out).mono ?_
    rw [HS.out]
    rintro ed w2 ⟨L2, l2, rfl, hO2, hE2⟩
    simp only at hO2 ⊢
    have HX2 := Lib.hid (HX1.out.trans hE2)
    have Hs_2 := Lib.hid (hO2.rd)
    clear hE2 HX1
    go_wp2_with fail
    refine (rspread_any l keep L K lc kc rest _ (HL.out.ext HX2.out) (HK.out.ext HX2.out) (by have := HKN.out; omega) HR.out).mono ?_
    rw [HS.out]
    rintro ed w3 ⟨L3, l3, rfl, hO3, hE3⟩
    simp only at hO3 ⊢
    have HX3 := Lib.hid (HX2.out.trans hE3)
    have Hs_3 := Lib.hid (Hs_2.out.ext hE3)
    have Ht_3 := Lib.hid (hO3.rd)
    clear hE3 HX2 Hs_2
    go_wp2_with fail
    refine (rwords_any _ _ _ _ _ Hs_3.out Ht_3.out).mono ?_
    rintro ed w4 ⟨rfl, hE4⟩
    rw [sameB_refl]
    have HX4 := Lib.hid (HX3.out.trans hE4)
    have Hs_4 := Lib.hid (Hs_3.out.ext hE4)
    have Ht_4 := Lib.hid (Ht_3.out.ext hE4)
    clear hE4 HX3 Hs_3 Ht_3
    clear Hs_4
    clear Ht_4
    by_cases hlk : l.length ≠ keep.length
    · have hne : ((l.length : Int) != (keep.length : Int)) = true := by simp; omega
      have hnf : (l.length != keep.length) = true := by simp; omega
      go_wp2_with fail
      go_ret
      exact ⟨ret_bool (by first | rfl | simp), HX4.out⟩
    have hlk2 : l.length = keep.length := by omega
    have hne : ((l.length : Int) != (keep.length : Int)) = false := by simp; omega
    have hnf : (l.length != keep.length) = false := by simp; omega
    have HLK := Lib.hid hlk2
    obtain ⟨sp, ep⟩ := packP_good l keep 5 2 3 [] hlk2 (by decide) (by decide) (by decide)
    have HEP := Lib.hid ep
    have hsy := sprP_yes (packL l keep) keep rest (packL_len l keep).symm
    have HSY := Lib.hid hsy
    clear hlk hlk2 ep hsy
    go_wp2_with fail
    refine (ppack_any l keep L K lc kc 5 2 3 none 0 [] _ (HL.out.ext HX4.out) (HK.out.ext HX4.out) (Rd.nil _ _ _) (by have := HKN.out; omega) (by decide) (by decide) (by decide)).mono ?_
    rw [HEP.out]
    rintro ed w5 ⟨Lp, lp, rfl, hOp, hE5⟩
    simp only at hOp ⊢
    have HX5 := Lib.hid (HX4.out.trans hE5)
    have Ha_5 := Lib.hid (hOp.rd)
    clear hE5 HX4
    go_wp2_with fail
    refine (pspread_any (packL l keep) keep Lp K lp kc rest _ Ha_5.out (HK.out.ext HX5.out) (by have := HKN.out; omega) HR.out).mono ?_
    rw [HSY.out]
    rintro ed w6 ⟨Lb, lb, rfl, hOb, hE6⟩
    simp only at hOb ⊢
    rw [byN_len keep.length (spreadF (packL l keep) keep rest)] at hOb ⊢
    have HX6 := Lib.hid (HX5.out.trans hE6)
    have Ha_6 := Lib.hid (Ha_5.out.ext hE6)
    have Hb_6 := Lib.hid (hOb.rd)
    clear hE6 HX5 Ha_5
    have hnl : ((keep.length : Int) != (l.length : Int)) = false := by have := HLK.out; simp; omega
    have hng : (keep.length != l.length) = false := by have := HLK.out; simp; omega
    have HSP := Lib.hid (fun j (hj : j < keep.length) => (spread_pack l keep rest j hj).2)
    go_wp2_with fail
    go_loopw [19] (fun i wr => ∃ k : Nat, k ≤ l.length ∧ i = .int .i64 k ∧ Ext w6 wr) (fun i _ => l.length - (intOf i).toNat)
    case atStart => exact ⟨0, Nat.zero_le _, rfl, Ext.refl _⟩
    case round =>
      obtain ⟨k, hk, rfl, hX⟩ := hrel
      have HX := Lib.hid hX
      have hk0 : (0 : Int) ≤ k := by omega
      clear hX
      by_cases hlt : k < l.length
      · have hlt' : (k : Int) < l.length := by omega
        have hkk : k < keep.length := by have := HLK.out; omega
        have hkk' : (k : Int) < keep.length := by omega
        obtain ⟨bk, ok, rfl, y0⟩ := bool_at (HK.out.ext (HX6.out.trans HX.out)) k hkk
        obtain ⟨bl, ol, rfl, x0, hxl⟩ := u32_at (HL.out.ext (HX6.out.trans HX.out)) k hlt
        have hrb := Hb_6.out.ext HX.out
        obtain ⟨bz, oz, rfl, z0, hzl⟩ := u32_at (l := byN keep.length (spreadF (packL l keep) keep rest)) (by rw [byN_len]; exact hrb) k (by rw [byN_len]; exact hkk)
        have hsp := HSP.out k hkk
        have hsp' : (byN keep.length (spreadF (packL l keep) keep rest)).getD k 0 = if kept keep k = true then l.getD k 0 else rest := hsp
        rw [hsp'] at z0
        have lbk : bk < wr.heap.size := World.block_lt_of_cell? _ _ y0
        have lbl : bl < wr.heap.size := World.block_lt_of_cell? _ _ x0
        have lbz : bz < wr.heap.size := World.block_lt_of_cell? _ _ z0
        obtain ⟨p, hp⟩ : ∃ p, l.getD k 0 = p := ⟨_, rfl⟩
        rw [hp] at x0 z0
        clear hrb hsp hsp' hzl hxl hp
        have npp : ((p : Int) != (p : Int)) = false := by simp
        have nrr : ((rest : Int) != (rest : Int)) = false := by simp
        cases hkp : kept keep k with
        | true =>
          rw [hkp] at y0 z0
          rw [if_pos rfl] at z0
          have KS : Hid (∀ w', Ext wr w' → w'.cell? ⟨bk, ok + k, none⟩ = some (.bool true) ∧ w'.cell? ⟨bl, ol + k, none⟩ = some (.int .u32 p) ∧ w'.cell? ⟨bz, oz + k, none⟩ = some (.int .u32 p)) := Lib.hid (fun w' hE => ⟨hE.cell y0, hE.cell x0, hE.cell z0⟩)
          clear y0 x0 z0 hkp
          go_wp2_with fail
          refine wp_region_class (Ext wr) (by kernel_rfl) (by kernel_rfl) (Ext.refl _).drew ?_
          try simp only [List.append_eq, List.cons_append, List.nil_append]
          repeat (first
            | go_big_quiet_skip
            | (go_big_quiet_want
               first
               | (go_big_quiet_op; go_big_quiet_on)
               | (unfold Oper.quiet
                  apply Exists.intro
                  refine ⟨fun w' hC => ?_, ?_⟩
                  · (obtain ⟨k1, k2, k3⟩ := KS.out w' hC
                     unfold Oper.quietAt
                     go_simp
                     first
                     | exact rfl)
                  go_simp
                  go_big_quiet_on)))
          refine wpQuiet_nil ?_
          intro w9 hC9
          go_wp2_with fail
          go_roundw
          case rel => exact ⟨k + 1, by omega, by go_num, HX.out.trans hC9⟩
          case measure => simp [intOf]; omega
        | false =>
          rw [hkp] at y0 z0
          rw [if_neg (by decide)] at z0
          have KS : Hid (∀ w', Ext wr w' → w'.cell? ⟨bk, ok + k, none⟩ = some (.bool false) ∧ w'.cell? ⟨bl, ol + k, none⟩ = some (.int .u32 p) ∧ w'.cell? ⟨bz, oz + k, none⟩ = some (.int .u32 rest)) := Lib.hid (fun w' hE => ⟨hE.cell y0, hE.cell x0, hE.cell z0⟩)
          clear y0 x0 z0 hkp
          go_wp2_with fail
          refine wp_region_class (Ext wr) (by kernel_rfl) (by kernel_rfl) (Ext.refl _).drew ?_
          try simp only [List.append_eq, List.cons_append, List.nil_append]
          repeat (first
            | go_big_quiet_skip
            | (go_big_quiet_want
               first
               | (go_big_quiet_op; go_big_quiet_on)
               | (unfold Oper.quiet
                  apply Exists.intro
                  refine ⟨fun w' hC => ?_, ?_⟩
                  · (obtain ⟨k1, k2, k3⟩ := KS.out w' hC
                     unfold Oper.quietAt
                     go_simp
                     first
                     | exact rfl)
                  go_simp
                  go_big_quiet_on)))
          refine wpQuiet_nil ?_
          intro w9 hC9
          go_wp2_with fail
          go_roundw
          case rel => exact ⟨k + 1, by omega, by go_num, HX.out.trans hC9⟩
          case measure => simp [intOf]; omega
      · obtain rfl : k = l.length := by omega
        have HX6 := Lib.hid (HX6.out.trans HX.out)
        go_wp2_with fail
        go_ret
        exact ⟨ret_bool (by first | rfl | simp), HX6.out⟩
end Go.Proofs.Ytbedfjbnafflfaa
