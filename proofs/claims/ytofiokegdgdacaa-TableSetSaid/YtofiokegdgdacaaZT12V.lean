/- TableSet: the law returns true. -/
import Derived.Test.YtofiokegdgdacaaJ6
import Derived.Test.YtofiokegdgdacaaZT12U
set_option linter.unusedVariables false
set_option linter.unusedSimpArgs false
set_option linter.unnecessarySimpa false
namespace Go.Proofs.Ytofiokegdgdacaa
open Go.BigFrame
open Go.RowKit Go.Proofs.Ytofiokegdgdacaa.Plain

theorem put_meetR {w2 w7 : World} {P n m : Nat} {C7 F7 : Option Addr} {c7 f7 : Nat} {xs : List Int} {fs : List Bool} {a b c : Value} (bx : Bx w2.heap.size P w7) (hC : Rd kU32 w7 (.slice C7 n c7) xs) (hF : Rd kBool w7 (.slice F7 m f7) fs) (hx : Ext w2 w7) :
    ((((w7.setCell ⟨P, 0, none⟩ a).setCell ⟨P, 1, none⟩ b).setCell ⟨P, 2, none⟩ c).cell? ⟨P, 0, none⟩ = some a ∧ (((w7.setCell ⟨P, 0, none⟩ a).setCell ⟨P, 1, none⟩ b).setCell ⟨P, 2, none⟩ c).cell? ⟨P, 1, none⟩ = some b ∧ (((w7.setCell ⟨P, 0, none⟩ a).setCell ⟨P, 1, none⟩ b).setCell ⟨P, 2, none⟩ c).cell? ⟨P, 2, none⟩ = some c) ∧ Rd kU32 (((w7.setCell ⟨P, 0, none⟩ a).setCell ⟨P, 1, none⟩ b).setCell ⟨P, 2, none⟩ c) (.slice C7 n c7) xs ∧ Rd kBool (((w7.setCell ⟨P, 0, none⟩ a).setCell ⟨P, 1, none⟩ b).setCell ⟨P, 2, none⟩ c) (.slice F7 m f7) fs ∧ Ext w2 (((w7.setCell ⟨P, 0, none⟩ a).setCell ⟨P, 1, none⟩ b).setCell ⟨P, 2, none⟩ c) := by
  obtain ⟨c0, c1, c2, cf, lo, hi⟩ := bx
  refine ⟨⟨by go_simp, by go_simp, by go_simp⟩, ?_, ?_, ((hx.setCell (p := ⟨P, 0, none⟩) lo _).setCell (p := ⟨P, 1, none⟩) lo _).setCell (p := ⟨P, 2, none⟩) lo _⟩
  · exact hC.boxed c0 c1 c2 cf (fun a => by simp [kU32]) (fun a => by simp [kU32]) (fun a => by simp [kU32]) _ _ _
  · exact hF.boxed c0 c1 c2 cf (fun a => by simp [kBool]) (fun a => by simp [kBool]) (fun a => by simp [kBool]) _ _ _
set_option maxHeartbeats 6400000 in
set_option maxRecDepth 100000 in
theorem tableset_any (b : Int) (l : List Nat) (L : Option Addr) (lc : Nat) (d : List Nat) (O : Option Addr) (oc : Nat) (W : World) (hL : Rd kU32 W (.slice L l.length lc) (zs l)) (hO : Rd kU32 W (.slice O d.length oc) (zs d)) (hb : 0 ≤ b ∧ b ≤ 255) :
    Calls Try.prog 4 #[.int .u8 b, .slice L l.length lc, .slice O d.length oc] W fun ed w' => ed = .returned (.bool true) ∧ Ext W w' := by
  have HL := Lib.hid hL
  have HQ := Lib.hid hO
  obtain ⟨b0, b1⟩ := hb
  obtain ⟨A1, hA1⟩ : ∃ A : Nat, b.tmod 6 = (A : Int) := ⟨(b % 6).toNat, by rw [Int.tmod_eq_emod_of_nonneg b0]; omega⟩
  have hA2 : A1 < 6 := by rw [Int.tmod_eq_emod_of_nonneg b0] at hA1; omega
  obtain ⟨B, hB⟩ : ∃ B : Nat, (1 : Int) + A1 = B := ⟨1 + A1, by omega⟩
  have hB1 : 1 ≤ B := by omega
  have hB2 : B ≤ 6 := by omega
  have hB9 : IntKind.i64.wrap (B : Int) = B := IntWalk.i64_in _ (by omega)
  have hwa : IntKind.i64.wrap b = b := IntWalk.i64_in _ (by omega)
  have hwb : IntKind.i64.wrap (A1 : Int) = A1 := IntWalk.i64_in _ (by omega)
  have HBI : Hid (in64 (B : Int)) := Lib.hid (in64_nat B (by omega))
  clear hL hO hA2
  go_enter Try.func4, Try.ntmps4
  go_wp2_with fail
  refine (tablealive_any _).mono ?_
  rintro ed w1 ⟨rfl, hE1⟩
  have HX1 := Lib.hid hE1
  clear hE1
  by_cases h3 : (30 : Int) < l.length
  · go_wp2_with fail
    go_ret
    exact ⟨rfl, HX1.out⟩
  have h3' : (l.length : Int) ≤ 30 := by omega
  by_cases h4 : (30 : Int) < d.length
  · go_wp2_with fail
    go_ret
    exact ⟨rfl, HX1.out⟩
  have h4' : (d.length : Int) ≤ 30 := by omega
  clear h3 h4
  have hns : 2 ^ B ≤ 64 := by have := Nat.pow_le_pow_right (n := 2) (by decide) hB2; simpa using this
  have hn0 : 0 < 2 ^ B := Nat.two_pow_pos B
  obtain ⟨N, hN⟩ : ∃ N, 2 ^ B = N := ⟨_, rfl⟩
  have HP1 : Hid (∀ ks xs : List Nat, ks.Pairwise (· < ·) → ks.length ≤ N * 3 / 4 → putP ⟨B, cellsT (fillT B ks), fullT (fillT B ks)⟩ xs = if N * 3 / 4 < (risingR (ks ++ xs)).length then (⟨B, cellsT (fillT B ks), fullT (fillT B ks)⟩, 2) else (⟨B, cellsT (fillT B (risingR (ks ++ xs))), fullT (fillT B (risingR (ks ++ xs)))⟩, 0)) := Lib.hid fun ks xs h1 h2 => by
    rw [← hN] at h2 ⊢; exact put_one hB1 (by omega) h1 h2 xs
  have HP2 : Hid (∀ ks xs : List Nat, ks.Pairwise (· < ·) → ks.length ≤ N * 3 / 4 → dropP ⟨B, cellsT (fillT B ks), fullT (fillT B ks)⟩ xs = (⟨B, cellsT (fillT B (withoutL ks xs)), fullT (fillT B (withoutL ks xs))⟩, 0)) := Lib.hid fun ks xs h1 h2 => by
    rw [← hN] at h2; exact drop_made hB1 (by omega) h1 h2 xs
  have HP3 : Hid (∀ ks : List Nat, ks.Pairwise (· < ·) → ks.length ≤ N * 3 / 4 → makeP (B : Int) ks = (⟨B, cellsT (fillT B ks), fullT (fillT B ks)⟩, 0)) := Lib.hid fun ks h1 h2 => by
    rw [← hN] at h2; exact make_self hB1 (by omega) h1 h2
  have HP4 : Hid (∀ ks : List Nat, ks.Pairwise (· < ·) → ks.length ≤ N * 3 / 4 → keysP ⟨B, cellsT (fillT B ks), fullT (fillT B ks)⟩ = ks) := Lib.hid fun ks h1 h2 => by
    rw [← hN] at h2; exact keys_of h1 h2
  have HP5 : Hid (∀ ks : List Nat, ks.Pairwise (· < ·) → ks.length ≤ N * 3 / 4 → ∀ key fp fk fo, findP ⟨B, cellsT (fillT B ks), fullT (fillT B ks)⟩ key = (fp, fk, fo) → Near B N (fillT B ks) ks key fp fk fo (homeN B key)) := Lib.hid fun ks h1 h2 key fp fk fo hf => by
    rw [← hN] at h2 ⊢; exact near_of hB1 (by omega) h1 h2 key fp fk fo hf
  have HLEN : Hid (∀ ks : List Nat, ks.Pairwise (· < ·) → ks.length ≤ N * 3 / 4 → (cellsT (fillT B ks)).length = N ∧ (fullT (fillT B ks)).length = N) := Lib.hid fun ks h1 h2 => by
    rw [← hN] at h2 ⊢; rw [cellsT_len, fullT_len]; exact ⟨(inv_of h1 h2).len, (inv_of h1 h2).len⟩
  have hN64 : N ≤ 64 := by omega
  have hN0 : 0 < N := by omega
  clear hns hn0 hN
  have h0p : ([] : List Nat).Pairwise (· < ·) := List.Pairwise.nil
  have h0l : ([] : List Nat).length ≤ N * 3 / 4 := Nat.zero_le _
  go_wp2_with fail
  refine (pmake12_to B [] 0 none 0 B (cellsT (fillT B [])) (fullT (fillT B [])) 0 N N _ (Rd.nil _ _ _) rfl (by decide) HBI.out (HP3.out [] h0p h0l) (HLEN.out [] h0p h0l).1 (HLEN.out [] h0p h0l).2).mono ?_
  rintro ed w2 ⟨C2, F2, c2, f2, rfl, hC2, hF2, hE2⟩
  have HX2 := Lib.hid (HX1.out.trans hE2)
  have HT2 := Lib.hid (TabIn.new (B := B) (N := N) (ks := []) hC2 hF2)
  clear hE2 hC2 hF2 HX1 hA1 hB hB9 hwa hwb b0 b1 hB1 hB2
  go_wp2_with fail
  go_loopw [10] (fun i wr => ∃ (k : Nat) (ks : List Nat), k ≤ l.length ∧ i = .int .i64 k ∧ ks.Pairwise (· < ·) ∧ ks.length ≤ N * 3 / 4 ∧ TabIn B N w2.heap.size ks wr ∧ Ext w2 wr) (fun i _ => l.length - (intOf i).toNat)
  case atStart => exact ⟨0, [], Nat.zero_le _, rfl, h0p, h0l, HT2.out, (Ext.refl _).alloc _⟩
  case round =>
    obtain ⟨i, ks, hi, rfl, hkp, hkl, hT, hX⟩ := hrel
    have HX := Lib.hid hX
    have HK := Lib.hid (And.intro hkp hkl)
    have HT := Lib.hid hT
    have hi0 : (0 : Int) ≤ i := by omega
    clear hX hkp hkl hT HT2
    by_cases hlt : i < l.length
    · have hlt' : (i : Int) < l.length := by omega
      have hlc : l.length ≤ lc := by obtain ⟨_, _, hs, hc⟩ := HL.out.slice; rw [zs_len] at hs hc; cases hs; exact hc
      have hlc' : (l.length : Int) ≤ lc := by omega
      have hone := Rd.oneAt (HL.out.ext (HX2.out.trans HX.out)) i hlt
      obtain ⟨x, hx⟩ : ∃ x, l.getD i 0 = x := ⟨_, rfl⟩
      rw [hx] at hone
      have hlcne : lc ≠ i := by omega
      rw [if_neg hlcne] at hone
      have HONE := Lib.hid hone
      have hia : (0 : Int) ≤ (i : Int) + 1 := by omega
      have hib : (i : Int) + 1 ≤ lc := by omega
      obtain ⟨⟨⟨ub, uc, uf⟩, ue⟩, hu⟩ : ∃ r, putP ⟨B, cellsT (fillT B ks), fullT (fillT B ks)⟩ [x] = r := ⟨_, rfl⟩
      have hput := HP1.out ks [x] HK.out.1 HK.out.2
      rw [hu] at hput
      have hr := (risingR_good _ (ks ++ [x]) rfl).1
      obtain ⟨rs, hrs⟩ : ∃ rs, risingR (ks ++ [x]) = rs := ⟨_, rfl⟩
      rw [hrs] at hput hr
      obtain ⟨C, F, c, f, ⟨p0, p1, p2⟩, pf, hC, hF⟩ := HT.out
      have HC := Lib.hid hC
      have HF := Lib.hid hF
      have hul : uc.length = N ∧ uf.length = N := by
        by_cases h9 : N * 3 / 4 < rs.length
        · rw [if_pos h9] at hput
          simp only [Prod.mk.injEq, Tb.mk.injEq] at hput
          rw [hput.1.2.1, hput.1.2.2]; exact HLEN.out ks HK.out.1 HK.out.2
        · rw [if_neg h9] at hput
          simp only [Prod.mk.injEq, Tb.mk.injEq] at hput
          rw [hput.1.2.1, hput.1.2.2]; exact HLEN.out rs hr (by omega)
      have HUL := Lib.hid hul
      have HU := Lib.hid hu
      have HR := Lib.hid (And.intro hr hput)
      have HKL := Lib.hid (HLEN.out ks HK.out.1 HK.out.2)
      have hwi : IntKind.i64.wrap ((i : Int) + 1) = (i : Int) + 1 := IntWalk.i64_in _ (by omega)
      have hP : w2.heap.size < wr.heap.size := World.block_lt_of_cell? _ _ p0
      clear hx hone hC hF hu hput hr hrs hul
      -- REGION
      go_wp2_with fail
      go_cut [11, 12] from 53 to 62 (fun p e wx => ∃ (Q : Nat) (C' F' : Option Addr) (c' f' : Nat), p = .pointer (some ⟨Q, 0, none⟩) ∧ e = .int .i64 ue ∧ wr.heap.size ≤ Q ∧ (wx.cell? ⟨Q, 0, none⟩ = some (.int .i64 ub) ∧ wx.cell? ⟨Q, 1, none⟩ = some (.slice C' N c') ∧ wx.cell? ⟨Q, 2, none⟩ = some (.slice F' N f')) ∧ Rd kU32 wx (.slice C' N c') (zs uc) ∧ Rd kBool wx (.slice F' N f') uf ∧ Ext wr wx)
      case first =>
        go_region_law (first
          | (go_simp; go_at_call 8
             refine (pput12_to B (cellsT (fillT B ks)) (fullT (fillT B ks)) N N C F c f [x] 1 (Option.map (fun x => x.add i) L) (lc - i) ub uc uf ue N N _ (HC.out.ext (by repeat (first | (with_reducible exact Ext.refl _) | (with_reducible assumption) | refine Ext.drew ?_ | refine Ext.drewN ?_ _ | refine Ext.alloc ?_ _))) (HF.out.ext (by repeat (first | (with_reducible exact Ext.refl _) | (with_reducible assumption) | refine Ext.drew ?_ | refine Ext.drewN ?_ _ | refine Ext.alloc ?_ _))) HKL.out.1 HKL.out.2 (by rw [HKL.out.1]; omega) (by rw [HKL.out.2]; omega) HBI.out (HONE.out.ext (by repeat (first | (with_reducible exact Ext.refl _) | (with_reducible assumption) | refine Ext.drew ?_ | refine Ext.drewN ?_ _ | refine Ext.alloc ?_ _))) rfl (by simp) HU.out HUL.out.1 HUL.out.2).mono ?_
             rintro ed w5 ⟨C5, F5, c5, f5, rfl, hC5, hF5, hE5⟩
             have hx5 : Ext wr w5 := Ext.trans (by repeat (first | (with_reducible exact Ext.refl _) | (with_reducible assumption) | refine Ext.drew ?_ | refine Ext.drewN ?_ _ | refine Ext.alloc ?_ _)) hE5
             have hs5 := hx5.size
             have hs9 := hE5.size
             first
               | have bx5 : Bx wr.heap.size wr.heap.size w5 := (Bx.new (w := wr) (Nat.le_refl _)).ext (Ext.trans (by first | ((repeat (first | (with_reducible exact Ext.refl _) | (with_reducible assumption) | refine Ext.drew ?_ | refine Ext.drewN ?_ _ | refine Ext.alloc ?_ _)); done) | fail) hE5)
               | skip
             try obtain ⟨vc0, vc1, vc2, vf, vlo, vhi⟩ := id bx5)
          | fail)
        all_goals go_wp2_with fail
        all_goals go_meet
        all_goals first
          | (have h9 := put_meetR (a := .int .i64 ub) (b := .slice C5 N c5) (c := .slice F5 N f5) bx5 hC5 hF5 hx5
             exact ⟨_, C5, F5, c5, f5, rfl, rfl, bx5.lo, h9.1, h9.2.1, h9.2.2.1, h9.2.2.2⟩)
          | (refine ⟨w5.heap.size, C5, F5, c5, f5, ?_, ?_, hs5, ⟨?_, ?_, ?_⟩, ?_, ?_, ?_⟩
             · with_reducible rfl
             · with_reducible rfl
             · (first | (go_simp; done) | fail)
             · (first | (go_simp; done) | fail)
             · (first | (go_simp; done) | fail)
             · exact hC5.ext ((Ext.refl _).alloc _)
             · exact hF5.ext ((Ext.refl _).alloc _)
             · exact hx5.alloc _)
          | fail
      case rest =>
      obtain ⟨Q, C', F', c', f', rfl, rfl, hQ, ⟨q0, q1, q2⟩, hUC, hUF, hXc⟩ := hcut
      generalize wc = w6 at *
      have HT6 := Lib.hid (HT.out.ext hXc)
      have HUC := Lib.hid hUC
      have HUF := Lib.hid hUF
      have HX6 := Lib.hid (HX.out.trans hXc)
      obtain ⟨r1, r2⟩ := HR.out
      clear hXc hUC hUF HC HF p0 p1 p2 pf hP
      obtain ⟨C6, F6, c6, f6, ⟨p0, p1, p2⟩, pf, hC6, hF6⟩ := HT6.out
      have hP6 : w2.heap.size < w6.heap.size := World.block_lt_of_cell? _ _ p0
      have hQ6 : Q < w6.heap.size := World.block_lt_of_cell? _ _ q0
      have HC6 := Lib.hid hC6
      have HF6 := Lib.hid hF6
      clear hC6 hF6
      by_cases h9 : N * 3 / 4 < rs.length
      · rw [if_pos h9] at r2
        simp only [Prod.mk.injEq, Tb.mk.injEq] at r2
        obtain ⟨⟨rfl, rfl, rfl⟩, rfl⟩ := r2
        clear h9 r1
        go_wp2_with fail
        refine (rsame12_to B (cellsT (fillT B ks)) (fullT (fillT B ks)) N N C' F' c' f' B (cellsT (fillT B ks)) (fullT (fillT B ks)) N N C6 F6 c6 f6 true _ HUC.out HUF.out HKL.out.1 HKL.out.2 HC6.out HF6.out HKL.out.1 HKL.out.2 (by rw [HKL.out.2]; omega) (same_self _)).mono ?_
        rintro ed w7 ⟨rfl, hE7⟩
        have HT7 := Lib.hid (HT6.out.ext hE7)
        have HX7 := Lib.hid (HX6.out.trans hE7)
        clear hE7
        go_wp2_with fail
        go_roundw
        case rel => exact ⟨i + 1, ks, by omega, by go_num, HK.out.1, HK.out.2, HT7.out, HX7.out⟩
        case measure => simp [intOf]; omega
      · rw [if_neg h9] at r2
        simp only [Prod.mk.injEq, Tb.mk.injEq] at r2
        obtain ⟨⟨rfl, rfl, rfl⟩, rfl⟩ := r2
        have HRR := Lib.hid (And.intro r1 (Nat.le_of_not_lt h9))
        clear h9 r1
        go_wp2_with fail
        go_roundw
        case rel => exact ⟨i + 1, rs, by omega, by go_num, HRR.out.1, HRR.out.2, HT6.out.put HUC.out HUF.out, ((HX6.out.setCell (p := ⟨w2.heap.size, 0, none⟩) (Nat.le_refl _) _).setCell (p := ⟨w2.heap.size, 1, none⟩) (Nat.le_refl _) _).setCell (p := ⟨w2.heap.size, 2, none⟩) (Nat.le_refl _) _⟩
        case measure => simp [intOf]; omega
    · obtain rfl : i = l.length := by omega
      clear hi0 hlt
      have HKL := Lib.hid (HLEN.out ks HK.out.1 HK.out.2)
      have hkl9 : ks.length ≤ 64 := by have := HK.out.2; omega
      obtain ⟨C, F, c, f, ⟨p0, p1, p2⟩, pf, hC, hF⟩ := HT.out
      have HC := Lib.hid hC
      have HF := Lib.hid hF
      have hP : w2.heap.size < wr.heap.size := World.block_lt_of_cell? _ _ p0
      clear hC hF
      go_wp2_with fail
      refine (pkeys12_to B (cellsT (fillT B ks)) (fullT (fillT B ks)) N N C F c f ks ks.length _ HC.out HF.out HKL.out.1 HKL.out.2 (by rw [HKL.out.1]; omega) (by rw [HKL.out.2]; omega) HBI.out (HP4.out ks HK.out.1 HK.out.2) rfl).mono ?_
      rintro ed w7 ⟨La, la, rfl, hka, hE7⟩
      replace p0 := Ext.cell hE7 p0
      replace p1 := Ext.cell hE7 p1
      replace p2 := Ext.cell hE7 p2
      have HT7 := Lib.hid (HT.out.ext hE7)
      have HX7 := Lib.hid (HX.out.trans hE7)
      have HA7 := Lib.hid hka
      have hP7 : w2.heap.size < w7.heap.size := World.block_lt_of_cell? _ _ p0
      have HC7 := Lib.hid (HC.out.ext hE7)
      have HF7 := Lib.hid (HF.out.ext hE7)
      clear hE7 hka HT HX HC HF hP pf
      go_wp2_with fail
      refine (pmake12_to B ks ks.length La la B (cellsT (fillT B ks)) (fullT (fillT B ks)) 0 N N _ HA7.out rfl (by omega) HBI.out (HP3.out ks HK.out.1 HK.out.2) HKL.out.1 HKL.out.2).mono ?_
      rintro ed w8 ⟨C8, F8, c8, f8, rfl, hC8, hF8, hE8⟩
      replace p0 := Ext.cell hE8 p0
      replace p1 := Ext.cell hE8 p1
      replace p2 := Ext.cell hE8 p2
      have hP8 : w2.heap.size < w8.heap.size := World.block_lt_of_cell? _ _ p0
      have HT8 := Lib.hid (HT7.out.ext hE8)
      have HX8 := Lib.hid (HX7.out.trans hE8)
      have HA8 := Lib.hid (HA7.out.ext hE8)
      have HC8 := Lib.hid (HC7.out.ext hE8)
      have HF8 := Lib.hid (HF7.out.ext hE8)
      have HN8 := Lib.hid (TabIn.new (B := B) (N := N) (ks := ks) hC8 hF8)
      have HCn := Lib.hid hC8
      have HFn := Lib.hid hF8
      clear hE8 hC8 hF8 HT7 HX7 HA7 HC7 HF7 hP7
      go_wp2_with fail
      refine (rsame12_to B (cellsT (fillT B ks)) (fullT (fillT B ks)) N N C8 F8 c8 f8 B (cellsT (fillT B ks)) (fullT (fillT B ks)) N N C F c f true _ (HCn.out.ext ((Ext.refl _).alloc _)) (HFn.out.ext ((Ext.refl _).alloc _)) HKL.out.1 HKL.out.2 (HC8.out.ext ((Ext.refl _).alloc _)) (HF8.out.ext ((Ext.refl _).alloc _)) HKL.out.1 HKL.out.2 (by rw [HKL.out.2]; omega) (same_self _)).mono ?_
      rintro ed w9 ⟨rfl, hE9⟩
      have hF9 := ((Ext.refl w8).alloc (.cells #[.int .i64 B, .slice C8 N c8, .slice F8 N f8] 25)).trans hE9
      have HT9 := Lib.hid (HT8.out.ext hF9)
      have HX9 := Lib.hid (HX8.out.trans hF9)
      have HA9 := Lib.hid (HA8.out.ext hF9)
      have HN9 := Lib.hid (HN8.out.ext hE9)
      have hne9 : w8.heap.size ≠ w2.heap.size := by omega
      clear hE9 hF9 HT8 HX8 HA8 HC8 HF8 HN8 HCn HFn p0 p1 p2
      go_wp2_with fail
      go_loopw [16] (fun i wr => ∃ k : Nat, k ≤ d.length ∧ i = .int .i64 k ∧ TabIn B N w2.heap.size (withoutL ks (d.take k)) wr ∧ TabIn B N w8.heap.size ks wr ∧ Rd kU32 wr (.slice La ks.length la) (zs ks) ∧ Ext w2 wr) (fun i _ => d.length - (intOf i).toNat)
      case atStart => exact ⟨0, Nat.zero_le _, rfl, by rw [List.take_zero, without_nil]; exact HT9.out, HN9.out, HA9.out, HX9.out⟩
      case round =>
        obtain ⟨i, hi, rfl, hT, hN9, hA9, hX⟩ := hrel
        have HX := Lib.hid hX
        have HT := Lib.hid hT
        have HW := Lib.hid hN9
        have HA := Lib.hid hA9
        have hi0 : (0 : Int) ≤ i := by omega
        have hkd := without_rise HK.out.1 (d.take i)
        obtain ⟨kd, hkdx⟩ : ∃ kd, withoutL ks (d.take i) = kd := ⟨_, rfl⟩
        rw [hkdx] at hkd HT
        have HKK : Hid (kd.Pairwise (· < ·) ∧ kd.length ≤ N * 3 / 4) := Lib.hid ⟨hkd.1, Nat.le_trans hkd.2 HK.out.2⟩
        have HKD := Lib.hid (HLEN.out kd HKK.out.1 HKK.out.2)
        have HKX := Lib.hid hkdx
        clear hX hT hN9 hA9 HT9 HX9 HA9 HN9 hkd hkdx
        by_cases hlt : i < d.length
        · have hlt' : (i : Int) < d.length := by omega
          have hlc : d.length ≤ oc := by obtain ⟨_, _, hs, hc⟩ := HQ.out.slice; rw [zs_len] at hs hc; cases hs; exact hc
          have hlc' : (d.length : Int) ≤ oc := by omega
          have hone := Rd.oneAt (HQ.out.ext (HX2.out.trans HX.out)) i hlt
          have htk := takeN_snoc hlt
          obtain ⟨x, hx⟩ : ∃ x, d.getD i 0 = x := ⟨_, rfl⟩
          rw [hx] at hone htk
          have hlcne : oc ≠ i := by omega
          rw [if_neg hlcne] at hone
          have HONE := Lib.hid hone
          have hnext : withoutL ks (d.take (i + 1)) = withoutL kd [x] := by rw [htk, without_more, HKX.out]
          have HNX := Lib.hid hnext
          have hia : (0 : Int) ≤ (i : Int) + 1 := by omega
          have hib : (i : Int) + 1 ≤ oc := by omega
          have HU := Lib.hid (HP2.out kd [x] HKK.out.1 HKK.out.2)
          have hw9 := without_rise HKK.out.1 [x]
          have HUL := Lib.hid (HLEN.out (withoutL kd [x]) hw9.1 (Nat.le_trans hw9.2 HKK.out.2))
          obtain ⟨C, F, c, f, ⟨p0, p1, p2⟩, pf, hC, hF⟩ := HT.out
          have HC := Lib.hid hC
          have HF := Lib.hid hF
          have hwi : IntKind.i64.wrap ((i : Int) + 1) = (i : Int) + 1 := IntWalk.i64_in _ (by omega)
          have hP : w2.heap.size < wr.heap.size := World.block_lt_of_cell? _ _ p0
          clear hx hone hC hF htk hnext hw9
          go_wp2_with fail
          go_cut [17, 18] from 96 to 105 (fun p e wx => ∃ (Q : Nat) (C' F' : Option Addr) (c' f' : Nat), p = .pointer (some ⟨Q, 0, none⟩) ∧ e = .int .i64 0 ∧ wr.heap.size ≤ Q ∧ (wx.cell? ⟨Q, 0, none⟩ = some (.int .i64 B) ∧ wx.cell? ⟨Q, 1, none⟩ = some (.slice C' N c') ∧ wx.cell? ⟨Q, 2, none⟩ = some (.slice F' N f')) ∧ Rd kU32 wx (.slice C' N c') (zs (cellsT (fillT B (withoutL kd [x])))) ∧ Rd kBool wx (.slice F' N f') (fullT (fillT B (withoutL kd [x]))) ∧ Ext wr wx)
          case first =>
            go_region_law (first
              | (go_simp; go_at_call 10
                 refine (pdrop12_to B (cellsT (fillT B kd)) (fullT (fillT B kd)) N N C F c f [x] 1 (Option.map (fun x => x.add i) O) (oc - i) B (cellsT (fillT B (withoutL kd [x]))) (fullT (fillT B (withoutL kd [x]))) 0 N N _ (HC.out.ext (by repeat (first | (with_reducible exact Ext.refl _) | (with_reducible assumption) | refine Ext.drew ?_ | refine Ext.drewN ?_ _ | refine Ext.alloc ?_ _))) (HF.out.ext (by repeat (first | (with_reducible exact Ext.refl _) | (with_reducible assumption) | refine Ext.drew ?_ | refine Ext.drewN ?_ _ | refine Ext.alloc ?_ _))) HKD.out.1 HKD.out.2 (by rw [HKD.out.1]; omega) (by rw [HKD.out.2]; omega) HBI.out (HONE.out.ext (by repeat (first | (with_reducible exact Ext.refl _) | (with_reducible assumption) | refine Ext.drew ?_ | refine Ext.drewN ?_ _ | refine Ext.alloc ?_ _))) rfl (by simp) HU.out HUL.out.1 HUL.out.2).mono ?_
                 rintro ed w5 ⟨C5, F5, c5, f5, rfl, hC5, hF5, hE5⟩
                 have hx5 : Ext wr w5 := Ext.trans (by repeat (first | (with_reducible exact Ext.refl _) | (with_reducible assumption) | refine Ext.drew ?_ | refine Ext.drewN ?_ _ | refine Ext.alloc ?_ _)) hE5
                 have hs5 := hx5.size
                 have hs9 := hE5.size
                 first
                   | have bx5 : Bx wr.heap.size wr.heap.size w5 := (Bx.new (w := wr) (Nat.le_refl _)).ext (Ext.trans (by first | ((repeat (first | (with_reducible exact Ext.refl _) | (with_reducible assumption) | refine Ext.drew ?_ | refine Ext.drewN ?_ _ | refine Ext.alloc ?_ _)); done) | fail) hE5)
                   | skip
                 try obtain ⟨vc0, vc1, vc2, vf, vlo, vhi⟩ := id bx5)
              | fail)
            all_goals go_wp2_with fail
            all_goals go_meet
            all_goals first
              | (have h9 := put_meetR (a := .int .i64 B) (b := .slice C5 N c5) (c := .slice F5 N f5) bx5 hC5 hF5 hx5
                 exact ⟨_, C5, F5, c5, f5, rfl, rfl, bx5.lo, h9.1, h9.2.1, h9.2.2.1, h9.2.2.2⟩)
              | (refine ⟨w5.heap.size, C5, F5, c5, f5, ?_, ?_, hs5, ⟨?_, ?_, ?_⟩, ?_, ?_, ?_⟩
                 · with_reducible rfl
                 · with_reducible rfl
                 · (first | (go_simp; done) | fail)
                 · (first | (go_simp; done) | fail)
                 · (first | (go_simp; done) | fail)
                 · exact hC5.ext ((Ext.refl _).alloc _)
                 · exact hF5.ext ((Ext.refl _).alloc _)
                 · exact hx5.alloc _)
              | fail
          case rest =>
          obtain ⟨Q, C', F', c', f', rfl, rfl, hQ, ⟨q0, q1, q2⟩, hUC, hUF, hXc⟩ := hcut
          generalize wc = w6 at *
          have HT6 := Lib.hid (HT.out.ext hXc)
          have HW6 := Lib.hid (HW.out.ext hXc)
          have HA6 := Lib.hid (HA.out.ext hXc)
          have HUC := Lib.hid hUC
          have HUF := Lib.hid hUF
          have HX6 := Lib.hid (HX.out.trans hXc)
          clear hXc hUC hUF HC HF p0 p1 p2 pf hP
          obtain ⟨C6, F6, c6, f6, ⟨p0, p1, p2⟩, pf, hC6, hF6⟩ := HT6.out
          have hP6 : w2.heap.size < w6.heap.size := World.block_lt_of_cell? _ _ p0
          have hQ6 : Q < w6.heap.size := World.block_lt_of_cell? _ _ q0
          clear hC6 hF6
          go_wp2_with fail
          go_roundw
          case rel => exact ⟨i + 1, by omega, by go_num, by rw [HNX.out]; exact HT6.out.put HUC.out HUF.out, HW6.out.keep HT6.out hne9, HA6.out.boxed p0 p1 p2 pf (fun a => by simp [kU32]) (fun a => by simp [kU32]) (fun a => by simp [kU32]) _ _ _, ((HX6.out.setCell (p := ⟨w2.heap.size, 0, none⟩) (Nat.le_refl _) _).setCell (p := ⟨w2.heap.size, 1, none⟩) (Nat.le_refl _) _).setCell (p := ⟨w2.heap.size, 2, none⟩) (Nat.le_refl _) _⟩
          case measure => simp [intOf]; omega
        · obtain rfl : i = d.length := by omega
          have hkw : withoutL ks d = kd := by have h := HKX.out; rw [List.take_length] at h; exact h
          have HKW := Lib.hid hkw
          have hkd9 : kd.length ≤ 64 := by have := HKK.out.2; omega
          obtain ⟨C, F, c, f, ⟨p0, p1, p2⟩, pf, hC, hF⟩ := HT.out
          obtain ⟨Cw, Fw, cw, fw, ⟨q0, q1, q2⟩, qf, hCw, hFw⟩ := HW.out
          have HC := Lib.hid hC
          have HF := Lib.hid hF
          have HCw := Lib.hid hCw
          have HFw := Lib.hid hFw
          have hP : w2.heap.size < wr.heap.size := World.block_lt_of_cell? _ _ p0
          have hQ : w8.heap.size < wr.heap.size := World.block_lt_of_cell? _ _ q0
          have hdr := HP2.out ks d HK.out.1 HK.out.2
          rw [hkw] at hdr
          have HDR := Lib.hid hdr
          clear hC hF hCw hFw pf qf HKX hkw hdr hi0 hlt HT HW
          go_wp2_with fail
          refine (pdrop12_to B (cellsT (fillT B ks)) (fullT (fillT B ks)) N N Cw Fw cw fw d d.length O oc B (cellsT (fillT B kd)) (fullT (fillT B kd)) 0 N N _ HCw.out HFw.out HKL.out.1 HKL.out.2 (by rw [HKL.out.1]; omega) (by rw [HKL.out.2]; omega) HBI.out (HQ.out.ext (HX2.out.trans HX.out)) rfl (by omega) HDR.out HKD.out.1 HKD.out.2).mono ?_
          rintro ed w10 ⟨Cx, Fx, cx, fx, rfl, hCx, hFx, hE10⟩
          replace p0 := Ext.cell hE10 p0
          replace p1 := Ext.cell hE10 p1
          replace p2 := Ext.cell hE10 p2
          have hP10 : w2.heap.size < w10.heap.size := World.block_lt_of_cell? _ _ p0
          have HX10 := Lib.hid (HX.out.trans hE10)
          have HA10 := Lib.hid (HA.out.ext hE10)
          have HC10 := Lib.hid (HC.out.ext hE10)
          have HF10 := Lib.hid (HF.out.ext hE10)
          have HCx := Lib.hid hCx
          have HFx := Lib.hid hFx
          clear hE10 hCx hFx HCw HFw q0 q1 q2 hP hQ HC HF HA HX
          go_wp2_with fail
          refine (rwithout_any ks d La O la oc _ (HA10.out.ext ((Ext.refl _).alloc _)) (HQ.out.ext (HX2.out.trans (HX10.out.trans ((Ext.refl _).alloc _)))) (by omega)).mono ?_
          rw [HKW.out]
          rintro ed w11 ⟨Lz, lz, rfl, hz, hE11⟩
          have hF11 := ((Ext.refl w10).alloc (.cells #[.int .i64 B, .slice Cx N cx, .slice Fx N fx] 25)).trans hE11
          replace p0 := Ext.cell hF11 p0
          replace p1 := Ext.cell hF11 p1
          replace p2 := Ext.cell hF11 p2
          have x0 : w11.cell? ⟨w10.heap.size, 0, none⟩ = some (.int .i64 B) := Ext.cell hE11 (by go_simp)
          have x1 : w11.cell? ⟨w10.heap.size, 1, none⟩ = some (.slice Cx N cx) := Ext.cell hE11 (by go_simp)
          have x2 : w11.cell? ⟨w10.heap.size, 2, none⟩ = some (.slice Fx N fx) := Ext.cell hE11 (by go_simp)
          have hP11 : w2.heap.size < w11.heap.size := World.block_lt_of_cell? _ _ p0
          have hQ11 : w10.heap.size < w11.heap.size := World.block_lt_of_cell? _ _ x0
          have HX11 := Lib.hid (HX10.out.trans hF11)
          have HA11 := Lib.hid (HA10.out.ext hF11)
          have HC11 := Lib.hid (HC10.out.ext hF11)
          have HF11 := Lib.hid (HF10.out.ext hF11)
          have HCx11 := Lib.hid (HCx.out.ext hF11)
          have HFx11 := Lib.hid (HFx.out.ext hF11)
          have HZ11 := Lib.hid hz.rd
          clear hE11 hF11 hz HX10 HA10 HC10 HF10 HCx HFx hP10
          go_wp2_with fail
          refine (rsame12_to B (cellsT (fillT B kd)) (fullT (fillT B kd)) N N Cx Fx cx fx B (cellsT (fillT B kd)) (fullT (fillT B kd)) N N C F c f true _ HCx11.out HFx11.out HKD.out.1 HKD.out.2 HC11.out HF11.out HKD.out.1 HKD.out.2 (by rw [HKD.out.2]; omega) (same_self _)).mono ?_
          rintro ed w12 ⟨rfl, hE12⟩
          replace p0 := Ext.cell hE12 p0
          replace p1 := Ext.cell hE12 p1
          replace p2 := Ext.cell hE12 p2
          have hP12 : w2.heap.size < w12.heap.size := World.block_lt_of_cell? _ _ p0
          have HX12 := Lib.hid (HX11.out.trans hE12)
          have HA12 := Lib.hid (HA11.out.ext hE12)
          have HC12 := Lib.hid (HC11.out.ext hE12)
          have HF12 := Lib.hid (HF11.out.ext hE12)
          have HZ12 := Lib.hid (HZ11.out.ext hE12)
          clear hE12 HX11 HA11 HC11 HF11 HCx11 HFx11 HZ11 x0 x1 x2 hP11 hQ11
          go_wp2_with fail
          refine (pkeys12_to B (cellsT (fillT B kd)) (fullT (fillT B kd)) N N C F c f kd kd.length _ HC12.out HF12.out HKD.out.1 HKD.out.2 (by rw [HKD.out.1]; omega) (by rw [HKD.out.2]; omega) HBI.out (HP4.out kd HKK.out.1 HKK.out.2) rfl).mono ?_
          rintro ed w13 ⟨Ly, ly, rfl, hy, hE13⟩
          replace p0 := Ext.cell hE13 p0
          replace p1 := Ext.cell hE13 p1
          replace p2 := Ext.cell hE13 p2
          have hP13 : w2.heap.size < w13.heap.size := World.block_lt_of_cell? _ _ p0
          have HX13 := Lib.hid (HX12.out.trans hE13)
          have HA13 := Lib.hid (HA12.out.ext hE13)
          have HC13 := Lib.hid (HC12.out.ext hE13)
          have HF13 := Lib.hid (HF12.out.ext hE13)
          have HZ13 := Lib.hid (HZ12.out.ext hE13)
          have HY13 := Lib.hid hy
          clear hE13 hy HX12 HA12 HC12 HF12 HZ12 hP12
          go_wp2_with fail
          refine (rwords_any _ _ _ _ _ HY13.out HZ13.out).mono ?_
          rw [sameB_refl]
          rintro ed wb ⟨rfl, hEb⟩
          replace p0 := Ext.cell hEb p0
          replace p1 := Ext.cell hEb p1
          replace p2 := Ext.cell hEb p2
          have HXb := Lib.hid (HX2.out.trans (HX13.out.trans hEb))
          have HAb := Lib.hid (HA13.out.ext hEb)
          have HCb := Lib.hid (HC13.out.ext hEb)
          have HFb := Lib.hid (HF13.out.ext hEb)
          have HZb := Lib.hid (HZ13.out.ext hEb)
          have hN1 : (N : Int) ≤ 64 := by omega
          have hks9 : (ks.length : Int) ≤ 64 := by omega
          clear hEb HX13 HA13 HC13 HF13 HZ13 HY13 hP13
          go_wp2_with fail
          go_loopw [22] (fun i wq => ∃ k : Nat, k ≤ ks.length ∧ i = .int .i64 k ∧ Ext wb wq) (fun i _ => ks.length - (intOf i).toNat)
          case atStart => exact ⟨0, Nat.zero_le _, rfl, Ext.refl _⟩
          case round =>
            obtain ⟨i, hi, rfl, hX⟩ := hrel
            have HX := Lib.hid hX
            have hi0 : (0 : Int) ≤ i := by omega
            replace p0 := Ext.cell hX p0
            replace p1 := Ext.cell hX p1
            replace p2 := Ext.cell hX p2
            clear hX
            rename World => wq
            by_cases hlt : i < ks.length
            · have hlt' : (i : Int) < ks.length := by omega
              obtain ⟨ba, oa, rfl, z0, hxl⟩ := u32_at (HAb.out.ext HX.out) i hlt
              obtain ⟨key, hkey⟩ : ∃ key, ks.getD i 0 = key := ⟨_, rfl⟩
              rw [hkey] at z0 hxl
              obtain ⟨⟨fp, fk, fo⟩, hf⟩ : ∃ r, findP ⟨B, cellsT (fillT B kd), fullT (fillT B kd)⟩ key = r := ⟨_, rfl⟩
              obtain ⟨g1, g2, g3, g4, g5, g6, g7⟩ := HP5.out kd HKK.out.1 HKK.out.2 key fp fk fo hf
              have HG6 := Lib.hid g6
              have HF1 : Hid (∀ w', Ext wq w' → Calls Try.prog 14 #[tabV B C N c F N f, .int .u32 key] w' fun ed w'' => ed = .returned (.tuple #[.int .i64 fp, .int .i64 fk, .bool fo]) ∧ Ext wq w'') := Lib.hid fun w' hE => by
                refine (pfind12_to B (cellsT (fillT B kd)) (fullT (fillT B kd)) N N C F c f key fp fk fo w' (HCb.out.ext (HX.out.trans hE)) (HFb.out.ext (HX.out.trans hE)) HKD.out.1 HKD.out.2 (by rw [HKD.out.1]; omega) (by rw [HKD.out.2]; omega) HBI.out hxl (by rw [hf]) (by rw [hf]) (by rw [hf])).mono fun ed w'' h9 => ⟨h9.1, hE.trans h9.2⟩
              have HHAS : Hid (∀ w', Ext wq w' → Calls Try.prog 25 #[.slice Lz kd.length lz, .int .u32 key] w' fun ed w'' => ed = .returned (.bool fo) ∧ Ext wq w'') := Lib.hid fun w' hE => (rhas11_any kd Lz lz key w' (HZb.out.ext (HX.out.trans hE))).mono fun ed w'' h9 => ⟨by rw [h9.1, g1], h9.2 ▸ hE⟩
              have hd2 : decide ((fk : Int) < 1) = false := decide_eq_false (by omega)
              have hd3 : decide ((N : Int) < (fk : Int)) = false := decide_eq_false (by omega)
              have hd6 : decide (N < fk) = false := decide_eq_false (by omega)
              have hd7 : decide (fk < 1) = false := decide_eq_false (by omega)
              have KS : Hid (∀ w', Ext wq w' → w'.cell? ⟨w2.heap.size, 0, none⟩ = some (.int .i64 B) ∧ w'.cell? ⟨w2.heap.size, 1, none⟩ = some (.slice C N c) ∧ w'.cell? ⟨w2.heap.size, 2, none⟩ = some (.slice F N f) ∧ w'.cell? ⟨ba, oa + i, none⟩ = some (.int .u32 key)) := Lib.hid (fun w' hE => ⟨hE.cell p0, hE.cell p1, hE.cell p2, hE.cell z0⟩)
              have lb1 : w2.heap.size < wq.heap.size := World.block_lt_of_cell? _ _ p0
              have lb2 : ba < wq.heap.size := World.block_lt_of_cell? _ _ z0
              have hfk1 : fk ≤ N := g3
              have hh4 : homeN B key < N := g4
              clear hkey hf g1 g2 g3 g5 g6 g7 hxl
              go_wp2_with fail
              refine wp_region_class (Ext wq) (by kernel_rfl) (by kernel_rfl) (Ext.refl _).drew ?_
              try simp only [List.append_eq, List.cons_append, List.nil_append]
              repeat (first
                | go_big_quiet_skip
                | (go_big_quiet_want
                   first
                   | (go_big_quiet_op; go_big_quiet_on)
                   | (unfold Oper.quiet
                      apply Exists.intro
                      refine ⟨fun w' hC => ?_, ?_⟩
                      · (obtain ⟨k1, k2, k3, k4⟩ := KS.out w' hC
                         unfold Oper.quietAt
                         go_simp
                         first
                         | exact rfl
                         | (with_reducible exact HF1.out w' hC))
                      go_simp
                      go_big_quiet_on)
                   | (go_big_quiet_op
                      apply Exists.intro
                      refine ⟨fun w' hC => ?_, ?_⟩
                      · exact HF1.out w' hC
                      go_big_quiet_on)))
              refine wpQuiet_nil ?_
              intro w21 hC1
              have HE1 := Lib.hid hC1
              rcases (show fo = true ∨ fo = false by cases fo <;> simp) with rfl | rfl
              · obtain ⟨hp1, hp2⟩ := HG6.out rfl
                have hfp : fp < N := by rw [hp1]; exact Nat.mod_lt _ (by omega)
                obtain ⟨bc, oc9, hbc, y1, _⟩ := u32_at (l := cellsT (fillT B kd)) (w := wq) (L := C) (lc := c) (by rw [HKD.out.1]; exact HCb.out.ext HX.out) fp (by rw [HKD.out.1]; exact hfp)
                rw [show (cellsT (fillT B kd)).getD fp 0 = key from by rw [cellsT_at, hp2]; rfl] at y1
                rw [hbc] at p1
                have KT : Hid (∀ w', Ext wq w' → w'.cell? ⟨w2.heap.size, 0, none⟩ = some (.int .i64 B) ∧ w'.cell? ⟨w2.heap.size, 1, none⟩ = some (.slice (some ⟨bc, oc9, none⟩) N c) ∧ w'.cell? ⟨w2.heap.size, 2, none⟩ = some (.slice F N f) ∧ w'.cell? ⟨ba, oa + i, none⟩ = some (.int .u32 key) ∧ w'.cell? ⟨bc, oc9 + fp, none⟩ = some (.int .u32 key)) := Lib.hid (fun w' hE => ⟨hE.cell p0, hE.cell p1, hE.cell p2, hE.cell z0, hE.cell y1⟩)
                have hd8 : decide ((N : Int) ≤ (fp : Int)) = false := decide_eq_false (by omega)
                have hd9 : decide (N ≤ fp) = false := decide_eq_false (by omega)
                have hd10 : decide ((fp : Int) < 0) = false := decide_eq_false (by omega)
                have hN9 : (N : Int) > fp := by omega
                have hfp0 : (0 : Int) ≤ fp := by omega
                have hfp1 : (fp : Int) < N := by omega
                have lb3 : bc < wq.heap.size := World.block_lt_of_cell? _ _ y1
                clear hp1 hp2 hbc y1 z0 p0 p1 p2
                go_wp2_with fail
                refine wp_region_class (Ext wq) (by kernel_rfl) (by kernel_rfl) HE1.out.drew ?_
                try simp only [List.append_eq, List.cons_append, List.nil_append]
                repeat (first
                  | go_big_quiet_skip
                  | (go_big_quiet_want
                     first
                     | (go_big_quiet_op; go_big_quiet_on)
                     | (unfold Oper.quiet
                        apply Exists.intro
                        refine ⟨fun w' hC => ?_, ?_⟩
                        · (obtain ⟨k1, k2, k3, k4, k5⟩ := KT.out w' hC
                           unfold Oper.quietAt
                           go_simp
                           first
                           | exact rfl
                           | (with_reducible exact HHAS.out w' hC))
                        go_simp
                        go_big_quiet_on)
                     | (go_big_quiet_op
                        apply Exists.intro
                        refine ⟨fun w' hC => ?_, ?_⟩
                        · exact HHAS.out w' hC
                        go_big_quiet_on)))
                refine wpQuiet_nil ?_
                intro w22 hC2
                go_wp2_with fail
                go_roundw
                case rel => exact ⟨i + 1, by omega, by go_num, HX.out.trans hC2⟩
                case measure => simp [intOf]; omega
              · clear z0 p0 p1 p2
                go_wp2_with fail
                refine wp_region_class (Ext wq) (by kernel_rfl) (by kernel_rfl) HE1.out.drew ?_
                try simp only [List.append_eq, List.cons_append, List.nil_append]
                repeat (first
                  | go_big_quiet_skip
                  | (go_big_quiet_want
                     first
                     | (go_big_quiet_op; go_big_quiet_on)
                     | (unfold Oper.quiet
                        apply Exists.intro
                        refine ⟨fun w' hC => ?_, ?_⟩
                        · (obtain ⟨k1, k2, k3, k4⟩ := KS.out w' hC
                           unfold Oper.quietAt
                           go_simp
                           first
                           | exact rfl
                           | (with_reducible exact HHAS.out w' hC))
                        go_simp
                        go_big_quiet_on)
                     | (go_big_quiet_op
                        apply Exists.intro
                        refine ⟨fun w' hC => ?_, ?_⟩
                        · exact HHAS.out w' hC
                        go_big_quiet_on)))
                refine wpQuiet_nil ?_
                intro w22 hC2
                go_wp2_with fail
                go_roundw
                case rel => exact ⟨i + 1, by omega, by go_num, HX.out.trans hC2⟩
                case measure => simp [intOf]; omega
            · obtain rfl : i = ks.length := by omega
              go_wp2_with fail
              go_ret
              exact ⟨rfl, HXb.out.trans HX.out⟩
end Go.Proofs.Ytofiokegdgdacaa
