/- ScanBlocks: the law returns true. Written by wip/mk_s8b.py. -/
import Derived.Test.YthblpcmmeajhkaaJ7
import Derived.Test.YthblpcmmeajhkaaZS8Q
set_option linter.unusedVariables false
set_option linter.unusedSimpArgs false
set_option linter.unnecessarySimpa false
namespace Go.Proofs.Ythblpcmmeajhkaa
open Go.BigFrame
open Go.RowKit Go.Proofs.Ythblpcmmeajhkaa.Plain

set_option maxHeartbeats 3200000 in
set_option maxRecDepth 100000 in
theorem scanblocks_any (l : List Nat) (L : Option Addr) (lc : Nat) (a b g m : Int) (Ap : Option Addr) (cp : Nat) (picks : List (Int × Int)) (W : World) (hL : Rd kU32 W (.slice L l.length lc) (zs l)) (hp : Rd kPk W (.slice Ap picks.length cp) picks) (ha : 0 ≤ a ∧ a ≤ 255) (hb : 0 ≤ b ∧ b ≤ 255) (hg : in64 g) (hm : in64 m) :
    Calls Try.prog 4 #[.slice L l.length lc, .agg #[.int .u8 a, .int .u8 b], planV g m Ap picks.length cp] W fun ed w' => ed = .returned (.bool true) ∧ Ext W w' := by
  have HL := Lib.hid hL
  have HP := Lib.hid hp
  have HPL := Lib.hid hp.len
  have HG := Lib.hid (And.intro hg hm)
  have HAL := Lib.hid (u32_all hL)
  obtain ⟨a0, a1⟩ := ha
  obtain ⟨b0, b1⟩ := hb
  obtain ⟨P, hP⟩ : ∃ P : Nat, 1 + a % 100 = (P : Int) := ⟨(1 + a % 100).toNat, by omega⟩
  obtain ⟨Q, hQ⟩ : ∃ Q : Nat, 1 + b % 100 = (Q : Int) := ⟨(1 + b % 100).toNat, by omega⟩
  have HPQ : Hid ((1 ≤ P ∧ P ≤ 100) ∧ (1 ≤ Q ∧ Q ≤ 100)) := Lib.hid (by omega)
  clear hL hp hg hm
  go_enter Try.func4, Try.ntmps4
  go_wp2_with fail
  refine (salive_any _).mono ?_
  rintro ed w1 ⟨rfl, hE1⟩
  have j0 : w1.cell? ⟨W.heap.size, 0, none⟩ = some (.int .u8 a) := Ext.cell hE1 (by go_simp)
  have j1 : w1.cell? ⟨W.heap.size, 1, none⟩ = some (.int .u8 b) := Ext.cell hE1 (by go_simp)
  have jf : ∀ o, w1.frozen? ⟨W.heap.size, o, none⟩ = false := fun o => (Below.frozen hE1 (p := ⟨W.heap.size, o, none⟩) (by first | omega | (simp; omega) | simp)).trans (by go_simp)
  have k0 : w1.cell? ⟨W.heap.size + 1, 0, none⟩ = some (.int .i64 g) := Ext.cell hE1 (by go_simp)
  have k1 : w1.cell? ⟨W.heap.size + 1, 1, none⟩ = some (.int .i64 m) := Ext.cell hE1 (by go_simp)
  have k2 : w1.cell? ⟨W.heap.size + 1, 2, none⟩ = some (.slice Ap picks.length cp) := Ext.cell hE1 (by go_simp)
  have kf : ∀ o, w1.frozen? ⟨W.heap.size + 1, o, none⟩ = false := fun o => (Below.frozen hE1 (p := ⟨W.heap.size + 1, o, none⟩) (by first | omega | (simp; omega) | simp)).trans (by go_simp)
  have HX1 := Lib.hid ((((Ext.refl W).alloc (.cells #[.int .u8 a, .int .u8 b] 38)).alloc (.cells #[.int .i64 g, .int .i64 m, .slice Ap picks.length cp] 25)).trans hE1)
  have lz1 := hE1.size
  simp at lz1
  have n1 : W.heap.size < w1.heap.size := by omega
  have n2 : W.heap.size + 1 < w1.heap.size := by omega
  clear hE1
  by_cases h1 : (100 : Int) < l.length
  · go_wp2_with fail
    go_ret
    exact ⟨rfl, HX1.out⟩
  by_cases h3 : (200 : Int) < picks.length
  · have h1' : (l.length : Int) ≤ 100 := by omega
    go_wp2_with fail
    go_ret
    exact ⟨rfl, HX1.out⟩
  have h1' : (l.length : Int) ≤ 100 := by omega
  have h3' : (picks.length : Int) ≤ 200 := by omega
  clear h1 h3
  go_wp2_with fail
  refine (rright7_any g m Ap picks.length cp w1 HG.out.1 HG.out.2 HPL.out).mono ?_
  rintro ed w2 ⟨rfl, hE2⟩
  replace j0 := Ext.cell hE2 j0
  replace j1 := Ext.cell hE2 j1
  replace k0 := Ext.cell hE2 k0
  replace k1 := Ext.cell hE2 k1
  replace k2 := Ext.cell hE2 k2
  have lb2_0 : W.heap.size < w2.heap.size := by have := Ext.size hE2; omega
  have lb2_1 : W.heap.size + 1 < w2.heap.size := by have := Ext.size hE2; omega
  have HX2 := Lib.hid (HX1.out.trans hE2)
  clear hE2 HX1
  cases hpb : planB g m picks.length with
  | false =>
    clear hpb
    go_wp2_with fail
    go_ret
    exact ⟨rfl, HX2.out⟩
  | true =>
    obtain ⟨s1, e1⟩ := sumsP_good l P g m picks (by have := HPQ.out; omega) (by have := HPQ.out; omega) hpb
    obtain ⟨s2, e2⟩ := sumsP_good l Q 1 1 [] (by have := HPQ.out; omega) (by have := HPQ.out; omega) (by decide)
    have hbk := back_sums l HAL.out
    have htt := totW_totals l P HPQ.out.1.1 HPQ.out.1.2 (by omega)
    have htl := totalsW_len l P
    have hsl := sumsW_len l
    have htw := totW_lt l
    obtain ⟨ol, hol⟩ : ∃ x, sumsW l = x := ⟨_, rfl⟩
    obtain ⟨tt, htt'⟩ : ∃ x, totW l = x := ⟨_, rfl⟩
    obtain ⟨ot, hot⟩ : ∃ x, totalsW l (P : Int) = x := ⟨_, rfl⟩
    obtain ⟨N, hN⟩ : ∃ x, blocksP l.length (P : Int) = x := ⟨_, rfl⟩
    rw [hol, htt'] at e1 e2 hbk
    rw [htt', hot] at htt
    rw [hot, hN] at htl
    rw [hol] at hsl
    rw [htt'] at htw
    have HE := Lib.hid (And.intro e1 (And.intro e2 (And.intro hbk htt)))
    have HLN := Lib.hid (And.intro htl hsl)
    have HTW := Lib.hid htw
    have HOT := Lib.hid (And.intro hot hN)
    have hNl : (N : Int) ≤ 100 := by have := blocksP_le l.length (P : Int); omega
    clear hpb e1 e2 hbk htt htl hsl htw hol htt' hot hN
    go_wp2_with fail
    refine (ssums_any l L lc P g m Ap cp picks _ (HL.out.ext HX2.out) (HP.out.ext HX2.out) (by omega) (by unfold in64; omega) HG.out.1 HG.out.2).mono ?_
    rw [HE.out.1]
    rintro ed w3 ⟨L3, l3, rfl, hO3, hE3⟩
    simp only at hO3 ⊢
    rw [HLN.out.2] at hO3 ⊢
    replace j0 := Ext.cell hE3 j0
    replace j1 := Ext.cell hE3 j1
    replace k0 := Ext.cell hE3 k0
    replace k1 := Ext.cell hE3 k1
    replace k2 := Ext.cell hE3 k2
    have lb3_0 : W.heap.size < w3.heap.size := by have := Ext.size hE3; omega
    have lb3_1 : W.heap.size + 1 < w3.heap.size := by have := Ext.size hE3; omega
    have HX3 := Lib.hid (HX2.out.trans hE3)
    have Ha_3 := Lib.hid (hO3.rd)
    clear hE3 HX2 lb2_0 lb2_1
    go_wp2_with fail
    refine (ssums_any l L lc Q 1 1 none 0 [] _ (HL.out.ext HX3.out) (Rd.nil _ _ _) (by omega) (by unfold in64; omega) (by decide) (by decide)).mono ?_
    rw [HE.out.2.1]
    rintro ed w4 ⟨L4, l4, rfl, hO4, hE4⟩
    simp only at hO4 ⊢
    rw [HLN.out.2] at hO4 ⊢
    replace j0 := Ext.cell hE4 j0
    replace j1 := Ext.cell hE4 j1
    replace k0 := Ext.cell hE4 k0
    replace k1 := Ext.cell hE4 k1
    replace k2 := Ext.cell hE4 k2
    have lb4_0 : W.heap.size < w4.heap.size := by have := Ext.size hE4; omega
    have lb4_1 : W.heap.size + 1 < w4.heap.size := by have := Ext.size hE4; omega
    have HX4 := Lib.hid (HX3.out.trans hE4)
    have Ha_4 := Lib.hid (Ha_3.out.ext hE4)
    have Hb_4 := Lib.hid (hO4.rd)
    clear hE4 HX3 Ha_3 lb3_0 lb3_1
    go_wp2_with fail
    refine (rwords_any _ _ _ _ _ Ha_4.out Hb_4.out).mono ?_
    rintro ed w5 ⟨rfl, hE5⟩
    rw [sameB_refl]
    replace j0 := Ext.cell hE5 j0
    replace j1 := Ext.cell hE5 j1
    replace k0 := Ext.cell hE5 k0
    replace k1 := Ext.cell hE5 k1
    replace k2 := Ext.cell hE5 k2
    have lb5_0 : W.heap.size < w5.heap.size := by have := Ext.size hE5; omega
    have lb5_1 : W.heap.size + 1 < w5.heap.size := by have := Ext.size hE5; omega
    have HX5 := Lib.hid (HX4.out.trans hE5)
    have Ha_5 := Lib.hid (Ha_4.out.ext hE5)
    have Hb_5 := Lib.hid (Hb_4.out.ext hE5)
    clear hE5 HX4 Ha_4 Hb_4 lb4_0 lb4_1
    go_wp2_with fail
    clear Hb_5
    have hh := sback_any ol L3 l3 tt _ (by rw [HLN.out.2]; exact Ha_5.out) (by have := HLN.out.2; omega) HTW.out
    rw [HLN.out.2] at hh
    rw [HE.out.2.2.1] at hh
    refine hh.mono ?_
    clear hh
    rintro ed w6 ⟨L6, l6, rfl, hO6, hE6⟩
    replace j0 := Ext.cell hE6 j0
    replace j1 := Ext.cell hE6 j1
    replace k0 := Ext.cell hE6 k0
    replace k1 := Ext.cell hE6 k1
    replace k2 := Ext.cell hE6 k2
    have lb6_0 : W.heap.size < w6.heap.size := by have := Ext.size hE6; omega
    have lb6_1 : W.heap.size + 1 < w6.heap.size := by have := Ext.size hE6; omega
    have HX6 := Lib.hid (HX5.out.trans hE6)
    have Ha_6 := Lib.hid (Ha_5.out.ext hE6)
    have Hc_6 := Lib.hid (hO6.rd)
    clear hE6 HX5 Ha_5 lb5_0 lb5_1
    go_wp2_with fail
    refine (rwords_any _ _ _ _ _ Hc_6.out (HL.out.ext HX6.out)).mono ?_
    rintro ed w7 ⟨rfl, hE7⟩
    rw [sameB_refl]
    replace j0 := Ext.cell hE7 j0
    replace j1 := Ext.cell hE7 j1
    replace k0 := Ext.cell hE7 k0
    replace k1 := Ext.cell hE7 k1
    replace k2 := Ext.cell hE7 k2
    have lb7_0 : W.heap.size < w7.heap.size := by have := Ext.size hE7; omega
    have lb7_1 : W.heap.size + 1 < w7.heap.size := by have := Ext.size hE7; omega
    have HX7 := Lib.hid (HX6.out.trans hE7)
    have Ha_7 := Lib.hid (Ha_6.out.ext hE7)
    have Hc_7 := Lib.hid (Hc_6.out.ext hE7)
    clear hE7 HX6 Ha_6 Hc_6 lb6_0 lb6_1
    go_wp2_with fail
    clear Ha_7
    clear Hc_7
    refine (stotals_any l L lc P _ (HL.out.ext HX7.out) (by omega) (by unfold in64; omega)).mono ?_
    rw [HOT.out.1]
    rintro ed w8 ⟨L8, l8, rfl, hO8, hE8⟩
    rw [HLN.out.1] at hO8 ⊢
    replace j0 := Ext.cell hE8 j0
    replace j1 := Ext.cell hE8 j1
    replace k0 := Ext.cell hE8 k0
    replace k1 := Ext.cell hE8 k1
    replace k2 := Ext.cell hE8 k2
    have lb8_0 : W.heap.size < w8.heap.size := by have := Ext.size hE8; omega
    have lb8_1 : W.heap.size + 1 < w8.heap.size := by have := Ext.size hE8; omega
    have HX8 := Lib.hid (HX7.out.trans hE8)
    have Ht_8 := Lib.hid (hO8.rd)
    clear hE8 HX7 lb7_0 lb7_1
    go_wp2_with fail
    go_loop [16, 17] (fun s i => ∃ k : Nat, k ≤ N ∧ i = .int .i64 k ∧ s = .int .u32 (totW (ot.take k))) (fun _ i => N - (intOf i).toNat)
    case atStart => exact ⟨0, Nat.zero_le _, rfl, rfl⟩
    case round =>
      obtain ⟨k, hk, rfl, rfl⟩ := hrel
      have hk0 : (0 : Int) ≤ k := by omega
      by_cases hlt : k < N
      · have hlt' : (k : Int) < N := by omega
        have hko : k < ot.length := by have := HLN.out.1; omega
        have hrd := Ht_8.out
        rw [← HLN.out.1] at hrd
        obtain ⟨bx, ox, rfl, z0, hxl⟩ := u32_at hrd k hko
        have hst := totW_snoc (ot.take k) (ot.getD k 0)
        rw [← takeN_snoc hko] at hst
        obtain ⟨x, hx⟩ : ∃ x, ot.getD k 0 = x := ⟨_, rfl⟩
        rw [hx] at z0 hxl hst
        obtain ⟨s, hs⟩ : ∃ s, totW (ot.take k) = s := ⟨_, rfl⟩
        have hsl : s < 4294967296 := by rw [← hs]; exact totW_lt _
        rw [hs] at hst ⊢
        have HST := Lib.hid hst
        have hx0 : (0 : Int) ≤ x := by omega
        have hs0 : (0 : Int) ≤ s := by omega
        clear hst hx hs hxl hsl hrd hko
        go_wp2_with fail
        go_round
        case rel => exact ⟨k + 1, by omega, by go_num, by rw [HST.out]; first | rfl | (congr 1; omega) | (simp; omega)⟩
        case measure => simp [intOf]; omega
      · obtain rfl : k = N := by omega
        rw [show totW (ot.take k) = tt by rw [← HE.out.2.2.2, ← HLN.out.1, List.take_length]]
        go_wp2_with fail
        refine (sblocks_any l.length P _ (by omega) (by unfold in64; omega)).mono ?_
        rw [HOT.out.2]
        rintro ed w9 ⟨rfl, hE9⟩
        have HX9 := Lib.hid (HX8.out.trans hE9)
        clear hE9
        go_wp2_with fail
        go_ret
        exact ⟨ret_bool (by first | rfl | simp), HX9.out⟩
end Go.Proofs.Ythblpcmmeajhkaa
