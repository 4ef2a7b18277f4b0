/- DedupEdges: the law returns true. Written by wip/mk_r11.py. -/
import Derived.Test.YtkpbanfpnilifaaGreatJ6
set_option linter.unusedVariables false
set_option linter.unusedSimpArgs false
set_option linter.unnecessarySimpa false
namespace Go.Proofs.YtkpbanfpnilifaaGreat
open Go.BigFrame
open Go.RowKit Go.Proofs.YtkpbanfpnilifaaGreat.Plain

theorem Plain.edgesP_len (l : List (Int × Int)) (b blk g m : Int) (picks : List (Int × Int)) : (edgesP l b blk g m picks).1.length ≤ l.length := by
  unfold edgesP
  split
  · exact Nat.zero_le _
  · split
    · exact Nat.zero_le _
    · show ((once11P (keysOf l) b blk g m picks).1.map edgeP).length ≤ _
      rw [List.length_map]
      refine Nat.le_trans ?_ (keysOf_len l)
      unfold once11P groupsP
      split
      · exact Nat.zero_le _
      · have h7 := grp_le (grp_take (keysOf l) (keysOf l).length)
        rw [List.take_of_length_le (by rw [risingL_len]; exact Nat.le_refl _), risingL_len] at h7
        exact h7
set_option maxHeartbeats 3200000 in
set_option maxRecDepth 100000 in
theorem dedupedges_any (l : List (Int × Int)) (L : Option Addr) (lc : Nat) (b blk g m : Int) (Ap : Option Addr) (cp : Nat) (picks : List (Int × Int)) (W : World) (hL : Rd kEdge W (.slice L l.length lc) l) (hp : Rd kPk W (.slice Ap picks.length cp) picks) (hb : in64 b) (hbk : in64 blk) (hg : in64 g) (hm : in64 m) :
    Calls Tryz.prog 4 #[.slice L l.length lc, wayV b blk g m Ap picks.length cp] W fun ed w' => ed = .returned (.bool true) ∧ Ext W w' := by
  have HL := Lib.hid hL
  have HP := Lib.hid hp
  have HG := Lib.hid (And.intro hb (And.intro hbk (And.intro hg hm)))
  clear hL hp hb hbk hg hm
  go_enter Tryz.func4, Tryz.ntmps4
  go_wp2_with fail
  refine (dalive_any _).mono ?_
  rintro ed w1 ⟨rfl, hE1⟩
  have k0 : w1.cell? ⟨W.heap.size, 0, none⟩ = some (.int .i64 b) := Ext.cell hE1 (by go_simp)
  have k1 : w1.cell? ⟨W.heap.size, 1, none⟩ = some (.int .i64 blk) := Ext.cell hE1 (by go_simp)
  have k2 : w1.cell? ⟨W.heap.size, 2, none⟩ = some (.int .i64 g) := Ext.cell hE1 (by go_simp)
  have k3 : w1.cell? ⟨W.heap.size, 3, none⟩ = some (.int .i64 m) := Ext.cell hE1 (by go_simp)
  have k4 : w1.cell? ⟨W.heap.size, 4, none⟩ = some (.slice Ap picks.length cp) := Ext.cell hE1 (by go_simp)
  have kf : ∀ o, w1.frozen? ⟨W.heap.size, o, none⟩ = false := fun o => (Below.frozen hE1 (p := ⟨W.heap.size, o, none⟩) (by first | omega | (simp; omega) | simp)).trans (by go_simp)
  have HX1 := Lib.hid (((Ext.refl W).alloc (.cells #[.int .i64 b, .int .i64 blk, .int .i64 g, .int .i64 m, .slice Ap picks.length cp] 27)).trans hE1)
  have lz1 := hE1.size
  simp at lz1
  have n1 : W.heap.size < w1.heap.size := by omega
  clear hE1
  by_cases h0 : (40 : Int) < l.length
  · go_wp2_with fail
    go_ret
    exact ⟨rfl, HX1.out⟩
  by_cases h1 : (100 : Int) < picks.length
  · have g0 : (l.length : Int) ≤ 40 := by omega
    go_wp2_with fail
    go_ret
    exact ⟨rfl, HX1.out⟩
  have g0 : (l.length : Int) ≤ 40 := by omega
  have g1 : (picks.length : Int) ≤ 100 := by omega
  clear h0 h1
  obtain ⟨⟨os, st, er⟩, hr⟩ : ∃ x, edgesP l b blk g m picks = x := ⟨_, rfl⟩
  have HS := Lib.hid hr
  have HLO : Hid (os.length ≤ 900) := Lib.hid (by
    have h9 : (edgesP l b blk g m picks).1.length ≤ l.length := edgesP_len l b blk g m picks
    rw [hr] at h9
    simp only at h9
    omega)
  clear hr
  go_wp2_with fail
  refine (pedges_any l L lc b blk g m Ap cp picks _ (HL.out.ext HX1.out) (HP.out.ext HX1.out) (by omega) HG.out.1 HG.out.2.1 HG.out.2.2.1 HG.out.2.2.2).mono ?_
  rw [HS.out]
  rintro ed w2 ⟨La, la, rfl, hOa, hE2⟩
  simp only at hOa ⊢
  replace k0 := Ext.cell hE2 k0
  replace k1 := Ext.cell hE2 k1
  replace k2 := Ext.cell hE2 k2
  replace k3 := Ext.cell hE2 k3
  replace k4 := Ext.cell hE2 k4
  have lb2_0 : W.heap.size < w2.heap.size := by have := Ext.size hE2; omega
  have HX2 := Lib.hid (HX1.out.trans hE2)
  have Ha_2 := Lib.hid (hOa.rd)
  clear hE2 HX1 n1
  go_wp2_with fail
  refine (redges_any l L lc b blk g m Ap cp picks _ (HL.out.ext HX2.out) (HP.out.ext HX2.out) (by omega) HG.out.1 HG.out.2.1 HG.out.2.2.1 HG.out.2.2.2).mono ?_
  rw [HS.out]
  rintro ed w3 ⟨Lb, lb, rfl, hOb, hE3⟩
  simp only at hOb ⊢
  replace k0 := Ext.cell hE3 k0
  replace k1 := Ext.cell hE3 k1
  replace k2 := Ext.cell hE3 k2
  replace k3 := Ext.cell hE3 k3
  replace k4 := Ext.cell hE3 k4
  have lb3_0 : W.heap.size < w3.heap.size := by have := Ext.size hE3; omega
  have HX3 := Lib.hid (HX2.out.trans hE3)
  have Ha_3 := Lib.hid (Ha_2.out.ext hE3)
  have Hb_3 := Lib.hid (hOb.rd)
  clear hE3 HX2 Ha_2 lb2_0
  go_wp2_with fail
  clear k0 k1 k2 k3 k4
  go_loopw [11] (fun i wr => ∃ k : Nat, k ≤ l.length ∧ i = .int .i64 k ∧ Ext w3 wr) (fun i _ => l.length - (intOf i).toNat)
  case atStart => exact ⟨0, Nat.zero_le _, rfl, Ext.refl _⟩
  case round =>
    obtain ⟨k, hk, rfl, hX⟩ := hrel
    have HX := Lib.hid hX
    have hk0 : (0 : Int) ≤ k := by omega
    clear hX
    by_cases hlt : k < l.length
    · have hlt' : (k : Int) < l.length := by omega
      obtain ⟨bx, ox, rfl, hcx⟩ := Rd.edges (HL.out.ext (HX3.out.trans HX.out)) (by omega)
      obtain ⟨x0, x1⟩ := hcx k hlt
      have hin := HL.out.okAt k hlt
      obtain ⟨⟨u, v⟩, huv⟩ : ∃ x, l.getD k (0, 0) = x := ⟨_, rfl⟩
      have hin' : in64 u ∧ in64 v := by
        have h9 : kEdge.ok (l.getD k (0, 0)) := hin
        rw [huv] at h9; exact h9
      rw [huv] at x0 x1
      simp only at x0 x1
      have HIN := Lib.hid hin'
      obtain ⟨K, hK⟩ : ∃ K, keyP u v = K := ⟨_, rfl⟩
      obtain ⟨ko, hko⟩ : ∃ K, keyOk u v = K := ⟨_, rfl⟩
      have HKL : Hid (K < 4294967296) := Lib.hid (by rw [← hK]; exact keyP_lt u v)
      obtain ⟨⟨eu, ev⟩, hev⟩ : ∃ y, edgeP K = y := ⟨_, rfl⟩
      have HK := Lib.hid (And.intro hK (And.intro hko hev))
      have lbx : bx < wr.heap.size := World.block_lt_of_cell? _ _ x0
      have q1 : (K == K) = true := by simp
      have q2 : ((K : Int) == (K : Int)) = true := by simp
      have q3 : ((K : Int) != (K : Int)) = false := by simp
      have q4 : (ko == ko) = true := by simp
      have q5 : (ko != ko) = false := by simp
      clear hcx hin huv hin' hK hko hev
      go_wp2_with fail
      refine (pkey_any u v _ HIN.out.1 HIN.out.2).mono ?_
      rw [HK.out.1, HK.out.2.1]
      rintro ed w5 ⟨rfl, hE5⟩
      replace x0 := hE5.cell x0
      replace x1 := hE5.cell x1
      have lb5 : bx < w5.heap.size := World.block_lt_of_cell? _ _ x0
      have HX5 := Lib.hid (HX.out.trans hE5)
      clear hE5 lbx HX
      go_wp2_with fail
      refine (rkey_any u v _ HIN.out.1 HIN.out.2).mono ?_
      rw [HK.out.1, HK.out.2.1]
      rintro ed w6 ⟨rfl, hE6⟩
      have HX6 := Lib.hid (HX5.out.trans hE6)
      clear hE6 HX5 x0 x1 lb5
      go_wp2_with fail
      refine (pedge_any K _ HKL.out).mono ?_
      rw [HK.out.2.2]
      rintro ed w7 ⟨rfl, hE7⟩
      simp only
      have HX7 := Lib.hid (HX6.out.trans hE7)
      clear hE7 HX6
      go_wp2_with fail
      refine (redge_any K _ HKL.out).mono ?_
      rw [HK.out.2.2]
      rintro ed w8 ⟨rfl, hE8⟩
      simp only
      have HX8 := Lib.hid (HX7.out.trans hE8)
      clear hE8 HX7
      go_wp2_with fail
      go_roundw
      case rel => exact ⟨k + 1, by omega, by go_num, HX8.out⟩
      case measure => simp [intOf]; omega
    · have HXX := Lib.hid (HX3.out.trans HX.out)
      have HA := Lib.hid (Ha_3.out.ext HX.out)
      have HB := Lib.hid (Hb_3.out.ext HX.out)
      have hge : (l.length : Int) ≤ k := by omega
      go_wp2_with fail
      refine (rsame11_any os os _ _ _ _ _ HA.out HB.out HLO.out).mono ?_
      rintro ed w9 ⟨rfl, hE9⟩
      rw [decide_eq_true (rfl : os = os)]
      have HX9 := Lib.hid (HXX.out.trans hE9)
      clear hE9
      go_wp2_with fail
      go_ret
      exact ⟨ret_bool (by first | rfl | simp), HX9.out⟩
end Go.Proofs.YtkpbanfpnilifaaGreat
