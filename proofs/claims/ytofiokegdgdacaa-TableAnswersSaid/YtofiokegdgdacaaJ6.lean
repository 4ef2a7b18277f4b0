/- Joined by wip/merge.py: LwB, T12C, T12W, T12E, T12H, LwC, T12PU, LwE, LwF, T12DR, T12D, T12G, T12X, T12A. -/
import Derived.Test.YtofiokegdgdacaaJ5
import Derived.Lib.AppendZeros
set_option linter.unusedVariables false
set_option linter.unusedSimpArgs false
set_option linter.unnecessarySimpa false
/- The library at words, at bools: Equal. -/
namespace Go.Proofs.Ytofiokegdgdacaa
open Go.BigFrame
open Go.RowKit Go.Proofs.Ytofiokegdgdacaa.Plain

set_option maxHeartbeats 3200000 in
set_option maxRecDepth 100000 in
theorem equal32 (l1 l2 : List Nat) (A1 A2 : Option Addr) (c1 c2 : Nat) (w : World) (h1 : Rd kU32 w (.slice A1 l1.length c1) (zs l1)) (h2 : Rd kU32 w (.slice A2 l2.length c2) (zs l2)) (hl : l1.length ≤ 1048576) :
    Calls Try.prog 37 #[.slice A1 l1.length c1, .slice A2 l2.length c2] w fun ed w' => ed = .returned (.bool (decide (l1 = l2))) ∧ Ext w w' := by
  have H1 := Lib.hid h1
  have H2 := Lib.hid h2
  have hl9 : (l1.length : Int) ≤ 1048576 := by omega
  clear h1 h2
  by_cases hlen : l1.length = l2.length
  · obtain ⟨n, hn⟩ : ∃ n, l1.length = n := ⟨_, rfl⟩
    have hn2 : l2.length = n := hlen ▸ hn
    have HN := Lib.hid (And.intro hn hn2)
    rw [hn] at hl9
    rw [hn, hn2]
    have hd0 : ((n : Int) != (n : Int)) = false := by simp
    have hd0N : (n != n) = false := by simp
    clear hlen hn hn2 hl
    go_enter Try.func37, Try.ntmps37
    go_wp2_with fail
    go_loopw [13] (fun v wr => ∃ k : Nat, v = .int .i64 k ∧ k ≤ n ∧ (∀ j, j < k → l1.getD j 0 = l2.getD j 0) ∧ Ext w wr) (fun v _ => n - (intOf v).toNat)
    case atStart => exact ⟨0, rfl, Nat.zero_le _, fun j hj => absurd hj (Nat.not_lt_zero _), Ext.refl _⟩
    case round =>
      obtain ⟨k, rfl, hk, hall, hX⟩ := hrel
      have HALL := Lib.hid hall
      have HX := Lib.hid hX
      have hk0 : (0 : Int) ≤ k := by omega
      clear hall hX
      by_cases hlt : k < n
      · have hlt' : (k : Int) < n := by omega
        have hd1 : decide (k < n) = true := decide_eq_true hlt
        obtain ⟨b1, o1, rfl, z1, _⟩ := u32_at (H1.out.ext HX.out) k (by rw [HN.out.1]; exact hlt)
        obtain ⟨b2, o2, rfl, z2, _⟩ := u32_at (H2.out.ext HX.out) k (by rw [HN.out.2]; exact hlt)
        obtain ⟨x, hx⟩ : ∃ x, l1.getD k 0 = x := ⟨_, rfl⟩
        obtain ⟨y, hy⟩ : ∃ y, l2.getD k 0 = y := ⟨_, rfl⟩
        change _ = some (Value.int .u32 ((l1.getD k 0 : Nat) : Int)) at z1
        change _ = some (Value.int .u32 ((l2.getD k 0 : Nat) : Int)) at z2
        rw [hx] at z1
        rw [hy] at z2
        have HXY := Lib.hid (And.intro hx hy)
        have lb1 : b1 < wr.heap.size := World.block_lt_of_cell? _ _ z1
        have lb2 : b2 < wr.heap.size := World.block_lt_of_cell? _ _ z2
        have KS := Lib.hid (fun w' (hE : Ext wr w') => And.intro (hE.cell z1) (hE.cell z2))
        clear hx hy z1 z2
        by_cases hxy : x = y
        · have HQ := Lib.hid hxy
          have hb : ((x : Int) != (x : Int)) = false := by simp
          have hbN : (x != x) = false := by simp
          subst hxy
          go_wp2_with fail
          refine wp_region_class (Ext wr) (by kernel_rfl) (by kernel_rfl) (Ext.refl _).drew ?_
          try simp only [List.append_eq, List.cons_append, List.nil_append]
          repeat (first
            | go_big_quiet_skip
            | (go_big_quiet_want
               first
               | (go_big_quiet_op; go_big_quiet_on)
               | (unfold Oper.quiet
                  apply Exists.intro
                  refine ⟨fun w' hC => ?_, ?_⟩
                  · (obtain ⟨k1, k2⟩ := KS.out w' hC
                     unfold Oper.quietAt
                     go_simp
                     first
                     | exact rfl)
                  go_simp
                  go_big_quiet_on)))
          refine wpQuiet_nil ?_
          intro w9 hC9
          go_wp2_with fail
          go_roundw
          case rel =>
            refine ⟨k + 1, by go_num, by omega, fun j hj => ?_, HX.out.trans hC9⟩
            rcases Nat.lt_or_ge j k with h9 | h9
            · exact HALL.out j h9
            · obtain rfl : j = k := by omega
              rw [HXY.out.1, HXY.out.2]
          case measure => first | (simp [intOf]; done) | (simp [intOf]; omega)
        · have hb1 : ((x : Int) != (y : Int)) = true := by simp; omega
          have hb2 : (x != y) = true := by simp [hxy]
          have HR : Hid (decide (l1 = l2) = false) := Lib.hid (decide_eq_false fun e => hxy (by rw [← HXY.out.1, ← HXY.out.2, e]))
          go_wp2_with fail
          refine wp_region_class (Ext wr) (by kernel_rfl) (by kernel_rfl) (Ext.refl _).drew ?_
          try simp only [List.append_eq, List.cons_append, List.nil_append]
          repeat (first
            | go_big_quiet_skip
            | (go_big_quiet_want
               first
               | (go_big_quiet_op; go_big_quiet_on)
               | (unfold Oper.quiet
                  apply Exists.intro
                  refine ⟨fun w' hC => ?_, ?_⟩
                  · (obtain ⟨k1, k2⟩ := KS.out w' hC
                     unfold Oper.quietAt
                     go_simp
                     first
                     | exact rfl)
                  go_simp
                  go_big_quiet_on)))
          refine wpQuiet_nil ?_
          intro w9 hC9
          go_wp2_with fail
          go_ret
          exact ⟨ret_bool HR.out.symm, HX.out.trans hC9⟩
      · obtain rfl : k = n := by omega
        have HR : Hid (decide (l1 = l2) = true) := Lib.hid (decide_eq_true (by
          apply List.ext_getElem (HN.out.1.trans HN.out.2.symm)
          intro j hj1 hj2
          have h9 := HALL.out j (by rw [← HN.out.1]; exact hj1)
          simp only [kept, List.getD_eq_getElem?_getD, List.getElem?_eq_getElem hj1, List.getElem?_eq_getElem hj2, Option.getD_some] at h9
          exact h9))
        go_wp2_with fail
        go_ret
        exact ⟨ret_bool HR.out.symm, HX.out⟩
  · have hd0 : ((l1.length : Int) != (l2.length : Int)) = true := by simp; omega
    have hd0N : (l1.length != l2.length) = true := by simp [hlen]
    have HR : Hid (decide (l1 = l2) = false) := Lib.hid (decide_eq_false fun e => hlen (by rw [e]))
    go_enter Try.func37, Try.ntmps37
    go_wp2_with fail
    go_ret
    exact ⟨ret_bool HR.out.symm, Ext.refl _⟩
set_option maxHeartbeats 3200000 in
set_option maxRecDepth 100000 in
theorem equalB (l1 l2 : List Bool) (A1 A2 : Option Addr) (c1 c2 : Nat) (w : World) (h1 : Rd kBool w (.slice A1 l1.length c1) l1) (h2 : Rd kBool w (.slice A2 l2.length c2) l2) (hl : l1.length ≤ 1048576) :
    Calls Try.prog 38 #[.slice A1 l1.length c1, .slice A2 l2.length c2] w fun ed w' => ed = .returned (.bool (decide (l1 = l2))) ∧ Ext w w' := by
  have H1 := Lib.hid h1
  have H2 := Lib.hid h2
  have hl9 : (l1.length : Int) ≤ 1048576 := by omega
  clear h1 h2
  by_cases hlen : l1.length = l2.length
  · obtain ⟨n, hn⟩ : ∃ n, l1.length = n := ⟨_, rfl⟩
    have hn2 : l2.length = n := hlen ▸ hn
    have HN := Lib.hid (And.intro hn hn2)
    rw [hn] at hl9
    rw [hn, hn2]
    have hd0 : ((n : Int) != (n : Int)) = false := by simp
    have hd0N : (n != n) = false := by simp
    clear hlen hn hn2 hl
    go_enter Try.func38, Try.ntmps38
    go_wp2_with fail
    go_loopw [13] (fun v wr => ∃ k : Nat, v = .int .i64 k ∧ k ≤ n ∧ (∀ j, j < k → kept l1 j = kept l2 j) ∧ Ext w wr) (fun v _ => n - (intOf v).toNat)
    case atStart => exact ⟨0, rfl, Nat.zero_le _, fun j hj => absurd hj (Nat.not_lt_zero _), Ext.refl _⟩
    case round =>
      obtain ⟨k, rfl, hk, hall, hX⟩ := hrel
      have HALL := Lib.hid hall
      have HX := Lib.hid hX
      have hk0 : (0 : Int) ≤ k := by omega
      clear hall hX
      by_cases hlt : k < n
      · have hlt' : (k : Int) < n := by omega
        have hd1 : decide (k < n) = true := decide_eq_true hlt
        obtain ⟨b1, o1, rfl, z1⟩ := bool_at (H1.out.ext HX.out) k (by rw [HN.out.1]; exact hlt)
        obtain ⟨b2, o2, rfl, z2⟩ := bool_at (H2.out.ext HX.out) k (by rw [HN.out.2]; exact hlt)
        obtain ⟨x, hx⟩ : ∃ x, kept l1 k = x := ⟨_, rfl⟩
        obtain ⟨y, hy⟩ : ∃ y, kept l2 k = y := ⟨_, rfl⟩
        change _ = some (Value.bool (kept l1 k)) at z1
        change _ = some (Value.bool (kept l2 k)) at z2
        rw [hx] at z1
        rw [hy] at z2
        have HXY := Lib.hid (And.intro hx hy)
        have lb1 : b1 < wr.heap.size := World.block_lt_of_cell? _ _ z1
        have lb2 : b2 < wr.heap.size := World.block_lt_of_cell? _ _ z2
        have KS := Lib.hid (fun w' (hE : Ext wr w') => And.intro (hE.cell z1) (hE.cell z2))
        clear hx hy z1 z2
        by_cases hxy : x = y
        · have HQ := Lib.hid hxy
          have hb : (x != x) = false := by simp
          subst hxy
          go_wp2_with fail
          refine wp_region_class (Ext wr) (by kernel_rfl) (by kernel_rfl) (Ext.refl _).drew ?_
          try simp only [List.append_eq, List.cons_append, List.nil_append]
          repeat (first
            | go_big_quiet_skip
            | (go_big_quiet_want
               first
               | (go_big_quiet_op; go_big_quiet_on)
               | (unfold Oper.quiet
                  apply Exists.intro
                  refine ⟨fun w' hC => ?_, ?_⟩
                  · (obtain ⟨k1, k2⟩ := KS.out w' hC
                     unfold Oper.quietAt
                     go_simp
                     first
                     | exact rfl)
                  go_simp
                  go_big_quiet_on)))
          refine wpQuiet_nil ?_
          intro w9 hC9
          go_wp2_with fail
          go_roundw
          case rel =>
            refine ⟨k + 1, by go_num, by omega, fun j hj => ?_, HX.out.trans hC9⟩
            rcases Nat.lt_or_ge j k with h9 | h9
            · exact HALL.out j h9
            · obtain rfl : j = k := by omega
              rw [HXY.out.1, HXY.out.2]
          case measure => first | (simp [intOf]; done) | (simp [intOf]; omega)
        · have hb1 : (x != y) = true := by simp [hxy]
          have hb3 : (!(x == y)) = true := by simp [hxy]
          have HR : Hid (decide (l1 = l2) = false) := Lib.hid (decide_eq_false fun e => hxy (by rw [← HXY.out.1, ← HXY.out.2, e]))
          go_wp2_with fail
          refine wp_region_class (Ext wr) (by kernel_rfl) (by kernel_rfl) (Ext.refl _).drew ?_
          try simp only [List.append_eq, List.cons_append, List.nil_append]
          repeat (first
            | go_big_quiet_skip
            | (go_big_quiet_want
               first
               | (go_big_quiet_op; go_big_quiet_on)
               | (unfold Oper.quiet
                  apply Exists.intro
                  refine ⟨fun w' hC => ?_, ?_⟩
                  · (obtain ⟨k1, k2⟩ := KS.out w' hC
                     unfold Oper.quietAt
                     go_simp
                     first
                     | exact rfl)
                  go_simp
                  go_big_quiet_on)))
          refine wpQuiet_nil ?_
          intro w9 hC9
          go_wp2_with fail
          go_ret
          exact ⟨ret_bool HR.out.symm, HX.out.trans hC9⟩
      · obtain rfl : k = n := by omega
        have HR : Hid (decide (l1 = l2) = true) := Lib.hid (decide_eq_true (by
          apply List.ext_getElem (HN.out.1.trans HN.out.2.symm)
          intro j hj1 hj2
          have h9 := HALL.out j (by rw [← HN.out.1]; exact hj1)
          simp only [kept, List.getD_eq_getElem?_getD, List.getElem?_eq_getElem hj1, List.getElem?_eq_getElem hj2, Option.getD_some] at h9
          exact h9))
        go_wp2_with fail
        go_ret
        exact ⟨ret_bool HR.out.symm, HX.out⟩
  · have hd0 : ((l1.length : Int) != (l2.length : Int)) = true := by simp; omega
    have hd0N : (l1.length != l2.length) = true := by simp [hlen]
    have HR : Hid (decide (l1 = l2) = false) := Lib.hid (decide_eq_false fun e => hlen (by rw [e]))
    go_enter Try.func38, Try.ntmps38
    go_wp2_with fail
    go_ret
    exact ⟨ret_bool HR.out.symm, Ext.refl _⟩
end Go.Proofs.Ytofiokegdgdacaa

/- The program's Right. -/
namespace Go.Proofs.Ytofiokegdgdacaa
open Go.BigFrame
open Go.RowKit Go.Proofs.Ytofiokegdgdacaa.Plain

set_option maxHeartbeats 3200000 in
set_option maxRecDepth 100000 in
theorem prightS_any (t : Tb) (C F : Option Addr) (cc cf : Nat) (w : World) (hC : Rd kU32 w (.slice C t.cells.length cc) (zs t.cells)) (hF : Rd kBool w (.slice F t.full.length cf) t.full) (hc : t.cells.length ≤ 2000) (hf : t.full.length ≤ 2000) (hb : in64 t.bits) :
    Calls Try.prog 19 #[tabV t.bits C t.cells.length cc F t.full.length cf] w fun ed w' => ed = .returned (.bool (rightP t)) ∧ Ext w w' := by
  have hkl := keysP_len t
  have hR : rightP t = (decide ((makeP t.bits (keysP t)).2 = 0) && sameTb (makeP t.bits (keysP t)).1 t) := rfl
  obtain ⟨ks, hks⟩ : ∃ x, keysP t = x := ⟨_, rfl⟩
  rw [hks] at hkl hR
  obtain ⟨⟨y, er⟩, hy⟩ : ∃ x, makeP t.bits ks = x := ⟨_, rfl⟩
  rw [hy] at hR
  simp only at hR
  have hfl : y.full.length ≤ 2000 := by
    have h9 : (makeP t.bits ks).1.full.length ≤ 2000 := by
      unfold makeP
      split
      · exact Nat.zero_le _
      · split
        · exact Nat.zero_le _
        · rename_i h1 h2
          show (fullT (fillT t.bits.toNat (risingR ks))).length ≤ 2000
          have h10 : t.bits.toNat ≤ 10 := by omega
          have h3 : 2 ^ t.bits.toNat ≤ 1024 := Nat.pow_le_pow_right (n := 2) (by decide) h10
          have := (inv_of (B := t.bits.toNat) (risingR_good _ ks rfl).1 (by omega)).len
          rw [fullT_len, this]; omega
    rw [hy] at h9; exact h9
  have hyb9 : er = 0 → y.bits = t.bits := by
    intro h9
    have h8 := congrArg Prod.fst hy
    have h7 := congrArg Prod.snd hy
    unfold makeP at h8 h7
    split at h8
    · rename_i h1
      rw [if_pos h1] at h7
      have h6 : (1 : Int) = er := h7
      omega
    · rename_i h1
      rw [if_neg h1] at h7
      split at h8
      · rename_i h2
        rw [if_pos h2] at h7
        have h6 : (2 : Int) = er := h7
        omega
      · have h6 : tbOf t.bits.toNat (risingR ks) = y := h8
        rw [← h6]; show ((t.bits.toNat : Nat) : Int) = _; omega
  obtain ⟨bits, cells, full⟩ := t
  have HYB := Lib.hid hyb9
  clear hyb9
  simp only at HYB
  simp only at hC hF hc hf hb hkl hy ⊢
  have HC := Lib.hid hC
  have HF := Lib.hid hF
  have HB := Lib.hid (And.intro hb (And.intro hc (And.intro hf (And.intro hkl hfl))))
  have HKS := Lib.hid hks
  have HY := Lib.hid hy
  have HR := Lib.hid hR
  clear hC hF hc hf hb hkl hks hy hR hfl
  go_enter Try.func19, Try.ntmps19
  go_upto_region 1 with fail
  obtain ⟨w1, hw1⟩ : ∃ w1, w.alloc (.cells #[.int .i64 bits, .slice C cells.length cc, .slice F full.length cf] 25) = w1 := ⟨_, rfl⟩
  have k0 : w1.cell? ⟨w.heap.size, 0, none⟩ = some (.int .i64 bits) := by subst hw1; go_simp
  have k1 : w1.cell? ⟨w.heap.size, 1, none⟩ = some (.slice C cells.length cc) := by subst hw1; go_simp
  have k2 : w1.cell? ⟨w.heap.size, 2, none⟩ = some (.slice F full.length cf) := by subst hw1; go_simp
  have HX1 : Hid (Ext w w1) := Lib.hid (by rw [← hw1]; exact (Ext.refl w).alloc _)
  have lw1 : w.heap.size < w1.heap.size := World.block_lt_of_cell? _ _ k0
  rw [hw1]
  clear hw1
  go_cut [3, 4] from 5 to 12 (fun p e wx => ∃ (P : Nat) (C' F' : Option Addr) (cc' cf' : Nat), p = .pointer (some ⟨P, 0, none⟩) ∧ e = .int .i64 er ∧ (wx.cell? ⟨P, 0, none⟩ = some (.int .i64 y.bits) ∧ wx.cell? ⟨P, 1, none⟩ = some (.slice C' y.cells.length cc') ∧ wx.cell? ⟨P, 2, none⟩ = some (.slice F' y.full.length cf')) ∧ Rd kU32 wx (.slice C' y.cells.length cc') (zs y.cells) ∧ Rd kBool wx (.slice F' y.full.length cf') y.full ∧ Ext w1 wx)
  case first =>
    go_region_law (first
      | (go_simp; go_at_call 22
         refine (pkeysS_any ⟨bits, cells, full⟩ C F cc cf _ (HC.out.ext (HX1.out.trans (by repeat (first | (with_reducible exact Ext.refl _) | (with_reducible assumption) | refine Ext.drew ?_ | refine Ext.drewN ?_ _ | refine Ext.alloc ?_ _)))) (HF.out.ext (HX1.out.trans (by repeat (first | (with_reducible exact Ext.refl _) | (with_reducible assumption) | refine Ext.drew ?_ | refine Ext.drewN ?_ _ | refine Ext.alloc ?_ _)))) HB.out.2.1 HB.out.2.2.1).mono ?_
         rw [HKS.out]
         rintro ed w5 ⟨A5, c5, rfl, hO5, hE5⟩
         have hx5 : Ext w1 w5 := Ext.trans (by repeat (first | (with_reducible exact Ext.refl _) | (with_reducible assumption) | refine Ext.drew ?_ | refine Ext.drewN ?_ _ | refine Ext.alloc ?_ _)) hE5
         have m0 := hx5.cell k0
         have m1 := hx5.cell k1
         have m2 := hx5.cell k2
         have hs5 := hx5.size
         have lm5 : w.heap.size < w5.heap.size := World.block_lt_of_cell? _ _ m0
         try have pc0 : w5.cell? ⟨w1.heap.size, 0, none⟩ = some (.int .i64 0) := Ext.cell hE5 (by first | (go_simp; done) | fail)
         try have pc1 : w5.cell? ⟨w1.heap.size, 1, none⟩ = some (.slice none 0 0) := Ext.cell hE5 (by first | (go_simp; done) | fail)
         try have pc2 : w5.cell? ⟨w1.heap.size, 2, none⟩ = some (.slice none 0 0) := Ext.cell hE5 (by first | (go_simp; done) | fail)
         try have pf : ∀ o, w5.frozen? ⟨w1.heap.size, o, none⟩ = false := fun o => (Below.frozen hE5 (p := ⟨w1.heap.size, o, none⟩) (by first | (simp; done) | (simp; omega) | fail)).trans (by first | (go_simp; done) | fail)
         try have pl : w1.heap.size < w5.heap.size := World.block_lt_of_cell? _ _ pc0)
      | (go_simp; go_at_call 12
         refine (pmakeS_any bits ks A5 c5 _ (hO5.rd.ext (by repeat (first | (with_reducible exact Ext.refl _) | (with_reducible assumption) | refine Ext.drew ?_ | refine Ext.drewN ?_ _ | refine Ext.alloc ?_ _))) (by have := HB.out; omega) HB.out.1).mono ?_
         rw [HY.out]
         rintro ed w6 ⟨C6, F6, c6, f6, rfl, hC6, hF6, hE6⟩
         have hx6 : Ext w5 w6 := Ext.trans (by repeat (first | (with_reducible exact Ext.refl _) | (with_reducible assumption) | refine Ext.drew ?_ | refine Ext.drewN ?_ _ | refine Ext.alloc ?_ _)) hE6
         have hs6 := hx6.size
         try have qc0 := hx6.cell pc0
         try have qc1 := hx6.cell pc1
         try have qc2 := hx6.cell pc2
         try have qf : ∀ o, w6.frozen? ⟨w1.heap.size, o, none⟩ = false := fun o => (Below.frozen hx6 (p := ⟨w1.heap.size, o, none⟩) pl).trans (pf o)
         try have rc0 : w6.cell? ⟨w5.heap.size, 0, none⟩ = some (.int .i64 0) := Ext.cell hE6 (by first | (go_simp; done) | fail)
         try have rc1 : w6.cell? ⟨w5.heap.size, 1, none⟩ = some (.slice none 0 0) := Ext.cell hE6 (by first | (go_simp; done) | fail)
         try have rc2 : w6.cell? ⟨w5.heap.size, 2, none⟩ = some (.slice none 0 0) := Ext.cell hE6 (by first | (go_simp; done) | fail)
         try have rf : ∀ o, w6.frozen? ⟨w5.heap.size, o, none⟩ = false := fun o => (Below.frozen hE6 (p := ⟨w5.heap.size, o, none⟩) (by first | (simp; done) | (simp; omega) | fail)).trans (by first | (go_simp; done) | fail)
         try have rl : w5.heap.size < w6.heap.size := World.block_lt_of_cell? _ _ rc0)
      | fail)
    all_goals go_wp2_with fail
    all_goals go_meet
    all_goals first
        | (refine ⟨w6.heap.size, C6, F6, c6, f6, ?_, ?_, ⟨?_, ?_, ?_⟩, ?_, ?_, ?_⟩
           · with_reducible rfl
           · with_reducible rfl
           · (first | (go_simp; done) | fail)
           · (first | (go_simp; done) | fail)
           · (first | (go_simp; done) | fail)
           · exact hC6.rd.ext ((Ext.refl _).alloc _)
           · exact hF6.rd.ext ((Ext.refl _).alloc _)
           · exact (hx5.trans hx6).alloc _)
        | (refine ⟨w5.heap.size, C6, F6, c6, f6, ?_, ?_, ⟨?_, ?_, ?_⟩, ?_, ?_, ?_⟩
           · with_reducible rfl
           · with_reducible rfl
           · (first | (go_simp; done) | fail)
           · (first | (go_simp; done) | fail)
           · (first | (go_simp; done) | fail)
           · exact (((hC6.setBelow (p := ⟨w5.heap.size, 0, none⟩) (by first | (simp; done) | (simp; omega) | omega | fail) _).setBelow (p := ⟨w5.heap.size, 1, none⟩) (by first | (simp; done) | (simp; omega) | omega | fail) _).setBelow (p := ⟨w5.heap.size, 2, none⟩) (by first | (simp; done) | (simp; omega) | omega | fail) _).rd
           · exact (((hF6.setBelow (p := ⟨w5.heap.size, 0, none⟩) (by first | (simp; done) | (simp; omega) | omega | fail) _).setBelow (p := ⟨w5.heap.size, 1, none⟩) (by first | (simp; done) | (simp; omega) | omega | fail) _).setBelow (p := ⟨w5.heap.size, 2, none⟩) (by first | (simp; done) | (simp; omega) | omega | fail) _).rd
           · exact ((((hx5.trans hx6).setCell (p := ⟨w5.heap.size, 0, none⟩) (by first | exact Nat.le_refl _ | omega | fail) _).setCell (p := ⟨w5.heap.size, 1, none⟩) (by first | exact Nat.le_refl _ | omega | fail) _).setCell (p := ⟨w5.heap.size, 2, none⟩) (by first | exact Nat.le_refl _ | omega | fail) _))
        | (refine ⟨w1.heap.size, C6, F6, c6, f6, ?_, ?_, ⟨?_, ?_, ?_⟩, ?_, ?_, ?_⟩
           · with_reducible rfl
           · with_reducible rfl
           · (first | (go_simp; done) | fail)
           · (first | (go_simp; done) | fail)
           · (first | (go_simp; done) | fail)
           · exact (((hC6.setBelow (p := ⟨w1.heap.size, 0, none⟩) (by first | (simp; done) | (simp; omega) | omega | fail) _).setBelow (p := ⟨w1.heap.size, 1, none⟩) (by first | (simp; done) | (simp; omega) | omega | fail) _).setBelow (p := ⟨w1.heap.size, 2, none⟩) (by first | (simp; done) | (simp; omega) | omega | fail) _).rd
           · exact (((hF6.setBelow (p := ⟨w1.heap.size, 0, none⟩) (by first | (simp; done) | (simp; omega) | omega | fail) _).setBelow (p := ⟨w1.heap.size, 1, none⟩) (by first | (simp; done) | (simp; omega) | omega | fail) _).setBelow (p := ⟨w1.heap.size, 2, none⟩) (by first | (simp; done) | (simp; omega) | omega | fail) _).rd
           · exact ((((hx5.trans hx6).setCell (p := ⟨w1.heap.size, 0, none⟩) (by first | exact Nat.le_refl _ | omega | fail) _).setCell (p := ⟨w1.heap.size, 1, none⟩) (by first | exact Nat.le_refl _ | omega | fail) _).setCell (p := ⟨w1.heap.size, 2, none⟩) (by first | exact Nat.le_refl _ | omega | fail) _))
        | fail
  case rest =>
  obtain ⟨P, C', F', cc', cf', rfl, rfl, ⟨q0, q1, q2⟩, hRC, hRF, hX2⟩ := hcut
  generalize wc = w2 at *
  replace k0 := hX2.cell k0
  replace k1 := hX2.cell k1
  replace k2 := hX2.cell k2
  have lw2 : w.heap.size < w2.heap.size := World.block_lt_of_cell? _ _ k0
  have lP2 : P < w2.heap.size := World.block_lt_of_cell? _ _ q0
  have HRC := Lib.hid hRC
  have HRF := Lib.hid hRF
  have HX2 := Lib.hid (HX1.out.trans hX2)
  clear hRC hRF hX2 lw1 HX1
  by_cases her : er = 0
  · subst her
    have hyb : y.bits = bits := HYB.out rfl
    have hd0 : ((0 : Int) == 0) = true := rfl
    go_wp2_with fail
    refine (equal32 cells y.cells C C' cc cc' _ (HC.out.ext HX2.out) HRC.out (by have := HB.out; omega)).mono ?_
    rintro ed w9 ⟨rfl, hE9⟩
    have HX9 := Lib.hid (HX2.out.trans hE9)
    have HRF9 := Lib.hid (HRF.out.ext hE9)
    replace k2 := hE9.cell k2
    replace q2 := hE9.cell q2
    have lw9 : w.heap.size < w9.heap.size := World.block_lt_of_cell? _ _ k2
    have lP9 : P < w9.heap.size := World.block_lt_of_cell? _ _ q2
    have HYB2 := Lib.hid hyb
    clear hE9 hyb k0 k1 q0 q1
    by_cases h1 : cells = y.cells
    · have hr1 : decide (cells = y.cells) = true := decide_eq_true h1
      rw [hr1]
      have H1 := Lib.hid h1
      clear h1 hr1
      go_wp2_with fail
      refine (equalB full y.full F F' cf cf' _ (HF.out.ext HX9.out) HRF9.out (by have := HB.out; omega)).mono ?_
      rintro ed w10 ⟨rfl, hE10⟩
      have HX10 := Lib.hid (HX9.out.trans hE10)
      clear hE10
      have HEND : Hid (decide (full = y.full) = rightP ⟨bits, cells, full⟩) := Lib.hid (by
        rw [HR.out]
        unfold sameTb
        rw [decide_eq_true HYB2.out, decide_eq_true H1.out.symm]
        simp only [decide_true, Bool.true_and, Bool.and_true]
        by_cases h9 : full = y.full
        · rw [decide_eq_true h9, decide_eq_true h9.symm]
        · rw [decide_eq_false h9, decide_eq_false (fun e => h9 e.symm)])
      obtain ⟨r2, hr2⟩ : ∃ r, decide (full = y.full) = r := ⟨_, rfl⟩
      rw [hr2] at HEND ⊢
      clear hr2
      go_wp2_with fail
      go_ret
      exact ⟨ret_bool HEND.out, HX10.out⟩
    · have hr1 : decide (cells = y.cells) = false := decide_eq_false h1
      rw [hr1]
      have HEND : Hid (false = rightP ⟨bits, cells, full⟩) := Lib.hid (by
        rw [HR.out]
        unfold sameTb
        rw [decide_eq_false (fun e => h1 e.symm : ¬ y.cells = cells)]
        simp)
      clear h1 hr1
      go_wp2_with fail
      go_ret
      exact ⟨ret_bool HEND.out, HX9.out⟩
  · have he1 : (er == 0) = false := by simp [her]
    have he2 : decide (er = 0) = false := decide_eq_false her
    have HEND : Hid (false = rightP ⟨bits, cells, full⟩) := Lib.hid (by rw [HR.out, decide_eq_false her]; rfl)
    clear her
    go_wp2_with fail
    go_ret
    exact ⟨ret_bool HEND.out, HX2.out⟩
end Go.Proofs.Ytofiokegdgdacaa

/- The program's copied. -/
namespace Go.Proofs.Ytofiokegdgdacaa
open Go.BigFrame
open Go.RowKit Go.Proofs.Ytofiokegdgdacaa.Plain

def CpSaid (t : Tb) (w : World) (ed : Ending) (w' : World) : Prop :=
  ∃ (C F : Option Addr) (c f : Nat), ed = .returned (.agg #[.int .i64 t.bits, .slice C t.cells.length c, .slice F t.full.length f]) ∧ Rd kU32 w' (.slice C t.cells.length c) (zs t.cells) ∧ Rd kBool w' (.slice F t.full.length f) t.full ∧ Ext w w'
theorem clone32' (l : List Nat) (L : Option Addr) (lc : Nat) (w : World) (h : Rd kU32 w (.slice L l.length lc) (zs l)) (hl : l.length ≤ 1000000) :
    Calls Try.prog 39 #[.slice L l.length lc] w fun e w' => ∃ A c, e = .returned (.slice A l.length c) ∧ Ow kU32 w.heap.size w' (.slice A l.length c) (zs l) ∧ Ext w w' := by
  have h9 := clone32 _ _ w h (by rw [zs_len]; omega)
  rw [zs_len] at h9
  exact h9
set_option maxHeartbeats 3200000 in
set_option maxRecDepth 100000 in
theorem pcopied_any (t : Tb) (C F : Option Addr) (cc cf : Nat) (w : World) (hC : Rd kU32 w (.slice C t.cells.length cc) (zs t.cells)) (hF : Rd kBool w (.slice F t.full.length cf) t.full) (hc : t.cells.length ≤ 2000) (hf : t.full.length ≤ 2000) :
    Calls Try.prog 26 #[tabV t.bits C t.cells.length cc F t.full.length cf] w (CpSaid t w) := by
  obtain ⟨bits, cells, full⟩ := t
  simp only at hC hF hc hf ⊢
  have HC := Lib.hid hC
  have HF := Lib.hid hF
  obtain ⟨nc, hnc⟩ : ∃ x, cells.length = x := ⟨_, rfl⟩
  obtain ⟨nf, hnf⟩ : ∃ x, full.length = x := ⟨_, rfl⟩
  have HCC := Lib.hid (fun w1 (hE : Ext w w1) => clone32' cells C cc w1 (hC.ext hE) (by omega))
  have HCF := Lib.hid (fun w1 (hE : Ext w w1) => cloneB _ full w1 (hF.ext hE) (by omega))
  have HN := Lib.hid (And.intro hnc hnf)
  rw [hnc] at HCC ⊢
  rw [hnf] at HCF ⊢
  clear hC hF hc hf hnc hnf
  go_enter Try.func26, Try.ntmps26
  go_wp2_with fail
  obtain ⟨w2, hw2⟩ : ∃ w2, (w.alloc (.cells #[.int .i64 bits, .slice C nc cc, .slice F nf cf] 25)).alloc (.cells #[.int .i64 0, .slice none 0 0, .slice none 0 0] 25) = w2 := ⟨_, rfl⟩
  have k0 : w2.cell? ⟨w.heap.size, 0, none⟩ = some (.int .i64 bits) := by subst hw2; go_simp
  have k1 : w2.cell? ⟨w.heap.size, 1, none⟩ = some (.slice C nc cc) := by subst hw2; go_simp
  have k2 : w2.cell? ⟨w.heap.size, 2, none⟩ = some (.slice F nf cf) := by subst hw2; go_simp
  have r0 : w2.cell? ⟨w.heap.size + 1, 0, none⟩ = some (.int .i64 0) := by subst hw2; go_simp
  have r1 : w2.cell? ⟨w.heap.size + 1, 1, none⟩ = some (.slice none 0 0) := by subst hw2; go_simp
  have r2 : w2.cell? ⟨w.heap.size + 1, 2, none⟩ = some (.slice none 0 0) := by subst hw2; go_simp
  have rf : ∀ o, w2.frozen? ⟨w.heap.size + 1, o, none⟩ = false := fun o => by subst hw2; go_simp
  have HX2 : Hid (Ext w w2) := Lib.hid (by rw [← hw2]; exact ((Ext.refl w).alloc _).alloc _)
  have lw2 : w.heap.size < w2.heap.size := World.block_lt_of_cell? _ _ k0
  have lr2 : w.heap.size + 1 < w2.heap.size := World.block_lt_of_cell? _ _ r0
  rw [hw2]
  clear hw2
  go_cut [2] from 3 to 11 (fun p wx => p = .pointer (some ⟨w.heap.size + 1, 0, none⟩) ∧ ∃ (C' F' : Option Addr) (c f : Nat), (wx.cell? ⟨w.heap.size + 1, 0, none⟩ = some (.int .i64 bits) ∧ wx.cell? ⟨w.heap.size + 1, 1, none⟩ = some (.slice C' nc c) ∧ wx.cell? ⟨w.heap.size + 1, 2, none⟩ = some (.slice F' nf f)) ∧ Rd kU32 wx (.slice C' nc c) (zs cells) ∧ Rd kBool wx (.slice F' nf f) full ∧ Ext w wx)
  case first =>
    go_region_law (first
      | (go_simp; go_at_call 39
         refine (HCC.out _ (HX2.out.trans (by repeat (first | (with_reducible exact Ext.refl _) | (with_reducible assumption) | refine Ext.drew ?_ | refine Ext.drewN ?_ _ | refine Ext.alloc ?_ _)))).mono ?_
         rintro ed wa ⟨Ca, ca, rfl, hOa, hEa⟩
         have hxa : Ext w2 wa := Ext.trans (by repeat (first | (with_reducible exact Ext.refl _) | (with_reducible assumption) | refine Ext.drew ?_ | refine Ext.drewN ?_ _ | refine Ext.alloc ?_ _)) hEa
         have ka0 := hxa.cell k0
         have ka1 := hxa.cell k1
         have ka2 := hxa.cell k2
         have ra0 := hxa.cell r0
         have ra1 := hxa.cell r1
         have ra2 := hxa.cell r2
         have raf : ∀ o, wa.frozen? ⟨w.heap.size + 1, o, none⟩ = false := fun o => (Below.frozen hxa (p := ⟨w.heap.size + 1, o, none⟩) lr2).trans (rf o)
         have lwa : w.heap.size < wa.heap.size := World.block_lt_of_cell? _ _ ka0
         have lra : w.heap.size + 1 < wa.heap.size := World.block_lt_of_cell? _ _ ra0
         have hsa := hEa.size)
      | (go_simp; go_at_call 40
         refine (HCF.out _ (HX2.out.trans (by repeat (first | (with_reducible exact Ext.refl _) | (with_reducible assumption) | refine Ext.drew ?_ | refine Ext.drewN ?_ _ | refine Ext.alloc ?_ _)))).mono ?_
         rintro ed wb ⟨Fb, fb, rfl, hOb, hEb⟩
         have hxb : Ext w2 wb := Ext.trans (by repeat (first | (with_reducible exact Ext.refl _) | (with_reducible assumption) | refine Ext.drew ?_ | refine Ext.drewN ?_ _ | refine Ext.alloc ?_ _)) hEb
         have kb0 := hxb.cell k0
         have kb1 := hxb.cell k1
         have kb2 := hxb.cell k2
         have rb0 := hxb.cell r0
         have rb1 := hxb.cell r1
         have rb2 := hxb.cell r2
         have rbf : ∀ o, wb.frozen? ⟨w.heap.size + 1, o, none⟩ = false := fun o => (Below.frozen hxb (p := ⟨w.heap.size + 1, o, none⟩) lr2).trans (rf o)
         have lwb : w.heap.size < wb.heap.size := World.block_lt_of_cell? _ _ kb0
         have lrb : w.heap.size + 1 < wb.heap.size := World.block_lt_of_cell? _ _ rb0
         have hsb := hEb.size)
      | fail)
    all_goals go_wp2_with fail
    all_goals go_meet
    all_goals first
      | (refine ⟨rfl, Ca, Fb, ca, fb, ⟨?_, ?_, ?_⟩, ?_, ?_, ?_⟩
         · (first | (go_simp; done) | fail)
         · (first | (go_simp; done) | fail)
         · (first | (go_simp; done) | fail)
         · exact ((((hOa.ext (by repeat (first | (with_reducible exact Ext.refl _) | (with_reducible assumption) | refine Ext.drew ?_ | refine Ext.drewN ?_ _ | refine Ext.alloc ?_ _))).setBelow (p := ⟨w.heap.size + 1, 0, none⟩) (by first | omega | (simp; omega) | (simp only [World.drew]; omega) | fail) _).setBelow (p := ⟨w.heap.size + 1, 1, none⟩) (by first | omega | (simp; omega) | (simp only [World.drew]; omega) | fail) _).setBelow (p := ⟨w.heap.size + 1, 2, none⟩) (by first | omega | (simp; omega) | (simp only [World.drew]; omega) | fail) _).rd
         · exact (((hOb.setBelow (p := ⟨w.heap.size + 1, 0, none⟩) (by first | omega | (simp; omega) | (simp only [World.drew]; omega) | fail) _).setBelow (p := ⟨w.heap.size + 1, 1, none⟩) (by first | omega | (simp; omega) | (simp only [World.drew]; omega) | fail) _).setBelow (p := ⟨w.heap.size + 1, 2, none⟩) (by first | omega | (simp; omega) | (simp only [World.drew]; omega) | fail) _).rd
         · exact (((HX2.out.trans hxb).setCell (p := ⟨w.heap.size + 1, 0, none⟩) (Nat.le_succ _) _).setCell (p := ⟨w.heap.size + 1, 1, none⟩) (Nat.le_succ _) _).setCell (p := ⟨w.heap.size + 1, 2, none⟩) (Nat.le_succ _) _)
      | (refine ⟨rfl, Ca, Fb, ca, fb, ⟨?_, ?_, ?_⟩, ?_, ?_, ?_⟩
         · (first | (go_simp; done) | fail)
         · (first | (go_simp; done) | fail)
         · (first | (go_simp; done) | fail)
         · exact (((hOa.setBelow (p := ⟨w.heap.size + 1, 0, none⟩) (by first | omega | (simp; omega) | (simp only [World.drew]; omega) | fail) _).setBelow (p := ⟨w.heap.size + 1, 1, none⟩) (by first | omega | (simp; omega) | (simp only [World.drew]; omega) | fail) _).setBelow (p := ⟨w.heap.size + 1, 2, none⟩) (by first | omega | (simp; omega) | (simp only [World.drew]; omega) | fail) _).rd
         · exact ((((hOb.ext (by repeat (first | (with_reducible exact Ext.refl _) | (with_reducible assumption) | refine Ext.drew ?_ | refine Ext.drewN ?_ _ | refine Ext.alloc ?_ _))).setBelow (p := ⟨w.heap.size + 1, 0, none⟩) (by first | omega | (simp; omega) | (simp only [World.drew]; omega) | fail) _).setBelow (p := ⟨w.heap.size + 1, 1, none⟩) (by first | omega | (simp; omega) | (simp only [World.drew]; omega) | fail) _).setBelow (p := ⟨w.heap.size + 1, 2, none⟩) (by first | omega | (simp; omega) | (simp only [World.drew]; omega) | fail) _).rd
         · exact (((HX2.out.trans hxa).setCell (p := ⟨w.heap.size + 1, 0, none⟩) (Nat.le_succ _) _).setCell (p := ⟨w.heap.size + 1, 1, none⟩) (Nat.le_succ _) _).setCell (p := ⟨w.heap.size + 1, 2, none⟩) (Nat.le_succ _) _)
      | fail
  case rest =>
  obtain ⟨rfl, C', F', c, f, ⟨q0, q1, q2⟩, hRC, hRF, hX⟩ := hcut
  generalize wc = w3 at *
  have HR := Lib.hid (And.intro hRC (And.intro hRF hX))
  have lr3 : w.heap.size + 1 < w3.heap.size := World.block_lt_of_cell? _ _ q0
  clear hRC hRF hX k0 k1 k2 r0 r1 r2 rf lw2 lr2 HX2 HCC HCF
  go_wp2_with fail
  refine bodyPost_ret (v := .agg #[.int .i64 bits, .slice C' nc c, .slice F' nf f]) (by simp [results, Try.results26, go_sem, q0, q1, q2]) rfl (by
    refine ⟨C', F', c, f, ?_, ?_, ?_, HR.out.2.2⟩
    · show _ = Ending.returned (.agg #[.int .i64 bits, .slice C' cells.length c, .slice F' full.length f])
      rw [HN.out.1, HN.out.2]
    · show Rd kU32 w3 (.slice C' cells.length c) (zs cells)
      rw [HN.out.1]; exact HR.out.1
    · show Rd kBool w3 (.slice F' full.length f) full
      rw [HN.out.2]; exact HR.out.2.1)
end Go.Proofs.Ytofiokegdgdacaa

/- The document's Drop (ref12). -/
namespace Go.Proofs.Ytofiokegdgdacaa
open Go.BigFrame
open Go.RowKit Go.Proofs.Ytofiokegdgdacaa.Plain

def Plain.dropP (t : Tb) (keys : List Nat) : Tb × Int := if rightP t = true then makeP t.bits (withoutL (keysP t) keys) else (t, 1)
def Plain.putP (t : Tb) (keys : List Nat) : Tb × Int :=
  if rightP t = true then (if (makeP t.bits (keysP t ++ keys)).2 = 0 then makeP t.bits (keysP t ++ keys) else (t, (makeP t.bits (keysP t ++ keys)).2)) else (t, 1)
/-- a right table's keys are few -/
theorem Plain.right_few (t : Tb) (h : rightP t = true) : (keysP t).length ≤ 768 := by
  obtain ⟨B, h1, h2, _, _, hlen, _⟩ := right_of t h
  have h3 : 2 ^ B ≤ 1024 := Nat.pow_le_pow_right (n := 2) (by decide) h2
  omega
/-- a table, an error: what one may read -/
def TabGot (r : Tb × Int) (w : World) (ed : Ending) (w' : World) : Prop :=
  ∃ (C F : Option Addr) (c f : Nat), ed = .returned (.tuple #[.agg #[.int .i64 r.1.bits, .slice C r.1.cells.length c, .slice F r.1.full.length f], .int .i64 r.2]) ∧ Rd kU32 w' (.slice C r.1.cells.length c) (zs r.1.cells) ∧ Rd kBool w' (.slice F r.1.full.length f) r.1.full ∧ Ext w w'
set_option maxHeartbeats 3200000 in
set_option maxRecDepth 100000 in
theorem rdrop12_any (t : Tb) (l : List Nat) (C F L : Option Addr) (cc cf lc : Nat) (w : World) (hC : Rd kU32 w (.slice C t.cells.length cc) (zs t.cells)) (hF : Rd kBool w (.slice F t.full.length cf) t.full) (hL : Rd kU32 w (.slice L l.length lc) (zs l)) (hc : t.cells.length ≤ 2000) (hf : t.full.length ≤ 2000) (hb : in64 t.bits) :
    Calls Try.prog 11 #[tabV t.bits C t.cells.length cc F t.full.length cf, .slice L l.length lc] w (TabGot (dropP t l) w) := by
  have hcall : ∀ w1, Ext w w1 → Calls Try.prog 20 #[tabV t.bits C t.cells.length cc F t.full.length cf] w1 fun ed w2 => ed = .returned (.bool (rightP t)) ∧ Ext w1 w2 := fun w1 hE => rright12_any t C F cc cf w1 (hC.ext hE) (hF.ext hE) hc hf hb
  by_cases hr : rightP t = true
  · rw [hr] at hcall
    have hfew := right_few t hr
    have hD : dropP t l = makeP t.bits (withoutL (keysP t) l) := by unfold dropP; rw [if_pos hr]
    have HCALL := Lib.hid hcall
    have HC := Lib.hid hC
    have HF := Lib.hid hF
    have HL := Lib.hid hL
    obtain ⟨ks, hks⟩ : ∃ x, keysP t = x := ⟨_, rfl⟩
    rw [hks] at hD hfew
    have hwl : (withoutL ks l).length ≤ ks.length := by unfold withoutL; exact List.length_filter_le _ _
    obtain ⟨wl, hwl2⟩ : ∃ x, withoutL ks l = x := ⟨_, rfl⟩
    rw [hwl2] at hD hwl
    obtain ⟨⟨y, er⟩, hy⟩ : ∃ x, makeP t.bits wl = x := ⟨_, rfl⟩
    have HY := Lib.hid hy
    have HKS := Lib.hid hks
    have HWL := Lib.hid hwl2
    have HB := Lib.hid (And.intro hb (And.intro hc (And.intro hf (And.intro hfew hwl))))
    rw [hD, hy]
    obtain ⟨bits, cells, full⟩ := t
    simp only at HC HF HB HCALL HY HKS ⊢
    clear hcall hr hfew hD hwl hy hks hwl2 hb hc hf hC hF hL
    go_enter Try.func11, Try.ntmps11
    go_wp2_with fail
    refine (HCALL.out _ (((Ext.refl w).alloc _).alloc _)).mono ?_
    rintro ed w2 ⟨rfl, hE2⟩
    have HX2 : Hid (Ext w w2) := Lib.hid ((((Ext.refl w).alloc _).alloc _).trans hE2)
    have k0 : w2.cell? ⟨w.heap.size, 0, none⟩ = some (.int .i64 bits) := hE2.cell (by go_simp)
    have k1 : w2.cell? ⟨w.heap.size, 1, none⟩ = some (.slice C cells.length cc) := hE2.cell (by go_simp)
    have k2 : w2.cell? ⟨w.heap.size, 2, none⟩ = some (.slice F full.length cf) := hE2.cell (by go_simp)
    have j0 : w2.cell? ⟨w.heap.size + 1, 0, none⟩ = some (.int .i64 0) := hE2.cell (by go_simp)
    have j1 : w2.cell? ⟨w.heap.size + 1, 1, none⟩ = some (.slice none 0 0) := hE2.cell (by go_simp)
    have j2 : w2.cell? ⟨w.heap.size + 1, 2, none⟩ = some (.slice none 0 0) := hE2.cell (by go_simp)
    have jf : ∀ o, w2.frozen? ⟨w.heap.size + 1, o, none⟩ = false := fun o => (Below.frozen hE2 (p := ⟨w.heap.size + 1, o, none⟩) (by simp)).trans (by go_simp)
    have lw2 : w.heap.size < w2.heap.size := World.block_lt_of_cell? _ _ k0
    have lj2 : w.heap.size + 1 < w2.heap.size := World.block_lt_of_cell? _ _ j0
    clear hE2
    go_upto_region 1 with fail
    go_region_law (first
      | (go_simp; go_at_call 23
         refine (rkeys12_any ⟨bits, cells, full⟩ C F cc cf _ (HC.out.ext (HX2.out.trans (by repeat (first | (with_reducible exact Ext.refl _) | (with_reducible assumption) | refine Ext.drew ?_ | refine Ext.drewN ?_ _ | refine Ext.alloc ?_ _)))) (HF.out.ext (HX2.out.trans (by repeat (first | (with_reducible exact Ext.refl _) | (with_reducible assumption) | refine Ext.drew ?_ | refine Ext.drewN ?_ _ | refine Ext.alloc ?_ _)))) HB.out.2.1 HB.out.2.2.1).mono ?_
         rw [HKS.out]
         rintro ed w5 ⟨A5, c5, rfl, hO5, hE5⟩
         have hx5 : Ext w2 w5 := Ext.trans (by repeat (first | (with_reducible exact Ext.refl _) | (with_reducible assumption) | refine Ext.drew ?_ | refine Ext.drewN ?_ _ | refine Ext.alloc ?_ _)) hE5
         have m0 := hx5.cell k0
         have n0 := hx5.cell j0
         have n1 := hx5.cell j1
         have n2 := hx5.cell j2
         have nf : ∀ o, w5.frozen? ⟨w.heap.size + 1, o, none⟩ = false := fun o => (Below.frozen hx5 (p := ⟨w.heap.size + 1, o, none⟩) lj2).trans (jf o)
         have lm5 : w.heap.size < w5.heap.size := World.block_lt_of_cell? _ _ m0
         have lj5 : w.heap.size + 1 < w5.heap.size := World.block_lt_of_cell? _ _ n0)
      | (go_simp; go_at_call 24
         refine (rwithout_any ks l A5 L c5 lc _ (hO5.rd.ext (by repeat (first | (with_reducible exact Ext.refl _) | (with_reducible assumption) | refine Ext.drew ?_ | refine Ext.drewN ?_ _ | refine Ext.alloc ?_ _))) (HL.out.ext (HX2.out.trans (hx5.trans (by repeat (first | (with_reducible exact Ext.refl _) | (with_reducible assumption) | refine Ext.drew ?_ | refine Ext.drewN ?_ _ | refine Ext.alloc ?_ _))))) (by have := HB.out; omega)).mono ?_
         rw [HWL.out]
         rintro ed w6 ⟨A6, c6, rfl, hO6, hE6⟩
         have hx6 : Ext w5 w6 := Ext.trans (by repeat (first | (with_reducible exact Ext.refl _) | (with_reducible assumption) | refine Ext.drew ?_ | refine Ext.drewN ?_ _ | refine Ext.alloc ?_ _)) hE6
         have q0 := hx6.cell m0
         have r0 := hx6.cell n0
         have r1 := hx6.cell n1
         have r2 := hx6.cell n2
         have rf : ∀ o, w6.frozen? ⟨w.heap.size + 1, o, none⟩ = false := fun o => (Below.frozen hx6 (p := ⟨w.heap.size + 1, o, none⟩) lj5).trans (nf o)
         have lm6 : w.heap.size < w6.heap.size := World.block_lt_of_cell? _ _ q0
         have lj6 : w.heap.size + 1 < w6.heap.size := World.block_lt_of_cell? _ _ r0)
      | (go_simp; go_at_call 13
         refine (rmake_any bits wl A6 c6 _ (hO6.rd.ext (by repeat (first | (with_reducible exact Ext.refl _) | (with_reducible assumption) | refine Ext.drew ?_ | refine Ext.drewN ?_ _ | refine Ext.alloc ?_ _))) (by have := HB.out; omega) HB.out.1).mono ?_
         rw [HY.out]
         rintro ed w7 ⟨C7, F7, c7, f7, rfl, hC7, hF7, hE7⟩
         have hx7 : Ext w6 w7 := Ext.trans (by repeat (first | (with_reducible exact Ext.refl _) | (with_reducible assumption) | refine Ext.drew ?_ | refine Ext.drewN ?_ _ | refine Ext.alloc ?_ _)) hE7
         have s0 := hx7.cell r0
         have s1 := hx7.cell r1
         have s2 := hx7.cell r2
         have sf : ∀ o, w7.frozen? ⟨w.heap.size + 1, o, none⟩ = false := fun o => (Below.frozen hx7 (p := ⟨w.heap.size + 1, o, none⟩) lj6).trans (rf o)
         have lj7 : w.heap.size + 1 < w7.heap.size := World.block_lt_of_cell? _ _ s0)
      | fail)
    all_goals go_wp2_with fail
    all_goals
      have hxx : Ext w w7 := HX2.out.trans (hx5.trans (hx6.trans hx7))
      have e1 := (((hC7.setBelow (p := ⟨w.heap.size + 1, 0, none⟩) (by first | exact lj6 | (simp; done) | (simp; omega) | omega | fail) (.int .i64 y.bits)).setBelow (p := ⟨w.heap.size + 1, 1, none⟩) (by first | exact lj6 | (simp; done) | (simp; omega) | omega | fail) (.slice C7 y.cells.length c7)).setBelow (p := ⟨w.heap.size + 1, 2, none⟩) (by first | exact lj6 | (simp; done) | (simp; omega) | omega | fail) (.slice F7 y.full.length f7)).rd
      have e2 := (((hF7.setBelow (p := ⟨w.heap.size + 1, 0, none⟩) (by first | exact lj6 | (simp; done) | (simp; omega) | omega | fail) (.int .i64 y.bits)).setBelow (p := ⟨w.heap.size + 1, 1, none⟩) (by first | exact lj6 | (simp; done) | (simp; omega) | omega | fail) (.slice C7 y.cells.length c7)).setBelow (p := ⟨w.heap.size + 1, 2, none⟩) (by first | exact lj6 | (simp; done) | (simp; omega) | omega | fail) (.slice F7 y.full.length f7)).rd
      have hXW := ((hxx.setCell (p := ⟨w.heap.size + 1, 0, none⟩) (Nat.le_succ _) (.int .i64 y.bits)).setCell (p := ⟨w.heap.size + 1, 1, none⟩) (Nat.le_succ _) (.slice C7 y.cells.length c7)).setCell (p := ⟨w.heap.size + 1, 2, none⟩) (Nat.le_succ _) (.slice F7 y.full.length f7)
      obtain ⟨W, hW⟩ : ∃ W, (((w7.setCell ⟨w.heap.size + 1, 0, none⟩ (.int .i64 y.bits)).setCell ⟨w.heap.size + 1, 1, none⟩ (.slice C7 y.cells.length c7)).setCell ⟨w.heap.size + 1, 2, none⟩ (.slice F7 y.full.length f7)) = W := ⟨_, rfl⟩
      rw [hW] at e1 e2 hXW
      have t0 : W.cell? ⟨w.heap.size + 1, 0, none⟩ = some (.int .i64 y.bits) := by subst hW; go_simp
      have t1 : W.cell? ⟨w.heap.size + 1, 1, none⟩ = some (.slice C7 y.cells.length c7) := by subst hW; go_simp
      have t2 : W.cell? ⟨w.heap.size + 1, 2, none⟩ = some (.slice F7 y.full.length f7) := by subst hW; go_simp
      rw [hW]
      clear s0 s1 s2 hW
      refine bodyPost_ret (v := .tuple #[.agg #[.int .i64 y.bits, .slice C7 y.cells.length c7, .slice F7 y.full.length f7], .int .i64 er]) (by simp [results, Try.results11, go_sem, t0, t1, t2]) rfl ⟨C7, F7, c7, f7, rfl, e1, e2, hXW⟩
  · have hr0 : rightP t = false := by cases h : rightP t <;> simp_all
    rw [hr0] at hcall
    have hD : dropP t l = (t, 1) := by unfold dropP; rw [if_neg hr]
    have HCALL := Lib.hid hcall
    have HC := Lib.hid hC
    have HF := Lib.hid hF
    rw [hD]
    obtain ⟨bits, cells, full⟩ := t
    simp only at HC HF HCALL ⊢
    clear hcall hr hD hr0 hb hc hf hC hF hL
    go_enter Try.func11, Try.ntmps11
    go_wp2_with fail
    refine (HCALL.out _ (((Ext.refl w).alloc _).alloc _)).mono ?_
    rintro ed w2 ⟨rfl, hE2⟩
    have HX2 : Hid (Ext w w2) := Lib.hid ((((Ext.refl w).alloc _).alloc _).trans hE2)
    have k0 : w2.cell? ⟨w.heap.size, 0, none⟩ = some (.int .i64 bits) := hE2.cell (by go_simp)
    have k1 : w2.cell? ⟨w.heap.size, 1, none⟩ = some (.slice C cells.length cc) := hE2.cell (by go_simp)
    have k2 : w2.cell? ⟨w.heap.size, 2, none⟩ = some (.slice F full.length cf) := hE2.cell (by go_simp)
    have j0 : w2.cell? ⟨w.heap.size + 1, 0, none⟩ = some (.int .i64 0) := hE2.cell (by go_simp)
    have j1 : w2.cell? ⟨w.heap.size + 1, 1, none⟩ = some (.slice none 0 0) := hE2.cell (by go_simp)
    have j2 : w2.cell? ⟨w.heap.size + 1, 2, none⟩ = some (.slice none 0 0) := hE2.cell (by go_simp)
    have jf : ∀ o, w2.frozen? ⟨w.heap.size + 1, o, none⟩ = false := fun o => (Below.frozen hE2 (p := ⟨w.heap.size + 1, o, none⟩) (by simp)).trans (by go_simp)
    have lw2 : w.heap.size < w2.heap.size := World.block_lt_of_cell? _ _ k0
    have lj2 : w.heap.size + 1 < w2.heap.size := World.block_lt_of_cell? _ _ j0
    clear hE2
    go_wp2_with fail
    obtain ⟨W, hW⟩ : ∃ W, (((w2.setCell ⟨w.heap.size + 1, 0, none⟩ (.int .i64 bits)).setCell ⟨w.heap.size + 1, 1, none⟩ (.slice C cells.length cc)).setCell ⟨w.heap.size + 1, 2, none⟩ (.slice F full.length cf)) = W := ⟨_, rfl⟩
    have s0 : W.cell? ⟨w.heap.size + 1, 0, none⟩ = some (.int .i64 bits) := by subst hW; go_simp
    have s1 : W.cell? ⟨w.heap.size + 1, 1, none⟩ = some (.slice C cells.length cc) := by subst hW; go_simp
    have s2 : W.cell? ⟨w.heap.size + 1, 2, none⟩ = some (.slice F full.length cf) := by subst hW; go_simp
    have HXW : Hid (Ext w W) := Lib.hid (by rw [← hW]; exact ((HX2.out.setCell (p := ⟨w.heap.size + 1, 0, none⟩) (Nat.le_succ _) _).setCell (p := ⟨w.heap.size + 1, 1, none⟩) (Nat.le_succ _) _).setCell (p := ⟨w.heap.size + 1, 2, none⟩) (Nat.le_succ _) _)
    rw [hW]
    refine bodyPost_ret (v := .tuple #[.agg #[.int .i64 bits, .slice C cells.length cc, .slice F full.length cf], .int .i64 1]) (by simp [results, Try.results11, go_sem, s0, s1, s2]) rfl ⟨C, F, cc, cf, rfl, HC.out.ext HXW.out, HF.out.ext HXW.out, HXW.out⟩
end Go.Proofs.Ytofiokegdgdacaa

/- The document's Put (ref12). -/
namespace Go.Proofs.Ytofiokegdgdacaa
open Go.BigFrame
open Go.RowKit Go.Proofs.Ytofiokegdgdacaa.Plain

/-- an empty box of a table -/
structure Bx (B P : Nat) (W : World) : Prop where
  c0 : W.cell? ⟨P, 0, none⟩ = some (.int .i64 0)
  c1 : W.cell? ⟨P, 1, none⟩ = some (.slice none 0 0)
  c2 : W.cell? ⟨P, 2, none⟩ = some (.slice none 0 0)
  f : ∀ o, W.frozen? ⟨P, o, none⟩ = false
  lo : B ≤ P
  hi : P < W.heap.size
theorem Bx.new {B : Nat} {w : World} (h : B ≤ w.heap.size) : Bx B w.heap.size (w.alloc (.cells #[.int .i64 0, .slice none 0 0, .slice none 0 0] 25)) :=
  ⟨by go_simp, by go_simp, by go_simp, fun o => by go_simp, h, by simp⟩
theorem Bx.ext {B P : Nat} {W W' : World} (h : Bx B P W) (hE : Ext W W') : Bx B P W' :=
  ⟨hE.cell h.c0, hE.cell h.c1, hE.cell h.c2, fun o => (Below.frozen hE (p := ⟨P, o, none⟩) h.hi).trans (h.f o), h.lo, Nat.lt_of_lt_of_le h.hi hE.size⟩
theorem Bx.grown {B P : Nat} {W W' : World} {row : Option Nat} (h : Bx B P W) (hg : W.grownBy W' row) (hne : ∀ k, row = some k → k ≠ P) : Bx B P W' := by
  have hr : ¬ some P = row := fun e => hne P e.symm rfl
  refine ⟨hg.cell h.c0 (fun e => hr e), hg.cell h.c1 (fun e => hr e), hg.cell h.c2 (fun e => hr e), fun o => (hg.frozen_far ⟨P, o, none⟩ h.hi (fun e => hr e)).trans (h.f o), h.lo, ?_⟩
  exact World.block_lt_of_cell? _ _ (hg.cell h.c0 (fun e => hr e))
theorem put_meet {w2 w7 : World} {P B' n m : Nat} {C7 F7 : Option Addr} {c7 f7 : Nat} {xs : List Int} {fs : List Bool} {a b c : Value} (bx : Bx w2.heap.size P w7) (hb : P < B') (hC : Ow kU32 B' w7 (.slice C7 n c7) xs) (hF : Ow kBool B' w7 (.slice F7 m f7) fs) (hx : Ext w2 w7) (hB : w2.heap.size ≤ B') :
    ((((w7.setCell ⟨P, 0, none⟩ a).setCell ⟨P, 1, none⟩ b).setCell ⟨P, 2, none⟩ c).cell? ⟨P, 0, none⟩ = some a ∧ (((w7.setCell ⟨P, 0, none⟩ a).setCell ⟨P, 1, none⟩ b).setCell ⟨P, 2, none⟩ c).cell? ⟨P, 1, none⟩ = some b ∧ (((w7.setCell ⟨P, 0, none⟩ a).setCell ⟨P, 1, none⟩ b).setCell ⟨P, 2, none⟩ c).cell? ⟨P, 2, none⟩ = some c) ∧ Ow kU32 w2.heap.size (((w7.setCell ⟨P, 0, none⟩ a).setCell ⟨P, 1, none⟩ b).setCell ⟨P, 2, none⟩ c) (.slice C7 n c7) xs ∧ Ow kBool w2.heap.size (((w7.setCell ⟨P, 0, none⟩ a).setCell ⟨P, 1, none⟩ b).setCell ⟨P, 2, none⟩ c) (.slice F7 m f7) fs ∧ Ext w2 (((w7.setCell ⟨P, 0, none⟩ a).setCell ⟨P, 1, none⟩ b).setCell ⟨P, 2, none⟩ c) := by
  obtain ⟨c0, c1, c2, cf, lo, hi⟩ := bx
  refine ⟨⟨by go_simp, by go_simp, by go_simp⟩, ?_, ?_, ((hx.setCell (p := ⟨P, 0, none⟩) lo _).setCell (p := ⟨P, 1, none⟩) lo _).setCell (p := ⟨P, 2, none⟩) lo _⟩
  · exact (((hC.setBelow (p := ⟨P, 0, none⟩) hb _).setBelow (p := ⟨P, 1, none⟩) hb _).setBelow (p := ⟨P, 2, none⟩) hb _).mono hB
  · exact (((hF.setBelow (p := ⟨P, 0, none⟩) hb _).setBelow (p := ⟨P, 1, none⟩) hb _).setBelow (p := ⟨P, 2, none⟩) hb _).mono hB
set_option maxHeartbeats 6400000 in
set_option maxRecDepth 100000 in
theorem rput12_any (t : Tb) (l : List Nat) (C F L : Option Addr) (cc cf lc : Nat) (w : World) (hC : Rd kU32 w (.slice C t.cells.length cc) (zs t.cells)) (hF : Rd kBool w (.slice F t.full.length cf) t.full) (hL : Rd kU32 w (.slice L l.length lc) (zs l)) (hc : t.cells.length ≤ 2000) (hf : t.full.length ≤ 2000) (hll : l.length ≤ 4000) (hb : in64 t.bits) :
    Calls Try.prog 9 #[tabV t.bits C t.cells.length cc F t.full.length cf, .slice L l.length lc] w (TabGot (putP t l) w) := by
  have hcall : ∀ w1, Ext w w1 → Calls Try.prog 20 #[tabV t.bits C t.cells.length cc F t.full.length cf] w1 fun ed w2 => ed = .returned (.bool (rightP t)) ∧ Ext w1 w2 := fun w1 hE => rright12_any t C F cc cf w1 (hC.ext hE) (hF.ext hE) hc hf hb
  by_cases hr : rightP t = true
  · rw [hr] at hcall
    have hfew := right_few t hr
    obtain ⟨ks, hks⟩ : ∃ x, keysP t = x := ⟨_, rfl⟩
    obtain ⟨kl, hkl⟩ : ∃ x, ks ++ l = x := ⟨_, rfl⟩
    obtain ⟨⟨y, er⟩, hy⟩ : ∃ x, makeP t.bits kl = x := ⟨_, rfl⟩
    have hD : putP t l = if er = 0 then (y, er) else (t, er) := by unfold putP; rw [if_pos hr, hks, hkl, hy]
    have hkll : kl.length = ks.length + l.length := by rw [← hkl, List.length_append]
    have HKL := Lib.hid (And.intro hkl hkll)
    rw [hks] at hfew
    have HCALL := Lib.hid hcall
    have HC := Lib.hid hC
    have HF := Lib.hid hF
    have HL := Lib.hid hL
    have HY := Lib.hid hy
    have HKS := Lib.hid hks
    have HB := Lib.hid (And.intro hb (And.intro hc (And.intro hf (And.intro hfew hll))))
    obtain ⟨R, hR⟩ : ∃ R, putP t l = R := ⟨_, rfl⟩
    rw [hR] at hD ⊢
    have HD := Lib.hid hD
    obtain ⟨bits, cells, full⟩ := t
    simp only at HC HF HB HCALL HY HKS HD ⊢
    clear hcall hr hfew hD hR hy hks hkl hkll hb hc hf hC hF hL hll
    go_enter Try.func9, Try.ntmps9
    go_wp2_with fail
    refine (HCALL.out _ (((Ext.refl w).alloc _).alloc _)).mono ?_
    rintro ed w2 ⟨rfl, hE2⟩
    have HX2 : Hid (Ext w w2) := Lib.hid ((((Ext.refl w).alloc _).alloc _).trans hE2)
    have k0 : w2.cell? ⟨w.heap.size, 0, none⟩ = some (.int .i64 bits) := hE2.cell (by go_simp)
    have k1 : w2.cell? ⟨w.heap.size, 1, none⟩ = some (.slice C cells.length cc) := hE2.cell (by go_simp)
    have k2 : w2.cell? ⟨w.heap.size, 2, none⟩ = some (.slice F full.length cf) := hE2.cell (by go_simp)
    have j0 : w2.cell? ⟨w.heap.size + 1, 0, none⟩ = some (.int .i64 0) := hE2.cell (by go_simp)
    have j1 : w2.cell? ⟨w.heap.size + 1, 1, none⟩ = some (.slice none 0 0) := hE2.cell (by go_simp)
    have j2 : w2.cell? ⟨w.heap.size + 1, 2, none⟩ = some (.slice none 0 0) := hE2.cell (by go_simp)
    have jf : ∀ o, w2.frozen? ⟨w.heap.size + 1, o, none⟩ = false := fun o => (Below.frozen hE2 (p := ⟨w.heap.size + 1, o, none⟩) (by simp)).trans (by go_simp)
    have lw2 : w.heap.size < w2.heap.size := World.block_lt_of_cell? _ _ k0
    have lj2 : w.heap.size + 1 < w2.heap.size := World.block_lt_of_cell? _ _ j0
    clear hE2
    go_upto_region 3 with fail
    go_cut [6, 7] from 12 to 21 (fun p e wx => ∃ (P : Nat) (C' F' : Option Addr) (cc' cf' : Nat), p = .pointer (some ⟨P, 0, none⟩) ∧ w2.heap.size ≤ P ∧ e = .int .i64 er ∧ (wx.cell? ⟨P, 0, none⟩ = some (.int .i64 y.bits) ∧ wx.cell? ⟨P, 1, none⟩ = some (.slice C' y.cells.length cc') ∧ wx.cell? ⟨P, 2, none⟩ = some (.slice F' y.full.length cf')) ∧ Ow kU32 w2.heap.size wx (.slice C' y.cells.length cc') (zs y.cells) ∧ Ow kBool w2.heap.size wx (.slice F' y.full.length cf') y.full ∧ Ext w2 wx)
    case first =>
      go_region_law (first
        | (go_simp; go_at_call 23
           refine (rkeys12_any ⟨bits, cells, full⟩ C F cc cf _ (HC.out.ext (HX2.out.trans (by repeat (first | (with_reducible exact Ext.refl _) | (with_reducible assumption) | refine Ext.drew ?_ | refine Ext.drewN ?_ _ | refine Ext.alloc ?_ _)))) (HF.out.ext (HX2.out.trans (by repeat (first | (with_reducible exact Ext.refl _) | (with_reducible assumption) | refine Ext.drew ?_ | refine Ext.drewN ?_ _ | refine Ext.alloc ?_ _)))) HB.out.2.1 HB.out.2.2.1).mono ?_
           rw [HKS.out]
           rintro ed w5 ⟨A5, c5, rfl, hO5, hE5⟩
           have hx5 : Ext w2 w5 := Ext.trans (by repeat (first | (with_reducible exact Ext.refl _) | (with_reducible assumption) | refine Ext.drew ?_ | refine Ext.drewN ?_ _ | refine Ext.alloc ?_ _)) hE5
           have m0 := hx5.cell k0
           have hs5 := hx5.size
           have hb5 := hE5.size
           have lm5 : w.heap.size < w5.heap.size := World.block_lt_of_cell? _ _ m0
           first
             | have bx5 : Bx w2.heap.size w2.heap.size w5 := (Bx.new (w := w2) (Nat.le_refl _)).ext (Ext.trans (by first | ((repeat (first | (with_reducible exact Ext.refl _) | (with_reducible assumption) | refine Ext.drew ?_ | refine Ext.drewN ?_ _ | refine Ext.alloc ?_ _)); done) | fail) hE5)
             | skip)
        | (refine kU32.step_app (by rfl) (.tmp 16) (.tmp 17) (by rfl) (by rfl) _ _ (zs ks) (by rfl) (Ow.ext hO5 (by repeat (first | (with_reducible exact Ext.refl _) | (with_reducible assumption) | refine Ext.drew ?_ | refine Ext.drewN ?_ _ | refine Ext.alloc ?_ _))) _ (zs l) (by rfl) (Rd.ext HL.out (HX2.out.trans (hx5.trans (by repeat (first | (with_reducible exact Ext.refl _) | (with_reducible assumption) | refine Ext.drew ?_ | refine Ext.drewN ?_ _ | refine Ext.alloc ?_ _))))) (by rw [zs_len, zs_len]; have := HB.out; omega) (by first | omega | (simp; done) | (simp; omega) | (simp at hb5 ⊢; omega)) ?_
           intro v6 w6 hown6 hgrow6 hat6
           have hx6 : Ext w2 w6 := Ext.grown (hx5.trans (by repeat (first | (with_reducible exact Ext.refl _) | (with_reducible assumption) | refine Ext.drew ?_ | refine Ext.drewN ?_ _ | refine Ext.alloc ?_ _))) hgrow6 (fun b hb => by have h9 := (hO5.lt b hb).1; first | omega | (simp at h9 ⊢; omega))
           rw [← zs_app, HKL.out.1] at hown6
           obtain ⟨A6, c6, hv6, hc6⟩ := hown6.slice
           rw [zs_len] at hv6
           subst hv6
           have q0 := hx6.cell k0
           have hs6 := hx6.size
           have lm6 : w.heap.size < w6.heap.size := World.block_lt_of_cell? _ _ q0
           first
             | have bx6 : Bx w2.heap.size w2.heap.size w6 := (Bx.ext bx5 (by first | ((repeat (first | (with_reducible exact Ext.refl _) | (with_reducible assumption) | refine Ext.drew ?_ | refine Ext.drewN ?_ _ | refine Ext.alloc ?_ _)); done) | fail)).grown hgrow6 (fun k hk e => by have h9 := (hO5.lt k hk).1; subst e; first | omega | (simp at h9; omega) | fail)
             | have bx6 : Bx w2.heap.size w5.heap.size w6 := Bx.grown (Bx.ext (Bx.new (w := w5) hs5) (by first | ((repeat (first | (with_reducible exact Ext.refl _) | (with_reducible assumption) | refine Ext.drew ?_ | refine Ext.drewN ?_ _ | refine Ext.alloc ?_ _)); done) | fail)) hgrow6 (fun k hk e => by have h9 := (hO5.lt k hk).2; first | omega | fail)
             | skip
           try have bh6 := Bx.hi bx6)
        | (go_simp; go_at_call 13
           refine (rmake_any bits kl A6 c6 _ (hown6.rd.ext (by repeat (first | (with_reducible exact Ext.refl _) | (with_reducible assumption) | refine Ext.drew ?_ | refine Ext.drewN ?_ _ | refine Ext.alloc ?_ _))) (by rw [HKL.out.2]; have := HB.out; omega) HB.out.1).mono ?_
           rw [HY.out]
           rintro ed w7 ⟨C7, F7, c7, f7, rfl, hC7, hF7, hE7⟩
           have hx67 : Ext w6 w7 := Ext.trans (by repeat (first | (with_reducible exact Ext.refl _) | (with_reducible assumption) | refine Ext.drew ?_ | refine Ext.drewN ?_ _ | refine Ext.alloc ?_ _)) hE7
           have hx7 := hx6.trans hx67
           have hs7 := hx7.size
           have hs67 := hx67.size
           have hs9 := hE7.size
           have lm7 : w.heap.size < w7.heap.size := World.block_lt_of_cell? _ _ (hx7.cell k0)
           first
             | have bx7 : Bx w2.heap.size w2.heap.size w7 := Bx.ext bx6 hx67
             | have bx7 : Bx w2.heap.size w5.heap.size w7 := Bx.ext bx6 hx67
             | have bx7 : Bx w2.heap.size w6.heap.size w7 := Bx.ext (Bx.new (w := w6) hs6) (Ext.trans (by first | ((repeat (first | (with_reducible exact Ext.refl _) | (with_reducible assumption) | refine Ext.drew ?_ | refine Ext.drewN ?_ _ | refine Ext.alloc ?_ _)); done) | fail) hE7)
             | skip
           try obtain ⟨vc0, vc1, vc2, vf, vlo, vhi⟩ := id bx7)
        | fail)
      all_goals go_wp2_with fail
      all_goals go_meet
      all_goals first
        | (have h9 := put_meet (B' := _) (a := .int .i64 y.bits) (b := .slice C7 y.cells.length c7) (c := .slice F7 y.full.length f7) bx7 (by first | omega | (simp; omega) | (simp; done) | fail) hC7 hF7 hx7 (by first | omega | (simp; omega) | (simp; done) | fail)
           exact ⟨_, C7, F7, c7, f7, rfl, bx7.lo, rfl, h9.1, h9.2.1, h9.2.2.1, h9.2.2.2⟩)
        | (refine ⟨w7.heap.size, C7, F7, c7, f7, ?_, ?_, ?_, ⟨?_, ?_, ?_⟩, ?_, ?_, ?_⟩
           · with_reducible rfl
           · omega
           · with_reducible rfl
           · (first | (go_simp; done) | fail)
           · (first | (go_simp; done) | fail)
           · (first | (go_simp; done) | fail)
           · exact (hC7.ext ((Ext.refl _).alloc _)).mono (by first | omega | (simp; omega) | (simp; done))
           · exact (hF7.ext ((Ext.refl _).alloc _)).mono (by first | omega | (simp; omega) | (simp; done))
           · exact hx7.alloc _)
        | fail
    case rest =>
    obtain ⟨P, C', F', cc', cf', rfl, hP, rfl, ⟨q0, q1, q2⟩, hOC, hOF, hX3⟩ := hcut
    generalize wc = w3 at *
    replace k0 := hX3.cell k0
    replace k1 := hX3.cell k1
    replace k2 := hX3.cell k2
    replace j0 := hX3.cell j0
    replace j1 := hX3.cell j1
    replace j2 := hX3.cell j2
    have jf' : ∀ o, w3.frozen? ⟨w.heap.size + 1, o, none⟩ = false := fun o => (Below.frozen hX3 (p := ⟨w.heap.size + 1, o, none⟩) lj2).trans (jf o)
    have lw3 : w.heap.size < w3.heap.size := World.block_lt_of_cell? _ _ k0
    have lj3 : w.heap.size + 1 < w3.heap.size := World.block_lt_of_cell? _ _ j0
    have lP3 : P < w3.heap.size := World.block_lt_of_cell? _ _ q0
    have hPj : P ≠ w.heap.size + 1 := by omega
    have HX3 := Lib.hid (HX2.out.trans hX3)
    have HOC := Lib.hid hOC
    have HOF := Lib.hid hOF
    clear hOC hOF hX3 jf
    by_cases her : er = 0
    · subst her
      have HR : Hid (R = (y, 0)) := Lib.hid (by rw [HD.out, if_pos rfl])
      go_wp2_with fail
      obtain ⟨W, hW⟩ : ∃ W, (((w3.setCell ⟨w.heap.size + 1, 0, none⟩ (.int .i64 y.bits)).setCell ⟨w.heap.size + 1, 1, none⟩ (.slice C' y.cells.length cc')).setCell ⟨w.heap.size + 1, 2, none⟩ (.slice F' y.full.length cf')) = W := ⟨_, rfl⟩
      have hXW : Ext w W := by rw [← hW]; exact (((HX3.out.setCell (p := ⟨w.heap.size + 1, 0, none⟩) (Nat.le_succ _) (.int .i64 y.bits)).setCell (p := ⟨w.heap.size + 1, 1, none⟩) (Nat.le_succ _) (.slice C' y.cells.length cc')).setCell (p := ⟨w.heap.size + 1, 2, none⟩) (Nat.le_succ _) (.slice F' y.full.length cf'))
      have t0 : W.cell? ⟨w.heap.size + 1, 0, none⟩ = some (.int .i64 y.bits) := by subst hW; go_simp
      have t1 : W.cell? ⟨w.heap.size + 1, 1, none⟩ = some (.slice C' y.cells.length cc') := by subst hW; go_simp
      have t2 : W.cell? ⟨w.heap.size + 1, 2, none⟩ = some (.slice F' y.full.length cf') := by subst hW; go_simp
      have e1 : Rd kU32 W (.slice C' y.cells.length cc') (zs y.cells) := by rw [← hW]; exact (((HOC.out.setBelow (p := ⟨w.heap.size + 1, 0, none⟩) lj2 _).setBelow (p := ⟨w.heap.size + 1, 1, none⟩) lj2 _).setBelow (p := ⟨w.heap.size + 1, 2, none⟩) lj2 _).rd
      have e2 : Rd kBool W (.slice F' y.full.length cf') y.full := by rw [← hW]; exact (((HOF.out.setBelow (p := ⟨w.heap.size + 1, 0, none⟩) lj2 _).setBelow (p := ⟨w.heap.size + 1, 1, none⟩) lj2 _).setBelow (p := ⟨w.heap.size + 1, 2, none⟩) lj2 _).rd
      rw [hW]
      clear hW j0 j1 j2
      refine bodyPost_ret (v := .tuple #[.agg #[.int .i64 y.bits, .slice C' y.cells.length cc', .slice F' y.full.length cf'], .int .i64 0]) (by simp [results, Try.results9, go_sem, t0, t1, t2]) rfl (by rw [HR.out]; exact ⟨C', F', cc', cf', rfl, e1, e2, hXW⟩)
    · have he1 : (er == 0) = false := by simp [her]
      have he2 : (er != 0) = true := by simp [her]
      have HR : Hid (R = (⟨bits, cells, full⟩, er)) := Lib.hid (by rw [HD.out, if_neg her])
      clear her
      go_wp2_with fail
      obtain ⟨W, hW⟩ : ∃ W, (((w3.setCell ⟨w.heap.size + 1, 0, none⟩ (.int .i64 bits)).setCell ⟨w.heap.size + 1, 1, none⟩ (.slice C cells.length cc)).setCell ⟨w.heap.size + 1, 2, none⟩ (.slice F full.length cf)) = W := ⟨_, rfl⟩
      have hXW : Ext w W := by rw [← hW]; exact (((HX3.out.setCell (p := ⟨w.heap.size + 1, 0, none⟩) (Nat.le_succ _) (.int .i64 bits)).setCell (p := ⟨w.heap.size + 1, 1, none⟩) (Nat.le_succ _) (.slice C cells.length cc)).setCell (p := ⟨w.heap.size + 1, 2, none⟩) (Nat.le_succ _) (.slice F full.length cf))
      have t0 : W.cell? ⟨w.heap.size + 1, 0, none⟩ = some (.int .i64 bits) := by subst hW; go_simp
      have t1 : W.cell? ⟨w.heap.size + 1, 1, none⟩ = some (.slice C cells.length cc) := by subst hW; go_simp
      have t2 : W.cell? ⟨w.heap.size + 1, 2, none⟩ = some (.slice F full.length cf) := by subst hW; go_simp
      have e1 : Rd kU32 W (.slice C cells.length cc) (zs cells) := HC.out.ext hXW
      have e2 : Rd kBool W (.slice F full.length cf) full := HF.out.ext hXW
      rw [hW]
      clear hW j0 j1 j2
      refine bodyPost_ret (v := .tuple #[.agg #[.int .i64 bits, .slice C cells.length cc, .slice F full.length cf], .int .i64 er]) (by simp [results, Try.results9, go_sem, t0, t1, t2]) rfl (by rw [HR.out]; exact ⟨C, F, cc, cf, rfl, e1, e2, hXW⟩)
  · have hr0 : rightP t = false := by cases h : rightP t <;> simp_all
    rw [hr0] at hcall
    have hD : putP t l = (t, 1) := by unfold putP; rw [if_neg hr]
    have HCALL := Lib.hid hcall
    have HC := Lib.hid hC
    have HF := Lib.hid hF
    rw [hD]
    obtain ⟨bits, cells, full⟩ := t
    simp only at HC HF HCALL ⊢
    clear hcall hr hD hr0 hb hc hf hC hF hL
    go_enter Try.func9, Try.ntmps9
    go_wp2_with fail
    refine (HCALL.out _ (((Ext.refl w).alloc _).alloc _)).mono ?_
    rintro ed w2 ⟨rfl, hE2⟩
    have HX2 : Hid (Ext w w2) := Lib.hid ((((Ext.refl w).alloc _).alloc _).trans hE2)
    have k0 : w2.cell? ⟨w.heap.size, 0, none⟩ = some (.int .i64 bits) := hE2.cell (by go_simp)
    have k1 : w2.cell? ⟨w.heap.size, 1, none⟩ = some (.slice C cells.length cc) := hE2.cell (by go_simp)
    have k2 : w2.cell? ⟨w.heap.size, 2, none⟩ = some (.slice F full.length cf) := hE2.cell (by go_simp)
    have j0 : w2.cell? ⟨w.heap.size + 1, 0, none⟩ = some (.int .i64 0) := hE2.cell (by go_simp)
    have j1 : w2.cell? ⟨w.heap.size + 1, 1, none⟩ = some (.slice none 0 0) := hE2.cell (by go_simp)
    have j2 : w2.cell? ⟨w.heap.size + 1, 2, none⟩ = some (.slice none 0 0) := hE2.cell (by go_simp)
    have jf : ∀ o, w2.frozen? ⟨w.heap.size + 1, o, none⟩ = false := fun o => (Below.frozen hE2 (p := ⟨w.heap.size + 1, o, none⟩) (by simp)).trans (by go_simp)
    have lw2 : w.heap.size < w2.heap.size := World.block_lt_of_cell? _ _ k0
    have lj2 : w.heap.size + 1 < w2.heap.size := World.block_lt_of_cell? _ _ j0
    clear hE2
    go_wp2_with fail
    obtain ⟨W, hW⟩ : ∃ W, (((w2.setCell ⟨w.heap.size + 1, 0, none⟩ (.int .i64 bits)).setCell ⟨w.heap.size + 1, 1, none⟩ (.slice C cells.length cc)).setCell ⟨w.heap.size + 1, 2, none⟩ (.slice F full.length cf)) = W := ⟨_, rfl⟩
    have s0 : W.cell? ⟨w.heap.size + 1, 0, none⟩ = some (.int .i64 bits) := by subst hW; go_simp
    have s1 : W.cell? ⟨w.heap.size + 1, 1, none⟩ = some (.slice C cells.length cc) := by subst hW; go_simp
    have s2 : W.cell? ⟨w.heap.size + 1, 2, none⟩ = some (.slice F full.length cf) := by subst hW; go_simp
    have HXW : Hid (Ext w W) := Lib.hid (by rw [← hW]; exact ((HX2.out.setCell (p := ⟨w.heap.size + 1, 0, none⟩) (Nat.le_succ _) _).setCell (p := ⟨w.heap.size + 1, 1, none⟩) (Nat.le_succ _) _).setCell (p := ⟨w.heap.size + 1, 2, none⟩) (Nat.le_succ _) _)
    rw [hW]
    refine bodyPost_ret (v := .tuple #[.agg #[.int .i64 bits, .slice C cells.length cc, .slice F full.length cf], .int .i64 1]) (by simp [results, Try.results9, go_sem, s0, s1, s2]) rfl ⟨C, F, cc, cf, rfl, HC.out.ext HXW.out, HF.out.ext HXW.out, HXW.out⟩
end Go.Proofs.Ytofiokegdgdacaa

/- The library at words: Grow, Concat of two. -/
namespace Go.Proofs.Ytofiokegdgdacaa
open Go.BigFrame
open Go.RowKit Go.Proofs.Ytofiokegdgdacaa.Plain

theorem u32_zeros (w : World) (n : Nat) (h0 : 0 < n) (hn : n ≤ 1048576) :
    (Builtin.append_ #[22, 3] 22 #[.slice none 0 0, .int .i64 n]).run Try.prog w =
      .ok (.slice (some ⟨w.heap.size, 0, none⟩) n (grownCap w n 0 34)) (w.drew.alloc (.cells (Builtin.zeroCells #[.int .u32 0] n ++ Builtin.zeroCells #[.int .u32 0] (grownCap w n 0 34 - n)) 34)) := by
  obtain ⟨i0, hi, hz0, hz1, hz2⟩ := info_parts kU32.info
  exact Lib.run_append_nil_zeros w 22 3 22 34 i0 (.int .u32 0) .i64 .i64 Try.underlying22 Try.underlying3 hi hz0 n h0 (by rw [hz1]; decide) (by omega) (by rw [hz2]; show n * 4 ≤ _; omega)
theorem wpList_zeros32 {ops : Array Oper} {rest : List Oper} {o : Oper} {a : Act} {w : World} {Q : Exit → Act → World → Prop} (hgd : o.guard = none) (s x : Operand)
    (ho : o.op = .call { callee := .builtin .append, args := #[s, x], argTypes := #[22, 3] }) (hty : o.type = 22) (n : Nat) (hs : a.eval s = .slice none 0 0) (hx : a.eval x = .int .i64 n) (h0 : 0 < n) (hn : n ≤ 1048576)
    (h : ∀ (cap : Nat) (cur : Array Value), (n : Int) ≤ cap → cap ≤ maxLen → cur.size = cap → wpList Try.prog ops Q rest (a.put o.dst (.slice (some ⟨w.heap.size, 0, none⟩) n cap)) (w.drew.alloc (.cells cur 34))) : wpList Try.prog ops Q (o :: rest) a w :=
  wpList_plain hgd fun K hK => by
    unfold Oper.wp execOp
    simp only [ho, hty, resolve, invoke, builtin, Sem.run_bind, Sem.run_pure, Result.andThen_ok, List.map_toArray, List.map_cons, List.map_nil, hs, hx, u32_zeros w n h0 hn]
    have hge := grownCap_ge w n 0 34
    refine hK _ _ (h _ _ (by omega) (grownCap_le_maxLen w n 0 34 (by unfold maxLen; omega)) ?_)
    simp only [Array.size_append, size_zeroCells]
    simp
    omega
theorem ow32_made (w : World) (cur : Array Value) (cap : Nat) {B : Nat} (hb : B ≤ w.heap.size) (hm : cap ≤ maxLen) (hs : cur.size = cap) :
    Ow kU32 B (w.alloc (.cells cur 34)) (.slice (some ⟨w.heap.size, 0, none⟩) 0 cap) [] := ⟨World.ownsRow_made w cur cap hb hm (by show cur.size = cap * 1; omega), by simp⟩
set_option maxHeartbeats 3200000 in
set_option maxRecDepth 100000 in
theorem grow32 (n : Nat) (w : World) (hn : n ≤ 1048576) :
    Calls Try.prog 41 #[.slice none 0 0, .int .i64 n] w fun e w' => ∃ v, e = .returned v ∧ Ow kU32 w.heap.size w' v [] ∧ Ext w w' := by
  by_cases h0 : 0 < n
  · have h0' : (0 : Int) < n := by omega
    go_enter Try.func41, Try.ntmps41
    go_wp2_with (at_builtin; refine wpList_zeros32 rfl _ _ rfl rfl n rfl rfl h0 hn ?_; intro cap cur hc1 hc2 hc3)
    go_ret
    exact ⟨_, rfl, ow32_made w.drew _ _ (Nat.le_refl _) hc2 hc3, (Ext.refl w).drew.alloc _⟩
  · obtain rfl : n = 0 := by omega
    go_enter Try.func41, Try.ntmps41
    go_wp2_with fail
    go_ret
    exact ⟨_, rfl, Ow.nil _ _, Ext.refl _⟩
set_option maxHeartbeats 3200000 in
set_option maxRecDepth 100000 in
theorem concat32 (b o : Nat) (u v : Value) (xs ys : List Int) (w : World) (c0 : w.cell? ⟨b, o, none⟩ = some u) (c1 : w.cell? ⟨b, o + 1, none⟩ = some v) (h : Rd kU32 w u xs) (h' : Rd kU32 w v ys) (hl : xs.length + ys.length ≤ 1048576) :
    Calls Try.prog 27 #[.slice (some ⟨b, o, none⟩) 2 2] w fun e w' => ∃ v', e = .returned v' ∧ Ow kU32 w.heap.size w' v' (xs ++ ys) ∧ Ext w w' := by
  obtain ⟨A, cA, rfl, _⟩ := h.slice
  obtain ⟨B, cB, rfl, _⟩ := h'.slice
  have HX := Lib.hid h
  have HY := Lib.hid h'
  clear h h'
  go_enter Try.func27, Try.ntmps27
  go_wp2_with fail
  go_loop [3, 11] (fun s i => (i = .int .i64 0 ∧ s = .int .i64 0) ∨ (i = .int .i64 1 ∧ s = .int .i64 xs.length) ∨ (i = .int .i64 2 ∧ s = .int .i64 (xs.length + ys.length : Nat))) (fun _ i => 2 - (intOf i).toNat)
  case atStart => exact .inl ⟨rfl, rfl⟩
  case round =>
    rcases hrel with ⟨rfl, rfl⟩ | ⟨rfl, rfl⟩ | ⟨rfl, rfl⟩
    · go_wp2_with fail
      go_round
      case rel => exact .inr (.inl ⟨by go_num, by go_num⟩)
      case measure => simp [intOf]
    · go_wp2_with fail
      go_round
      case rel => exact .inr (.inr ⟨by go_num, by go_num⟩)
      case measure => simp [intOf]
    · go_wp2_with fail
      refine (grow32 _ _ hl).mono ?_
      rintro e w1 ⟨z, rfl, hown, hE⟩
      have HO := Lib.hid hown
      have HE := Lib.hid hE
      clear hown hE
      go_wp2_with fail
      go_loopw [6, 27] (fun v i wr => ((i = .int .i64 0 ∧ Ow kU32 w.heap.size wr v []) ∨ (i = .int .i64 1 ∧ Ow kU32 w.heap.size wr v xs) ∨ (i = .int .i64 2 ∧ Ow kU32 w.heap.size wr v (xs ++ ys))) ∧ Ext w wr) (fun _ i _ => 2 - (intOf i).toNat)
      case atStart => exact ⟨.inl ⟨rfl, HO.out⟩, HE.out⟩
      case round =>
        obtain ⟨hr, hX⟩ := hrel
        have d0 := hX.cell c0
        have d1 := hX.cell c1
        have hz := hX.size
        rcases hr with ⟨rfl, hown⟩ | ⟨rfl, hown⟩ | ⟨rfl, hown⟩
        · go_wp2_with (at_builtin; refine kU32.wpList_app (by rfl) _ _ (by rfl) (by rfl) w.heap.size _ [] (by rfl) hown _ xs (by rfl) (HX.out.ext hX) (by simp; omega) hz ?_; intro v' w2 hown2 hgrow2 hat2)
          go_roundw
          case rel => exact ⟨.inr (.inl ⟨by go_num, by simpa using hown2⟩), hX.grown hgrow2 (fun k hk => (hown.lt k hk).1)⟩
          case measure => simp [intOf]
        · go_wp2_with (at_builtin; refine kU32.wpList_app (by rfl) _ _ (by rfl) (by rfl) w.heap.size _ xs (by rfl) hown _ ys (by rfl) (HY.out.ext hX) hl hz ?_; intro v' w2 hown2 hgrow2 hat2)
          go_roundw
          case rel => exact ⟨.inr (.inr ⟨by go_num, hown2⟩), hX.grown hgrow2 (fun k hk => (hown.lt k hk).1)⟩
          case measure => simp [intOf]
        · go_wp2_with fail
          go_ret
          exact ⟨_, rfl, hown, hX⟩
end Go.Proofs.Ytofiokegdgdacaa

/- The program's Put. -/
namespace Go.Proofs.Ytofiokegdgdacaa
open Go.BigFrame
open Go.RowKit Go.Proofs.Ytofiokegdgdacaa.Plain

theorem rd_box0 {α : Type} {K : Kd α} {W : World} {v : Value} {xs : List α} {P : Nat} (h : Rd K W v xs) (h0 : W.cell? ⟨P, 0, none⟩ = some (.int .i64 0)) (h1 : W.cell? ⟨P, 1, none⟩ = some (.slice none 0 0)) (h2 : W.cell? ⟨P, 2, none⟩ = some (.slice none 0 0)) (hf : ∀ o, W.frozen? ⟨P, o, none⟩ = false) (k0 : ∀ a, Value.int .i64 0 ∉ K.cells a) (k1 : ∀ a, Value.slice none 0 0 ∉ K.cells a) (a b c : Value) :
    Rd K (((W.setCell ⟨P, 0, none⟩ a).setCell ⟨P, 1, none⟩ b).setCell ⟨P, 2, none⟩ c) v xs := by
  have g1 := h.setNot h0 k0 a
  have g2 := g1.setNot (p := ⟨P, 1, none⟩) (u := .slice none 0 0) (by go_simp) k1 b
  exact g2.setNot (p := ⟨P, 2, none⟩) (u := .slice none 0 0) (by go_simp) k1 c
theorem pcopied_of (bits : Int) (cells : List Nat) (full : List Bool) (C F : Option Addr) (cc cf : Nat) (w : World) (hC : Rd kU32 w (.slice C cells.length cc) (zs cells)) (hF : Rd kBool w (.slice F full.length cf) full) (hc : cells.length ≤ 2000) (hf : full.length ≤ 2000) :
    Calls Try.prog 26 #[tabV bits C cells.length cc F full.length cf] w fun ed w' => ∃ (C F : Option Addr) (c f : Nat), ed = .returned (.agg #[.int .i64 bits, .slice C cells.length c, .slice F full.length f]) ∧ Rd kU32 w' (.slice C cells.length c) (zs cells) ∧ Rd kBool w' (.slice F full.length f) full ∧ Ext w w' :=
  pcopied_any ⟨bits, cells, full⟩ C F cc cf w hC hF hc hf
set_option maxHeartbeats 6400000 in
set_option maxRecDepth 100000 in
theorem pputS_any (t : Tb) (l : List Nat) (C F L : Option Addr) (cc cf lc : Nat) (w : World) (hC : Rd kU32 w (.slice C t.cells.length cc) (zs t.cells)) (hF : Rd kBool w (.slice F t.full.length cf) t.full) (hL : Rd kU32 w (.slice L l.length lc) (zs l)) (hc : t.cells.length ≤ 2000) (hf : t.full.length ≤ 2000) (hll : l.length ≤ 4000) (hb : in64 t.bits) :
    Calls Try.prog 8 #[tabV t.bits C t.cells.length cc F t.full.length cf, .slice L l.length lc] w (TabGot (putP t l) w) := by
  have hcall : ∀ w1, Ext w w1 → Calls Try.prog 19 #[tabV t.bits C t.cells.length cc F t.full.length cf] w1 fun ed w2 => ed = .returned (.bool (rightP t)) ∧ Ext w1 w2 := fun w1 hE => prightS_any t C F cc cf w1 (hC.ext hE) (hF.ext hE) hc hf hb
  by_cases hr : rightP t = true
  · rw [hr] at hcall
    have hfew := right_few t hr
    obtain ⟨ks, hks⟩ : ∃ x, keysP t = x := ⟨_, rfl⟩
    obtain ⟨kl, hkl⟩ : ∃ x, ks ++ l = x := ⟨_, rfl⟩
    obtain ⟨⟨y, er⟩, hy⟩ : ∃ x, makeP t.bits kl = x := ⟨_, rfl⟩
    have hD : putP t l = if er = 0 then (y, er) else (t, er) := by unfold putP; rw [if_pos hr, hks, hkl, hy]
    have hkll : kl.length = ks.length + l.length := by rw [← hkl, List.length_append]
    have HKL := Lib.hid (And.intro hkl hkll)
    rw [hks] at hfew
    have HCALL := Lib.hid hcall
    have HC := Lib.hid hC
    have HF := Lib.hid hF
    have HL := Lib.hid hL
    have HY := Lib.hid hy
    have HKS := Lib.hid hks
    have HB := Lib.hid (And.intro hb (And.intro hc (And.intro hf (And.intro hfew hll))))
    obtain ⟨R, hR⟩ : ∃ R, putP t l = R := ⟨_, rfl⟩
    rw [hR] at hD ⊢
    have HD := Lib.hid hD
    obtain ⟨bits, cells, full⟩ := t
    simp only at HC HF HB HCALL HY HKS HD ⊢
    clear hcall hr hfew hD hR hy hks hkl hkll hb hc hf hC hF hL hll
    go_enter Try.func8, Try.ntmps8
    go_wp2_with fail
    refine (HCALL.out _ (((Ext.refl w).alloc _).alloc _)).mono ?_
    rintro ed w2 ⟨rfl, hE2⟩
    have HX2 : Hid (Ext w w2) := Lib.hid ((((Ext.refl w).alloc _).alloc _).trans hE2)
    have k0 : w2.cell? ⟨w.heap.size, 0, none⟩ = some (.int .i64 bits) := hE2.cell (by go_simp)
    have k1 : w2.cell? ⟨w.heap.size, 1, none⟩ = some (.slice C cells.length cc) := hE2.cell (by go_simp)
    have k2 : w2.cell? ⟨w.heap.size, 2, none⟩ = some (.slice F full.length cf) := hE2.cell (by go_simp)
    have j0 : w2.cell? ⟨w.heap.size + 1, 0, none⟩ = some (.int .i64 0) := hE2.cell (by go_simp)
    have j1 : w2.cell? ⟨w.heap.size + 1, 1, none⟩ = some (.slice none 0 0) := hE2.cell (by go_simp)
    have j2 : w2.cell? ⟨w.heap.size + 1, 2, none⟩ = some (.slice none 0 0) := hE2.cell (by go_simp)
    have jf : ∀ o, w2.frozen? ⟨w.heap.size + 1, o, none⟩ = false := fun o => (Below.frozen hE2 (p := ⟨w.heap.size + 1, o, none⟩) (by simp)).trans (by go_simp)
    have lw2 : w.heap.size < w2.heap.size := World.block_lt_of_cell? _ _ k0
    have lj2 : w.heap.size + 1 < w2.heap.size := World.block_lt_of_cell? _ _ j0
    clear hE2
    go_upto_region 3 with fail
    go_cut [6, 7] from 13 to 23 (fun p e wx => ∃ (P : Nat) (C' F' : Option Addr) (cc' cf' : Nat), p = .pointer (some ⟨P, 0, none⟩) ∧ w2.heap.size ≤ P ∧ e = .int .i64 er ∧ (wx.cell? ⟨P, 0, none⟩ = some (.int .i64 y.bits) ∧ wx.cell? ⟨P, 1, none⟩ = some (.slice C' y.cells.length cc') ∧ wx.cell? ⟨P, 2, none⟩ = some (.slice F' y.full.length cf')) ∧ Ow kU32 w2.heap.size wx (.slice C' y.cells.length cc') (zs y.cells) ∧ Ow kBool w2.heap.size wx (.slice F' y.full.length cf') y.full ∧ Ext w2 wx)
    case first =>
      go_region_law (first
        | (go_simp; go_at_call 22
           refine (pkeysS_any ⟨bits, cells, full⟩ C F cc cf _ (HC.out.ext (HX2.out.trans (by repeat (first | (with_reducible exact Ext.refl _) | (with_reducible assumption) | refine Ext.drew ?_ | refine Ext.drewN ?_ _ | refine Ext.alloc ?_ _)))) (HF.out.ext (HX2.out.trans (by repeat (first | (with_reducible exact Ext.refl _) | (with_reducible assumption) | refine Ext.drew ?_ | refine Ext.drewN ?_ _ | refine Ext.alloc ?_ _)))) HB.out.2.1 HB.out.2.2.1).mono ?_
           rw [HKS.out]
           rintro ed w5 ⟨A5, c5, rfl, hO5, hE5⟩
           have hx5 : Ext w2 w5 := Ext.trans (by repeat (first | (with_reducible exact Ext.refl _) | (with_reducible assumption) | refine Ext.drew ?_ | refine Ext.drewN ?_ _ | refine Ext.alloc ?_ _)) hE5
           have m0 := hx5.cell k0
           have hs5 := hx5.size
           have hb5 := hE5.size
           have lm5 : w.heap.size < w5.heap.size := World.block_lt_of_cell? _ _ m0
           first
             | have bx5 : Bx w2.heap.size w2.heap.size w5 := (Bx.new (w := w2) (Nat.le_refl _)).ext (Ext.trans (by first | ((repeat (first | (with_reducible exact Ext.refl _) | (with_reducible assumption) | refine Ext.drew ?_ | refine Ext.drewN ?_ _ | refine Ext.alloc ?_ _)); done) | fail) hE5)
             | skip)
        | (go_simp; go_at_call 27
           refine (concat32 _ 0 (.slice A5 ks.length c5) (.slice L l.length lc) (zs ks) (zs l) _ (by go_simp) (by go_simp) (hO5.rd.ext (by repeat (first | (with_reducible exact Ext.refl _) | (with_reducible assumption) | refine Ext.drew ?_ | refine Ext.drewN ?_ _ | refine Ext.alloc ?_ _))) (Rd.ext HL.out (HX2.out.trans (hx5.trans (by repeat (first | (with_reducible exact Ext.refl _) | (with_reducible assumption) | refine Ext.drew ?_ | refine Ext.drewN ?_ _ | refine Ext.alloc ?_ _))))) (by rw [zs_len, zs_len]; have := HB.out; omega)).mono ?_
           rintro ed w6 ⟨v6, rfl, hown6, hE6⟩
           have hx56 : Ext w5 w6 := Ext.trans (by repeat (first | (with_reducible exact Ext.refl _) | (with_reducible assumption) | refine Ext.drew ?_ | refine Ext.drewN ?_ _ | refine Ext.alloc ?_ _)) hE6
           have hx6 : Ext w2 w6 := hx5.trans hx56
           rw [← zs_app, HKL.out.1] at hown6
           obtain ⟨A6, c6, hv6, hc6⟩ := hown6.slice
           rw [zs_len] at hv6
           subst hv6
           have q0 := hx6.cell k0
           have hs6 := hx6.size
           have hs56 := hx56.size
           have lm6 : w.heap.size < w6.heap.size := World.block_lt_of_cell? _ _ q0
           first
             | have bx6 : Bx w2.heap.size w2.heap.size w6 := Bx.ext bx5 hx56
             | have bx6 : Bx w2.heap.size w5.heap.size w6 := Bx.ext (Bx.new (w := w5) hs5) (Ext.trans (by first | ((repeat (first | (with_reducible exact Ext.refl _) | (with_reducible assumption) | refine Ext.drew ?_ | refine Ext.drewN ?_ _ | refine Ext.alloc ?_ _)); done) | fail) hE6)
             | have bx6 : Bx w2.heap.size (w5.heap.size + 1) w6 := by
                 have hbn := Bx.new (w := w5.alloc (.cells #[.slice A5 ks.length c5, .slice L l.length lc] 22)) (B := w2.heap.size) (by simp; omega)
                 have hbe := Bx.ext hbn (Ext.trans (by first | ((repeat (first | (with_reducible exact Ext.refl _) | (with_reducible assumption) | refine Ext.drew ?_ | refine Ext.drewN ?_ _ | refine Ext.alloc ?_ _)); done) | fail) hE6)
                 rw [World.size_alloc] at hbe
                 exact hbe
             | skip
           try have bh6 := Bx.hi bx6)
        | (go_simp; go_at_call 12
           refine (pmakeS_any bits kl A6 c6 _ (hown6.rd.ext (by repeat (first | (with_reducible exact Ext.refl _) | (with_reducible assumption) | refine Ext.drew ?_ | refine Ext.drewN ?_ _ | refine Ext.alloc ?_ _))) (by rw [HKL.out.2]; have := HB.out; omega) HB.out.1).mono ?_
           rw [HY.out]
           rintro ed w7 ⟨C7, F7, c7, f7, rfl, hC7, hF7, hE7⟩
           have hx67 : Ext w6 w7 := Ext.trans (by repeat (first | (with_reducible exact Ext.refl _) | (with_reducible assumption) | refine Ext.drew ?_ | refine Ext.drewN ?_ _ | refine Ext.alloc ?_ _)) hE7
           have hx7 := hx6.trans hx67
           have hs7 := hx7.size
           have hs67 := hx67.size
           have hs9 := hE7.size
           have lm7 : w.heap.size < w7.heap.size := World.block_lt_of_cell? _ _ (hx7.cell k0)
           first
             | have bx7 : Bx w2.heap.size w2.heap.size w7 := Bx.ext bx6 hx67
             | have bx7 : Bx w2.heap.size w5.heap.size w7 := Bx.ext bx6 hx67
             | have bx7 : Bx w2.heap.size (w5.heap.size + 1) w7 := Bx.ext bx6 hx67
             | have bx7 : Bx w2.heap.size w6.heap.size w7 := Bx.ext (Bx.new (w := w6) hs6) (Ext.trans (by first | ((repeat (first | (with_reducible exact Ext.refl _) | (with_reducible assumption) | refine Ext.drew ?_ | refine Ext.drewN ?_ _ | refine Ext.alloc ?_ _)); done) | fail) hE7)
             | skip
           try obtain ⟨vc0, vc1, vc2, vf, vlo, vhi⟩ := id bx7)
        | fail)
      all_goals go_wp2_with fail
      all_goals go_meet
      all_goals first
        | (have h9 := put_meet (B' := _) (a := .int .i64 y.bits) (b := .slice C7 y.cells.length c7) (c := .slice F7 y.full.length f7) bx7 (by first | omega | (simp; omega) | (simp; done) | fail) hC7 hF7 hx7 (by first | omega | (simp; omega) | (simp; done) | fail)
           exact ⟨_, C7, F7, c7, f7, rfl, bx7.lo, rfl, h9.1, h9.2.1, h9.2.2.1, h9.2.2.2⟩)
        | (refine ⟨w7.heap.size, C7, F7, c7, f7, ?_, ?_, ?_, ⟨?_, ?_, ?_⟩, ?_, ?_, ?_⟩
           · with_reducible rfl
           · omega
           · with_reducible rfl
           · (first | (go_simp; done) | fail)
           · (first | (go_simp; done) | fail)
           · (first | (go_simp; done) | fail)
           · exact (hC7.ext ((Ext.refl _).alloc _)).mono (by first | omega | (simp; omega) | (simp; done))
           · exact (hF7.ext ((Ext.refl _).alloc _)).mono (by first | omega | (simp; omega) | (simp; done))
           · exact hx7.alloc _)
        | fail
    case rest =>
    obtain ⟨P, C', F', cc', cf', rfl, hP, rfl, ⟨q0, q1, q2⟩, hOC, hOF, hX3⟩ := hcut
    generalize wc = w3 at *
    replace k0 := hX3.cell k0
    replace k1 := hX3.cell k1
    replace k2 := hX3.cell k2
    replace j0 := hX3.cell j0
    replace j1 := hX3.cell j1
    replace j2 := hX3.cell j2
    have jf' : ∀ o, w3.frozen? ⟨w.heap.size + 1, o, none⟩ = false := fun o => (Below.frozen hX3 (p := ⟨w.heap.size + 1, o, none⟩) lj2).trans (jf o)
    have lw3 : w.heap.size < w3.heap.size := World.block_lt_of_cell? _ _ k0
    have lj3 : w.heap.size + 1 < w3.heap.size := World.block_lt_of_cell? _ _ j0
    have lP3 : P < w3.heap.size := World.block_lt_of_cell? _ _ q0
    have hPj : P ≠ w.heap.size + 1 := by omega
    have HX3 := Lib.hid (HX2.out.trans hX3)
    have HOC := Lib.hid hOC
    have HOF := Lib.hid hOF
    clear hOC hOF hX3 jf
    by_cases her : er = 0
    · subst her
      have HR : Hid (R = (y, 0)) := Lib.hid (by rw [HD.out, if_pos rfl])
      go_wp2_with fail
      obtain ⟨W, hW⟩ : ∃ W, (((w3.setCell ⟨w.heap.size + 1, 0, none⟩ (.int .i64 y.bits)).setCell ⟨w.heap.size + 1, 1, none⟩ (.slice C' y.cells.length cc')).setCell ⟨w.heap.size + 1, 2, none⟩ (.slice F' y.full.length cf')) = W := ⟨_, rfl⟩
      have hXW : Ext w W := by rw [← hW]; exact (((HX3.out.setCell (p := ⟨w.heap.size + 1, 0, none⟩) (Nat.le_succ _) (.int .i64 y.bits)).setCell (p := ⟨w.heap.size + 1, 1, none⟩) (Nat.le_succ _) (.slice C' y.cells.length cc')).setCell (p := ⟨w.heap.size + 1, 2, none⟩) (Nat.le_succ _) (.slice F' y.full.length cf'))
      have t0 : W.cell? ⟨w.heap.size + 1, 0, none⟩ = some (.int .i64 y.bits) := by subst hW; go_simp
      have t1 : W.cell? ⟨w.heap.size + 1, 1, none⟩ = some (.slice C' y.cells.length cc') := by subst hW; go_simp
      have t2 : W.cell? ⟨w.heap.size + 1, 2, none⟩ = some (.slice F' y.full.length cf') := by subst hW; go_simp
      have e1 : Rd kU32 W (.slice C' y.cells.length cc') (zs y.cells) := by rw [← hW]; exact (((HOC.out.setBelow (p := ⟨w.heap.size + 1, 0, none⟩) lj2 _).setBelow (p := ⟨w.heap.size + 1, 1, none⟩) lj2 _).setBelow (p := ⟨w.heap.size + 1, 2, none⟩) lj2 _).rd
      have e2 : Rd kBool W (.slice F' y.full.length cf') y.full := by rw [← hW]; exact (((HOF.out.setBelow (p := ⟨w.heap.size + 1, 0, none⟩) lj2 _).setBelow (p := ⟨w.heap.size + 1, 1, none⟩) lj2 _).setBelow (p := ⟨w.heap.size + 1, 2, none⟩) lj2 _).rd
      rw [hW]
      clear hW j0 j1 j2
      refine bodyPost_ret (v := .tuple #[.agg #[.int .i64 y.bits, .slice C' y.cells.length cc', .slice F' y.full.length cf'], .int .i64 0]) (by simp [results, Try.results8, go_sem, t0, t1, t2]) rfl (by rw [HR.out]; exact ⟨C', F', cc', cf', rfl, e1, e2, hXW⟩)
    · have he1 : (er == 0) = false := by simp [her]
      have he2 : (er != 0) = true := by simp [her]
      have HR : Hid (R = (⟨bits, cells, full⟩, er)) := Lib.hid (by rw [HD.out, if_neg her])
      clear her
      go_wp2_with fail
      refine (pcopied_of bits cells full C F cc cf w3 (HC.out.ext HX3.out) (HF.out.ext HX3.out) HB.out.2.1 HB.out.2.2.1).mono ?_
      rintro ed w4 ⟨C4, F4, c4, f4, rfl, hR4, hS4, hE4⟩
      replace j0 := hE4.cell j0
      replace j1 := hE4.cell j1
      replace j2 := hE4.cell j2
      have jf4 : ∀ o, w4.frozen? ⟨w.heap.size + 1, o, none⟩ = false := fun o => (Below.frozen hE4 (p := ⟨w.heap.size + 1, o, none⟩) lj3).trans (jf' o)
      have lj4 : w.heap.size + 1 < w4.heap.size := World.block_lt_of_cell? _ _ j0
      have HX4 := Lib.hid (HX3.out.trans hE4)
      have hb1 := fun a b c => rd_box0 hR4 j0 j1 j2 jf4 (fun a => by simp [kU32]) (fun a => by simp [kU32]) a b c
      have hb2 := fun a b c => rd_box0 hS4 j0 j1 j2 jf4 (fun a => by simp [kBool]) (fun a => by simp [kBool]) a b c
      have HBX := Lib.hid (And.intro hb1 hb2)
      clear hR4 hS4 hE4 hb1 hb2 k0 k1 k2
      go_wp2_with fail
      obtain ⟨W, hW⟩ : ∃ W, (((w4.setCell ⟨w.heap.size + 1, 0, none⟩ (.int .i64 bits)).setCell ⟨w.heap.size + 1, 1, none⟩ (.slice C4 cells.length c4)).setCell ⟨w.heap.size + 1, 2, none⟩ (.slice F4 full.length f4)) = W := ⟨_, rfl⟩
      have HXW : Hid (Ext w W) := Lib.hid (by rw [← hW]; exact ((HX4.out.setCell (p := ⟨w.heap.size + 1, 0, none⟩) (Nat.le_succ _) _).setCell (p := ⟨w.heap.size + 1, 1, none⟩) (Nat.le_succ _) _).setCell (p := ⟨w.heap.size + 1, 2, none⟩) (Nat.le_succ _) _)
      have t0 : W.cell? ⟨w.heap.size + 1, 0, none⟩ = some (.int .i64 bits) := by subst hW; go_simp
      have t1 : W.cell? ⟨w.heap.size + 1, 1, none⟩ = some (.slice C4 cells.length c4) := by subst hW; go_simp
      have t2 : W.cell? ⟨w.heap.size + 1, 2, none⟩ = some (.slice F4 full.length f4) := by subst hW; go_simp
      have e1 : Rd kU32 W (.slice C4 cells.length c4) (zs cells) := by rw [← hW]; exact HBX.out.1 _ _ _
      have e2 : Rd kBool W (.slice F4 full.length f4) full := by rw [← hW]; exact HBX.out.2 _ _ _
      rw [hW]
      clear hW j0 j1 j2
      refine bodyPost_ret (v := .tuple #[.agg #[.int .i64 bits, .slice C4 cells.length c4, .slice F4 full.length f4], .int .i64 er]) (by simp [results, Try.results8, go_sem, t0, t1, t2]) rfl (by rw [HR.out]; exact ⟨C4, F4, c4, f4, rfl, e1, e2, HXW.out⟩)
  · have hr0 : rightP t = false := by cases h : rightP t <;> simp_all
    rw [hr0] at hcall
    have hD : putP t l = (t, 1) := by unfold putP; rw [if_neg hr]
    have HB9 := Lib.hid (And.intro hc hf)
    have HCALL := Lib.hid hcall
    have HC := Lib.hid hC
    have HF := Lib.hid hF
    rw [hD]
    obtain ⟨bits, cells, full⟩ := t
    simp only at HC HF HCALL ⊢
    clear hcall hr hD hr0 hb hc hf hC hF hL
    go_enter Try.func8, Try.ntmps8
    go_wp2_with fail
    refine (HCALL.out _ (((Ext.refl w).alloc _).alloc _)).mono ?_
    rintro ed w2 ⟨rfl, hE2⟩
    have HX2 : Hid (Ext w w2) := Lib.hid ((((Ext.refl w).alloc _).alloc _).trans hE2)
    have k0 : w2.cell? ⟨w.heap.size, 0, none⟩ = some (.int .i64 bits) := hE2.cell (by go_simp)
    have k1 : w2.cell? ⟨w.heap.size, 1, none⟩ = some (.slice C cells.length cc) := hE2.cell (by go_simp)
    have k2 : w2.cell? ⟨w.heap.size, 2, none⟩ = some (.slice F full.length cf) := hE2.cell (by go_simp)
    have j0 : w2.cell? ⟨w.heap.size + 1, 0, none⟩ = some (.int .i64 0) := hE2.cell (by go_simp)
    have j1 : w2.cell? ⟨w.heap.size + 1, 1, none⟩ = some (.slice none 0 0) := hE2.cell (by go_simp)
    have j2 : w2.cell? ⟨w.heap.size + 1, 2, none⟩ = some (.slice none 0 0) := hE2.cell (by go_simp)
    have jf : ∀ o, w2.frozen? ⟨w.heap.size + 1, o, none⟩ = false := fun o => (Below.frozen hE2 (p := ⟨w.heap.size + 1, o, none⟩) (by simp)).trans (by go_simp)
    have lw2 : w.heap.size < w2.heap.size := World.block_lt_of_cell? _ _ k0
    have lj2 : w.heap.size + 1 < w2.heap.size := World.block_lt_of_cell? _ _ j0
    clear hE2
    go_wp2_with fail
    refine (pcopied_of bits cells full C F cc cf w2 (HC.out.ext HX2.out) (HF.out.ext HX2.out) HB9.out.1 HB9.out.2).mono ?_
    rintro ed w4 ⟨C4, F4, c4, f4, rfl, hR4, hS4, hE4⟩
    replace j0 := hE4.cell j0
    replace j1 := hE4.cell j1
    replace j2 := hE4.cell j2
    have jf4 : ∀ o, w4.frozen? ⟨w.heap.size + 1, o, none⟩ = false := fun o => (Below.frozen hE4 (p := ⟨w.heap.size + 1, o, none⟩) lj2).trans (jf o)
    have lj4 : w.heap.size + 1 < w4.heap.size := World.block_lt_of_cell? _ _ j0
    have HX4 := Lib.hid (HX2.out.trans hE4)
    have hb1 := fun a b c => rd_box0 hR4 j0 j1 j2 jf4 (fun a => by simp [kU32]) (fun a => by simp [kU32]) a b c
    have hb2 := fun a b c => rd_box0 hS4 j0 j1 j2 jf4 (fun a => by simp [kBool]) (fun a => by simp [kBool]) a b c
    have HBX := Lib.hid (And.intro hb1 hb2)
    clear hR4 hS4 hE4 hb1 hb2 k0 k1 k2
    go_wp2_with fail
    obtain ⟨W, hW⟩ : ∃ W, (((w4.setCell ⟨w.heap.size + 1, 0, none⟩ (.int .i64 bits)).setCell ⟨w.heap.size + 1, 1, none⟩ (.slice C4 cells.length c4)).setCell ⟨w.heap.size + 1, 2, none⟩ (.slice F4 full.length f4)) = W := ⟨_, rfl⟩
    have HXW : Hid (Ext w W) := Lib.hid (by rw [← hW]; exact ((HX4.out.setCell (p := ⟨w.heap.size + 1, 0, none⟩) (Nat.le_succ _) _).setCell (p := ⟨w.heap.size + 1, 1, none⟩) (Nat.le_succ _) _).setCell (p := ⟨w.heap.size + 1, 2, none⟩) (Nat.le_succ _) _)
    have t0 : W.cell? ⟨w.heap.size + 1, 0, none⟩ = some (.int .i64 bits) := by subst hW; go_simp
    have t1 : W.cell? ⟨w.heap.size + 1, 1, none⟩ = some (.slice C4 cells.length c4) := by subst hW; go_simp
    have t2 : W.cell? ⟨w.heap.size + 1, 2, none⟩ = some (.slice F4 full.length f4) := by subst hW; go_simp
    have e1 : Rd kU32 W (.slice C4 cells.length c4) (zs cells) := by rw [← hW]; exact HBX.out.1 _ _ _
    have e2 : Rd kBool W (.slice F4 full.length f4) full := by rw [← hW]; exact HBX.out.2 _ _ _
    rw [hW]
    clear hW j0 j1 j2
    refine bodyPost_ret (v := .tuple #[.agg #[.int .i64 bits, .slice C4 cells.length c4, .slice F4 full.length f4], .int .i64 1]) (by simp [results, Try.results8, go_sem, t0, t1, t2]) rfl (⟨C4, F4, c4, f4, rfl, e1, e2, HXW.out⟩)
end Go.Proofs.Ytofiokegdgdacaa

/- The library at words: BinarySearch. -/
namespace Go.Proofs.Ytofiokegdgdacaa
open Go.BigFrame
open Go.RowKit Go.Proofs.Ytofiokegdgdacaa.Plain

theorem bs_none {l : List Nat} {x i : Nat} (hl : l.Pairwise (· < ·)) (h1 : ∀ t, t < i → l.getD t 0 < x) (h2 : ∀ t, i ≤ t → t < l.length → x ≤ l.getD t 0) (h3 : i < l.length → l.getD i 0 ≠ x) : x ∉ l := by
  intro hx
  obtain ⟨t, ht, rfl⟩ := List.getElem_of_mem hx
  have e : l.getD t 0 = l[t] := by rw [List.getD_eq_getElem?_getD, List.getElem?_eq_getElem ht]; rfl
  rcases Nat.lt_trichotomy t i with h | h | h
  · have := h1 t h; omega
  · subst h; exact h3 ht e
  · have h4 := h2 i (Nat.le_refl _) (by omega)
    have h5 := h3 (by omega)
    rw [List.pairwise_iff_getElem] at hl
    have h6 := hl i t (by omega) ht h
    have e2 : l.getD i 0 = l[i] := by rw [List.getD_eq_getElem?_getD, List.getElem?_eq_getElem (by omega)]; rfl
    omega
set_option maxHeartbeats 3200000 in
set_option maxRecDepth 100000 in
theorem snan_any (x : Nat) (w : World) :
    Calls Try.prog 46 #[.int .u32 x] w fun ed w' => ed = .returned (.bool false) ∧ w' = w := by
  have hd : ((x : Int) != (x : Int)) = false := by simp
  have hd2 : (x != x) = false := by simp
  go_enter Try.func46, Try.ntmps46
  go_wp2_with fail
  go_ret
  exact ⟨rfl, rfl⟩
set_option maxHeartbeats 3200000 in
set_option maxRecDepth 100000 in
theorem bsearch32 (l : List Nat) (L : Option Addr) (lc x : Nat) (w : World) (h : Rd kU32 w (.slice L l.length lc) (zs l)) (hl : l.Pairwise (· < ·)) (hn : l.length ≤ 1000000) :
    Calls Try.prog 31 #[.slice L l.length lc, .int .u32 x] w fun ed w' => ∃ i : Nat, ed = .returned (.tuple #[.int .i64 i, .bool (decide (x ∈ l))]) ∧ Ext w w' := by
  have H := Lib.hid h
  have HL := Lib.hid hl
  obtain ⟨n, hln⟩ : ∃ n, l.length = n := ⟨_, rfl⟩
  have HN := Lib.hid hln
  rw [hln] at hn ⊢
  have hn9 : (n : Int) ≤ 1000000 := by omega
  clear h hl hln
  go_enter Try.func31, Try.ntmps31
  go_wp2_with fail
  go_loopw [7, 8] (fun v7 v8 wr => ∃ i j : Nat, v7 = .int .i64 i ∧ v8 = .int .i64 j ∧ (i ≤ j ∧ j ≤ n) ∧ (∀ t, t < i → l.getD t 0 < x) ∧ (∀ t, j ≤ t → t < l.length → x ≤ l.getD t 0) ∧ Ext w wr) (fun v7 v8 _ => (intOf v8).toNat - (intOf v7).toNat)
  case atStart => exact ⟨0, n, rfl, rfl, by omega, fun t ht => absurd ht (Nat.not_lt_zero _), fun t h1 h2 => by have := HN.out; omega, Ext.refl _⟩
  case round =>
    obtain ⟨i, j, rfl, rfl, hij, hlo, hhi, hX⟩ := hrel
    have HLO := Lib.hid (And.intro hlo hhi)
    have HX := Lib.hid hX
    obtain ⟨hij1, hij2⟩ := hij
    have hi0 : (0 : Int) ≤ i := by omega
    have hj9 : (j : Int) ≤ 1000000 := by omega
    have hi9 : (i : Int) ≤ 1000000 := by omega
    clear hlo hhi hX
    by_cases hlt : i < j
    · have hlt' : (i : Int) < j := by omega
      have hd1 : decide (i < j) = true := decide_eq_true hlt
      obtain ⟨s, hs⟩ : ∃ s, i + j = s := ⟨_, rfl⟩
      obtain ⟨k, hk⟩ : ∃ k, s / 2 = k := ⟨_, rfl⟩
      have hsI : (i : Int) + (j : Int) = (s : Int) := by omega
      have hkI : (s : Int) / 2 = (k : Int) := by omega
      have hsw := wrap9 2000000 s (by omega) (by omega)
      have hsu : IntKind.u64.wrap (s : Int) = (s : Int) := by rw [IntKind.wrap_u64]; omega
      have hku : IntKind.u64.wrap (k : Int) = (k : Int) := by rw [IntKind.wrap_u64]; omega
      have hkw := wrap9 2000000 k (by omega) (by omega)
      have hkn : k < n := by omega
      have hk0 : (0 : Int) ≤ k := by omega
      have hkn9 : (k : Int) < n := by omega
      have HK : Hid (i ≤ k ∧ k < j) := Lib.hid (by omega)
      obtain ⟨bx, ox, rfl, z, hzl⟩ := u32_at (H.out.ext HX.out) k (by rw [HN.out]; exact hkn)
      have lbx : bx < wr.heap.size := World.block_lt_of_cell? _ _ z
      obtain ⟨y, hy⟩ : ∃ y, l.getD k 0 = y := ⟨_, rfl⟩
      rw [hy] at z hzl
      have HY := Lib.hid hy
      clear hs hk hy hzl
      go_wp2_with fail
      refine (qless_any y x _).mono ?_
      rintro ed w5 ⟨rfl, hE5⟩
      have HE5 := Lib.hid (HX.out.trans hE5)
      clear hE5 z
      cases hl : ltN y x with
      | true =>
        have HL2 : Hid (y < x) := Lib.hid (of_decide_eq_true hl)
        clear hl
        go_wp2_with fail
        go_roundw
        case rel =>
          refine ⟨k + 1, j, by go_num, rfl, by have := HK.out; omega, fun t ht => ?_, HLO.out.2, HE5.out⟩
          have hlk : l.getD t 0 ≤ l.getD k 0 := by
            rcases Nat.lt_or_ge t k with h9 | h9
            · have hp := HL.out
              rw [List.pairwise_iff_getElem] at hp
              have h6 := hp t k (by rw [HN.out]; omega) (by rw [HN.out]; omega) h9
              rw [List.getD_eq_getElem?_getD, List.getD_eq_getElem?_getD, List.getElem?_eq_getElem (by rw [HN.out]; omega), List.getElem?_eq_getElem (by rw [HN.out]; omega)]
              exact Nat.le_of_lt h6
            · obtain rfl : t = k := by omega
              exact Nat.le_refl _
          have h7 := HY.out
          have h8 := HL2.out
          omega
        case measure => simp [intOf]; have := HK.out; omega
      | false =>
        have HL2 : Hid (¬ y < x) := Lib.hid (of_decide_eq_false hl)
        clear hl
        go_wp2_with fail
        go_roundw
        case rel =>
          refine ⟨i, k, rfl, rfl, by have := HK.out; omega, HLO.out.1, fun t ht htl => ?_, HE5.out⟩
          have hlk : l.getD k 0 ≤ l.getD t 0 := by
            rcases Nat.lt_or_ge k t with h9 | h9
            · have hp := HL.out
              rw [List.pairwise_iff_getElem] at hp
              have h6 := hp k t (by rw [HN.out]; omega) htl h9
              rw [List.getD_eq_getElem?_getD, List.getD_eq_getElem?_getD, List.getElem?_eq_getElem (by rw [HN.out]; omega), List.getElem?_eq_getElem htl]
              exact Nat.le_of_lt h6
            · obtain rfl : t = k := by omega
              exact Nat.le_refl _
          have h7 := HY.out
          have h8 := HL2.out
          omega
        case measure => simp [intOf]; have := HK.out; omega
    · obtain rfl : i = j := by omega
      by_cases hin : i < n
      · have hin9 : (i : Int) < n := by omega
        have hd2 : decide (i < n) = true := decide_eq_true hin
        obtain ⟨bx, ox, rfl, z, hzl⟩ := u32_at (H.out.ext HX.out) i (by rw [HN.out]; exact hin)
        have lbx : bx < wr.heap.size := World.block_lt_of_cell? _ _ z
        have hmem : l.getD i 0 ∈ l := by rw [List.getD_eq_getElem?_getD, List.getElem?_eq_getElem (by rw [HN.out]; exact hin)]; exact List.getElem_mem _
        obtain ⟨y, hy⟩ : ∃ y, l.getD i 0 = y := ⟨_, rfl⟩
        rw [hy] at z hzl hmem
        by_cases hyx : y = x
        · subst hyx
          have HR : Hid (decide (y ∈ l) = true) := Lib.hid (decide_eq_true hmem)
          have hb : ((y : Int) == (y : Int)) = true := by simp
          have hbN : (y == y) = true := by simp
          clear hy hmem hzl
          go_wp2_with fail
          refine bodyPost_ret (v := .tuple #[.int .i64 i, .bool true]) (by simp [results, Try.results31, go_sem]) rfl ⟨i, by rw [HR.out], HX.out⟩
        · have HR : Hid (decide (x ∈ l) = false) := Lib.hid (decide_eq_false (bs_none HL.out HLO.out.1 HLO.out.2 (fun _ => by rw [hy]; exact hyx)))
          have hb : ((y : Int) == (x : Int)) = false := by simp; omega
          have hbN : (y == x) = false := by simp [hyx]
          have hbM : decide (y = x) = false := decide_eq_false hyx
          clear hy hmem hzl hyx
          go_wp2_with fail
          refine (snan_any y _).mono ?_
          rintro ed w6 ⟨rfl, rfl⟩
          go_wp2_with fail
          refine bodyPost_ret (v := .tuple #[.int .i64 i, .bool false]) (by simp [results, Try.results31, go_sem]) rfl ⟨i, by rw [HR.out], HX.out⟩
      · have hd2 : decide (i < n) = false := decide_eq_false hin
        have hd3 : decide ((i : Int) < (n : Int)) = false := decide_eq_false (by omega)
        have HR : Hid (decide (x ∈ l) = false) := Lib.hid (decide_eq_false (bs_none HL.out HLO.out.1 HLO.out.2 (fun h9 => by rw [HN.out] at h9; omega)))
        go_wp2_with fail
        refine bodyPost_ret (v := .tuple #[.int .i64 i, .bool false]) (by simp [results, Try.results31, go_sem]) rfl ⟨i, by rw [HR.out], HX.out⟩
end Go.Proofs.Ytofiokegdgdacaa

/- The library at words: IndexFunc, DeleteFunc. -/
namespace Go.Proofs.Ytofiokegdgdacaa
open Go.BigFrame
open Go.RowKit Go.Proofs.Ytofiokegdgdacaa.Plain

def filL (p : Nat → Bool) (l : List Nat) : List Nat := l.filter (fun x => !p x)
def filM (p : Nat → Bool) (l : List Nat) (j : Nat) : List Nat := filL p (l.take j) ++ l.drop (filL p (l.take j)).length
theorem filL_step (p : Nat → Bool) (l : List Nat) (j : Nat) (hj : j < l.length) :
    (p (l.getD j 0) = true → filL p (l.take (j + 1)) = filL p (l.take j)) ∧ (p (l.getD j 0) = false → filL p (l.take (j + 1)) = filL p (l.take j) ++ [l.getD j 0]) := by
  rw [take_snoc9 l j hj]
  unfold filL
  rw [List.filter_append]
  constructor <;> intro h <;> simp only [List.filter_cons, List.filter_nil, h] <;> simp
theorem filL_le (p : Nat → Bool) (l : List Nat) (j : Nat) : (filL p (l.take j)).length ≤ j := by
  unfold filL
  refine Nat.le_trans (List.length_filter_le _ _) ?_
  rw [List.length_take]; omega
theorem filM_len (p : Nat → Bool) (l : List Nat) (j : Nat) (hj : j ≤ l.length) : (filM p l j).length = l.length := by
  unfold filM
  have := filL_le p l j
  rw [List.length_append, List.length_drop]; omega
theorem filM_at (p : Nat → Bool) (l : List Nat) (j k : Nat) (h : (filL p (l.take j)).length ≤ k) : (filM p l j).getD k 0 = l.getD k 0 := by
  unfold filM
  rw [List.getD_eq_getElem?_getD, List.getElem?_append_right h, List.getElem?_drop, List.getD_eq_getElem?_getD]
  congr 2; omega
theorem filM_same (p : Nat → Bool) (l : List Nat) (j : Nat) (hj : j < l.length) (h : p (l.getD j 0) = true) : filM p l (j + 1) = filM p l j := by
  unfold filM
  rw [(filL_step p l j hj).1 h]
theorem filM_more (p : Nat → Bool) (l : List Nat) (j : Nat) (hj : j < l.length) (h : p (l.getD j 0) = false) : filM p l (j + 1) = (filM p l j).set (filL p (l.take j)).length (l.getD j 0) := by
  unfold filM
  rw [(filL_step p l j hj).2 h]
  have hle := filL_le p l j
  obtain ⟨k, hk'⟩ : ∃ k, (filL p (l.take j)).length = k := ⟨_, rfl⟩
  rw [List.length_append, List.length_singleton, hk', List.set_append, if_neg (by omega), hk', Nat.sub_self]
  rw [hk'] at hle
  rw [List.drop_eq_getElem_cons (show k < l.length by omega), List.set_cons_zero, List.append_assoc]
  rfl
set_option maxHeartbeats 3200000 in
set_option maxRecDepth 100000 in
theorem idxf32 (P : Nat) (p : Nat → Bool) (l : List Nat) (L : Option Addr) (lc : Nat) (w : World) (h : Rd kU32 w (.slice L l.length lc) (zs l)) (hn : l.length ≤ 1000000)
    (hcall : ∀ (x : Nat) w', x < 4294967296 → Ext w w' → Calls Try.prog 30 #[.int .u32 x, .pointer (some ⟨P, 0, none⟩)] w' fun ed w'' => ed = .returned (.bool (p x)) ∧ Ext w' w'') :
    Calls Try.prog 44 #[.slice L l.length lc, .func (.func 30) #[] #[.pointer (some ⟨P, 0, none⟩)]] w fun ed w' =>
      ((ed = .returned (.int .i64 (-1)) ∧ ∀ t, t < l.length → p (l.getD t 0) = false) ∨ ∃ i : Nat, i < l.length ∧ ed = .returned (.int .i64 i) ∧ p (l.getD i 0) = true ∧ ∀ t, t < i → p (l.getD t 0) = false) ∧ Ext w w' := by
  have H := Lib.hid h
  have HCALL := Lib.hid hcall
  obtain ⟨n, hln⟩ : ∃ n, l.length = n := ⟨_, rfl⟩
  have HN := Lib.hid hln
  rw [hln] at hn ⊢
  have hn9 : (n : Int) ≤ 1000000 := by omega
  clear h hln hcall
  go_enter Try.func44, Try.ntmps44
  go_wp2_with fail
  go_loopw [8] (fun v wr => ∃ k : Nat, v = .int .i64 k ∧ k ≤ n ∧ (∀ t, t < k → p (l.getD t 0) = false) ∧ Ext w wr) (fun v _ => n - (intOf v).toNat)
  case atStart => exact ⟨0, rfl, Nat.zero_le _, fun t ht => absurd ht (Nat.not_lt_zero _), Ext.refl _⟩
  case round =>
    obtain ⟨k, rfl, hk, hall, hX⟩ := hrel
    have HALL := Lib.hid hall
    have HX := Lib.hid hX
    have hk0 : (0 : Int) ≤ k := by omega
    clear hall hX
    by_cases hlt : k < n
    · have hlt' : (k : Int) < n := by omega
      have hd1 : decide (k < n) = true := decide_eq_true hlt
      obtain ⟨bx, ox, rfl, z, hzl⟩ := u32_at (H.out.ext HX.out) k (by rw [HN.out]; exact hlt)
      have lbx : bx < wr.heap.size := World.block_lt_of_cell? _ _ z
      obtain ⟨y, hy⟩ : ∃ y, l.getD k 0 = y := ⟨_, rfl⟩
      rw [hy] at z hzl
      have HY := Lib.hid hy
      have HC := Lib.hid (HCALL.out y wr hzl HX.out)
      clear hy hzl
      go_wp2_with fail
      refine HC.out.mono ?_
      rintro ed w5 ⟨rfl, hE5⟩
      have HE5 := Lib.hid (HX.out.trans hE5)
      clear hE5 HC
      cases hp : p y with
      | true =>
        have HP := Lib.hid hp
        clear hp
        go_wp2_with fail
        go_ret
        exact ⟨.inr ⟨k, hlt, rfl, by rw [HY.out]; exact HP.out, HALL.out⟩, HE5.out⟩
      | false =>
        have HP := Lib.hid hp
        clear hp
        go_wp2_with fail
        go_roundw
        case rel =>
          refine ⟨k + 1, by go_num, by omega, fun t ht => ?_, HE5.out⟩
          rcases Nat.lt_or_ge t k with h9 | h9
          · exact HALL.out t h9
          · obtain rfl : t = k := by omega
            rw [HY.out]; exact HP.out
        case measure => first | (simp [intOf]; done) | (simp [intOf]; omega)
    · obtain rfl : k = n := by omega
      go_wp2_with fail
      go_ret
      exact ⟨.inl ⟨rfl, HALL.out⟩, HX.out⟩
theorem filL_all {p : Nat → Bool} {l : List Nat} (h : ∀ t, t < l.length → p (l.getD t 0) = false) : filL p l = l := by
  unfold filL
  rw [List.filter_eq_self]
  intro a ha
  obtain ⟨t, ht, rfl⟩ := List.getElem_of_mem ha
  have h9 := h t ht
  rw [List.getD_eq_getElem?_getD, List.getElem?_eq_getElem ht] at h9
  have h8 : p l[t] = false := h9
  rw [h8]; rfl
theorem filL_pre {p : Nat → Bool} {l : List Nat} {i : Nat} (hi : i ≤ l.length) (h : ∀ t, t < i → p (l.getD t 0) = false) : filL p (l.take i) = l.take i :=
  filL_all fun t ht => by
    rw [List.length_take] at ht
    rw [List.getD_eq_getElem?_getD, List.getElem?_take_of_lt (by omega), ← List.getD_eq_getElem?_getD]
    exact h t (by omega)
set_option maxHeartbeats 3200000 in
set_option maxRecDepth 100000 in
theorem idxf0_any (P : Nat) (A : Option Addr) (c : Nat) (w : World) :
    Calls Try.prog 44 #[.slice A 0 c, .func (.func 30) #[] #[.pointer (some ⟨P, 0, none⟩)]] w fun ed w' => ed = .returned (.int .i64 (-1)) ∧ w' = w := by
  go_enter Try.func44, Try.ntmps44
  go_wp2_with fail
  go_loopw [8] (fun v wr => v = .int .i64 0 ∧ wr = w) (fun _ _ => 0)
  case atStart => exact ⟨rfl, rfl⟩
  case round =>
    obtain ⟨rfl, rfl⟩ := hrel
    go_wp2_with fail
    go_ret
    exact ⟨rfl, rfl⟩
set_option maxHeartbeats 3200000 in
set_option maxRecDepth 100000 in
theorem delf0_any (P : Nat) (A : Option Addr) (c : Nat) (w : World) :
    Calls Try.prog 29 #[.slice A 0 c, .func (.func 30) #[] #[.pointer (some ⟨P, 0, none⟩)]] w fun ed w' => ed = .returned (.slice A 0 c) ∧ Ext w w' := by
  have H := Lib.hid (idxf0_any P A c w)
  go_enter Try.func29, Try.ntmps29
  go_wp2_with fail
  refine H.out.mono ?_
  rintro ed w1 ⟨rfl, rfl⟩
  go_wp2_with fail
  go_ret
  exact ⟨rfl, Ext.refl _⟩
set_option maxHeartbeats 3200000 in
set_option maxRecDepth 100000 in
theorem delf32 (P : Nat) (p : Nat → Bool) (l : List Nat) (G B c : Nat) (w0 w : World) (h : Ow kU32 B w (.slice (some ⟨G, 0, none⟩) l.length c) (zs l)) (hE : Ext w0 w) (hB : w0.heap.size ≤ B) (h1 : 1 ≤ l.length) (hn : l.length ≤ 1000000)
    (hcall : ∀ (x : Nat) w', x < 4294967296 → Ext w0 w' → Calls Try.prog 30 #[.int .u32 x, .pointer (some ⟨P, 0, none⟩)] w' fun ed w'' => ed = .returned (.bool (p x)) ∧ Ext w' w'') :
    Calls Try.prog 29 #[.slice (some ⟨G, 0, none⟩) l.length c, .func (.func 30) #[] #[.pointer (some ⟨P, 0, none⟩)]] w fun ed w' => ed = .returned (.slice (some ⟨G, 0, none⟩) (filL p l).length c) ∧ Ow kU32 B w' (.slice (some ⟨G, 0, none⟩) (filL p l).length c) (zs (filL p l)) ∧ Ext w0 w' := by
  have hnc : l.length ≤ c := by
    obtain ⟨A, c', e, hc⟩ := h.slice
    rw [zs_len] at e hc
    cases e
    exact hc
  have HIDX := Lib.hid (idxf32 P p l (some ⟨G, 0, none⟩) c w h.rd hn (fun x w' hx hE' => hcall x w' hx (hE.trans hE')))
  obtain ⟨n, hln⟩ : ∃ n, l.length = n := ⟨_, rfl⟩
  have hBG : B ≤ G := (h.atN (u := 0) (by omega)).2.2.2.1
  have HN := Lib.hid hln
  rw [hln] at h hnc h1 hn HIDX ⊢
  have HO := Lib.hid h
  have HE := Lib.hid hE
  have HCALL := Lib.hid hcall
  have HG : Hid (w0.heap.size ≤ G) := Lib.hid (Nat.le_trans hB hBG)
  have hn9 : (n : Int) ≤ 1000000 := by omega
  have hnc9 : (n : Int) ≤ c := by omega
  clear h hE hln hB hBG hcall
  go_enter Try.func29, Try.ntmps29
  go_wp2_with fail
  refine HIDX.out.mono ?_
  rintro ed w1 ⟨hr, hE1⟩
  have HO1 := Lib.hid (HO.out.ext hE1)
  have HX1 := Lib.hid (HE.out.trans hE1)
  clear hE1 HIDX HO HE
  rcases hr with ⟨rfl, hall⟩ | ⟨i, hi, rfl, hpi, hall⟩
  · have HF : Hid (filL p l = l) := Lib.hid (filL_all fun t ht => hall t (by rw [← HN.out]; exact ht))
    clear hall
    go_wp2_with fail
    go_ret
    rw [HF.out, HN.out]
    exact ⟨rfl, HO1.out, HX1.out⟩
  · have hi0 : (0 : Int) ≤ i := by omega
    have hi9 : (i : Int) < n := by omega
    have hne : ((i : Int) == -1) = false := by first | (simp; done) | (simp; omega)
    have hne2 : decide ((i : Int) = -1) = false := decide_eq_false (by omega)
    have hpre := filL_pre (by rw [HN.out]; omega) hall
    have hst := (filL_step p l i (by rw [HN.out]; exact hi)).1 hpi
    have hil : (l.take i).length = i := by rw [List.length_take, HN.out]; omega
    have HS0 : Hid ((filL p (l.take (i + 1))).length = i ∧ filM p l (i + 1) = l) := Lib.hid (by
      unfold filM
      rw [hst, hpre, hil]
      exact ⟨rfl, List.take_append_drop i l⟩)
    clear hpre hst hil hpi hall
    go_wp2_with fail
    go_loopw [5, 6] (fun v5 v6 wq => ∃ (kk j : Nat), v5 = .int .i64 kk ∧ v6 = .int .i64 j ∧ (i < j ∧ j ≤ n) ∧ ((filL p (l.take j)).length = kk ∧ kk < j) ∧ Ow kU32 B wq (.slice (some ⟨G, 0, none⟩) n c) (zs (filM p l j)) ∧ Ext w0 wq) (fun _ v6 _ => n - (intOf v6).toNat)
    case atStart => exact ⟨i, i + 1, rfl, by go_num, by omega, ⟨HS0.out.1, by omega⟩, by rw [HS0.out.2]; exact HO1.out, HX1.out⟩
    case round =>
      obtain ⟨kk, j, rfl, rfl, hj, hkk, hO, hX⟩ := hrel
      rename World => wq
      have HOq := Lib.hid hO
      have HXq := Lib.hid hX
      have HKK := Lib.hid hkk
      obtain ⟨hj1, hj2⟩ := hj
      have hj0 : (0 : Int) ≤ j := by omega
      have hkk0 : (0 : Int) ≤ kk := by omega
      have hkn : kk < n := by have := HKK.out.2; omega
      have hkn9 : (kk : Int) < n := by omega
      have HML : Hid ((filM p l j).length = n) := Lib.hid ((filM_len p l j (by rw [HN.out]; exact hj2)).trans HN.out)
      clear hO hX HX1 hkk
      by_cases hlt : j < n
      · have hlt' : (j : Int) < n := by omega
        have hd1 : decide (j < n) = true := decide_eq_true hlt
        obtain ⟨zj, fj, hy9, _, lbG⟩ := HOq.out.atN (u := j) (by rw [HML.out]; exact hlt)
        rw [filM_at p l j j (by have := HKK.out; omega)] at zj hy9
        have hst := filL_step p l j (by rw [HN.out]; exact hlt)
        have hsm := filM_same p l j (by rw [HN.out]; exact hlt)
        have hmo := filM_more p l j (by rw [HN.out]; exact hlt)
        obtain ⟨y, hy⟩ : ∃ y, l.getD j 0 = y := ⟨_, rfl⟩
        rw [hy] at zj hy9 hst hsm hmo
        rw [HKK.out.1] at hmo
        have HST := Lib.hid (And.intro hst (And.intro hsm hmo))
        have HC := Lib.hid (HCALL.out y wq hy9 HXq.out)
        have HY9 := Lib.hid hy9
        clear hst hsm hmo hy hy9
        go_wp2_with fail
        refine HC.out.mono ?_
        rintro ed w5 ⟨rfl, hE5⟩
        have HO5 := Lib.hid (HOq.out.ext hE5)
        have HX5 := Lib.hid (HXq.out.trans hE5)
        clear hE5 HC HOq HXq zj fj lbG
        cases hp : p y with
        | true =>
          have HP := Lib.hid hp
          clear hp
          go_wp2_with fail
          go_roundw
          case rel => exact ⟨kk, j + 1, rfl, by go_num, by omega, ⟨by rw [HST.out.1.1 HP.out]; exact HKK.out.1, by have := HKK.out; omega⟩, by rw [HST.out.2.1 HP.out]; exact HO5.out, HX5.out⟩
          case measure => first | (simp [intOf]; done) | (simp [intOf]; omega)
        | false =>
          have HP := Lib.hid hp
          clear hp
          obtain ⟨zk, fk, _, _, lb5⟩ := HO5.out.atN (u := kk) (by rw [HML.out]; exact hkn)
          have fkk := fk kk
          have HSET := Lib.hid (HO5.out.setN (u := kk) (v := y) (by rw [HML.out]; exact hkn) HY9.out)
          have HXS := Lib.hid (HX5.out.setCell (p := ⟨G, kk, none⟩) HG.out (.int .u32 (y : Nat)))
          clear fk HO5 HX5
          go_wp2_with fail
          go_roundw
          case rel => exact ⟨kk + 1, j + 1, by go_num, by go_num, by omega, ⟨by rw [HST.out.1.2 HP.out, List.length_append, HKK.out.1]; rfl, by have := HKK.out; omega⟩, by rw [HST.out.2.2 HP.out]; exact HSET.out, HXS.out⟩
          case measure => first | (simp [intOf]; done) | (simp [intOf]; omega)
      · obtain rfl : j = n := by omega
        have hfull : l.take j = l := List.take_of_length_le (by rw [HN.out]; exact Nat.le_refl _)
        have hcm : filM p l j = filL p l ++ l.drop kk := by unfold filM; rw [HKK.out.1, hfull]
        have hcl : (filL p l).length = kk := by rw [← hfull]; exact HKK.out.1
        obtain ⟨m2, hm2⟩ : ∃ m2, j - kk = m2 := ⟨_, rfl⟩
        have hML := HML.out
        have hbz := zeros_at (filM p l j) kk m2 (by rw [hML]; omega) (by rw [hML]; omega) B G c wq (by rw [hML]; exact HOq.out)
        rw [hML] at hbz
        have htk : (filM p l j).take kk = filL p l := by rw [hcm, ← hcl]; exact List.take_left' rfl
        rw [htk] at hbz
        have hall := fun t (ht : t < j) => HOq.out.atN (u := t) (by rw [hML]; exact ht)
        have hclr : ∀ ty, (Builtin.clear_ #[22] ty #[.slice (some ⟨G, kk, none⟩) m2 (c - kk)]).run Try.prog wq = .ok (.tuple #[]) (wq.setCells G kk (List.replicate m2 (.int .u32 0))) := fun ty =>
          Lib.run_clear_slice wq 22 34 ty (.int .u32 0) Try.underlying22 (fun w => by kernel_rfl) rfl rfl G kk m2 (c - kk) (by omega) (fun t ht => by rw [(hall (kk + t) (by omega)).1]; rfl) (fun t ht => (hall (kk + t) (by omega)).2.1 _)
        have HBZ := Lib.hid hbz
        have hkc2 : ¬ (c = kk) := by omega
        have hkc3 : (kk : Int) ≤ c := by omega
        have HCLL := Lib.hid hcl
        have HM2 := Lib.hid hm2
        have hkk9 : kk ≤ j := by omega
        clear hbz hall hcl hcm hfull hML htk HOq
        go_wp2_with fail
        have hfin : Ow kU32 B (wq.setCells G kk (List.replicate m2 (.int .u32 0))) (.slice (some ⟨G, 0, none⟩) kk c) (zs (filL p l)) := by
          have h9 := HBZ.out.1.take kk (by rw [zs_len, List.length_append, HCLL.out]; omega) (by rw [zs_len, List.length_append, List.length_replicate]; have := HM2.out; omega)
          have e9 : (zs (filL p l ++ List.replicate m2 0)).take kk = zs (filL p l) := by rw [← zs_take9, List.take_left' HCLL.out]
          rw [e9] at h9
          exact h9
        have HFIN := Lib.hid hfin
        clear hfin
        refine bodyPost_ret (v := .slice (some ⟨G, 0, none⟩) kk c) (by simp [results, Try.results29, go_sem]) rfl ⟨by rw [HCLL.out], by rw [HCLL.out]; exact HFIN.out, HBZ.out.2 w0 HXq.out HG.out⟩
end Go.Proofs.Ytofiokegdgdacaa

/- The program's Drop. -/
namespace Go.Proofs.Ytofiokegdgdacaa
open Go.BigFrame
open Go.RowKit Go.Proofs.Ytofiokegdgdacaa.Plain

set_option maxHeartbeats 3200000 in
set_option maxRecDepth 100000 in
theorem pdel1_any (P : Nat) (o : List Nat) (A : Option Addr) (c x : Nat) (w : World) (hx : x < 4294967296) (hc : w.cell? ⟨P, 0, none⟩ = some (.slice A o.length c)) (hO : Rd kU32 w (.slice A o.length c) (zs o)) (hr : o.Pairwise (· < ·)) (hn : o.length ≤ 1000000) :
    Calls Try.prog 30 #[.int .u32 x, .pointer (some ⟨P, 0, none⟩)] w fun ed w' => ed = .returned (.bool (decide (x ∈ o))) ∧ Ext w w' := by
  have HB := Lib.hid (bsearch32 o A c x w hO hr hn)
  have lP : P < w.heap.size := World.block_lt_of_cell? _ _ hc
  obtain ⟨n, hn'⟩ : ∃ n, o.length = n := ⟨_, rfl⟩
  rw [hn'] at hc HB
  clear hx hO hr hn hn'
  go_enter Try.func30, Try.ntmps30
  go_wp2_with fail
  refine HB.out.mono ?_
  rintro ed w1 ⟨i, rfl, hE1⟩
  have HE1 := Lib.hid hE1
  obtain ⟨r, hr⟩ : ∃ r, decide (x ∈ o) = r := ⟨_, rfl⟩
  rw [hr]
  have HR := Lib.hid hr
  clear hE1 HB hr
  go_wp2_with fail
  go_ret
  exact ⟨ret_bool HR.out.symm, HE1.out⟩
theorem Plain.fil_without (ks l : List Nat) : filL (fun x => decide (x ∈ risingR l)) ks = withoutL ks l := by
  unfold filL withoutL
  congr 1
  funext x
  congr 1
  exact decide_eq_decide.2 ((risingR_good _ l rfl).2.1 x)
theorem Plain.makeP_rising (B : Nat) (rl : List Nat) (h1 : 1 ≤ B) (h2 : B ≤ 10) (hr : rl.Pairwise (· < ·)) (hf : rl.length ≤ 2 ^ B * 3 / 4) : makeP (B : Int) rl = (tbOf B rl, 0) := by
  unfold makeP
  rw [risingR_self hr, if_neg (by omega), Int.toNat_natCast, if_neg (by omega)]
set_option maxHeartbeats 3200000 in
set_option maxRecDepth 100000 in
theorem pdrop12_any (t : Tb) (C F : Option Addr) (cc cf : Nat) (l : List Nat) (L : Option Addr) (lc : Nat) (w : World) (hC : Rd kU32 w (.slice C t.cells.length cc) (zs t.cells)) (hF : Rd kBool w (.slice F t.full.length cf) t.full) (hc : t.cells.length ≤ 2000) (hf : t.full.length ≤ 2000) (hb : in64 t.bits) (hL : Rd kU32 w (.slice L l.length lc) (zs l)) (hl : l.length ≤ 2000) :
    Calls Try.prog 10 #[tabV t.bits C t.cells.length cc F t.full.length cf, .slice L l.length lc] w (TabGot (dropP t l) w) := by
  have hcall : ∀ w1, Ext w w1 → Calls Try.prog 19 #[tabV t.bits C t.cells.length cc F t.full.length cf] w1 fun ed w2 => ed = .returned (.bool (rightP t)) ∧ Ext w1 w2 := fun w1 hE => prightS_any t C F cc cf w1 (hC.ext hE) (hF.ext hE) hc hf hb
  by_cases hr : rightP t = true
  · rw [hr] at hcall
    obtain ⟨B, h1, h2, hb2, hkr, hkf, _⟩ := right_of t hr
    have hD : dropP t l = makeP t.bits (withoutL (keysP t) l) := by unfold dropP; rw [if_pos hr]
    have hkeys := fun w1 (hE : Ext w w1) => pkeysS_any t C F cc cf w1 (hC.ext hE) (hF.ext hE) hc hf
    have HRS := Lib.hid (fun w1 (hE : Ext w w1) => prising_any l L lc w1 (hL.ext hE) (by omega))
    obtain ⟨ks, hks⟩ : ∃ x, keysP t = x := ⟨_, rfl⟩
    rw [hks] at hD hkeys hkr hkf
    have hwr : (withoutL ks l).Pairwise (· < ·) := hkr.sublist List.filter_sublist
    have hwl : (withoutL ks l).length ≤ ks.length := List.length_filter_le _ _
    rw [hb2, makeP_rising B _ h1 h2 hwr (Nat.le_trans hwl hkf)] at hD
    have HD := Lib.hid hD
    have HFIL := Lib.hid (fun A c w1 h => pfilled_any B (withoutL ks l) A c w1 h h1 h2 hwr (Nat.le_trans hwl hkf))
    have HFW := Lib.hid (fil_without ks l)
    have hol : (risingR l).length ≤ 1000000 := by have := risingR_len l; omega
    obtain ⟨o, ho⟩ : ∃ x, risingR l = x := ⟨_, rfl⟩
    have HOR : Hid (o.Pairwise (· < ·)) := Lib.hid (by rw [← ho]; exact (risingR_good _ l rfl).1)
    rw [ho] at HRS HFW hol
    have HOL := Lib.hid hol
    have hkn : ks.length ≤ 1000000 := by
      have := Nat.pow_le_pow_right (n := 2) (by decide) h2
      omega
    have HKN := Lib.hid hkn
    have HCALL := Lib.hid hcall
    have HKEYS := Lib.hid hkeys
    obtain ⟨R, hR⟩ : ∃ R, dropP t l = R := ⟨_, rfl⟩
    rw [hR] at HD ⊢
    obtain ⟨rl, hrl⟩ : ∃ x, withoutL ks l = x := ⟨_, rfl⟩
    rw [hrl] at HD HFIL HFW
    obtain ⟨bits, cells, full⟩ := t
    simp only at HCALL HKEYS hb2 ⊢
    subst hb2
    clear hcall hr hkeys hD hwr hwl hkr hkf ho hol hkn hR hrl hks hb hc hf hC hF hL hl
    go_enter Try.func10, Try.ntmps10
    go_wp2_with fail
    refine (HCALL.out _ (((Ext.refl w).alloc _).alloc _)).mono ?_
    rintro ed w2 ⟨rfl, hE2⟩
    have HX2 : Hid (Ext w w2) := Lib.hid ((((Ext.refl w).alloc _).alloc _).trans hE2)
    have k0 : w2.cell? ⟨w.heap.size, 0, none⟩ = some (.int .i64 B) := hE2.cell (by go_simp)
    have k1 : w2.cell? ⟨w.heap.size, 1, none⟩ = some (.slice C cells.length cc) := hE2.cell (by go_simp)
    have k2 : w2.cell? ⟨w.heap.size, 2, none⟩ = some (.slice F full.length cf) := hE2.cell (by go_simp)
    have j0 : w2.cell? ⟨w.heap.size + 1, 0, none⟩ = some (.int .i64 0) := hE2.cell (by go_simp)
    have j1 : w2.cell? ⟨w.heap.size + 1, 1, none⟩ = some (.slice none 0 0) := hE2.cell (by go_simp)
    have j2 : w2.cell? ⟨w.heap.size + 1, 2, none⟩ = some (.slice none 0 0) := hE2.cell (by go_simp)
    have jf : ∀ o, w2.frozen? ⟨w.heap.size + 1, o, none⟩ = false := fun o => (Below.frozen hE2 (p := ⟨w.heap.size + 1, o, none⟩) (by simp)).trans (by go_simp)
    have lw2 : w.heap.size < w2.heap.size := World.block_lt_of_cell? _ _ k0
    have lj2 : w.heap.size + 1 < w2.heap.size := World.block_lt_of_cell? _ _ j0
    clear hE2 HCALL
    go_wp2_with fail
    refine (HRS.out _ HX2.out).mono ?_
    rintro ed w3 ⟨A3, c3, rfl, hO3, hE3⟩
    have HO3 := Lib.hid hO3.rd
    have HX3 := Lib.hid (HX2.out.trans hE3)
    replace k0 := hE3.cell k0
    replace k1 := hE3.cell k1
    replace k2 := hE3.cell k2
    replace j0 := hE3.cell j0
    replace j1 := hE3.cell j1
    replace j2 := hE3.cell j2
    have jf3 : ∀ o, w3.frozen? ⟨w.heap.size + 1, o, none⟩ = false := fun o => (Below.frozen hE3 (p := ⟨w.heap.size + 1, o, none⟩) lj2).trans (jf o)
    have lw3 : w.heap.size < w3.heap.size := World.block_lt_of_cell? _ _ k0
    have lj3 : w.heap.size + 1 < w3.heap.size := World.block_lt_of_cell? _ _ j0
    clear hO3 hE3 HRS jf
    go_wp2_with fail
    obtain ⟨Pb, hPb⟩ : ∃ Pb, w3.heap.size = Pb := ⟨_, rfl⟩
    obtain ⟨w4, hw4⟩ : ∃ w4, w3.alloc (.cells #[.slice A3 o.length c3] 22) = w4 := ⟨_, rfl⟩
    have hE4 : Ext w3 w4 := by rw [← hw4]; exact (Ext.refl _).alloc _
    have pb : w4.cell? ⟨Pb, 0, none⟩ = some (.slice A3 o.length c3) := by subst hw4; subst hPb; go_simp
    have HO4 := Lib.hid (HO3.out.ext hE4)
    have HX4 := Lib.hid (HX3.out.trans hE4)
    replace k0 := hE4.cell k0
    replace k1 := hE4.cell k1
    replace k2 := hE4.cell k2
    replace j0 := hE4.cell j0
    replace j1 := hE4.cell j1
    replace j2 := hE4.cell j2
    have jf4 : ∀ o, w4.frozen? ⟨w.heap.size + 1, o, none⟩ = false := fun o => (Below.frozen hE4 (p := ⟨w.heap.size + 1, o, none⟩) lj3).trans (jf3 o)
    have lw4 : w.heap.size < w4.heap.size := World.block_lt_of_cell? _ _ k0
    have lj4 : w.heap.size + 1 < w4.heap.size := World.block_lt_of_cell? _ _ j0
    simp only [hPb, hw4]
    have HDEL := Lib.hid (fun (x : Nat) w' (hx : x < 4294967296) (hE' : Ext w4 w') => pdel1_any Pb o A3 c3 x w' hx (hE'.cell pb) (HO4.out.ext hE') HOR.out HOL.out)
    clear hw4 hPb hE4 pb jf3
    refine (HKEYS.out w4 HX4.out).mono ?_
    rintro ed w5 ⟨A5, c5, rfl, hO5, hE5⟩
    have HO5 := Lib.hid hO5
    have HE5 := Lib.hid hE5
    clear hO5 hE5 HKEYS
    have HDF : Hid (Calls Try.prog 29 #[.slice A5 ks.length c5, .func (.func 30) #[] #[.pointer (some ⟨Pb, 0, none⟩)]] w5 fun ed w' => ∃ (A : Option Addr) (c : Nat), ed = .returned (.slice A rl.length c) ∧ Rd kU32 w' (.slice A rl.length c) (zs rl) ∧ Ext w4 w') := Lib.hid (by
      by_cases h0 : ks.length = 0
      · have hk0 : ks = [] := List.eq_nil_of_length_eq_zero h0
        have hr0 : rl = [] := by rw [← HFW.out, hk0]; rfl
        have hdf := delf0_any Pb A5 c5 w5
        rw [hk0, hr0]
        refine hdf.mono ?_
        rintro ed w' ⟨rfl, hE⟩
        exact ⟨A5, c5, rfl, Rd.nil _ _ _, HE5.out.trans hE⟩
      · obtain ⟨g, e, _⟩ := HO5.out.pos (by rw [zs_len]; omega)
        have hO := HO5.out
        cases e
        have hdf := delf32 Pb (fun x => decide (x ∈ o)) ks g w4.heap.size c5 w4 w5 hO HE5.out (Nat.le_refl _) (by omega) HKN.out HDEL.out
        rw [HFW.out] at hdf
        refine hdf.mono ?_
        rintro ed w' ⟨rfl, hO', hE'⟩
        exact ⟨_, _, rfl, hO'.rd, hE'⟩)
    go_wp2_with fail
    refine HDF.out.mono ?_
    rintro ed w7 ⟨A7, c7, rfl, hO7, hE7⟩
    have HO7 := Lib.hid hO7
    have HX7 := Lib.hid (HX4.out.trans hE7)
    replace k0 := hE7.cell k0
    replace k1 := hE7.cell k1
    replace k2 := hE7.cell k2
    replace j0 := hE7.cell j0
    replace j1 := hE7.cell j1
    replace j2 := hE7.cell j2
    have jf7 : ∀ o, w7.frozen? ⟨w.heap.size + 1, o, none⟩ = false := fun o => (Below.frozen hE7 (p := ⟨w.heap.size + 1, o, none⟩) lj4).trans (jf4 o)
    have lw7 : w.heap.size < w7.heap.size := World.block_lt_of_cell? _ _ k0
    have lj7 : w.heap.size + 1 < w7.heap.size := World.block_lt_of_cell? _ _ j0
    clear hO7 hE7 HDF HDEL HO5 HE5 HO4 HO3 jf4
    go_wp2_with fail
    refine (HFIL.out A7 c7 w7 HO7.out).mono ?_
    rintro ed w8 ⟨C8, F8, c8, f8, rfl, hC8, hF8, hE8⟩
    replace j0 := hE8.cell j0
    replace j1 := hE8.cell j1
    replace j2 := hE8.cell j2
    have jf8 : ∀ o, w8.frozen? ⟨w.heap.size + 1, o, none⟩ = false := fun o => (Below.frozen hE8 (p := ⟨w.heap.size + 1, o, none⟩) lj7).trans (jf7 o)
    have lj8 : w.heap.size + 1 < w8.heap.size := World.block_lt_of_cell? _ _ j0
    have HX8 := Lib.hid (HX7.out.trans hE8)
    obtain ⟨nc, hnc⟩ : ∃ x, (cellsT (fillT B rl)).length = x := ⟨_, rfl⟩
    obtain ⟨nf, hnf⟩ : ∃ x, (fullT (fillT B rl)).length = x := ⟨_, rfl⟩
    have HN := Lib.hid (And.intro hnc hnf)
    rw [hnc] at hC8 ⊢
    rw [hnf] at hF8 ⊢
    have HC8 := Lib.hid (((hC8.setBelow (p := ⟨w.heap.size + 1, 0, none⟩) lj7 (.int .i64 B)).setBelow (p := ⟨w.heap.size + 1, 1, none⟩) lj7 (.slice C8 nc c8)).setBelow (p := ⟨w.heap.size + 1, 2, none⟩) lj7 (.slice F8 nf f8)).rd
    have HF8 := Lib.hid (((hF8.setBelow (p := ⟨w.heap.size + 1, 0, none⟩) lj7 (.int .i64 B)).setBelow (p := ⟨w.heap.size + 1, 1, none⟩) lj7 (.slice C8 nc c8)).setBelow (p := ⟨w.heap.size + 1, 2, none⟩) lj7 (.slice F8 nf f8)).rd
    clear hE8 hC8 hF8 hnc hnf k0 k1 k2
    go_wp2_with fail
    obtain ⟨W, hW⟩ : ∃ W, (((w8.setCell ⟨w.heap.size + 1, 0, none⟩ (.int .i64 B)).setCell ⟨w.heap.size + 1, 1, none⟩ (.slice C8 nc c8)).setCell ⟨w.heap.size + 1, 2, none⟩ (.slice F8 nf f8)) = W := ⟨_, rfl⟩
    have HXW : Hid (Ext w W) := Lib.hid (by rw [← hW]; exact ((HX8.out.setCell (p := ⟨w.heap.size + 1, 0, none⟩) (Nat.le_succ _) _).setCell (p := ⟨w.heap.size + 1, 1, none⟩) (Nat.le_succ _) _).setCell (p := ⟨w.heap.size + 1, 2, none⟩) (Nat.le_succ _) _)
    have t0 : W.cell? ⟨w.heap.size + 1, 0, none⟩ = some (.int .i64 B) := by subst hW; go_simp
    have t1 : W.cell? ⟨w.heap.size + 1, 1, none⟩ = some (.slice C8 nc c8) := by subst hW; go_simp
    have t2 : W.cell? ⟨w.heap.size + 1, 2, none⟩ = some (.slice F8 nf f8) := by subst hW; go_simp
    have e1 : Rd kU32 W (.slice C8 nc c8) (zs (cellsT (fillT B rl))) := by rw [← hW]; exact HC8.out
    have e2 : Rd kBool W (.slice F8 nf f8) (fullT (fillT B rl)) := by rw [← hW]; exact HF8.out
    rw [hW]
    clear hW j0 j1 j2
    refine bodyPost_ret (v := .tuple #[.agg #[.int .i64 B, .slice C8 nc c8, .slice F8 nf f8], .int .i64 0]) (by simp [results, Try.results10, go_sem, t0, t1, t2]) rfl (by
      rw [HD.out]
      refine ⟨C8, F8, c8, f8, ?_, ?_, ?_, HXW.out⟩
      · show _ = Ending.returned (.tuple #[.agg #[.int .i64 B, .slice C8 (cellsT (fillT B rl)).length c8, .slice F8 (fullT (fillT B rl)).length f8], .int .i64 0])
        rw [HN.out.1, HN.out.2]
      · show Rd kU32 W (.slice C8 (cellsT (fillT B rl)).length c8) (zs (cellsT (fillT B rl)))
        rw [HN.out.1]; exact e1
      · show Rd kBool W (.slice F8 (fullT (fillT B rl)).length f8) (fullT (fillT B rl))
        rw [HN.out.2]; exact e2)
  · have hr0 : rightP t = false := by cases h : rightP t <;> simp_all
    rw [hr0] at hcall
    have hD : dropP t l = (t, 1) := by unfold dropP; rw [if_neg hr]
    have HB9 := Lib.hid (And.intro hc hf)
    have HCALL := Lib.hid hcall
    have HC := Lib.hid hC
    have HF := Lib.hid hF
    rw [hD]
    obtain ⟨bits, cells, full⟩ := t
    simp only at HC HF HCALL HB9 ⊢
    clear hcall hr hD hr0 hb hc hf hC hF hL
    go_enter Try.func10, Try.ntmps10
    go_wp2_with fail
    refine (HCALL.out _ (((Ext.refl w).alloc _).alloc _)).mono ?_
    rintro ed w2 ⟨rfl, hE2⟩
    have HX2 : Hid (Ext w w2) := Lib.hid ((((Ext.refl w).alloc _).alloc _).trans hE2)
    have k0 : w2.cell? ⟨w.heap.size, 0, none⟩ = some (.int .i64 bits) := hE2.cell (by go_simp)
    have k1 : w2.cell? ⟨w.heap.size, 1, none⟩ = some (.slice C cells.length cc) := hE2.cell (by go_simp)
    have k2 : w2.cell? ⟨w.heap.size, 2, none⟩ = some (.slice F full.length cf) := hE2.cell (by go_simp)
    have j0 : w2.cell? ⟨w.heap.size + 1, 0, none⟩ = some (.int .i64 0) := hE2.cell (by go_simp)
    have j1 : w2.cell? ⟨w.heap.size + 1, 1, none⟩ = some (.slice none 0 0) := hE2.cell (by go_simp)
    have j2 : w2.cell? ⟨w.heap.size + 1, 2, none⟩ = some (.slice none 0 0) := hE2.cell (by go_simp)
    have jf : ∀ o, w2.frozen? ⟨w.heap.size + 1, o, none⟩ = false := fun o => (Below.frozen hE2 (p := ⟨w.heap.size + 1, o, none⟩) (by simp)).trans (by go_simp)
    have lw2 : w.heap.size < w2.heap.size := World.block_lt_of_cell? _ _ k0
    have lj2 : w.heap.size + 1 < w2.heap.size := World.block_lt_of_cell? _ _ j0
    clear hE2
    go_wp2_with fail
    refine (pcopied_of bits cells full C F cc cf w2 (HC.out.ext HX2.out) (HF.out.ext HX2.out) HB9.out.1 HB9.out.2).mono ?_
    rintro ed w4 ⟨C4, F4, c4, f4, rfl, hR4, hS4, hE4⟩
    replace j0 := hE4.cell j0
    replace j1 := hE4.cell j1
    replace j2 := hE4.cell j2
    have jf4 : ∀ o, w4.frozen? ⟨w.heap.size + 1, o, none⟩ = false := fun o => (Below.frozen hE4 (p := ⟨w.heap.size + 1, o, none⟩) lj2).trans (jf o)
    have lj4 : w.heap.size + 1 < w4.heap.size := World.block_lt_of_cell? _ _ j0
    have HX4 := Lib.hid (HX2.out.trans hE4)
    have hb1 := fun a b c => rd_box0 hR4 j0 j1 j2 jf4 (fun a => by simp [kU32]) (fun a => by simp [kU32]) a b c
    have hb2 := fun a b c => rd_box0 hS4 j0 j1 j2 jf4 (fun a => by simp [kBool]) (fun a => by simp [kBool]) a b c
    have HBX := Lib.hid (And.intro hb1 hb2)
    clear hR4 hS4 hE4 hb1 hb2 k0 k1 k2
    go_wp2_with fail
    obtain ⟨W, hW⟩ : ∃ W, (((w4.setCell ⟨w.heap.size + 1, 0, none⟩ (.int .i64 bits)).setCell ⟨w.heap.size + 1, 1, none⟩ (.slice C4 cells.length c4)).setCell ⟨w.heap.size + 1, 2, none⟩ (.slice F4 full.length f4)) = W := ⟨_, rfl⟩
    have HXW : Hid (Ext w W) := Lib.hid (by rw [← hW]; exact ((HX4.out.setCell (p := ⟨w.heap.size + 1, 0, none⟩) (Nat.le_succ _) _).setCell (p := ⟨w.heap.size + 1, 1, none⟩) (Nat.le_succ _) _).setCell (p := ⟨w.heap.size + 1, 2, none⟩) (Nat.le_succ _) _)
    have t0 : W.cell? ⟨w.heap.size + 1, 0, none⟩ = some (.int .i64 bits) := by subst hW; go_simp
    have t1 : W.cell? ⟨w.heap.size + 1, 1, none⟩ = some (.slice C4 cells.length c4) := by subst hW; go_simp
    have t2 : W.cell? ⟨w.heap.size + 1, 2, none⟩ = some (.slice F4 full.length f4) := by subst hW; go_simp
    have e1 : Rd kU32 W (.slice C4 cells.length c4) (zs cells) := by rw [← hW]; exact HBX.out.1 _ _ _
    have e2 : Rd kBool W (.slice F4 full.length f4) full := by rw [← hW]; exact HBX.out.2 _ _ _
    rw [hW]
    clear hW j0 j1 j2
    refine bodyPost_ret (v := .tuple #[.agg #[.int .i64 bits, .slice C4 cells.length c4, .slice F4 full.length f4], .int .i64 1]) (by simp [results, Try.results10, go_sem, t0, t1, t2]) rfl (⟨C4, F4, c4, f4, rfl, e1, e2, HXW.out⟩)
end Go.Proofs.Ytofiokegdgdacaa

/- The document's Find (ref12). -/
namespace Go.Proofs.Ytofiokegdgdacaa
open Go.BigFrame
open Go.RowKit Go.Proofs.Ytofiokegdgdacaa.Plain

set_option maxHeartbeats 3200000 in
set_option maxRecDepth 100000 in
theorem rfind12_any (t : Tb) (key : Nat) (C F : Option Addr) (cc cf : Nat) (w : World) (hC : Rd kU32 w (.slice C t.cells.length cc) (zs t.cells)) (hF : Rd kBool w (.slice F t.full.length cf) t.full) (hc : t.cells.length ≤ 2000) (hf : t.full.length ≤ 2000) (hb : in64 t.bits) (hk : key < 4294967296) :
    Calls Try.prog 15 #[tabV t.bits C t.cells.length cc F t.full.length cf, .int .u32 key] w fun ed w' => ed = .returned (.tuple #[.int .i64 (findP t key).1, .int .i64 (findP t key).2.1, .bool (findP t key).2.2]) ∧ Ext w w' := by
  by_cases hr : rightP t = true
  · obtain ⟨B, h1, h2, hb2, hl, hlen, ht⟩ := right_of t hr
    have hfp : findP t key = findT B (fillT B (keysP t)) key := by unfold findP; rw [if_pos hr, hb2, Int.toNat_natCast]
    have hinv := inv_of (B := B) hl hlen
    have hroom : (keysP t).length < 2 ^ B := by have := Nat.two_pow_pos B; omega
    obtain ⟨ks, hks⟩ : ∃ x, keysP t = x := ⟨_, rfl⟩
    rw [hks] at hfp hinv ht hroom
    obtain ⟨tab, htab⟩ : ∃ x, fillT B ks = x := ⟨_, rfl⟩
    have hcl : t.cells = cellsT tab := by rw [ht, ← htab]; rfl
    have hfl : t.full = fullT tab := by rw [ht, ← htab]; rfl
    rw [htab] at hfp hinv
    clear hks ht htab hl hlen
    obtain ⟨bits, cells, full⟩ := t
    simp only at hC hF hc hf hb hb2 hcl hfl ⊢
    subst hb2
    subst hcl
    subst hfl
    obtain ⟨n, hn⟩ : ∃ n, tab.length = n := ⟨_, rfl⟩
    have hn1 : (cellsT tab).length = n := (cellsT_len tab).trans hn
    have hn2 : (fullT tab).length = n := (fullT_len tab).trans hn
    have hcall : ∀ w1, Ext w w1 → Calls Try.prog 20 #[tabV (B : Int) C n cc F n cf] w1 fun ed w2 => ed = .returned (.bool true) ∧ Ext w1 w2 := by
      intro w1 hE
      have h9 := rright12_any ⟨B, cellsT tab, fullT tab⟩ C F cc cf w1 (hC.ext hE) (hF.ext hE) hc hf hb
      rw [hr] at h9
      simp only [hn1, hn2] at h9
      exact h9
    have HCALL := Lib.hid hcall
    have hnB : n = 2 ^ B := by rw [← hn]; exact hinv.len
    have hn3 : n ≤ 2000 := by omega
    obtain ⟨d1, d2, d3⟩ := probe_some (stopF key) tab (homeN B key) (by
      obtain ⟨p0, hp0, hno⟩ := hinv.room hroom
      exact ⟨p0, hp0, by unfold isNo at hno; unfold stopF; rw [hno]; rfl⟩)
    have hho : homeP (B : Int) key = (homeN B key : Nat) := by unfold homeP; rw [if_neg (by omega), Int.toNat_natCast]
    have hhx := homeN_lt B key h2
    rw [← hnB] at hhx
    unfold findT at hfp
    obtain ⟨h, hh⟩ : ∃ h, homeN B key = h := ⟨_, rfl⟩
    rw [hh] at d1 d2 d3 hhx hho hfp
    obtain ⟨d0, hd0⟩ : ∃ d, probeD (stopF key) tab h = d := ⟨_, rfl⟩
    rw [hd0, hn] at d1 d2 hfp
    rw [hd0, hn] at d3
    rw [hn1, hn2]
    have HC : Hid (Rd kU32 w (.slice C (cellsT tab).length cc) (zs (cellsT tab))) := Lib.hid hC
    have HF : Hid (Rd kBool w (.slice F (fullT tab).length cf) (fullT tab)) := Lib.hid hF
    have HN := Lib.hid (And.intro hn1 (And.intro hn2 hn))
    have HB : Hid (in64 (B : Int)) := Lib.hid hb
    have HFP := Lib.hid hfp
    have HHO := Lib.hid hho
    have HHX := Lib.hid hhx
    have HD := Lib.hid (And.intro d1 (And.intro d2 d3))
    have HK := Lib.hid hk
    clear hcall hr hinv hroom hnB d1 d2 d3 hho hhx hh hd0 hfp hn1 hn2 hn hC hF hc hf hb
    go_enter Try.func15, Try.ntmps15
    go_wp2_with fail
    refine (HCALL.out _ ((Ext.refl w).alloc _)).mono ?_
    rintro ed w2 ⟨rfl, hE2⟩
    have k0 : w2.cell? ⟨w.heap.size, 0, none⟩ = some (.int .i64 B) := hE2.cell (by go_simp)
    have k1 : w2.cell? ⟨w.heap.size, 1, none⟩ = some (.slice C n cc) := hE2.cell (by go_simp)
    have k2 : w2.cell? ⟨w.heap.size, 2, none⟩ = some (.slice F n cf) := hE2.cell (by go_simp)
    have HX2 : Hid (Ext w w2) := Lib.hid (((Ext.refl w).alloc _).trans hE2)
    have lw2 : w.heap.size < w2.heap.size := World.block_lt_of_cell? _ _ k0
    clear hE2
    go_wp2_with fail
    refine (rhome_any B key _ HK.out HB.out).mono ?_
    rw [HHO.out]
    rintro ed w3 ⟨rfl, hw3⟩
    have HX3 : Hid (Ext w2 w3) := Lib.hid (by rw [← hw3]; first | exact Ext.refl _ | exact (Ext.refl _).drew)
    replace k1 := HX3.out.cell k1
    replace k2 := HX3.out.cell k2
    clear hw3 k0
    go_wp2_with fail
    go_loopw [8, 9] (fun p l wq => ∃ d : Nat, d ≤ d0 ∧ p = .int .i64 (((h + d) % n : Nat) : Int) ∧ l = .int .i64 ((d + 1 : Nat) : Int) ∧ Ext w3 wq) (fun _ l _ => n + 1 - (intOf l).toNat)
    case atStart => exact ⟨0, Nat.zero_le _, by rw [Nat.add_zero, Nat.mod_eq_of_lt HHX.out], rfl, Ext.refl _⟩
    case round =>
      obtain ⟨d, hd, rfl, rfl, hX⟩ := hrel
      rename World => wq
      have HX := Lib.hid hX
      have hdn : d < n := Nat.lt_of_le_of_lt hd HD.out.1
      have hsl : (h + d) % n < n := Nat.mod_lt _ (by omega)
      have hxx : Ext w wq := (HX2.out.trans HX3.out).trans hX
      obtain ⟨bf, of_, rfl, z0⟩ := bool_at (HF.out.ext hxx) ((h + d) % n) (by rw [HN.out.2.1]; exact hsl)
      obtain ⟨bc, oc, rfl, x0, hxl⟩ := u32_at (HC.out.ext hxx) ((h + d) % n) (by rw [HN.out.1]; exact hsl)
      have z0' : wq.cell? ⟨bf, of_ + (h + d) % n, none⟩ = some (.bool (tab.getD ((h + d) % n) none).isSome) := by rw [z0]; show some (Value.bool ((fullT tab).getD _ false)) = _; rw [fullT_at]
      rw [cellsT_at] at x0 hxl
      replace k1 := hX.cell k1
      replace k2 := hX.cell k2
      have hnx : ((h + d) % n + 1) % n = (h + (d + 1)) % n := by rw [Nat.mod_add_mod]; rfl
      have hstop := HD.out.2.2 d
      have hend := HD.out.2.1
      obtain ⟨s, hs⟩ : ∃ s, (h + d) % n = s := ⟨_, rfl⟩
      rw [hs] at hsl x0 hxl z0' hnx hstop ⊢
      have HS := Lib.hid hs
      have lbf : bf < wq.heap.size := World.block_lt_of_cell? _ _ z0'
      have lbc : bc < wq.heap.size := World.block_lt_of_cell? _ _ x0
      have lbw : w.heap.size < wq.heap.size := World.block_lt_of_cell? _ _ k1
      have hs0 : (0 : Int) ≤ s := by omega
      have hs1 : (s : Int) < n := by omega
      have hd9 : (d : Int) ≤ 2000 := by omega
      have HXX := Lib.hid hxx
      clear hX hxx z0
      by_cases hlt2 : d < d0
      · have hst := hstop hlt2
        unfold stopF at hst
        rw [Bool.or_eq_false_iff, decide_eq_false_iff_not] at hst
        obtain ⟨y, ho, hyk⟩ : ∃ y, tab.getD s none = some y ∧ y ≠ key := by
          cases ho : tab.getD s none with
          | none => rw [ho] at hst; cases hst.1
          | some y => exact ⟨y, rfl, fun e => hst.2 (by rw [ho, e])⟩
        rw [ho] at z0' x0 hxl
        have z1 : wq.cell? ⟨bf, of_ + s, none⟩ = some (.bool true) := z0'
        have x1 : wq.cell? ⟨bc, oc + s, none⟩ = some (.int .u32 y) := x0
        have hy1 : ((y : Int) != (key : Int)) = true := by simp; omega
        have hy2 : (y != key) = true := by simp [hyk]
        obtain ⟨s2, hs2⟩ : ∃ s2, (s + 1) % n = s2 := ⟨_, rfl⟩
        rw [hs2] at hnx
        have hsI : ((s : Int) + 1) % (n : Int) = (s2 : Int) := by rw [← hs2]; simp
        have hsT : ((s : Int) + 1).tmod (n : Int) = (s2 : Int) := by rw [Int.tmod_eq_emod_of_nonneg (by omega)]; exact hsI
        have hw9 : IntKind.i64.wrap ((s : Int) + 1) = (s : Int) + 1 := IntWalk.i64_in _ (by omega)
        have hw8 : IntKind.i64.wrap (s2 : Int) = (s2 : Int) := IntWalk.i64_in _ (by have := Nat.mod_lt (s + 1) (show 0 < n by omega); omega)
        have HNX := Lib.hid hnx
        clear z0' x0 hxl hst hstop hend hnx hs hs2 ho hyk
        go_wp2_with fail
        all_goals go_roundw
        all_goals first
          | exact ⟨d + 1, hlt2, by rw [HNX.out], by go_num, HX.out⟩
          | (simp [intOf]; omega)
          | fail
      · obtain rfl : d = d0 := by omega
        rw [hs] at hend
        have hfp := HFP.out
        rw [hs] at hfp
        unfold stopF at hend
        rw [Bool.or_eq_true, decide_eq_true_eq] at hend
        by_cases ho : tab.getD s none = some key
        · rw [if_pos ho] at hfp
          rw [ho] at z0' x0 hxl
          have z1 : wq.cell? ⟨bf, of_ + s, none⟩ = some (.bool true) := z0'
          have x1 : wq.cell? ⟨bc, oc + s, none⟩ = some (.int .u32 key) := x0
          have hy1 : ((key : Int) != (key : Int)) = false := by simp
          have hy2 : (key != key) = false := by simp
          have HFQ := Lib.hid hfp
          clear z0' x0 hxl hstop hend hnx hs ho hfp
          go_wp2_with fail
          refine bodyPost_ret (v := .tuple #[.int .i64 (s : Int), .int .i64 ((d + 1 : Nat) : Int), .bool true]) (by simp [results, Try.results15, go_sem]) rfl ⟨by rw [HFQ.out], HXX.out⟩
        · have hno : tab.getD s none = none := by
            rcases hend with h9 | h9
            · simpa using h9
            · exact absurd h9 ho
          rw [if_neg ho] at hfp
          rw [hno] at z0' x0 hxl
          have z1 : wq.cell? ⟨bf, of_ + s, none⟩ = some (.bool false) := z0'
          have HFQ := Lib.hid hfp
          clear z0' x0 hxl hstop hend hnx hs ho hno hfp
          go_wp2_with fail
          refine bodyPost_ret (v := .tuple #[.int .i64 0, .int .i64 ((d + 1 : Nat) : Int), .bool false]) (by simp [results, Try.results15, go_sem]) rfl ⟨by rw [HFQ.out]; rfl, HXX.out⟩
  · have hfp : findP t key = (0, 0, false) := by unfold findP; rw [if_neg hr]
    have hr0 : rightP t = false := by cases h : rightP t <;> simp_all
    have hcall : ∀ w1, Ext w w1 → Calls Try.prog 20 #[tabV t.bits C t.cells.length cc F t.full.length cf] w1 fun ed w2 => ed = .returned (.bool false) ∧ Ext w1 w2 := by
      intro w1 hE
      have h9 := rright12_any t C F cc cf w1 (hC.ext hE) (hF.ext hE) hc hf hb
      rw [hr0] at h9
      exact h9
    have HCALL := Lib.hid hcall
    rw [hfp]
    obtain ⟨bits, cells, full⟩ := t
    simp only at HCALL ⊢
    clear hr hr0 hfp hcall hC hF
    go_enter Try.func15, Try.ntmps15
    go_wp2_with fail
    refine (HCALL.out _ ((Ext.refl w).alloc _)).mono ?_
    rintro ed w2 ⟨rfl, hE2⟩
    have HX2 : Hid (Ext w w2) := Lib.hid (((Ext.refl w).alloc _).trans hE2)
    clear hE2
    go_wp2_with fail
    refine bodyPost_ret (v := .tuple #[.int .i64 0, .int .i64 0, .bool false]) (by simp [results, Try.results15, go_sem]) rfl ⟨rfl, HX2.out⟩
end Go.Proofs.Ytofiokegdgdacaa

/- The document's Great (ref12). -/
namespace Go.Proofs.Ytofiokegdgdacaa
open Go.BigFrame
open Go.RowKit Go.Proofs.Ytofiokegdgdacaa.Plain

set_option maxHeartbeats 1600000 in
set_option maxRecDepth 100000 in
theorem rgreat12_any (bits : Int) (C F : Option Addr) (n cc m cf : Nat) (w : World) :
    Calls Try.prog 7 #[tabV bits C n cc F m cf] w fun ed w' => ed = .returned (.bool (decide (64 < n) || decide (64 < m))) ∧ Ext w w' := by
  go_enter Try.func7, Try.ntmps7
  by_cases h1 : 64 < n
  · have hd1 : decide (64 < n) = true := decide_eq_true h1
    have hd2 : decide ((64 : Int) < (n : Int)) = true := decide_eq_true (by omega)
    go_wp2_with fail
    go_ret
    exact ⟨ret_bool (by simp [h1]), (Ext.refl _).alloc _⟩
  · have hd1 : decide (64 < n) = false := decide_eq_false h1
    have hd2 : decide ((64 : Int) < (n : Int)) = false := decide_eq_false (by omega)
    by_cases h2 : 64 < m
    · have hd3 : decide (64 < m) = true := decide_eq_true h2
      have hd4 : decide ((64 : Int) < (m : Int)) = true := decide_eq_true (by omega)
      go_wp2_with fail
      go_ret
      exact ⟨ret_bool (by simp [h2]), (Ext.refl _).alloc _⟩
    · have hd3 : decide (64 < m) = false := decide_eq_false h2
      have hd4 : decide ((64 : Int) < (m : Int)) = false := decide_eq_false (by omega)
      go_wp2_with fail
      go_ret
      exact ⟨ret_bool (by simp [h1, h2]), (Ext.refl _).alloc _⟩
end Go.Proofs.Ytofiokegdgdacaa

/- The program's tables: what each call leaves (shared words), over the real code of 29ccdd51. -/
namespace Go.Proofs.Ytofiokegdgdacaa
open Go.BigFrame
open Go.RowKit Go.Proofs.Ytofiokegdgdacaa.Plain

theorem pmake12_any (b : Int) (l : List Nat) (L : Option Addr) (lc : Nat) (w : World) (hL : Rd kU32 w (.slice L l.length lc) (zs l)) (hl : l.length ≤ 2000) (hb : in64 b) :
    Calls Try.prog 12 #[.int .i64 b, .slice L l.length lc] w (TabGot (makeP b l) w) := by
  refine (pmakeS_any b l L lc w hL (by omega) hb).mono ?_
  rintro ed w' ⟨C, F, c, f, h1, h2, h3, h4⟩
  exact ⟨C, F, c, f, h1, h2.rd, h3.rd, h4⟩
theorem pkeys12_any (t : Tb) (C F : Option Addr) (cc cf : Nat) (w : World) (hC : Rd kU32 w (.slice C t.cells.length cc) (zs t.cells)) (hF : Rd kBool w (.slice F t.full.length cf) t.full) (hc : t.cells.length ≤ 2000) (hf : t.full.length ≤ 2000) (hb : in64 t.bits) :
    Calls Try.prog 22 #[tabV t.bits C t.cells.length cc F t.full.length cf] w fun ed w' => ∃ (A : Option Addr) (c : Nat), ed = .returned (.slice A (keysP t).length c) ∧ Rd kU32 w' (.slice A (keysP t).length c) (zs (keysP t)) ∧ Ext w w' := by
  refine (pkeysS_any t C F cc cf w hC hF hc hf).mono ?_
  rintro ed w' ⟨A, c, h1, h2, h3⟩
  exact ⟨A, c, h1, h2.rd, h3⟩
theorem pright12_any (t : Tb) (C F : Option Addr) (cc cf : Nat) (w : World) (hC : Rd kU32 w (.slice C t.cells.length cc) (zs t.cells)) (hF : Rd kBool w (.slice F t.full.length cf) t.full) (hc : t.cells.length ≤ 2000) (hf : t.full.length ≤ 2000) (hb : in64 t.bits) :
    Calls Try.prog 19 #[tabV t.bits C t.cells.length cc F t.full.length cf] w fun ed w' => ed = .returned (.bool (rightP t)) ∧ Ext w w' :=
  prightS_any t C F cc cf w hC hF hc hf hb
theorem pput12_any (t : Tb) (C F : Option Addr) (cc cf : Nat) (l : List Nat) (L : Option Addr) (lc : Nat) (w : World) (hC : Rd kU32 w (.slice C t.cells.length cc) (zs t.cells)) (hF : Rd kBool w (.slice F t.full.length cf) t.full) (hc : t.cells.length ≤ 2000) (hf : t.full.length ≤ 2000) (hb : in64 t.bits) (hL : Rd kU32 w (.slice L l.length lc) (zs l)) (hl : l.length ≤ 2000) :
    Calls Try.prog 8 #[tabV t.bits C t.cells.length cc F t.full.length cf, .slice L l.length lc] w (TabGot (putP t l) w) :=
  pputS_any t l C F L cc cf lc w hC hF hL hc hf (by omega) hb
set_option maxHeartbeats 3200000 in
set_option maxRecDepth 100000 in
theorem pfind12_any (t : Tb) (C F : Option Addr) (cc cf : Nat) (key : Nat) (w : World) (hC : Rd kU32 w (.slice C t.cells.length cc) (zs t.cells)) (hF : Rd kBool w (.slice F t.full.length cf) t.full) (hc : t.cells.length ≤ 2000) (hf : t.full.length ≤ 2000) (hb : in64 t.bits) (hk : key < 4294967296) :
    Calls Try.prog 14 #[tabV t.bits C t.cells.length cc F t.full.length cf, .int .u32 key] w fun ed w' => ed = .returned (.tuple #[.int .i64 (findP t key).1, .int .i64 (findP t key).2.1, .bool (findP t key).2.2]) ∧ Ext w w' := by
  by_cases hr : rightP t = true
  · obtain ⟨B, h1, h2, hb2, hl, hlen, ht⟩ := right_of t hr
    have hfp : findP t key = findT B (fillT B (keysP t)) key := by unfold findP; rw [if_pos hr, hb2, Int.toNat_natCast]
    have hinv := inv_of (B := B) hl hlen
    have hroom : (keysP t).length < 2 ^ B := by have := Nat.two_pow_pos B; omega
    obtain ⟨ks, hks⟩ : ∃ x, keysP t = x := ⟨_, rfl⟩
    rw [hks] at hfp hinv ht hroom
    obtain ⟨tab, htab⟩ : ∃ x, fillT B ks = x := ⟨_, rfl⟩
    have hcl : t.cells = cellsT tab := by rw [ht, ← htab]; rfl
    have hfl : t.full = fullT tab := by rw [ht, ← htab]; rfl
    rw [htab] at hfp hinv
    clear hks ht htab hl hlen
    obtain ⟨bits, cells, full⟩ := t
    simp only at hC hF hc hf hb hb2 hcl hfl ⊢
    subst hb2
    subst hcl
    subst hfl
    have hex : ∃ p, p < tab.length ∧ stopF key (tab.getD p none) = true := by
      obtain ⟨p0, hp0, hno⟩ := hinv.room hroom
      exact ⟨p0, hp0, by unfold isNo at hno; unfold stopF; rw [hno]; rfl⟩
    obtain ⟨d1, d2, d3⟩ := probe_some (stopF key) tab (homeN B key) hex
    have hlook := fun w1 (hE : Ext w w1) => plook_any B key tab C F cc cf w1 (hC.ext hE) (hF.ext hE) h1 h2 hinv.len hk hex
    obtain ⟨n, hn⟩ : ∃ n, tab.length = n := ⟨_, rfl⟩
    have hn1 : (cellsT tab).length = n := (cellsT_len tab).trans hn
    have hn2 : (fullT tab).length = n := (fullT_len tab).trans hn
    have hcall : ∀ w1, Ext w w1 → Calls Try.prog 19 #[tabV (B : Int) C n cc F n cf] w1 fun ed w2 => ed = .returned (.bool true) ∧ Ext w1 w2 := by
      intro w1 hE
      have h9 := prightS_any ⟨B, cellsT tab, fullT tab⟩ C F cc cf w1 (hC.ext hE) (hF.ext hE) hc hf hb
      rw [hr] at h9
      simp only [hn1, hn2] at h9
      exact h9
    have HCALL := Lib.hid hcall
    unfold findT at hfp
    obtain ⟨d0, hd0⟩ : ∃ d, probeD (stopF key) tab (homeN B key) = d := ⟨_, rfl⟩
    rw [hd0] at d1 d2 hfp hlook
    rw [hn] at d1 d2 hfp hlook
    rw [hn1, hn2] at hlook
    obtain ⟨s, hs⟩ : ∃ s, (homeN B key + d0) % n = s := ⟨_, rfl⟩
    rw [hs] at d2 hfp hlook
    have hsn : s < n := by rw [← hs]; exact Nat.mod_lt _ (by omega)
    rw [hn1, hn2]
    have HF : Hid (Rd kBool w (.slice F (fullT tab).length cf) (fullT tab)) := Lib.hid hF
    have HN := Lib.hid (And.intro hn1 (And.intro hn2 hn))
    have HFP := Lib.hid hfp
    have HLOOK := Lib.hid hlook
    have HD2 := Lib.hid d2
    have hs0 : (0 : Int) ≤ s := by omega
    have hs9 : (s : Int) < n := by omega
    clear hcall hr hinv hroom d1 d2 d3 hd0 hfp hn1 hn2 hn hC hF hc hf hb hk hlook hex hs h1 h2
    go_enter Try.func14, Try.ntmps14
    go_wp2_with fail
    refine (HCALL.out _ ((Ext.refl w).alloc _)).mono ?_
    rintro ed w2 ⟨rfl, hE2⟩
    have k0 : w2.cell? ⟨w.heap.size, 0, none⟩ = some (.int .i64 B) := hE2.cell (by go_simp)
    have k1 : w2.cell? ⟨w.heap.size, 1, none⟩ = some (.slice C n cc) := hE2.cell (by go_simp)
    have k2 : w2.cell? ⟨w.heap.size, 2, none⟩ = some (.slice F n cf) := hE2.cell (by go_simp)
    have HX2 : Hid (Ext w w2) := Lib.hid (((Ext.refl w).alloc _).trans hE2)
    have lw2 : w.heap.size < w2.heap.size := World.block_lt_of_cell? _ _ k0
    clear hE2 HCALL
    go_wp2_with fail
    refine (HLOOK.out _ HX2.out).mono ?_
    rintro ed w3 ⟨rfl, hE3⟩
    replace k2 := hE3.cell k2
    have HX3 := Lib.hid (HX2.out.trans hE3)
    have lw3 : w.heap.size < w3.heap.size := World.block_lt_of_cell? _ _ k2
    obtain ⟨bf, of_, rfl, z0⟩ := bool_at (HF.out.ext HX3.out) s (by rw [HN.out.2.1]; exact hsn)
    have z0' : w3.cell? ⟨bf, of_ + s, none⟩ = some (.bool (tab.getD s none).isSome) := by rw [z0]; show some (Value.bool ((fullT tab).getD _ false)) = _; rw [fullT_at]
    have lbf : bf < w3.heap.size := World.block_lt_of_cell? _ _ z0'
    have hend := HD2.out
    have hfp := HFP.out
    unfold stopF at hend
    rw [Bool.or_eq_true, decide_eq_true_eq] at hend
    clear hE3 HLOOK z0 k0 k1 lw2
    by_cases ho : tab.getD s none = some key
    · rw [if_pos ho] at hfp
      rw [ho] at z0'
      have z1 : w3.cell? ⟨bf, of_ + s, none⟩ = some (.bool true) := z0'
      have HFQ := Lib.hid hfp
      clear z0' hend ho hfp
      go_wp2_with fail
      refine bodyPost_ret (v := .tuple #[.int .i64 (s : Int), .int .i64 ((d0 + 1 : Nat) : Int), .bool true]) (by simp [results, Try.results14, go_sem]) rfl ⟨by rw [HFQ.out], HX3.out⟩
    · have hno : tab.getD s none = none := by
        rcases hend with h9 | h9
        · simpa using h9
        · exact absurd h9 ho
      rw [if_neg ho] at hfp
      rw [hno] at z0'
      have z1 : w3.cell? ⟨bf, of_ + s, none⟩ = some (.bool false) := z0'
      have HFQ := Lib.hid hfp
      clear z0' hend ho hno hfp
      go_wp2_with fail
      refine bodyPost_ret (v := .tuple #[.int .i64 0, .int .i64 ((d0 + 1 : Nat) : Int), .bool false]) (by simp [results, Try.results14, go_sem]) rfl ⟨by rw [HFQ.out]; rfl, HX3.out⟩
  · have hfp : findP t key = (0, 0, false) := by unfold findP; rw [if_neg hr]
    have hr0 : rightP t = false := by cases h : rightP t <;> simp_all
    have hcall : ∀ w1, Ext w w1 → Calls Try.prog 19 #[tabV t.bits C t.cells.length cc F t.full.length cf] w1 fun ed w2 => ed = .returned (.bool false) ∧ Ext w1 w2 := by
      intro w1 hE
      have h9 := prightS_any t C F cc cf w1 (hC.ext hE) (hF.ext hE) hc hf hb
      rw [hr0] at h9
      exact h9
    have HCALL := Lib.hid hcall
    rw [hfp]
    obtain ⟨bits, cells, full⟩ := t
    simp only at HCALL ⊢
    clear hr hr0 hfp hcall hC hF
    go_enter Try.func14, Try.ntmps14
    go_wp2_with fail
    refine (HCALL.out _ ((Ext.refl w).alloc _)).mono ?_
    rintro ed w2 ⟨rfl, hE2⟩
    have HX2 : Hid (Ext w w2) := Lib.hid (((Ext.refl w).alloc _).trans hE2)
    clear hE2
    go_wp2_with fail
    refine bodyPost_ret (v := .tuple #[.int .i64 0, .int .i64 0, .bool false]) (by simp [results, Try.results14, go_sem]) rfl ⟨rfl, HX2.out⟩
end Go.Proofs.Ytofiokegdgdacaa

/- Calls of tables with answers named; the fixed fact of table's statements. Written by wip/mk_t12law.py. -/
namespace Go.Proofs.Ytofiokegdgdacaa
open Go.BigFrame
open Go.RowKit Go.Proofs.Ytofiokegdgdacaa.Plain

theorem pmake12_to (b : Int) (l : List Nat) (ln : Nat) (L : Option Addr) (lc : Nat) (bits' : Int) (cells' : List Nat) (full' : List Bool) (er : Int) (n' m' : Nat) (w : World) (hL : Rd kU32 w (.slice L ln lc) (zs l)) (hln : l.length = ln) (hl : l.length ≤ 2000) (hb : in64 b) (he : makeP b l = (⟨bits', cells', full'⟩, er)) (hn' : cells'.length = n') (hm' : full'.length = m') :
    Calls Try.prog 12 #[.int .i64 b, .slice L ln lc] w fun ed w' => ∃ (C' F' : Option Addr) (c' f' : Nat), ed = .returned (.tuple #[.agg #[.int .i64 bits', .slice C' n' c', .slice F' m' f'], .int .i64 er]) ∧ Rd kU32 w' (.slice C' n' c') (zs cells') ∧ Rd kBool w' (.slice F' m' f') full' ∧ Ext w w' := by
  subst hln hn' hm'
  have h := pmake12_any b l L lc w hL hl hb
  rw [he] at h
  exact h.mono fun _ _ hh => hh
theorem pput12_to (bits : Int) (cells : List Nat) (full : List Bool) (n m : Nat) (C F : Option Addr) (cc cf : Nat) (l : List Nat) (ln : Nat) (L : Option Addr) (lc : Nat) (bits' : Int) (cells' : List Nat) (full' : List Bool) (er : Int) (n' m' : Nat) (w : World) (hC : Rd kU32 w (.slice C n cc) (zs cells)) (hF : Rd kBool w (.slice F m cf) full) (hn : cells.length = n) (hm : full.length = m) (hc : cells.length ≤ 2000) (hf : full.length ≤ 2000) (hb : in64 bits) (hL : Rd kU32 w (.slice L ln lc) (zs l)) (hln : l.length = ln) (hl : l.length ≤ 2000) (he : putP ⟨bits, cells, full⟩ l = (⟨bits', cells', full'⟩, er)) (hn' : cells'.length = n') (hm' : full'.length = m') :
    Calls Try.prog 8 #[tabV bits C n cc F m cf, .slice L ln lc] w fun ed w' => ∃ (C' F' : Option Addr) (c' f' : Nat), ed = .returned (.tuple #[.agg #[.int .i64 bits', .slice C' n' c', .slice F' m' f'], .int .i64 er]) ∧ Rd kU32 w' (.slice C' n' c') (zs cells') ∧ Rd kBool w' (.slice F' m' f') full' ∧ Ext w w' := by
  subst hn hm hln hn' hm'
  have h := pput12_any ⟨bits, cells, full⟩ C F cc cf l L lc w hC hF hc hf hb hL hl
  rw [he] at h
  exact h.mono fun _ _ hh => hh
theorem pdrop12_to (bits : Int) (cells : List Nat) (full : List Bool) (n m : Nat) (C F : Option Addr) (cc cf : Nat) (l : List Nat) (ln : Nat) (L : Option Addr) (lc : Nat) (bits' : Int) (cells' : List Nat) (full' : List Bool) (er : Int) (n' m' : Nat) (w : World) (hC : Rd kU32 w (.slice C n cc) (zs cells)) (hF : Rd kBool w (.slice F m cf) full) (hn : cells.length = n) (hm : full.length = m) (hc : cells.length ≤ 2000) (hf : full.length ≤ 2000) (hb : in64 bits) (hL : Rd kU32 w (.slice L ln lc) (zs l)) (hln : l.length = ln) (hl : l.length ≤ 2000) (he : dropP ⟨bits, cells, full⟩ l = (⟨bits', cells', full'⟩, er)) (hn' : cells'.length = n') (hm' : full'.length = m') :
    Calls Try.prog 10 #[tabV bits C n cc F m cf, .slice L ln lc] w fun ed w' => ∃ (C' F' : Option Addr) (c' f' : Nat), ed = .returned (.tuple #[.agg #[.int .i64 bits', .slice C' n' c', .slice F' m' f'], .int .i64 er]) ∧ Rd kU32 w' (.slice C' n' c') (zs cells') ∧ Rd kBool w' (.slice F' m' f') full' ∧ Ext w w' := by
  subst hn hm hln hn' hm'
  have h := pdrop12_any ⟨bits, cells, full⟩ C F cc cf l L lc w hC hF hc hf hb hL hl
  rw [he] at h
  exact h.mono fun _ _ hh => hh
theorem pfind12_to (bits : Int) (cells : List Nat) (full : List Bool) (n m : Nat) (C F : Option Addr) (cc cf : Nat) (key : Nat) (p k : Int) (ok : Bool) (w : World) (hC : Rd kU32 w (.slice C n cc) (zs cells)) (hF : Rd kBool w (.slice F m cf) full) (hn : cells.length = n) (hm : full.length = m) (hc : cells.length ≤ 2000) (hf : full.length ≤ 2000) (hb : in64 bits) (hk : key < 4294967296) (hp : ((findP ⟨bits, cells, full⟩ key).1 : Int) = p) (hk2 : ((findP ⟨bits, cells, full⟩ key).2.1 : Int) = k) (hok : (findP ⟨bits, cells, full⟩ key).2.2 = ok) :
    Calls Try.prog 14 #[tabV bits C n cc F m cf, .int .u32 key] w fun ed w' => ed = .returned (.tuple #[.int .i64 p, .int .i64 k, .bool ok]) ∧ Ext w w' := by
  subst hn hm hp hk2 hok
  have h := pfind12_any ⟨bits, cells, full⟩ C F cc cf key w hC hF hc hf hb hk
  exact h
theorem pkeys12_to (bits : Int) (cells : List Nat) (full : List Bool) (n m : Nat) (C F : Option Addr) (cc cf : Nat) (ks : List Nat) (k : Nat) (w : World) (hC : Rd kU32 w (.slice C n cc) (zs cells)) (hF : Rd kBool w (.slice F m cf) full) (hn : cells.length = n) (hm : full.length = m) (hc : cells.length ≤ 2000) (hf : full.length ≤ 2000) (hb : in64 bits) (he : keysP ⟨bits, cells, full⟩ = ks) (hk : ks.length = k) :
    Calls Try.prog 22 #[tabV bits C n cc F m cf] w fun ed w' => ∃ (A : Option Addr) (c : Nat), ed = .returned (.slice A k c) ∧ Rd kU32 w' (.slice A k c) (zs ks) ∧ Ext w w' := by
  subst hn hm hk he
  have h := pkeys12_any ⟨bits, cells, full⟩ C F cc cf w hC hF hc hf hb
  exact h
theorem pright12_to (bits : Int) (cells : List Nat) (full : List Bool) (n m : Nat) (C F : Option Addr) (cc cf : Nat) (ok : Bool) (w : World) (hC : Rd kU32 w (.slice C n cc) (zs cells)) (hF : Rd kBool w (.slice F m cf) full) (hn : cells.length = n) (hm : full.length = m) (hc : cells.length ≤ 2000) (hf : full.length ≤ 2000) (hb : in64 bits) (he : rightP ⟨bits, cells, full⟩ = ok) :
    Calls Try.prog 19 #[tabV bits C n cc F m cf] w fun ed w' => ed = .returned (.bool ok) ∧ Ext w w' := by
  subst hn hm he
  have h := pright12_any ⟨bits, cells, full⟩ C F cc cf w hC hF hc hf hb
  exact h
theorem rsame12_to (bits : Int) (cells : List Nat) (full : List Bool) (n m : Nat) (C F : Option Addr) (cc cf : Nat) (bits' : Int) (cells' : List Nat) (full' : List Bool) (n' m' : Nat) (C' F' : Option Addr) (cc' cf' : Nat) (ok : Bool) (w : World) (hC : Rd kU32 w (.slice C n cc) (zs cells)) (hF : Rd kBool w (.slice F m cf) full) (hn : cells.length = n) (hm : full.length = m) (hC' : Rd kU32 w (.slice C' n' cc') (zs cells')) (hF' : Rd kBool w (.slice F' m' cf') full') (hn' : cells'.length = n') (hm' : full'.length = m') (hf : full.length ≤ 2000) (he : sameTb ⟨bits, cells, full⟩ ⟨bits', cells', full'⟩ = ok) :
    Calls Try.prog 18 #[tabV bits C n cc F m cf, tabV bits' C' n' cc' F' m' cf'] w fun ed w' => ed = .returned (.bool ok) ∧ Ext w w' := by
  subst hn hm hn' hm' he
  exact rsame12_any ⟨bits, cells, full⟩ ⟨bits', cells', full'⟩ C F C' F' cc cf cc' cf' w hC hF hC' hF' hf
set_option maxHeartbeats 3200000 in
set_option maxRecDepth 100000 in
theorem tablealive_any (w : World) : Calls Try.prog 6 #[] w fun ed w' => ed = .returned (.bool true) ∧ Ext w w' := by
  have he1 : makeP 2 [5, 5, 2] = (⟨2, [2, 5, 0, 0], [true, true, false, false]⟩, 0) := by decide +kernel
  have he2 : makeP 2 [1, 2, 3, 4] = (⟨0, [], []⟩, 2) := by decide +kernel
  have he3 : putP ⟨2, [2, 5, 0, 0], [true, true, false, false]⟩ [9] = (⟨2, [2, 5, 9, 0], [true, true, true, false]⟩, 0) := by decide +kernel
  have he4 : dropP ⟨2, [2, 5, 9, 0], [true, true, true, false]⟩ [2, 7] = (⟨2, [5, 0, 9, 0], [true, false, true, false]⟩, 0) := by decide +kernel
  have he5 : ((findP ⟨2, [5, 0, 9, 0], [true, false, true, false]⟩ 9).1 : Int) = 2 ∧ ((findP ⟨2, [5, 0, 9, 0], [true, false, true, false]⟩ 9).2.1 : Int) = 1 ∧ (findP ⟨2, [5, 0, 9, 0], [true, false, true, false]⟩ 9).2.2 = true := by decide +kernel
  have he6 : ((findP ⟨2, [5, 0, 9, 0], [true, false, true, false]⟩ 2).1 : Int) = 0 ∧ ((findP ⟨2, [5, 0, 9, 0], [true, false, true, false]⟩ 2).2.1 : Int) = 2 ∧ (findP ⟨2, [5, 0, 9, 0], [true, false, true, false]⟩ 2).2.2 = false := by decide +kernel
  have he7 : makeP 2 [9, 5] = (⟨2, [5, 0, 9, 0], [true, false, true, false]⟩, 0) := by decide +kernel
  have he8 : sameTb ⟨2, [5, 0, 9, 0], [true, false, true, false]⟩ ⟨2, [5, 0, 9, 0], [true, false, true, false]⟩ = true := by decide +kernel
  have he9 : rightP ⟨2, [5, 0, 9, 0], [true, false, true, false]⟩ = true := by decide +kernel
  have he10 : keysP ⟨2, [2, 5, 9, 0], [true, true, true, false]⟩ = [2, 5, 9] := by decide +kernel
  have he11 : homeP 8 1 = 158 := by decide +kernel
  have he12 : homeP 11 1 = -1 := by decide +kernel
  have H1 := Lib.hid he1
  have H2 := Lib.hid he2
  have H3 := Lib.hid he3
  have H4 := Lib.hid he4
  have H5 := Lib.hid he5
  have H6 := Lib.hid he6
  have H7 := Lib.hid he7
  have H8 := Lib.hid he8
  have H9 := Lib.hid he9
  have H10 := Lib.hid he10
  have H11 := Lib.hid he11
  have H12 := Lib.hid he12
  clear he1 he2 he3 he4 he5 he6 he7 he8 he9 he10 he11 he12
  have HX0 : Hid (Ext w w) := Lib.hid (Ext.refl w)
  go_enter Try.func6, Try.ntmps6
  go_wp2_with fail
  refine (pmake12_to 2 [5, 5, 2] 3 (some ⟨w.heap.size, 0, none⟩) 3 2 [2, 5, 0, 0] [true, true, false, false] 0 4 4 _ (u32_list w [5, 5, 2] _ 3 #[.int .u32 5, .int .u32 5, .int .u32 2] rfl rfl (by simp) (by decide) (by decide)) rfl (by decide) (by decide) H1.out rfl rfl).mono ?_
  rintro ed w1 ⟨C1, F1, c1, f1, rfl, hC1, hF_1, hE1⟩
  have hF1 := ((Ext.refl w).alloc (.cells #[.int .u32 5, .int .u32 5, .int .u32 2] 34)).trans hE1
  have HX1 := Lib.hid (HX0.out.trans hF1)
  have HC1_1 := Lib.hid (hC1)
  have HF1_1 := Lib.hid (hF_1)
  clear hE1 hF1 HX0
  go_wp2_with fail
  refine (pmake12_to 2 [1, 2, 3, 4] 4 (some ⟨w1.heap.size + 1, 0, none⟩) 4 0 [] [] 2 0 0 _ (u32_list (w1.alloc (.cells #[.int .i64 2, .slice C1 4 c1, .slice F1 4 f1] 25)) [1, 2, 3, 4] _ 4 #[.int .u32 1, .int .u32 2, .int .u32 3, .int .u32 4] rfl rfl (by simp) (by decide) (by decide)) rfl (by decide) (by decide) H2.out rfl rfl).mono ?_
  rintro ed w2 ⟨C2, F2, c2, f2, rfl, hC2, hF_2, hE2⟩
  have hF2 := (((Ext.refl w1).alloc (.cells #[.int .i64 2, .slice C1 4 c1, .slice F1 4 f1] 25)).alloc (.cells #[.int .u32 1, .int .u32 2, .int .u32 3, .int .u32 4] 34)).trans hE2
  have HX2 := Lib.hid (HX1.out.trans hF2)
  have HC1_2 := Lib.hid (HC1_1.out.ext hF2)
  have HF1_2 := Lib.hid (HF1_1.out.ext hF2)
  have p0 : w2.cell? ⟨w1.heap.size, 0, none⟩ = some (.int .i64 2) := Ext.cell hE2 (by go_simp)
  have p1 : w2.cell? ⟨w1.heap.size, 1, none⟩ = some (.slice C1 4 c1) := Ext.cell hE2 (by go_simp)
  have p2 : w2.cell? ⟨w1.heap.size, 2, none⟩ = some (.slice F1 4 f1) := Ext.cell hE2 (by go_simp)
  have lb_p : w1.heap.size < w2.heap.size := World.block_lt_of_cell? _ _ p0
  clear hE2 hF2 HX1 HC1_1 HF1_1
  go_wp2_with fail
  refine (pput12_to 2 [2, 5, 0, 0] [true, true, false, false] 4 4 C1 F1 c1 f1 [9] 1 (some ⟨w2.heap.size + 1, 0, none⟩) 1 2 [2, 5, 9, 0] [true, true, true, false] 0 4 4 _ (HC1_2.out.ext (((Ext.refl _).alloc _).alloc _)) (HF1_2.out.ext (((Ext.refl _).alloc _).alloc _)) rfl rfl (by decide) (by decide) (by decide) (u32_list (w2.alloc (.cells #[.int .i64 0, .slice C2 0 c2, .slice F2 0 f2] 25)) [9] _ 1 #[.int .u32 9] rfl rfl (by simp) (by decide) (by decide)) rfl (by decide) H3.out rfl rfl).mono ?_
  rintro ed w3 ⟨C3, F3, c3, f3, rfl, hC3, hF_3, hE3⟩
  have hF3 := (((Ext.refl w2).alloc (.cells #[.int .i64 0, .slice C2 0 c2, .slice F2 0 f2] 25)).alloc (.cells #[.int .u32 9] 34)).trans hE3
  replace p0 := Ext.cell hF3 p0
  replace p1 := Ext.cell hF3 p1
  replace p2 := Ext.cell hF3 p2
  have lb3_0 : w1.heap.size < w3.heap.size := by have := Ext.size hF3; omega
  have HX3 := Lib.hid (HX2.out.trans hF3)
  have HC1_3 := Lib.hid (HC1_2.out.ext hF3)
  have HF1_3 := Lib.hid (HF1_2.out.ext hF3)
  have HC3_3 := Lib.hid (hC3)
  have HF3_3 := Lib.hid (hF_3)
  clear hE3 hF3 HX2 HC1_2 HF1_2 lb_p
  go_wp2_with fail
  clear HC1_3
  clear HF1_3
  refine (pdrop12_to 2 [2, 5, 9, 0] [true, true, true, false] 4 4 C3 F3 c3 f3 [2, 7] 2 (some ⟨w3.heap.size + 1, 0, none⟩) 2 2 [5, 0, 9, 0] [true, false, true, false] 0 4 4 _ (HC3_3.out.ext (((Ext.refl _).alloc _).alloc _)) (HF3_3.out.ext (((Ext.refl _).alloc _).alloc _)) rfl rfl (by decide) (by decide) (by decide) (u32_list (w3.alloc (.cells #[.int .i64 2, .slice C3 4 c3, .slice F3 4 f3] 25)) [2, 7] _ 2 #[.int .u32 2, .int .u32 7] rfl rfl (by simp) (by decide) (by decide)) rfl (by decide) H4.out rfl rfl).mono ?_
  rintro ed w4 ⟨C4, F4, c4, f4, rfl, hC4, hF_4, hE4⟩
  have hF4 := (((Ext.refl w3).alloc (.cells #[.int .i64 2, .slice C3 4 c3, .slice F3 4 f3] 25)).alloc (.cells #[.int .u32 2, .int .u32 7] 34)).trans hE4
  replace p0 := Ext.cell hF4 p0
  replace p1 := Ext.cell hF4 p1
  replace p2 := Ext.cell hF4 p2
  have lb4_0 : w1.heap.size < w4.heap.size := by have := Ext.size hF4; omega
  have HX4 := Lib.hid (HX3.out.trans hF4)
  have HC3_4 := Lib.hid (HC3_3.out.ext hF4)
  have HF3_4 := Lib.hid (HF3_3.out.ext hF4)
  have HC4_4 := Lib.hid (hC4)
  have HF4_4 := Lib.hid (hF_4)
  have u0 : w4.cell? ⟨w3.heap.size, 0, none⟩ = some (.int .i64 2) := Ext.cell hE4 (by go_simp)
  have u1 : w4.cell? ⟨w3.heap.size, 1, none⟩ = some (.slice C3 4 c3) := Ext.cell hE4 (by go_simp)
  have u2 : w4.cell? ⟨w3.heap.size, 2, none⟩ = some (.slice F3 4 f3) := Ext.cell hE4 (by go_simp)
  have lb_u : w3.heap.size < w4.heap.size := World.block_lt_of_cell? _ _ u0
  clear hE4 hF4 HX3 HC3_3 HF3_3 lb3_0
  go_wp2_with fail
  refine (pfind12_to 2 [5, 0, 9, 0] [true, false, true, false] 4 4 C4 F4 c4 f4 9 2 1 true _ (HC4_4.out.ext ((Ext.refl _).alloc _)) (HF4_4.out.ext ((Ext.refl _).alloc _)) rfl rfl (by decide) (by decide) (by decide) (by decide) H5.out.1 H5.out.2.1 H5.out.2.2).mono ?_
  rintro ed w5 ⟨rfl, hE5⟩
  have hF5 := ((Ext.refl w4).alloc (.cells #[.int .i64 2, .slice C4 4 c4, .slice F4 4 f4] 25)).trans hE5
  replace p0 := Ext.cell hF5 p0
  replace p1 := Ext.cell hF5 p1
  replace p2 := Ext.cell hF5 p2
  replace u0 := Ext.cell hF5 u0
  replace u1 := Ext.cell hF5 u1
  replace u2 := Ext.cell hF5 u2
  have lb5_0 : w1.heap.size < w5.heap.size := by have := Ext.size hF5; omega
  have lb5_1 : w3.heap.size < w5.heap.size := by have := Ext.size hF5; omega
  have HX5 := Lib.hid (HX4.out.trans hF5)
  have HC3_5 := Lib.hid (HC3_4.out.ext hF5)
  have HF3_5 := Lib.hid (HF3_4.out.ext hF5)
  have HC4_5 := Lib.hid (HC4_4.out.ext hF5)
  have HF4_5 := Lib.hid (HF4_4.out.ext hF5)
  have v0 : w5.cell? ⟨w4.heap.size, 0, none⟩ = some (.int .i64 2) := Ext.cell hE5 (by go_simp)
  have v1 : w5.cell? ⟨w4.heap.size, 1, none⟩ = some (.slice C4 4 c4) := Ext.cell hE5 (by go_simp)
  have v2 : w5.cell? ⟨w4.heap.size, 2, none⟩ = some (.slice F4 4 f4) := Ext.cell hE5 (by go_simp)
  have lb_v : w4.heap.size < w5.heap.size := World.block_lt_of_cell? _ _ v0
  clear hE5 hF5 HX4 HC3_4 HF3_4 HC4_4 HF4_4 lb4_0 lb_u
  go_wp2_with fail
  refine (pfind12_to 2 [5, 0, 9, 0] [true, false, true, false] 4 4 C4 F4 c4 f4 2 0 2 false _ HC4_5.out HF4_5.out rfl rfl (by decide) (by decide) (by decide) (by decide) H6.out.1 H6.out.2.1 H6.out.2.2).mono ?_
  rintro ed w6 ⟨rfl, hE6⟩
  replace p0 := Ext.cell hE6 p0
  replace p1 := Ext.cell hE6 p1
  replace p2 := Ext.cell hE6 p2
  replace u0 := Ext.cell hE6 u0
  replace u1 := Ext.cell hE6 u1
  replace u2 := Ext.cell hE6 u2
  replace v0 := Ext.cell hE6 v0
  replace v1 := Ext.cell hE6 v1
  replace v2 := Ext.cell hE6 v2
  have lb6_0 : w1.heap.size < w6.heap.size := by have := Ext.size hE6; omega
  have lb6_1 : w3.heap.size < w6.heap.size := by have := Ext.size hE6; omega
  have lb6_2 : w4.heap.size < w6.heap.size := by have := Ext.size hE6; omega
  have HX6 := Lib.hid (HX5.out.trans hE6)
  have HC3_6 := Lib.hid (HC3_5.out.ext hE6)
  have HF3_6 := Lib.hid (HF3_5.out.ext hE6)
  have HC4_6 := Lib.hid (HC4_5.out.ext hE6)
  have HF4_6 := Lib.hid (HF4_5.out.ext hE6)
  clear hE6 HX5 HC3_5 HF3_5 HC4_5 HF4_5 lb5_0 lb5_1 lb_v
  go_wp2_with fail
  refine (pmake12_to 2 [9, 5] 2 (some ⟨w6.heap.size, 0, none⟩) 2 2 [5, 0, 9, 0] [true, false, true, false] 0 4 4 _ (u32_list w6 [9, 5] _ 2 #[.int .u32 9, .int .u32 5] rfl rfl (by simp) (by decide) (by decide)) rfl (by decide) (by decide) H7.out rfl rfl).mono ?_
  rintro ed w7 ⟨C7, F7, c7, f7, rfl, hC7, hF_7, hE7⟩
  have hF7 := ((Ext.refl w6).alloc (.cells #[.int .u32 9, .int .u32 5] 34)).trans hE7
  replace p0 := Ext.cell hF7 p0
  replace p1 := Ext.cell hF7 p1
  replace p2 := Ext.cell hF7 p2
  replace u0 := Ext.cell hF7 u0
  replace u1 := Ext.cell hF7 u1
  replace u2 := Ext.cell hF7 u2
  replace v0 := Ext.cell hF7 v0
  replace v1 := Ext.cell hF7 v1
  replace v2 := Ext.cell hF7 v2
  have lb7_0 : w1.heap.size < w7.heap.size := by have := Ext.size hF7; omega
  have lb7_1 : w3.heap.size < w7.heap.size := by have := Ext.size hF7; omega
  have lb7_2 : w4.heap.size < w7.heap.size := by have := Ext.size hF7; omega
  have HX7 := Lib.hid (HX6.out.trans hF7)
  have HC3_7 := Lib.hid (HC3_6.out.ext hF7)
  have HF3_7 := Lib.hid (HF3_6.out.ext hF7)
  have HC4_7 := Lib.hid (HC4_6.out.ext hF7)
  have HF4_7 := Lib.hid (HF4_6.out.ext hF7)
  have HC7_7 := Lib.hid (hC7)
  have HF7_7 := Lib.hid (hF_7)
  clear hE7 hF7 HX6 HC3_6 HF3_6 HC4_6 HF4_6 lb6_0 lb6_1 lb6_2
  go_wp2_with fail
  refine (rsame12_to 2 [5, 0, 9, 0] [true, false, true, false] 4 4 C4 F4 c4 f4 2 [5, 0, 9, 0] [true, false, true, false] 4 4 C7 F7 c7 f7 true _ (HC4_7.out.ext ((Ext.refl _).alloc _)) (HF4_7.out.ext ((Ext.refl _).alloc _)) rfl rfl (HC7_7.out.ext ((Ext.refl _).alloc _)) (HF7_7.out.ext ((Ext.refl _).alloc _)) rfl rfl (by decide) H8.out).mono ?_
  rintro ed w8 ⟨rfl, hE8⟩
  have hF8 := ((Ext.refl w7).alloc (.cells #[.int .i64 2, .slice C7 4 c7, .slice F7 4 f7] 25)).trans hE8
  replace p0 := Ext.cell hF8 p0
  replace p1 := Ext.cell hF8 p1
  replace p2 := Ext.cell hF8 p2
  replace u0 := Ext.cell hF8 u0
  replace u1 := Ext.cell hF8 u1
  replace u2 := Ext.cell hF8 u2
  replace v0 := Ext.cell hF8 v0
  replace v1 := Ext.cell hF8 v1
  replace v2 := Ext.cell hF8 v2
  have lb8_0 : w1.heap.size < w8.heap.size := by have := Ext.size hF8; omega
  have lb8_1 : w3.heap.size < w8.heap.size := by have := Ext.size hF8; omega
  have lb8_2 : w4.heap.size < w8.heap.size := by have := Ext.size hF8; omega
  have HX8 := Lib.hid (HX7.out.trans hF8)
  have HC3_8 := Lib.hid (HC3_7.out.ext hF8)
  have HF3_8 := Lib.hid (HF3_7.out.ext hF8)
  have HC4_8 := Lib.hid (HC4_7.out.ext hF8)
  have HF4_8 := Lib.hid (HF4_7.out.ext hF8)
  have HC7_8 := Lib.hid (HC7_7.out.ext hF8)
  have HF7_8 := Lib.hid (HF7_7.out.ext hF8)
  clear hE8 hF8 HX7 HC3_7 HF3_7 HC4_7 HF4_7 HC7_7 HF7_7 lb7_0 lb7_1 lb7_2
  go_wp2_with fail
  clear HC7_8
  clear HF7_8
  refine (pright12_to 2 [5, 0, 9, 0] [true, false, true, false] 4 4 C4 F4 c4 f4 true _ HC4_8.out HF4_8.out rfl rfl (by decide) (by decide) (by decide) H9.out).mono ?_
  rintro ed w9 ⟨rfl, hE9⟩
  replace p0 := Ext.cell hE9 p0
  replace p1 := Ext.cell hE9 p1
  replace p2 := Ext.cell hE9 p2
  replace u0 := Ext.cell hE9 u0
  replace u1 := Ext.cell hE9 u1
  replace u2 := Ext.cell hE9 u2
  replace v0 := Ext.cell hE9 v0
  replace v1 := Ext.cell hE9 v1
  replace v2 := Ext.cell hE9 v2
  have lb9_0 : w1.heap.size < w9.heap.size := by have := Ext.size hE9; omega
  have lb9_1 : w3.heap.size < w9.heap.size := by have := Ext.size hE9; omega
  have lb9_2 : w4.heap.size < w9.heap.size := by have := Ext.size hE9; omega
  have HX9 := Lib.hid (HX8.out.trans hE9)
  have HC3_9 := Lib.hid (HC3_8.out.ext hE9)
  have HF3_9 := Lib.hid (HF3_8.out.ext hE9)
  have HC4_9 := Lib.hid (HC4_8.out.ext hE9)
  have HF4_9 := Lib.hid (HF4_8.out.ext hE9)
  clear hE9 HX8 HC3_8 HF3_8 HC4_8 HF4_8 lb8_0 lb8_1 lb8_2
  go_wp2_with fail
  clear HC4_9
  clear HF4_9
  refine (pkeys12_to 2 [2, 5, 9, 0] [true, true, true, false] 4 4 C3 F3 c3 f3 [2, 5, 9] 3 _ HC3_9.out HF3_9.out rfl rfl (by decide) (by decide) (by decide) H10.out rfl).mono ?_
  rintro ed w10 ⟨Lk, lk, rfl, hk, hE10⟩
  replace p0 := Ext.cell hE10 p0
  replace p1 := Ext.cell hE10 p1
  replace p2 := Ext.cell hE10 p2
  replace u0 := Ext.cell hE10 u0
  replace u1 := Ext.cell hE10 u1
  replace u2 := Ext.cell hE10 u2
  replace v0 := Ext.cell hE10 v0
  replace v1 := Ext.cell hE10 v1
  replace v2 := Ext.cell hE10 v2
  have lb10_0 : w1.heap.size < w10.heap.size := by have := Ext.size hE10; omega
  have lb10_1 : w3.heap.size < w10.heap.size := by have := Ext.size hE10; omega
  have lb10_2 : w4.heap.size < w10.heap.size := by have := Ext.size hE10; omega
  have HX10 := Lib.hid (HX9.out.trans hE10)
  have HC3_10 := Lib.hid (HC3_9.out.ext hE10)
  have HF3_10 := Lib.hid (HF3_9.out.ext hE10)
  have Hk_10 := Lib.hid (hk)
  clear hE10 HX9 HC3_9 HF3_9 lb9_0 lb9_1 lb9_2
  go_wp2_with fail
  clear HC3_10
  clear HF3_10
  refine (rwords_any _ _ (zs [2, 5, 9]) (zs [2, 5, 9]) _ (Hk_10.out.ext ((Ext.refl _).alloc _)) (u32_list w10 [2, 5, 9] _ 3 #[.int .u32 2, .int .u32 5, .int .u32 9] rfl rfl (by simp) (by decide) (by decide))).mono ?_
  rintro ed w11 ⟨rfl, hE11⟩
  rw [show sameB (zs [2, 5, 9]) (zs [2, 5, 9]) = true by decide +kernel]
  have hF11 := ((Ext.refl w10).alloc (.cells #[.int .u32 2, .int .u32 5, .int .u32 9] 34)).trans hE11
  replace p0 := Ext.cell hF11 p0
  replace p1 := Ext.cell hF11 p1
  replace p2 := Ext.cell hF11 p2
  replace u0 := Ext.cell hF11 u0
  replace u1 := Ext.cell hF11 u1
  replace u2 := Ext.cell hF11 u2
  replace v0 := Ext.cell hF11 v0
  replace v1 := Ext.cell hF11 v1
  replace v2 := Ext.cell hF11 v2
  have lb11_0 : w1.heap.size < w11.heap.size := by have := Ext.size hF11; omega
  have lb11_1 : w3.heap.size < w11.heap.size := by have := Ext.size hF11; omega
  have lb11_2 : w4.heap.size < w11.heap.size := by have := Ext.size hF11; omega
  have HX11 := Lib.hid (HX10.out.trans hF11)
  have Hk_11 := Lib.hid (Hk_10.out.ext hF11)
  clear hE11 hF11 HX10 Hk_10 lb10_0 lb10_1 lb10_2
  go_wp2_with fail
  refine (phome12_any 8 1 _ (by decide) (by decide)).mono ?_
  rw [H11.out]
  rintro ed w12 ⟨rfl, hE12⟩
  replace p0 := Ext.cell hE12 p0
  replace p1 := Ext.cell hE12 p1
  replace p2 := Ext.cell hE12 p2
  replace u0 := Ext.cell hE12 u0
  replace u1 := Ext.cell hE12 u1
  replace u2 := Ext.cell hE12 u2
  replace v0 := Ext.cell hE12 v0
  replace v1 := Ext.cell hE12 v1
  replace v2 := Ext.cell hE12 v2
  have lb12_0 : w1.heap.size < w12.heap.size := by have := Ext.size hE12; omega
  have lb12_1 : w3.heap.size < w12.heap.size := by have := Ext.size hE12; omega
  have lb12_2 : w4.heap.size < w12.heap.size := by have := Ext.size hE12; omega
  have HX12 := Lib.hid (HX11.out.trans hE12)
  have Hk_12 := Lib.hid (Hk_11.out.ext hE12)
  clear hE12 HX11 Hk_11 lb11_0 lb11_1 lb11_2
  go_wp2_with fail
  refine (phome12_any 11 1 _ (by decide) (by decide)).mono ?_
  rw [H12.out]
  rintro ed w13 ⟨rfl, hE13⟩
  replace p0 := Ext.cell hE13 p0
  replace p1 := Ext.cell hE13 p1
  replace p2 := Ext.cell hE13 p2
  replace u0 := Ext.cell hE13 u0
  replace u1 := Ext.cell hE13 u1
  replace u2 := Ext.cell hE13 u2
  replace v0 := Ext.cell hE13 v0
  replace v1 := Ext.cell hE13 v1
  replace v2 := Ext.cell hE13 v2
  have lb13_0 : w1.heap.size < w13.heap.size := by have := Ext.size hE13; omega
  have lb13_1 : w3.heap.size < w13.heap.size := by have := Ext.size hE13; omega
  have lb13_2 : w4.heap.size < w13.heap.size := by have := Ext.size hE13; omega
  have HX13 := Lib.hid (HX12.out.trans hE13)
  have Hk_13 := Lib.hid (Hk_12.out.ext hE13)
  clear hE13 HX12 Hk_12 lb12_0 lb12_1 lb12_2
  go_wp2_with fail
  go_ret
  exact ⟨ret_bool (by first | rfl | simp), HX13.out⟩
end Go.Proofs.Ytofiokegdgdacaa
