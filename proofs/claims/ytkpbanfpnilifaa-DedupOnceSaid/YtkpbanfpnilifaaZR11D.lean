/- DedupOnce: the law returns true. Written by wip/mk_r11.py. -/
import Derived.Test.YtkpbanfpnilifaaJ6
import Derived.Test.YtkpbanfpnilifaaZS8Q
set_option linter.unusedVariables false
set_option linter.unusedSimpArgs false
set_option linter.unnecessarySimpa false
namespace Go.Proofs.Ytkpbanfpnilifaa
open Go.BigFrame
open Go.RowKit Go.Proofs.Ytkpbanfpnilifaa.Plain

theorem Plain.groupsP_good (l : List Nat) (b blk g m : Int) (picks : List (Int × Int)) (h1 : 1 ≤ b) (h2 : b ≤ 16) (h3 : 1 ≤ blk) (h4 : blk ≤ 100) (hb : planB g m picks.length = true) : ∃ st, groupsP l b blk g m picks = ((grpL (risingL l)).1, (grpL (risingL l)).2, st, 0) := by
  have hs : (sortP l b blk g m picks).2.2 = 0 := by
    unfold sortP
    obtain ⟨B, rfl⟩ : ∃ B : Nat, b = B := ⟨b.toNat, by omega⟩
    have h5 := (passesP_enough B (by omega) (by omega)).2.2.1
    rw [if_neg (by omega), if_neg (by rw [stepsP_good l.length blk g m picks h3 h4 hb]; decide)]
  unfold groupsP
  rw [if_neg (by simp [hs])]
  exact ⟨_, rfl⟩
theorem Plain.grp_of (l : List Nat) : Grp l (grpL (risingL l)).1 (grpL (risingL l)).2 := by
  have h := grp_good _ (risingL l) rfl (risingL_rises l)
  have hp := risingL_perm l
  exact ⟨h.rise, h.len, fun x => (h.mem x).trans hp.mem_iff, fun i hi => (h.cnt i hi).trans (hp.count_eq _), h.sum.trans hp.length_eq⟩
theorem Plain.sum_take (t : List Nat) (i : Nat) (h : i < t.length) : (t.take (i + 1)).sum = (t.take i).sum + t.getD i 0 := by
  rw [takeN_snoc h, List.sum_append]; simp
theorem Plain.count_take (l : List Nat) (x q : Nat) (h : q < l.length) : (l.take (q + 1)).count x = (l.take q).count x + (if l.getD q 0 = x then 1 else 0) := by
  rw [takeN_snoc h, List.count_append, List.count_singleton]
  congr 1
  by_cases e : l.getD q 0 = x
  · rw [if_pos e, e]; simp
  · rw [if_neg e, if_neg (by simpa using e)]
theorem Plain.without_all (l o : List Nat) (h : ∀ x, x ∈ o ↔ x ∈ l) : withoutL l o = [] := by
  unfold withoutL
  rw [List.filter_eq_nil_iff]
  intro x hx
  simp [(h x).2 hx]
theorem Plain.without_nil (l : List Nat) : withoutL l [] = l := by
  unfold withoutL
  rw [List.filter_eq_self]
  intro x _
  simp
set_option maxHeartbeats 3200000 in
set_option maxRecDepth 100000 in
theorem deduponce_any (l : List Nat) (L : Option Addr) (lc : Nat) (a b : Int) (W : World) (hL : Rd kU32 W (.slice L l.length lc) (zs l)) (ha : 0 ≤ a ∧ a ≤ 255) (hb : 0 ≤ b ∧ b ≤ 255) :
    Calls Try.prog 3 #[.slice L l.length lc, .agg #[.int .u8 a, .int .u8 b]] W fun ed w' => ed = .returned (.bool true) ∧ Ext W w' := by
  have HL := Lib.hid hL
  obtain ⟨a0, a1⟩ := ha
  obtain ⟨b0, b1⟩ := hb
  obtain ⟨P, hP⟩ : ∃ P : Nat, 1 + a % 16 = (P : Int) := ⟨(1 + a % 16).toNat, by omega⟩
  obtain ⟨Q, hQ⟩ : ∃ P : Nat, 1 + b % 100 = (P : Int) := ⟨(1 + b % 100).toNat, by omega⟩
  have HPQ : Hid ((1 ≤ P ∧ P ≤ 16) ∧ (1 ≤ Q ∧ Q ≤ 100)) := Lib.hid (by omega)
  clear hL
  go_enter Try.func3, Try.ntmps3
  go_wp2_with fail
  refine (dalive_any _).mono ?_
  rintro ed w1 ⟨rfl, hE1⟩
  have q0 : w1.cell? ⟨W.heap.size, 0, none⟩ = some (.int .u8 a) := Ext.cell hE1 (by go_simp)
  have q1 : w1.cell? ⟨W.heap.size, 1, none⟩ = some (.int .u8 b) := Ext.cell hE1 (by go_simp)
  have qf : ∀ o, w1.frozen? ⟨W.heap.size, o, none⟩ = false := fun o => (Below.frozen hE1 (p := ⟨W.heap.size, o, none⟩) (by first | omega | (simp; omega) | simp)).trans (by go_simp)
  have HX1 := Lib.hid (((Ext.refl W).alloc (.cells #[.int .u8 a, .int .u8 b] 23)).trans hE1)
  have lz1 := hE1.size
  simp at lz1
  have n1 : W.heap.size < w1.heap.size := by omega
  clear hE1
  by_cases h0 : (100 : Int) < l.length
  · go_wp2_with fail
    go_ret
    exact ⟨rfl, HX1.out⟩
  have g0 : (l.length : Int) ≤ 100 := by omega
  clear h0
  obtain ⟨st, e1⟩ := groupsP_good l P Q 3 2 [] (by have := HPQ.out; omega) (by have := HPQ.out; omega) (by have := HPQ.out; omega) (by have := HPQ.out; omega) (by decide)
  have hgr := grp_of l
  have hw1 := without_all l _ hgr.mem
  have hle := grp_le hgr
  obtain ⟨o, ho⟩ : ∃ x, (grpL (risingL l)).1 = x := ⟨_, rfl⟩
  obtain ⟨t, ht⟩ : ∃ x, (grpL (risingL l)).2 = x := ⟨_, rfl⟩
  rw [ho, ht] at e1 hgr
  rw [ho] at hw1 hle
  obtain ⟨on, hon⟩ : ∃ n, o.length = n := ⟨_, rfl⟩
  have hlen : t.length = on := by rw [hgr.len, hon]
  rw [hon] at hle
  have HON := Lib.hid hon
  have HGR := Lib.hid hgr
  have HLEN := Lib.hid hlen
  have HE := Lib.hid e1
  have HW1 := Lib.hid hw1
  have HPP : Hid (in64 (P : Int) ∧ in64 (Q : Int)) := Lib.hid ⟨in64_nat P (by have := HPQ.out; omega), in64_nat Q (by have := HPQ.out; omega)⟩
  have hol : (on : Int) ≤ 100 := by omega
  clear ho ht e1 hgr hw1 hle hlen hon
  go_wp2_with fail
  clear q0 q1 n1 lz1 hP hQ a0 a1 b0 b1
  have hh := pgroups_any l L lc P Q 3 2 none 0 [] (w1.alloc (.cells #[.int .i64 P, .int .i64 Q, .int .i64 3, .int .i64 2, .slice none 0 0] 29)) ((HL.out.ext HX1.out).ext ((Ext.refl _).alloc _)) (Rd.nil _ _ _) (by omega) HPP.out.1 HPP.out.2 (by decide) (by decide)
  rw [HE.out] at hh
  refine hh.mono ?_
  clear hh
  rintro ed w2 ⟨Lo, To, lo, tc, rfl, hOo, hTo, hE2⟩
  simp only at hOo hTo ⊢
  rw [HLEN.out] at hTo ⊢
  rw [HON.out] at hOo ⊢
  have hF2 := ((Ext.refl w1).alloc (.cells #[.int .i64 P, .int .i64 Q, .int .i64 3, .int .i64 2, .slice none 0 0] 29)).trans hE2
  have HX2 := Lib.hid (HX1.out.trans hF2)
  have Ho_2 := Lib.hid (hOo.rd)
  have Ht_2 := Lib.hid (hTo.rd)
  clear hE2 hF2 HX1
  go_wp2_with fail
  go_loopw [10, 11] (fun v i wr => ∃ k : Nat, k ≤ on ∧ i = .int .i64 k ∧ v = .int .i64 ((t.take k).sum : Nat) ∧ Ext w2 wr) (fun _ i _ => on - (intOf i).toNat)
  case atStart => exact ⟨0, Nat.zero_le _, rfl, rfl, Ext.refl _⟩
  case round =>
    obtain ⟨k, hk, rfl, rfl, hX⟩ := hrel
    have HX := Lib.hid hX
    have hk0 : (0 : Int) ≤ k := by omega
    clear hX
    by_cases hlt : k < on
    · have hlt' : (k : Int) < on := by omega
      have hko : k < o.length := by rw [HON.out]; exact hlt
      have hcn := HGR.out.cnt k hko
      have hst := sum_take t k (by rw [HLEN.out]; exact hlt)
      have hsl : (t.take (k + 1)).sum ≤ l.length := by
        rw [← HGR.out.sum]
        have h9 : t.sum = (t.take (k + 1)).sum + (t.drop (k + 1)).sum := by rw [← List.sum_append, List.take_append_drop]
        omega
      obtain ⟨bo, oo, eO, z0, hxl⟩ := u32_at (l := o) (by rw [HON.out]; exact Ho_2.out.ext HX.out) k hko
      subst eO
      have hTR : Rd kInt wr (.slice To t.length tc) (zs t) := by rw [HLEN.out]; exact Ht_2.out.ext HX.out
      obtain ⟨bt, ot, eT, hct⟩ := (ints_of_rd hTR).cells (by rw [zs_len, HLEN.out]; omega)
      subst eT
      have y0 := hct k (by rw [zs_len, HLEN.out]; exact hlt)
      rw [zs_getD] at y0
      have hxm : o.getD k 0 ∈ l := (HGR.out.mem _).1 (by rw [List.getD_eq_getElem?_getD, List.getElem?_eq_getElem hko]; exact List.getElem_mem hko)
      have hcp : 0 < l.count (o.getD k 0) := List.count_pos_iff.2 hxm
      have hcl : l.count (o.getD k 0) ≤ l.length := List.count_le_length
      have hprev : ∀ j, j + 1 = k → o.getD j 0 < o.getD k 0 := fun j hj => by
        have hp := HGR.out.rise
        rw [List.pairwise_iff_getElem] at hp
        have := hp j k (by omega) hko (by omega)
        rw [List.getD_eq_getElem?_getD, List.getElem?_eq_getElem (by omega), List.getD_eq_getElem?_getD, List.getElem?_eq_getElem hko]
        exact this
      obtain ⟨x, hx⟩ : ∃ x, o.getD k 0 = x := ⟨_, rfl⟩
      rw [hx] at hcn z0 hxl hcp hcl hprev
      rw [hcn] at y0 hst
      obtain ⟨c, hc⟩ : ∃ c, l.count x = c := ⟨_, rfl⟩
      rw [hc] at y0 hst hcp hcl
      obtain ⟨sm, hsm⟩ : ∃ s, (t.take k).sum = s := ⟨_, rfl⟩
      rw [hsm] at hst ⊢
      rw [hst] at hsl
      have HST := Lib.hid hst
      have HC := Lib.hid hc
      have HPV := Lib.hid hprev
      have HZ0 := Lib.hid z0
      have HY0 := Lib.hid y0
      have hsmi : (sm : Int) + (c : Int) ≤ 100 := by omega
      have hsm0 : (0 : Int) ≤ sm := by omega
      have hc0 : (0 : Int) < c := by omega
      have hc9 : (c : Int) ≤ 100 := by omega
      have lbo : bo < wr.heap.size := World.block_lt_of_cell? _ _ z0
      clear hcn hst hct hTR hxm hx hxl hprev hc hsm hsl z0 y0 hko
      rename World => wa
      go_wp2_with fail
      go_loopw [12, 13] (fun v i wr => ∃ q : Nat, q ≤ l.length ∧ i = .int .i64 q ∧ v = .int .i64 ((l.take q).count x : Nat) ∧ Ext wa wr) (fun _ i _ => l.length - (intOf i).toNat)
      case atStart => exact ⟨0, Nat.zero_le _, rfl, rfl, Ext.refl _⟩
      case round =>
        obtain ⟨q, hq, rfl, rfl, hXq⟩ := hrel
        have HXq := Lib.hid hXq
        have hq0 : (0 : Int) ≤ q := by omega
        clear hXq
        rename World => wb
        by_cases hql : q < l.length
        · have hql' : (q : Int) < l.length := by omega
          obtain ⟨bx, ox, rfl, x0, hyl⟩ := u32_at (HL.out.ext ((HX2.out.trans HX.out).trans HXq.out)) q hql
          have x1 := HXq.out.cell HZ0.out
          have hct := count_take l x q hql
          have hcl2 : (l.take q).count x ≤ q := Nat.le_trans List.count_le_length (by rw [List.length_take]; omega)
          obtain ⟨y, hy⟩ : ∃ y, l.getD q 0 = y := ⟨_, rfl⟩
          rw [hy] at x0 hct
          obtain ⟨n, hn⟩ : ∃ n, (l.take q).count x = n := ⟨_, rfl⟩
          rw [hn] at hct hcl2 ⊢
          have hn0 : (0 : Int) ≤ n := by omega
          have hn9 : (n : Int) ≤ 100 := by omega
          have KS : Hid (∀ w', Ext wb w' → w'.cell? ⟨bx, ox + q, none⟩ = some (.int .u32 y) ∧ w'.cell? ⟨bo, oo + k, none⟩ = some (.int .u32 x)) := Lib.hid (fun w' hE => ⟨hE.cell x0, hE.cell x1⟩)
          clear x0 x1 hy hyl hn hcl2
          by_cases hyx : y = x
          · rw [if_pos hyx] at hct
            have HCT := Lib.hid hct
            have f1 : (y == x) = true := by simp [hyx]
            have f2 : ((y : Int) == (x : Int)) = true := by simp [hyx]
            clear hct hyx
            go_wp2_with fail
            refine wp_region_class (Ext wb) (by kernel_rfl) (by kernel_rfl) (Ext.refl _).drew ?_
            try simp only [List.append_eq, List.cons_append, List.nil_append]
            repeat (first
              | go_big_quiet_skip
              | (go_big_quiet_want
                 first
                 | (go_big_quiet_op; go_big_quiet_on)
                 | (unfold Oper.quiet
                    apply Exists.intro
                    refine ⟨fun w' hC => ?_, ?_⟩
                    · (obtain ⟨k1, k2⟩ := KS.out w' hC
                       unfold Oper.quietAt
                       go_simp
                       first
                       | exact rfl)
                    go_simp
                    go_big_quiet_on)))
            refine wpQuiet_nil ?_
            intro w9 hC9
            go_wp2_with fail
            go_roundw
            case rel => exact ⟨q + 1, by omega, by go_num, by rw [HCT.out]; go_num, HXq.out.trans hC9⟩
            case measure => simp [intOf]; omega
          · rw [if_neg hyx] at hct
            have HCT := Lib.hid hct
            have f1 : (y == x) = false := by simp [hyx]
            have f2 : ((y : Int) == (x : Int)) = false := by simp; omega
            clear hct hyx
            go_wp2_with fail
            refine wp_region_class (Ext wb) (by kernel_rfl) (by kernel_rfl) (Ext.refl _).drew ?_
            try simp only [List.append_eq, List.cons_append, List.nil_append]
            repeat (first
              | go_big_quiet_skip
              | (go_big_quiet_want
                 first
                 | (go_big_quiet_op; go_big_quiet_on)
                 | (unfold Oper.quiet
                    apply Exists.intro
                    refine ⟨fun w' hC => ?_, ?_⟩
                    · (obtain ⟨k1, k2⟩ := KS.out w' hC
                       unfold Oper.quietAt
                       go_simp
                       first
                       | exact rfl)
                    go_simp
                    go_big_quiet_on)))
            refine wpQuiet_nil ?_
            intro w9 hC9
            go_wp2_with fail
            go_roundw
            case rel => exact ⟨q + 1, by omega, by go_num, by rw [HCT.out, Nat.add_zero], HXq.out.trans hC9⟩
            case measure => simp [intOf]; omega
        · obtain rfl : q = l.length := by omega
          have hcc : (l.take l.length).count x = c := by rw [List.take_length, HC.out]
          rw [hcc]
          have z1 := HXq.out.cell HZ0.out
          have y1 := HXq.out.cell HY0.out
          have g1 : (c != c) = false := by simp
          have g2 : ((c : Int) != (c : Int)) = false := by simp
          have g3 : (c == 0) = false := by simp; omega
          have g4 : ((c : Int) == 0) = false := by simp; omega
          clear hcc
          by_cases hz : k = 0
          · subst hz
            have KS : Hid (∀ w', Ext wb w' → w'.cell? ⟨bt, ot, none⟩ = some (.int .i64 c) ∧ True) := Lib.hid (fun w' hE => ⟨by have h9 := hE.cell y1; simpa using h9, trivial⟩)
            have hl0 : (0 : Int) < on := by omega
            clear z1 y1
            go_wp2_with fail
            refine wp_region_class (Ext wb) (by kernel_rfl) (by kernel_rfl) (Ext.refl _).drew ?_
            try simp only [List.append_eq, List.cons_append, List.nil_append]
            repeat (first
              | go_big_quiet_skip
              | (go_big_quiet_want
                 first
                 | (go_big_quiet_op; go_big_quiet_on)
                 | (unfold Oper.quiet
                    apply Exists.intro
                    refine ⟨fun w' hC => ?_, ?_⟩
                    · (obtain ⟨k1, k2⟩ := KS.out w' hC
                       unfold Oper.quietAt
                       go_simp
                       first
                       | exact rfl)
                    go_simp
                    go_big_quiet_on)))
            refine wpQuiet_nil ?_
            intro w9 hC9
            go_wp2_with fail
            go_roundw
            case rel => exact ⟨1, by omega, by go_num, by rw [HST.out]; go_num, (HX.out.trans HXq.out).trans hC9⟩
            case measure => simp [intOf]; omega
          · obtain ⟨j, hj⟩ : ∃ j, j + 1 = k := ⟨k - 1, by omega⟩
            have hpv := HPV.out j hj
            obtain ⟨bo', oo', eO', z2, _⟩ := u32_at (l := o) (by rw [HON.out]; exact Ho_2.out.ext (HX.out.trans HXq.out)) j (by rw [HON.out]; omega)
            cases eO'
            obtain ⟨p, hp⟩ : ∃ p, o.getD j 0 = p := ⟨_, rfl⟩
            rw [hp] at z2 hpv
            have hi9 : IntKind.i64.wrap ((k : Int) - 1) = (j : Int) := by rw [IntWalk.i64_in _ (by omega)]; omega
            have hj0 : (0 : Int) ≤ j := by omega
            have hj1 : (j : Int) < on := by omega
            have hkp : (0 : Int) < k := by omega
            have g5 : decide ((0 : Int) < (k : Int)) = true := decide_eq_true (by omega)
            have g6 : decide (0 < k) = true := decide_eq_true (by omega)
            have g7 : decide (x ≤ p) = false := decide_eq_false (by omega)
            have g8 : decide ((x : Int) ≤ (p : Int)) = false := decide_eq_false (by omega)
            have KS : Hid (∀ w', Ext wb w' → w'.cell? ⟨bt, ot + k, none⟩ = some (.int .i64 c) ∧ w'.cell? ⟨bo, oo + k, none⟩ = some (.int .u32 x) ∧ w'.cell? ⟨bo, oo + j, none⟩ = some (.int .u32 p)) := Lib.hid (fun w' hE => ⟨hE.cell y1, hE.cell z1, hE.cell z2⟩)
            clear z1 y1 z2 hp hpv hj hz
            go_wp2_with fail
            refine wp_region_class (Ext wb) (by kernel_rfl) (by kernel_rfl) (Ext.refl _).drew ?_
            try simp only [List.append_eq, List.cons_append, List.nil_append]
            repeat (first
              | go_big_quiet_skip
              | (go_big_quiet_want
                 first
                 | (go_big_quiet_op; go_big_quiet_on)
                 | (unfold Oper.quiet
                    apply Exists.intro
                    refine ⟨fun w' hC => ?_, ?_⟩
                    · (obtain ⟨k1, k2, k3⟩ := KS.out w' hC
                       unfold Oper.quietAt
                       go_simp
                       first
                       | exact rfl)
                    go_simp
                    go_big_quiet_on)))
            refine wpQuiet_nil ?_
            intro w9 hC9
            go_wp2_with fail
            go_roundw
            case rel => exact ⟨k + 1, by omega, by go_num, by rw [HST.out]; go_num, (HX.out.trans HXq.out).trans hC9⟩
            case measure => simp [intOf]; omega
    · obtain rfl : k = on := by omega
      have hsum : (t.take k).sum = l.length := by rw [← HLEN.out, List.take_length]; exact HGR.out.sum
      rw [hsum]
      have HX5 := Lib.hid (HX2.out.trans HX.out)
      have HO5 := Lib.hid (Ho_2.out.ext HX.out)
      have g1 : (l.length == l.length) = true := by simp
      have g2 : ((l.length : Int) == (l.length : Int)) = true := by simp
      clear hsum
      go_wp2_with fail
      have hh := pwithout_any l o L Lo lc lo _ (HL.out.ext HX5.out) (by rw [HON.out]; exact HO5.out) (by omega) (by rw [HON.out]; omega)
      rw [HW1.out, HON.out] at hh
      refine hh.mono ?_
      clear hh
      rintro ed w6 ⟨A6, c6, rfl, hO6, hE6⟩
      have HX6 := Lib.hid (HX5.out.trans hE6)
      clear hO6 hE6
      go_wp2_with fail
      refine (pwithout_any l [] L none lc 0 _ (HL.out.ext HX6.out) (Rd.nil _ _ _) (by omega) (by decide)).mono ?_
      rw [without_nil]
      rintro ed w7 ⟨A7, c7, rfl, hO7, hE7⟩
      have HX7 := Lib.hid (HX6.out.trans hE7)
      have HO7 := Lib.hid hO7.rd
      clear hO7 hE7
      go_wp2_with fail
      refine (rwords_any _ _ _ _ _ HO7.out (HL.out.ext HX7.out)).mono ?_
      rintro ed w8 ⟨rfl, hE8⟩
      rw [sameB_refl]
      have HX8 := Lib.hid (HX7.out.trans hE8)
      clear hE8
      go_wp2_with fail
      go_ret
      exact ⟨ret_bool (by first | rfl | simp), HX8.out⟩
end Go.Proofs.Ytkpbanfpnilifaa
