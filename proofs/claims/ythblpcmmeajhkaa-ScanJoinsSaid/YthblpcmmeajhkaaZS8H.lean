/- ScanHighest: the law returns true. Written by wip/mk_s8h.py. -/
import Derived.Test.YthblpcmmeajhkaaJ7
import Derived.Test.YthblpcmmeajhkaaZS8Q
import Derived.Deep.QuietTactic
import Derived.BigQuiet
set_option linter.unusedVariables false
set_option linter.unusedSimpArgs false
set_option linter.unnecessarySimpa false
namespace Go.Proofs.Ythblpcmmeajhkaa
open Go.BigFrame
open Go.RowKit Go.Proofs.Ythblpcmmeajhkaa.Plain

theorem zs_take (l : List Nat) (n : Nat) : zs (l.take n) = (zs l).take n := by unfold zs; rw [List.map_take]
set_option maxHeartbeats 3200000 in
set_option maxRecDepth 100000 in
theorem scanhighest_any (l : List Nat) (L : Option Addr) (lc : Nat) (b k0 : Int) (W : World) (hL : Rd kU32 W (.slice L l.length lc) (zs l)) (hb : 0 ≤ b ∧ b ≤ 255) (hk : 0 ≤ k0 ∧ k0 ≤ 255) :
    Calls Try.prog 5 #[.slice L l.length lc, .int .u8 b, .int .u8 k0] W fun ed w' => ed = .returned (.bool true) ∧ Ext W w' := by
  have hc : l.length ≤ lc := by
    obtain ⟨_, _, hv, hc⟩ := hL.slice
    rw [zs_len] at hv hc
    cases hv
    exact hc
  have HL := Lib.hid hL
  obtain ⟨b0, b1⟩ := hb
  obtain ⟨q0, q1⟩ := hk
  obtain ⟨P, hP⟩ : ∃ P : Nat, 1 + b % 100 = (P : Int) := ⟨(1 + b % 100).toNat, by omega⟩
  have HPQ : Hid (1 ≤ P ∧ P ≤ 100) := Lib.hid (by omega)
  clear hL
  go_enter Try.func5, Try.ntmps5
  go_wp2_with fail
  refine (salive_any _).mono ?_
  rintro ed w1 ⟨rfl, hE1⟩
  have HX1 := Lib.hid hE1
  clear hE1
  by_cases h1 : (100 : Int) < l.length
  · go_wp2_with fail
    go_ret
    exact ⟨rfl, HX1.out⟩
  have h1' : (l.length : Int) ≤ 100 := by omega
  clear h1
  obtain ⟨n, hn⟩ : ∃ n : Nat, k0 % ((l.length : Int) + 1) = (n : Int) := ⟨(k0 % ((l.length : Int) + 1)).toNat, by have := Int.emod_nonneg k0 (by omega : (l.length : Int) + 1 ≠ 0); omega⟩
  have hnl : n ≤ l.length := by have := Int.emod_lt_of_pos k0 (by omega : 0 < (l.length : Int) + 1); omega
  obtain ⟨s1, e1⟩ := highP_good l P 2 3 [] (by have := HPQ.out; omega) (by have := HPQ.out; omega) (by decide)
  obtain ⟨s2, e2⟩ := highP_good (l.take n) P 1 1 [] (by have := HPQ.out; omega) (by have := HPQ.out; omega) (by decide)
  have htk := highW_take l n hnl
  have hol := highW_len l
  have hat : ∀ i, i < l.length → (highW l).getD i 0 = max (maxL (l.take i)) (l.getD i 0) := highW_step l
  have hat2 : ∀ i, i < l.length → (highW l).getD i 0 = maxL (l.take (i + 1)) := highW_at l
  obtain ⟨oh, hoh⟩ : ∃ x, highW l = x := ⟨_, rfl⟩
  rw [hoh] at e1 htk hol hat hat2
  rw [htk] at e2
  have hlt' : (l.take n).length = n := by rw [List.length_take]; omega
  have hlo : (oh.take n).length = n := by rw [List.length_take]; omega
  have HE := Lib.hid (And.intro e1 e2)
  have HO := Lib.hid hol
  have HAT := Lib.hid (And.intro hat hat2)
  have HLT := Lib.hid (And.intro hlt' hlo)
  have HNL := Lib.hid hnl
  have hni : (n : Int) ≤ l.length := by omega
  have hn0 : (0 : Int) ≤ n := by omega
  have HLC := Lib.hid hc
  clear e1 e2 htk hol hat hat2 hoh hlt' hlo hnl hc
  go_wp2_with fail
  refine (shigh_any l L lc P 2 3 none 0 [] _ (HL.out.ext HX1.out) (Rd.nil _ _ _) (by omega) (by unfold in64; omega) (by decide) (by decide)).mono ?_
  rw [HE.out.1]
  rintro ed w2 ⟨L2, l2, rfl, hO2, hE2⟩
  simp only at hO2 ⊢
  have hl2 : oh.length ≤ l2 := by obtain ⟨_, _, hv, hc⟩ := hO2.slice; rw [zs_len] at hv hc; cases hv; exact hc
  rw [HO.out] at hO2 hl2 ⊢
  have HL2 := Lib.hid hl2
  clear hl2
  have HX2 := Lib.hid (HX1.out.trans hE2)
  have Hh_2 := Lib.hid (hO2.rd)
  clear hE2 HX1
  go_wp2_with fail
  go_loopw [10] (fun i wr => ∃ k : Nat, k ≤ l.length ∧ i = .int .i64 k ∧ Ext w2 wr) (fun i _ => l.length - (intOf i).toNat)
  case atStart => exact ⟨0, Nat.zero_le _, rfl, Ext.refl _⟩
  case round =>
    obtain ⟨k, hk, rfl, hX⟩ := hrel
    have HX := Lib.hid hX
    have hk0 : (0 : Int) ≤ k := by omega
    clear hX
    by_cases hlt : k < l.length
    · have hlt' : (k : Int) < l.length := by omega
      have hro := Hh_2.out.ext HX.out
      rw [← HO.out] at hro
      obtain ⟨bx, ox, rfl, z0, hxl⟩ := u32_at (HL.out.ext (HX2.out.trans HX.out)) k hlt
      obtain ⟨bh, oo, rfl, y0, hyl⟩ := u32_at hro k (by have := HO.out; omega)
      have lbx : bx < wr.heap.size := World.block_lt_of_cell? _ _ z0
      have lbh : bh < wr.heap.size := World.block_lt_of_cell? _ _ y0
      have hst := HAT.out.1 k hlt
      obtain ⟨x, hx⟩ : ∃ x, l.getD k 0 = x := ⟨_, rfl⟩
      rw [hx] at z0 hxl hst
      by_cases hz : k = 0
      · have e0 : oh.getD k 0 = x := by rw [hst, hz, List.take_zero]; show max 0 x = x; omega
        rw [e0] at y0
        have hkz : (k : Int) ≤ 0 := by omega
        have hdz : decide ((0 : Int) < (k : Int)) = false := decide_eq_false (by omega)
        have hdn : decide (0 < k) = false := decide_eq_false (by omega)
        clear hst hx hxl hyl e0 hro hz
        have KS : Hid (∀ w', Ext wr w' → w'.cell? ⟨bx, ox + k, none⟩ = some (.int .u32 x) ∧ w'.cell? ⟨bh, oo + k, none⟩ = some (.int .u32 x)) := Lib.hid (fun w' hE => ⟨hE.cell z0, hE.cell y0⟩)
        clear z0 y0
        go_upto_region 11 with fail
        refine wp_region_class (Ext wr) (by kernel_rfl) (by kernel_rfl) (Ext.refl _).drew ?_
        try simp only [List.append_eq, List.cons_append, List.nil_append]
        repeat (first
          | go_big_quiet_skip
          | (go_big_quiet_want
             first
             | (go_big_quiet_op; go_big_quiet_on)
             | (unfold Oper.quiet
                apply Exists.intro
                refine ⟨fun w' hC => ?_, ?_⟩
                · (obtain ⟨k1, k2⟩ := KS.out w' hC
                   unfold Oper.quietAt
                   go_simp
                   first
                   | exact rfl)
                go_simp
                go_big_quiet_on)))
        refine wpQuiet_nil ?_
        intro w4 hC4
        go_wp2_with fail
        go_roundw
        case rel => exact ⟨k + 1, by omega, by go_num, HX.out.trans hC4⟩
        case measure => simp [intOf]; omega
      · obtain ⟨j, hj⟩ : ∃ j, k - 1 = j := ⟨_, rfl⟩
        have hjk : (k : Int) - 1 = (j : Int) := by omega
        have hkj : k = j + 1 := by omega
        obtain ⟨_, _, he, y1, hpl⟩ := u32_at hro j (by have := HO.out; omega)
        cases he
        have hp := HAT.out.2 j (by omega)
        rw [← hkj] at hp
        obtain ⟨p, hpp⟩ : ∃ p, maxL (l.take k) = p := ⟨_, rfl⟩
        rw [hpp] at hp hst
        rw [hp] at y1
        have hj0 : (0 : Int) ≤ j := by omega
        have hjl : j < l.length := by omega
        have hk1 : (1 : Int) ≤ k := by omega
        have hjl' : (j : Int) < l.length := by omega
        have hkz : (0 : Int) < k := by omega
        have hdn : decide (0 < k) = true := decide_eq_true (by omega)
        have hx0 : (0 : Int) ≤ x := by omega
        have hp0 : (0 : Int) ≤ p := by omega
        have hsb : IntKind.i64.wrap (j : Int) = (j : Int) := IntWalk.i64_in _ (by omega)
        by_cases hxp : x ≤ p
        · have e0 : oh.getD k 0 = p := by rw [hst]; omega
          rw [e0] at y0
          have hxp' : (x : Int) ≤ p := by omega
          have hdp : decide (p < x) = false := decide_eq_false (by omega)
          clear hst hx hxl hyl e0 hro hp hpp hpl hj hkj hz
          have KS : Hid (∀ w', Ext wr w' → w'.cell? ⟨bx, ox + k, none⟩ = some (.int .u32 x) ∧ w'.cell? ⟨bh, oo + k, none⟩ = some (.int .u32 p) ∧ w'.cell? ⟨bh, oo + j, none⟩ = some (.int .u32 p)) := Lib.hid (fun w' hE => ⟨hE.cell z0, hE.cell y0, hE.cell y1⟩)
          clear z0 y0 y1
          go_upto_region 11 with fail
          refine wp_region_class (Ext wr) (by kernel_rfl) (by kernel_rfl) (Ext.refl _).drew ?_
          try simp only [List.append_eq, List.cons_append, List.nil_append]
          repeat (first
            | go_big_quiet_skip
            | (go_big_quiet_want
               first
               | (go_big_quiet_op; go_big_quiet_on)
               | (unfold Oper.quiet
                  apply Exists.intro
                  refine ⟨fun w' hC => ?_, ?_⟩
                  · (obtain ⟨k1, k2, k3⟩ := KS.out w' hC
                     unfold Oper.quietAt
                     go_simp
                     first
                     | exact rfl)
                  go_simp
                  go_big_quiet_on)))
          refine wpQuiet_nil ?_
          intro w4 hC4
          clear hsb hjk
          go_wp2_with fail
          go_roundw
          case rel => exact ⟨k + 1, by omega, by go_num, HX.out.trans hC4⟩
          case measure => simp [intOf]; omega
        · have e0 : oh.getD k 0 = x := by rw [hst]; omega
          rw [e0] at y0
          have hxp' : (p : Int) < x := by omega
          have hne : ((x : Int) != (p : Int)) = true := by simp; omega
          have hnf : (x != p) = true := by simp; omega
          have hdp : decide (x < p) = false := decide_eq_false (by omega)
          clear hst hx hxl hyl e0 hro hp hpp hpl hj hkj hz
          have KS : Hid (∀ w', Ext wr w' → w'.cell? ⟨bx, ox + k, none⟩ = some (.int .u32 x) ∧ w'.cell? ⟨bh, oo + k, none⟩ = some (.int .u32 x) ∧ w'.cell? ⟨bh, oo + j, none⟩ = some (.int .u32 p)) := Lib.hid (fun w' hE => ⟨hE.cell z0, hE.cell y0, hE.cell y1⟩)
          clear z0 y0 y1
          go_upto_region 11 with fail
          refine wp_region_class (Ext wr) (by kernel_rfl) (by kernel_rfl) (Ext.refl _).drew ?_
          try simp only [List.append_eq, List.cons_append, List.nil_append]
          repeat (first
            | go_big_quiet_skip
            | (go_big_quiet_want
               first
               | (go_big_quiet_op; go_big_quiet_on)
               | (unfold Oper.quiet
                  apply Exists.intro
                  refine ⟨fun w' hC => ?_, ?_⟩
                  · (obtain ⟨k1, k2, k3⟩ := KS.out w' hC
                     unfold Oper.quietAt
                     go_simp
                     first
                     | exact rfl)
                  go_simp
                  go_big_quiet_on)))
          refine wpQuiet_nil ?_
          intro w4 hC4
          clear hsb hjk
          go_wp2_with fail
          go_roundw
          case rel => exact ⟨k + 1, by omega, by go_num, HX.out.trans hC4⟩
          case measure => simp [intOf]; omega
    · obtain rfl : k = l.length := by omega
      have HX3 := Lib.hid (HX2.out.trans HX.out)
      have Hh_3 := Lib.hid (Hh_2.out.ext HX.out)
      have HNI := HNL.out
      have hnc : n ≤ lc := by have := HLC.out; omega
      have hnc' : (n : Int) ≤ lc := by omega
      have hhc : n ≤ l2 := by have := HL2.out; omega
      have hhc' : (n : Int) ≤ l2 := by omega
      go_wp2_with fail
      have hh := shigh_any (l.take n) L lc P 1 1 none 0 [] wr (by rw [HLT.out.1, zs_take]; exact (HL.out.ext HX3.out).take n lc (by rw [zs_len]; exact HNL.out) (by have := HLC.out; have := HNL.out; omega)) (Rd.nil _ _ _) (by have := HLT.out.1; omega) (by have := HPQ.out; unfold in64; omega) (by decide) (by decide)
      rw [HE.out.2, HLT.out.1] at hh
      refine hh.mono ?_
      clear hh
      rintro ed w4 ⟨L4, l4, rfl, hO4, hE4⟩
      simp only at hO4 ⊢
      rw [HLT.out.2] at hO4 ⊢
      have HX4 := Lib.hid (HX3.out.trans hE4)
      have Hh_4 := Lib.hid (Hh_3.out.ext hE4)
      have Hg_4 := Lib.hid hO4.rd
      clear hE4 hO4
      have HW : Hid (∀ w', Ext w4 w' → Calls Try.prog 12 #[.slice L4 n l4, .slice L2 n l2] w' fun ed w'' => ed = .returned (.bool true) ∧ Ext w4 w'') := Lib.hid fun w' hE => (rwords_any _ _ (zs (oh.take n)) (zs (oh.take n)) w' (Hg_4.out.ext hE) (by rw [zs_take]; exact (Hh_4.out.ext hE).take n l2 (by rw [zs_len]; have := HO.out; have := HNL.out; omega) (by have := HL2.out; have := HNL.out; omega))).mono fun ed w'' hh => ⟨by rw [hh.1, sameB_refl], hE.trans hh.2⟩
      by_cases hz : 0 < l.length
      · have hro := Hh_4.out
        rw [← HO.out] at hro
        obtain ⟨bx, ox, rfl, z0, hxl⟩ := u32_at (HL.out.ext HX4.out) 0 hz
        obtain ⟨bh, oo, rfl, y0, hyl⟩ := u32_at hro 0 (by have := HO.out; omega)
        have hst := HAT.out.1 0 hz
        rw [List.take_zero] at hst
        obtain ⟨x, hx⟩ : ∃ x, l.getD 0 0 = x := ⟨_, rfl⟩
        rw [hx] at z0 hst
        rw [hst, show max (maxL []) x = x by show max 0 x = x; omega] at y0
        rw [Nat.add_zero] at z0 y0
        have KS : Hid (∀ w', Ext w4 w' → w'.cell? ⟨bx, ox, none⟩ = some (.int .u32 x) ∧ w'.cell? ⟨bh, oo, none⟩ = some (.int .u32 x)) := Lib.hid (fun w' hE => ⟨hE.cell z0, hE.cell y0⟩)
        have hzi : (0 : Int) < l.length := by omega
        have hle : ((l.length : Int) == 0) = false := by simp; intro e; rw [e] at hz; simp at hz
        have hlf : (l.length == 0) = false := by simp; intro e; rw [e] at hz; simp at hz
        clear hst hx hxl hyl hro z0 y0
        go_wp2_with fail
        refine wp_region_class (Ext w4) (by kernel_rfl) (by kernel_rfl) (Ext.refl _).drew ?_
        try simp only [List.append_eq, List.cons_append, List.nil_append]
        repeat (first
          | go_big_quiet_skip
          | (go_big_quiet_want
             first
             | (go_big_quiet_op; go_big_quiet_on)
             | (unfold Oper.quiet
                apply Exists.intro
                refine ⟨fun w' hC => ?_, ?_⟩
                · (obtain ⟨k1, k2⟩ := KS.out w' hC
                   unfold Oper.quietAt
                   go_simp
                   first
                   | exact rfl
                   | (with_reducible exact HW.out w' hC))
                go_simp
                go_big_quiet_on)
             | (go_big_quiet_op
                apply Exists.intro
                refine ⟨fun w' hC => ?_, ?_⟩
                · exact HW.out w' hC
                go_big_quiet_on)))
        refine wpQuiet_nil ?_
        intro w5 hC5
        go_wp2_with fail
        go_ret
        exact ⟨ret_bool (by first | rfl | simp), HX4.out.trans hC5⟩
      · have KS : Hid (∀ w', Ext w4 w' → True ∧ True) := Lib.hid (fun w' hE => ⟨trivial, trivial⟩)
        have hnil : l = [] := List.eq_nil_of_length_eq_zero (by omega)
        have hle : ((l.length : Int) == 0) = true := by rw [hnil]; rfl
        have hlf : (l.length == 0) = true := by rw [hnil]; rfl
        clear hnil
        go_wp2_with fail
        refine wp_region_class (Ext w4) (by kernel_rfl) (by kernel_rfl) (Ext.refl _).drew ?_
        try simp only [List.append_eq, List.cons_append, List.nil_append]
        repeat (first
          | go_big_quiet_skip
          | (go_big_quiet_want
             first
             | (go_big_quiet_op; go_big_quiet_on)
             | (unfold Oper.quiet
                apply Exists.intro
                refine ⟨fun w' hC => ?_, ?_⟩
                · (obtain ⟨k1, k2⟩ := KS.out w' hC
                   unfold Oper.quietAt
                   go_simp
                   first
                   | exact rfl
                   | (with_reducible exact HW.out w' hC))
                go_simp
                go_big_quiet_on)
             | (go_big_quiet_op
                apply Exists.intro
                refine ⟨fun w' hC => ?_, ?_⟩
                · exact HW.out w' hC
                go_big_quiet_on)))
        refine wpQuiet_nil ?_
        intro w5 hC5
        go_wp2_with fail
        go_ret
        exact ⟨ret_bool (by first | rfl | simp), HX4.out.trans hC5⟩
end Go.Proofs.Ythblpcmmeajhkaa
