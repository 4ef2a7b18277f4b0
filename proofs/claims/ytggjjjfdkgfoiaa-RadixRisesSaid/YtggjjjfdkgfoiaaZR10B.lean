/- RadixRises: the law returns true. Written by wip/mk_r10.py. -/
import Derived.Test.YtggjjjfdkgfoiaaJ6
import Derived.Test.YtggjjjfdkgfoiaaZS8Q
import Derived.Deep.QuietTactic
import Derived.BigQuiet
set_option linter.unusedVariables false
set_option linter.unusedSimpArgs false
set_option linter.unnecessarySimpa false
namespace Go.Proofs.Ytggjjjfdkgfoiaa
open Go.BigFrame
open Go.RowKit Go.Proofs.Ytggjjjfdkgfoiaa.Plain

theorem Plain.onceB_perm {os : List Nat} {n : Nat} (h : os.Perm (List.range n)) : onceB (zs os) n = true := (onceB_iff _ _).2 ⟨os, rfl, h⟩
theorem Plain.sortP_good (l : List Nat) (b blk g m : Int) (picks : List (Int × Int)) (h1 : 1 ≤ b) (h2 : b ≤ 16) (h3 : 1 ≤ blk) (h4 : blk ≤ 100) (hb : planB g m picks.length = true) : ∃ st, sortP l b blk g m picks = (sortL l, st, 0) := by
  unfold sortP
  obtain ⟨B, rfl⟩ : ∃ B : Nat, b = B := ⟨b.toNat, by omega⟩
  have h5 := (passesP_enough B (by omega) (by omega)).2.2.1
  rw [if_neg (by omega), if_neg (by rw [stepsP_good l.length blk g m picks h3 h4 hb]; decide)]
  exact ⟨_, rfl⟩
theorem Plain.sortL_len (l : List Nat) : (sortL l).length = l.length := by rw [(sortL_good l).1.length_eq, List.length_range]
theorem Plain.sortL_lt (l : List Nat) (i : Nat) (h : i < l.length) : (sortL l).getD i 0 < l.length := by
  have h1 : i < (sortL l).length := by rw [sortL_len]; exact h
  have h9 : (sortL l).getD i 0 ∈ sortL l := by rw [List.getD_eq_getElem?_getD, List.getElem?_eq_getElem h1]; exact List.getElem_mem h1
  exact List.mem_range.1 (((sortL_good l).1.mem_iff).1 h9)
theorem Plain.sortL_rises (l : List Nat) (i : Nat) (h : i + 1 < l.length) : l.getD ((sortL l).getD i 0) 0 < l.getD ((sortL l).getD (i + 1) 0) 0 ∨ l.getD ((sortL l).getD i 0) 0 = l.getD ((sortL l).getD (i + 1) 0) 0 ∧ (sortL l).getD i 0 < (sortL l).getD (i + 1) 0 := by
  have hp := (sortL_good l).2
  rw [List.pairwise_iff_getElem] at hp
  have hl := sortL_len l
  have := hp i (i + 1) (by omega) (by omega) (by omega)
  have e1 : (sortL l).getD i 0 = (sortL l)[i]'(by omega) := by rw [List.getD_eq_getElem?_getD, List.getElem?_eq_getElem (by omega)]; rfl
  have e2 : (sortL l).getD (i + 1) 0 = (sortL l)[i + 1]'(by omega) := by rw [List.getD_eq_getElem?_getD, List.getElem?_eq_getElem (by omega)]; rfl
  rw [e1, e2]
  exact this
theorem Plain.passesL_perm (l : List Nat) (B : Nat) (h1 : 1 ≤ B) (h2 : B ≤ 16) (p : Nat) (hp : p ≤ passesP B) : (passesL l B p).Perm (List.range l.length) := (passesL_good l B h1 h2 p hp).1
theorem Plain.passR_next (l : List Nat) (B : Nat) (h1 : 1 ≤ B) (h2 : B ≤ 16) (p : Nat) (hp : p < passesP B) : passR l (zs (passesL l B p)) (p : Nat) B = (passesL l B (p + 1), true) := by
  unfold passR
  rw [if_pos ⟨onceB_perm (passesL_perm l B h1 h2 p (by omega)), by omega, by omega⟩, orderN_zs]
  rfl
set_option maxHeartbeats 3200000 in
set_option maxRecDepth 100000 in
theorem radixrises_any (l : List Nat) (L : Option Addr) (lc : Nat) (a b : Int) (W : World) (hL : Rd kU32 W (.slice L l.length lc) (zs l)) (ha : 0 ≤ a ∧ a ≤ 255) (hb : 0 ≤ b ∧ b ≤ 255) :
    Calls Try.prog 5 #[.slice L l.length lc, .agg #[.int .u8 a, .int .u8 b]] W fun ed w' => ed = .returned (.bool true) ∧ Ext W w' := by
  have HL := Lib.hid hL
  have hk9 : ∀ i, l.getD i 0 < 4294967296 := fun i => by
    by_cases h : i < l.length
    · exact (u32_at hL i h).choose_spec.choose_spec.2.2
    · rw [List.getD_eq_getElem?_getD, List.getElem?_eq_none (by omega)]; decide
  have HK9 := Lib.hid hk9
  obtain ⟨a0, a1⟩ := ha
  obtain ⟨b0, b1⟩ := hb
  obtain ⟨A1, hA1⟩ : ∃ A : Nat, a.tmod 16 = (A : Int) := ⟨(a % 16).toNat, by rw [Int.tmod_eq_emod_of_nonneg a0]; omega⟩
  obtain ⟨B1, hB1⟩ : ∃ A : Nat, b.tmod 100 = (A : Int) := ⟨(b % 100).toNat, by rw [Int.tmod_eq_emod_of_nonneg b0]; omega⟩
  have hA2 : A1 < 16 := by rw [Int.tmod_eq_emod_of_nonneg a0] at hA1; omega
  have hB2 : B1 < 100 := by rw [Int.tmod_eq_emod_of_nonneg b0] at hB1; omega
  obtain ⟨P, hP⟩ : ∃ P : Nat, (1 : Int) + A1 = P := ⟨1 + A1, by omega⟩
  obtain ⟨Q, hQ⟩ : ∃ Q : Nat, (1 : Int) + B1 = Q := ⟨1 + B1, by omega⟩
  have HPQ : Hid ((1 ≤ P ∧ P ≤ 16) ∧ (1 ≤ Q ∧ Q ≤ 100)) := Lib.hid (by omega)
  have hP9 : IntKind.i64.wrap (P : Int) = P := IntWalk.i64_in _ (by omega)
  have hQ9 : IntKind.i64.wrap (Q : Int) = Q := IntWalk.i64_in _ (by omega)
  have hwa : IntKind.i64.wrap a = a := IntWalk.i64_in _ (by omega)
  have hwb : IntKind.i64.wrap b = b := IntWalk.i64_in _ (by omega)
  clear hL hk9 hA2 hB2
  go_enter Try.func5, Try.ntmps5
  go_wp2_with fail
  refine (ralive_any _).mono ?_
  rintro ed w1 ⟨rfl, hE1⟩
  have q0 : w1.cell? ⟨W.heap.size, 0, none⟩ = some (.int .u8 a) := Ext.cell hE1 (by go_simp)
  have q1 : w1.cell? ⟨W.heap.size, 1, none⟩ = some (.int .u8 b) := Ext.cell hE1 (by go_simp)
  have qf : ∀ o, w1.frozen? ⟨W.heap.size, o, none⟩ = false := fun o => (Below.frozen hE1 (p := ⟨W.heap.size, o, none⟩) (by first | omega | (simp; omega) | simp)).trans (by go_simp)
  have HX1 := Lib.hid (((Ext.refl W).alloc (.cells #[.int .u8 a, .int .u8 b] 44)).trans hE1)
  have lz1 := hE1.size
  simp at lz1
  have n1 : W.heap.size < w1.heap.size := by omega
  clear hE1
  by_cases h1 : (200 : Int) < l.length
  · go_wp2_with fail
    go_ret
    exact ⟨rfl, HX1.out⟩
  have h1' : (l.length : Int) ≤ 200 := by omega
  clear h1
  go_wp2_with fail
  have KS : Hid (∀ w', Ext w1 w' → w'.cell? ⟨W.heap.size, 0, none⟩ = some (.int .u8 a) ∧ w'.cell? ⟨W.heap.size, 1, none⟩ = some (.int .u8 b)) := Lib.hid (fun w' hE => ⟨hE.cell q0, hE.cell q1⟩)
  clear q0 q1
  refine wp_region_class (Ext w1) (by kernel_rfl) (by kernel_rfl) (Ext.refl _).drew ?_
  try simp only [List.append_eq, List.cons_append, List.nil_append]
  repeat (first
    | go_big_quiet_skip
    | (go_big_quiet_want
       first
       | (go_big_quiet_op; go_big_quiet_on)
       | (unfold Oper.quiet
          apply Exists.intro
          refine ⟨fun w' hC => ?_, ?_⟩
          · (obtain ⟨k1, k2⟩ := KS.out w' hC
             unfold Oper.quietAt
             go_simp
             first
             | exact rfl)
          go_simp
          go_big_quiet_on)))
  refine wpQuiet_nil ?_
  intro w2 hC2
  have HX2 := Lib.hid (HX1.out.trans hC2)
  clear hC2 KS hA1 hB1 hP hQ hP9 hQ9 a0 a1 b0 b1 HX1 n1 lz1 hwa hwb
  obtain ⟨st, e1⟩ := sortP_good l P Q 3 2 [] (by have := HPQ.out; omega) (by have := HPQ.out; omega) (by have := HPQ.out; omega) (by have := HPQ.out; omega) (by decide)
  have hsl := sortL_len l
  have hon := onceB_perm (sortL_good l).1
  have hsort := passes_sort l HK9.out P HPQ.out.1.1 HPQ.out.1.2
  have hrise := sortL_rises l
  have hslt := sortL_lt l
  obtain ⟨os, hos⟩ : ∃ x, sortL l = x := ⟨_, rfl⟩
  rw [hos] at e1 hsl hon hsort hrise hslt
  have HE := Lib.hid e1
  have HOL := Lib.hid hsl
  have HON := Lib.hid hon
  have HSORT := Lib.hid hsort
  have HRI := Lib.hid (And.intro hrise hslt)
  obtain ⟨N, hN⟩ : ∃ N, passesP P = N := ⟨_, rfl⟩
  have HN := Lib.hid hN
  have hN9 : (N : Int) ≤ 32 := by rw [← hN]; have := (passesP_enough P HPQ.out.1.1 HPQ.out.1.2).2.2.2; omega
  have HPP : Hid (in64 (P : Int) ∧ in64 (Q : Int)) := Lib.hid ⟨in64_nat P (by have := HPQ.out; omega), in64_nat Q (by have := HPQ.out; omega)⟩
  clear e1 hsl hon hsort hrise hslt hos hN
  go_wp2_with fail
  refine (psort_any l L lc P Q 3 2 none 0 [] _ (HL.out.ext HX2.out) (Rd.nil _ _ _) (by omega) HPP.out.1 HPP.out.2 (by decide) (by decide)).mono ?_
  rw [HE.out]
  rintro ed w3 ⟨Lo, lo, rfl, hOo, hE3⟩
  simp only at hOo ⊢
  rw [HOL.out] at hOo ⊢
  have HX3 := Lib.hid (HX2.out.trans hE3)
  have Ho_3 : Hid (Rd kInt w3 (.slice Lo l.length lo) (zs os)) := Lib.hid (hOo.rd)
  clear hE3 HX2
  go_wp2_with fail
  have hh := ronce_full l.length (zs os) Lo lo _ (by rw [zs_len, HOL.out]; exact Ho_3.out) (by omega)
  rw [zs_len, HOL.out] at hh
  rw [HON.out] at hh
  refine hh.mono ?_
  clear hh
  rintro ed w4 ⟨rfl, hE4⟩
  have HX4 := Lib.hid (HX3.out.trans hE4)
  have Ho_4 := Lib.hid (Ho_3.out.ext hE4)
  clear hE4 HX3 Ho_3
  go_wp2_with fail
  go_loopw [10] (fun i wr => ∃ k : Nat, 1 ≤ k ∧ (k ≤ l.length ∨ k = 1) ∧ i = .int .i64 k ∧ Ext w4 wr) (fun i _ => l.length - (intOf i).toNat)
  case atStart => exact ⟨1, Nat.le_refl _, .inr rfl, rfl, Ext.refl _⟩
  case round =>
    obtain ⟨k, hk1, hk2, rfl, hX⟩ := hrel
    have HX := Lib.hid hX
    have hk0 : (1 : Int) ≤ k := by omega
    clear hX
    by_cases hlt : k < l.length
    · have hlt' : (k : Int) < l.length := by omega
      obtain ⟨j, hj⟩ : ∃ j, j + 1 = k := ⟨k - 1, by omega⟩
      have hr := HRI.out.1 j (by omega)
      have hu1 := HRI.out.2 j (by omega)
      have hu2 := HRI.out.2 k (by omega)
      rw [hj] at hr
      obtain ⟨bo, oo, rfl, hco⟩ := (ints_of_rd (Ho_4.out.ext HX.out)).cells (by rw [zs_len, HOL.out]; omega)
      have y0 := hco j (by rw [zs_len, HOL.out]; omega)
      have y1 := hco k (by rw [zs_len, HOL.out]; omega)
      rw [zs_getD] at y0 y1
      obtain ⟨u, hu⟩ : ∃ u, os.getD j 0 = u := ⟨_, rfl⟩
      obtain ⟨v, hv⟩ : ∃ u, os.getD k 0 = u := ⟨_, rfl⟩
      rw [hu] at y0 hr hu1
      rw [hv] at y1 hr hu2
      obtain ⟨bx, ox, rfl, z0, hxl⟩ := u32_at (HL.out.ext (HX4.out.trans HX.out)) u hu1
      obtain ⟨_, _, e9, z1, hyl⟩ := u32_at (HL.out.ext (HX4.out.trans HX.out)) v hu2
      cases e9
      obtain ⟨x, hx⟩ : ∃ x, l.getD u 0 = x := ⟨_, rfl⟩
      obtain ⟨y, hy⟩ : ∃ x, l.getD v 0 = x := ⟨_, rfl⟩
      rw [hx] at z0 hxl hr
      rw [hy] at z1 hyl hr
      have hi9 : IntKind.i64.wrap ((k : Int) - 1) = (j : Int) := by rw [IntWalk.i64_in _ (by omega)]; omega
      have hi8 : (k : Int) - 1 = (j : Int) := by omega
      have hi7 : IntKind.i64.wrap (j : Int) = (j : Int) := IntWalk.i64_in _ (by omega)
      have hj0 : (0 : Int) ≤ j := by omega
      have hjl : (j : Int) < l.length := by omega
      have hu10 : (0 : Int) ≤ u := by omega
      have hu11 : (u : Int) < l.length := by omega
      have hu20 : (0 : Int) ≤ v := by omega
      have hu21 : (v : Int) < l.length := by omega
      have KS : Hid (∀ w', Ext wr w' → w'.cell? ⟨bo, oo + j, none⟩ = some (.int .i64 u) ∧ w'.cell? ⟨bo, oo + k, none⟩ = some (.int .i64 v) ∧ w'.cell? ⟨bx, ox + u, none⟩ = some (.int .u32 x) ∧ w'.cell? ⟨bx, ox + v, none⟩ = some (.int .u32 y)) := Lib.hid (fun w' hE => ⟨hE.cell y0, hE.cell y1, hE.cell z0, hE.cell z1⟩)
      have HR := Lib.hid hr
      clear hco y0 y1 z0 z1 hu hv hx hy hxl hyl hu1 hu2 hj hr hk1 hk2
      go_wp2_with fail
      refine wp_region_class (Ext wr) (by kernel_rfl) (by kernel_rfl) (Ext.refl _).drew ?_
      try simp only [List.append_eq, List.cons_append, List.nil_append]
      repeat (first
        | go_big_quiet_skip
        | (go_big_quiet_want
           first
           | (go_big_quiet_op; go_big_quiet_on)
           | (unfold Oper.quiet
              apply Exists.intro
              refine ⟨fun w' hC => ?_, ?_⟩
              · (obtain ⟨k1, k2, k3, k4⟩ := KS.out w' hC
                 unfold Oper.quietAt
                 go_simp
                 first
                 | exact rfl)
              go_simp
              go_big_quiet_on)))
      refine wpQuiet_nil ?_
      intro w8 hC8
      have KS8 : Hid (∀ w', Ext w8 w' → w'.cell? ⟨bo, oo + j, none⟩ = some (.int .i64 u) ∧ w'.cell? ⟨bo, oo + k, none⟩ = some (.int .i64 v)) := Lib.hid (fun w' hE => ⟨(KS.out w' (hC8.trans hE)).1, (KS.out w' (hC8.trans hE)).2.1⟩)
      have HX8 := Lib.hid (HX.out.trans hC8)
      clear hC8 KS
      rcases HR.out with h | ⟨rfl, h⟩
      · have hd1 : decide (y < x) = false := decide_eq_false (by omega)
        have hd2 : decide ((y : Int) < (x : Int)) = false := decide_eq_false (by omega)
        have hd3 : (x == y) = false := by simp; omega
        have hd4 : ((x : Int) == (y : Int)) = false := by simp; omega
        clear hj0 hjl
        go_wp2_with fail
        refine wp_region_class (Ext w8) (by kernel_rfl) (by kernel_rfl) (Ext.refl _).drew ?_
        try simp only [List.append_eq, List.cons_append, List.nil_append]
        repeat (first
          | go_big_quiet_skip
          | (go_big_quiet_want
             first
             | (go_big_quiet_op; go_big_quiet_on)
             | (unfold Oper.quiet
                apply Exists.intro
                refine ⟨fun w' hC => ?_, ?_⟩
                · (obtain ⟨k1, k2⟩ := KS8.out w' hC
                   unfold Oper.quietAt
                   go_simp
                   first
                   | exact rfl)
                go_simp
                go_big_quiet_on)))
        refine wpQuiet_nil ?_
        intro w9 hC9
        go_wp2_with fail
        go_roundw
        case rel => exact ⟨k + 1, by omega, by omega, by go_num, HX8.out.trans hC9⟩
        case measure => simp [intOf]; omega
      · have hd1 : decide (x < x) = false := decide_eq_false (by omega)
        have hd2 : decide ((x : Int) < (x : Int)) = false := decide_eq_false (by omega)
        have hd3 : (x == x) = true := by simp
        have hd4 : ((x : Int) == (x : Int)) = true := by simp
        have hd5 : decide (v ≤ u) = false := decide_eq_false (by omega)
        have hd6 : decide ((v : Int) ≤ (u : Int)) = false := decide_eq_false (by omega)
        go_wp2_with fail
        refine wp_region_class (Ext w8) (by kernel_rfl) (by kernel_rfl) (Ext.refl _).drew ?_
        try simp only [List.append_eq, List.cons_append, List.nil_append]
        repeat (first
          | go_big_quiet_skip
          | (go_big_quiet_want
             first
             | (go_big_quiet_op; go_big_quiet_on)
             | (unfold Oper.quiet
                apply Exists.intro
                refine ⟨fun w' hC => ?_, ?_⟩
                · (obtain ⟨k1, k2⟩ := KS8.out w' hC
                   unfold Oper.quietAt
                   go_simp
                   first
                   | exact rfl)
                go_simp
                go_big_quiet_on)))
        refine wpQuiet_nil ?_
        intro w9 hC9
        go_wp2_with fail
        go_roundw
        case rel => exact ⟨k + 1, by omega, by omega, by go_num, HX8.out.trans hC9⟩
        case measure => simp [intOf]; omega
    · have hge : (l.length : Int) ≤ k := by omega
      have hdk : decide (k < l.length) = false := decide_eq_false hlt
      have hdi : decide ((k : Int) < (l.length : Int)) = false := decide_eq_false (by omega)
      have HX5 := Lib.hid (HX4.out.trans HX.out)
      have HO5 := Lib.hid (Ho_4.out.ext HX.out)
      clear HX hk1 hk2 hlt
      rename World => wa
      go_wp2_with fail
      go_loopw [13, 14] (fun v i wr => ∃ k : Nat, k ≤ l.length ∧ i = .int .i64 k ∧ Ow kInt wa.heap.size wr v (zs (List.range k)) ∧ Ext wa wr) (fun _ i _ => l.length - (intOf i).toNat)
      case atStart => exact ⟨0, Nat.zero_le _, rfl, Ow.nil _ _, Ext.refl _⟩
      case round =>
        obtain ⟨q, hq, rfl, hO, hX⟩ := hrel
        have HO := Lib.hid hO
        have HX := Lib.hid hX
        have hq0 : (0 : Int) ≤ q := by omega
        clear hO hX
        by_cases hql : q < l.length
        · have hql' : (q : Int) < l.length := by omega
          have HYY : Hid (∀ w6 : World, Rd kInt (w6.alloc (.cells #[.int .i64 q] 3)) (.slice (some ⟨w6.heap.size, 0, none⟩) 1 1) [(q : Int)]) := Lib.hid fun w6 => int_list w6 [(q : Int)] _ 1 _ rfl rfl rfl (by decide) (by intro x hx; simp only [List.mem_singleton] at hx; subst hx; exact in64_nat q (by omega))
          have HLL : Hid ((zs (List.range q)).length + [(q : Int)].length ≤ 1048576) := Lib.hid (by rw [zs_len, List.length_range, List.length_singleton]; omega)
          have hz6 := HX.out.size
          go_wp2_with (at_builtin; refine kInt.wpList_app (by rfl) (.tmp 98) (.tmp 100) (by rfl) (by rfl) wa.heap.size _ (zs (List.range q)) (by rfl) (HO.out.ext ((Ext.refl _).alloc _)) _ [(q : Int)] (by rfl) (HYY.out _) HLL.out (by simp; omega) ?_; intro v' w8 hown8 hgrow8 hat8)
          have H8 := Lib.hid (And.intro hown8 (And.intro hgrow8 hat8))
          clear hown8 hgrow8 hat8
          go_wp2_with fail
          go_roundw
          case rel =>
            obtain ⟨hown8, hgrow8, hat8⟩ := H8.out
            exact ⟨q + 1, by omega, by go_num, by rw [List.range_succ, zs_app]; exact hown8, Ext.grown (HX.out.alloc _) hgrow8 (fun q hq => (HO.out.lt q hq).1)⟩
          case measure => simp [intOf]; omega
        · obtain rfl : q = l.length := by omega
          have HX6 := Lib.hid (HX5.out.trans HX.out)
          have HO6 := Lib.hid (HO5.out.ext HX.out)
          obtain ⟨R, rc, hv, hrc⟩ := HO.out.slice
          rw [zs_len, List.length_range] at hv hrc
          subst hv
          have HQ6 := Lib.hid HO.out.rd
          clear HO HX hrc
          rename World => wb
          go_wp2_with fail
          go_loopw [13, 15, 16, 17] (fun v i _ _ wr => ∃ (p : Nat) (R : Option Addr) (rc : Nat), p ≤ N ∧ i = .int .i64 p ∧ v = .slice R l.length rc ∧ (p = 0 ∨ (l.length : Int) ≤ 40) ∧ Rd kInt wr (.slice R l.length rc) (zs (passesL l P p)) ∧ Ext wb wr) (fun _ i _ _ _ => N - (intOf i).toNat)
          case atStart => exact ⟨0, R, rc, Nat.zero_le _, rfl, rfl, .inl rfl, HQ6.out, Ext.refl _⟩
          case round =>
            obtain ⟨p, R, rc, hpN, rfl, rfl, hor, hR, hX⟩ := hrel
            have HX := Lib.hid hX
            have HR := Lib.hid hR
            have HOR := Lib.hid hor
            have hp0 : (0 : Int) ≤ p := by omega
            clear hX hR hor
            go_wp2_with fail
            refine (ppasses_any P _ HPP.out.1).mono ?_
            rw [HN.out]
            rintro ed w5 ⟨rfl, hE5⟩
            have HE5 := Lib.hid hE5
            clear hE5
            by_cases hlp : p < N
            · have hlp' : (p : Int) < N := by omega
              by_cases h40 : (l.length : Int) ≤ 40
              · have H40 := Lib.hid h40
                have hpr := passR_next l P HPQ.out.1.1 HPQ.out.1.2 p (by rw [HN.out]; exact hlp)
                have hpl := (passesL_perm l P HPQ.out.1.1 HPQ.out.1.2 p (by rw [HN.out]; omega)).length_eq
                have hpl2 := (passesL_perm l P HPQ.out.1.1 HPQ.out.1.2 (p + 1) (by rw [HN.out]; omega)).length_eq
                rw [List.length_range] at hpl hpl2
                obtain ⟨ql, hq1⟩ : ∃ x, passesL l P p = x := ⟨_, rfl⟩
                obtain ⟨qm, hq2⟩ : ∃ x, passesL l P (p + 1) = x := ⟨_, rfl⟩
                rw [hq1] at hpr hpl HR
                rw [hq2] at hpr hpl2
                have HQ2 := Lib.hid hq2
                have HPR := Lib.hid (And.intro hpr (And.intro hpl hpl2))
                clear hq1 hq2 hpr hpl hpl2
                go_wp2_with fail
                have hh := ppass10_any l (zs ql) L R lc rc p P w5 (HL.out.ext (((HX6.out.trans HX.out)).trans HE5.out)) (by rw [zs_len, HPR.out.2.1]; exact HR.out.ext HE5.out) (by omega) (by rw [zs_len, HPR.out.2.1]; omega) (in64_nat p (by omega)) HPP.out.1
                rw [zs_len, HPR.out.2.1, HPR.out.1] at hh
                refine hh.mono ?_
                clear hh
                rintro ed w8 ⟨R2, rc2, rfl, hO2, hE8⟩
                simp only at hO2 ⊢
                rw [HPR.out.2.2] at hO2 ⊢
                have HO2 := Lib.hid hO2.rd
                have HX8 := Lib.hid ((HX.out.trans HE5.out).trans hE8)
                clear hO2 hE8
                go_wp2_with fail
                go_roundw
                case rel => exact ⟨p + 1, R2, rc2, by omega, by go_num, rfl, .inr H40.out, by rw [HQ2.out]; exact HO2.out, HX8.out⟩
                case measure => simp [intOf]; omega
              · have h41 : (40 : Int) < l.length := by omega
                have HXX := Lib.hid ((HX6.out.trans HX.out).trans HE5.out)
                go_wp2_with fail
                go_ret
                exact ⟨rfl, HXX.out⟩
            · obtain rfl : p = N := by omega
              have h40 : (l.length : Int) ≤ 40 := by
                rcases HOR.out with h | h
                · have := (passesP_enough P HPQ.out.1.1 HPQ.out.1.2).2.2.1; rw [HN.out] at this; omega
                · exact h
              have hso : passesL l P p = os := by rw [← HN.out]; exact HSORT.out
              rw [hso] at HR
              have HXX := Lib.hid ((HX6.out.trans HX.out).trans HE5.out)
              have HR5 := Lib.hid (HR.out.ext HE5.out)
              have HO8 := Lib.hid (HO6.out.ext (HX.out.trans HE5.out))
              clear hso HR HX HE5
              go_wp2_with fail
              refine (ints_e _ _ _ _ _ HR5.out HO8.out).mono ?_
              rintro ed w8 ⟨rfl, hE8⟩
              rw [sameB_refl]
              have HX9 := Lib.hid (HXX.out.trans hE8)
              clear hE8
              go_wp2_with fail
              go_ret
              exact ⟨rfl, HX9.out⟩
end Go.Proofs.Ytggjjjfdkgfoiaa
