/- SpliceJoins: the law returns true. Written by wip/mk_t15law.py. -/
import Derived.Test.YtllpfegnpakadaaJ6
set_option linter.unusedVariables false
set_option linter.unusedSimpArgs false
set_option linter.unnecessarySimpa false
namespace Go.Proofs.Ytllpfegnpakadaa
open Go.BigFrame
open Go.RowKit Go.Proofs.Ytllpfegnpakadaa.Plain

set_option maxHeartbeats 12800000 in
set_option maxRecDepth 100000 in
theorem splicejoins_any (a b : Tw) (A B N A' B' N' : Option Addr) (c d e c' d' e' : Nat) (k1 k2 : Int) (W : World) (hT : TwR W a A B N c d e) (hU : TwR W b A' B' N' c' d' e') (hk1 : 0 ≤ k1 ∧ k1 ≤ 255) (hk2 : 0 ≤ k2 ∧ k2 ≤ 255) :
    Calls Try.prog 8 #[towV A a.tokens.length c B a.heights.length d N a.next.length e, towV A' b.tokens.length c' B' b.heights.length d' N' b.next.length e', .agg #[.int .u8 k1, .int .u8 k2]] W fun ed w' => ed = .returned (.bool true) ∧ Ext W w' := by
  have HT := Lib.hid hT
  have HU := Lib.hid hU
  clear hT hU
  obtain ⟨a1, rfl⟩ : ∃ a : Nat, k1 = a := ⟨k1.toNat, by omega⟩
  obtain ⟨a2, rfl⟩ : ∃ a : Nat, k2 = a := ⟨k2.toNat, by omega⟩
  have HA8 : Hid (a1 ≤ 255 ∧ a2 ≤ 255) := Lib.hid (by omega)
  clear hk1 hk2
  obtain ⟨n, hn⟩ : ∃ n, a.tokens.length = n := ⟨_, rfl⟩
  obtain ⟨m, hm⟩ : ∃ n, a.heights.length = n := ⟨_, rfl⟩
  obtain ⟨k, hk⟩ : ∃ n, a.next.length = n := ⟨_, rfl⟩
  obtain ⟨n', hn'⟩ : ∃ n, b.tokens.length = n := ⟨_, rfl⟩
  obtain ⟨m', hm'⟩ : ∃ n, b.heights.length = n := ⟨_, rfl⟩
  obtain ⟨k', hk'⟩ : ∃ n, b.next.length = n := ⟨_, rfl⟩
  have HLN := Lib.hid (And.intro hn (And.intro hm hk))
  have HLM := Lib.hid (And.intro hn' (And.intro hm' hk'))
  obtain ⟨ra, hra⟩ : ∃ r, rightTw a = r := ⟨_, rfl⟩
  obtain ⟨rb, hrb⟩ : ∃ r, rightTw b = r := ⟨_, rfl⟩
  have HRA := Lib.hid hra
  have HRB := Lib.hid hrb
  have CGA : Hid (∀ w', Ext W w' → Calls Try.prog 10 #[towV A n c B m d N k e, .int .i64 150] w' fun ed w'' => ∃ b, ed = .returned (.bool b) ∧ Ext w' w'') := Lib.hid fun w' hE => by
    have h := rgreat14_any a 150 A B N c d e w' (HT.out.ext hE)
    rw [hn, hm, hk] at h
    exact h
  have CGB : Hid (∀ w', Ext W w' → Calls Try.prog 10 #[towV A' n' c' B' m' d' N' k' e', .int .i64 150] w' fun ed w'' => ∃ b, ed = .returned (.bool b) ∧ Ext w' w'') := Lib.hid fun w' hE => by
    have h := rgreat14_any b 150 A' B' N' c' d' e' w' (HU.out.ext hE)
    rw [hn', hm', hk'] at h
    exact h
  have CRA : Hid (∀ w', Ext W w' → Calls Try.prog 25 #[towV A n c B m d N k e] w' fun ed w'' => ed = .returned (.bool ra) ∧ Ext w' w'') := Lib.hid fun w' hE => by
    have h := rright14_any a A B N c d e w' (HT.out.ext hE)
    rw [hn, hm, hk, hra] at h
    exact h
  have CRB : Hid (∀ w', Ext W w' → Calls Try.prog 25 #[towV A' n' c' B' m' d' N' k' e'] w' fun ed w'' => ed = .returned (.bool rb) ∧ Ext w' w'') := Lib.hid fun w' hE => by
    have h := rright14_any b A' B' N' c' d' e' w' (HU.out.ext hE)
    rw [hn', hm', hk', hrb] at h
    exact h
  rw [hn, hm, hk, hn', hm', hk']
  clear hn hm hk hn' hm' hk' hra hrb
  go_enter Try.func8, Try.ntmps8
  go_wp2_with fail
  refine (splicealive_any _).mono ?_
  rintro ed w1 ⟨rfl, hE1⟩
  have q0 : w1.cell? ⟨W.heap.size, 0, none⟩ = some (.slice A n c) := Ext.cell hE1 (by go_simp)
  have q1 : w1.cell? ⟨W.heap.size, 1, none⟩ = some (.slice B m d) := Ext.cell hE1 (by go_simp)
  have q2 : w1.cell? ⟨W.heap.size, 2, none⟩ = some (.slice N k e) := Ext.cell hE1 (by go_simp)
  have qf : ∀ o, w1.frozen? ⟨W.heap.size, o, none⟩ = false := fun o => (Below.frozen hE1 (p := ⟨W.heap.size, o, none⟩) (by first | omega | (simp; omega) | simp)).trans (by go_simp)
  have s0 : w1.cell? ⟨(W.heap.size+1), 0, none⟩ = some (.slice A' n' c') := Ext.cell hE1 (by go_simp)
  have s1 : w1.cell? ⟨(W.heap.size+1), 1, none⟩ = some (.slice B' m' d') := Ext.cell hE1 (by go_simp)
  have s2 : w1.cell? ⟨(W.heap.size+1), 2, none⟩ = some (.slice N' k' e') := Ext.cell hE1 (by go_simp)
  have sf : ∀ o, w1.frozen? ⟨(W.heap.size+1), o, none⟩ = false := fun o => (Below.frozen hE1 (p := ⟨(W.heap.size+1), o, none⟩) (by first | omega | (simp; omega) | simp)).trans (by go_simp)
  have v0 : w1.cell? ⟨(W.heap.size+1+1), 0, none⟩ = some (.int .u8 a1) := Ext.cell hE1 (by go_simp)
  have v1 : w1.cell? ⟨(W.heap.size+1+1), 1, none⟩ = some (.int .u8 a2) := Ext.cell hE1 (by go_simp)
  have vf : ∀ o, w1.frozen? ⟨(W.heap.size+1+1), o, none⟩ = false := fun o => (Below.frozen hE1 (p := ⟨(W.heap.size+1+1), o, none⟩) (by first | omega | (simp; omega) | simp)).trans (by go_simp)
  have HX1 := Lib.hid (((((Ext.refl W).alloc (.cells #[.slice A n c, .slice B m d, .slice N k e] 25)).alloc (.cells #[.slice A' n' c', .slice B' m' d', .slice N' k' e'] 25)).alloc (.cells #[.int .u8 a1, .int .u8 a2] 41)).trans hE1)
  clear hE1 qf sf vf
  have lq1 : W.heap.size < w1.heap.size := World.block_lt_of_cell? _ _ q0
  have ls1 : W.heap.size + 1 < w1.heap.size := World.block_lt_of_cell? _ _ s0
  have lv1 : W.heap.size + 1 + 1 < w1.heap.size := World.block_lt_of_cell? _ _ v0
  go_wp2_with fail
  refine (CGA.out _ HX1.out).mono ?_
  rintro ed w2 ⟨ga, rfl, hE2⟩
  replace q0 := Ext.cell hE2 q0
  replace q1 := Ext.cell hE2 q1
  replace q2 := Ext.cell hE2 q2
  replace s0 := Ext.cell hE2 s0
  replace s1 := Ext.cell hE2 s1
  replace s2 := Ext.cell hE2 s2
  replace v0 := Ext.cell hE2 v0
  replace v1 := Ext.cell hE2 v1
  have lq2 : W.heap.size < w2.heap.size := World.block_lt_of_cell? _ _ q0
  have ls2 : W.heap.size + 1 < w2.heap.size := World.block_lt_of_cell? _ _ s0
  have lv2 : W.heap.size + 1 + 1 < w2.heap.size := World.block_lt_of_cell? _ _ v0
  have HX2 := Lib.hid (HX1.out.trans hE2)
  clear hE2 lq1 ls1 lv1 HX1 CGA
  cases ga with
  | true =>
    go_wp2_with fail
    go_ret
    exact ⟨ret_bool (by first | rfl | simp), HX2.out⟩
  | false =>
  go_wp2_with fail
  refine (CGB.out _ HX2.out).mono ?_
  rintro ed w3 ⟨gb, rfl, hE3⟩
  replace q0 := Ext.cell hE3 q0
  replace q1 := Ext.cell hE3 q1
  replace q2 := Ext.cell hE3 q2
  replace s0 := Ext.cell hE3 s0
  replace s1 := Ext.cell hE3 s1
  replace s2 := Ext.cell hE3 s2
  replace v0 := Ext.cell hE3 v0
  replace v1 := Ext.cell hE3 v1
  have lq3 : W.heap.size < w3.heap.size := World.block_lt_of_cell? _ _ q0
  have ls3 : W.heap.size + 1 < w3.heap.size := World.block_lt_of_cell? _ _ s0
  have lv3 : W.heap.size + 1 + 1 < w3.heap.size := World.block_lt_of_cell? _ _ v0
  have HX3 := Lib.hid (HX2.out.trans hE3)
  clear hE3 lq2 ls2 lv2 HX2 CGB
  cases gb with
  | true =>
    go_wp2_with fail
    go_ret
    exact ⟨ret_bool (by first | rfl | simp), HX3.out⟩
  | false =>
  go_wp2_with fail
  refine (CRA.out _ HX3.out).mono ?_
  rintro ed w4 ⟨rfl, hE4⟩
  replace q0 := Ext.cell hE4 q0
  replace q1 := Ext.cell hE4 q1
  replace q2 := Ext.cell hE4 q2
  replace s0 := Ext.cell hE4 s0
  replace s1 := Ext.cell hE4 s1
  replace s2 := Ext.cell hE4 s2
  replace v0 := Ext.cell hE4 v0
  replace v1 := Ext.cell hE4 v1
  have lq4 : W.heap.size < w4.heap.size := World.block_lt_of_cell? _ _ q0
  have ls4 : W.heap.size + 1 < w4.heap.size := World.block_lt_of_cell? _ _ s0
  have lv4 : W.heap.size + 1 + 1 < w4.heap.size := World.block_lt_of_cell? _ _ v0
  have HX4 := Lib.hid (HX3.out.trans hE4)
  clear hE4 lq3 ls3 lv3 HX3 CRA
  cases ra with
  | false =>
    go_wp2_with fail
    go_ret
    exact ⟨ret_bool (by first | rfl | simp), HX4.out⟩
  | true =>
  go_wp2_with fail
  refine (CRB.out _ HX4.out).mono ?_
  rintro ed w5 ⟨rfl, hE5⟩
  replace q0 := Ext.cell hE5 q0
  replace q1 := Ext.cell hE5 q1
  replace q2 := Ext.cell hE5 q2
  replace s0 := Ext.cell hE5 s0
  replace s1 := Ext.cell hE5 s1
  replace s2 := Ext.cell hE5 s2
  replace v0 := Ext.cell hE5 v0
  replace v1 := Ext.cell hE5 v1
  have lq5 : W.heap.size < w5.heap.size := World.block_lt_of_cell? _ _ q0
  have ls5 : W.heap.size + 1 < w5.heap.size := World.block_lt_of_cell? _ _ s0
  have lv5 : W.heap.size + 1 + 1 < w5.heap.size := World.block_lt_of_cell? _ _ v0
  have HX5 := Lib.hid (HX4.out.trans hE5)
  clear hE5 lq4 ls4 lv4 HX4 CRB
  cases rb with
  | false =>
    go_wp2_with fail
    go_ret
    exact ⟨ret_bool (by first | rfl | simp), HX5.out⟩
  | true =>
  have hrk_a := right_tok HRA.out
  have hmn_a : n = m := by rw [← HLN.out.1, ← HLN.out.2.1]; exact hrk_a.2.2.2.1.symm
  subst hmn_a
  have hn1_a : n ≤ 1000 := by have := ((rightL_iff _).1 hrk_a.1).1; rw [HLN.out.1] at this; exact this
  have hn0_a : 0 < n := by rw [← HLN.out.1]; exact List.length_pos_iff.2 hrk_a.2.2.1
  obtain ⟨p1, hp_a⟩ : ∃ p : Nat, a1 % n = p := ⟨_, rfl⟩
  have hpn_a : p1 < n := by rw [← hp_a]; exact Nat.mod_lt _ hn0_a
  obtain ⟨x, hx_a⟩ : ∃ x, a.tokens.getD p1 0 = x := ⟨_, rfl⟩
  have HXI_a : Hid (in64 x ∧ x ∈ a.tokens) := Lib.hid ⟨by rw [← hx_a]; exact HT.out.tok.okAt p1 (by rw [HLN.out.1]; exact hpn_a), by rw [← hx_a]; exact ints_mem (by rw [HLN.out.1]; exact hpn_a)⟩
  obtain ⟨ba, oa, hba_a, hca_a⟩ := (ints_of_rd (HT.out.tok.ext HX5.out)).cells (by rw [HLN.out.1]; exact hn0_a)
  subst hba_a
  rw [HLN.out.1] at hca_a
  obtain ⟨bb, ob, hbb_a, hcb_a⟩ := (ints_of_rd (HT.out.hts.ext HX5.out)).cells (by rw [HLN.out.2.1]; exact hn0_a)
  subst hbb_a
  rw [HLN.out.2.1] at hcb_a
  have HCB_a : Hid (∀ w', Ext w5 w' → ∀ i, i < n → w'.cell? ⟨bb, ob + i, none⟩ = some (.int .i64 (a.heights.getD i 0))) := Lib.hid fun w' hE i hi => hE.cell (hcb_a i hi)
  have y_a := hca_a p1 hpn_a
  rw [hx_a] at y_a
  have lba_a : ba < w5.heap.size := World.block_lt_of_cell? _ _ y_a
  have lbb_a : bb < w5.heap.size := World.block_lt_of_cell? _ _ (hcb_a 0 hn0_a)
  have HH8_a : Hid (∀ j, j < n → 1 ≤ a.heights.getD j 0 ∧ a.heights.getD j 0 ≤ 8) := Lib.hid fun j hj => (right_tok HRA.out).2.2.2.2.1 _ (by rw [List.getD_eq_getElem?_getD, List.getElem?_eq_getElem (by rw [HLN.out.2.1]; exact hj)]; exact List.getElem_mem _)
  have hw1_a : IntKind.i64.wrap (a1 : Int) = (a1 : Int) := IntWalk.i64_in _ (by have := HA8.out; omega)
  have hw3_a : (a1 : Int) % (n : Int) = (p1 : Int) := by rw [← hp_a]; simp
  have hw2_a : (a1 : Int).tmod (n : Int) = (p1 : Int) := by rw [Int.tmod_eq_emod_of_nonneg (by omega)]; exact hw3_a
  have hw4_a : IntKind.i64.wrap (p1 : Int) = (p1 : Int) := IntWalk.i64_in _ (by omega)
  have htn_a : (n : Int) ≠ 0 := by omega
  have htn0_a : n ≠ 0 := by omega
  have htn1_a : ((n : Int) == 0) = false := by rw [beq_eq_false_iff_ne]; omega
  clear hrk_a hp_a hx_a hca_a hcb_a
  have hrk_b := right_tok HRB.out
  have hmn_b : n' = m' := by rw [← HLM.out.1, ← HLM.out.2.1]; exact hrk_b.2.2.2.1.symm
  subst hmn_b
  have hn1_b : n' ≤ 1000 := by have := ((rightL_iff _).1 hrk_b.1).1; rw [HLM.out.1] at this; exact this
  have hn0_b : 0 < n' := by rw [← HLM.out.1]; exact List.length_pos_iff.2 hrk_b.2.2.1
  obtain ⟨p2, hp_b⟩ : ∃ p : Nat, a2 % n' = p := ⟨_, rfl⟩
  have hpn_b : p2 < n' := by rw [← hp_b]; exact Nat.mod_lt _ hn0_b
  obtain ⟨y, hx_b⟩ : ∃ x, b.tokens.getD p2 0 = x := ⟨_, rfl⟩
  have HXI_b : Hid (in64 y ∧ y ∈ b.tokens) := Lib.hid ⟨by rw [← hx_b]; exact HU.out.tok.okAt p2 (by rw [HLM.out.1]; exact hpn_b), by rw [← hx_b]; exact ints_mem (by rw [HLM.out.1]; exact hpn_b)⟩
  obtain ⟨bx, ox, hba_b, hca_b⟩ := (ints_of_rd (HU.out.tok.ext HX5.out)).cells (by rw [HLM.out.1]; exact hn0_b)
  subst hba_b
  rw [HLM.out.1] at hca_b
  obtain ⟨bz, oz, hbb_b, hcb_b⟩ := (ints_of_rd (HU.out.hts.ext HX5.out)).cells (by rw [HLM.out.2.1]; exact hn0_b)
  subst hbb_b
  rw [HLM.out.2.1] at hcb_b
  have HCB_b : Hid (∀ w', Ext w5 w' → ∀ i, i < n' → w'.cell? ⟨bz, oz + i, none⟩ = some (.int .i64 (b.heights.getD i 0))) := Lib.hid fun w' hE i hi => hE.cell (hcb_b i hi)
  have y_b := hca_b p2 hpn_b
  rw [hx_b] at y_b
  have lba_b : bx < w5.heap.size := World.block_lt_of_cell? _ _ y_b
  have lbb_b : bz < w5.heap.size := World.block_lt_of_cell? _ _ (hcb_b 0 hn0_b)
  have HH8_b : Hid (∀ j, j < n' → 1 ≤ b.heights.getD j 0 ∧ b.heights.getD j 0 ≤ 8) := Lib.hid fun j hj => (right_tok HRB.out).2.2.2.2.1 _ (by rw [List.getD_eq_getElem?_getD, List.getElem?_eq_getElem (by rw [HLM.out.2.1]; exact hj)]; exact List.getElem_mem _)
  have hw1_b : IntKind.i64.wrap (a2 : Int) = (a2 : Int) := IntWalk.i64_in _ (by have := HA8.out; omega)
  have hw3_b : (a2 : Int) % (n' : Int) = (p2 : Int) := by rw [← hp_b]; simp
  have hw2_b : (a2 : Int).tmod (n' : Int) = (p2 : Int) := by rw [Int.tmod_eq_emod_of_nonneg (by omega)]; exact hw3_b
  have hw4_b : IntKind.i64.wrap (p2 : Int) = (p2 : Int) := IntWalk.i64_in _ (by omega)
  have htn_b : (n' : Int) ≠ 0 := by omega
  have htn0_b : n' ≠ 0 := by omega
  have htn1_b : ((n' : Int) == 0) = false := by rw [beq_eq_false_iff_ne]; omega
  clear hrk_b hp_b hx_b hca_b hcb_b
  have KS : Hid (∀ w', Ext w5 w' → w'.cell? ⟨W.heap.size, 0, none⟩ = some (.slice (some ⟨ba, oa, none⟩) n c) ∧ w'.cell? ⟨W.heap.size + 1, 0, none⟩ = some (.slice (some ⟨bx, ox, none⟩) n' c') ∧ w'.cell? ⟨W.heap.size + 1 + 1, 0, none⟩ = some (.int .u8 a1) ∧ w'.cell? ⟨W.heap.size + 1 + 1, 1, none⟩ = some (.int .u8 a2) ∧ w'.cell? ⟨ba, oa + p1, none⟩ = some (.int .i64 x) ∧ w'.cell? ⟨bx, ox + p2, none⟩ = some (.int .i64 y)) := Lib.hid fun w' hE => ⟨hE.cell q0, hE.cell s0, hE.cell v0, hE.cell v1, hE.cell y_a, hE.cell y_b⟩
  go_wp2_with fail
  refine wp_region_class (Ext w5) (by kernel_rfl) (by kernel_rfl) (Ext.refl _).drew ?_
  try simp only [List.append_eq, List.cons_append, List.nil_append]
  repeat (first
    | go_big_quiet_skip
    | (go_big_quiet_want
       first
       | (go_big_quiet_op; go_big_quiet_on)
       | (unfold Oper.quiet
          apply Exists.intro
          refine ⟨fun w' hC => ?_, ?_⟩
          · (obtain ⟨k1, k2, k3, k4, k5, k6⟩ := KS.out w' hC
             unfold Oper.quietAt
             go_simp
             first
             | exact rfl)
          go_simp
          go_big_quiet_on)))
  refine wpQuiet_nil ?_
  intro w6 hC6
  have HX6 := Lib.hid (HX5.out.trans hC6)
  replace q0 := Ext.cell hC6 q0
  replace q1 := Ext.cell hC6 q1
  replace q2 := Ext.cell hC6 q2
  replace s0 := Ext.cell hC6 s0
  replace s1 := Ext.cell hC6 s1
  replace s2 := Ext.cell hC6 s2
  have HCA6 : Hid (∀ w', Ext w6 w' → ∀ i, i < n → w'.cell? ⟨bb, ob + i, none⟩ = some (.int .i64 (a.heights.getD i 0))) := Lib.hid fun w' hE => HCB_a.out w' (hC6.trans hE)
  have HCB6 : Hid (∀ w', Ext w6 w' → ∀ i, i < n' → w'.cell? ⟨bz, oz + i, none⟩ = some (.int .i64 (b.heights.getD i 0))) := Lib.hid fun w' hE => HCB_b.out w' (hC6.trans hE)
  have lq6 : W.heap.size < w6.heap.size := by have := hC6.size; omega
  have ls6 : W.heap.size + 1 < w6.heap.size := by have := hC6.size; omega
  have lbb6 : bb < w6.heap.size := by have := hC6.size; omega
  have lbz6 : bz < w6.heap.size := by have := hC6.size; omega
  have HTA : Hid (TwA W a.tokens a.heights a.next n n k (some ⟨ba, oa, none⟩) (some ⟨bb, ob, none⟩) N c d e) := Lib.hid ⟨HT.out, HLN.out.1, HLN.out.2.1, HLN.out.2.2⟩
  have HUA : Hid (TwA W b.tokens b.heights b.next n' n' k' (some ⟨bx, ox, none⟩) (some ⟨bz, oz, none⟩) N' c' d' e') := Lib.hid ⟨HU.out, HLM.out.1, HLM.out.2.1, HLM.out.2.2⟩
  clear hC6 KS HCB_a HCB_b HX5 v0 v1 y_a y_b lq5 ls5 lv5 lba_a lbb_a lba_b lbb_b hw1_a hw2_a hw3_a hw4_a hw1_b hw2_b hw3_b hw4_b HA8 hpn_a hpn_b htn_a htn0_a htn1_a htn_b htn0_b htn1_b
  go_wp2_with fail
  rcases join_tower HRA.out HRB.out (x := x) (y := y) with ⟨_, hjt⟩ | ⟨_, _, j, hjt, g1, g2, g3, g4, P, S, g5, g6, g7⟩
  · refine (pjoin15_to a.tokens a.heights a.next n n k (some ⟨ba, oa, none⟩) (some ⟨bb, ob, none⟩) N c d e b.tokens b.heights b.next n' n' k' (some ⟨bx, ox, none⟩) (some ⟨bz, oz, none⟩) N' c' d' e' x y [] [] [] 0 0 0 false _ (HTA.out.ext HX6.out) (HUA.out.ext HX6.out) HXI_a.out.1 HXI_b.out.1 hjt rfl rfl rfl).mono ?_
    rintro ed w7 ⟨A7, B7, N7, c7, d7, e7, rfl, hr7, hE7⟩
    have HX7 := Lib.hid (HX6.out.trans hE7)
    clear hr7 hE7 hjt
    go_wp2_with fail
    go_ret
    exact ⟨ret_bool (by first | rfl | simp), by first | exact HX7.out | exact HX7.out.trans ((Ext.refl _).alloc _)⟩
  have HFW : Hid (∀ most : Nat, (∀ z ∈ a.tokens, heightP a z ≤ most) → (∀ z ∈ b.tokens, heightP b z ≤ most) → changedP (linksP a ++ linksP b) (linksP j) ≤ 2 * most ∧ (linksP j).length = (linksP a ++ linksP b).length ∧ j.tokens.length = a.tokens.length + b.tokens.length) := Lib.hid fun most hm1 hm2 => join_few HRA.out HRB.out g1 g3 g4 g5 g6 g7 hm1 hm2
  obtain ⟨_, _, _, hjl, _⟩ := right_tok g1
  have hjn := (HFW.out 8 (fun z _ => (height_in z).2) (fun z _ => (height_in z).2)).2.2
  have hln := (HFW.out 8 (fun z _ => (height_in z).2) (fun z _ => (height_in z).2)).2.1
  rw [HLN.out.1, HLM.out.1] at hjn
  rw [hjn] at hjl
  obtain ⟨jn, hjq⟩ : ∃ q, n + n' = q := ⟨_, rfl⟩
  rw [hjq] at hjn hjl
  obtain ⟨jk, hjk⟩ : ∃ n, j.next.length = n := ⟨_, rfl⟩
  have HG1 := Lib.hid g1
  have HGX : Hid (heightP j x = heightP a x ∧ heightP j y = heightP b y) := Lib.hid ⟨(g3 x HXI_a.out.2).1, (g4 y HXI_b.out.2).1⟩
  refine (pjoin15_to a.tokens a.heights a.next n n k (some ⟨ba, oa, none⟩) (some ⟨bb, ob, none⟩) N c d e b.tokens b.heights b.next n' n' k' (some ⟨bx, ox, none⟩) (some ⟨bz, oz, none⟩) N' c' d' e' x y j.tokens j.heights j.next jn jn jk true _ (HTA.out.ext HX6.out) (HUA.out.ext HX6.out) HXI_a.out.1 HXI_b.out.1 hjt hjn hjl hjk).mono ?_
  rintro ed w7 ⟨A7, B7, N7, c7, d7, e7, rfl, hr7, hE7⟩
  obtain ⟨la, hla⟩ : ∃ l, linksP a = l := ⟨_, rfl⟩
  obtain ⟨lb, hlb⟩ : ∃ l, linksP b = l := ⟨_, rfl⟩
  obtain ⟨lj, hlj⟩ : ∃ l, linksP j = l := ⟨_, rfl⟩
  have hla8 : la.length ≤ 100000 := hla ▸ links_le HRA.out
  have hlb8 : lb.length ≤ 100000 := hlb ▸ links_le HRB.out
  have hlj8 : lj.length ≤ 100000 := hlj ▸ links_le HG1.out
  rw [hla, hlb, hlj] at HFW hln
  obtain ⟨qa, hqa⟩ : ∃ n, la.length = n := ⟨_, rfl⟩
  obtain ⟨qb, hqb⟩ : ∃ n, lb.length = n := ⟨_, rfl⟩
  obtain ⟨qt, hqt⟩ : ∃ n, lj.length = n := ⟨_, rfl⟩
  have HQ : Hid (((la ++ lb).length = qt ∧ lj.length = qt ∧ qt ≤ 100000) ∧ la.length + lb.length ≤ 1048576 ∧ ([] : List Lk).length + la.length ≤ 1048576) := Lib.hid ⟨⟨by rw [← hln]; exact hqt, hqt, by omega⟩, by omega, by rw [List.length_nil]; omega⟩
  have CLA : Hid (∀ w', Ext W w' → Calls Try.prog 19 #[towV (some ⟨ba, oa, none⟩) n c (some ⟨bb, ob, none⟩) n d N k e] w' fun ed w'' => ∃ (L : Option Addr) (lc : Nat), ed = .returned (.slice L qa lc) ∧ Ow kLink w'.heap.size w'' (.slice L qa lc) la ∧ Ext w' w'') := Lib.hid fun w' hE => plinks15_to _ _ _ _ _ _ _ _ _ _ _ _ la qa w' (HTA.out.ext hE) hla hqa
  have CLB : Hid (∀ w', Ext W w' → Calls Try.prog 19 #[towV (some ⟨bx, ox, none⟩) n' c' (some ⟨bz, oz, none⟩) n' d' N' k' e'] w' fun ed w'' => ∃ (L : Option Addr) (lc : Nat), ed = .returned (.slice L qb lc) ∧ Ow kLink w'.heap.size w'' (.slice L qb lc) lb ∧ Ext w' w'') := Lib.hid fun w' hE => plinks15_to _ _ _ _ _ _ _ _ _ _ _ _ lb qb w' (HUA.out.ext hE) hlb hqb
  have CLJ : Hid (∀ w', Ext w7 w' → Calls Try.prog 19 #[towV A7 jn c7 B7 jn d7 N7 jk e7] w' fun ed w'' => ∃ (L : Option Addr) (lc : Nat), ed = .returned (.slice L qt lc) ∧ Ow kLink w'.heap.size w'' (.slice L qt lc) lj ∧ Ext w' w'') := Lib.hid fun w' hE => plinks15_to _ _ _ _ _ _ _ _ _ _ _ _ lj qt w' (hr7.ext hE) hlj hqt
  obtain ⟨X9, hX9⟩ : ∃ v, heightP a x = v := ⟨_, rfl⟩
  obtain ⟨Y9, hY9⟩ : ∃ v, heightP b y = v := ⟨_, rfl⟩
  rw [hX9, hY9] at HGX
  have CHA : Hid (∀ w', Ext W w' → Calls Try.prog 21 #[towV (some ⟨ba, oa, none⟩) n c (some ⟨bb, ob, none⟩) n d N k e, .int .i64 x] w' fun ed w'' => ed = .returned (.int .i64 X9) ∧ Ext w' w'') := Lib.hid fun w' hE => pheight15_to _ _ _ _ _ _ _ _ _ _ _ _ x X9 w' (HTA.out.ext hE) HXI_a.out.1 hX9
  have CHB : Hid (∀ w', Ext W w' → Calls Try.prog 21 #[towV (some ⟨bx, ox, none⟩) n' c' (some ⟨bz, oz, none⟩) n' d' N' k' e', .int .i64 y] w' fun ed w'' => ed = .returned (.int .i64 Y9) ∧ Ext w' w'') := Lib.hid fun w' hE => pheight15_to _ _ _ _ _ _ _ _ _ _ _ _ y Y9 w' (HUA.out.ext hE) HXI_b.out.1 hY9
  have CHX : Hid (∀ w', Ext w7 w' → Calls Try.prog 21 #[towV A7 jn c7 B7 jn d7 N7 jk e7, .int .i64 x] w' fun ed w'' => ed = .returned (.int .i64 X9) ∧ Ext w' w'') := Lib.hid fun w' hE => pheight15_to _ _ _ _ _ _ _ _ _ _ _ _ x X9 w' (hr7.ext hE) HXI_a.out.1 HGX.out.1
  have CHY : Hid (∀ w', Ext w7 w' → Calls Try.prog 21 #[towV A7 jn c7 B7 jn d7 N7 jk e7, .int .i64 y] w' fun ed w'' => ed = .returned (.int .i64 Y9) ∧ Ext w' w'') := Lib.hid fun w' hE => pheight15_to _ _ _ _ _ _ _ _ _ _ _ _ y Y9 w' (hr7.ext hE) HXI_b.out.1 HGX.out.2
  have HX7 := Lib.hid (HX6.out.trans hE7)
  replace q0 := Ext.cell hE7 q0
  replace q1 := Ext.cell hE7 q1
  replace q2 := Ext.cell hE7 q2
  replace s0 := Ext.cell hE7 s0
  replace s1 := Ext.cell hE7 s1
  replace s2 := Ext.cell hE7 s2
  have HCA7 : Hid (∀ w', Ext w7 w' → ∀ i, i < n → w'.cell? ⟨bb, ob + i, none⟩ = some (.int .i64 (a.heights.getD i 0))) := Lib.hid fun w' hE => HCA6.out w' (hE7.trans hE)
  have HCB7 : Hid (∀ w', Ext w7 w' → ∀ i, i < n' → w'.cell? ⟨bz, oz + i, none⟩ = some (.int .i64 (b.heights.getD i 0))) := Lib.hid fun w' hE => HCB6.out w' (hE7.trans hE)
  have lq7 : W.heap.size < w7.heap.size := by have := hE7.size; omega
  have ls7 : W.heap.size + 1 < w7.heap.size := by have := hE7.size; omega
  have lbb7 : bb < w7.heap.size := by have := hE7.size; omega
  have lbz7 : bz < w7.heap.size := by have := hE7.size; omega
  have e20 : ((jn : Int) == (n : Int) + (n' : Int)) = true := by rw [beq_iff_eq]; omega
  have hw20 : IntKind.i64.wrap ((n : Int) + (n' : Int)) = (n : Int) + (n' : Int) := IntWalk.i64_in _ (by omega)
  have HE20 := Lib.hid (And.intro e20 hw20)
  clear g1 g2 g3 g4 g5 g6 g7 hjt hjn hjl hjq hjk hr7 hE7 hla hlb hlj hla8 hlb8 hlj8 hln hqa hqb hqt hX9 hY9 HX6 HCA6 HCB6 lq6 ls6 lbb6 lbz6 e20 hw20
  go_wp2_with fail
  obtain ⟨w8, hw8⟩ : ∃ w8, w7.alloc (.cells #[.slice A7 jn c7, .slice B7 jn d7, .slice N7 jk e7] 25) = w8 := ⟨_, rfl⟩
  have hE8 : Ext w7 w8 := by rw [← hw8]; exact (Ext.refl _).alloc _
  have j0 : w8.cell? ⟨w7.heap.size, 0, none⟩ = some (.slice A7 jn c7) := by rw [← hw8]; clear hw8; go_simp
  have j1 : w8.cell? ⟨w7.heap.size, 1, none⟩ = some (.slice B7 jn d7) := by rw [← hw8]; clear hw8; go_simp
  have j2 : w8.cell? ⟨w7.heap.size, 2, none⟩ = some (.slice N7 jk e7) := by rw [← hw8]; clear hw8; go_simp
  rw [hw8]
  have HX8 := Lib.hid (HX7.out.trans hE8)
  have HE78 := Lib.hid hE8
  replace q0 := Ext.cell hE8 q0
  replace q1 := Ext.cell hE8 q1
  replace q2 := Ext.cell hE8 q2
  replace s0 := Ext.cell hE8 s0
  replace s1 := Ext.cell hE8 s1
  replace s2 := Ext.cell hE8 s2
  have KQ : Hid (∀ w', Ext w8 w' → w'.cell? ⟨W.heap.size, 0, none⟩ = some (.slice (some ⟨ba, oa, none⟩) n c) ∧ w'.cell? ⟨W.heap.size, 1, none⟩ = some (.slice (some ⟨bb, ob, none⟩) n d) ∧ w'.cell? ⟨W.heap.size, 2, none⟩ = some (.slice N k e) ∧ w'.cell? ⟨W.heap.size + 1, 0, none⟩ = some (.slice (some ⟨bx, ox, none⟩) n' c') ∧ w'.cell? ⟨W.heap.size + 1, 1, none⟩ = some (.slice (some ⟨bz, oz, none⟩) n' d') ∧ w'.cell? ⟨W.heap.size + 1, 2, none⟩ = some (.slice N' k' e') ∧ w'.cell? ⟨w7.heap.size, 0, none⟩ = some (.slice A7 jn c7) ∧ w'.cell? ⟨w7.heap.size, 1, none⟩ = some (.slice B7 jn d7) ∧ w'.cell? ⟨w7.heap.size, 2, none⟩ = some (.slice N7 jk e7)) := Lib.hid fun w' hE => ⟨hE.cell q0, hE.cell q1, hE.cell q2, hE.cell s0, hE.cell s1, hE.cell s2, hE.cell j0, hE.cell j1, hE.cell j2⟩
  have lbb8 : bb < w8.heap.size := by have := hE8.size; omega
  have lbz8 : bz < w8.heap.size := by have := hE8.size; omega
  clear hE8 hw8 HX7 lq7 ls7 lbb7 lbz7 q0 q1 q2 s0 s1 s2 j0 j1 j2
  go_wp2_with fail
  go_loopw [11, 12] (fun mo i wr => ∃ (j : Nat) (M : Int), j ≤ n ∧ i = .int .i64 j ∧ mo = .int .i64 M ∧ 0 ≤ M ∧ M ≤ 8 ∧ (∀ u, u < j → a.heights.getD u 0 ≤ M) ∧ Ext w8 wr) (fun _ i _ => n - (intOf i).toNat)
  case atStart => exact ⟨0, 0, Nat.zero_le _, rfl, rfl, Int.le_refl _, by decide, fun u hu => absurd hu (Nat.not_lt_zero _), Ext.refl _⟩
  case round =>
    obtain ⟨j5, M, hj, rfl, rfl, hM0, hM8, hMM, hX⟩ := hrel
    have HX := Lib.hid hX
    have HMM := Lib.hid hMM
    have hj0 : (0 : Int) ≤ j5 := by omega
    obtain ⟨q0, q1, q2, s0, s1, s2, j0, j1, j2⟩ := KQ.out wr hX
    have lqr : W.heap.size < wr.heap.size := World.block_lt_of_cell? _ _ q0
    have lsr : W.heap.size + 1 < wr.heap.size := World.block_lt_of_cell? _ _ s0
    have hzx := hX.size
    clear hX hMM
    by_cases hlt : j5 < n
    · have hlt' : (j5 : Int) < n := by omega
      have z0 := HCA7.out wr (HE78.out.trans HX.out) j5 hlt
      have h8 := HH8_a.out j5 hlt
      have HMS : Hid (∀ u, u < j5 + 1 → u < j5 ∨ u = j5) := Lib.hid fun u hu => by omega
      obtain ⟨g, hg⟩ : ∃ x, a.heights.getD j5 0 = x := ⟨_, rfl⟩
      rw [hg] at z0 h8
      have HGJ := Lib.hid hg
      have lbr : bb < wr.heap.size := World.block_lt_of_cell? _ _ z0
      clear hg
      by_cases hmx : M < g
      · have e1 : (if M < g then g else M) = g := if_pos hmx
        go_wp2_with fail
        go_roundw
        case rel => exact ⟨j5 + 1, g, by omega, by go_num, by first | rfl | simp, by omega, by omega, fun u hu => (HMS.out u hu).elim (fun h => by have := HMM.out u h; omega) (fun h => by rw [h, HGJ.out]; exact Int.le_refl _), HX.out⟩
        case measure => simp [intOf]; omega
      · have e1 : (if M < g then g else M) = M := if_neg hmx
        go_wp2_with fail
        go_roundw
        case rel => exact ⟨j5 + 1, M, by omega, by go_num, by first | rfl | simp, by omega, by omega, fun u hu => (HMS.out u hu).elim (fun h => HMM.out u h) (fun h => by rw [h, HGJ.out]; omega), HX.out⟩
        case measure => simp [intOf]; omega
    · obtain rfl : n = j5 := by omega
      generalize wr = wp at *
      have HMA := Lib.hid HMM.out
      have HX8p := Lib.hid HX.out
      have KQp : Hid (∀ w', Ext wp w' → w'.cell? ⟨W.heap.size, 0, none⟩ = some (.slice (some ⟨ba, oa, none⟩) n c) ∧ w'.cell? ⟨W.heap.size, 1, none⟩ = some (.slice (some ⟨bb, ob, none⟩) n d) ∧ w'.cell? ⟨W.heap.size, 2, none⟩ = some (.slice N k e) ∧ w'.cell? ⟨W.heap.size + 1, 0, none⟩ = some (.slice (some ⟨bx, ox, none⟩) n' c') ∧ w'.cell? ⟨W.heap.size + 1, 1, none⟩ = some (.slice (some ⟨bz, oz, none⟩) n' d') ∧ w'.cell? ⟨W.heap.size + 1, 2, none⟩ = some (.slice N' k' e') ∧ w'.cell? ⟨w7.heap.size, 0, none⟩ = some (.slice A7 jn c7) ∧ w'.cell? ⟨w7.heap.size, 1, none⟩ = some (.slice B7 jn d7) ∧ w'.cell? ⟨w7.heap.size, 2, none⟩ = some (.slice N7 jk e7)) := Lib.hid fun w' hE => KQ.out w' (HX8p.out.trans hE)
      have HE7p := Lib.hid (HE78.out.trans HX8p.out)
      have HXp := Lib.hid (HX8.out.trans HX8p.out)
      clear HMM HX KQ HE78 HX8 HX8p hlt hzx lbb8 lbz8
      obtain ⟨M0, hM9⟩ : ∃ M0, M = M0 := ⟨_, rfl⟩
      subst hM9
      go_wp2_with fail
      clear q0 q1 q2 s0 s1 s2 j0 j1 j2 lqr lsr
      go_loopw [11, 13] (fun mo i wr => ∃ (j : Nat) (M : Int), j ≤ n' ∧ i = .int .i64 j ∧ mo = .int .i64 M ∧ 0 ≤ M ∧ M ≤ 8 ∧ (∀ u, u < n → a.heights.getD u 0 ≤ M) ∧ (∀ u, u < j → b.heights.getD u 0 ≤ M) ∧ Ext wp wr) (fun _ i _ => n' - (intOf i).toNat)
      case atStart => exact ⟨0, M, Nat.zero_le _, rfl, rfl, hM0, hM8, HMA.out, fun u hu => absurd hu (Nat.not_lt_zero _), Ext.refl _⟩
      case round =>
        clear hM0 hM8
        obtain ⟨j5, M, hj, rfl, rfl, hM0, hM8, hMA, hMM, hX⟩ := hrel
        have HX := Lib.hid hX
        have HMM := Lib.hid hMM
        have hj0 : (0 : Int) ≤ j5 := by omega
        obtain ⟨q0, q1, q2, s0, s1, s2, j0, j1, j2⟩ := KQp.out wr hX
        have lqr : W.heap.size < wr.heap.size := World.block_lt_of_cell? _ _ q0
        have lsr : W.heap.size + 1 < wr.heap.size := World.block_lt_of_cell? _ _ s0
        have hzx := hX.size
        have HMA2 := Lib.hid hMA
        clear hX hMM hMA
        by_cases hlt : j5 < n'
        · have hlt' : (j5 : Int) < n' := by omega
          have z0 := HCB7.out wr (HE7p.out.trans HX.out) j5 hlt
          have h8 := HH8_b.out j5 hlt
          have HMS : Hid (∀ u, u < j5 + 1 → u < j5 ∨ u = j5) := Lib.hid fun u hu => by omega
          obtain ⟨g, hg⟩ : ∃ x, b.heights.getD j5 0 = x := ⟨_, rfl⟩
          rw [hg] at z0 h8
          have HGJ := Lib.hid hg
          have lbr : bz < wr.heap.size := World.block_lt_of_cell? _ _ z0
          clear hg
          by_cases hmx : M < g
          · have e1 : (if M < g then g else M) = g := if_pos hmx
            go_wp2_with fail
            go_roundw
            case rel => exact ⟨j5 + 1, g, by omega, by go_num, by first | rfl | simp, by omega, by omega, fun u hu => by have := HMA2.out u hu; omega, fun u hu => (HMS.out u hu).elim (fun h => by have := HMM.out u h; omega) (fun h => by rw [h, HGJ.out]; exact Int.le_refl _), HX.out⟩
            case measure => simp [intOf]; omega
          · have e1 : (if M < g then g else M) = M := if_neg hmx
            go_wp2_with fail
            go_roundw
            case rel => exact ⟨j5 + 1, M, by omega, by go_num, by first | rfl | simp, by omega, by omega, HMA2.out, fun u hu => (HMS.out u hu).elim (fun h => HMM.out u h) (fun h => by rw [h, HGJ.out]; omega), HX.out⟩
            case measure => simp [intOf]; omega
        · obtain rfl : n' = j5 := by omega
          generalize wr = wq at *
          obtain ⟨mm, rfl⟩ : ∃ mm : Nat, M = mm := ⟨M.toNat, by omega⟩
          have hfw := (HFW.out mm (fun z hz => by
            obtain ⟨i, hi, rfl⟩ := List.getElem_of_mem hz
            have h := height_at HRA.out hi
            rw [List.getD_eq_getElem?_getD, List.getElem?_eq_getElem hi] at h
            have h2 := HMA2.out i (by rw [← HLN.out.1]; exact hi)
            rw [← h] at h2
            exact h2) (fun z hz => by
            obtain ⟨i, hi, rfl⟩ := List.getElem_of_mem hz
            have h := height_at HRB.out hi
            rw [List.getD_eq_getElem?_getD, List.getElem?_eq_getElem hi] at h
            have h2 := HMM.out i (by rw [← HLM.out.1]; exact hi)
            rw [← h] at h2
            exact h2)).1
          obtain ⟨v9, hv9⟩ : ∃ v : Nat, changedP (la ++ lb) lj = v := ⟨_, rfl⟩
          rw [hv9] at hfw
          have HV9 := Lib.hid hv9
          have hw5 : IntKind.i64.wrap (2 * (mm : Int)) = 2 * (mm : Int) := IntWalk.i64_in _ (by omega)
          have d1 : decide ((v9 : Int) ≤ 2 * (mm : Int)) = true := decide_eq_true (by omega)
          have d2 : decide (v9 ≤ 2 * mm) = true := decide_eq_true (by omega)
          have HD := Lib.hid (And.intro hw5 (And.intro d1 d2))
          have HXq := Lib.hid (HXp.out.trans HX.out)
          have HE7q := Lib.hid (HE7p.out.trans HX.out)
          have KR : Hid (∀ w', Ext wq w' → w'.cell? ⟨W.heap.size, 0, none⟩ = some (.slice (some ⟨ba, oa, none⟩) n c) ∧ w'.cell? ⟨W.heap.size, 1, none⟩ = some (.slice (some ⟨bb, ob, none⟩) n d) ∧ w'.cell? ⟨W.heap.size, 2, none⟩ = some (.slice N k e) ∧ w'.cell? ⟨W.heap.size + 1, 0, none⟩ = some (.slice (some ⟨bx, ox, none⟩) n' c') ∧ w'.cell? ⟨W.heap.size + 1, 1, none⟩ = some (.slice (some ⟨bz, oz, none⟩) n' d') ∧ w'.cell? ⟨W.heap.size + 1, 2, none⟩ = some (.slice N' k' e') ∧ w'.cell? ⟨w7.heap.size, 0, none⟩ = some (.slice A7 jn c7) ∧ w'.cell? ⟨w7.heap.size, 1, none⟩ = some (.slice B7 jn d7) ∧ w'.cell? ⟨w7.heap.size, 2, none⟩ = some (.slice N7 jk e7)) := Lib.hid fun w' hE => KQp.out w' (HX.out.trans hE)
          clear hv9 hfw HFW HMM HMA HMA2 HXp HX HH8_a HH8_b KQp hzx hM0 hM8 hw5 d1 d2 HE7p hlt HCA7 HCB7
          go_wp2_with fail
          go_cut [14] from 98 to 104 (fun v wx => ∃ (L : Option Addr) (lc : Nat), v = .slice L qt lc ∧ Rd kLink wx (.slice L qt lc) (la ++ lb) ∧ Ext wq wx)
          case first =>
            go_region_held3 (fun w' => w'.cell? ⟨W.heap.size, 0, none⟩ = some (.slice (some ⟨ba, oa, none⟩) n c) ∧ w'.cell? ⟨W.heap.size, 1, none⟩ = some (.slice (some ⟨bb, ob, none⟩) n d) ∧ w'.cell? ⟨W.heap.size, 2, none⟩ = some (.slice N k e) ∧ w'.cell? ⟨W.heap.size + 1, 0, none⟩ = some (.slice (some ⟨bx, ox, none⟩) n' c') ∧ w'.cell? ⟨W.heap.size + 1, 1, none⟩ = some (.slice (some ⟨bz, oz, none⟩) n' d') ∧ w'.cell? ⟨W.heap.size + 1, 2, none⟩ = some (.slice N' k' e') ∧ w'.cell? ⟨w7.heap.size, 0, none⟩ = some (.slice A7 jn c7) ∧ w'.cell? ⟨w7.heap.size, 1, none⟩ = some (.slice B7 jn d7) ∧ w'.cell? ⟨w7.heap.size, 2, none⟩ = some (.slice N7 jk e7))
              (first | exact KR.out _ hx11 | exact KR.out _ hx9 | exact KR.out _ (by repeat (first | (with_reducible exact Ext.refl _) | (with_reducible assumption) | refine Ext.drew ?_ | refine Ext.drewN ?_ _ | refine Ext.alloc ?_ _)) | go_keep)
              (first
              | (go_at_call_of 19 (Value.agg #[.slice (some ⟨ba, oa, none⟩) n c, .slice (some ⟨bb, ob, none⟩) n d, .slice N k e])
                 refine (CLA.out _ (HXq.out.trans (by repeat (first | (with_reducible exact Ext.refl _) | (with_reducible assumption) | refine Ext.drew ?_ | refine Ext.drewN ?_ _ | refine Ext.alloc ?_ _)))).mono ?_
                 rintro ed wa ⟨La, ca, rfl, hOa, ha⟩
                 have xa : Ext wq wa := Ext.trans (by repeat (first | (with_reducible exact Ext.refl _) | (with_reducible assumption) | refine Ext.drew ?_ | refine Ext.drewN ?_ _ | refine Ext.alloc ?_ _)) ha
                 have sa := Ext.size xa
                 have sa2 := Ext.size ha
                 first
                   | have bk7 : wa.heap[wq.heap.size]? = some (.cells #[] 51) := block_keep (heap_alloc_new wq _) (Ext.trans (by first | ((repeat (first | (with_reducible exact Ext.refl _) | (with_reducible assumption) | refine Ext.drew ?_ | refine Ext.drewN ?_ _ | refine Ext.alloc ?_ _)); done) | fail) ha)
                   | skip)
              | (go_at_call_of 19 (Value.agg #[.slice (some ⟨bx, ox, none⟩) n' c', .slice (some ⟨bz, oz, none⟩) n' d', .slice N' k' e'])
                 refine (CLB.out _ (HXq.out.trans (hx9.trans (by repeat (first | (with_reducible exact Ext.refl _) | (with_reducible assumption) | refine Ext.drew ?_ | refine Ext.drewN ?_ _ | refine Ext.alloc ?_ _))))).mono ?_
                 rintro ed wb ⟨Lb, cb, rfl, hOb, hb⟩
                 have xb : Ext w9 wb := Ext.trans (by repeat (first | (with_reducible exact Ext.refl _) | (with_reducible assumption) | refine Ext.drew ?_ | refine Ext.drewN ?_ _ | refine Ext.alloc ?_ _)) hb
                 have xb2 : Ext wq wb := hx9.trans xb
                 have sb := Ext.size xb2)
              | (refine kLink.step_app (by rfl) (.tmp 98) (.tmp 100) (by rfl) (by rfl) wq.heap.size _ [] (by rfl) (empty_at (by first | exact bk7 | exact heap_alloc_new _ _ | exact heap_alloc_at (by first | (simp; done) | (simp; omega) | omega)) (by first | omega | (simp; done) | (simp; omega))) _ la (by rfl) (Rd.ext hOa.rd (by repeat (first | (with_reducible exact Ext.refl _) | (with_reducible assumption) | refine Ext.drew ?_ | refine Ext.drewN ?_ _ | refine Ext.alloc ?_ _))) HQ.out.2.2 (by first | omega | (simp; done) | (simp; omega)) ?_
                 intro v9 w9 hown9 hgrow9 hat9
                 have hx9 : Ext wq w9 := Ext.grown (Ext.trans xa (by repeat (first | (with_reducible exact Ext.refl _) | (with_reducible assumption) | refine Ext.drew ?_ | refine Ext.drewN ?_ _ | refine Ext.alloc ?_ _))) hgrow9 (fun b hb => by cases hb; first | omega | (simp; omega) | (simp; done))
                 rw [List.nil_append] at hown9
                 have s9 := Ext.size hx9)
              | (refine kLink.step_app (by rfl) (.tmp 101) (.tmp 103) (by rfl) (by rfl) wq.heap.size _ la (by rfl) (Ow.ext hown9 (Ext.trans xb (by repeat (first | (with_reducible exact Ext.refl _) | (with_reducible assumption) | refine Ext.drew ?_ | refine Ext.drewN ?_ _ | refine Ext.alloc ?_ _)))) _ lb (by rfl) (Rd.ext hOb.rd (by repeat (first | (with_reducible exact Ext.refl _) | (with_reducible assumption) | refine Ext.drew ?_ | refine Ext.drewN ?_ _ | refine Ext.alloc ?_ _))) HQ.out.2.1 (by first | omega | (simp; done) | (simp; omega)) ?_
                 intro v11 w11 hown11 hgrow11 hat11
                 have hx11 : Ext wq w11 := Ext.grown (hx9.trans (Ext.trans xb (by repeat (first | (with_reducible exact Ext.refl _) | (with_reducible assumption) | refine Ext.drew ?_ | refine Ext.drewN ?_ _ | refine Ext.alloc ?_ _)))) hgrow11 (fun b hb => (hown9.lt b hb).1))
              | fail)
            all_goals go_wp2_with fail
            all_goals (go_simp; go_meet)
            all_goals
              obtain ⟨L9, c9, hv9, hc9⟩ := hown11.slice
              rw [HQ.out.1.1] at hv9
              subst hv9
              exact ⟨L9, c9, rfl, hown11.rd.ext (by repeat (first | (with_reducible exact Ext.refl _) | (with_reducible assumption) | refine Ext.drew ?_ | refine Ext.drewN ?_ _ | refine Ext.alloc ?_ _)), hx11.trans (by repeat (first | (with_reducible exact Ext.refl _) | (with_reducible assumption) | refine Ext.drew ?_ | refine Ext.drewN ?_ _ | refine Ext.alloc ?_ _))⟩
          case rest =>
          obtain ⟨L9, c9, rfl, hL9, hE9⟩ := hcut
          generalize wc = w9 at *
          have HX9 := Lib.hid (HXq.out.trans hE9)
          have HE79 := Lib.hid (HE7q.out.trans hE9)
          have HL9 := Lib.hid hL9
          have KS9 : Hid (∀ w', Ext w9 w' → w'.cell? ⟨W.heap.size, 0, none⟩ = some (.slice (some ⟨ba, oa, none⟩) n c) ∧ w'.cell? ⟨W.heap.size, 1, none⟩ = some (.slice (some ⟨bb, ob, none⟩) n d) ∧ w'.cell? ⟨W.heap.size, 2, none⟩ = some (.slice N k e) ∧ w'.cell? ⟨W.heap.size + 1, 0, none⟩ = some (.slice (some ⟨bx, ox, none⟩) n' c') ∧ w'.cell? ⟨W.heap.size + 1, 1, none⟩ = some (.slice (some ⟨bz, oz, none⟩) n' d') ∧ w'.cell? ⟨W.heap.size + 1, 2, none⟩ = some (.slice N' k' e') ∧ w'.cell? ⟨w7.heap.size, 0, none⟩ = some (.slice A7 jn c7) ∧ w'.cell? ⟨w7.heap.size, 1, none⟩ = some (.slice B7 jn d7) ∧ w'.cell? ⟨w7.heap.size, 2, none⟩ = some (.slice N7 jk e7)) := Lib.hid fun w' hE => KR.out w' (hE9.trans hE)
          obtain ⟨q0, q1, q2, s0, s1, s2, j0, j1, j2⟩ := KS9.out w9 (Ext.refl _)
          clear hE9 hL9 HXq HE7q KR
          go_wp2_with fail
          refine (CLJ.out _ HE79.out).mono ?_
          rintro ed w10 ⟨Lj, cj, rfl, hOj, hE10⟩
          have HX10 := Lib.hid (HX9.out.trans hE10)
          have HE710 := Lib.hid (HE79.out.trans hE10)
          have HL10 := Lib.hid (HL9.out.ext hE10)
          have HJ10 := Lib.hid hOj.rd
          have KS : Hid (∀ w', Ext w10 w' → w'.cell? ⟨W.heap.size, 0, none⟩ = some (.slice (some ⟨ba, oa, none⟩) n c) ∧ w'.cell? ⟨W.heap.size, 1, none⟩ = some (.slice (some ⟨bb, ob, none⟩) n d) ∧ w'.cell? ⟨W.heap.size, 2, none⟩ = some (.slice N k e) ∧ w'.cell? ⟨W.heap.size + 1, 0, none⟩ = some (.slice (some ⟨bx, ox, none⟩) n' c') ∧ w'.cell? ⟨W.heap.size + 1, 1, none⟩ = some (.slice (some ⟨bz, oz, none⟩) n' d') ∧ w'.cell? ⟨W.heap.size + 1, 2, none⟩ = some (.slice N' k' e') ∧ w'.cell? ⟨w7.heap.size, 0, none⟩ = some (.slice A7 jn c7) ∧ w'.cell? ⟨w7.heap.size, 1, none⟩ = some (.slice B7 jn d7) ∧ w'.cell? ⟨w7.heap.size, 2, none⟩ = some (.slice N7 jk e7)) := Lib.hid fun w' hE => KS9.out w' (hE10.trans hE)
          have HF1 : Hid (∀ w', Ext w10 w' → Calls Try.prog 21 #[towV A7 jn c7 B7 jn d7 N7 jk e7, .int .i64 x] w' fun ed w'' => ed = .returned (.int .i64 X9) ∧ Ext w10 w'') := Lib.hid fun w' hE => (CHX.out w' (HE710.out.trans hE)).mono fun ed w'' hh => ⟨hh.1, hE.trans hh.2⟩
          have HF2 : Hid (∀ w', Ext w10 w' → Calls Try.prog 21 #[towV (some ⟨ba, oa, none⟩) n c (some ⟨bb, ob, none⟩) n d N k e, .int .i64 x] w' fun ed w'' => ed = .returned (.int .i64 X9) ∧ Ext w10 w'') := Lib.hid fun w' hE => (CHA.out w' (HX10.out.trans hE)).mono fun ed w'' hh => ⟨hh.1, hE.trans hh.2⟩
          have HF3 : Hid (∀ w', Ext w10 w' → Calls Try.prog 21 #[towV A7 jn c7 B7 jn d7 N7 jk e7, .int .i64 y] w' fun ed w'' => ed = .returned (.int .i64 Y9) ∧ Ext w10 w'') := Lib.hid fun w' hE => (CHY.out w' (HE710.out.trans hE)).mono fun ed w'' hh => ⟨hh.1, hE.trans hh.2⟩
          have HF4 : Hid (∀ w', Ext w10 w' → Calls Try.prog 21 #[towV (some ⟨bx, ox, none⟩) n' c' (some ⟨bz, oz, none⟩) n' d' N' k' e', .int .i64 y] w' fun ed w'' => ed = .returned (.int .i64 Y9) ∧ Ext w10 w'') := Lib.hid fun w' hE => (CHB.out w' (HX10.out.trans hE)).mono fun ed w'' hh => ⟨hh.1, hE.trans hh.2⟩
          have HF5 : Hid (∀ w', Ext w10 w' → Calls Try.prog 23 #[.slice L9 qt c9, .slice Lj qt cj] w' fun ed w'' => ed = .returned (.int .i64 (v9 : Nat)) ∧ Ext w10 w'') := Lib.hid fun w' hE => (pchanged15_to (la ++ lb) lj qt qt L9 Lj c9 cj v9 v9 w' (HL10.out.ext hE) HQ.out.1.1 (HJ10.out.ext hE) HQ.out.1.2.1 (by rw [HQ.out.1.1]; exact HQ.out.1.2.2) (by rw [HQ.out.1.2.1]; exact HQ.out.1.2.2) HV9.out rfl).mono fun ed w'' hh => ⟨hh.1, hE.trans hh.2⟩
          obtain ⟨hw5, d1, d2⟩ := HD.out
          obtain ⟨e20, hw20⟩ := HE20.out
          clear hE10 hOj HX9 HE79 HL9 KS9 q0 q1 q2 s0 s1 s2 j0 j1 j2 CLA CLB CLJ CHA CHB CHX CHY
          go_wp2_with fail
          refine wp_region_class (Ext w10) (by kernel_rfl) (by kernel_rfl) (Ext.refl _).drew ?_
          try simp only [List.append_eq, List.cons_append, List.nil_append]
          repeat (first
            | go_big_quiet_skip
            | (go_big_quiet_want
               first
               | (go_big_quiet_op; go_big_quiet_on)
               | (unfold Oper.quiet
                  apply Exists.intro
                  refine ⟨fun w' hC => ?_, ?_⟩
                  · (obtain ⟨k1, k2, k3, k4, k5, k6, k7, k8, k9⟩ := KS.out w' hC
                     unfold Oper.quietAt
                     go_simp
                     first
                     | exact rfl
                     | (with_reducible exact HF1.out w' hC)
                     | (with_reducible exact HF2.out w' hC)
                     | (with_reducible exact HF3.out w' hC)
                     | (with_reducible exact HF4.out w' hC)
                     | (with_reducible exact HF5.out w' hC))
                  go_simp
                  go_big_quiet_on)
               | (go_big_quiet_op
                  apply Exists.intro
                  refine ⟨fun w' hC => ?_, ?_⟩
                  · exact HF1.out w' hC
                  go_big_quiet_on)
               | (go_big_quiet_op
                  apply Exists.intro
                  refine ⟨fun w' hC => ?_, ?_⟩
                  · exact HF2.out w' hC
                  go_big_quiet_on)
               | (go_big_quiet_op
                  apply Exists.intro
                  refine ⟨fun w' hC => ?_, ?_⟩
                  · exact HF3.out w' hC
                  go_big_quiet_on)
               | (go_big_quiet_op
                  apply Exists.intro
                  refine ⟨fun w' hC => ?_, ?_⟩
                  · exact HF4.out w' hC
                  go_big_quiet_on)
               | (go_big_quiet_op
                  apply Exists.intro
                  refine ⟨fun w' hC => ?_, ?_⟩
                  · exact HF5.out w' hC
                  go_big_quiet_on)))
          refine wpQuiet_nil ?_
          intro w12 hC12
          have HX12 := Lib.hid (HX10.out.trans hC12)
          go_wp2_with fail
          go_ret
          exact ⟨ret_bool (by first | rfl | simp), HX12.out⟩
end Go.Proofs.Ytllpfegnpakadaa
