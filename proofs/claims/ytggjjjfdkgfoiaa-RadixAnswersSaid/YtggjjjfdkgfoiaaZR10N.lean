/- RadixAnswers: the law returns true. Written by wip/mk_r10.py. -/
import Derived.Test.YtggjjjfdkgfoiaaJ6
import Derived.Deep.QuietTactic
import Derived.BigQuiet
set_option linter.unusedVariables false
set_option linter.unusedSimpArgs false
set_option linter.unnecessarySimpa false
namespace Go.Proofs.Ytggjjjfdkgfoiaa
open Go.BigFrame
open Go.RowKit Go.Proofs.Ytggjjjfdkgfoiaa.Plain

set_option maxHeartbeats 3200000 in
set_option maxRecDepth 100000 in
theorem radixanswers_any (l : List Nat) (L : Option Addr) (lc : Nat) (ys : List Int) (O : Option Addr) (oc : Nat) (a b c : Int) (W : World) (hL : Rd kU32 W (.slice L l.length lc) (zs l)) (hO : Rd kInt W (.slice O ys.length oc) ys) (ha : in64 a) (hb : in64 b) (hc : in64 c) :
    Calls Try.prog 3 #[.slice L l.length lc, .slice O ys.length oc, .agg #[.int .i64 a, .int .i64 b, .int .i64 c]] W fun ed w' => ed = .returned (.bool true) ∧ Ext W w' := by
  have HL := Lib.hid hL
  have HQ := Lib.hid hO
  have HG := Lib.hid (And.intro ha (And.intro hb hc))
  clear hL hO ha hb hc
  go_enter Try.func3, Try.ntmps3
  go_wp2_with fail
  refine (ralive_any _).mono ?_
  rintro ed w1 ⟨rfl, hE1⟩
  have q0 : w1.cell? ⟨W.heap.size, 0, none⟩ = some (.int .i64 a) := Ext.cell hE1 (by go_simp)
  have q1 : w1.cell? ⟨W.heap.size, 1, none⟩ = some (.int .i64 b) := Ext.cell hE1 (by go_simp)
  have q2 : w1.cell? ⟨W.heap.size, 2, none⟩ = some (.int .i64 c) := Ext.cell hE1 (by go_simp)
  have qf : ∀ o, w1.frozen? ⟨W.heap.size, o, none⟩ = false := fun o => (Below.frozen hE1 (p := ⟨W.heap.size, o, none⟩) (by first | omega | (simp; omega) | simp)).trans (by go_simp)
  have HX1 := Lib.hid (((Ext.refl W).alloc (.cells #[.int .i64 a, .int .i64 b, .int .i64 c] 24)).trans hE1)
  have lz1 := hE1.size
  simp at lz1
  have n1 : W.heap.size < w1.heap.size := by omega
  clear hE1
  by_cases h1 : (60 : Int) < l.length
  · go_wp2_with fail
    go_ret
    exact ⟨rfl, HX1.out⟩
  by_cases h3 : (60 : Int) < ys.length
  · have h1' : (l.length : Int) ≤ 60 := by omega
    go_wp2_with fail
    go_ret
    exact ⟨rfl, HX1.out⟩
  have h1' : (l.length : Int) ≤ 60 := by omega
  have h3' : (ys.length : Int) ≤ 60 := by omega
  clear h1 h3
  obtain ⟨⟨os, ok⟩, hr⟩ : ∃ x, passR l ys a b = x := ⟨_, rfl⟩
  have HS := Lib.hid hr
  obtain ⟨⟨sl, sk⟩, hr2⟩ : ∃ x, sortedR l ys = x := ⟨_, rfl⟩
  have HR2 := Lib.hid hr2
  clear hr hr2
  go_wp2_with fail
  refine (ppass10_any l ys L O lc oc a b _ (HL.out.ext HX1.out) (HQ.out.ext HX1.out) (by omega) (by omega) HG.out.1 HG.out.2.1).mono ?_
  rw [HS.out]
  rintro ed w2 ⟨La, la, rfl, hOa, hE2⟩
  simp only at hOa ⊢
  replace q0 := Ext.cell hE2 q0
  replace q1 := Ext.cell hE2 q1
  replace q2 := Ext.cell hE2 q2
  have lb2_0 : W.heap.size < w2.heap.size := by have := Ext.size hE2; omega
  have HX2 := Lib.hid (HX1.out.trans hE2)
  have Ha_2 := Lib.hid (hOa.rd)
  clear hE2 HX1 n1
  go_wp2_with fail
  refine (rpass10_any l ys L O lc oc a b _ (HL.out.ext HX2.out) (HQ.out.ext HX2.out) (by omega) HG.out.1 HG.out.2.1).mono ?_
  rw [HS.out]
  rintro ed w3 ⟨Lb, lb, rfl, hOb, hE3⟩
  simp only at hOb ⊢
  replace q0 := Ext.cell hE3 q0
  replace q1 := Ext.cell hE3 q1
  replace q2 := Ext.cell hE3 q2
  have lb3_0 : W.heap.size < w3.heap.size := by have := Ext.size hE3; omega
  have HX3 := Lib.hid (HX2.out.trans hE3)
  have Ha_3 := Lib.hid (Ha_2.out.ext hE3)
  have Hb_3 := Lib.hid (hOb.rd)
  clear hE3 HX2 Ha_2 lb2_0
  go_wp2_with fail
  refine (psorted_any l ys L O lc oc _ (HL.out.ext HX3.out) (HQ.out.ext HX3.out) (by omega) (by omega)).mono ?_
  rw [HR2.out]
  rintro ed w4 ⟨Lc, lc_, rfl, hOc, hE4⟩
  simp only at hOc ⊢
  replace q0 := Ext.cell hE4 q0
  replace q1 := Ext.cell hE4 q1
  replace q2 := Ext.cell hE4 q2
  have lb4_0 : W.heap.size < w4.heap.size := by have := Ext.size hE4; omega
  have HX4 := Lib.hid (HX3.out.trans hE4)
  have Ha_4 := Lib.hid (Ha_3.out.ext hE4)
  have Hb_4 := Lib.hid (Hb_3.out.ext hE4)
  have Hc_4 := Lib.hid (hOc.rd)
  clear hE4 HX3 Ha_3 Hb_3 lb3_0
  go_wp2_with fail
  refine (rsorted_any l ys L O lc oc _ (HL.out.ext HX4.out) (HQ.out.ext HX4.out) (by omega)).mono ?_
  rw [HR2.out]
  rintro ed w5 ⟨Ld, ld, rfl, hOd, hE5⟩
  simp only at hOd ⊢
  replace q0 := Ext.cell hE5 q0
  replace q1 := Ext.cell hE5 q1
  replace q2 := Ext.cell hE5 q2
  have lb5_0 : W.heap.size < w5.heap.size := by have := Ext.size hE5; omega
  have HX5 := Lib.hid (HX4.out.trans hE5)
  have Ha_5 := Lib.hid (Ha_4.out.ext hE5)
  have Hb_5 := Lib.hid (Hb_4.out.ext hE5)
  have Hc_5 := Lib.hid (Hc_4.out.ext hE5)
  have Hd_5 := Lib.hid (hOd.rd)
  clear hE5 HX4 Ha_4 Hb_4 Hc_4 lb4_0
  obtain ⟨kk, hkk⟩ : ∃ kk : Nat, IntKind.u32.wrap c = (kk : Int) := ⟨(IntKind.u32.wrap c).toNat, by rw [IntKind.wrap_u32]; omega⟩
  have hkl : kk < 4294967296 := by rw [IntKind.wrap_u32] at hkk; omega
  obtain ⟨np, hnp⟩ : ∃ x, passesP b = x := ⟨_, rfl⟩
  obtain ⟨dd, hdd⟩ : ∃ x, digitP kk a b = x := ⟨_, rfl⟩
  have HF1 : Hid (∀ w', Ext w5 w' → Calls Try.prog 12 #[.slice La os.length la, .slice Lb os.length lb] w' fun ed w'' => ed = .returned (.bool true) ∧ Ext w5 w'') := Lib.hid fun w' hE => (ints_e _ _ _ _ w' (Ha_5.out.ext hE) (Hb_5.out.ext hE)).mono fun ed w'' hh => ⟨by rw [hh.1, sameB_refl], hE.trans hh.2⟩
  have HF2 : Hid (∀ w', Ext w5 w' → Calls Try.prog 13 #[.slice Lc sl.length lc_, .slice Ld sl.length ld] w' fun ed w'' => ed = .returned (.bool true) ∧ Ext w5 w'') := Lib.hid fun w' hE => (rwords_any _ _ _ _ w' (Hc_5.out.ext hE) (Hd_5.out.ext hE)).mono fun ed w'' hh => ⟨by rw [hh.1, sameB_refl], hE.trans hh.2⟩
  have HF3 : Hid (∀ w', Ext w5 w' → Calls Try.prog 14 #[.int .i64 b] w' fun ed w'' => ed = .returned (.int .i64 np) ∧ Ext w5 w'') := Lib.hid fun w' hE => (ppasses_any b w' HG.out.2.1).mono fun ed w'' hh => ⟨by rw [hh.1, hnp], hE.trans hh.2⟩
  have HF4 : Hid (∀ w', Ext w5 w' → Calls Try.prog 15 #[.int .i64 b] w' fun ed w'' => ed = .returned (.int .i64 np) ∧ Ext w5 w'') := Lib.hid fun w' hE => (rpasses_any b w' HG.out.2.1).mono fun ed w'' hh => ⟨by rw [hh.1, hnp], hh.2 ▸ hE⟩
  have HF5 : Hid (∀ w', Ext w5 w' → Calls Try.prog 16 #[.int .u32 kk, .int .i64 a, .int .i64 b] w' fun ed w'' => ed = .returned (.int .u32 dd) ∧ Ext w5 w'') := Lib.hid fun w' hE => (pdigit_any kk a b w' hkl HG.out.1 HG.out.2.1).mono fun ed w'' hh => ⟨by rw [hh.1, hdd], hE.trans hh.2⟩
  have HF6 : Hid (∀ w', Ext w5 w' → Calls Try.prog 17 #[.int .u32 kk, .int .i64 a, .int .i64 b] w' fun ed w'' => ed = .returned (.int .u32 dd) ∧ Ext w5 w'') := Lib.hid fun w' hE => (rdigit_any kk a b w' hkl HG.out.1 HG.out.2.1).mono fun ed w'' hh => ⟨by rw [hh.1, hdd], hE.trans hh.2⟩
  have KS : Hid (∀ w', Ext w5 w' → w'.cell? ⟨W.heap.size, 0, none⟩ = some (.int .i64 a) ∧ w'.cell? ⟨W.heap.size, 1, none⟩ = some (.int .i64 b) ∧ w'.cell? ⟨W.heap.size, 2, none⟩ = some (.int .i64 c)) := Lib.hid (fun w' hE => ⟨hE.cell q0, hE.cell q1, hE.cell q2⟩)
  go_upto_region 10 with fail
  clear q0 q1 q2 hnp hdd hkl
  refine wp_region_class (Ext w5) (by kernel_rfl) (by kernel_rfl) (Ext.refl _).drew ?_
  try simp only [List.append_eq, List.cons_append, List.nil_append]
  repeat (first
    | go_big_quiet_skip
    | (go_big_quiet_want
       first
       | (go_big_quiet_op; go_big_quiet_on)
       | (unfold Oper.quiet
          apply Exists.intro
          refine ⟨fun w' hC => ?_, ?_⟩
          · (obtain ⟨k1, k2, k3⟩ := KS.out w' hC
             unfold Oper.quietAt
             go_simp
             first
             | exact rfl
             | (with_reducible exact HF1.out w' hC)
             | (with_reducible exact HF2.out w' hC)
             | (with_reducible exact HF3.out w' hC)
             | (with_reducible exact HF4.out w' hC)
             | (with_reducible exact HF5.out w' hC)
             | (with_reducible exact HF6.out w' hC))
          go_simp
          go_big_quiet_on)
       | (go_big_quiet_op
          apply Exists.intro
          refine ⟨fun w' hC => ?_, ?_⟩
          · exact HF1.out w' hC
          go_big_quiet_on)
       | (go_big_quiet_op
          apply Exists.intro
          refine ⟨fun w' hC => ?_, ?_⟩
          · exact HF2.out w' hC
          go_big_quiet_on)
       | (go_big_quiet_op
          apply Exists.intro
          refine ⟨fun w' hC => ?_, ?_⟩
          · exact HF3.out w' hC
          go_big_quiet_on)
       | (go_big_quiet_op
          apply Exists.intro
          refine ⟨fun w' hC => ?_, ?_⟩
          · exact HF4.out w' hC
          go_big_quiet_on)
       | (go_big_quiet_op
          apply Exists.intro
          refine ⟨fun w' hC => ?_, ?_⟩
          · exact HF5.out w' hC
          go_big_quiet_on)
       | (go_big_quiet_op
          apply Exists.intro
          refine ⟨fun w' hC => ?_, ?_⟩
          · exact HF6.out w' hC
          go_big_quiet_on)))
  refine wpQuiet_nil ?_
  intro w6 hC6
  have HXX := Lib.hid (HX5.out.trans hC6)
  go_wp2_with fail
  go_ret
  exact ⟨ret_bool (by first | rfl | simp), HXX.out⟩
end Go.Proofs.Ytggjjjfdkgfoiaa
