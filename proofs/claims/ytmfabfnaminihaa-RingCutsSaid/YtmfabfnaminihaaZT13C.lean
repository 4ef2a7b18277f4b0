/- RingCuts: the law returns true. Written by wip/mk_r13.py. -/
import Derived.Test.YtmfabfnaminihaaJ6
set_option linter.unusedVariables false
set_option linter.unusedSimpArgs false
set_option linter.unnecessarySimpa false
namespace Go.Proofs.Ytmfabfnaminihaa
open Go.BigFrame
open Go.RowKit Go.Proofs.Ytmfabfnaminihaa.Plain

set_option maxHeartbeats 3200000 in
set_option maxRecDepth 100000 in
theorem ringcuts_any (l : List Int) (L : Option Addr) (lc : Nat) (s t : Int) (W : World) (hL : Rd kInt W (.slice L l.length lc) l) (hs : 0 ≤ s ∧ s ≤ 255) (ht : 0 ≤ t ∧ t ≤ 255) :
    Calls Try.prog 5 #[.slice L l.length lc, .agg #[.int .u8 s, .int .u8 t]] W fun ed w' => ed = .returned (.bool true) ∧ Ext W w' := by
  have HL := Lib.hid hL
  obtain ⟨s0, s1⟩ := hs
  obtain ⟨t0, t1⟩ := ht
  clear hL
  go_enter Try.func5, Try.ntmps5
  go_wp2_with fail
  refine (ringalive_any _).mono ?_
  rintro ed w1 ⟨rfl, hE1⟩
  have q0 : w1.cell? ⟨W.heap.size, 0, none⟩ = some (.int .u8 s) := Ext.cell hE1 (by go_simp)
  have q1 : w1.cell? ⟨W.heap.size, 1, none⟩ = some (.int .u8 t) := Ext.cell hE1 (by go_simp)
  have qf : ∀ o, w1.frozen? ⟨W.heap.size, o, none⟩ = false := fun o => (Below.frozen hE1 (p := ⟨W.heap.size, o, none⟩) (by first | omega | (simp; omega) | simp)).trans (by go_simp)
  have HX1 := Lib.hid (((Ext.refl W).alloc (.cells #[.int .u8 s, .int .u8 t] 36)).trans hE1)
  have lz1 := hE1.size
  simp at lz1
  have n1 : W.heap.size < w1.heap.size := by omega
  clear hE1
  by_cases h1 : (60 : Int) < l.length
  · go_wp2_with fail
    go_ret
    exact ⟨rfl, HX1.out⟩
  have h1' : (l.length : Int) ≤ 60 := by omega
  by_cases h4 : l.length = 0
  · have e0 : ((l.length : Int) == 0) = true := by rw [beq_iff_eq]; omega
    go_wp2_with fail
    go_ret
    exact ⟨rfl, HX1.out⟩
  have e0 : ((l.length : Int) == 0) = false := by rw [beq_eq_false_iff_ne]; omega
  go_wp2_with fail
  refine (rright13_any l L lc _ (HL.out.ext HX1.out)).mono ?_
  rintro ed w2 ⟨rfl, hE2⟩
  replace q0 := Ext.cell hE2 q0
  replace q1 := Ext.cell hE2 q1
  have HX2 := Lib.hid (HX1.out.trans hE2)
  have n2 : W.heap.size < w2.heap.size := by have := hE2.size; omega
  clear hE2 HX1 n1 lz1
  cases hr : rightL l with
  | false =>
    clear hr
    go_wp2_with fail
    go_ret
    exact ⟨rfl, HX2.out⟩
  | true =>
    obtain ⟨A1, hA1⟩ : ∃ A : Nat, s.tmod l.length = (A : Int) := ⟨(s % l.length).toNat, by rw [Int.tmod_eq_emod_of_nonneg s0]; have := Int.emod_nonneg s (b := (l.length : Int)) (by omega); omega⟩
    obtain ⟨B1, hB1⟩ : ∃ A : Nat, t.tmod l.length = (A : Int) := ⟨(t % l.length).toNat, by rw [Int.tmod_eq_emod_of_nonneg t0]; have := Int.emod_nonneg t (b := (l.length : Int)) (by omega); omega⟩
    have hA2 : A1 < l.length := by rw [Int.tmod_eq_emod_of_nonneg s0] at hA1; have := Int.emod_lt_of_pos s (b := (l.length : Int)) (by omega); omega
    have hB2 : B1 < l.length := by rw [Int.tmod_eq_emod_of_nonneg t0] at hB1; have := Int.emod_lt_of_pos t (b := (l.length : Int)) (by omega); omega
    have hma := ints_mem hA2
    have hmb := ints_mem hB2
    have hg : in64 (l.getD A1 0) ∧ in64 (l.getD B1 0) := ⟨HL.out.okAt A1 hA2, HL.out.okAt B1 hB2⟩
    obtain ⟨ba, oa, rfl, hca⟩ := (ints_of_rd (HL.out.ext HX2.out)).cells (by omega)
    have y0 := hca A1 hA2
    have y1 := hca B1 hB2
    obtain ⟨x, hx⟩ : ∃ x, l.getD A1 0 = x := ⟨_, rfl⟩
    obtain ⟨y, hy⟩ : ∃ y, l.getD B1 0 = y := ⟨_, rfl⟩
    rw [hx, hy] at hg
    rw [hx] at y0 hma
    rw [hy] at y1 hmb
    have HG := Lib.hid hg
    obtain ⟨r, p, g1, g2, g3, g4, g5, g6, g7⟩ := ring_cuts hr hma hmb
    have H1 := Lib.hid g1
    have H4 := Lib.hid g4
    have H6 := Lib.hid g6
    have H7 := Lib.hid g7
    have HLN : Hid (r.length ≤ 2000 ∧ p.length ≤ 2000) := Lib.hid (by omega)
    have hwa : IntKind.i64.wrap s = s := IntWalk.i64_in _ (by omega)
    have hwb : IntKind.i64.wrap t = t := IntWalk.i64_in _ (by omega)
    have hwc : IntKind.i64.wrap (A1 : Int) = A1 := IntWalk.i64_in _ (by omega)
    have hwd : IntKind.i64.wrap (B1 : Int) = B1 := IntWalk.i64_in _ (by omega)
    have hA9 : (A1 : Int) < l.length := by omega
    have hB9 : (B1 : Int) < l.length := by omega
    have hA8 : (0 : Int) ≤ A1 := by omega
    have hB8 : (0 : Int) ≤ B1 := by omega
    have hane : (l.length : Int) ≠ 0 := by omega
    have hanl : l ≠ [] := fun e => by rw [e] at h4; exact h4 rfl
    have lba : ba < w2.heap.size := World.block_lt_of_cell? _ _ y0
    have KS : Hid (∀ w', Ext w2 w' → w'.cell? ⟨W.heap.size, 0, none⟩ = some (.int .u8 s) ∧ w'.cell? ⟨W.heap.size, 1, none⟩ = some (.int .u8 t) ∧ w'.cell? ⟨ba, oa + A1, none⟩ = some (.int .i64 x) ∧ w'.cell? ⟨ba, oa + B1, none⟩ = some (.int .i64 y)) := Lib.hid (fun w' hE => ⟨hE.cell q0, hE.cell q1, hE.cell y0, hE.cell y1⟩)
    have e1 : ((r.length : Int) + (p.length : Int) != (l.length : Int)) = false := by rw [bne_eq_false_iff_eq]; omega
    have e2 : ((p.length : Int) == 0) = false := by rw [beq_eq_false_iff_ne]; omega
    obtain ⟨pm, hpm⟩ : ∃ pm : Nat, (p.length : Int) - 1 = (pm : Int) := ⟨p.length - 1, by omega⟩
    have hwp : IntKind.i64.wrap (pm : Int) = pm := IntWalk.i64_in _ (by omega)
    have hpm1 : (pm : Int) < p.length := by omega
    have hpm2 : p.length - 1 = pm := by omega
    have hwr : IntKind.i64.wrap ((r.length : Int) + (p.length : Int)) = (r.length : Int) + (p.length : Int) := IntWalk.i64_in _ (by omega)
    have HPM := Lib.hid (And.intro hpm2 g3)
    clear h1 h4 hx hy hca q0 q1 y0 y1 hA2 hB2 hma hmb hg hr g1 g4 g6 g7 hpm2
    go_wp2_with fail
    refine wp_region_class (Ext w2) (by kernel_rfl) (by kernel_rfl) (Ext.refl _).drew ?_
    try simp only [List.append_eq, List.cons_append, List.nil_append]
    repeat (first
      | go_big_quiet_skip
      | (go_big_quiet_want
         first
         | (go_big_quiet_op; go_big_quiet_on)
         | (unfold Oper.quiet
            apply Exists.intro
            refine ⟨fun w' hC => ?_, ?_⟩
            · (obtain ⟨k1, k2, k3, k4⟩ := KS.out w' hC
               unfold Oper.quietAt
               go_simp
               first
               | exact rfl)
            go_simp
            go_big_quiet_on)))
    refine wpQuiet_nil ?_
    intro w3 hC3
    have HX3 := Lib.hid (HX2.out.trans hC3)
    clear hC3 HX2 KS hwa hwb hwc hwd hA9 hB9 hA8 hB8 hA1 hB1 n2 lba s0 s1 t0 t1
    go_wp2_with fail
    refine (pcut13_any l (some ⟨ba, oa, none⟩) lc x y _ (HL.out.ext HX3.out) (by omega) HG.out.1 HG.out.2).mono ?_
    rw [H1.out]
    rintro ed w4 ⟨Lr, Lp, lr, lp, rfl, hOr, hOp, hE4⟩
    simp only at hOr hOp ⊢
    have HX4 := Lib.hid (HX3.out.trans hE4)
    have Hr_4 := Lib.hid hOr.rd
    have Hp_4 := Lib.hid hOp.rd
    obtain ⟨bp, op, rfl, hcp⟩ := (ints_of_rd hOp.rd).cells HPM.out.2
    have z0 := hcp pm (by have := HPM.out; omega)
    have hz0 := H4.out
    rw [HPM.out.1] at hz0
    rw [hz0] at z0
    have z1 : w4.cell? ⟨bp, op, none⟩ = some (.int .i64 (p.getD 0 0)) := by have := hcp 0 HPM.out.2; simpa using this
    have hq9 : in64 (p.getD 0 0) := Hp_4.out.okAt 0 HPM.out.2
    obtain ⟨q, hq⟩ : ∃ q, p.getD 0 0 = q := ⟨_, rfl⟩
    rw [hq] at z1 hq9 H7
    have HQ9 := Lib.hid hq9
    have lbp : bp < w4.heap.size := World.block_lt_of_cell? _ _ z0
    have hpp : (0 : Int) < p.length := by omega
    clear hE4 HX3 hOr hOp hcp hz0 hq hq9 H1
    by_cases h0 : r.length = 0
    · have hxy : x = y := g5.2 h0
      have e3 : (x == y) = true := by simp [hxy]
      have e4 : ((r.length : Int) == 0) = true := by rw [beq_iff_eq]; omega
      have H6' := Lib.hid (H6.out h0)
      clear hxy g5 h0 H7 g2 g3
      go_wp2_with fail
      refine (psame13_to p l p.length l.length (some ⟨bp, op, none⟩) (some ⟨ba, oa, none⟩) lp lc true _ Hp_4.out rfl (HL.out.ext HX4.out) rfl HLN.out.2 (by omega) H6'.out).mono ?_
      rintro ed w5 ⟨rfl, hE5⟩
      have HX5 := Lib.hid (HX4.out.trans hE5)
      clear hE5
      go_wp2_with fail
      go_ret
      exact ⟨ret_bool (by first | rfl | simp), HX5.out⟩
    · have hxy : x ≠ y := fun e => h0 (g5.1 e)
      have e3 : (x == y) = false := by simp [hxy]
      have e4 : ((r.length : Int) == 0) = false := by rw [beq_eq_false_iff_ne]; omega
      obtain ⟨j, f1, f2, f3, f4, f5⟩ := H7.out (by omega)
      have HJL : Hid (j.length ≤ 2000) := Lib.hid (by have := ((rightL_iff j).1 (join_ok f1).2.2.2.2.1).1; omega)
      have hp1 := place_iff r x
      have hp2 := place_no f5
      obtain ⟨u, hu⟩ : ∃ u, placeP r x = u := ⟨_, rfl⟩
      rw [hu] at hp1
      have hd1 : decide (0 ≤ u) = true := decide_eq_true (hp1.2 f4)
      have F1 := Lib.hid f1
      have F2 := Lib.hid f2
      have F3 := Lib.hid f3
      have F4 := Lib.hid hu
      have F5 := Lib.hid hp2
      clear hxy g5 h0 H7 f1 f2 f3 f4 f5 hp1 hp2 hu H6 g2 g3
      go_wp2_with fail
      refine (pjoin13_any r p Lr (some ⟨bp, op, none⟩) lr lp x q _ Hr_4.out Hp_4.out HLN.out.1 HLN.out.2 HG.out.1 HQ9.out).mono ?_
      rw [F1.out]
      rintro ed w5 ⟨Lj, lj, rfl, hOj, hE5⟩
      simp only at hOj ⊢
      replace z0 := Ext.cell hE5 z0
      replace z1 := Ext.cell hE5 z1
      have lb5_0 : bp < w5.heap.size := by have := Ext.size hE5; omega
      have HX5 := Lib.hid (HX4.out.trans hE5)
      have Hr_5 := Lib.hid (Hr_4.out.ext hE5)
      have Hp_5 := Lib.hid (Hp_4.out.ext hE5)
      have Hj_5 := Lib.hid (hOj.rd)
      clear hE5 HX4 Hr_4 Hp_4 lbp
      go_wp2_with fail
      refine (pnext13_any l (some ⟨ba, oa, none⟩) lc x 1 _ (HL.out.ext HX5.out) (by omega) HG.out.1 (by decide)).mono ?_
      rw [F3.out]
      rintro ed w6 ⟨rfl, hE6⟩
      replace z0 := Ext.cell hE6 z0
      replace z1 := Ext.cell hE6 z1
      have lb6_0 : bp < w6.heap.size := by have := Ext.size hE6; omega
      have HX6 := Lib.hid (HX5.out.trans hE6)
      have Hr_6 := Lib.hid (Hr_5.out.ext hE6)
      have Hp_6 := Lib.hid (Hp_5.out.ext hE6)
      have Hj_6 := Lib.hid (Hj_5.out.ext hE6)
      clear hE6 HX5 Hr_5 Hp_5 Hj_5 lb5_0
      go_wp2_with fail
      refine (psame13_to j l j.length l.length Lj (some ⟨ba, oa, none⟩) lj lc true _ Hj_6.out rfl (HL.out.ext HX6.out) rfl HJL.out (by omega) F2.out).mono ?_
      rintro ed w7 ⟨rfl, hE7⟩
      replace z0 := Ext.cell hE7 z0
      replace z1 := Ext.cell hE7 z1
      have lb7_0 : bp < w7.heap.size := by have := Ext.size hE7; omega
      have HX7 := Lib.hid (HX6.out.trans hE7)
      have Hr_7 := Lib.hid (Hr_6.out.ext hE7)
      have Hp_7 := Lib.hid (Hp_6.out.ext hE7)
      have Hj_7 := Lib.hid (Hj_6.out.ext hE7)
      clear hE7 HX6 Hr_6 Hp_6 Hj_6 lb6_0
      go_wp2_with fail
      refine (rplace_any r Lr lr x _ Hr_7.out).mono ?_
      rintro ed w8 ⟨rfl, rfl⟩
      rw [F4.out]
      go_wp2_with fail
      refine (rplace_any r Lr lr y _ Hr_7.out).mono ?_
      rintro ed w8 ⟨rfl, rfl⟩
      rw [F5.out]
      go_wp2_with fail
      go_ret
      exact ⟨ret_bool (by first | rfl | simp), HX7.out⟩
end Go.Proofs.Ytmfabfnaminihaa
