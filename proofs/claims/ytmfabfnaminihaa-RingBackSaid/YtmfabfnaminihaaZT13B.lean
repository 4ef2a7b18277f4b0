/- RingBack: the law returns true. Written by wip/mk_r13.py. -/
import Derived.Test.YtmfabfnaminihaaJ6
set_option linter.unusedVariables false
set_option linter.unusedSimpArgs false
set_option linter.unnecessarySimpa false
namespace Go.Proofs.Ytmfabfnaminihaa
open Go.BigFrame
open Go.RowKit Go.Proofs.Ytmfabfnaminihaa.Plain

set_option maxHeartbeats 3200000 in
set_option maxRecDepth 100000 in
theorem ringback_any (a b : List Int) (L : Option Addr) (lc : Nat) (O : Option Addr) (oc : Nat) (s t : Int) (W : World) (hL : Rd kInt W (.slice L a.length lc) a) (hO : Rd kInt W (.slice O b.length oc) b) (hs : 0 ≤ s ∧ s ≤ 255) (ht : 0 ≤ t ∧ t ≤ 255) :
    Calls Try.prog 4 #[.slice L a.length lc, .slice O b.length oc, .agg #[.int .u8 s, .int .u8 t]] W fun ed w' => ed = .returned (.bool true) ∧ Ext W w' := by
  have HL := Lib.hid hL
  have HQ := Lib.hid hO
  obtain ⟨s0, s1⟩ := hs
  obtain ⟨t0, t1⟩ := ht
  clear hL hO
  go_enter Try.func4, Try.ntmps4
  go_wp2_with fail
  refine (ringalive_any _).mono ?_
  rintro ed w1 ⟨rfl, hE1⟩
  have q0 : w1.cell? ⟨W.heap.size, 0, none⟩ = some (.int .u8 s) := Ext.cell hE1 (by go_simp)
  have q1 : w1.cell? ⟨W.heap.size, 1, none⟩ = some (.int .u8 t) := Ext.cell hE1 (by go_simp)
  have qf : ∀ o, w1.frozen? ⟨W.heap.size, o, none⟩ = false := fun o => (Below.frozen hE1 (p := ⟨W.heap.size, o, none⟩) (by first | omega | (simp; omega) | simp)).trans (by go_simp)
  have HX1 := Lib.hid (((Ext.refl W).alloc (.cells #[.int .u8 s, .int .u8 t] 36)).trans hE1)
  have lz1 := hE1.size
  simp at lz1
  have n1 : W.heap.size < w1.heap.size := by omega
  clear hE1
  by_cases h1 : (60 : Int) < a.length
  · go_wp2_with fail
    go_ret
    exact ⟨rfl, HX1.out⟩
  have h1' : (a.length : Int) ≤ 60 := by omega
  by_cases h3 : (60 : Int) < b.length
  · go_wp2_with fail
    go_ret
    exact ⟨rfl, HX1.out⟩
  have h3' : (b.length : Int) ≤ 60 := by omega
  by_cases h4 : a.length = 0
  · have e0 : ((a.length : Int) == 0) = true := by rw [beq_iff_eq]; omega
    go_wp2_with fail
    go_ret
    exact ⟨rfl, HX1.out⟩
  have e0 : ((a.length : Int) == 0) = false := by rw [beq_eq_false_iff_ne]; omega
  by_cases h5 : b.length = 0
  · have e1 : ((b.length : Int) == 0) = true := by rw [beq_iff_eq]; omega
    go_wp2_with fail
    go_ret
    exact ⟨rfl, HX1.out⟩
  have e1 : ((b.length : Int) == 0) = false := by rw [beq_eq_false_iff_ne]; omega
  obtain ⟨A1, hA1⟩ : ∃ A : Nat, s.tmod a.length = (A : Int) := ⟨(s % a.length).toNat, by rw [Int.tmod_eq_emod_of_nonneg s0]; have := Int.emod_nonneg s (b := (a.length : Int)) (by omega); omega⟩
  obtain ⟨B1, hB1⟩ : ∃ A : Nat, t.tmod b.length = (A : Int) := ⟨(t % b.length).toNat, by rw [Int.tmod_eq_emod_of_nonneg t0]; have := Int.emod_nonneg t (b := (b.length : Int)) (by omega); omega⟩
  have hA2 : A1 < a.length := by rw [Int.tmod_eq_emod_of_nonneg s0] at hA1; have := Int.emod_lt_of_pos s (b := (a.length : Int)) (by omega); omega
  have hB2 : B1 < b.length := by rw [Int.tmod_eq_emod_of_nonneg t0] at hB1; have := Int.emod_lt_of_pos t (b := (b.length : Int)) (by omega); omega
  have HM := Lib.hid (And.intro (ints_mem hA2) (ints_mem hB2))
  have HG : Hid (in64 (a.getD A1 0) ∧ in64 (b.getD B1 0)) := Lib.hid ⟨HL.out.okAt A1 hA2, HQ.out.okAt B1 hB2⟩
  obtain ⟨ba, oa, rfl, hca⟩ := (ints_of_rd (HL.out.ext HX1.out)).cells (by omega)
  obtain ⟨bb, ob, rfl, hcb⟩ := (ints_of_rd (HQ.out.ext HX1.out)).cells (by omega)
  have y0 := hca A1 hA2
  have y1 := hcb B1 hB2
  obtain ⟨x, hx⟩ : ∃ x, a.getD A1 0 = x := ⟨_, rfl⟩
  obtain ⟨y, hy⟩ : ∃ y, b.getD B1 0 = y := ⟨_, rfl⟩
  rw [hx, hy] at HM HG
  rw [hx] at y0
  rw [hy] at y1
  have hwa : IntKind.i64.wrap s = s := IntWalk.i64_in _ (by omega)
  have hwb : IntKind.i64.wrap t = t := IntWalk.i64_in _ (by omega)
  have hwc : IntKind.i64.wrap (A1 : Int) = A1 := IntWalk.i64_in _ (by omega)
  have hwd : IntKind.i64.wrap (B1 : Int) = B1 := IntWalk.i64_in _ (by omega)
  have hA9 : (A1 : Int) < a.length := by omega
  have hB9 : (B1 : Int) < b.length := by omega
  have hA8 : (0 : Int) ≤ A1 := by omega
  have hB8 : (0 : Int) ≤ B1 := by omega
  have hane : (a.length : Int) ≠ 0 := by omega
  have hanl : a ≠ [] := fun e => by rw [e] at h4; exact h4 rfl
  have hbnl : b ≠ [] := fun e => by rw [e] at h5; exact h5 rfl
  have hbne : (b.length : Int) ≠ 0 := by omega
  have lba : ba < w1.heap.size := World.block_lt_of_cell? _ _ y0
  have lbb : bb < w1.heap.size := World.block_lt_of_cell? _ _ y1
  have KS : Hid (∀ w', Ext w1 w' → w'.cell? ⟨W.heap.size, 0, none⟩ = some (.int .u8 s) ∧ w'.cell? ⟨W.heap.size, 1, none⟩ = some (.int .u8 t) ∧ w'.cell? ⟨ba, oa + A1, none⟩ = some (.int .i64 x) ∧ w'.cell? ⟨bb, ob + B1, none⟩ = some (.int .i64 y)) := Lib.hid (fun w' hE => ⟨hE.cell q0, hE.cell q1, hE.cell y0, hE.cell y1⟩)
  have HZ : Hid (0 < a.length ∧ 0 < b.length) := Lib.hid (by omega)
  clear h1 h3 h4 h5 hx hy hca hcb q0 q1 y0 y1 hA2 hB2
  go_wp2_with fail
  refine wp_region_class (Ext w1) (by kernel_rfl) (by kernel_rfl) (Ext.refl _).drew ?_
  try simp only [List.append_eq, List.cons_append, List.nil_append]
  repeat (first
    | go_big_quiet_skip
    | (go_big_quiet_want
       first
       | (go_big_quiet_op; go_big_quiet_on)
       | (unfold Oper.quiet
          apply Exists.intro
          refine ⟨fun w' hC => ?_, ?_⟩
          · (obtain ⟨k1, k2, k3, k4⟩ := KS.out w' hC
             unfold Oper.quietAt
             go_simp
             first
             | exact rfl)
          go_simp
          go_big_quiet_on)))
  refine wpQuiet_nil ?_
  intro w2 hC2
  have HX2 := Lib.hid (HX1.out.trans hC2)
  clear hC2 HX1 KS hwa hwb hwc hwd hA9 hB9 hA8 hB8 hA1 hB1 n1 lz1 lba lbb s0 s1 t0 t1
  obtain ⟨⟨js, jk⟩, hj⟩ : ∃ r, joinR a x b y = r := ⟨_, rfl⟩
  have HJ := Lib.hid hj
  clear hj
  go_wp2_with fail
  refine (pjoin13_any a b (some ⟨ba, oa, none⟩) (some ⟨bb, ob, none⟩) lc oc x y _ (HL.out.ext HX2.out) (HQ.out.ext HX2.out) (by omega) (by omega) HG.out.1 HG.out.2).mono ?_
  rw [HJ.out]
  rintro ed w3 ⟨Lj, lj, rfl, hOj, hE3⟩
  simp only at hOj ⊢
  have HX3 := Lib.hid (HX2.out.trans hE3)
  have Hj_3 := Lib.hid (hOj.rd)
  clear hE3 HX2
  cases jk with
  | false =>
    have e9 : ((js.length : Int) == 0) = true := by rw [join_no HJ.out]; rfl
    go_wp2_with fail
    go_ret
    exact ⟨ret_bool (by first | rfl | simp), HX3.out⟩
  | true =>
    obtain ⟨hra, hxa, hrb, hyb, hrj, _⟩ := join_ok HJ.out
    obtain ⟨g1, g2, g3, g4, g5⟩ := ring_back HJ.out
    have hjl := ((rightL_iff js).1 hrj).1
    obtain ⟨⟨z, zk⟩, hz⟩ : ∃ r, nextR b y (-1) = r := ⟨_, rfl⟩
    rw [hz] at g1 g2
    simp only at g1 g2
    subst g1
    have hz9 : in64 z := by
      have h9 := next_is (d := -1) hrb hyb
      rw [hz] at h9
      have h8 : z = (fromL b y).getD ((-1 : Int) % (b.length : Int)).toNat 0 := congrArg Prod.fst h9
      have h7 : ((-1 : Int) % (b.length : Int)).toNat < (fromL b y).length := by rw [from_len]; have := HZ.out; have := Int.emod_lt_of_pos (-1) (b := (b.length : Int)) (by omega); have := Int.emod_nonneg (-1) (b := (b.length : Int)) (by omega); omega
      have h6 := (from_perm (l := b) y).mem_iff.1 (ints_mem h7)
      have := ((rightL_iff b).1 hrb).2.1 _ h6
      rw [← h8] at this
      unfold in64; omega
    have hpl : (plainR a).length ≤ 2000 := by rw [← (rot_perm (plain_right hra)).length_eq]; have := ((rightL_iff a).1 hra).1; omega
    obtain ⟨P, hP⟩ : ∃ P, plainR a = P := ⟨_, rfl⟩
    rw [hP] at g2 g4 hpl
    obtain ⟨F, hF⟩ : ∃ F, fromL b y = F := ⟨_, rfl⟩
    rw [hF] at g2 g3
    have H1 := Lib.hid hz
    have H2 := Lib.hid g2
    have H3 := Lib.hid g3
    have H4 := Lib.hid g4
    have HP9 := Lib.hid hpl
    have HZ9 := Lib.hid hz9
    have HJL : Hid (js.length ≤ 2000) := Lib.hid (by omega)
    have e5 : ((js.length : Int) == (a.length : Int) + (b.length : Int)) = true := by rw [g5]; simp
    clear hra hxa hrb hyb hrj hjl hz hP hF g2 g3 g4 g5 hpl hz9
    go_wp2_with fail
    refine (pnext13_any b (some ⟨bb, ob, none⟩) oc y (-1) _ (HQ.out.ext HX3.out) (by omega) HG.out.2 (by decide)).mono ?_
    rw [H1.out]
    rintro ed w4 ⟨rfl, hE4⟩
    have HX4 := Lib.hid (HX3.out.trans hE4)
    have Hj_4 := Lib.hid (Hj_3.out.ext hE4)
    clear hE4 HX3 Hj_3
    go_wp2_with fail
    refine (pcut13_any js Lj lj x z _ Hj_4.out HJL.out HG.out.1 HZ9.out).mono ?_
    rw [H2.out]
    rintro ed w5 ⟨Lr, Lp, lr, lp, rfl, hOr, hOp, hE5⟩
    simp only at hOr hOp ⊢
    have HX5 := Lib.hid (HX4.out.trans hE5)
    have Hj_5 := Lib.hid (Hj_4.out.ext hE5)
    have Hr_5 := Lib.hid (hOr.rd)
    have Hp_5 := Lib.hid (hOp.rd)
    clear hE5 HX4 Hj_4
    go_wp2_with fail
    refine (pfrom13_any b (some ⟨bb, ob, none⟩) oc y _ (HQ.out.ext HX5.out) (by omega) HG.out.2).mono ?_
    rw [H3.out]
    rintro ed w6 ⟨Lf, lf, rfl, hOf, hE6⟩
    simp only at hOf ⊢
    have HX6 := Lib.hid (HX5.out.trans hE6)
    have Hj_6 := Lib.hid (Hj_5.out.ext hE6)
    have Hr_6 := Lib.hid (Hr_5.out.ext hE6)
    have Hp_6 := Lib.hid (Hp_5.out.ext hE6)
    have Hf_6 := Lib.hid (hOf.rd)
    clear hE6 HX5 Hj_5 Hr_5 Hp_5
    go_wp2_with fail
    refine (psame13_to P a P.length a.length _ (some ⟨ba, oa, none⟩) lr lc true _ Hr_6.out rfl (HL.out.ext HX6.out) rfl HP9.out (by omega) H4.out).mono ?_
    rintro ed w7 ⟨rfl, hE7⟩
    have HX7 := Lib.hid (HX6.out.trans hE7)
    have Hj_7 := Lib.hid (Hj_6.out.ext hE7)
    have Hr_7 := Lib.hid (Hr_6.out.ext hE7)
    have Hp_7 := Lib.hid (Hp_6.out.ext hE7)
    have Hf_7 := Lib.hid (Hf_6.out.ext hE7)
    clear hE7 HX6 Hj_6 Hr_6 Hp_6 Hf_6
    go_wp2_with fail
    refine (ints_e _ _ _ _ _ Hp_7.out Hf_7.out).mono ?_
    rintro ed w8 ⟨rfl, hE8⟩
    rw [sameB_refl]
    have HX8 := Lib.hid (HX7.out.trans hE8)
    have Hj_8 := Lib.hid (Hj_7.out.ext hE8)
    have Hr_8 := Lib.hid (Hr_7.out.ext hE8)
    have Hp_8 := Lib.hid (Hp_7.out.ext hE8)
    have Hf_8 := Lib.hid (Hf_7.out.ext hE8)
    clear hE8 HX7 Hj_7 Hr_7 Hp_7 Hf_7
    go_wp2_with fail
    go_ret
    exact ⟨ret_bool (by first | rfl | simp), HX8.out⟩
end Go.Proofs.Ytmfabfnaminihaa
