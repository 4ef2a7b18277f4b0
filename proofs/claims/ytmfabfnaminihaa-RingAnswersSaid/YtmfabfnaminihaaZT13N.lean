/- RingAnswers: the law returns true. Written by wip/mk_r13.py. -/
import Derived.Test.YtmfabfnaminihaaJ6
set_option linter.unusedVariables false
set_option linter.unusedSimpArgs false
set_option linter.unnecessarySimpa false
namespace Go.Proofs.Ytmfabfnaminihaa
open Go.BigFrame
open Go.RowKit Go.Proofs.Ytmfabfnaminihaa.Plain

set_option maxHeartbeats 3200000 in
set_option maxRecDepth 100000 in
theorem ringanswers_any (a b : List Int) (L : Option Addr) (lc : Nat) (O : Option Addr) (oc : Nat) (x y : Int) (W : World) (hL : Rd kInt W (.slice L a.length lc) a) (hO : Rd kInt W (.slice O b.length oc) b) (hx : in64 x) (hy : in64 y) :
    Calls Try.prog 3 #[.slice L a.length lc, .slice O b.length oc, .agg #[.int .i64 x, .int .i64 y]] W fun ed w' => ed = .returned (.bool true) ∧ Ext W w' := by
  have HL := Lib.hid hL
  have HQ := Lib.hid hO
  have HG := Lib.hid (And.intro hx hy)
  clear hL hO hx hy
  go_enter Try.func3, Try.ntmps3
  go_wp2_with fail
  refine (ringalive_any _).mono ?_
  rintro ed w1 ⟨rfl, hE1⟩
  have q0 : w1.cell? ⟨W.heap.size, 0, none⟩ = some (.int .i64 x) := Ext.cell hE1 (by go_simp)
  have q1 : w1.cell? ⟨W.heap.size, 1, none⟩ = some (.int .i64 y) := Ext.cell hE1 (by go_simp)
  have qf : ∀ o, w1.frozen? ⟨W.heap.size, o, none⟩ = false := fun o => (Below.frozen hE1 (p := ⟨W.heap.size, o, none⟩) (by first | omega | (simp; omega) | simp)).trans (by go_simp)
  have HX1 := Lib.hid (((Ext.refl W).alloc (.cells #[.int .i64 x, .int .i64 y] 23)).trans hE1)
  have lz1 := hE1.size
  simp at lz1
  have n1 : W.heap.size < w1.heap.size := by omega
  clear hE1
  by_cases h1 : (60 : Int) < a.length
  · go_wp2_with fail
    go_ret
    exact ⟨rfl, HX1.out⟩
  by_cases h3 : (60 : Int) < b.length
  · have h1' : (a.length : Int) ≤ 60 := by omega
    go_wp2_with fail
    go_ret
    exact ⟨rfl, HX1.out⟩
  have h1' : (a.length : Int) ≤ 60 := by omega
  have h3' : (b.length : Int) ≤ 60 := by omega
  clear h1 h3
  obtain ⟨⟨js, jk⟩, hj⟩ : ∃ r, joinR a x b y = r := ⟨_, rfl⟩
  have HJ := Lib.hid hj
  obtain ⟨⟨cs, cp, ck⟩, hc⟩ : ∃ r, cutR a x y = r := ⟨_, rfl⟩
  have HC := Lib.hid hc
  obtain ⟨⟨fs, fk⟩, hf⟩ : ∃ r, fromR a x = r := ⟨_, rfl⟩
  have HF := Lib.hid hf
  obtain ⟨⟨nv, nk⟩, hn⟩ : ∃ r, nextR a x y = r := ⟨_, rfl⟩
  have HN := Lib.hid hn
  obtain ⟨ps, hp⟩ : ∃ r, plainR a = r := ⟨_, rfl⟩
  have HP := Lib.hid hp
  obtain ⟨rk, hr⟩ : ∃ r, rightL a = r := ⟨_, rfl⟩
  have HR := Lib.hid hr
  obtain ⟨sk, hs⟩ : ∃ r, sameR a b = r := ⟨_, rfl⟩
  have HS := Lib.hid hs
  clear hj hc hf hn hp hr hs
  have KS : Hid (∀ w', Ext w1 w' → w'.cell? ⟨W.heap.size, 0, none⟩ = some (.int .i64 x) ∧ w'.cell? ⟨W.heap.size, 1, none⟩ = some (.int .i64 y)) := Lib.hid (fun w' hE => ⟨hE.cell q0, hE.cell q1⟩)
  go_wp2_with fail
  refine wp_region_class (Ext w1) (by kernel_rfl) (by kernel_rfl) (Ext.refl _).drew ?_
  try simp only [List.append_eq, List.cons_append, List.nil_append]
  repeat (first
    | go_big_quiet_skip
    | (go_big_quiet_want
       first
       | (go_big_quiet_op; go_big_quiet_on)
       | (unfold Oper.quiet
          apply Exists.intro
          refine ⟨fun w' hC => ?_, ?_⟩
          · (obtain ⟨k1, k2⟩ := KS.out w' hC
             unfold Oper.quietAt
             go_simp
             first
             | exact rfl)
          go_simp
          go_big_quiet_on)))
  refine wpQuiet_nil ?_
  intro w2 hC2
  have HX2 := Lib.hid (HX1.out.trans hC2)
  clear hC2 q0 q1 HX1
  go_wp2_with fail
  refine (pjoin13_any a b L O lc oc x y _ (HL.out.ext HX2.out) (HQ.out.ext HX2.out) (by omega) (by omega) HG.out.1 HG.out.2).mono ?_
  rw [HJ.out]
  rintro ed w3 ⟨La, la, rfl, hOa, hE3⟩
  simp only at hOa ⊢
  have HX3 := Lib.hid (HX2.out.trans hE3)
  have Ha_3 := Lib.hid (hOa.rd)
  clear hE3 HX2
  go_wp2_with fail
  refine (rjoin_any a b L O lc oc x y _ (HL.out.ext HX3.out) (HQ.out.ext HX3.out)).mono ?_
  rw [HJ.out]
  rintro ed w4 ⟨Lb, lb, rfl, hOb, hE4⟩
  simp only at hOb ⊢
  have HX4 := Lib.hid (HX3.out.trans hE4)
  have Ha_4 := Lib.hid (Ha_3.out.ext hE4)
  have Hb_4 := Lib.hid (hOb.rd)
  clear hE4 HX3 Ha_3
  go_wp2_with fail
  refine (pcut13_any a L lc x y _ (HL.out.ext HX4.out) (by omega) HG.out.1 HG.out.2).mono ?_
  rw [HC.out]
  rintro ed w5 ⟨Lc, Ld, lc_, ld, rfl, hOc, hOd, hE5⟩
  simp only at hOc hOd ⊢
  have HX5 := Lib.hid (HX4.out.trans hE5)
  have Ha_5 := Lib.hid (Ha_4.out.ext hE5)
  have Hb_5 := Lib.hid (Hb_4.out.ext hE5)
  have Hc_5 := Lib.hid (hOc.rd)
  have Hd_5 := Lib.hid (hOd.rd)
  clear hE5 HX4 Ha_4 Hb_4
  go_wp2_with fail
  refine (rcut_any a L lc x y _ (HL.out.ext HX5.out)).mono ?_
  rw [HC.out]
  rintro ed w6 ⟨Le, Lf, le, lf, rfl, hOe, hOf, hE6⟩
  simp only at hOe hOf ⊢
  have HX6 := Lib.hid (HX5.out.trans hE6)
  have Ha_6 := Lib.hid (Ha_5.out.ext hE6)
  have Hb_6 := Lib.hid (Hb_5.out.ext hE6)
  have Hc_6 := Lib.hid (Hc_5.out.ext hE6)
  have Hd_6 := Lib.hid (Hd_5.out.ext hE6)
  have He_6 := Lib.hid (hOe.rd)
  have Hf_6 := Lib.hid (hOf.rd)
  clear hE6 HX5 Ha_5 Hb_5 Hc_5 Hd_5
  go_wp2_with fail
  refine (pfrom13_any a L lc x _ (HL.out.ext HX6.out) (by omega) HG.out.1).mono ?_
  rw [HF.out]
  rintro ed w7 ⟨Lg, lg, rfl, hOg, hE7⟩
  simp only at hOg ⊢
  have HX7 := Lib.hid (HX6.out.trans hE7)
  have Ha_7 := Lib.hid (Ha_6.out.ext hE7)
  have Hb_7 := Lib.hid (Hb_6.out.ext hE7)
  have Hc_7 := Lib.hid (Hc_6.out.ext hE7)
  have Hd_7 := Lib.hid (Hd_6.out.ext hE7)
  have He_7 := Lib.hid (He_6.out.ext hE7)
  have Hf_7 := Lib.hid (Hf_6.out.ext hE7)
  have Hg_7 := Lib.hid (hOg.rd)
  clear hE7 HX6 Ha_6 Hb_6 Hc_6 Hd_6 He_6 Hf_6
  go_wp2_with fail
  refine (rfrom_any a L lc x _ (HL.out.ext HX7.out)).mono ?_
  rw [HF.out]
  rintro ed w8 ⟨Lh, lh, rfl, hOh, hE8⟩
  simp only at hOh ⊢
  have HX8 := Lib.hid (HX7.out.trans hE8)
  have Ha_8 := Lib.hid (Ha_7.out.ext hE8)
  have Hb_8 := Lib.hid (Hb_7.out.ext hE8)
  have Hc_8 := Lib.hid (Hc_7.out.ext hE8)
  have Hd_8 := Lib.hid (Hd_7.out.ext hE8)
  have He_8 := Lib.hid (He_7.out.ext hE8)
  have Hf_8 := Lib.hid (Hf_7.out.ext hE8)
  have Hg_8 := Lib.hid (Hg_7.out.ext hE8)
  have Hh_8 := Lib.hid (hOh.rd)
  clear hE8 HX7 Ha_7 Hb_7 Hc_7 Hd_7 He_7 Hf_7 Hg_7
  go_wp2_with fail
  refine (pnext13_any a L lc x y _ (HL.out.ext HX8.out) (by omega) HG.out.1 HG.out.2).mono ?_
  rw [HN.out]
  rintro ed w9 ⟨rfl, hE9⟩
  have HX9 := Lib.hid (HX8.out.trans hE9)
  have Ha_9 := Lib.hid (Ha_8.out.ext hE9)
  have Hb_9 := Lib.hid (Hb_8.out.ext hE9)
  have Hc_9 := Lib.hid (Hc_8.out.ext hE9)
  have Hd_9 := Lib.hid (Hd_8.out.ext hE9)
  have He_9 := Lib.hid (He_8.out.ext hE9)
  have Hf_9 := Lib.hid (Hf_8.out.ext hE9)
  have Hg_9 := Lib.hid (Hg_8.out.ext hE9)
  have Hh_9 := Lib.hid (Hh_8.out.ext hE9)
  clear hE9 HX8 Ha_8 Hb_8 Hc_8 Hd_8 He_8 Hf_8 Hg_8 Hh_8
  go_wp2_with fail
  refine (rnext_any a L lc x y _ (HL.out.ext HX9.out) HG.out.2).mono ?_
  rw [HN.out]
  rintro ed w10 ⟨rfl, hE10⟩
  have HX10 := Lib.hid (HX9.out.trans hE10)
  have Ha_10 := Lib.hid (Ha_9.out.ext hE10)
  have Hb_10 := Lib.hid (Hb_9.out.ext hE10)
  have Hc_10 := Lib.hid (Hc_9.out.ext hE10)
  have Hd_10 := Lib.hid (Hd_9.out.ext hE10)
  have He_10 := Lib.hid (He_9.out.ext hE10)
  have Hf_10 := Lib.hid (Hf_9.out.ext hE10)
  have Hg_10 := Lib.hid (Hg_9.out.ext hE10)
  have Hh_10 := Lib.hid (Hh_9.out.ext hE10)
  clear hE10 HX9 Ha_9 Hb_9 Hc_9 Hd_9 He_9 Hf_9 Hg_9 Hh_9
  go_wp2_with fail
  refine (ints_e _ _ _ _ _ Ha_10.out Hb_10.out).mono ?_
  rintro ed w11 ⟨rfl, hE11⟩
  rw [sameB_refl]
  have HX11 := Lib.hid (HX10.out.trans hE11)
  have Ha_11 := Lib.hid (Ha_10.out.ext hE11)
  have Hb_11 := Lib.hid (Hb_10.out.ext hE11)
  have Hc_11 := Lib.hid (Hc_10.out.ext hE11)
  have Hd_11 := Lib.hid (Hd_10.out.ext hE11)
  have He_11 := Lib.hid (He_10.out.ext hE11)
  have Hf_11 := Lib.hid (Hf_10.out.ext hE11)
  have Hg_11 := Lib.hid (Hg_10.out.ext hE11)
  have Hh_11 := Lib.hid (Hh_10.out.ext hE11)
  clear hE11 HX10 Ha_10 Hb_10 Hc_10 Hd_10 He_10 Hf_10 Hg_10 Hh_10
  go_wp2_with fail
  clear Ha_11
  clear Hb_11
  refine (ints_e _ _ _ _ _ Hc_11.out He_11.out).mono ?_
  rintro ed w12 ⟨rfl, hE12⟩
  rw [sameB_refl]
  have HX12 := Lib.hid (HX11.out.trans hE12)
  have Hc_12 := Lib.hid (Hc_11.out.ext hE12)
  have Hd_12 := Lib.hid (Hd_11.out.ext hE12)
  have He_12 := Lib.hid (He_11.out.ext hE12)
  have Hf_12 := Lib.hid (Hf_11.out.ext hE12)
  have Hg_12 := Lib.hid (Hg_11.out.ext hE12)
  have Hh_12 := Lib.hid (Hh_11.out.ext hE12)
  clear hE12 HX11 Hc_11 Hd_11 He_11 Hf_11 Hg_11 Hh_11
  go_wp2_with fail
  clear Hc_12
  clear He_12
  refine (ints_e _ _ _ _ _ Hd_12.out Hf_12.out).mono ?_
  rintro ed w13 ⟨rfl, hE13⟩
  rw [sameB_refl]
  have HX13 := Lib.hid (HX12.out.trans hE13)
  have Hd_13 := Lib.hid (Hd_12.out.ext hE13)
  have Hf_13 := Lib.hid (Hf_12.out.ext hE13)
  have Hg_13 := Lib.hid (Hg_12.out.ext hE13)
  have Hh_13 := Lib.hid (Hh_12.out.ext hE13)
  clear hE13 HX12 Hd_12 Hf_12 Hg_12 Hh_12
  go_wp2_with fail
  clear Hd_13
  clear Hf_13
  refine (ints_e _ _ _ _ _ Hg_13.out Hh_13.out).mono ?_
  rintro ed w14 ⟨rfl, hE14⟩
  rw [sameB_refl]
  have HX14 := Lib.hid (HX13.out.trans hE14)
  have Hg_14 := Lib.hid (Hg_13.out.ext hE14)
  have Hh_14 := Lib.hid (Hh_13.out.ext hE14)
  clear hE14 HX13 Hg_13 Hh_13
  go_wp2_with fail
  clear Hg_14
  clear Hh_14
  refine (pplain13_any a L lc _ (HL.out.ext HX14.out) (by omega)).mono ?_
  rw [HP.out]
  rintro ed w15 ⟨Lp, lp, rfl, hOp, hE15⟩
  have HX15 := Lib.hid (HX14.out.trans hE15)
  have Hp_15 := Lib.hid (hOp.rd)
  clear hE15 HX14
  go_wp2_with fail
  refine (rplain_any a L lc _ (HL.out.ext HX15.out)).mono ?_
  rw [HP.out]
  rintro ed w16 ⟨Lq, lq, rfl, hOq, hE16⟩
  have HX16 := Lib.hid (HX15.out.trans hE16)
  have Hp_16 := Lib.hid (Hp_15.out.ext hE16)
  have Hq_16 := Lib.hid (hOq.rd)
  clear hE16 HX15 Hp_15
  go_wp2_with fail
  refine (ints_e _ _ _ _ _ Hp_16.out Hq_16.out).mono ?_
  rintro ed w17 ⟨rfl, hE17⟩
  rw [sameB_refl]
  have HX17 := Lib.hid (HX16.out.trans hE17)
  have Hp_17 := Lib.hid (Hp_16.out.ext hE17)
  have Hq_17 := Lib.hid (Hq_16.out.ext hE17)
  clear hE17 HX16 Hp_16 Hq_16
  go_wp2_with fail
  clear Hp_17
  clear Hq_17
  refine (pright13_any a L lc _ (HL.out.ext HX17.out) (by omega)).mono ?_
  rw [HR.out]
  rintro ed w18 ⟨rfl, hE18⟩
  have HX18 := Lib.hid (HX17.out.trans hE18)
  clear hE18 HX17
  go_wp2_with fail
  refine (rright13_any a L lc _ (HL.out.ext HX18.out)).mono ?_
  rw [HR.out]
  rintro ed w19 ⟨rfl, hE19⟩
  have HX19 := Lib.hid (HX18.out.trans hE19)
  clear hE19 HX18
  go_wp2_with fail
  refine (psame13_any a b L O lc oc _ (HL.out.ext HX19.out) (HQ.out.ext HX19.out) (by omega) (by omega)).mono ?_
  rw [HS.out]
  rintro ed w20 ⟨rfl, hE20⟩
  have HX20 := Lib.hid (HX19.out.trans hE20)
  clear hE20 HX19
  go_wp2_with fail
  refine (rsame13_any a b L O lc oc _ (HL.out.ext HX20.out) (HQ.out.ext HX20.out)).mono ?_
  rw [HS.out]
  rintro ed w21 ⟨rfl, hE21⟩
  have HX21 := Lib.hid (HX20.out.trans hE21)
  clear hE21 HX20
  go_wp2_with fail
  go_ret
  exact ⟨ret_bool (by first | rfl | simp), HX21.out⟩
end Go.Proofs.Ytmfabfnaminihaa
