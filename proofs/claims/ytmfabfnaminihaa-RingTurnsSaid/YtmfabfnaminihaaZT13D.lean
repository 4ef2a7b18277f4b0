/- RingTurns: the law returns true. Written by wip/mk_r13.py. -/
import Derived.Test.YtmfabfnaminihaaJ6
set_option linter.unusedVariables false
set_option linter.unusedSimpArgs false
set_option linter.unnecessarySimpa false
namespace Go.Proofs.Ytmfabfnaminihaa
open Go.BigFrame
open Go.RowKit Go.Proofs.Ytmfabfnaminihaa.Plain

set_option maxHeartbeats 3200000 in
set_option maxRecDepth 100000 in
theorem ringturns_any (l : List Int) (L : Option Addr) (lc : Nat) (t d : Int) (W : World) (hL : Rd kInt W (.slice L l.length lc) l) (ht : in64 t) (hd : in64 d) :
    Calls Try.prog 6 #[.slice L l.length lc, .int .i64 t, .int .i64 d] W fun ed w' => ed = .returned (.bool true) ∧ Ext W w' := by
  have HL := Lib.hid hL
  have HG := Lib.hid (And.intro ht hd)
  clear hL ht hd
  go_enter Try.func6, Try.ntmps6
  go_wp2_with fail
  refine (ringalive_any _).mono ?_
  rintro ed w1 ⟨rfl, hE1⟩
  have HX1 := Lib.hid ((Ext.refl W).trans hE1)
  clear hE1
  by_cases h1 : (60 : Int) < l.length
  · go_wp2_with fail
    go_ret
    exact ⟨rfl, HX1.out⟩
  have h1' : (l.length : Int) ≤ 60 := by omega
  clear h1
  go_wp2_with fail
  refine (rright13_any l L lc _ (HL.out.ext HX1.out)).mono ?_
  rintro ed w2 ⟨rfl, hE2⟩
  have HX2 := Lib.hid (HX1.out.trans hE2)
  clear hE2 HX1
  cases hr : rightL l with
  | false =>
    clear hr
    go_wp2_with fail
    go_ret
    exact ⟨rfl, HX2.out⟩
  | true =>
    by_cases h0 : l.length = 0
    · have e0 : ((l.length : Int) == 0) = true := by rw [beq_iff_eq]; omega
      clear hr h0
      go_wp2_with fail
      go_ret
      exact ⟨rfl, HX2.out⟩
    have e0 : ((l.length : Int) == 0) = false := by rw [beq_eq_false_iff_ne]; omega
    have hlp : (0 : Int) < l.length := by omega
    by_cases hx : t ∈ l
    · obtain ⟨g1, g2, g3, g4, g5, g6, g7, g8⟩ := ring_turns (d := d) hr hx
      obtain ⟨⟨nv, nk⟩, hn⟩ : ∃ r, nextR l t d = r := ⟨_, rfl⟩
      rw [hn] at g2 g3
      simp only at g2 g3
      subst g2
      have hnv : in64 nv := by
        have h9 := next_is (d := d) hr hx
        rw [hn] at h9
        have h8 : nv = (fromL l t).getD (d % (l.length : Int)).toNat 0 := congrArg Prod.fst h9
        have h7 : (d % (l.length : Int)).toNat < (fromL l t).length := by rw [from_len]; have := Int.emod_lt_of_pos d (b := (l.length : Int)) hlp; have := Int.emod_nonneg d (b := (l.length : Int)) (by omega); omega
        have h6 := (from_perm (l := l) t).mem_iff.1 (ints_mem h7)
        have := ((rightL_iff l).1 hr).2.1 _ h6
        rw [← h8] at this
        unfold in64; omega
      obtain ⟨F, hF⟩ : ∃ F, fromL l t = F := ⟨_, rfl⟩
      rw [hF] at g1 g5 g6 g7 g8
      obtain ⟨e, he⟩ : ∃ e, d.tmod l.length = e := ⟨_, rfl⟩
      rw [he] at g3
      have hb1 : -(l.length : Int) < e ∧ e < l.length := by
        rw [← he]
        have h5 := Int.tmod_lt_of_pos (-d) (b := (l.length : Int)) (by omega)
        rw [Int.neg_tmod] at h5
        have h6 := Int.tmod_lt_of_pos d (b := (l.length : Int)) (by omega)
        omega
      have hlne : (l.length : Int) ≠ 0 := by omega
      have hw1 : IntKind.i64.wrap e = e := IntWalk.i64_in _ (by omega)
      have hw2 : IntKind.i64.wrap (-e) = -e := IntWalk.i64_in _ (by omega)
      have HE : Hid (in64 (-e) ∧ in64 (l.length : Int)) := Lib.hid ⟨by unfold in64; omega, by unfold in64; omega⟩
      have H1 := Lib.hid g1
      have H2 := Lib.hid hn
      have H3 := Lib.hid g3
      have H4 := Lib.hid g4
      have H5 := Lib.hid g5
      have H6 := Lib.hid g6
      have H7 := Lib.hid g7
      have H8 := Lib.hid g8
      have HNV := Lib.hid hnv
      have e5 : ((F.length : Int) == (l.length : Int)) = true := by rw [g5]; simp
      have hFp : (0 : Int) < F.length := by rw [g5]; exact hlp
      have HFL : Hid (F.length ≤ 2000) := Lib.hid (by rw [g5]; omega)
      clear hx hr h0 hn hF g1 g3 g4 g5 g6 g7 g8 hnv hb1
      go_wp2_with fail
      refine (pfrom13_any l L lc t _ (HL.out.ext HX2.out) (by omega) HG.out.1).mono ?_
      rw [H1.out]
      rintro ed w3 ⟨Lf, lf, rfl, hOf, hE3⟩
      simp only at hOf ⊢
      have HX3 := Lib.hid (HX2.out.trans hE3)
      have Hf_3 := Lib.hid (hOf.rd)
      clear hE3 HX2
      go_wp2_with fail
      refine (pnext13_any l L lc t d _ (HL.out.ext HX3.out) (by omega) HG.out.1 HG.out.2).mono ?_
      rw [H2.out]
      rintro ed w4 ⟨rfl, hE4⟩
      have HX4 := Lib.hid (HX3.out.trans hE4)
      have Hf_4 := Lib.hid (Hf_3.out.ext hE4)
      clear hE4 HX3 Hf_3
      go_wp2_with fail
      refine (pnext13_any l L lc nv (-e) _ (HL.out.ext HX4.out) (by omega) HNV.out HE.out.1).mono ?_
      rw [H3.out]
      rintro ed w5 ⟨rfl, hE5⟩
      have HX5 := Lib.hid (HX4.out.trans hE5)
      have Hf_5 := Lib.hid (Hf_4.out.ext hE5)
      clear hE5 HX4 Hf_4
      go_wp2_with fail
      refine (pnext13_any l L lc t l.length _ (HL.out.ext HX5.out) (by omega) HG.out.1 HE.out.2).mono ?_
      rw [H4.out]
      rintro ed w6 ⟨rfl, hE6⟩
      have HX6 := Lib.hid (HX5.out.trans hE6)
      have Hf_6 := Lib.hid (Hf_5.out.ext hE6)
      clear hE6 HX5 Hf_5
      obtain ⟨bf, of, rfl, hcf⟩ := (ints_of_rd Hf_6.out).cells (by omega)
      have z0 : w6.cell? ⟨bf, of, none⟩ = some (.int .i64 t) := by have h9 := hcf 0 (by omega); rw [H6.out] at h9; simpa using h9
      have lbf : bf < w6.heap.size := World.block_lt_of_cell? _ _ z0
      clear hcf
      go_wp2_with fail
      refine (psame13_to F l F.length l.length _ L lf lc true _ Hf_6.out rfl (HL.out.ext HX6.out) rfl HFL.out (by omega) H7.out).mono ?_
      rintro ed w7 ⟨rfl, hE7⟩
      replace z0 := Ext.cell hE7 z0
      have lb7_0 : bf < w7.heap.size := by have := Ext.size hE7; omega
      have HX7 := Lib.hid (HX6.out.trans hE7)
      have Hf_7 := Lib.hid (Hf_6.out.ext hE7)
      clear hE7 HX6 Hf_6 lbf
      go_wp2_with fail
      clear z0
      refine (pplain13_any F _ lf _ Hf_7.out HFL.out).mono ?_
      rintro ed w8 ⟨Lp, lp, rfl, hOp, hE8⟩
      have HX8 := Lib.hid (HX7.out.trans hE8)
      have Hf_8 := Lib.hid (Hf_7.out.ext hE8)
      have Hp_8 := Lib.hid (hOp.rd)
      clear hE8 HX7 Hf_7 lb7_0
      go_wp2_with fail
      refine (pplain13_any l L lc _ (HL.out.ext HX8.out) (by omega)).mono ?_
      rintro ed w9 ⟨Lq, lq, rfl, hOq, hE9⟩
      have HX9 := Lib.hid (HX8.out.trans hE9)
      have Hf_9 := Lib.hid (Hf_8.out.ext hE9)
      have Hp_9 := Lib.hid (Hp_8.out.ext hE9)
      have Hq_9 := Lib.hid (hOq.rd)
      clear hE9 HX8 Hf_8 Hp_8
      go_wp2_with fail
      refine (ints_e _ _ _ _ _ Hp_9.out Hq_9.out).mono ?_
      rintro ed w10 ⟨rfl, hE10⟩
      rw [H8.out, sameB_refl]
      have HX10 := Lib.hid (HX9.out.trans hE10)
      have Hf_10 := Lib.hid (Hf_9.out.ext hE10)
      have Hp_10 := Lib.hid (Hp_9.out.ext hE10)
      have Hq_10 := Lib.hid (Hq_9.out.ext hE10)
      clear hE10 HX9 Hf_9 Hp_9 Hq_9
      go_wp2_with fail
      go_ret
      exact ⟨ret_bool (by first | rfl | simp), HX10.out⟩
    · have H1 : Hid (fromR l t = ([], false)) := Lib.hid (by unfold fromR; rw [if_neg (fun h => hx h.2)])
      have H2 : Hid (nextR l t d = (0, false)) := Lib.hid (by unfold nextR; rw [if_neg (fun h => hx h.2)])
      have H3 : Hid (placeP l t = -1) := Lib.hid (place_no hx)
      clear hx hr h0
      go_wp2_with fail
      refine (pfrom13_any l L lc t _ (HL.out.ext HX2.out) (by omega) HG.out.1).mono ?_
      rw [H1.out]
      rintro ed w3 ⟨Lf, lf, rfl, hOf, hE3⟩
      simp only at hOf ⊢
      have HX3 := Lib.hid (HX2.out.trans hE3)
      clear hE3 HX2
      go_wp2_with fail
      refine (pnext13_any l L lc t d _ (HL.out.ext HX3.out) (by omega) HG.out.1 HG.out.2).mono ?_
      rw [H2.out]
      rintro ed w4 ⟨rfl, hE4⟩
      have HX4 := Lib.hid (HX3.out.trans hE4)
      clear hE4 HX3
      go_wp2_with fail
      refine (rplace_any l L lc t _ (HL.out.ext HX4.out)).mono ?_
      rintro ed w9 ⟨rfl, rfl⟩
      rw [H3.out]
      go_wp2_with fail
      go_ret
      exact ⟨ret_bool (by first | rfl | simp), HX4.out⟩
end Go.Proofs.Ytmfabfnaminihaa
