/- PackBlocks: the law returns true. Written by wip/mk_p9b.py. -/
import Derived.Test.YtbedfjbnafflfaaJ7
import Derived.Test.YtbedfjbnafflfaaZS8Q
set_option linter.unusedVariables false
set_option linter.unusedSimpArgs false
set_option linter.unnecessarySimpa false
namespace Go.Proofs.Ytbedfjbnafflfaa
open Go.BigFrame
open Go.RowKit Go.Proofs.Ytbedfjbnafflfaa.Plain

theorem Plain.whereP_good (keep : List Bool) (b g m : Int) (picks : List (Int × Int)) (h1 : 1 ≤ b) (h2 : b ≤ 100) (hb : planB g m picks.length = true) : ∃ st, whereP keep b g m picks = (whereL keep, st, 0) := by
  have h := stepsP_good keep.length b g m picks h1 h2 hb
  unfold whereP
  rw [if_neg (by rw [h]; simp)]
  exact ⟨_, rfl⟩
theorem Plain.packP_good (l : List Nat) (keep : List Bool) (b g m : Int) (picks : List (Int × Int)) (hl : l.length = keep.length) (h1 : 1 ≤ b) (h2 : b ≤ 100) (hb : planB g m picks.length = true) : ∃ st, packP l keep b g m picks = (packL l keep, st, 0) := by
  obtain ⟨st, h⟩ := whereP_good keep b g m picks h1 h2 hb
  unfold packP
  rw [if_neg (by omega), h, if_neg (by simp)]
  exact ⟨_, rfl⟩
theorem Plain.packP_where (l : List Nat) (keep : List Bool) (b g m : Int) (picks : List (Int × Int)) (hl : l.length = keep.length) :
    (∃ e, whereP keep b g m picks = ([], 0, e) ∧ packP l keep b g m picks = ([], 0, e) ∧ e = 1) ∨ ∃ st, whereP keep b g m picks = (whereL keep, st, 0) ∧ packP l keep b g m picks = (packL l keep, st, 0) := by
  have hw : whereP keep b g m picks = ([], 0, 1) ∨ ∃ st, whereP keep b g m picks = (whereL keep, st, 0) := by
    unfold whereP
    rcases stepsP_err keep.length b g m picks with h | h
    · rw [if_neg (by rw [h]; simp)]; exact .inr ⟨_, rfl⟩
    · rw [if_pos (by rw [h]; decide), h]; exact .inl rfl
  rcases hw with h | ⟨st, h⟩
  · refine .inl ⟨1, h, ?_, rfl⟩
    unfold packP
    rw [if_neg (by omega), h, if_pos (by decide)]
  · refine .inr ⟨st, h, ?_⟩
    unfold packP
    rw [if_neg (by omega), h, if_neg (by simp)]
/-- the first k true -/
def Plain.firstT (n k : Nat) : List Bool := List.replicate k true ++ List.replicate (n - k) false
theorem Plain.firstT_len (n k : Nat) (h : k ≤ n) : (firstT n k).length = n := by unfold firstT; rw [List.length_append, List.length_replicate, List.length_replicate]; omega
theorem Plain.firstT_set (n k : Nat) (h : k < n) : (firstT n k).set k true = firstT n (k + 1) := by
  unfold firstT
  rw [List.set_append_right _ _ (by rw [List.length_replicate]; exact Nat.le_refl _), List.length_replicate, Nat.sub_self, show n - k = (n - (k + 1)) + 1 by omega, List.replicate_succ, List.set_cons_zero, List.replicate_succ', List.append_assoc]
  rfl
set_option maxHeartbeats 3200000 in
set_option maxRecDepth 100000 in
theorem packblocks_any (l : List Nat) (L : Option Addr) (lc : Nat) (keep : List Bool) (K : Option Addr) (kc : Nat) (b g m : Int) (Ap : Option Addr) (cp : Nat) (picks : List (Int × Int)) (W : World) (hL : Rd kU32 W (.slice L l.length lc) (zs l)) (hK : Rd kBool W (.slice K keep.length kc) keep) (hp : Rd kPk W (.slice Ap picks.length cp) picks) (hb : in64 b) (hg : in64 g) (hm : in64 m) :
    Calls Try.prog 6 #[.slice L l.length lc, .slice K keep.length kc, .agg #[.int .i64 b, .int .i64 g, .int .i64 m, .slice Ap picks.length cp]] W fun ed w' => ed = .returned (.bool true) ∧ Ext W w' := by
  have HL := Lib.hid hL
  have HK := Lib.hid hK
  have HP := Lib.hid hp
  have HG := Lib.hid (And.intro hb (And.intro hg hm))
  clear hL hK hp hb hg hm
  go_enter Try.func6, Try.ntmps6
  go_wp2_with fail
  refine (palive_any _).mono ?_
  rintro ed w1 ⟨rfl, hE1⟩
  have k0 : w1.cell? ⟨W.heap.size, 0, none⟩ = some (.int .i64 b) := Ext.cell hE1 (by go_simp)
  have k1 : w1.cell? ⟨W.heap.size, 1, none⟩ = some (.int .i64 g) := Ext.cell hE1 (by go_simp)
  have k2 : w1.cell? ⟨W.heap.size, 2, none⟩ = some (.int .i64 m) := Ext.cell hE1 (by go_simp)
  have k3 : w1.cell? ⟨W.heap.size, 3, none⟩ = some (.slice Ap picks.length cp) := Ext.cell hE1 (by go_simp)
  have kf : ∀ o, w1.frozen? ⟨W.heap.size, o, none⟩ = false := fun o => (Below.frozen hE1 (p := ⟨W.heap.size, o, none⟩) (by first | omega | (simp; omega) | simp)).trans (by go_simp)
  have HX1 := Lib.hid (((Ext.refl W).alloc (.cells #[.int .i64 b, .int .i64 g, .int .i64 m, .slice Ap picks.length cp] 28)).trans hE1)
  have lz1 := hE1.size
  simp at lz1
  have n1 : W.heap.size < w1.heap.size := by omega
  clear hE1
  by_cases h1 : (60 : Int) < l.length
  · go_wp2_with fail
    go_ret
    exact ⟨rfl, HX1.out⟩
  have h1' : (l.length : Int) ≤ 60 := by omega
  clear h1
  by_cases h2 : l.length ≠ keep.length
  · have hne : ((keep.length : Int) != (l.length : Int)) = true := by simp; omega
    have hnf : (keep.length != l.length) = true := by simp; omega
    go_wp2_with fail
    go_ret
    exact ⟨rfl, HX1.out⟩
  have hlk : l.length = keep.length := by omega
  have hne : ((keep.length : Int) != (l.length : Int)) = false := by simp; omega
  have hnf : (keep.length != l.length) = false := by simp; omega
  by_cases h3 : (100 : Int) < picks.length
  · clear h2 hlk
    go_wp2_with fail
    go_ret
    exact ⟨rfl, HX1.out⟩
  have h3' : (picks.length : Int) ≤ 100 := by omega
  obtain ⟨s1, e1⟩ := packP_good l keep 1 1 1 [] hlk (by decide) (by decide) (by decide)
  have hpw := packP_where l keep b g m picks hlk
  have HLK := Lib.hid hlk
  obtain ⟨N, hN⟩ : ∃ N, l.length = N := ⟨_, rfl⟩
  obtain ⟨s2, e2⟩ := packP_good l (firstT N 0) 7 2 2 [] (by rw [firstT_len _ _ (Nat.zero_le _), hN]) (by decide) (by decide) (by decide)
  obtain ⟨s3, e3⟩ := packP_good l (firstT N N) 7 2 2 [] (by rw [firstT_len _ _ (Nat.le_refl _), hN]) (by decide) (by decide) (by decide)
  have pe2 : packL l (firstT N 0) = [] := by rw [show firstT N 0 = List.replicate N false from rfl, pack_none]
  have pe3 : packL l (firstT N N) = l := by rw [show firstT N N = List.replicate N true by unfold firstT; rw [Nat.sub_self]; simp, ← hN, pack_all]
  rw [pe2] at e2
  rw [pe3] at e3
  clear pe2 pe3
  have hpl := packL_len l keep
  obtain ⟨oa, hoa⟩ : ∃ x, packL l keep = x := ⟨_, rfl⟩
  obtain ⟨ow, how⟩ : ∃ x, whereL keep = x := ⟨_, rfl⟩
  rw [hoa] at e1 hpl hpw
  rw [how] at hpl hpw
  have HE := Lib.hid (And.intro e1 (And.intro e2 e3))
  have HPW := Lib.hid hpw
  have HPL := Lib.hid hpl
  have HN := Lib.hid hN
  have hN60 : N ≤ 60 := by omega
  obtain ⟨C, hmk, hmown⟩ := kBool.make false rfl trivial N (by omega)
  have HMK := Lib.hid hmown
  have hmk2 : ∀ w : World, (Instr.makeSlice 23 (.int .i64 l.length) (.int .i64 l.length)).run Try.prog w = .ok (.slice (some ⟨w.heap.size, 0, none⟩) l.length l.length) (w.alloc (.cells C 4)) := by rw [hN]; exact hmk
  have HN60 := Lib.hid hN60
  clear h2 h3 hlk e1 e2 e3 hpw hpl hoa how hN hmk hmown hN60
  go_wp2_with fail
  obtain ⟨⟨pa, sa, ea⟩, hra⟩ : ∃ x, packP l keep b g m picks = x := ⟨_, rfl⟩
  obtain ⟨⟨pw, sw, ew⟩, hrw⟩ : ∃ x, whereP keep b g m picks = x := ⟨_, rfl⟩
  have HRA := Lib.hid hra
  have HRW := Lib.hid hrw
  clear hra hrw
  refine (ppack_any l keep L K lc kc b g m Ap cp picks _ (HL.out.ext HX1.out) (HK.out.ext HX1.out) (HP.out.ext HX1.out) (by have := HLK.out; omega) HG.out.1 HG.out.2.1 HG.out.2.2).mono ?_
  rw [HRA.out]
  rintro ed w2 ⟨L2, l2, rfl, hO2, hE2⟩
  simp only at hO2 ⊢
  replace k0 := Ext.cell hE2 k0
  replace k1 := Ext.cell hE2 k1
  replace k2 := Ext.cell hE2 k2
  replace k3 := Ext.cell hE2 k3
  have lb2_0 : W.heap.size < w2.heap.size := by have := Ext.size hE2; omega
  have HX2 := Lib.hid (HX1.out.trans hE2)
  have Ha_2 := Lib.hid (hO2.rd)
  clear hE2 HX1
  go_wp2_with fail
  refine (ppack_any l keep L K lc kc 1 1 1 none 0 [] _ (HL.out.ext HX2.out) (HK.out.ext HX2.out) (Rd.nil _ _ _) (by have := HLK.out; omega) (by decide) (by decide) (by decide)).mono ?_
  rw [HE.out.1]
  rintro ed w3 ⟨L3, l3, rfl, hO3, hE3⟩
  simp only at hO3 ⊢
  replace k0 := Ext.cell hE3 k0
  replace k1 := Ext.cell hE3 k1
  replace k2 := Ext.cell hE3 k2
  replace k3 := Ext.cell hE3 k3
  have lb3_0 : W.heap.size < w3.heap.size := by have := Ext.size hE3; omega
  have HX3 := Lib.hid (HX2.out.trans hE3)
  have Ha_3 := Lib.hid (Ha_2.out.ext hE3)
  have Hb_3 := Lib.hid (hO3.rd)
  clear hE3 HX2 Ha_2 lb2_0
  go_wp2_with fail
  refine (pwhere_any keep K kc b g m Ap cp picks _ (HK.out.ext HX3.out) (HP.out.ext HX3.out) (by have := HLK.out; omega) HG.out.1 HG.out.2.1 HG.out.2.2).mono ?_
  rw [HRW.out]
  rintro ed w4 ⟨L4, l4, rfl, hO4, hE4⟩
  simp only at hO4 ⊢
  replace k0 := Ext.cell hE4 k0
  replace k1 := Ext.cell hE4 k1
  replace k2 := Ext.cell hE4 k2
  replace k3 := Ext.cell hE4 k3
  have lb4_0 : W.heap.size < w4.heap.size := by have := Ext.size hE4; omega
  have HX4 := Lib.hid (HX3.out.trans hE4)
  have Ha_4 := Lib.hid (Ha_3.out.ext hE4)
  have Hb_4 := Lib.hid (Hb_3.out.ext hE4)
  clear hE4 HX3 Ha_3 Hb_3 lb3_0
  go_wp2_with fail
  have HM0 : Hid (Ow kBool w4.heap.size (w4.alloc (.cells C 4)) (.slice (some ⟨w4.heap.size, 0, none⟩) N N) (firstT N 0)) := Lib.hid (HMK.out w4 w4.heap.size w4.heap.size rfl (Nat.le_refl _))
  rw [HN.out]
  refine Calls.mono (by
    have hh := ppack_any l (firstT N 0) L (some ⟨w4.heap.size, 0, none⟩) lc N 7 2 2 none 0 [] (w4.alloc (.cells C 4)) (HL.out.ext (HX4.out.alloc _)) (by rw [firstT_len _ _ (Nat.zero_le _)]; exact HM0.out.rd) (Rd.nil _ _ _) (by rw [firstT_len _ _ (Nat.zero_le _)]; have := HN60.out; omega) (by decide) (by decide) (by decide)
    rw [firstT_len _ _ (Nat.zero_le _), HN.out] at hh
    exact hh) ?_
  rw [HE.out.2.1]
  rintro ed w5 ⟨L5, l5, rfl, hO5, hE5⟩
  have HX5 : Hid (Ext w4 w5) := Lib.hid (((Ext.refl _).alloc _).trans hE5)
  obtain ⟨G, hG⟩ : ∃ G, w4.heap.size = G := ⟨_, rfl⟩
  have HM1 : Hid (Ow kBool G w5 (.slice (some ⟨G, 0, none⟩) N N) (firstT N 0)) := Lib.hid (by rw [← hG]; exact HM0.out.ext hE5)
  have HGW := Lib.hid hG
  rw [hG]
  have hN6 : (N : Int) ≤ 60 := by have := HN60.out; omega
  clear hO5 hE5 hG HM0 hmk2 k0 k1 k2 k3
  go_wp2_with fail
  go_loopw [20] (fun i wr => ∃ k : Nat, k ≤ N ∧ i = .int .i64 k ∧ Ow kBool G wr (.slice (some ⟨G, 0, none⟩) N N) (firstT N k) ∧ Ext w4 wr) (fun i _ => N - (intOf i).toNat)
  case atStart => exact ⟨0, Nat.zero_le _, rfl, HM1.out, HX5.out⟩
  case round =>
    obtain ⟨k, hk, rfl, hM, hZ⟩ := hrel
    have HM := Lib.hid hM
    have HZ := Lib.hid hZ
    have hk0 : (0 : Int) ≤ k := by omega
    clear hM hZ
    by_cases hlt : k < N
    · have hlt' : (k : Int) < N := by omega
      have hset := HM.out.set (j := k) (i := 0) (x := true) (u := .bool true) (by rw [firstT_len _ _ hk]; exact hlt) (by decide) rfl trivial
      rw [firstT_set _ _ hlt, show k * kBool.n + 0 = k from by show k * 1 + 0 = k; omega] at hset
      have HSET := Lib.hid hset
      obtain ⟨g', eg, _, hgl, hgc, hgf⟩ := HM.out.pos (by rw [firstT_len _ _ hk]; omega)
      obtain rfl : g' = G := by cases eg; rfl
      have zm := hgc k (by rw [firstT_len _ _ hk]; exact hlt) 0 _ rfl
      rw [show k * kBool.n + 0 = k from by show k * 1 + 0 = k; omega] at zm
      obtain ⟨ov, hov⟩ : ∃ ov, Value.bool ((firstT N k).getD k kBool.d) = ov := ⟨_, rfl⟩
      have zm' : wr.cell? ⟨g', k, none⟩ = some ov := by rw [← hov]; exact zm
      clear hset eg zm hov hgc
      go_wp2_with fail
      go_roundw
      case rel => exact ⟨k + 1, by omega, by go_num, HSET.out, HZ.out.setCell (p := ⟨g', k, none⟩) (by rw [HGW.out]; exact Nat.le_refl _) _⟩
      case measure => simp [intOf]; omega
    · obtain rfl : k = N := by omega
      have HX6 := Lib.hid (HX4.out.trans HZ.out)
      have Ha_6 := Lib.hid (Ha_4.out.ext HZ.out)
      have Hb_6 := Lib.hid (Hb_4.out.ext HZ.out)
      go_wp2_with fail
      refine Calls.mono (by
        have hh := ppack_any l (firstT k k) L (some ⟨G, 0, none⟩) lc k 7 2 2 none 0 [] wr (HL.out.ext HX6.out) (by rw [firstT_len _ _ (Nat.le_refl _)]; exact HM.out.rd) (Rd.nil _ _ _) (by rw [firstT_len _ _ (Nat.le_refl _)]; have := HN60.out; omega) (by decide) (by decide) (by decide)
        rw [firstT_len _ _ (Nat.le_refl _), HN.out] at hh
        exact hh) ?_
      rw [HE.out.2.2]
      rintro ed w7 ⟨L7, l7, rfl, hO7, hE7⟩
      simp only at hO7 ⊢
      have HX7 := Lib.hid (HX6.out.trans hE7)
      have Ha_7 := Lib.hid (Ha_6.out.ext hE7)
      have Hb_7 := Lib.hid (Hb_6.out.ext hE7)
      have HO7 := Lib.hid hO7.rd
      rw [HN.out] at HO7 ⊢
      clear hO7 hE7
      go_wp2_with fail
      have hh := rwords_any (.slice L7 k l7) (.slice L k lc) (zs l) (zs l) w7 HO7.out (by have h9 := HL.out.ext HX7.out; rw [HN.out] at h9; exact h9)
      refine hh.mono ?_
      clear hh
      rintro ed w8 ⟨rfl, hE8⟩
      rw [sameB_refl]
      have HX8 := Lib.hid (HX7.out.trans hE8)
      have Ha_8 := Lib.hid (Ha_7.out.ext hE8)
      have Hb_8 := Lib.hid (Hb_7.out.ext hE8)
      clear hE8
      have hpw := HPW.out
      rw [HRA.out, HRW.out] at hpw
      simp only [Prod.mk.injEq] at hpw
      rcases hpw with ⟨e, ⟨rfl, rfl, rfl⟩, ⟨rfl, rfl, rfl⟩, rfl⟩ | ⟨st, ⟨rfl, rfl, rfl⟩, ⟨rfl, rfl, rfl⟩⟩
      · go_wp2_with fail
        go_ret
        exact ⟨ret_bool (by first | rfl | simp), HX8.out⟩
      · have hln := HPL.out
        have HLN := Lib.hid hln
        clear hln
        obtain ⟨na, hna⟩ : ∃ na, pa.length = na := ⟨_, rfl⟩
        have hnw : pw.length = na := by rw [← hna]; exact HLN.out.symm
        rw [hna] at Ha_8 Hb_8 ⊢
        rw [hnw]
        clear hna hnw
        go_wp2_with fail
        refine (rwords_any _ _ _ _ _ Ha_8.out Hb_8.out).mono ?_
        rintro ed w9 ⟨rfl, hE9⟩
        rw [sameB_refl]
        have HX9 := Lib.hid (HX8.out.trans hE9)
        clear hE9
        go_wp2_with fail
        go_ret
        exact ⟨ret_bool (by first | rfl | simp), HX9.out⟩
end Go.Proofs.Ytbedfjbnafflfaa
