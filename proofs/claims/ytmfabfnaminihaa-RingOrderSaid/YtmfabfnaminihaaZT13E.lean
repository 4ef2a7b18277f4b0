/- RingOrder: the law returns true. Written by wip/mk_r13.py. -/
import Derived.Test.YtmfabfnaminihaaJ6
set_option linter.unusedVariables false
set_option linter.unusedSimpArgs false
set_option linter.unnecessarySimpa false
namespace Go.Proofs.Ytmfabfnaminihaa
open Go.BigFrame
open Go.RowKit Go.Proofs.Ytmfabfnaminihaa.Plain

/-- two lists of one's own that don't touch -/
def Apart (v u : Value) : Prop := ∀ k, v.ownBlock = some k → u.ownBlock ≠ some k
theorem Apart.one {v u : Value} (h : Apart v u) : u.ownBlock = none ∨ u.ownBlock ≠ v.ownBlock := by
  cases hu : u.ownBlock with
  | none => exact .inl rfl
  | some k => exact .inr fun e => h k e.symm hu
theorem Apart.symm {v u : Value} (h : Apart v u) : Apart u v := fun k h1 h2 => h k h2 h1
theorem Apart.grown {B : Nat} {w : World} {v v' u : Value} {xs : List Int} (h : Apart v u) (hu : Ow kInt B w u xs) (ho : v'.ownBlock = v.ownBlock ∨ v'.ownBlock = some w.heap.size) : Apart v' u := by
  intro k h1 h2
  rcases ho with e | e
  · rw [e] at h1; exact h k h1 h2
  · rw [e] at h1; cases h1
    have := (hu.lt _ h2).2
    omega
set_option maxHeartbeats 3200000 in
set_option maxRecDepth 100000 in
theorem ringorder_any (a b : List Int) (L : Option Addr) (lc : Nat) (O : Option Addr) (oc : Nat) (s t : Int) (W : World) (hL : Rd kInt W (.slice L a.length lc) a) (hO : Rd kInt W (.slice O b.length oc) b) (hs : 0 ≤ s ∧ s ≤ 255) (ht : 0 ≤ t ∧ t ≤ 255) :
    Calls Try.prog 7 #[.slice L a.length lc, .slice O b.length oc, .agg #[.int .u8 s, .int .u8 t]] W fun ed w' => ed = .returned (.bool true) ∧ Ext W w' := by
  have HL := Lib.hid hL
  have HQ := Lib.hid hO
  obtain ⟨s0, s1⟩ := hs
  obtain ⟨t0, t1⟩ := ht
  clear hL hO
  go_enter Try.func7, Try.ntmps7
  go_wp2_with fail
  refine (ringalive_any _).mono ?_
  rintro ed w1 ⟨rfl, hE1⟩
  have q0 : w1.cell? ⟨W.heap.size, 0, none⟩ = some (.int .u8 s) := Ext.cell hE1 (by go_simp)
  have q1 : w1.cell? ⟨W.heap.size, 1, none⟩ = some (.int .u8 t) := Ext.cell hE1 (by go_simp)
  have qf : ∀ o, w1.frozen? ⟨W.heap.size, o, none⟩ = false := fun o => (Below.frozen hE1 (p := ⟨W.heap.size, o, none⟩) (by first | omega | (simp; omega) | simp)).trans (by go_simp)
  have HX1 := Lib.hid (((Ext.refl W).alloc (.cells #[.int .u8 s, .int .u8 t] 36)).trans hE1)
  have lz1 := hE1.size
  simp at lz1
  have n1 : W.heap.size < w1.heap.size := by omega
  clear hE1
  by_cases h1 : (60 : Int) < a.length
  · go_wp2_with fail
    go_ret
    exact ⟨rfl, HX1.out⟩
  have h1' : (a.length : Int) ≤ 60 := by omega
  by_cases h3 : (60 : Int) < b.length
  · go_wp2_with fail
    go_ret
    exact ⟨rfl, HX1.out⟩
  have h3' : (b.length : Int) ≤ 60 := by omega
  by_cases h4 : a.length = 0
  · have e0 : ((a.length : Int) == 0) = true := by rw [beq_iff_eq]; omega
    go_wp2_with fail
    go_ret
    exact ⟨rfl, HX1.out⟩
  have e0 : ((a.length : Int) == 0) = false := by rw [beq_eq_false_iff_ne]; omega
  by_cases h5 : b.length = 0
  · have e1 : ((b.length : Int) == 0) = true := by rw [beq_iff_eq]; omega
    go_wp2_with fail
    go_ret
    exact ⟨rfl, HX1.out⟩
  have e1 : ((b.length : Int) == 0) = false := by rw [beq_eq_false_iff_ne]; omega
  obtain ⟨A1, hA1⟩ : ∃ A : Nat, s.tmod a.length = (A : Int) := ⟨(s % a.length).toNat, by rw [Int.tmod_eq_emod_of_nonneg s0]; have := Int.emod_nonneg s (b := (a.length : Int)) (by omega); omega⟩
  obtain ⟨B1, hB1⟩ : ∃ A : Nat, t.tmod b.length = (A : Int) := ⟨(t % b.length).toNat, by rw [Int.tmod_eq_emod_of_nonneg t0]; have := Int.emod_nonneg t (b := (b.length : Int)) (by omega); omega⟩
  have hA2 : A1 < a.length := by rw [Int.tmod_eq_emod_of_nonneg s0] at hA1; have := Int.emod_lt_of_pos s (b := (a.length : Int)) (by omega); omega
  have hB2 : B1 < b.length := by rw [Int.tmod_eq_emod_of_nonneg t0] at hB1; have := Int.emod_lt_of_pos t (b := (b.length : Int)) (by omega); omega
  have HM := Lib.hid (And.intro (ints_mem hA2) (ints_mem hB2))
  have HG : Hid (in64 (a.getD A1 0) ∧ in64 (b.getD B1 0)) := Lib.hid ⟨HL.out.okAt A1 hA2, HQ.out.okAt B1 hB2⟩
  obtain ⟨ba, oa, rfl, hca⟩ := (ints_of_rd (HL.out.ext HX1.out)).cells (by omega)
  obtain ⟨bb, ob, rfl, hcb⟩ := (ints_of_rd (HQ.out.ext HX1.out)).cells (by omega)
  have y0 := hca A1 hA2
  have y1 := hcb B1 hB2
  obtain ⟨x, hx⟩ : ∃ x, a.getD A1 0 = x := ⟨_, rfl⟩
  obtain ⟨y, hy⟩ : ∃ y, b.getD B1 0 = y := ⟨_, rfl⟩
  rw [hx, hy] at HM HG
  rw [hx] at y0
  rw [hy] at y1
  have hwa : IntKind.i64.wrap s = s := IntWalk.i64_in _ (by omega)
  have hwb : IntKind.i64.wrap t = t := IntWalk.i64_in _ (by omega)
  have hwc : IntKind.i64.wrap (A1 : Int) = A1 := IntWalk.i64_in _ (by omega)
  have hwd : IntKind.i64.wrap (B1 : Int) = B1 := IntWalk.i64_in _ (by omega)
  have hA9 : (A1 : Int) < a.length := by omega
  have hB9 : (B1 : Int) < b.length := by omega
  have hA8 : (0 : Int) ≤ A1 := by omega
  have hB8 : (0 : Int) ≤ B1 := by omega
  have hane : (a.length : Int) ≠ 0 := by omega
  have hanl : a ≠ [] := fun e => by rw [e] at h4; exact h4 rfl
  have hbnl : b ≠ [] := fun e => by rw [e] at h5; exact h5 rfl
  have hbne : (b.length : Int) ≠ 0 := by omega
  have lba : ba < w1.heap.size := World.block_lt_of_cell? _ _ y0
  have lbb : bb < w1.heap.size := World.block_lt_of_cell? _ _ y1
  have KS : Hid (∀ w', Ext w1 w' → w'.cell? ⟨W.heap.size, 0, none⟩ = some (.int .u8 s) ∧ w'.cell? ⟨W.heap.size, 1, none⟩ = some (.int .u8 t) ∧ w'.cell? ⟨ba, oa + A1, none⟩ = some (.int .i64 x) ∧ w'.cell? ⟨bb, ob + B1, none⟩ = some (.int .i64 y)) := Lib.hid (fun w' hE => ⟨hE.cell q0, hE.cell q1, hE.cell y0, hE.cell y1⟩)
  have HZ : Hid (0 < a.length ∧ 0 < b.length) := Lib.hid (by omega)
  clear h1 h3 h4 h5 hx hy hca hcb q0 q1 y0 y1 hA2 hB2
  go_wp2_with fail
  refine wp_region_class (Ext w1) (by kernel_rfl) (by kernel_rfl) (Ext.refl _).drew ?_
  try simp only [List.append_eq, List.cons_append, List.nil_append]
  repeat (first
    | go_big_quiet_skip
    | (go_big_quiet_want
       first
       | (go_big_quiet_op; go_big_quiet_on)
       | (unfold Oper.quiet
          apply Exists.intro
          refine ⟨fun w' hC => ?_, ?_⟩
          · (obtain ⟨k1, k2, k3, k4⟩ := KS.out w' hC
             unfold Oper.quietAt
             go_simp
             first
             | exact rfl)
          go_simp
          go_big_quiet_on)))
  refine wpQuiet_nil ?_
  intro w2 hC2
  have HX2 := Lib.hid (HX1.out.trans hC2)
  clear hC2 HX1 KS hwa hwb hwc hwd hA9 hB9 hA8 hB8 hA1 hB1 n1 lz1 lba lbb s0 s1 t0 t1
  obtain ⟨⟨js, jk⟩, hj⟩ : ∃ r, joinR a x b y = r := ⟨_, rfl⟩
  have HJ := Lib.hid hj
  clear hj
  go_wp2_with fail
  refine (pjoin13_any a b (some ⟨ba, oa, none⟩) (some ⟨bb, ob, none⟩) lc oc x y _ (HL.out.ext HX2.out) (HQ.out.ext HX2.out) (by omega) (by omega) HG.out.1 HG.out.2).mono ?_
  rw [HJ.out]
  rintro ed w3 ⟨Lj, lj, rfl, hOj, hE3⟩
  simp only at hOj ⊢
  have HX3 := Lib.hid (HX2.out.trans hE3)
  have Hj_3 := Lib.hid (hOj.rd)
  clear hE3 HX2
  cases jk with
  | false =>
    go_wp2_with fail
    go_ret
    exact ⟨ret_bool (by first | rfl | simp), HX3.out⟩
  | true =>
    obtain ⟨hra, hxa, hrb, hyb, hrj, _⟩ := join_ok HJ.out
    obtain ⟨g1, g2, g3, g4, g5⟩ := ring_order HJ.out
    have hjl := ((rightL_iff js).1 hrj).1
    obtain ⟨⟨z, zk⟩, hz⟩ : ∃ r, nextR a x 1 = r := ⟨_, rfl⟩
    rw [hz] at g2 g3
    simp only at g3
    subst g3
    have H0 := Lib.hid hz
    have H1 := Lib.hid g1
    have H2 := Lib.hid g2
    have H4 := Lib.hid g4
    have H5 := Lib.hid g5
    have HJL : Hid (js.length ≤ 2000) := Lib.hid (by omega)
    have hjI : (js.length : Int) ≤ 1000 := by omega
    have hwb : IntKind.i64.wrap ((b.length : Int) + 1) = (b.length : Int) + 1 := IntWalk.i64_in _ (by omega)
    have HB1 : Hid (in64 ((b.length : Int) + 1)) := Lib.hid (by unfold in64; omega)
    clear hra hxa hrb hyb hrj hjl hz g1 g2 g4 g5
    go_wp2_with fail
    go_loopw [11, 12, 13] (fun v u i wr => ∃ k : Nat, k ≤ js.length ∧ i = .int .i64 k ∧ Ow kInt w3.heap.size wr v ((js.take k).filter (fun t => a.contains t)) ∧ Ow kInt w3.heap.size wr u ((js.take k).filter (fun t => !a.contains t)) ∧ Apart v u ∧ Ext w3 wr) (fun _ _ i _ => js.length - (intOf i).toNat)
    case atStart => exact ⟨0, Nat.zero_le _, rfl, Ow.nil _ _, Ow.nil _ _, (fun k h => by cases h), Ext.refl _⟩
    case round =>
      obtain ⟨k, hk, rfl, hO, hU, hAp, hX⟩ := hrel
      have HO := Lib.hid hO
      have HU := Lib.hid hU
      have HA := Lib.hid hAp
      have HX := Lib.hid hX
      have hk0 : (0 : Int) ≤ k := by omega
      clear hO hU hAp hX
      by_cases hlt : k < js.length
      · have hlt' : (k : Int) < js.length := by omega
        obtain ⟨bj, oj, hbj, hcj⟩ := (ints_of_rd (Hj_3.out.ext HX.out)).cells (by omega)
        subst hbj
        have z0 := hcj k hlt
        have hok : in64 (js.getD k 0) := Hj_3.out.okAt k hlt
        have hf1 := filter_snoc js (fun t => a.contains t) k hlt
        have hf2 := filter_snoc js (fun t => !a.contains t) k hlt
        obtain ⟨t, ht⟩ : ∃ t, js.getD k 0 = t := ⟨_, rfl⟩
        rw [ht] at z0 hok hf1 hf2
        have HOK := Lib.hid hok
        have HPC := Lib.hid (rplace_any a (some ⟨ba, oa, none⟩) lc t wr (HL.out.ext (HX3.out.trans HX.out)))
        have hsi := place_iff a t
        obtain ⟨g, hg⟩ : ∃ g, placeP a t = g := ⟨_, rfl⟩
        rw [hg] at HPC hsi
        have lbj : bj < wr.heap.size := World.block_lt_of_cell? _ _ z0
        have hl1 : ((js.take k).filter (fun t => a.contains t)).length ≤ 1000 := Nat.le_trans (List.length_filter_le _ _) (by rw [List.length_take]; omega)
        have hl2 : ((js.take k).filter (fun t => !a.contains t)).length ≤ 1000 := Nat.le_trans (List.length_filter_le _ _) (by rw [List.length_take]; omega)
        obtain ⟨A, c, hv, hc⟩ := HO.out.slice
        obtain ⟨A', c', hv', hc'⟩ := HU.out.slice
        obtain ⟨fl, hfl⟩ : ∃ fl, (js.take k).filter (fun t => a.contains t) = fl := ⟨_, rfl⟩
        obtain ⟨fu, hfu⟩ : ∃ fl, (js.take k).filter (fun t => !a.contains t) = fl := ⟨_, rfl⟩
        rw [hfl] at HO hf1 hl1 hv hc
        rw [hfu] at HU hf2 hl2 hv' hc'
        subst hv hv'
        have hzr := HX.out.size
        by_cases hin : t ∈ a
        · have hdg : decide (0 ≤ g) = true := decide_eq_true (hsi.2 hin)
          have HF1 : Hid ((js.take (k + 1)).filter (fun t => a.contains t) = fl ++ [t]) := Lib.hid (by rw [hf1, if_pos (by simpa using hin)])
          have HF2 : Hid ((js.take (k + 1)).filter (fun t => !a.contains t) = fu) := Lib.hid (by rw [hf2, if_neg (by simpa using hin), List.append_nil])
          have HLL : Hid (fl.length + [t].length ≤ 1048576) := Lib.hid (by rw [List.length_singleton]; omega)
          clear hcj ht hok hf1 hf2 hsi hg hfl hfu hl1 hl2 hin
          go_wp2_with fail
          refine HPC.out.mono ?_
          rintro ed w9 ⟨rfl, rfl⟩
          go_wp2_with (at_builtin; refine kInt.wpList_app (by rfl) (.tmp 81) (.tmp 86) (by rfl) (by rfl) w3.heap.size _ fl (by rfl) (HO.out.ext ((Ext.refl _).alloc _)) _ [t] (by rfl) (one_at (heap_alloc_new _ _) HOK.out) HLL.out (by simp; omega) ?_; intro v' w9 hown9 hgrow9 hat9)
          have H9 := Lib.hid (And.intro hown9 (And.intro hgrow9 hat9))
          clear hown9 hgrow9 hat9
          try go_wp2_with fail
          go_roundw
          case rel =>
            obtain ⟨hown9, hgrow9, hat9⟩ := H9.out
            have hu := HU.out.ext ((Ext.refl wr).alloc (.cells #[.int .i64 t] 3))
            exact ⟨k + 1, by omega, by go_num, by rw [HF1.out]; exact hown9, by rw [HF2.out]; exact hu.kept hgrow9 HA.out.one, HA.out.grown hu hat9, Ext.grown (HX.out.alloc _) hgrow9 (fun b hb => (HO.out.lt b hb).1)⟩
          case measure => simp [intOf]; omega
        · have hdg : decide (0 ≤ g) = false := decide_eq_false (fun h => hin (hsi.1 h))
          have HF1 : Hid ((js.take (k + 1)).filter (fun t => a.contains t) = fl) := Lib.hid (by rw [hf1, if_neg (by simpa using hin), List.append_nil])
          have HF2 : Hid ((js.take (k + 1)).filter (fun t => !a.contains t) = fu ++ [t]) := Lib.hid (by rw [hf2, if_pos (by simpa using hin)])
          have HLL : Hid (fu.length + [t].length ≤ 1048576) := Lib.hid (by rw [List.length_singleton]; omega)
          clear hcj ht hok hf1 hf2 hsi hg hfl hfu hl1 hl2 hin
          go_wp2_with fail
          refine HPC.out.mono ?_
          rintro ed w9 ⟨rfl, rfl⟩
          go_wp2_with (at_builtin; refine kInt.wpList_app (by rfl) (.tmp 88) (.tmp 93) (by rfl) (by rfl) w3.heap.size _ fu (by rfl) (HU.out.ext ((Ext.refl _).alloc _)) _ [t] (by rfl) (one_at (heap_alloc_new _ _) HOK.out) HLL.out (by simp; omega) ?_; intro v' w9 hown9 hgrow9 hat9)
          have H9 := Lib.hid (And.intro hown9 (And.intro hgrow9 hat9))
          clear hown9 hgrow9 hat9
          try go_wp2_with fail
          go_roundw
          case rel =>
            obtain ⟨hown9, hgrow9, hat9⟩ := H9.out
            have ho := HO.out.ext ((Ext.refl wr).alloc (.cells #[.int .i64 t] 3))
            exact ⟨k + 1, by omega, by go_num, by rw [HF1.out]; exact ho.kept hgrow9 HA.out.symm.one, by rw [HF2.out]; exact hown9, (HA.out.symm.grown ho hat9).symm, Ext.grown (HX.out.alloc _) hgrow9 (fun b hb => (HU.out.lt b hb).1)⟩
          case measure => simp [intOf]; omega
      · obtain rfl : k = js.length := by omega
        have hT := HO.out
        have hT2 := HU.out
        rw [List.take_length] at hT hT2
        have hl1 : (js.filter (fun t => a.contains t)).length ≤ 2000 := Nat.le_trans (List.length_filter_le _ _) (by omega)
        have hl2 : (js.filter (fun t => !a.contains t)).length ≤ 2000 := Nat.le_trans (List.length_filter_le _ _) (by omega)
        obtain ⟨P, hP⟩ : ∃ P, js.filter (fun t => a.contains t) = P := ⟨_, rfl⟩
        obtain ⟨Q, hQ⟩ : ∃ Q, js.filter (fun t => !a.contains t) = Q := ⟨_, rfl⟩
        rw [hP] at hT H4 hl1
        rw [hQ] at hT2 H5 hl2
        obtain ⟨A, c, hv, hc⟩ := hT.slice
        obtain ⟨A', c', hv', hc'⟩ := hT2.slice
        subst hv hv'
        have HLN := Lib.hid (And.intro hl1 hl2)
        have Hp_5 := Lib.hid hT.rd
        have Hq_5 := Lib.hid hT2.rd
        have HX5 := Lib.hid (HX3.out.trans HX.out)
        have Hj_5 := Lib.hid (Hj_3.out.ext HX.out)
        clear hT hT2 HO HU HA hl1 hl2 hP hQ
        go_wp2_with fail
        refine (pnext13_any js Lj lj x 1 _ Hj_5.out HJL.out HG.out.1 (by decide)).mono ?_
        rw [H1.out]
        rintro ed w6 ⟨rfl, hE6⟩
        have HX6 := Lib.hid (HX5.out.trans hE6)
        have Hj_6 := Lib.hid (Hj_5.out.ext hE6)
        have Hp_6 := Lib.hid (Hp_5.out.ext hE6)
        have Hq_6 := Lib.hid (Hq_5.out.ext hE6)
        clear hE6 HX5 Hj_5 Hp_5 Hq_5
        go_wp2_with fail
        refine (pnext13_any js Lj lj x ((b.length : Int) + 1) _ Hj_6.out HJL.out HG.out.1 HB1.out).mono ?_
        rw [H2.out]
        rintro ed w7 ⟨rfl, hE7⟩
        have HX7 := Lib.hid (HX6.out.trans hE7)
        have Hj_7 := Lib.hid (Hj_6.out.ext hE7)
        have Hp_7 := Lib.hid (Hp_6.out.ext hE7)
        have Hq_7 := Lib.hid (Hq_6.out.ext hE7)
        clear hE7 HX6 Hj_6 Hp_6 Hq_6
        go_wp2_with fail
        refine (pnext13_any a (some ⟨ba, oa, none⟩) lc x 1 _ (HL.out.ext HX7.out) (by omega) HG.out.1 (by decide)).mono ?_
        rw [H0.out]
        rintro ed w8 ⟨rfl, hE8⟩
        have HX8 := Lib.hid (HX7.out.trans hE8)
        have Hj_8 := Lib.hid (Hj_7.out.ext hE8)
        have Hp_8 := Lib.hid (Hp_7.out.ext hE8)
        have Hq_8 := Lib.hid (Hq_7.out.ext hE8)
        clear hE8 HX7 Hj_7 Hp_7 Hq_7
        go_wp2_with fail
        refine (psame13_to P a P.length a.length A (some ⟨ba, oa, none⟩) c lc true _ Hp_8.out rfl (HL.out.ext HX8.out) rfl HLN.out.1 (by omega) H4.out).mono ?_
        rintro ed w9 ⟨rfl, hE9⟩
        have HX9 := Lib.hid (HX8.out.trans hE9)
        have Hj_9 := Lib.hid (Hj_8.out.ext hE9)
        have Hp_9 := Lib.hid (Hp_8.out.ext hE9)
        have Hq_9 := Lib.hid (Hq_8.out.ext hE9)
        clear hE9 HX8 Hj_8 Hp_8 Hq_8
        go_wp2_with fail
        refine (psame13_to Q b Q.length b.length A' (some ⟨bb, ob, none⟩) c' oc true _ Hq_9.out rfl (HQ.out.ext HX9.out) rfl HLN.out.2 (by omega) H5.out).mono ?_
        rintro ed w10 ⟨rfl, hE10⟩
        have HX10 := Lib.hid (HX9.out.trans hE10)
        have Hj_10 := Lib.hid (Hj_9.out.ext hE10)
        have Hp_10 := Lib.hid (Hp_9.out.ext hE10)
        have Hq_10 := Lib.hid (Hq_9.out.ext hE10)
        clear hE10 HX9 Hj_9 Hp_9 Hq_9
        go_wp2_with fail
        go_ret
        exact ⟨ret_bool (by first | rfl | simp), HX10.out⟩
end Go.Proofs.Ytmfabfnaminihaa
