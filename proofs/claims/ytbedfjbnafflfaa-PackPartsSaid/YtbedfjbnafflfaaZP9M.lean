/- PackParts: the law returns true. Written by wip/mk_p9m.py. -/
import Derived.Test.YtbedfjbnafflfaaJ7
import Derived.Test.YtbedfjbnafflfaaZP9B
set_option linter.unusedVariables false
set_option linter.unusedSimpArgs false
set_option linter.unnecessarySimpa false
namespace Go.Proofs.Ytbedfjbnafflfaa
open Go.BigFrame
open Go.RowKit Go.Proofs.Ytbedfjbnafflfaa.Plain

theorem Plain.partP_good (l : List Nat) (keep : List Bool) (b g m : Int) (picks : List (Int × Int)) (hl : l.length = keep.length) (h1 : 1 ≤ b) (h2 : b ≤ 100) (hb : planB g m picks.length = true) : ∃ st, partP l keep b g m picks = (packL l keep ++ othersF l keep l.length, (packL l keep).length, st, 0) := by
  obtain ⟨st, h⟩ := packP_good l keep b g m picks hl h1 h2 hb
  unfold partP
  rw [h, if_neg (by simp)]
  exact ⟨_, rfl⟩
theorem Plain.filter_both (p : Nat → Bool) : ∀ t : List Nat, (t.filter p).length + (t.filter (fun i => !p i)).length = t.length
  | [] => rfl
  | a :: t => by
    have := filter_both p t
    cases h : p a
    · rw [List.filter_cons_of_neg (by simp [h]), List.filter_cons_of_pos (by simp [h]), List.length_cons, List.length_cons]; omega
    · rw [List.filter_cons_of_pos h, List.filter_cons_of_neg (by simp [h]), List.length_cons, List.length_cons]; omega
theorem Plain.both_len (l : List Nat) (keep : List Bool) (h : l.length = keep.length) : (packL l keep).length + (othersF l keep l.length).length = l.length := by
  rw [packL_len]
  unfold whereL whereF othersF
  rw [List.length_map, ← h]
  have := filter_both (kept keep) (List.range l.length)
  rw [List.length_range] at this
  exact this
theorem Plain.nots_snoc (keep : List Bool) (k : Nat) (hk : k < keep.length) : (keep.take (k + 1)).map (! ·) = (keep.take k).map (! ·) ++ [!kept keep k] := by
  rw [List.take_add_one, List.getElem?_eq_getElem hk, List.map_append]
  unfold kept
  rw [List.getD_eq_getElem?_getD, List.getElem?_eq_getElem hk]
  rfl
theorem Plain.packL_at (l : List Nat) (keep : List Bool) (i : Nat) (h : i < (whereL keep).length) : (packL l keep).getD i 0 = l.getD ((whereL keep).getD i 0) 0 := by
  unfold packL
  rw [List.getD_eq_getElem?_getD, List.getElem?_map, List.getD_eq_getElem?_getD (l := whereL keep), List.getElem?_eq_getElem h]
  rfl
theorem bool_lit (w : World) (x : Bool) : Rd kBool (w.alloc (.cells #[.bool x] 4)) (.slice (some ⟨w.heap.size, 0, none⟩) 1 1) [x] := bool_list w [x] _ 1 #[.bool x] rfl rfl rfl (by decide)
set_option maxHeartbeats 3200000 in
set_option maxRecDepth 100000 in
theorem packparts_any (l : List Nat) (L : Option Addr) (lc : Nat) (keep : List Bool) (K : Option Addr) (kc : Nat) (W : World) (hL : Rd kU32 W (.slice L l.length lc) (zs l)) (hK : Rd kBool W (.slice K keep.length kc) keep) :
    Calls Try.prog 5 #[.slice L l.length lc, .slice K keep.length kc] W fun ed w' => ed = .returned (.bool true) ∧ Ext W w' := by
  have HL := Lib.hid hL
  have HK := Lib.hid hK
  clear hL hK
  go_enter Try.func5, Try.ntmps5
  go_wp2_with fail
  refine (palive_any _).mono ?_
  rintro ed w1 ⟨rfl, hE1⟩
  have HX1 := Lib.hid hE1
  clear hE1
  by_cases h1 : (100 : Int) < l.length
  · go_wp2_with fail
    go_ret
    exact ⟨rfl, HX1.out⟩
  have h1' : (l.length : Int) ≤ 100 := by omega
  clear h1
  by_cases h2 : l.length ≠ keep.length
  · have hne : ((keep.length : Int) != (l.length : Int)) = true := by simp; omega
    have hnf : (keep.length != l.length) = true := by simp; omega
    go_wp2_with fail
    go_ret
    exact ⟨rfl, HX1.out⟩
  have hlk : l.length = keep.length := by omega
  have hne : ((keep.length : Int) != (l.length : Int)) = false := by simp; omega
  have hnf : (keep.length != l.length) = false := by simp; omega
  obtain ⟨s1, e1⟩ := partP_good l keep 6 4 2 [] hlk (by decide) (by decide) (by decide)
  obtain ⟨s2, e2⟩ := packP_good l keep 6 4 2 [] hlk (by decide) (by decide) (by decide)
  obtain ⟨s3, e3⟩ := packP_good l (keep.map (! ·)) 6 4 2 [] (by rw [List.length_map]; exact hlk) (by decide) (by decide) (by decide)
  obtain ⟨s4, e4⟩ := whereP_good keep 6 4 2 [] (by decide) (by decide) (by decide)
  rw [pack_others l keep hlk] at e3
  have hbl := both_len l keep hlk
  have hwi : ∀ i, i < (packL l keep).length → (whereL keep).getD i 0 < l.length ∧ kept keep ((whereL keep).getD i 0) = true ∧ l.getD ((whereL keep).getD i 0) 0 = (packL l keep).getD i 0 := fun i hi => by
    rw [packL_len] at hi
    have h8 := where_in keep keep.length i hi
    exact ⟨by rw [hlk]; exact h8.1, h8.2, (packL_at l keep i hi).symm⟩
  have hwr : ∀ i, i + 1 < (packL l keep).length → (whereL keep).getD i 0 < (whereL keep).getD (i + 1) 0 := fun i hi => by
    rw [packL_len] at hi
    exact where_rises keep keep.length i hi
  have hwn := packL_len l keep
  obtain ⟨pk, hpk⟩ : ∃ x, packL l keep = x := ⟨_, rfl⟩
  obtain ⟨ot, hot⟩ : ∃ x, othersF l keep l.length = x := ⟨_, rfl⟩
  obtain ⟨wl, hwl⟩ : ∃ x, whereL keep = x := ⟨_, rfl⟩
  obtain ⟨P, hP⟩ : ∃ x, pk.length = x := ⟨_, rfl⟩
  obtain ⟨O, hO⟩ : ∃ x, ot.length = x := ⟨_, rfl⟩
  rw [hpk, hot] at e1
  rw [hpk] at e2 hbl hwi hwr hwn
  rw [hot] at e3 hbl
  rw [hwl] at e4 hwi hwr hwn
  rw [hP] at e1 hbl hwi hwr hwn
  rw [hO] at hbl
  have HPN := Lib.hid (And.intro hP (And.intro hO hwn.symm))
  have HAN : Hid ((pk ++ ot).length = l.length) := Lib.hid (by rw [List.length_append, hP, hO]; exact hbl)
  have HWI := Lib.hid hwi
  have HWR := Lib.hid hwr
  have HBL := Lib.hid hbl
  have hP1 : (P : Int) ≤ 100 := by omega
  clear hpk hot hwl hP hO hwi hwr hwn hbl
  have HE := Lib.hid (And.intro e1 (And.intro e2 (And.intro e3 e4)))
  have HLK := Lib.hid hlk
  have HKN : Hid (keep.length ≤ 100) := Lib.hid (by omega)
  clear h2 hlk e1 e2 e3 e4
  go_wp2_with fail
  refine (ppart9_any l keep L K lc kc 6 4 2 none 0 [] _ (HL.out.ext (HX1.out.alloc _)) (HK.out.ext (HX1.out.alloc _)) (Rd.nil _ _ _) (by have := HKN.out; omega) (by decide) (by decide) (by decide)).mono ?_
  rw [HE.out.1]
  rintro ed w2 ⟨L2, l2, rfl, hO2, hE2⟩
  simp only at hO2 ⊢
  rw [HAN.out] at hO2 ⊢
  have k0 : w2.cell? ⟨w1.heap.size, 0, none⟩ = some (.int .i64 4) := Ext.cell hE2 (by go_simp)
  have k1 : w2.cell? ⟨w1.heap.size, 1, none⟩ = some (.int .i64 2) := Ext.cell hE2 (by go_simp)
  have k2 : w2.cell? ⟨w1.heap.size, 2, none⟩ = some (.slice none 0 0) := Ext.cell hE2 (by go_simp)
  have kf : ∀ o, w2.frozen? ⟨w1.heap.size, o, none⟩ = false := fun o => (Below.frozen hE2 (p := ⟨w1.heap.size, o, none⟩) (by first | omega | (simp; omega) | simp)).trans (by go_simp)
  have lbq : w1.heap.size < w2.heap.size := by have lz1 := hE2.size; simp at lz1; omega
  have hF2 := ((Ext.refl w1).alloc (.cells #[.int .i64 4, .int .i64 2, .slice none 0 0] 26)).trans hE2
  have HX2 := Lib.hid (HX1.out.trans hF2)
  have Ha_2 := Lib.hid (hO2.rd)
  clear hE2 hF2 HX1
  go_wp2_with fail
  refine (ppack_any l keep L K lc kc 6 4 2 none 0 [] _ (HL.out.ext HX2.out) (HK.out.ext HX2.out) (Rd.nil _ _ _) (by have := HKN.out; omega) (by decide) (by decide) (by decide)).mono ?_
  rw [HE.out.2.1]
  rintro ed w3 ⟨L3, l3, rfl, hO3, hE3⟩
  simp only at hO3 ⊢
  rw [HPN.out.1] at hO3 ⊢
  replace k0 := Ext.cell hE3 k0
  replace k1 := Ext.cell hE3 k1
  replace k2 := Ext.cell hE3 k2
  have lb3_0 : w1.heap.size < w3.heap.size := by have := Ext.size hE3; omega
  have HX3 := Lib.hid (HX2.out.trans hE3)
  have Ha_3 := Lib.hid (Ha_2.out.ext hE3)
  have Hb_3 := Lib.hid (hO3.rd)
  clear hE3 HX2 Ha_2 lbq
  have hkn : (keep.length : Int) ≤ 100 := by have := HKN.out; omega
  go_wp2_with fail
  go_loopw [13, 14] (fun v i wr => ∃ k : Nat, k ≤ keep.length ∧ i = .int .i64 k ∧ Ow kBool w3.heap.size wr v ((keep.take k).map (! ·)) ∧ Ext w3 wr) (fun _ i _ => keep.length - (intOf i).toNat)
  case atStart => exact ⟨0, Nat.zero_le _, rfl, Ow.nil _ _, Ext.refl _⟩
  case round =>
    obtain ⟨k, hk, rfl, hO, hX⟩ := hrel
    have HO := Lib.hid hO
    have HX := Lib.hid hX
    have hk0 : (0 : Int) ≤ k := by omega
    clear hO hX
    by_cases hlt : k < keep.length
    · have hlt' : (k : Int) < keep.length := by omega
      obtain ⟨bk, ok, rfl, y0⟩ := bool_at (HK.out.ext (HX3.out.trans HX.out)) k hlt
      have lbk : bk < wr.heap.size := World.block_lt_of_cell? _ _ y0
      have HNS := Lib.hid (nots_snoc keep k hlt)
      have HLL : Hid (((keep.take k).map (! ·)).length + [!kept keep k].length ≤ 1048576) := Lib.hid (by rw [List.length_map, List.length_take, List.length_singleton]; have := HKN.out; omega)
      have hzx := HX.out.size
      obtain ⟨c, hc⟩ : ∃ c, kept keep k = c := ⟨_, rfl⟩
      rw [hc] at y0 HNS HLL
      clear hc
      go_wp2_with (at_builtin; refine kBool.wpList_app (by rfl) (.tmp 58) (.tmp 64) (by rfl) (by rfl) w3.heap.size _ ((keep.take k).map (! ·)) (by rfl) (HO.out.ext ((Ext.refl _).alloc _)) _ [!c] (by rfl) (bool_lit _ (!c)) HLL.out (by simp; omega) ?_; intro v' w8 hown8 hgrow8 hat8)
      have H8 := Lib.hid (And.intro hown8 (And.intro hgrow8 hat8))
      clear hown8 hgrow8 hat8
      go_wp2_with fail
      go_roundw
      case rel =>
        obtain ⟨hown8, hgrow8, hat8⟩ := H8.out
        exact ⟨k + 1, by omega, by go_num, by rw [HNS.out]; exact hown8, Ext.grown (HX.out.alloc _) hgrow8 (fun q hq => (HO.out.lt q hq).1)⟩
      case measure => simp [intOf]; omega
    · obtain rfl : k = keep.length := by omega
      rw [List.take_length] at HO
      obtain ⟨Lz, lz, hv, hlz⟩ := HO.out.slice
      subst hv
      have HX4 := Lib.hid (HX3.out.trans HX.out)
      have Ha_4 := Lib.hid (Ha_3.out.ext HX.out)
      have Hb_4 := Lib.hid (Hb_3.out.ext HX.out)
      rw [List.length_map] at HO ⊢
      have HN4 := Lib.hid HO.out.rd
      replace k0 := Ext.cell HX.out k0
      replace k1 := Ext.cell HX.out k1
      replace k2 := Ext.cell HX.out k2
      have lbr : w1.heap.size < wr.heap.size := by have := HX.out.size; omega
      clear hkn hlt
      go_wp2_with fail
      refine Calls.mono (by
        have hh := ppack_any l (keep.map (! ·)) L Lz lc lz 6 4 2 none 0 [] _ (HL.out.ext HX4.out) (by rw [List.length_map]; exact HN4.out) (Rd.nil _ _ _) (by rw [List.length_map]; have := HKN.out; omega) (by decide) (by decide) (by decide)
        rw [List.length_map] at hh
        exact hh) ?_
      rw [HE.out.2.2.1]
      rintro ed w5 ⟨L5, l5, rfl, hO5, hE5⟩
      simp only at hO5 ⊢
      rw [HPN.out.2.1] at hO5 ⊢
      replace k0 := Ext.cell hE5 k0
      replace k1 := Ext.cell hE5 k1
      replace k2 := Ext.cell hE5 k2
      have lbs : w1.heap.size < w5.heap.size := by have := hE5.size; omega
      have HX5 := Lib.hid (HX4.out.trans hE5)
      have Ha_5 := Lib.hid (Ha_4.out.ext hE5)
      have Hb_5 := Lib.hid (Hb_4.out.ext hE5)
      have Hc_5 := Lib.hid hO5.rd
      clear hE5 hO5 lbr
      go_wp2_with fail
      refine (pwhere_any keep K kc 6 4 2 none 0 [] _ (HK.out.ext HX5.out) (Rd.nil _ _ _) (by have := HKN.out; omega) (by decide) (by decide) (by decide)).mono ?_
      rw [HE.out.2.2.2]
      rintro ed w6 ⟨L6, l6, rfl, hO6, hE6⟩
      simp only at hO6 ⊢
      rw [HPN.out.2.2] at hO6 ⊢
      replace k0 := Ext.cell hE6 k0
      replace k1 := Ext.cell hE6 k1
      replace k2 := Ext.cell hE6 k2
      have lb6_0 : w1.heap.size < w6.heap.size := by have := Ext.size hE6; omega
      have HX6 := Lib.hid (HX5.out.trans hE6)
      have Ha_6 := Lib.hid (Ha_5.out.ext hE6)
      have Hb_6 := Lib.hid (Hb_5.out.ext hE6)
      have Hc_6 := Lib.hid (Hc_5.out.ext hE6)
      have Hw_6 := Lib.hid (hO6.rd)
      clear hE6 HX5 Ha_5 Hb_5 Hc_5 lbs
      go_wp2_with fail
      have HX6P := Lib.hid HX6.out
      go_loopw [21] (fun i wq => ∃ k : Nat, k ≤ P ∧ i = .int .i64 k ∧ Ext w6 wq) (fun i _ => P - (intOf i).toNat)
      case atStart => exact ⟨0, Nat.zero_le _, rfl, Ext.refl _⟩
      case round =>
        obtain ⟨k, hk, rfl, hX⟩ := hrel
        have HXq := Lib.hid hX
        have hk0 : (0 : Int) ≤ k := by omega
        clear hX
        rename World => wq
        by_cases hlt : k < P
        · have hlt' : (k : Int) < P := by omega
          obtain ⟨hu, hkp, hx⟩ := HWI.out k hlt
          have hw7 : Rd kInt wq (.slice L6 wl.length l6) (zs wl) := by rw [HPN.out.2.2]; exact Hw_6.out.ext HXq.out
          obtain ⟨bw, ow, rfl, hcw⟩ := (ints_of_rd hw7).cells (by rw [zs_len, HPN.out.2.2]; omega)
          have y0 := hcw k (by rw [zs_len, HPN.out.2.2]; exact hlt)
          rw [zs_getD] at y0
          obtain ⟨bp, op, rfl, x0, hxl⟩ := u32_at (l := pk) (by rw [HPN.out.1]; exact Hb_6.out.ext HXq.out) k (by rw [HPN.out.1]; exact hlt)
          obtain ⟨u, hu8⟩ : ∃ u, wl.getD k 0 = u := ⟨_, rfl⟩
          rw [hu8] at y0 hu hkp hx
          have hkk : u < keep.length := by have := HLK.out; omega
          obtain ⟨bk, ok, rfl, z0⟩ := bool_at (HK.out.ext (HX6.out.trans HXq.out)) u hkk
          obtain ⟨bl, ol, rfl, v0, hvl⟩ := u32_at (HL.out.ext (HX6.out.trans HXq.out)) u hu
          rw [hkp] at z0
          rw [hx] at v0
          obtain ⟨q, hq⟩ : ∃ q, pk.getD k 0 = q := ⟨_, rfl⟩
          rw [hq] at x0 v0
          have hu0 : (0 : Int) ≤ u := by omega
          have hu1 : (u : Int) < l.length := by omega
          have hu2 : (u : Int) < keep.length := by omega
          have hul : decide ((u : Int) < 0) = false := by simp
          have hug : decide ((l.length : Int) ≤ (u : Int)) = false := by simp; omega
          have hugn : decide (l.length ≤ u) = false := by simp; omega
          have hugm : ¬ (l.length ≤ u) := by omega
          have nqn : (q != q) = false := by simp
          have nqq : ((q : Int) != (q : Int)) = false := by simp
          have lbw : bw < wq.heap.size := World.block_lt_of_cell? _ _ y0
          have lbk : bk < wq.heap.size := World.block_lt_of_cell? _ _ z0
          have lbl : bl < wq.heap.size := World.block_lt_of_cell? _ _ v0
          have lbp : bp < wq.heap.size := World.block_lt_of_cell? _ _ x0
          by_cases hz : k = 0
          · subst hz
            have KS : Hid (∀ w', Ext wq w' → w'.cell? ⟨bw, ow, none⟩ = some (.int .i64 u) ∧ w'.cell? ⟨bk, ok + u, none⟩ = some (.bool true) ∧ w'.cell? ⟨bl, ol + u, none⟩ = some (.int .u32 q) ∧ w'.cell? ⟨bp, op, none⟩ = some (.int .u32 q)) := Lib.hid (fun w' hE => ⟨hE.cell y0, hE.cell z0, hE.cell v0, hE.cell x0⟩)
            clear hcw hw7 hkp hx hq hu8 hxl hvl y0 z0 v0 x0 hu
            go_wp2_with fail
            refine wp_region_class (Ext wq) (by kernel_rfl) (by kernel_rfl) (Ext.refl _).drew ?_
            try simp only [List.append_eq, List.cons_append, List.nil_append]
            repeat (first
              | go_big_quiet_skip
              | (go_big_quiet_want
                 first
                 | (go_big_quiet_op; go_big_quiet_on)
                 | (unfold Oper.quiet
                    apply Exists.intro
                    refine ⟨fun w' hC => ?_, ?_⟩
                    · (obtain ⟨k1, k2, k3, k4⟩ := KS.out w' hC
                       unfold Oper.quietAt
                       go_simp
                       first
                       | exact rfl)
                    go_simp
                    go_big_quiet_on)))
            refine wpQuiet_nil ?_
            intro w9 hC9
            go_wp2_with fail
            go_roundw
            case rel => exact ⟨1, by omega, by go_num, HXq.out.trans hC9⟩
            case measure => simp [intOf]; omega
          · obtain ⟨j, hj⟩ : ∃ j, j + 1 = k := ⟨k - 1, by omega⟩
            have hr := HWR.out j (by omega)
            rw [hj, hu8] at hr
            have y1 := hcw j (by rw [zs_len, HPN.out.2.2]; omega)
            rw [zs_getD] at y1
            obtain ⟨u', hu9⟩ : ∃ u', wl.getD j 0 = u' := ⟨_, rfl⟩
            rw [hu9] at y1 hr
            have hi9 : IntKind.i64.wrap ((k : Int) - 1) = (j : Int) := by rw [IntWalk.i64_in _ (by omega)]; omega
            have hj0 : (0 : Int) ≤ j := by omega
            have hjP : (j : Int) < P := by omega
            have hkp' : (0 : Int) < k := by omega
            have hgr : (u' : Int) < u := by omega
            have hgen : decide (u ≤ u') = false := by simp; omega
            have hgem : decide (0 < k) = true := by simp; omega
            have hge : decide ((u : Int) ≤ (u' : Int)) = false := by simp; omega
            have KS : Hid (∀ w', Ext wq w' → w'.cell? ⟨bw, ow + k, none⟩ = some (.int .i64 u) ∧ w'.cell? ⟨bk, ok + u, none⟩ = some (.bool true) ∧ w'.cell? ⟨bl, ol + u, none⟩ = some (.int .u32 q) ∧ w'.cell? ⟨bp, op + k, none⟩ = some (.int .u32 q) ∧ w'.cell? ⟨bw, ow + j, none⟩ = some (.int .i64 u')) := Lib.hid (fun w' hE => ⟨hE.cell y0, hE.cell z0, hE.cell v0, hE.cell x0, hE.cell y1⟩)
            clear hcw hw7 hkp hx hq hu8 hu9 hxl hvl y0 z0 v0 x0 y1 hu hj hr hz
            go_wp2_with fail
            refine wp_region_class (Ext wq) (by kernel_rfl) (by kernel_rfl) (Ext.refl _).drew ?_
            try simp only [List.append_eq, List.cons_append, List.nil_append]
            repeat (first
              | go_big_quiet_skip
              | (go_big_quiet_want
                 first
                 | (go_big_quiet_op; go_big_quiet_on)
                 | (unfold Oper.quiet
                    apply Exists.intro
                    refine ⟨fun w' hC => ?_, ?_⟩
                    · (obtain ⟨k1, k2, k3, k4, k5⟩ := KS.out w' hC
                       unfold Oper.quietAt
                       go_simp
                       first
                       | exact rfl)
                    go_simp
                    go_big_quiet_on)))
            refine wpQuiet_nil ?_
            intro w9 hC9
            go_wp2_with fail
            go_roundw
            case rel => exact ⟨k + 1, by omega, by go_num, HXq.out.trans hC9⟩
            case measure => simp [intOf]; omega
        · obtain rfl : k = P := by omega
          have HXW := Lib.hid (HX6.out.trans HXq.out)
          have HLN9 : Hid (k ≤ 100 ∧ O ≤ 100) := Lib.hid (by have := HBL.out; have := HKN.out; have := HLK.out; omega)
          go_wp2_with (first
            | (at_builtin; refine kU32.wpList_app (by rfl) (.tmp 175) (.tmp 176) (by rfl) (by rfl) wq.heap.size _ [] (by rfl) (ow_empty9 (heap_alloc_new wq _) (Nat.le_refl _)) _ (zs pk) (by rfl) (Rd.ext Hb_6.out (HXq.out.alloc _)) (by rw [zs_len, List.length_nil]; have := HPN.out.1; have := HLN9.out; omega) (by simp) ?_; intro v7 w7 hown7 hgrow7 hat7)
            | (at_builtin; rw [List.nil_append] at hown7; have hx7 : Ext wq w7 := Ext.grown ((Ext.refl _).alloc _) hgrow7 (fun q hq => by cases hq; exact Nat.le_refl _); have hs7 := hx7.size; refine kU32.wpList_app (by rfl) (.tmp 177) (.tmp 178) (by rfl) (by rfl) wq.heap.size _ (zs pk) (by rfl) hown7 _ (zs ot) (by rfl) (Rd.ext Hc_6.out (HXq.out.trans hx7)) (by rw [zs_len, zs_len]; have := HPN.out; have := HLN9.out; omega) hs7 ?_; intro v8 w8 hown8 hgrow8 hat8))
          have HX8 : Hid (Ext wq w8) := Lib.hid (Ext.grown hx7 hgrow8 (fun q hq => (hown7.lt q hq).1))
          rw [← zs_app] at hown8
          have HO8 := Lib.hid hown8
          clear hown7 hgrow7 hat7 hx7 hs7 hown8 hgrow8 hat8
          refine (rwords_any _ _ _ _ _ (Rd.ext (by have h9 := Ha_6.out; exact h9) (HXq.out.trans HX8.out)) HO8.out.rd).mono ?_
          rintro ed w9 ⟨rfl, hE9⟩
          rw [sameB_refl]
          have HE9 := Lib.hid hE9
          clear hE9
          go_wp2_with fail
          go_ret
          exact ⟨ret_bool (by first | rfl | simp), (HXW.out.trans HX8.out).trans HE9.out⟩
end Go.Proofs.Ytbedfjbnafflfaa
