/- The walk of TaskOnce, with an order. Written by wip/mk_tonce.py. -/
import Derived.Test.YtfigfndabokepaaTOnceB
namespace Go.Proofs.Ytfigfndabokepaa
open Go.BigFrame
open Go.RowKit Go.Proofs.Ytfigfndabokepaa.Plain

set_option maxHeartbeats 12800000 in
set_option maxRecDepth 100000 in
theorem tonce_some (x0 x1 : Int) (xs : List Int) (Aq : Option Addr) (cq : Nat) (W : World) (h : Rd kU16 W (.slice Aq xs.length cq) xs) (b0 : 0 ≤ x0 ∧ x0 ≤ 65535) (b1 : 0 ≤ x1 ∧ x1 ≤ 255) (hl : xs.length ≤ 500) (hx : 0 < xs.length) :
    Calls Try.prog 4 #[.int .u16 x0, .int .u8 x1, .slice Aq xs.length cq] W fun e w' => e = .returned (.bool true) ∧ Ext W w' := by
  have HX := Lib.hid h
  obtain ⟨b01, b02⟩ := b0
  obtain ⟨b11, b12⟩ := b1
  have hl5 : ¬ (500 : Int) < xs.length := by omega
  have hx2 : (0 : Int) < xs.length := by omega
  obtain ⟨n, hn⟩ : ∃ n : Nat, 1 + x0 % 120 = (n : Int) := ⟨(1 + x0 % 120).toNat, by omega⟩
  obtain ⟨g, hg⟩ : ∃ g : Nat, 1 + x1 % 20 = (g : Int) := ⟨(1 + x1 % 20).toNat, by omega⟩
  have n1 : 1 ≤ n := by omega
  have n2 : n ≤ 120 := by omega
  have g1 : 1 ≤ g := by omega
  have g2 : g ≤ 20 := by omega
  have n3 : (1 : Int) ≤ n := by omega
  have n4 : (n : Int) ≤ 120 := by omega
  have g3 : (1 : Int) ≤ g := by omega
  have g4 : (g : Int) ≤ 20 := by omega
  have HCK : Hid (cOk (n : Int) (g : Int) = true) := Lib.hid (by unfold cOk; simp; omega)
  have HNI : Hid (in64 (n : Int)) := Lib.hid (in64_nat n (by omega))
  have HGI : Hid (in64 (g : Int)) := Lib.hid (in64_nat g (by omega))
  clear h
  go_enter Try.func4, Try.ntmps4
  go_wp2_with fail
  refine (talive_any _).mono ?_
  rintro e w1 ⟨rfl, hE⟩
  have E1 := Lib.hid hE
  clear hE
  go_wp2_with fail
  refine (begin_to (n : Int) (g : Int) n _ HNI.out HGI.out HCK.out (Int.toNat_natCast n)).mono ?_
  rintro e w2 ⟨A1, c1, B1, d1, rfl, hT, hD, hE⟩
  have E2 := Lib.hid (E1.out.trans hE)
  have T2 := Lib.hid hT
  have D2 := Lib.hid hD
  clear hE hT hD E1
  go_wp2_with fail
  obtain ⟨V, hVe⟩ : ∃ V, w2.heap.size = V := ⟨_, rfl⟩
  have hV0 : W.heap.size ≤ V := by have := E2.out.size; omega
  have HO0 : Hid (OnceAt W V n g 0 [⟨0, n, -1, 0⟩] (List.replicate n false) [0] 0 A1 B1 (some ⟨V + 1, 0, none⟩) c1 d1 1 ((w2.alloc (.cells #[.slice A1 1 c1, .int .i64 g, .slice B1 n d1] 25)).alloc (.cells #[.int .i64 0] 3))) := Lib.hid (by
    subst hVe
    refine ⟨OI.begin g n n1, by go_simp, by go_simp, by go_simp, fun o => by go_simp, T2.out.ext (((Ext.refl _).alloc _).alloc _), D2.out.ext (((Ext.refl _).alloc _).alloc _), ?_, (E2.out.alloc _).alloc _, rfl⟩
    exact Ow.lit (K := kInt) (B := w2.heap.size + 1) (p := w2.heap.size + 1) (n := 1) _ [0] _ rfl rfl (by simp) (Nat.le_refl _) (by simp [maxLen]) (by intro x hx; simp only [List.mem_singleton] at hx; subst hx; exact in64_nat 0 (by omega)))
  generalize hw2 : (w2.alloc (.cells #[.slice A1 1 c1, .int .i64 g, .slice B1 n d1] 25)).alloc (.cells #[.int .i64 0] 3) = w3 at *
  rw [hVe]
  clear hw2 T2 D2 E2
  go_loopw [11, 12, 13] (fun o u k wr => ∃ (K : Nat) (ts : List Tk) (dn : List Bool) (O : List Nat) (units : Nat) (A B Ao : Option Addr) (c d co : Nat), o = .slice Ao O.length co ∧ u = .int .i64 units ∧ k = .int .i64 K ∧ OnceAt W V n g K ts dn O units A B Ao c d co wr) (fun _ _ k _ => cntT n g - (intOf k).toNat)
  case atStart => exact ⟨0, _, _, [0], 0, A1, B1, _, c1, d1, 1, rfl, rfl, rfl, HO0.out⟩
  case round =>
    clear HO0
    obtain ⟨K, ts, dn, O, units, A, B, Ao, c, d, co, rfl, rfl, rfl, hAt⟩ := hrel
    have HA := Lib.hid hAt
    obtain ⟨hI, v0, v1, v2, vf, hT, hD, hO, hE, hK⟩ := hAt
    have HT := Lib.hid hT
    have HD := Lib.hid hD
    have HOO := Lib.hid hO
    have HE := Lib.hid hE
    have HI := Lib.hid hI
    have hfew := hI.few g1 n1
    have hdl := hI.dl
    have lV : V < wr.heap.size := World.block_lt_of_cell? _ _ v0
    clear hT hD hO hE
    by_cases h0 : O.length = 0
    · have hO0 : O = [] := List.eq_nil_of_length_eq_zero h0
      subst hO0
      obtain ⟨u1, u2, u3, u4⟩ := hI.over
      subst u1
      have U3 := Lib.hid u3
      have U4 := Lib.hid u4
      have U2 := Lib.hid u2
      have htl1 : (ts.length : Int) ≤ 240 := by omega
      have htl0 : 0 < ts.length := by have := hI.len; omega
      obtain ⟨bt, ot, rfl, hct⟩ := Rd.tasks HT.out htl0
      have HCT := Lib.hid hct
      obtain ⟨bd, od, rfl, hcd⟩ := Rd.bools (xs := dn) (n := units) HD.out (by omega)
      have HCD := Lib.hid hcd
      obtain ⟨L, hL⟩ : ∃ L : Nat, cntL units g = L := ⟨_, rfl⟩
      have hbd := cnt_bd g g1 units units (Nat.le_refl _) n1
      rw [hL] at hbd
      have hcok := count_ok units g n1 (by omega) g1 (by omega)
      rw [hL] at hcok
      have hTL : ((cntT units g : Nat) : Int) = 2 * (L : Int) - 1 := by omega
      have HCN : Hid (countT (units : Int) (g : Int) = 2 * (L : Int) - 1 ∧ countL (units : Int) (g : Int) = (L : Int)) := Lib.hid ⟨hcok.1.trans hTL, hcok.2.1⟩
      have hts2 : (ts.length : Int) = 2 * (L : Int) - 1 := by rw [← hTL, u2]
      have hL1 : (1 : Int) ≤ L := by omega
      have hL2 : (L : Int) ≤ 1000 := by omega
      have hdl2 : dn.length = units := hdl
      clear hI u2 u3 u4 hct hcd hL hbd hcok hTL hK h0 hfew
      go_wp2_with fail
      go_loopw [23] (fun i wx => ∃ k : Nat, k ≤ units ∧ i = .int .i64 k ∧ wx = wr) (fun i _ => units - (intOf i).toNat)
      case atStart => exact ⟨0, Nat.zero_le _, rfl, rfl⟩
      case round =>
        obtain ⟨k, hk, rfl, rfl⟩ := hrel
        by_cases hlt : k < units
        · have hlt1 : (k : Int) < units := by omega
          have hk0 : (0 : Int) ≤ k := by omega
          have z := HCD.out k (by omega)
          rw [U3.out k hlt] at z
          go_wp2_with fail
          go_roundw
          case rel => exact ⟨k + 1, by omega, by go_num, by first | rfl | trivial⟩
          case measure => simp [intOf]; omega
        · have hlt1 : ¬ (k : Int) < units := by omega
          go_wp2_with fail
          go_loopw [24] (fun i wx => ∃ t : Nat, t ≤ ts.length ∧ i = .int .i64 t ∧ wx = wr) (fun i _ => ts.length - (intOf i).toNat)
          case atStart => exact ⟨0, Nat.zero_le _, rfl, rfl⟩
          case round =>
            obtain ⟨t, ht, rfl, rfl⟩ := hrel
            by_cases hlt2 : t < ts.length
            · have hlt3 : (t : Int) < ts.length := by omega
              have ht0 : (0 : Int) ≤ t := by omega
              obtain ⟨_, _, _, z⟩ := HCT.out t hlt2
              have e0 : ts.getD t ⟨0, 0, 0, 0⟩ = ts.getD t tk0 := rfl
              rw [e0, U4.out t hlt2] at z
              clear e0
              go_wp2_with fail
              go_roundw
              case rel => exact ⟨t + 1, by omega, by go_num, by first | rfl | trivial⟩
              case measure => simp [intOf]; omega
            · have hlt3 : ¬ (t : Int) < ts.length := by omega
              go_wp2_with fail
              refine (count_to (units : Int) (g : Int) (2 * (L : Int) - 1) (L : Int) _ HNI.out HGI.out HCN.out.1 HCN.out.2).mono ?_
              rintro e w9 ⟨rfl, hE9⟩
              have r0 := hE9.cell v0
              have E9 := Lib.hid (HE.out.trans hE9)
              clear hE9 v0 v1 v2 vf
              go_wp2_with fail
              go_ret
              exact ⟨ret_bool (by first | rfl | (simp; done) | (simp; omega)), E9.out⟩
    · have hO1 : 0 < O.length := by omega
      have hO2 : (0 : Int) < O.length := by omega
      have hO3 : O.length ≤ ts.length := by omega
      have hO4 : (O.length : Int) ≤ 240 := by omega
      have hKb : (K : Int) ≤ 240 := by omega
      have hK0 : (0 : Int) ≤ K := by omega
      obtain ⟨m, hm⟩ : ∃ m, O.length = m + 1 := ⟨O.length - 1, by omega⟩
      obtain ⟨r0, hr0⟩ : ∃ r0 : Nat, K % xs.length = r0 := ⟨_, rfl⟩
      have hr1 : (K : Int) % (xs.length : Int) = (r0 : Int) := by omega
      have hr2 : r0 < xs.length := by rw [← hr0]; exact Nat.mod_lt _ hx
      have hr3 : (r0 : Int) < xs.length := by omega
      have hr4 : (0 : Int) ≤ r0 := by omega
      obtain ⟨bq, oq, rfl, hcq⟩ := Rd.u16s (HX.out.ext HE.out) hx
      have zq := hcq r0 hr2
      have hok := (HX.out.okAt r0 hr2)
      obtain ⟨vv, hvv⟩ : ∃ v, xs.getD r0 0 = v := ⟨_, rfl⟩
      have hok2 : 0 ≤ vv ∧ vv ≤ 65535 := by rw [← hvv]; exact hok
      rw [hvv] at zq
      obtain ⟨hv1, hv2⟩ := hok2
      obtain ⟨q, hq5⟩ : ∃ q : Nat, vv % (O.length : Int) = (q : Int) := ⟨(vv % (O.length : Int)).toNat, by have := Int.emod_nonneg vv (by omega : (O.length : Int) ≠ 0); omega⟩
      have hq : q < O.length := by have := Int.emod_lt_of_pos vv hO2; omega
      clear hcq hok hvv hr0
      have hq1 : (q : Int) < O.length := by omega
      have hq2 : (0 : Int) ≤ q := by omega
      obtain ⟨k, hk⟩ : ∃ k, O.getD q 0 = k := ⟨_, rfl⟩
      have hperm := less_perm O q hq
      rw [hk] at hperm
      have HPERM := Lib.hid hperm
      have hIp := hI.perm hperm
      have HIP := Lib.hid hIp
      have hkl : k < ts.length := hIp.lt k (by simp)
      have hkl1 : (k : Int) < ts.length := by omega
      have hml := less_len O q hq
      have hml2 : (less O q).length = m := by omega
      obtain ⟨go, rfl, go1, go2, go3, _⟩ := Ow.pos HOO.out (by rw [zs_len]; exact hO1)
      have zo : wr.cell? ⟨go, q, none⟩ = some (.int .i64 k) := by
        have := go3 q (by rw [zs_len]; exact hq) 0 (.int .i64 ((zs O).getD q 0)) rfl
        rw [zs_getD, hk] at this
        simpa [kInt] using this
      have hzl : (zs O).length = O.length := zs_len O
      have HR0 : Hid (Rd kInt wr (.slice (some ⟨go, 0, none⟩) O.length co) (zs O)) := Lib.hid HOO.out.rd
      have hcap : O.length ≤ co := by have := HOO.out.rd; rw [← hzl] at this ⊢; obtain ⟨_, _, h1, h2⟩ := this.slice; cases h1; exact h2
      have hcap1 : (O.length : Int) ≤ co := by omega
      have hqc : (q : Int) ≤ co := by omega
      have hqc2 : (q : Int) + 1 ≤ O.length := by omega
      have hqc3 : (q : Int) + 1 ≤ co := by omega
      have HP1 : Hid (Rd kInt wr (.slice (some ⟨go, 0, none⟩) q co) ((zs O).take q)) := Lib.hid (HR0.out.take q co (by omega) (by omega))
      have HLZ := Lib.hid hzl
      have HMM := Lib.hid hm
      have hmb : m ≤ 240 := by omega
      clear hI hIp go3 hk hperm hml hzl hm
      go_upto_region 18 with fail
      go_cut [11, 14, 15] (fun s i t wx => i = .int .i64 q ∧ t = .int .i64 k ∧ DropCut wr O q m s wx)
      case first =>
        have hL1 : ([] : List Int).length + ((zs O).take q).length ≤ 1048576 := by rw [List.length_take]; simp; omega
        have hL2 : ((zs O).take q).length + ((zs O).drop (q + 1)).length ≤ 1048576 := by rw [List.length_take, List.length_drop, HLZ.out]; omega
        have hw1 : IntKind.i64.wrap ((q : Int) + 1) = (q : Int) + 1 := IntWalk.i64_in _ (by omega)
        have hw2 : (0 : Int) ≤ (q : Int) + 1 := by omega
        have hw3 : ((q : Int) + 1).toNat = q + 1 := by omega
        by_cases hc7 : co = q + 1
        · subst hc7
          have hdr : (zs O).drop (q + 1) = [] := List.eq_nil_of_length_eq_zero (by rw [List.length_drop, HLZ.out]; omega)
          have HP2 : Hid (Rd kInt wr (.slice (some ⟨go, 0, none⟩) 0 0) ((zs O).drop (q + 1))) := Lib.hid (by rw [hdr]; exact Rd.nil _ _ _)
          have hq5 : (q : Int) ≤ (q : Int) + 1 := by omega
          clear hdr
          go_region_held3 (fun _ => True)
            (first | go_keep | trivial)
            (first
              | (refine kInt.step_app (by rfl) (.tmp 72) (.tmp 75) (by rfl) (by rfl) wr.heap.size _ [] (by rfl) ((Ow.emptyAt wr rfl (Nat.le_refl _)).ext (Ext.refl _).drew) _ ((zs O).take q) (by rfl) (HP1.out.ext ((Ext.refl _).alloc _).drew) hL1 (by simp) ?_
                 intro v6 w6 hown6 hgrow6 hat6
                 have hE6 := ((Ext.refl wr).alloc _).drew.grown hgrow6 (fun r hr => by cases hr; exact Nat.le_refl _)
                 simp only [List.nil_append] at hown6
                 have hz6 := hE6.size)
              | (refine kInt.step_app (by rfl) (.tmp 76) (.tmp 80) (by rfl) (by rfl) wr.heap.size _ ((zs O).take q) (by rfl) hown6 _ ((zs O).drop (q + 1)) (by rfl) (HP2.out.ext hE6) hL2 hz6 ?_
                 intro v7 w7 hown7 hgrow7 hat7
                 have hE7 := hE6.grown hgrow7 (fun r hr => (hown6.lt r hr).1)))
          go_wp2_with fail
          go_meet
          have ho7 := hown7
          rw [← zs_less] at ho7
          obtain ⟨A7, c7, rfl, _⟩ := ho7.slice
          rw [zs_len, hml2] at ho7 ⊢
          exact ⟨rfl, rfl, A7, c7, rfl, ho7, hE7⟩
        · have HP2 : Hid (Rd kInt wr (.slice (some ⟨go, 0 + (q + 1) * 1, none⟩) (O.length - (q + 1)) (co - (q + 1))) ((zs O).drop (q + 1))) := Lib.hid (HR0.out.drop (q + 1) (O.length - (q + 1)) (co - (q + 1)) (by rw [HLZ.out]) (by omega))
          have hp2 := HP2.out
          simp only [Nat.zero_add, Nat.mul_one] at hp2
          have HP2 := Lib.hid hp2
          clear hp2
          go_region_held3 (fun _ => True)
            (first | go_keep | trivial)
            (first
              | (refine kInt.step_app (by rfl) (.tmp 72) (.tmp 75) (by rfl) (by rfl) wr.heap.size _ [] (by rfl) ((Ow.emptyAt wr rfl (Nat.le_refl _)).ext (Ext.refl _).drew) _ ((zs O).take q) (by rfl) (HP1.out.ext ((Ext.refl _).alloc _).drew) hL1 (by simp) ?_
                 intro v6 w6 hown6 hgrow6 hat6
                 have hE6 := ((Ext.refl wr).alloc _).drew.grown hgrow6 (fun r hr => by cases hr; exact Nat.le_refl _)
                 simp only [List.nil_append] at hown6
                 have hz6 := hE6.size)
              | (refine kInt.step_app (by rfl) (.tmp 76) (.tmp 80) (by rfl) (by rfl) wr.heap.size _ ((zs O).take q) (by rfl) hown6 _ ((zs O).drop (q + 1)) (by rfl) (HP2.out.ext hE6) hL2 hz6 ?_
                 intro v7 w7 hown7 hgrow7 hat7
                 have hE7 := hE6.grown hgrow7 (fun r hr => (hown6.lt r hr).1)))
          go_wp2_with fail
          go_meet
          have ho7 := hown7
          rw [← zs_less] at ho7
          obtain ⟨A7, c7, rfl, _⟩ := ho7.slice
          rw [zs_len, hml2] at ho7 ⊢
          exact ⟨rfl, rfl, A7, c7, rfl, ho7, hE7⟩
      case rest =>
        obtain ⟨rfl, rfl, A4, c4, rfl, hO4, hE4⟩ := hcut
        have p0 := hE4.cell v0
        have p1 := hE4.cell v1
        have p2 := hE4.cell v2
        have pf : ∀ o, wc.frozen? ⟨V, o, none⟩ = false := fun o => (Below.frozen hE4 (p := ⟨V, o, none⟩) lV).trans (vf o)
        have hz4 := hE4.size
        have lV4 : V < wc.heap.size := by omega
        have T4 := Lib.hid (HT.out.ext hE4)
        have D4 := Lib.hid (HD.out.ext hE4)
        have O4 := Lib.hid hO4
        have E4 := Lib.hid (HE.out.trans hE4)
        have HR := Lib.hid (HI.out.right g1 (by omega) n1 n2)
        have HKW := Lib.hid (HIP.out.w0 k (by simp))
        have HGB := Lib.hid (HIP.out.greatB g1 (by omega) n1 n2 k (by simp))
        have HKI : Hid (in64 (k : Int)) := Lib.hid (in64_nat k (by omega))
        have l48 : ts.length ≤ 1048576 := by omega
        have l49 : n ≤ 1048576 := by omega
        have HDL := Lib.hid hdl
        clear hO4 hE4 v0 v1 v2 vf zo zq
        go_wp2_with fail
        refine (pgreat_any _ _ _ _ _ _ _ _ _ T4.out (by omega) HGI.out HKI.out).mono ?_
        rintro e w4 ⟨he, hE⟩
        rw [HGB.out] at he
        have o0 := hE.cell p0
        have o1 := hE.cell p1
        have o2 := hE.cell p2
        have of : ∀ o, w4.frozen? ⟨V, o, none⟩ = false := fun o => (Below.frozen hE (p := ⟨V, o, none⟩) lV4).trans (pf o)
        have hz5 := hE.size
        have lV5 : V < w4.heap.size := by omega
        have T5 := Lib.hid (T4.out.ext hE)
        have D5 := Lib.hid (D4.out.ext hE)
        have O5 := Lib.hid (O4.out.ext hE)
        have E5 := Lib.hid (E4.out.trans hE)
        clear hE p0 p1 p2 pf T4 D4 O4 E4
        by_cases hs : g < sz ts k
        · rw [decide_eq_true hs] at he
          subst he
          have HPE : Hid (partErr ts (g : Int) dn.length (k : Int) = 0) := Lib.hid (by rw [HDL.out]; exact partErr_ok HR.out hkl (by rw [HGB.out]; exact decide_eq_true hs) HKW.out (by omega))
          go_wp2_with fail
          refine (part_to _ _ _ _ ts.length n (ts.length + 2) ts (partedL ts k) dn (g : Int) (k : Int) (ts.length : Int) ((ts.length : Int) + 1) _ T5.out D5.out rfl HDL.out HGI.out HKI.out l48 l49 (by rw [← HDL.out]; exact HPE.out) (by rw [Int.toNat_natCast]; rfl) (partedL_len ts k) rfl rfl).mono ?_
          rintro e w5 ⟨A6, c6, B6, d6, rfl, hT, hD, hA, hB, hE⟩
          have x0 := hE.cell o0
          have x1 := hE.cell o1
          have x2 := hE.cell o2
          have xf : ∀ o, w5.frozen? ⟨V, o, none⟩ = false := fun o => (Below.frozen hE (p := ⟨V, o, none⟩) lV5).trans (of o)
          have hz6 := hE.size
          have lV6 : V < w5.heap.size := by omega
          have lV7 : V < w5.heap.size + 1 := by omega
          have nV : ¬ w5.heap.size = V := by omega
          have nV2 : ¬ V = w5.heap.size := by omega
          have T6 := Lib.hid hT
          have D6 := Lib.hid hD
          have O6 := Lib.hid (O5.out.ext hE)
          have E6 := Lib.hid (E5.out.trans hE)
          have FA := Lib.hid hA
          have FB := Lib.hid hB
          have HLT : Hid (∀ r, (Value.slice A4 m c4).ownBlock = some r → wr.heap.size ≤ r ∧ r < w4.heap.size) := Lib.hid fun r hr => O5.out.lt r hr
          clear hE hT hD hA hB o0 o1 o2 of T5 D5 O5 E5
          have hlen : (zs (less O q) ++ [(ts.length : Int), (ts.length : Int) + 1]).length = m + 2 := by rw [List.length_append, zs_len, hml2]; rfl
          have hL3 : (zs (less O q)).length + ([(ts.length : Int), (ts.length : Int) + 1] : List Int).length ≤ 1048576 := by rw [zs_len, hml2]; simp; omega
          have htl : (ts.length : Int) ≤ 240 := by omega
          go_wp2_with fail
          go_region_held3 (fun w' => w'.cell? ⟨w5.heap.size, 0, none⟩ = some (.slice A6 (ts.length + 2) c6) ∧ w'.cell? ⟨w5.heap.size, 1, none⟩ = some (.int .i64 g) ∧ w'.cell? ⟨w5.heap.size, 2, none⟩ = some (.slice B6 n d6))
            (first | go_keep | (with_reducible exact ⟨t1, t2, t3⟩))
            (first
              | (refine kInt.step_app (by rfl) (.tmp 96) (.tmp 99) (by rfl) (by rfl) wr.heap.size _ (zs (less O q)) (by rfl) (O6.out.ext ((((Ext.refl _).alloc _).alloc _).drew)) _ [(ts.length : Int), (ts.length : Int) + 1] (by rfl) ((Ow.lit (K := kInt) (B := 0) (p := w5.heap.size + 1) (n := 2) _ [(ts.length : Int), (ts.length : Int) + 1] _ rfl rfl (by simp) (Nat.zero_le _) (by simp [maxLen]) (by intro x hx; simp only [List.mem_cons, List.not_mem_nil, or_false] at hx; rcases hx with rfl | rfl <;> (unfold kInt in64; simp only; omega))).rd.ext (Ext.refl _).drew) hL3 (by simp; omega) ?_
                 intro v7 w7 hown7 hgrow7 hat7
                 obtain ⟨gX, _⟩ := grown_far hgrow7 (b := w5.heap.size) (by first | (simp; done) | (simp; omega)) (fun e => by have := (HLT.out _ e.symm).2; omega)
                 obtain ⟨gV, gVf⟩ := grown_far hgrow7 (b := V) (by first | (simp; done) | (simp; omega)) (fun e => by have := (HLT.out _ e.symm).1; omega)
                 have t1 : w7.cell? ⟨w5.heap.size, 0, none⟩ = some (.slice A6 (ts.length + 2) c6) := (gX 0).trans (by go_simp)
                 have t2 : w7.cell? ⟨w5.heap.size, 1, none⟩ = some (.int .i64 g) := (gX 1).trans (by go_simp)
                 have t3 : w7.cell? ⟨w5.heap.size, 2, none⟩ = some (.slice B6 n d6) := (gX 2).trans (by go_simp)
                 have s0 : w7.cell? ⟨V, 0, none⟩ = some (.slice A ts.length c) := (gV 0).trans (by go_simp)
                 have s1 : w7.cell? ⟨V, 1, none⟩ = some (.int .i64 g) := (gV 1).trans (by go_simp)
                 have s2 : w7.cell? ⟨V, 2, none⟩ = some (.slice B n d) := (gV 2).trans (by go_simp)
                 have sf : ∀ o, w7.frozen? ⟨V, o, none⟩ = false := fun o => (gVf o).trans (by have := xf o; go_simp)
                 have hz7 := hgrow7.size
                 simp at hz7
                 have lV8 : V < w7.heap.size := by omega
                 have lX8 : w5.heap.size < w7.heap.size := by omega
                 have HOW7 := Lib.hid hown7
                 have HGR7 := Lib.hid hgrow7))
          have ho7 := HOW7.out.slice
          rw [hlen] at ho7
          obtain ⟨A7, c7, rfl, _⟩ := ho7
          have HZ : Hid (zs (less O q ++ [ts.length, ts.length + 1]) = zs (less O q) ++ [(ts.length : Int), (ts.length : Int) + 1]) := Lib.hid (by unfold zs; simp)
          have HX5 := Lib.hid (((E6.out.alloc _).alloc _).drew.grown HGR7.out (fun r hr => by have := HE.out.size; have := (HLT.out r hr).1; omega))
          go_wp2_with fail
          go_roundw
          case rel =>
            have hlen2 : (less O q ++ [ts.length, ts.length + 1]).length = m + 2 := by rw [List.length_append, hml2]; rfl
            have hpl := partedL_len ts k
            refine ⟨K + 1, partedL ts k, dn, less O q ++ [ts.length, ts.length + 1], units, A6, B6, A7, c6, d6, c7, by rw [hlen2], rfl, by go_num, ⟨HIP.out.parted g1 hs, ?_, ?_, ?_, ?_, ?_, ?_, ?_, ?_, ?_⟩⟩
            · rw [hpl]; go_simp
            · go_simp
            · go_simp
            · intro o; have := sf o; go_simp
            · rw [hpl]; exact (((T6.out.ext ((((Ext.refl _).alloc _).alloc _).drew)).grown HGR7.out (fun a ha e => by have h1 := (HLT.out _ e.symm).2; have h2 := FA.out a ha; omega)).set3 (FA.out.mono (by omega)) _ _ _)
            · exact (((D6.out.ext ((((Ext.refl _).alloc _).alloc _).drew)).grown HGR7.out (fun a ha e => by have h1 := (HLT.out _ e.symm).2; have h2 := FB.out a ha; omega)).set3 (FB.out.mono (by omega)) _ _ _)
            · rw [hlen2, HZ.out]; exact (((HOW7.out.mono (by omega)).setBelow (p := ⟨V, 0, none⟩) (by show V < V + 1; omega) _).setBelow (p := ⟨V, 1, none⟩) (by show V < V + 1; omega) _).setBelow (p := ⟨V, 2, none⟩) (by show V < V + 1; omega) _
            · exact HX5.out.set3 hV0 _ _ _
            · have hmo := HMM.out; rw [hlen2, hpl]; omega
          case measure => simp [intOf]; omega
        · rw [decide_eq_false hs] at he
          subst he
          have ⟨hdI, hdq⟩ := HIP.out.did g1 hs
          have HDI := Lib.hid hdI
          have htask := HIP.out.task k hkl
          have hszp := HIP.out.szpos k (by simp)
          have hcv : dn.getD (T ts k).lo.toNat false = false := (HI.out.cov (T ts k).lo.toNat (by omega)).2 ⟨k, HPERM.out.mem_iff.2 (by simp), by omega, by omega⟩
          have HDE : Hid (doErr ts (g : Int) dn (k : Int) = 0) := Lib.hid (doErr_zero (by rw [HDL.out]; exact HR.out) hkl (by rw [HDL.out, HGB.out]; exact decide_eq_false hs) HKW.out hcv)
          obtain ⟨us, qq, hcl⟩ : ∃ us qq, climb (ts.length + 1) ts (T ts k).up = (us, qq) := ⟨_, _, rfl⟩
          have HCL := Lib.hid hcl
          rw [hcl] at hdq
          have hqq : qq = decide ((m : Int) = 0) := by
            have h1 : qq = decide (less O q = []) := hdq
            rw [h1, Bool.eq_iff_iff, decide_eq_true_eq, decide_eq_true_eq, ← List.length_eq_zero_iff, hml2]; omega
          have hul : us.length = ts.length := by have := climb_len (ts.length + 1) ts (T ts k).up; rw [hcl] at this; exact this
          have hIu : OI g n us (marked dn (T ts k).lo.toNat (T ts k).hi.toNat) (less O q) (units + sz ts k) := by have := HDI.out; rw [hcl] at this; exact this
          have HIU := Lib.hid hIu
          have hfield : (us.getD k tk0).lo = (ts.getD k tk0).lo ∧ (us.getD k tk0).hi = (ts.getD k tk0).hi := by have := climb_same (ts.length + 1) ts (T ts k).up; rw [hcl] at this; exact ⟨(this.2 k).1, (this.2 k).2.1⟩
          obtain ⟨⟨lo, hi, up, wt⟩, htk⟩ : ∃ x, us.getD k tk0 = x := ⟨_, rfl⟩
          rw [htk] at hfield
          obtain ⟨f1, f2⟩ : lo = (T ts k).lo ∧ hi = (T ts k).hi := hfield
          have hsz2 : hi - lo = (sz ts k : Int) := by rw [f1, f2]; exact hszp.2.2
          obtain ⟨S, hS⟩ : ∃ S, sz ts k = S := ⟨_, rfl⟩
          rw [hS] at hsz2 hszp
          have HSS := Lib.hid hS
          have hlo : 0 ≤ lo := by rw [f1]; exact htask.1
          have hhi : hi ≤ n := by rw [f2]; exact htask.2.2.1
          have hun : units + S ≤ n := by have := hIu.uns; rw [hS] at this; omega
          have hun1 : (units : Int) + S ≤ n := by omega
          have HTK := Lib.hid htk
          clear hdI hdq hcl hIu f1 f2 htask hszp hS htk hcv
          by_cases hm0 : m = 0
          · have hqt : qq = true := by rw [hqq, decide_eq_true_eq]; omega
            have hmi : (m : Int) = 0 := by omega
            clear hm0
            go_wp2_with fail
            refine (do_to _ _ _ _ ts.length n ts us dn _ (g : Int) (k : Int) qq _ T5.out D5.out rfl HDL.out HGI.out HKI.out l48 l49 HDE.out (by rw [Int.toNat_natCast]; exact HCL.out) rfl).mono ?_
            rintro e w5 ⟨A6, c6, B6, d6, he, hT, hD, hA, hB, hE⟩
            rw [hqt] at he
            subst he
            rw [Int.toNat_natCast] at hD
            have x0 := hE.cell o0
            have x1 := hE.cell o1
            have x2 := hE.cell o2
            have xf : ∀ o, w5.frozen? ⟨V, o, none⟩ = false := fun o => (Below.frozen hE (p := ⟨V, o, none⟩) lV5).trans (of o)
            have hz6 := hE.size
            have lV6 : V < w5.heap.size := by omega
            have lV7 : V < w5.heap.size + 1 := by omega
            have nV : ¬ w5.heap.size = V := by omega
            have nV2 : ¬ V = w5.heap.size := by omega
            obtain ⟨bx, ox, rfl, hcx⟩ := Rd.tasks hT (by omega)
            obtain ⟨z0, z1, _, _⟩ := hcx k (by omega)
            have e0 : us.getD k ⟨0, 0, 0, 0⟩ = us.getD k tk0 := rfl
            rw [e0, HTK.out] at z0 z1
            simp only at z0 z1
            have lbx : bx < w5.heap.size := World.block_lt_of_cell? _ _ z0
            have T6 := Lib.hid hT
            have D6 := Lib.hid hD
            have O6 := Lib.hid (O5.out.ext hE)
            have E6 := Lib.hid (E5.out.trans hE)
            have FA := Lib.hid hA
            have FB := Lib.hid hB
            have htl : (ts.length : Int) ≤ 240 := by omega
            clear hE hT hD hA hB o0 o1 o2 of T5 D5 O5 E5 hcx e0 hqq hqt
            go_wp2_with fail
            go_quiet (fail)
            go_wp2_with fail
            go_roundw
            case rel =>
              refine ⟨K + 1, us, _, less O q, units + S, some ⟨bx, ox, none⟩, B6, A4, c6, d6, c4, by rw [hml2], ?_, by go_num, ⟨by have := HIU.out; rw [HSS.out] at this; exact this, ?_, ?_, ?_, ?_, ?_, ?_, ?_, ?_, ?_⟩⟩
              · exact congrArg (Value.int .i64) (by omega)
              · rw [hul]; go_simp
              · go_simp
              · go_simp
              · intro o; have := xf o; go_simp
              · rw [hul]; exact ((T6.out.ext (((Ext.refl _).alloc _).drewN _)).set3 (FA.out.mono (by omega)) _ _ _)
              · exact ((D6.out.ext (((Ext.refl _).alloc _).drewN _)).set3 (FB.out.mono (by omega)) _ _ _)
              · rw [hml2]; exact (((((O6.out.ext (((Ext.refl _).alloc _).drewN _)).mono (by omega)).setBelow (p := ⟨V, 0, none⟩) (by show V < V + 1; omega) _).setBelow (p := ⟨V, 1, none⟩) (by show V < V + 1; omega) _).setBelow (p := ⟨V, 2, none⟩) (by show V < V + 1; omega) _)
              · exact ((E6.out.alloc _).drewN _).set3 hV0 _ _ _
              · have hmo := HMM.out; rw [hul, hml2]; omega
            case measure => simp [intOf]; omega
          · have hqt : qq = false := by rw [hqq, decide_eq_false_iff_not]; omega
            have hmi : ((m : Int) == 0) = false := by simpa using hm0
            have hmj : ¬ (m : Int) = 0 := by omega
            clear hm0
            go_wp2_with fail
            refine (do_to _ _ _ _ ts.length n ts us dn _ (g : Int) (k : Int) qq _ T5.out D5.out rfl HDL.out HGI.out HKI.out l48 l49 HDE.out (by rw [Int.toNat_natCast]; exact HCL.out) rfl).mono ?_
            rintro e w5 ⟨A6, c6, B6, d6, he, hT, hD, hA, hB, hE⟩
            rw [hqt] at he
            subst he
            rw [Int.toNat_natCast] at hD
            have x0 := hE.cell o0
            have x1 := hE.cell o1
            have x2 := hE.cell o2
            have xf : ∀ o, w5.frozen? ⟨V, o, none⟩ = false := fun o => (Below.frozen hE (p := ⟨V, o, none⟩) lV5).trans (of o)
            have hz6 := hE.size
            have lV6 : V < w5.heap.size := by omega
            have lV7 : V < w5.heap.size + 1 := by omega
            have nV : ¬ w5.heap.size = V := by omega
            have nV2 : ¬ V = w5.heap.size := by omega
            obtain ⟨bx, ox, rfl, hcx⟩ := Rd.tasks hT (by omega)
            obtain ⟨z0, z1, _, _⟩ := hcx k (by omega)
            have e0 : us.getD k ⟨0, 0, 0, 0⟩ = us.getD k tk0 := rfl
            rw [e0, HTK.out] at z0 z1
            simp only at z0 z1
            have lbx : bx < w5.heap.size := World.block_lt_of_cell? _ _ z0
            have T6 := Lib.hid hT
            have D6 := Lib.hid hD
            have O6 := Lib.hid (O5.out.ext hE)
            have E6 := Lib.hid (E5.out.trans hE)
            have FA := Lib.hid hA
            have FB := Lib.hid hB
            have htl : (ts.length : Int) ≤ 240 := by omega
            clear hE hT hD hA hB o0 o1 o2 of T5 D5 O5 E5 hcx e0 hqq hqt
            go_wp2_with fail
            go_quiet (fail)
            go_wp2_with fail
            go_roundw
            case rel =>
              refine ⟨K + 1, us, _, less O q, units + S, some ⟨bx, ox, none⟩, B6, A4, c6, d6, c4, by rw [hml2], ?_, by go_num, ⟨by have := HIU.out; rw [HSS.out] at this; exact this, ?_, ?_, ?_, ?_, ?_, ?_, ?_, ?_, ?_⟩⟩
              · exact congrArg (Value.int .i64) (by omega)
              · rw [hul]; go_simp
              · go_simp
              · go_simp
              · intro o; have := xf o; go_simp
              · rw [hul]; exact ((T6.out.ext (((Ext.refl _).alloc _).drewN _)).set3 (FA.out.mono (by omega)) _ _ _)
              · exact ((D6.out.ext (((Ext.refl _).alloc _).drewN _)).set3 (FB.out.mono (by omega)) _ _ _)
              · rw [hml2]; exact (((((O6.out.ext (((Ext.refl _).alloc _).drewN _)).mono (by omega)).setBelow (p := ⟨V, 0, none⟩) (by show V < V + 1; omega) _).setBelow (p := ⟨V, 1, none⟩) (by show V < V + 1; omega) _).setBelow (p := ⟨V, 2, none⟩) (by show V < V + 1; omega) _)
              · exact ((E6.out.alloc _).drewN _).set3 hV0 _ _ _
              · have hmo := HMM.out; rw [hul, hml2]; omega
            case measure => simp [intOf]; omega

end Go.Proofs.Ytfigfndabokepaa
