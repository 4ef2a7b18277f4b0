/- ScanJoins: the law returns true. Written by wip/mk_s8j.py. -/
import Derived.Test.YthblpcmmeajhkaaJ7
import Derived.Test.YthblpcmmeajhkaaZS8H
import Derived.Deep.RegionLaw
import Derived.Deep.RegionLawGrows
import Derived.Deep.DeepCutAuto
set_option linter.unusedVariables false
set_option linter.unusedSimpArgs false
set_option linter.unnecessarySimpa false
namespace Go.Proofs.Ythblpcmmeajhkaa
open Go.BigFrame
open Go.RowKit Go.Proofs.Ythblpcmmeajhkaa.Plain

theorem ow_empty_at {α : Type} {K : Kd α} {B p : Nat} {w : World} (h : w.heap[p]? = some (.cells #[] K.e)) (hB : B ≤ p) : Ow K B w (.slice (some ⟨p, 0, none⟩) 0 0) [] :=
  ⟨⟨by simp [Kd.flat], .inr ⟨p, 0, #[], rfl, hB, h, Nat.le_refl _, by simp [maxLen], by simp, by simp [Kd.flat]⟩⟩, by simp⟩
def JoinCut (w3 : World) (z : List Nat) (n t : Nat) (v17 v18 v20 : Value) (wx : World) : Prop :=
  ∃ (L : Option Addr) (c : Nat), v17 = .slice L n c ∧ v18 = .int .u32 t ∧ v20 = .int .i64 0 ∧ n ≤ c ∧ Rd kU32 wx (.slice L n c) (zs z) ∧ Ext w3 wx
set_option maxHeartbeats 6400000 in
set_option maxRecDepth 100000 in
theorem scanjoins_any (la lb : List Nat) (La Lb : Option Addr) (ca cb : Nat) (k0 : Int) (W : World) (hA : Rd kU32 W (.slice La la.length ca) (zs la)) (hB : Rd kU32 W (.slice Lb lb.length cb) (zs lb)) (hk : 0 ≤ k0 ∧ k0 ≤ 255) :
    Calls Try.prog 6 #[.slice La la.length ca, .slice Lb lb.length cb, .int .u8 k0] W fun ed w' => ed = .returned (.bool true) ∧ Ext W w' := by
  have HA := Lib.hid hA
  have HB := Lib.hid hB
  obtain ⟨q0, q1⟩ := hk
  obtain ⟨P, hP⟩ : ∃ P : Nat, 1 + k0 % 100 = (P : Int) := ⟨(1 + k0 % 100).toNat, by omega⟩
  have HPQ : Hid (1 ≤ P ∧ P ≤ 100) := Lib.hid (by omega)
  clear hA hB
  go_enter Try.func6, Try.ntmps6
  go_wp2_with fail
  refine (salive_any _).mono ?_
  rintro ed w1 ⟨rfl, hE1⟩
  have HX1 := Lib.hid hE1
  clear hE1
  by_cases h1 : (60 : Int) < la.length
  · go_wp2_with fail
    go_ret
    exact ⟨rfl, HX1.out⟩
  by_cases h2 : (60 : Int) < lb.length
  · have h1' : (la.length : Int) ≤ 60 := by omega
    go_wp2_with fail
    go_ret
    exact ⟨rfl, HX1.out⟩
  have h1' : (la.length : Int) ≤ 60 := by omega
  have h2' : (lb.length : Int) ≤ 60 := by omega
  clear h1 h2
  obtain ⟨s1, e1⟩ := sumsP_good la P 3 2 [] (by have := HPQ.out; omega) (by have := HPQ.out; omega) (by decide)
  obtain ⟨s2, e2⟩ := sumsP_good lb P 3 2 [] (by have := HPQ.out; omega) (by have := HPQ.out; omega) (by decide)
  obtain ⟨s3, e3⟩ := sumsP_good (la ++ lb) P 3 2 [] (by have := HPQ.out; omega) (by have := HPQ.out; omega) (by decide)
  have f1 := sumsW_len la
  have f2 := sumsW_len lb
  have f3 := sumsW_len (la ++ lb)
  have ht := totW_app la lb
  have htk := sumsW_app la lb
  have hat : ∀ i, i < lb.length → (sumsW (la ++ lb)).getD (la.length + i) 0 = ((sumsW lb).getD i 0 + totW la) % 4294967296 := sumsW_app_at la lb
  have hz0 : 0 < (la ++ lb).length → (sumsW (la ++ lb)).getD 0 0 = 0 := fun h => by rw [sumsW_at _ _ h, List.take_zero]; rfl
  have hl1 := totW_lt la
  have hl2 := totW_lt lb
  have hl3 := totW_lt (la ++ lb)
  obtain ⟨x, hx⟩ : ∃ x, sumsW la = x := ⟨_, rfl⟩
  obtain ⟨y, hy⟩ : ∃ x, sumsW lb = x := ⟨_, rfl⟩
  obtain ⟨z, hz⟩ : ∃ x, sumsW (la ++ lb) = x := ⟨_, rfl⟩
  obtain ⟨s, hs⟩ : ∃ x, totW la = x := ⟨_, rfl⟩
  obtain ⟨t, htt⟩ : ∃ x, totW lb = x := ⟨_, rfl⟩
  obtain ⟨u, hu⟩ : ∃ x, totW (la ++ lb) = x := ⟨_, rfl⟩
  obtain ⟨n, hn⟩ : ∃ x, (la ++ lb).length = x := ⟨_, rfl⟩
  rw [hs, htt, hu] at ht
  rw [hz, hx] at htk
  rw [hx] at f1
  rw [hy] at f2
  rw [hz, hn] at f3
  rw [hx, hs] at e1
  rw [hy, htt] at e2
  rw [hz, hu] at e3
  rw [hn, hz] at hz0
  rw [hs] at hl1
  rw [htt] at hl2
  rw [hu] at hl3
  simp only [hz, hy, hs] at hat
  have hnn : n = la.length + lb.length := by rw [← hn, List.length_append]
  have HE := Lib.hid (And.intro e1 (And.intro e2 e3))
  have HF := Lib.hid (And.intro f1 (And.intro f2 f3))
  have HN := Lib.hid (And.intro hn hnn)
  have HT := Lib.hid ht
  have HTK := Lib.hid htk
  have HAT := Lib.hid hat
  have HZ0 := Lib.hid hz0
  have HLL := Lib.hid (And.intro hl1 (And.intro hl2 hl3))
  clear e1 e2 e3 f1 f2 f3 ht htk hat hz0 hl1 hl2 hl3 hx hy hz hs htt hu hn hnn
  go_wp2_with fail
  obtain ⟨V, hV⟩ : ∃ V, w1.heap.size = V := ⟨_, rfl⟩
  have HX2 : Hid (Ext W (w1.alloc (.cells #[.int .i64 3, .int .i64 2, .slice none 0 0] 25))) := Lib.hid (HX1.out.alloc _)
  have HB2 : Hid ((w1.alloc (.cells #[.int .i64 3, .int .i64 2, .slice none 0 0] 25)).heap[V]? = some (.cells #[.int .i64 3, .int .i64 2, .slice none 0 0] 25)) := Lib.hid (by rw [← hV]; exact heap_alloc_new w1 _)
  rw [hV]
  generalize (w1.alloc (.cells #[.int .i64 3, .int .i64 2, .slice none 0 0] 25)) = w2 at *
  have kx0 : w2.cell? ⟨V, 0, none⟩ = some (.int .i64 3) := (cell_of_row w2 V 0 _ _ _ HB2.out).trans rfl
  have kx1 : w2.cell? ⟨V, 1, none⟩ = some (.int .i64 2) := (cell_of_row w2 V 1 _ _ _ HB2.out).trans rfl
  have kx2 : w2.cell? ⟨V, 2, none⟩ = some (.slice none 0 0) := (cell_of_row w2 V 2 _ _ _ HB2.out).trans rfl
  have lV2 : V < w2.heap.size := World.block_lt_of_cell? _ _ kx0
  clear hV HB2 HX1
  refine (ssums_any la La ca P 3 2 none 0 [] _ (HA.out.ext HX2.out) (Rd.nil _ _ _) (by omega) (by have := HPQ.out; unfold in64; omega) (by decide) (by decide)).mono ?_
  rw [HE.out.1]
  rintro ed w3 ⟨L3, l3, rfl, hO3, hE3⟩
  simp only at hO3 ⊢
  rw [HF.out.1] at hO3 ⊢
  replace kx0 := Ext.cell hE3 kx0
  replace kx1 := Ext.cell hE3 kx1
  replace kx2 := Ext.cell hE3 kx2
  have lb3_0 : V < w3.heap.size := by have := Ext.size hE3; omega
  have HX3 := Lib.hid (HX2.out.trans hE3)
  have Hx_3 := Lib.hid (hO3.rd)
  clear hE3 HX2
  go_wp2_with fail
  refine (ssums_any lb Lb cb P 3 2 none 0 [] _ (HB.out.ext HX3.out) (Rd.nil _ _ _) (by omega) (by have := HPQ.out; unfold in64; omega) (by decide) (by decide)).mono ?_
  rw [HE.out.2.1]
  rintro ed w4 ⟨L4, l4, rfl, hO4, hE4⟩
  simp only at hO4 ⊢
  rw [HF.out.2.1] at hO4 ⊢
  replace kx0 := Ext.cell hE4 kx0
  replace kx1 := Ext.cell hE4 kx1
  replace kx2 := Ext.cell hE4 kx2
  have lb4_0 : V < w4.heap.size := by have := Ext.size hE4; omega
  have HX4 := Lib.hid (HX3.out.trans hE4)
  have Hx_4 := Lib.hid (Hx_3.out.ext hE4)
  have Hy_4 := Lib.hid (hO4.rd)
  clear hE4 HX3 Hx_3 lb3_0
  go_upto_region 9 with fail
  go_cut [17, 18, 20] (fun v17 v18 v20 wx => JoinCut w4 z n u v17 v18 v20 wx)
  case first =>
    go_region_law (first
      | (refine kU32.step_app (by rfl) (.tmp 56) (.tmp 57) (by rfl) (by rfl) w4.heap.size _ [] (by rfl) (ow_empty_at (heap_alloc_new w4 _) (Nat.le_refl _)) _ (zs la) (by rfl) (Rd.ext (HA.out.ext HX4.out) (by repeat (first | (with_reducible exact Ext.refl _) | (with_reducible assumption) | refine Ext.alloc ?_ _ | refine Ext.drew ?_ | refine Ext.drewN ?_ _))) (by rw [zs_len, List.length_nil]; omega) (by simp) ?_
         intro v5 w5 hown5 hgrow5 hat5
         have hx5 : Ext w4 w5 := Ext.grown (by repeat (first | (with_reducible exact Ext.refl _) | (with_reducible assumption) | refine Ext.alloc ?_ _ | refine Ext.drew ?_ | refine Ext.drewN ?_ _)) hgrow5 (fun q hq => by cases hq; first | exact Nat.le_refl _ | (simp; done))
         rw [List.nil_append] at hown5
         have c50 := Ext.cell hx5 kx0
         have c51 := Ext.cell hx5 kx1
         have c52 := Ext.cell hx5 kx2
         have sz5 := hx5.size
         have lV5 : V < w5.heap.size := by omega)
      | (refine kU32.step_app (by rfl) (.tmp 58) (.tmp 59) (by rfl) (by rfl) w4.heap.size _ (zs la) (by rfl) (Ow.ext hown5 (by repeat (first | (with_reducible exact Ext.refl _) | (with_reducible assumption) | refine Ext.alloc ?_ _ | refine Ext.drew ?_ | refine Ext.drewN ?_ _))) _ (zs lb) (by rfl) (Rd.ext (HB.out.ext HX4.out) (by repeat (first | (with_reducible exact Ext.refl _) | (with_reducible assumption) | refine Ext.alloc ?_ _ | refine Ext.drew ?_ | refine Ext.drewN ?_ _))) (by rw [zs_len, zs_len]; omega) (by first | omega | (simp; omega)) ?_
         intro v6 w6 hown6 hgrow6 hat6
         have hx6 : Ext w4 w6 := Ext.grown (by repeat (first | (with_reducible exact Ext.refl _) | (with_reducible assumption) | refine Ext.alloc ?_ _ | refine Ext.drew ?_ | refine Ext.drewN ?_ _)) hgrow6 (fun q hq => (hown5.lt q hq).1)
         rw [← zs_app] at hown6
         obtain ⟨A6, c6, hv6, hc6⟩ := hown6.slice
         rw [zs_len, HN.out.1] at hv6
         subst hv6
         have hr6 : Rd kU32 w6 (.slice A6 n c6) (zs (la ++ lb)) := hown6.rd
         have c60 := Ext.cell hx6 kx0
         have c61 := Ext.cell hx6 kx1
         have c62 := Ext.cell hx6 kx2
         have sz6 := hx6.size
         have lV6 : V < w6.heap.size := by omega)
      | (go_simp; go_at_call 8
         have hh7 := ssums_any (la ++ lb) A6 c6 P 3 2 none 0 [] w6 (by rw [HN.out.1]; exact hr6) (Rd.nil _ _ _) (by have := HN.out.1; have := HN.out.2; omega) (by have := HPQ.out; unfold in64; omega) (by decide) (by decide)
         rw [HN.out.1] at hh7
         refine hh7.mono ?_
         rw [HE.out.2.2]
         rintro ed w7 ⟨L7, l7, rfl, hO7, hE7⟩))
    all_goals go_wp2_with fail
    all_goals go_meet
    all_goals rw [HF.out.2.2] at hO7
    all_goals (obtain ⟨_, _, hv9, hc9⟩ := hO7.slice; rw [zs_len, HF.out.2.2] at hv9 hc9; cases hv9)
    all_goals exact ⟨L7, l7, by rw [HF.out.2.2], rfl, rfl, hc9, hO7.rd, hx6.trans hE7⟩
  case rest =>
  obtain ⟨L5, l5, rfl, rfl, rfl, hnc, hr5, hE5⟩ := hcut
  generalize wc = w5 at *
  have HX5 := Lib.hid (HX4.out.trans hE5)
  have Hx_5 := Lib.hid (Hx_4.out.ext hE5)
  have Hy_5 := Lib.hid (Hy_4.out.ext hE5)
  have Hz_5 := Lib.hid hr5
  have hst : ((s : Int) + t) % 4294967296 = (u : Int) := by have := HT.out; omega
  have hsu : IntKind.u32.wrap ((s : Int) + t) = (u : Int) := by rw [IntKind.wrap_u32]; exact hst
  have hnn : (la.length : Int) + lb.length = (n : Int) := by have := HN.out.2; omega
  have hn0 : (n : Int) ≤ 120 := by omega
  have HNC := Lib.hid hnc
  have hnl : la.length ≤ n := by have := HN.out.2; omega
  have HNL := Lib.hid hnl
  clear hr5 hE5 kx0 kx1 kx2 Hx_4 Hy_4 HX4 hnc hnl
  go_wp2_with fail
  go_loopw [21] (fun i wr => ∃ k : Nat, k ≤ lb.length ∧ i = .int .i64 k ∧ Ext w5 wr) (fun i _ => lb.length - (intOf i).toNat)
  case atStart => exact ⟨0, Nat.zero_le _, rfl, Ext.refl _⟩
  case round =>
    obtain ⟨k, hk, rfl, hX⟩ := hrel
    have HX := Lib.hid hX
    have hk0 : (0 : Int) ≤ k := by omega
    clear hX hst hsu
    by_cases hlt : k < lb.length
    · have hlt' : (k : Int) < lb.length := by omega
      have hry := Hy_5.out.ext HX.out
      rw [← HF.out.2.1] at hry
      obtain ⟨by', oy, rfl, y0, hyl⟩ := u32_at hry k (by have := HF.out.2.1; omega)
      have hrz := Hz_5.out.ext HX.out
      rw [← HF.out.2.2] at hrz
      obtain ⟨I, hI⟩ : ∃ I, la.length + k = I := ⟨_, rfl⟩
      have hIn : I < n := by have := HN.out.2; omega
      obtain ⟨bz, oz, rfl, z0, hzl⟩ := u32_at hrz I (by have := HF.out.2.2; omega)
      have hat := HAT.out k hlt
      rw [hI] at hat
      obtain ⟨p, hp⟩ : ∃ p, y.getD k 0 = p := ⟨_, rfl⟩
      obtain ⟨q, hq⟩ : ∃ q, z.getD I 0 = q := ⟨_, rfl⟩
      rw [hp] at y0 hyl hat
      rw [hq] at z0 hzl hat
      have hu9 : IntKind.u32.wrap ((p : Int) + s) = (q : Int) := by rw [IntKind.wrap_u32]; omega
      have hi9 : IntKind.i64.wrap ((la.length : Int) + (k : Int)) = (I : Int) := by rw [IntWalk.i64_in _ (by omega)]; omega
      have hIi : (I : Int) < n := by omega
      have hI0 : (0 : Int) ≤ I := by omega
      have KS : Hid (∀ w', Ext wr w' → w'.cell? ⟨by', oy + k, none⟩ = some (.int .u32 p) ∧ w'.cell? ⟨bz, oz + I, none⟩ = some (.int .u32 q)) := Lib.hid (fun w' hE => ⟨hE.cell y0, hE.cell z0⟩)
      clear hry hrz hat hp hq y0 z0 hyl hzl hI hnn
      go_wp2_with fail
      refine wp_region_class (Ext wr) (by kernel_rfl) (by kernel_rfl) (Ext.refl _).drew ?_
      try simp only [List.append_eq, List.cons_append, List.nil_append]
      repeat (first
        | go_big_quiet_skip
        | (go_big_quiet_want
           first
           | (go_big_quiet_op; go_big_quiet_on)
           | (unfold Oper.quiet
              apply Exists.intro
              refine ⟨fun w' hC => ?_, ?_⟩
              · (obtain ⟨k1, k2⟩ := KS.out w' hC
                 unfold Oper.quietAt
                 go_simp
                 first
                 | exact rfl)
              go_simp
              go_big_quiet_on)))
      refine wpQuiet_nil ?_
      intro w6 hC6
      clear hu9 hi9
      go_wp2_with fail
      go_roundw
      case rel => exact ⟨k + 1, by omega, by go_num, HX.out.trans hC6⟩
      case measure => simp [intOf]; omega
    · obtain rfl : k = lb.length := by omega
      have HX6 := Lib.hid (HX5.out.trans HX.out)
      have Hx_6 := Lib.hid (Hx_5.out.ext HX.out)
      have Hz_6 := Lib.hid (Hz_5.out.ext HX.out)
      have hnl := HNL.out
      have hnl' : (la.length : Int) ≤ n := by omega
      have hnc : la.length ≤ l5 := by have := HNC.out; omega
      have hnc' : (la.length : Int) ≤ l5 := by omega
      clear hnn
      go_wp2_with fail
      have hh := rwords_any (.slice L5 la.length l5) (.slice L3 la.length l3) (zs x) (zs x) wr (by rw [← HTK.out, zs_take]; exact Hz_6.out.take la.length l5 (by rw [zs_len, HF.out.2.2]; exact HNL.out) hnc) Hx_6.out
      refine hh.mono ?_
      clear hh
      rintro ed w7 ⟨rfl, hE7⟩
      rw [sameB_refl]
      have HX7 := Lib.hid (HX6.out.trans hE7)
      have Hz_7 := Lib.hid (Hz_6.out.ext hE7)
      clear hE7
      by_cases hz : 0 < n
      · have hrz := Hz_7.out
        rw [← HF.out.2.2] at hrz
        obtain ⟨bz, oz, rfl, z0, hzl⟩ := u32_at hrz 0 (by have := HF.out.2.2; omega)
        rw [HZ0.out hz, Nat.add_zero] at z0
        have hzi : (0 : Int) < n := by omega
        have hle : ((n : Int) == 0) = false := by simp; omega
        have hlf : (n == 0) = false := by simp; omega
        have lbz : bz < w7.heap.size := World.block_lt_of_cell? _ _ z0
        clear hrz hzl
        go_wp2_with fail
        go_ret
        exact ⟨ret_bool (by first | rfl | simp), HX7.out⟩
      · have hle : ((n : Int) == 0) = true := by simp; omega
        have hlf : (n == 0) = true := by simp; omega
        go_wp2_with fail
        go_ret
        exact ⟨ret_bool (by first | rfl | simp), HX7.out⟩
end Go.Proofs.Ythblpcmmeajhkaa
