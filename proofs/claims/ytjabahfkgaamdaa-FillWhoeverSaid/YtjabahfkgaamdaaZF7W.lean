/- FillWhoever: the law returns true. -/
import Derived.Test.YtjabahfkgaamdaaJ7
namespace Go.Proofs.Ytjabahfkgaamdaa
open Go.BigFrame
open Go.RowKit Go.Proofs.Ytjabahfkgaamdaa.Plain

set_option maxHeartbeats 3200000 in
set_option maxRecDepth 100000 in
theorem fillwhoever_any (l : List Nat) (L : Option Addr) (lc : Nat) (op g m g2 m2 : Int) (Ap Aq : Option Addr) (cp cq : Nat) (picks picks2 : List (Int × Int)) (W : World) (hL : Rd kU32 W (.slice L l.length lc) (zs l)) (hp : Rd kPk W (.slice Ap picks.length cp) picks) (hq : Rd kPk W (.slice Aq picks2.length cq) picks2) (ho : in64 op) (hg : in64 g) (hm : in64 m) (hg2 : in64 g2) (hm2 : in64 m2) :
    Calls Try.prog 5 #[.slice L l.length lc, .agg #[.int .i64 op, .int .i64 g, .int .i64 m, .slice Ap picks.length cp], planV g2 m2 Aq picks2.length cq] W fun ed w' => ed = .returned (.bool true) ∧ Ext W w' := by
  have HL := Lib.hid hL
  have HP := Lib.hid hp
  have HQ := Lib.hid hq
  have HG := Lib.hid (And.intro ho (And.intro hg (And.intro hm (And.intro hg2 hm2))))
  clear hL hp hq ho hg hm hg2 hm2
  go_enter Try.func5, Try.ntmps5
  go_wp2_with fail
  refine (falive_any _).mono ?_
  rintro ed w1 ⟨rfl, hE1⟩
  have k0 : w1.cell? ⟨W.heap.size, 0, none⟩ = some (.int .i64 op) := Ext.cell hE1 (by go_simp)
  have k1 : w1.cell? ⟨W.heap.size, 1, none⟩ = some (.int .i64 g) := Ext.cell hE1 (by go_simp)
  have k2 : w1.cell? ⟨W.heap.size, 2, none⟩ = some (.int .i64 m) := Ext.cell hE1 (by go_simp)
  have k3 : w1.cell? ⟨W.heap.size, 3, none⟩ = some (.slice Ap picks.length cp) := Ext.cell hE1 (by go_simp)
  have kf : ∀ o, w1.frozen? ⟨W.heap.size, o, none⟩ = false := fun o => (Below.frozen hE1 (p := ⟨W.heap.size, o, none⟩) (by first | omega | (simp; omega) | simp)).trans (by go_simp)
  have q0 : w1.cell? ⟨W.heap.size + 1, 0, none⟩ = some (.int .i64 g2) := Ext.cell hE1 (by go_simp)
  have q1 : w1.cell? ⟨W.heap.size + 1, 1, none⟩ = some (.int .i64 m2) := Ext.cell hE1 (by go_simp)
  have q2 : w1.cell? ⟨W.heap.size + 1, 2, none⟩ = some (.slice Aq picks2.length cq) := Ext.cell hE1 (by go_simp)
  have qf : ∀ o, w1.frozen? ⟨W.heap.size + 1, o, none⟩ = false := fun o => (Below.frozen hE1 (p := ⟨W.heap.size + 1, o, none⟩) (by first | omega | (simp; omega) | simp)).trans (by go_simp)
  have HX1 := Lib.hid ((((Ext.refl W).alloc (.cells #[.int .i64 op, .int .i64 g, .int .i64 m, .slice Ap picks.length cp] 41)).alloc (.cells #[.int .i64 g2, .int .i64 m2, .slice Aq picks2.length cq] 26)).trans hE1)
  have lz1 := hE1.size
  simp at lz1
  have n1 : W.heap.size < w1.heap.size := by omega
  have n2 : W.heap.size + 1 < w1.heap.size := by omega
  clear hE1
  by_cases h1 : (60 : Int) < l.length
  · go_wp2_with fail
    go_ret
    exact ⟨rfl, HX1.out⟩
  by_cases h2 : (200 : Int) < picks.length
  · have h1' : (l.length : Int) ≤ 60 := by omega
    go_wp2_with fail
    go_ret
    exact ⟨rfl, HX1.out⟩
  by_cases h3 : (200 : Int) < picks2.length
  · have h1' : (l.length : Int) ≤ 60 := by omega
    have h2' : (picks.length : Int) ≤ 200 := by omega
    go_wp2_with fail
    go_ret
    exact ⟨rfl, HX1.out⟩
  have h1' : (l.length : Int) ≤ 60 := by omega
  have h2' : (picks.length : Int) ≤ 200 := by omega
  have h3' : (picks2.length : Int) ≤ 200 := by omega
  clear h1 h2 h3
  go_wp2_with fail
  refine (ffill_any l L lc op 5 g m Ap cp picks _ (HL.out.ext HX1.out) (HP.out.ext HX1.out) (by omega) HG.out.1 (by omega) HG.out.2.1 HG.out.2.2.1).mono ?_
  have hfc := fillP_cases l op 5 g m picks
  obtain ⟨⟨os, st, er⟩, hr⟩ : ∃ x, fillP l op 5 g m picks = x := ⟨_, rfl⟩
  rw [hr] at hfc ⊢
  clear hr
  have HFC : Hid (er = 1 ∧ os = [] ∨ er = 0 ∧ os = l.map (fun x => oneP x op 5) ∧ ∃ ou, ordP l.length g m picks = (ou, st, 0)) := Lib.hid hfc
  clear hfc
  rintro ed w2 ⟨L2, l2, rfl, hO2, hE2⟩
  simp only at hO2 ⊢
  replace k0 := Ext.cell hE2 k0
  replace k1 := Ext.cell hE2 k1
  replace k2 := Ext.cell hE2 k2
  replace k3 := Ext.cell hE2 k3
  replace q0 := Ext.cell hE2 q0
  replace q1 := Ext.cell hE2 q1
  replace q2 := Ext.cell hE2 q2
  have lz2 := hE2.size
  have m1 : W.heap.size < w2.heap.size := by omega
  have m2' : W.heap.size + 1 < w2.heap.size := by omega
  have HX2 := Lib.hid (HX1.out.trans hE2)
  have HO2 := Lib.hid hO2
  clear hE2 hO2 kf qf HX1 n1 n2
  go_wp2_with fail
  refine (ffill_any l L lc op 5 g2 m2 Aq cq picks2 _ (HL.out.ext HX2.out) (HQ.out.ext HX2.out) (by omega) HG.out.1 (by omega) HG.out.2.2.2.1 HG.out.2.2.2.2).mono ?_
  have hfc := fillP_cases l op 5 g2 m2 picks2
  obtain ⟨⟨os2, st2, er2⟩, hr⟩ : ∃ x, fillP l op 5 g2 m2 picks2 = x := ⟨_, rfl⟩
  rw [hr] at hfc ⊢
  clear hr
  have HFC2 : Hid (er2 = 1 ∧ os2 = [] ∨ er2 = 0 ∧ os2 = l.map (fun x => oneP x op 5) ∧ ∃ ou, ordP l.length g2 m2 picks2 = (ou, st2, 0)) := Lib.hid hfc
  clear hfc
  rintro ed w3 ⟨L3, l3, rfl, hO3, hE3⟩
  simp only at hO3 ⊢
  replace k0 := Ext.cell hE3 k0
  replace k1 := Ext.cell hE3 k1
  replace k2 := Ext.cell hE3 k2
  replace k3 := Ext.cell hE3 k3
  replace q0 := Ext.cell hE3 q0
  replace q1 := Ext.cell hE3 q1
  replace q2 := Ext.cell hE3 q2
  have lz3 := hE3.size
  have m3 : W.heap.size < w3.heap.size := by omega
  have m4 : W.heap.size + 1 < w3.heap.size := by omega
  have HX3 := Lib.hid (HX2.out.trans hE3)
  have HO2' := Lib.hid (HO2.out.ext hE3)
  have HO3 := Lib.hid hO3
  clear hE3 hO3 HO2 HX2 m1 m2'
  go_wp2_with fail
  refine (forder_any l.length g m Ap cp picks _ (HP.out.ext HX3.out) (by omega) HG.out.2.1 HG.out.2.2.1).mono ?_
  obtain ⟨⟨ou, su, eu⟩, hr⟩ : ∃ x, ordP l.length g m picks = x := ⟨_, rfl⟩
  have HUU := Lib.hid hr
  rw [hr]
  clear hr
  rintro ed w4 ⟨L4, l4, rfl, hO4, hE4⟩
  simp only at hO4 ⊢
  replace k0 := Ext.cell hE4 k0
  replace k1 := Ext.cell hE4 k1
  replace k2 := Ext.cell hE4 k2
  replace k3 := Ext.cell hE4 k3
  replace q0 := Ext.cell hE4 q0
  replace q1 := Ext.cell hE4 q1
  replace q2 := Ext.cell hE4 q2
  have lz4 := hE4.size
  have m5 : W.heap.size < w4.heap.size := by omega
  have m6 : W.heap.size + 1 < w4.heap.size := by omega
  have HX4 := Lib.hid (HX3.out.trans hE4)
  have HO2 := Lib.hid (HO2'.out.ext hE4)
  have HO3' := Lib.hid (HO3.out.ext hE4)
  have HO4 := Lib.hid hO4
  clear hE4 hO4 HO2' HO3 HX3 m3 m4
  rcases HFC.out with ⟨rfl, rfl⟩ | ⟨rfl, hos, hou⟩
  · clear HFC HFC2 HUU
    go_wp2_with fail
    go_ret
    exact ⟨ret_bool (by first | rfl | simp), HX4.out⟩
  rcases HFC2.out with ⟨rfl, rfl⟩ | ⟨rfl, hos2, _⟩
  · clear HFC HFC2 HUU hou hos
    go_wp2_with fail
    all_goals go_ret
    all_goals exact ⟨ret_bool (by first | rfl | simp), HX4.out⟩
  obtain ⟨ou', hou'⟩ := hou
  rw [HUU.out] at hou'
  simp only [Prod.mk.injEq] at hou'
  obtain ⟨rfl, rfl, rfl⟩ := hou'
  obtain ⟨G, M, rfl, rfl, g1, g9, mm1, mm9, _, hperm, hsu, hmn⟩ := ordP_good HUU.out
  obtain ⟨Bd, hBd⟩ : ∃ Bd, M * (cntT (max 1 l.length) G + 1) = Bd := ⟨_, rfl⟩
  rw [hBd] at hsu
  have HSU := Lib.hid (And.intro hsu hmn)
  have hBl : Bd ≤ 20000 := by
    have h9 : cntT (max 1 l.length) G ≤ 2000 := (count_ok (max 1 l.length) G (by omega) (by omega) g1 g9).2.2.1
    have h8 : M * (cntT (max 1 l.length) G + 1) ≤ 8 * 2001 := Nat.mul_le_mul mm9 (by omega)
    omega
  have HBD := Lib.hid hBd
  have HPM := Lib.hid hperm
  have HOS := Lib.hid (And.intro hos hos2)
  have hlen : ou.length = l.length := by rw [hperm.length_eq, List.length_range]
  have HLE := Lib.hid hlen
  clear hos hos2 hperm hBd hsu hmn hlen HFC HFC2
  go_upto_region 10 with fail
  have KS : Hid (∀ w', Ext w4 w' → w'.cell? ⟨W.heap.size, 1, none⟩ = some (.int .i64 G) ∧ w'.cell? ⟨W.heap.size, 2, none⟩ = some (.int .i64 M) ∧ w'.cell? ⟨W.heap.size, 3, none⟩ = some (.slice Ap picks.length cp)) := Lib.hid (fun w' hE => ⟨hE.cell k1, hE.cell k2, hE.cell k3⟩)
  have hs0 : IntKind.i64.wrap ((picks.length : Int) + Bd) = (picks.length : Int) + Bd := IntWalk.i64_in _ (by omega)
  go_cut [16] (fun b wx => b = .int .i64 ((picks.length : Int) + Bd) ∧ Ext w4 wx)
  case first =>
    by_cases hl1 : (1 : Int) < l.length
    · have HB : Hid (∀ w', Ext w4 w' → Calls Try.prog 20 #[.int .i64 l.length, .int .i64 G, .int .i64 M] w' fun ed w'' => ed = .returned (.int .i64 Bd) ∧ Ext w4 w'') := Lib.hid fun w' hE => (rbound_any l.length G M w' (by omega) (by omega) g1 g9 mm1 mm9).mono fun ed w'' hh => ⟨by rw [hh.1, ← HBD.out, show max 1 l.length = l.length by omega], hE.trans hh.2⟩
      refine wp_region_class (Ext w4) (by kernel_rfl) (by kernel_rfl) (Ext.refl _).drew ?_
      try simp only [List.append_eq, List.cons_append, List.nil_append]
      repeat (first
        | go_big_quiet_skip
        | (go_big_quiet_want
           first
           | (go_big_quiet_op; go_big_quiet_on)
           | (unfold Oper.quiet
              apply Exists.intro
              refine ⟨fun w' hC => ?_, ?_⟩
              · (obtain ⟨k1, k2, k3⟩ := KS.out w' hC
                 unfold Oper.quietAt
                 go_simp
                 first
                 | exact rfl
                 | (with_reducible exact HB.out w' hC))
              go_simp
              go_big_quiet_on)
           | (go_big_quiet_op
              apply Exists.intro
              refine ⟨fun w' hC => ?_, ?_⟩
              · exact HB.out w' hC
              go_big_quiet_on)))
      refine wpQuiet_nil ?_
      intro w6 hC6
      go_wp2_with fail
      go_meet
      exact ⟨by first | rfl | simp, hC6⟩
    · have HB : Hid (∀ w', Ext w4 w' → Calls Try.prog 20 #[.int .i64 1, .int .i64 G, .int .i64 M] w' fun ed w'' => ed = .returned (.int .i64 Bd) ∧ Ext w4 w'') := Lib.hid fun w' hE => (rbound_any 1 G M w' (by omega) (by omega) g1 g9 mm1 mm9).mono fun ed w'' hh => ⟨by rw [hh.1, ← HBD.out, show max 1 l.length = 1 by omega], hE.trans hh.2⟩
      refine wp_region_class (Ext w4) (by kernel_rfl) (by kernel_rfl) (Ext.refl _).drew ?_
      try simp only [List.append_eq, List.cons_append, List.nil_append]
      repeat (first
        | go_big_quiet_skip
        | (go_big_quiet_want
           first
           | (go_big_quiet_op; go_big_quiet_on)
           | (unfold Oper.quiet
              apply Exists.intro
              refine ⟨fun w' hC => ?_, ?_⟩
              · (obtain ⟨k1, k2, k3⟩ := KS.out w' hC
                 unfold Oper.quietAt
                 go_simp
                 first
                 | exact rfl
                 | (with_reducible exact HB.out w' hC))
              go_simp
              go_big_quiet_on)
           | (go_big_quiet_op
              apply Exists.intro
              refine ⟨fun w' hC => ?_, ?_⟩
              · exact HB.out w' hC
              go_big_quiet_on)))
      refine wpQuiet_nil ?_
      intro w6 hC6
      go_wp2_with fail
      go_meet
      exact ⟨by first | rfl | simp, hC6⟩
  case rest =>
  obtain ⟨rfl, hE5⟩ := hcut
  have HX5 := Lib.hid (HX4.out.trans hE5)
  have HO2' := Lib.hid (HO2.out.ext hE5)
  have HO3 := Lib.hid (HO3'.out.ext hE5)
  have HO4' := Lib.hid (HO4.out.ext hE5)
  clear hE5 HX4 HO2 HO3' HO4 hs0 KS k0 k1 k2 k3 q0 q1 q2 m5 m6 lz1 lz2 lz3 lz4
  go_wp2_with fail
  refine (rwords_any _ _ _ _ _ HO2'.out.rd HO3.out.rd).mono ?_
  rintro ed w6 ⟨rfl, hE6⟩
  rw [show sameB (zs os) (zs os2) = true by rw [HOS.out.1, HOS.out.2]; exact sameB_refl _]
  have HX6 := Lib.hid (HX5.out.trans hE6)
  have HO5 := Lib.hid (HO4'.out.ext hE6)
  clear hE6 HX5 HO2' HO3 HO4'
  go_wp2_with fail
  have ho9 := ronce_any l.length ou L4 l4 w6 HO5.out.rd HPM.out (by omega)
  refine ho9.mono ?_
  clear ho9
  rintro ed w7 ⟨rfl, hE7⟩
  have HX7 := Lib.hid (HX6.out.trans hE7)
  have hd1 : ((su : Int) ≤ (picks.length : Int) + Bd) := by have := HSU.out.1; omega
  have hd2 : (1 : Int) ≤ su ∨ l.length = 0 := by have := HSU.out.2; omega
  clear hE7 HX6
  by_cases hl1 : (l.length : Int) < 1
  · have hs1 : (l.length : Int) ≤ su := by omega
    go_wp2_with fail
    all_goals go_ret
    all_goals exact ⟨ret_bool (by first | rfl | (simp; done) | (simp; omega) | omega), HX7.out⟩
  · have hs1 : (1 : Int) ≤ su := by omega
    go_wp2_with fail
    all_goals go_ret
    all_goals exact ⟨ret_bool (by first | rfl | (simp; done) | (simp; omega) | omega), HX7.out⟩
end Go.Proofs.Ytjabahfkgaamdaa
