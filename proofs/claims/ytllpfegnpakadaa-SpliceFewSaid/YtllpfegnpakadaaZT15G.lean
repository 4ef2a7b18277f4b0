/- SpliceFew: the law returns true. Written by wip/mk_t15law.py. -/
import Derived.Test.YtllpfegnpakadaaJ6
set_option linter.unusedVariables false
set_option linter.unusedSimpArgs false
set_option linter.unnecessarySimpa false
namespace Go.Proofs.Ytllpfegnpakadaa
open Go.BigFrame
open Go.RowKit Go.Proofs.Ytllpfegnpakadaa.Plain

set_option maxHeartbeats 12800000 in
set_option maxRecDepth 100000 in
theorem splicefew_any (t : Tw) (A B N : Option Addr) (c d e : Nat) (k1 k2 : Int) (W : World) (hT : TwR W t A B N c d e) (hk1 : 0 ≤ k1 ∧ k1 ≤ 255) (hk2 : 0 ≤ k2 ∧ k2 ≤ 255) :
    Calls Try.prog 6 #[towV A t.tokens.length c B t.heights.length d N t.next.length e, .agg #[.int .u8 k1, .int .u8 k2]] W fun ed w' => ed = .returned (.bool true) ∧ Ext W w' := by
  have HT := Lib.hid hT
  clear hT
  obtain ⟨a1, rfl⟩ : ∃ a : Nat, k1 = a := ⟨k1.toNat, by omega⟩
  obtain ⟨a2, rfl⟩ : ∃ a : Nat, k2 = a := ⟨k2.toNat, by omega⟩
  have HA8 : Hid (a1 ≤ 255 ∧ a2 ≤ 255) := Lib.hid (by omega)
  clear hk1 hk2
  obtain ⟨n, hn⟩ : ∃ n, t.tokens.length = n := ⟨_, rfl⟩
  obtain ⟨m, hm⟩ : ∃ n, t.heights.length = n := ⟨_, rfl⟩
  obtain ⟨k, hk⟩ : ∃ n, t.next.length = n := ⟨_, rfl⟩
  have HLN := Lib.hid (And.intro hn (And.intro hm hk))
  obtain ⟨rt, hrt⟩ : ∃ r, rightTw t = r := ⟨_, rfl⟩
  have HRT := Lib.hid hrt
  have CG : Hid (∀ w', Ext W w' → Calls Try.prog 10 #[towV A n c B m d N k e, .int .i64 200] w' fun ed w'' => ∃ b, ed = .returned (.bool b) ∧ Ext w' w'') := Lib.hid fun w' hE => by
    have h := rgreat14_any t 200 A B N c d e w' (HT.out.ext hE)
    rw [hn, hm, hk] at h
    exact h
  have CR : Hid (∀ w', Ext W w' → Calls Try.prog 25 #[towV A n c B m d N k e] w' fun ed w'' => ed = .returned (.bool rt) ∧ Ext w' w'') := Lib.hid fun w' hE => by
    have h := rright14_any t A B N c d e w' (HT.out.ext hE)
    rw [hn, hm, hk, hrt] at h
    exact h
  rw [hn, hm, hk]
  clear hn hm hk hrt
  go_enter Try.func6, Try.ntmps6
  go_wp2_with fail
  refine (splicealive_any _).mono ?_
  rintro ed w1 ⟨rfl, hE1⟩
  have q0 : w1.cell? ⟨W.heap.size, 0, none⟩ = some (.slice A n c) := Ext.cell hE1 (by go_simp)
  have q1 : w1.cell? ⟨W.heap.size, 1, none⟩ = some (.slice B m d) := Ext.cell hE1 (by go_simp)
  have q2 : w1.cell? ⟨W.heap.size, 2, none⟩ = some (.slice N k e) := Ext.cell hE1 (by go_simp)
  have qf : ∀ o, w1.frozen? ⟨W.heap.size, o, none⟩ = false := fun o => (Below.frozen hE1 (p := ⟨W.heap.size, o, none⟩) (by first | omega | (simp; omega) | simp)).trans (by go_simp)
  have s0 : w1.cell? ⟨(W.heap.size+1), 0, none⟩ = some (.int .u8 a1) := Ext.cell hE1 (by go_simp)
  have s1 : w1.cell? ⟨(W.heap.size+1), 1, none⟩ = some (.int .u8 a2) := Ext.cell hE1 (by go_simp)
  have sf : ∀ o, w1.frozen? ⟨(W.heap.size+1), o, none⟩ = false := fun o => (Below.frozen hE1 (p := ⟨(W.heap.size+1), o, none⟩) (by first | omega | (simp; omega) | simp)).trans (by go_simp)
  have HX1 := Lib.hid ((((Ext.refl W).alloc (.cells #[.slice A n c, .slice B m d, .slice N k e] 25)).alloc (.cells #[.int .u8 a1, .int .u8 a2] 41)).trans hE1)
  clear hE1 qf sf
  have lq1 : W.heap.size < w1.heap.size := World.block_lt_of_cell? _ _ q0
  have ls1 : W.heap.size + 1 < w1.heap.size := World.block_lt_of_cell? _ _ s0
  go_wp2_with fail
  refine (CG.out _ HX1.out).mono ?_
  rintro ed w2 ⟨bg, rfl, hE2⟩
  replace q0 := Ext.cell hE2 q0
  replace q1 := Ext.cell hE2 q1
  replace q2 := Ext.cell hE2 q2
  replace s0 := Ext.cell hE2 s0
  replace s1 := Ext.cell hE2 s1
  have lq2 : W.heap.size < w2.heap.size := World.block_lt_of_cell? _ _ q0
  have ls2 : W.heap.size + 1 < w2.heap.size := World.block_lt_of_cell? _ _ s0
  have HX2 := Lib.hid (HX1.out.trans hE2)
  clear hE2 lq1 ls1 HX1
  cases bg with
  | true =>
    go_wp2_with fail
    go_ret
    exact ⟨ret_bool (by first | rfl | simp), HX2.out⟩
  | false =>
  go_wp2_with fail
  refine (CR.out _ HX2.out).mono ?_
  rintro ed w3 ⟨rfl, hE3⟩
  replace q0 := Ext.cell hE3 q0
  replace q1 := Ext.cell hE3 q1
  replace q2 := Ext.cell hE3 q2
  replace s0 := Ext.cell hE3 s0
  replace s1 := Ext.cell hE3 s1
  have lq3 : W.heap.size < w3.heap.size := World.block_lt_of_cell? _ _ q0
  have ls3 : W.heap.size + 1 < w3.heap.size := World.block_lt_of_cell? _ _ s0
  have HX3 := Lib.hid (HX2.out.trans hE3)
  clear hE3 lq2 ls2 HX2
  cases rt with
  | false =>
    go_wp2_with fail
    go_ret
    exact ⟨ret_bool (by first | rfl | simp), HX3.out⟩
  | true =>
  have hrk := right_tok HRT.out
  have hmn : n = m := by rw [← HLN.out.1, ← HLN.out.2.1]; exact hrk.2.2.2.1.symm
  subst hmn
  have HTA : Hid (TwA W t.tokens t.heights t.next n n k A B N c d e) := Lib.hid ⟨HT.out, HLN.out.1, HLN.out.2.1, HLN.out.2.2⟩
  have hn1 : n ≤ 1000 := by have := ((rightL_iff _).1 hrk.1).1; rw [HLN.out.1] at this; exact this
  have hn0 : 0 < n := by rw [← HLN.out.1]; exact List.length_pos_iff.2 hrk.2.2.1
  obtain ⟨p1, hp1⟩ : ∃ p : Nat, a1 % n = p := ⟨_, rfl⟩
  obtain ⟨p2, hp2⟩ : ∃ p : Nat, a2 % n = p := ⟨_, rfl⟩
  have hpn1 : p1 < n := by rw [← hp1]; exact Nat.mod_lt _ hn0
  have hpn2 : p2 < n := by rw [← hp2]; exact Nat.mod_lt _ hn0
  obtain ⟨x, hx⟩ : ∃ x, t.tokens.getD p1 0 = x := ⟨_, rfl⟩
  obtain ⟨y, hy⟩ : ∃ x, t.tokens.getD p2 0 = x := ⟨_, rfl⟩
  have HXY : Hid ((in64 x ∧ in64 y) ∧ x ∈ t.tokens ∧ y ∈ t.tokens) := Lib.hid ⟨⟨by rw [← hx]; exact HT.out.tok.okAt p1 (by rw [HLN.out.1]; exact hpn1), by rw [← hy]; exact HT.out.tok.okAt p2 (by rw [HLN.out.1]; exact hpn2)⟩, by rw [← hx]; exact ints_mem (by rw [HLN.out.1]; exact hpn1), by rw [← hy]; exact ints_mem (by rw [HLN.out.1]; exact hpn2)⟩
  obtain ⟨ba, oa, hba, hca⟩ := (ints_of_rd (HT.out.tok.ext HX3.out)).cells (by rw [HLN.out.1]; exact hn0)
  subst hba
  rw [HLN.out.1] at hca
  obtain ⟨bb, ob, hbb, hcb⟩ := (ints_of_rd (HT.out.hts.ext HX3.out)).cells (by rw [HLN.out.2.1]; exact hn0)
  subst hbb
  rw [HLN.out.2.1] at hcb
  have HCB : Hid (∀ w', Ext w3 w' → ∀ i, i < n → w'.cell? ⟨bb, ob + i, none⟩ = some (.int .i64 (t.heights.getD i 0))) := Lib.hid fun w' hE i hi => hE.cell (hcb i hi)
  have y0 := hca p1 hpn1
  have y1 := hca p2 hpn2
  rw [hx] at y0
  rw [hy] at y1
  have lba : ba < w3.heap.size := World.block_lt_of_cell? _ _ y0
  have lbb : bb < w3.heap.size := World.block_lt_of_cell? _ _ (hcb 0 hn0)
  have KS : Hid (∀ w', Ext w3 w' → w'.cell? ⟨W.heap.size, 0, none⟩ = some (.slice (some ⟨ba, oa, none⟩) n c) ∧ w'.cell? ⟨W.heap.size + 1, 0, none⟩ = some (.int .u8 a1) ∧ w'.cell? ⟨W.heap.size + 1, 1, none⟩ = some (.int .u8 a2) ∧ w'.cell? ⟨ba, oa + p1, none⟩ = some (.int .i64 x) ∧ w'.cell? ⟨ba, oa + p2, none⟩ = some (.int .i64 y)) := Lib.hid fun w' hE => ⟨hE.cell q0, hE.cell s0, hE.cell s1, hE.cell y0, hE.cell y1⟩
  have hw1 : IntKind.i64.wrap (a1 : Int) = (a1 : Int) := IntWalk.i64_in _ (by have := HA8.out; omega)
  have hv1 : IntKind.i64.wrap (a2 : Int) = (a2 : Int) := IntWalk.i64_in _ (by have := HA8.out; omega)
  have hw3 : (a1 : Int) % (n : Int) = (p1 : Int) := by rw [← hp1]; simp
  have hv3 : (a2 : Int) % (n : Int) = (p2 : Int) := by rw [← hp2]; simp
  have hw2 : (a1 : Int).tmod (n : Int) = (p1 : Int) := by rw [Int.tmod_eq_emod_of_nonneg (by omega)]; exact hw3
  have hv2 : (a2 : Int).tmod (n : Int) = (p2 : Int) := by rw [Int.tmod_eq_emod_of_nonneg (by omega)]; exact hv3
  have hw4 : IntKind.i64.wrap (p1 : Int) = (p1 : Int) := IntWalk.i64_in _ (by omega)
  have hv4 : IntKind.i64.wrap (p2 : Int) = (p2 : Int) := IntWalk.i64_in _ (by omega)
  have htn : (n : Int) ≠ 0 := by omega
  have htn0 : n ≠ 0 := by omega
  have htn1 : ((n : Int) == 0) = false := by rw [beq_eq_false_iff_ne]; omega
  clear hrk hp1 hp2 hx hy hca hcb
  go_wp2_with fail
  refine wp_region_class (Ext w3) (by kernel_rfl) (by kernel_rfl) (Ext.refl _).drew ?_
  try simp only [List.append_eq, List.cons_append, List.nil_append]
  repeat (first
    | go_big_quiet_skip
    | (go_big_quiet_want
       first
       | (go_big_quiet_op; go_big_quiet_on)
       | (unfold Oper.quiet
          apply Exists.intro
          refine ⟨fun w' hC => ?_, ?_⟩
          · (obtain ⟨k1, k2, k3, k4, k5⟩ := KS.out w' hC
             unfold Oper.quietAt
             go_simp
             first
             | exact rfl)
          go_simp
          go_big_quiet_on)))
  refine wpQuiet_nil ?_
  intro w4 hC4
  have HX4 := Lib.hid (HX3.out.trans hC4)
  replace q0 := Ext.cell hC4 q0
  replace q1 := Ext.cell hC4 q1
  replace q2 := Ext.cell hC4 q2
  have HCB4 : Hid (∀ w', Ext w4 w' → ∀ i, i < n → w'.cell? ⟨bb, ob + i, none⟩ = some (.int .i64 (t.heights.getD i 0))) := Lib.hid fun w' hE => HCB.out w' (hC4.trans hE)
  have lbb4 : bb < w4.heap.size := by have := hC4.size; omega
  have lq4 : W.heap.size < w4.heap.size := by have := hC4.size; omega
  clear hC4 KS HCB HX3 lba lbb lq3 ls3 hw1 hw2 hw3 hw4 hv1 hv2 hv3 hv4 s0 s1 y0 y1 HA8 CG CR hpn1 hpn2
  go_wp2_with fail
  rcases cut_tower HRT.out HXY.out.2.1 HXY.out.2.2 with ⟨hxy, hct⟩ | ⟨hxy, r, p, hct, g1, g2, g3, g4, g5, s, g6, g7⟩
  · subst hxy
    refine (pcut15_to t.tokens t.heights t.next n n k (some ⟨ba, oa, none⟩) (some ⟨bb, ob, none⟩) N c d e x x [] [] [] 0 0 0 [] [] [] 0 0 0 false _ (HTA.out.ext HX4.out) HXY.out.1.1 HXY.out.1.2 hct rfl rfl rfl rfl rfl rfl).mono ?_
    rintro ed w5 ⟨A5, B5, N5, A6, B6, N6, c5, d5, e5, c6, d6, e6, rfl, hr5, hp5, hE5⟩
    have HX5 := Lib.hid (HX4.out.trans hE5)
    clear hr5 hp5 hE5 hct
    go_wp2_with fail
    go_ret
    exact ⟨ret_bool (by first | rfl | simp), by first | exact HX5.out | exact HX5.out.trans (((Ext.refl _).alloc _).alloc _)⟩
  obtain ⟨_, _, hrne, hrl, _⟩ := right_tok g1
  obtain ⟨_, _, hpne, hpl, _⟩ := right_tok g2
  obtain ⟨rn, hrn⟩ : ∃ n, r.tokens.length = n := ⟨_, rfl⟩
  obtain ⟨rk, hrk⟩ : ∃ n, r.next.length = n := ⟨_, rfl⟩
  obtain ⟨pn, hpn⟩ : ∃ n, p.tokens.length = n := ⟨_, rfl⟩
  obtain ⟨pk, hpk⟩ : ∃ n, p.next.length = n := ⟨_, rfl⟩
  rw [hrn] at hrl
  rw [hpn] at hpl
  have hpn0 : 0 < pn := by rw [← hpn]; exact List.length_pos_iff.2 hpne
  have HG0 := Lib.hid hxy
  have HG1 := Lib.hid g1
  have HG2 := Lib.hid g2
  have HG3 := Lib.hid g3
  have HG4 := Lib.hid g4
  have HG5 := Lib.hid g5
  have HG6 := Lib.hid g6
  have HG7 := Lib.hid g7
  refine (pcut15_to t.tokens t.heights t.next n n k (some ⟨ba, oa, none⟩) (some ⟨bb, ob, none⟩) N c d e x y r.tokens r.heights r.next rn rn rk p.tokens p.heights p.next pn pn pk true _ (HTA.out.ext HX4.out) HXY.out.1.1 HXY.out.1.2 hct hrn hrl hrk hpn hpl hpk).mono ?_
  rintro ed w5 ⟨A5, B5, N5, A6, B6, N6, c5, d5, e5, c6, d6, e6, rfl, hr5, hp5, hE5⟩
  have HX5 := Lib.hid (HX4.out.trans hE5)
  have HR5 := Lib.hid hr5
  have HP5 := Lib.hid hp5
  replace q0 := Ext.cell hE5 q0
  replace q1 := Ext.cell hE5 q1
  replace q2 := Ext.cell hE5 q2
  have HCB5 : Hid (∀ w', Ext w5 w' → ∀ i, i < n → w'.cell? ⟨bb, ob + i, none⟩ = some (.int .i64 (t.heights.getD i 0))) := Lib.hid fun w' hE => HCB4.out w' (hE5.trans hE)
  have lbb5 : bb < w5.heap.size := by have := hE5.size; omega
  have lq5 : W.heap.size < w5.heap.size := by have := hE5.size; omega
  clear hr5 hp5 hE5 hct HX4 HCB4 lbb4 lq4 hrne hpne hrn hrl hrk hpn hpl hpk g1 g2 g3 g4 g5 g6 g7 hxy
  go_wp2_with fail
  obtain ⟨w6, hw6⟩ : ∃ w6, (w5.alloc (.cells #[.slice A5 rn c5, .slice B5 rn d5, .slice N5 rk e5] 25)).alloc (.cells #[.slice A6 pn c6, .slice B6 pn d6, .slice N6 pk e6] 25) = w6 := ⟨_, rfl⟩
  have hE6 : Ext w5 w6 := by rw [← hw6]; exact ((Ext.refl _).alloc _).alloc _
  have r0 : w6.cell? ⟨w5.heap.size, 0, none⟩ = some (.slice A5 rn c5) := by rw [← hw6]; clear hw6; go_simp
  have r1 : w6.cell? ⟨w5.heap.size, 1, none⟩ = some (.slice B5 rn d5) := by rw [← hw6]; clear hw6; go_simp
  have r2 : w6.cell? ⟨w5.heap.size, 2, none⟩ = some (.slice N5 rk e5) := by rw [← hw6]; clear hw6; go_simp
  have u0 : w6.cell? ⟨w5.heap.size + 1, 0, none⟩ = some (.slice A6 pn c6) := by rw [← hw6]; clear hw6; go_simp
  have u1 : w6.cell? ⟨w5.heap.size + 1, 1, none⟩ = some (.slice B6 pn d6) := by rw [← hw6]; clear hw6; go_simp
  have u2 : w6.cell? ⟨w5.heap.size + 1, 2, none⟩ = some (.slice N6 pk e6) := by rw [← hw6]; clear hw6; go_simp
  rw [hw6]
  have HX6 := Lib.hid (HX5.out.trans hE6)
  have HR6 := Lib.hid (HR5.out.ext hE6)
  have HP6 := Lib.hid (HP5.out.ext hE6)
  replace q0 := Ext.cell hE6 q0
  replace q1 := Ext.cell hE6 q1
  replace q2 := Ext.cell hE6 q2
  have HCB6 : Hid (∀ w', Ext w6 w' → ∀ i, i < n → w'.cell? ⟨bb, ob + i, none⟩ = some (.int .i64 (t.heights.getD i 0))) := Lib.hid fun w' hE => HCB5.out w' (hE6.trans hE)
  have lbb6 : bb < w6.heap.size := by have := hE6.size; omega
  have lq6 : W.heap.size < w6.heap.size := by have := hE6.size; omega
  have lr6 : w5.heap.size < w6.heap.size := World.block_lt_of_cell? _ _ r0
  have lu6 : w5.heap.size + 1 < w6.heap.size := World.block_lt_of_cell? _ _ u0
  have HX0 : Hid (W.heap.size < w5.heap.size) := Lib.hid lq5
  clear hw6 hE6 HX5 HCB5 HR5 HP5 lbb5 lq5
  obtain ⟨lt, hlt⟩ : ∃ l, linksP t = l := ⟨_, rfl⟩
  obtain ⟨lr, hlr⟩ : ∃ l, linksP r = l := ⟨_, rfl⟩
  obtain ⟨lp, hlp⟩ : ∃ l, linksP p = l := ⟨_, rfl⟩
  have hlr8 : lr.length ≤ 100000 := hlr ▸ links_le HG1.out
  have hlp8 : lp.length ≤ 100000 := hlp ▸ links_le HG2.out
  have hlt8 : lt.length ≤ 100000 := hlt ▸ links_le HRT.out
  have HFW : Hid (∀ most : Nat, (∀ z ∈ t.tokens, heightP t z ≤ most) → changedP lt (lr ++ lp) ≤ 2 * most ∧ (lr ++ lp).length = lt.length) := Lib.hid fun most hm => by
    have h := cut_few HRT.out HG1.out HG2.out HG4.out HG5.out HG6.out HG7.out hm
    rw [hlt, hlr, hlp] at h
    exact h
  obtain ⟨qr, hqr⟩ : ∃ n, lr.length = n := ⟨_, rfl⟩
  obtain ⟨qp, hqp⟩ : ∃ n, lp.length = n := ⟨_, rfl⟩
  obtain ⟨qt, hqt⟩ : ∃ n, lt.length = n := ⟨_, rfl⟩
  have hqq : qr + qp = qt := by
    have h := (HFW.out 8 (fun z _ => (height_in z).2)).2
    rw [List.length_append, hqr, hqp, hqt] at h
    exact h
  have hlen : (lr ++ lp).length = qt := by rw [List.length_append, hqr, hqp]; exact hqq
  have HQ : Hid ((lr ++ lp).length = qt ∧ lt.length = qt ∧ qt ≤ 100000 ∧ lr.length + lp.length ≤ 1048576) := Lib.hid ⟨hlen, hqt, by omega, by omega⟩
  have CLT : Hid (∀ w', Ext W w' → Calls Try.prog 19 #[towV (some ⟨ba, oa, none⟩) n c (some ⟨bb, ob, none⟩) n d N k e] w' fun ed w'' => ∃ (L : Option Addr) (lc : Nat), ed = .returned (.slice L qt lc) ∧ Ow kLink w'.heap.size w'' (.slice L qt lc) lt ∧ Ext w' w'') := Lib.hid fun w' hE => plinks15_to _ _ _ _ _ _ _ _ _ _ _ _ lt qt w' (HTA.out.ext hE) hlt hqt
  have CLR : Hid (∀ w', Ext w6 w' → Calls Try.prog 19 #[towV A5 rn c5 B5 rn d5 N5 rk e5] w' fun ed w'' => ∃ (L : Option Addr) (lc : Nat), ed = .returned (.slice L qr lc) ∧ Ow kLink w'.heap.size w'' (.slice L qr lc) lr ∧ Ext w' w'') := Lib.hid fun w' hE => plinks15_to _ _ _ _ _ _ _ _ _ _ _ _ lr qr w' (HR6.out.ext hE) hlr hqr
  have CLP : Hid (∀ w', Ext w6 w' → Calls Try.prog 19 #[towV A6 pn c6 B6 pn d6 N6 pk e6] w' fun ed w'' => ∃ (L : Option Addr) (lc : Nat), ed = .returned (.slice L qp lc) ∧ Ow kLink w'.heap.size w'' (.slice L qp lc) lp ∧ Ext w' w'') := Lib.hid fun w' hE => plinks15_to _ _ _ _ _ _ _ _ _ _ _ _ lp qp w' (HP6.out.ext hE) hlp hqp
  have KA : Hid (∀ w', Ext w6 w' → w'.cell? ⟨w5.heap.size, 0, none⟩ = some (.slice A5 rn c5) ∧ w'.cell? ⟨w5.heap.size, 1, none⟩ = some (.slice B5 rn d5) ∧ w'.cell? ⟨w5.heap.size, 2, none⟩ = some (.slice N5 rk e5) ∧ w'.cell? ⟨w5.heap.size + 1, 0, none⟩ = some (.slice A6 pn c6) ∧ w'.cell? ⟨w5.heap.size + 1, 1, none⟩ = some (.slice B6 pn d6) ∧ w'.cell? ⟨w5.heap.size + 1, 2, none⟩ = some (.slice N6 pk e6)) := Lib.hid fun w' hE => ⟨hE.cell r0, hE.cell r1, hE.cell r2, hE.cell u0, hE.cell u1, hE.cell u2⟩
  clear hlt hlr hlp hlr8 hlp8 hlt8 hqr hqp hqt hqq hlen
  go_cut [11] from 57 to 61 (fun v wx => ∃ (L : Option Addr) (lc : Nat), v = .slice L qt lc ∧ Rd kLink wx (.slice L qt lc) (lr ++ lp) ∧ Ext w6 wx)
  case first =>
    go_region_held3 (fun w' => w'.cell? ⟨w5.heap.size, 0, none⟩ = some (.slice A5 rn c5) ∧ w'.cell? ⟨w5.heap.size, 1, none⟩ = some (.slice B5 rn d5) ∧ w'.cell? ⟨w5.heap.size, 2, none⟩ = some (.slice N5 rk e5) ∧ w'.cell? ⟨w5.heap.size + 1, 0, none⟩ = some (.slice A6 pn c6) ∧ w'.cell? ⟨w5.heap.size + 1, 1, none⟩ = some (.slice B6 pn d6) ∧ w'.cell? ⟨w5.heap.size + 1, 2, none⟩ = some (.slice N6 pk e6))
      (first | exact KA.out _ hx9 | exact KA.out _ (by repeat (first | (with_reducible exact Ext.refl _) | (with_reducible assumption) | refine Ext.drew ?_ | refine Ext.drewN ?_ _ | refine Ext.alloc ?_ _)) | go_keep)
      (first
      | (go_at_call_of 19 (Value.agg #[.slice A5 rn c5, .slice B5 rn d5, .slice N5 rk e5])
         refine (CLR.out _ (by repeat (first | (with_reducible exact Ext.refl _) | (with_reducible assumption) | refine Ext.drew ?_ | refine Ext.drewN ?_ _ | refine Ext.alloc ?_ _))).mono ?_
         rintro ed w7 ⟨La, ca, rfl, hOa, h7⟩
         have x7 : Ext w6 w7 := Ext.trans (by repeat (first | (with_reducible exact Ext.refl _) | (with_reducible assumption) | refine Ext.drew ?_ | refine Ext.drewN ?_ _ | refine Ext.alloc ?_ _)) h7
         have s7 := Ext.size x7)
      | (go_at_call_of 19 (Value.agg #[.slice A6 pn c6, .slice B6 pn d6, .slice N6 pk e6])
         refine (CLP.out _ (by repeat (first | (with_reducible exact Ext.refl _) | (with_reducible assumption) | refine Ext.drew ?_ | refine Ext.drewN ?_ _ | refine Ext.alloc ?_ _))).mono ?_
         rintro ed w8 ⟨Lb, cb, rfl, hOb, h8⟩
         have x8 : Ext w6 w8 := Ext.trans (by repeat (first | (with_reducible exact Ext.refl _) | (with_reducible assumption) | refine Ext.drew ?_ | refine Ext.drewN ?_ _ | refine Ext.alloc ?_ _)) h8
         have s8 := Ext.size x8)
      | (refine kLink.step_app (by rfl) (.tmp 58) (.tmp 60) (by rfl) (by rfl) w6.heap.size _ lr (by rfl) (Ow.ext (hOa.mono (by first | exact Nat.le_refl _ | omega | (simp; done) | (simp; omega))) (by repeat (first | (with_reducible exact Ext.refl _) | (with_reducible assumption) | refine Ext.drew ?_ | refine Ext.drewN ?_ _ | refine Ext.alloc ?_ _))) _ lp (by rfl) (Rd.ext hOb.rd (by repeat (first | (with_reducible exact Ext.refl _) | (with_reducible assumption) | refine Ext.drew ?_ | refine Ext.drewN ?_ _ | refine Ext.alloc ?_ _))) HQ.out.2.2.2 (by first | omega | (simp; done) | (simp; omega)) ?_
         intro v9 w9 hown9 hgrow9 hat9
         have hx9 : Ext w6 w9 := Ext.grown (Ext.trans x8 (by repeat (first | (with_reducible exact Ext.refl _) | (with_reducible assumption) | refine Ext.drew ?_ | refine Ext.drewN ?_ _ | refine Ext.alloc ?_ _))) hgrow9 (fun b hb => by have h9 := (hOa.lt b hb).1; first | exact h9 | omega | (simp at h9; omega)))
      | fail)
    all_goals go_wp2_with fail
    all_goals (go_simp; go_meet)
    all_goals
      obtain ⟨L9, c9, hv9, hc9⟩ := hown9.slice
      rw [HQ.out.1] at hv9
      subst hv9
      exact ⟨L9, c9, rfl, hown9.rd.ext (by repeat (first | (with_reducible exact Ext.refl _) | (with_reducible assumption) | refine Ext.drew ?_ | refine Ext.drewN ?_ _ | refine Ext.alloc ?_ _)), hx9.trans (by repeat (first | (with_reducible exact Ext.refl _) | (with_reducible assumption) | refine Ext.drew ?_ | refine Ext.drewN ?_ _ | refine Ext.alloc ?_ _))⟩
  case rest =>
  obtain ⟨L9, c9, rfl, hL9, hE9⟩ := hcut
  generalize wc = w9 at *
  have HX9 := Lib.hid (HX6.out.trans hE9)
  replace q0 := Ext.cell hE9 q0
  replace q1 := Ext.cell hE9 q1
  replace q2 := Ext.cell hE9 q2
  have HCB9 : Hid (∀ w', Ext w9 w' → ∀ i, i < n → w'.cell? ⟨bb, ob + i, none⟩ = some (.int .i64 (t.heights.getD i 0))) := Lib.hid fun w' hE => HCB6.out w' (hE9.trans hE)
  have lbb9 : bb < w9.heap.size := by have := hE9.size; omega
  have lq9 : W.heap.size < w9.heap.size := by have := hE9.size; omega
  have HL9 := Lib.hid hL9
  have HH8 : Hid (∀ j, j < n → 1 ≤ t.heights.getD j 0 ∧ t.heights.getD j 0 ≤ 8) := Lib.hid fun j hj => (right_tok HRT.out).2.2.2.2.1 _ (by rw [List.getD_eq_getElem?_getD, List.getElem?_eq_getElem (by rw [HLN.out.2.1]; exact hj)]; exact List.getElem_mem _)
  have KQ : Hid (∀ w', Ext w9 w' → w'.cell? ⟨W.heap.size, 0, none⟩ = some (.slice (some ⟨ba, oa, none⟩) n c) ∧ w'.cell? ⟨W.heap.size, 1, none⟩ = some (.slice (some ⟨bb, ob, none⟩) n d) ∧ w'.cell? ⟨W.heap.size, 2, none⟩ = some (.slice N k e)) := Lib.hid fun w' hE => ⟨hE.cell q0, hE.cell q1, hE.cell q2⟩
  clear hE9 HX6 HCB6 lbb6 lq6 lr6 lu6 hL9 r0 r1 r2 u0 u1 u2 KA CLR CLP HR6 HP6 q0 q1 q2
  go_wp2_with fail
  go_loopw [12, 13] (fun mo i wr => ∃ (j : Nat) (M : Int), j ≤ n ∧ i = .int .i64 j ∧ mo = .int .i64 M ∧ 0 ≤ M ∧ M ≤ 8 ∧ (∀ u, u < j → t.heights.getD u 0 ≤ M) ∧ Ext w9 wr) (fun _ i _ => n - (intOf i).toNat)
  case atStart => exact ⟨0, 0, Nat.zero_le _, rfl, rfl, Int.le_refl _, by decide, fun u hu => absurd hu (Nat.not_lt_zero _), Ext.refl _⟩
  case round =>
    obtain ⟨j, M, hj, rfl, rfl, hM0, hM8, hMM, hX⟩ := hrel
    have HX := Lib.hid hX
    have HMM := Lib.hid hMM
    have hj0 : (0 : Int) ≤ j := by omega
    obtain ⟨q0, q1, q2⟩ := KQ.out wr hX
    have lqr : W.heap.size < wr.heap.size := World.block_lt_of_cell? _ _ q0
    have hzx := hX.size
    clear hX hMM
    by_cases hlt : j < n
    · have hlt' : (j : Int) < n := by omega
      have z0 := HCB9.out wr HX.out j hlt
      have h8 := HH8.out j hlt
      have HMS : Hid (∀ u, u < j + 1 → u < j ∨ u = j) := Lib.hid fun u hu => by omega
      obtain ⟨g, hg⟩ : ∃ x, t.heights.getD j 0 = x := ⟨_, rfl⟩
      rw [hg] at z0 h8
      have HGJ := Lib.hid hg
      have lbr : bb < wr.heap.size := by omega
      clear hg
      by_cases hmx : M < g
      · have e1 : (if M < g then g else M) = g := if_pos hmx
        go_wp2_with fail
        go_roundw
        case rel => exact ⟨j + 1, g, by omega, by go_num, by first | rfl | simp, by omega, by omega, fun u hu => (HMS.out u hu).elim (fun h => by have := HMM.out u h; omega) (fun h => by rw [h, HGJ.out]; exact Int.le_refl _), HX.out⟩
        case measure => simp [intOf]; omega
      · have e1 : (if M < g then g else M) = M := if_neg hmx
        go_wp2_with fail
        go_roundw
        case rel => exact ⟨j + 1, M, by omega, by go_num, by first | rfl | simp, by omega, by omega, fun u hu => (HMS.out u hu).elim (fun h => HMM.out u h) (fun h => by rw [h, HGJ.out]; omega), HX.out⟩
        case measure => simp [intOf]; omega
    · obtain rfl : n = j := by omega
      generalize wr = wq at *
      obtain ⟨mm, rfl⟩ : ∃ mm : Nat, M = mm := ⟨M.toNat, by omega⟩
      have hfw := (HFW.out mm (fun z hz => by
        obtain ⟨i, hi, rfl⟩ := List.getElem_of_mem hz
        have h := height_at HRT.out hi
        rw [List.getD_eq_getElem?_getD, List.getElem?_eq_getElem hi] at h
        have h2 := HMM.out i (by rw [← HLN.out.1]; exact hi)
        rw [← h] at h2
        exact h2)).1
      obtain ⟨v9, hv9⟩ : ∃ v : Nat, changedP lt (lr ++ lp) = v := ⟨_, rfl⟩
      rw [hv9] at hfw
      have HV9 := Lib.hid hv9
      have hw5 : IntKind.i64.wrap (2 * (mm : Int)) = 2 * (mm : Int) := IntWalk.i64_in _ (by omega)
      have d1 : decide ((v9 : Int) ≤ 2 * (mm : Int)) = true := decide_eq_true (by omega)
      have d2 : decide (v9 ≤ 2 * mm) = true := decide_eq_true (by omega)
      have e5 : ((qt : Int) == (qt : Int)) = true := by simp
      have HX16 := Lib.hid (HX9.out.trans HX.out)
      have HL16 := Lib.hid (HL9.out.ext HX.out)
      clear hv9 hfw HFW HMM HX9 HX HL9 HH8 KQ hzx hM0 hM8
      go_wp2_with fail
      refine (CLT.out _ HX16.out).mono ?_
      rintro ed wa ⟨La, ca, rfl, hOa, ha⟩
      have HXa := Lib.hid (HX16.out.trans ha)
      have HLa := Lib.hid hOa.rd
      have HL17 := Lib.hid (HL16.out.ext ha)
      replace q0 := Ext.cell ha q0
      replace q1 := Ext.cell ha q1
      replace q2 := Ext.cell ha q2
      have lqa : W.heap.size < wa.heap.size := World.block_lt_of_cell? _ _ q0
      clear ha hOa HX16 HL16 lqr
      go_wp2_with fail
      refine (pchanged15_to lt (lr ++ lp) qt qt La L9 ca c9 v9 v9 _ HLa.out HQ.out.2.1 HL17.out HQ.out.1 (by rw [HQ.out.2.1]; exact HQ.out.2.2.1) (by rw [HQ.out.1]; exact HQ.out.2.2.1) HV9.out rfl).mono ?_
      rintro ed wb ⟨rfl, hb⟩
      have HXb := Lib.hid (HXa.out.trans hb)
      replace q0 := Ext.cell hb q0
      replace q1 := Ext.cell hb q1
      replace q2 := Ext.cell hb q2
      have lqb : W.heap.size < wb.heap.size := World.block_lt_of_cell? _ _ q0
      clear hb HXa HLa HL17 lqa
      go_wp2_with fail
      refine (CLT.out _ HXb.out).mono ?_
      rintro ed wc ⟨Lc, cc, rfl, hOc, hc⟩
      have HXc := Lib.hid (HXb.out.trans hc)
      clear hc hOc HXb
      go_wp2_with fail
      go_ret
      exact ⟨ret_bool (by first | rfl | simp), HXc.out⟩
end Go.Proofs.Ytllpfegnpakadaa
