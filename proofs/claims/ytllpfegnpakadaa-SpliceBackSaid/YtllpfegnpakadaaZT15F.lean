/- SpliceBack: the law returns true. Written by wip/mk_t15law.py. -/
import Derived.Test.YtllpfegnpakadaaJ6
set_option linter.unusedVariables false
set_option linter.unusedSimpArgs false
set_option linter.unnecessarySimpa false
namespace Go.Proofs.Ytllpfegnpakadaa
open Go.BigFrame
open Go.RowKit Go.Proofs.Ytllpfegnpakadaa.Plain

set_option maxHeartbeats 12800000 in
set_option maxRecDepth 100000 in
theorem spliceback_any (t : Tw) (A B N : Option Addr) (c d e : Nat) (k1 k2 : Int) (W : World) (hT : TwR W t A B N c d e) (hk1 : 0 ≤ k1 ∧ k1 ≤ 255) (hk2 : 0 ≤ k2 ∧ k2 ≤ 255) :
    Calls Try.prog 5 #[towV A t.tokens.length c B t.heights.length d N t.next.length e, .agg #[.int .u8 k1, .int .u8 k2]] W fun ed w' => ed = .returned (.bool true) ∧ Ext W w' := by
  have HT := Lib.hid hT
  clear hT
  obtain ⟨a1, rfl⟩ : ∃ a : Nat, k1 = a := ⟨k1.toNat, by omega⟩
  obtain ⟨a2, rfl⟩ : ∃ a : Nat, k2 = a := ⟨k2.toNat, by omega⟩
  have HA8 : Hid (a1 ≤ 255 ∧ a2 ≤ 255) := Lib.hid (by omega)
  clear hk1 hk2
  obtain ⟨n, hn⟩ : ∃ n, t.tokens.length = n := ⟨_, rfl⟩
  obtain ⟨m, hm⟩ : ∃ n, t.heights.length = n := ⟨_, rfl⟩
  obtain ⟨k, hk⟩ : ∃ n, t.next.length = n := ⟨_, rfl⟩
  have HLN := Lib.hid (And.intro hn (And.intro hm hk))
  obtain ⟨rt, hrt⟩ : ∃ r, rightTw t = r := ⟨_, rfl⟩
  have HRT := Lib.hid hrt
  have CG : Hid (∀ w', Ext W w' → Calls Try.prog 10 #[towV A n c B m d N k e, .int .i64 200] w' fun ed w'' => ∃ b, ed = .returned (.bool b) ∧ Ext w' w'') := Lib.hid fun w' hE => by
    have h := rgreat14_any t 200 A B N c d e w' (HT.out.ext hE)
    rw [hn, hm, hk] at h
    exact h
  have CR : Hid (∀ w', Ext W w' → Calls Try.prog 25 #[towV A n c B m d N k e] w' fun ed w'' => ed = .returned (.bool rt) ∧ Ext w' w'') := Lib.hid fun w' hE => by
    have h := rright14_any t A B N c d e w' (HT.out.ext hE)
    rw [hn, hm, hk, hrt] at h
    exact h
  rw [hn, hm, hk]
  clear hn hm hk hrt
  go_enter Try.func5, Try.ntmps5
  go_wp2_with fail
  refine (splicealive_any _).mono ?_
  rintro ed w1 ⟨rfl, hE1⟩
  have q0 : w1.cell? ⟨W.heap.size, 0, none⟩ = some (.slice A n c) := Ext.cell hE1 (by go_simp)
  have q1 : w1.cell? ⟨W.heap.size, 1, none⟩ = some (.slice B m d) := Ext.cell hE1 (by go_simp)
  have q2 : w1.cell? ⟨W.heap.size, 2, none⟩ = some (.slice N k e) := Ext.cell hE1 (by go_simp)
  have qf : ∀ o, w1.frozen? ⟨W.heap.size, o, none⟩ = false := fun o => (Below.frozen hE1 (p := ⟨W.heap.size, o, none⟩) (by first | omega | (simp; omega) | simp)).trans (by go_simp)
  have s0 : w1.cell? ⟨(W.heap.size+1), 0, none⟩ = some (.int .u8 a1) := Ext.cell hE1 (by go_simp)
  have s1 : w1.cell? ⟨(W.heap.size+1), 1, none⟩ = some (.int .u8 a2) := Ext.cell hE1 (by go_simp)
  have sf : ∀ o, w1.frozen? ⟨(W.heap.size+1), o, none⟩ = false := fun o => (Below.frozen hE1 (p := ⟨(W.heap.size+1), o, none⟩) (by first | omega | (simp; omega) | simp)).trans (by go_simp)
  have HX1 := Lib.hid ((((Ext.refl W).alloc (.cells #[.slice A n c, .slice B m d, .slice N k e] 25)).alloc (.cells #[.int .u8 a1, .int .u8 a2] 41)).trans hE1)
  clear hE1 qf sf
  have lq1 : W.heap.size < w1.heap.size := World.block_lt_of_cell? _ _ q0
  have ls1 : W.heap.size + 1 < w1.heap.size := World.block_lt_of_cell? _ _ s0
  go_wp2_with fail
  refine (CG.out _ HX1.out).mono ?_
  rintro ed w2 ⟨bg, rfl, hE2⟩
  replace q0 := Ext.cell hE2 q0
  replace q1 := Ext.cell hE2 q1
  replace q2 := Ext.cell hE2 q2
  replace s0 := Ext.cell hE2 s0
  replace s1 := Ext.cell hE2 s1
  have lq2 : W.heap.size < w2.heap.size := World.block_lt_of_cell? _ _ q0
  have ls2 : W.heap.size + 1 < w2.heap.size := World.block_lt_of_cell? _ _ s0
  have HX2 := Lib.hid (HX1.out.trans hE2)
  clear hE2 lq1 ls1 HX1
  cases bg with
  | true =>
    go_wp2_with fail
    go_ret
    exact ⟨ret_bool (by first | rfl | simp), HX2.out⟩
  | false =>
  go_wp2_with fail
  refine (CR.out _ HX2.out).mono ?_
  rintro ed w3 ⟨rfl, hE3⟩
  replace q0 := Ext.cell hE3 q0
  replace q1 := Ext.cell hE3 q1
  replace q2 := Ext.cell hE3 q2
  replace s0 := Ext.cell hE3 s0
  replace s1 := Ext.cell hE3 s1
  have lq3 : W.heap.size < w3.heap.size := World.block_lt_of_cell? _ _ q0
  have ls3 : W.heap.size + 1 < w3.heap.size := World.block_lt_of_cell? _ _ s0
  have HX3 := Lib.hid (HX2.out.trans hE3)
  clear hE3 lq2 ls2 HX2
  cases rt with
  | false =>
    go_wp2_with fail
    go_ret
    exact ⟨ret_bool (by first | rfl | simp), HX3.out⟩
  | true =>
  have hrk := right_tok HRT.out
  have hmn : n = m := by rw [← HLN.out.1, ← HLN.out.2.1]; exact hrk.2.2.2.1.symm
  subst hmn
  have HTA : Hid (TwA W t.tokens t.heights t.next n n k A B N c d e) := Lib.hid ⟨HT.out, HLN.out.1, HLN.out.2.1, HLN.out.2.2⟩
  have hn1 : n ≤ 1000 := by have := ((rightL_iff _).1 hrk.1).1; rw [HLN.out.1] at this; exact this
  have hn0 : 0 < n := by rw [← HLN.out.1]; exact List.length_pos_iff.2 hrk.2.2.1
  obtain ⟨p1, hp1⟩ : ∃ p : Nat, a1 % n = p := ⟨_, rfl⟩
  obtain ⟨p2, hp2⟩ : ∃ p : Nat, a2 % n = p := ⟨_, rfl⟩
  have hpn1 : p1 < n := by rw [← hp1]; exact Nat.mod_lt _ hn0
  have hpn2 : p2 < n := by rw [← hp2]; exact Nat.mod_lt _ hn0
  obtain ⟨x, hx⟩ : ∃ x, t.tokens.getD p1 0 = x := ⟨_, rfl⟩
  obtain ⟨y, hy⟩ : ∃ x, t.tokens.getD p2 0 = x := ⟨_, rfl⟩
  have HXY : Hid ((in64 x ∧ in64 y) ∧ x ∈ t.tokens ∧ y ∈ t.tokens) := Lib.hid ⟨⟨by rw [← hx]; exact HT.out.tok.okAt p1 (by rw [HLN.out.1]; exact hpn1), by rw [← hy]; exact HT.out.tok.okAt p2 (by rw [HLN.out.1]; exact hpn2)⟩, by rw [← hx]; exact ints_mem (by rw [HLN.out.1]; exact hpn1), by rw [← hy]; exact ints_mem (by rw [HLN.out.1]; exact hpn2)⟩
  obtain ⟨ba, oa, hba, hca⟩ := (ints_of_rd (HT.out.tok.ext HX3.out)).cells (by rw [HLN.out.1]; exact hn0)
  subst hba
  rw [HLN.out.1] at hca
  obtain ⟨bb, ob, hbb, hcb⟩ := (ints_of_rd (HT.out.hts.ext HX3.out)).cells (by rw [HLN.out.2.1]; exact hn0)
  subst hbb
  rw [HLN.out.2.1] at hcb
  have HCB : Hid (∀ w', Ext w3 w' → ∀ i, i < n → w'.cell? ⟨bb, ob + i, none⟩ = some (.int .i64 (t.heights.getD i 0))) := Lib.hid fun w' hE i hi => hE.cell (hcb i hi)
  have y0 := hca p1 hpn1
  have y1 := hca p2 hpn2
  rw [hx] at y0
  rw [hy] at y1
  have lba : ba < w3.heap.size := World.block_lt_of_cell? _ _ y0
  have lbb : bb < w3.heap.size := World.block_lt_of_cell? _ _ (hcb 0 hn0)
  have KS : Hid (∀ w', Ext w3 w' → w'.cell? ⟨W.heap.size, 0, none⟩ = some (.slice (some ⟨ba, oa, none⟩) n c) ∧ w'.cell? ⟨W.heap.size + 1, 0, none⟩ = some (.int .u8 a1) ∧ w'.cell? ⟨W.heap.size + 1, 1, none⟩ = some (.int .u8 a2) ∧ w'.cell? ⟨ba, oa + p1, none⟩ = some (.int .i64 x) ∧ w'.cell? ⟨ba, oa + p2, none⟩ = some (.int .i64 y)) := Lib.hid fun w' hE => ⟨hE.cell q0, hE.cell s0, hE.cell s1, hE.cell y0, hE.cell y1⟩
  have hw1 : IntKind.i64.wrap (a1 : Int) = (a1 : Int) := IntWalk.i64_in _ (by have := HA8.out; omega)
  have hv1 : IntKind.i64.wrap (a2 : Int) = (a2 : Int) := IntWalk.i64_in _ (by have := HA8.out; omega)
  have hw3 : (a1 : Int) % (n : Int) = (p1 : Int) := by rw [← hp1]; simp
  have hv3 : (a2 : Int) % (n : Int) = (p2 : Int) := by rw [← hp2]; simp
  have hw2 : (a1 : Int).tmod (n : Int) = (p1 : Int) := by rw [Int.tmod_eq_emod_of_nonneg (by omega)]; exact hw3
  have hv2 : (a2 : Int).tmod (n : Int) = (p2 : Int) := by rw [Int.tmod_eq_emod_of_nonneg (by omega)]; exact hv3
  have hw4 : IntKind.i64.wrap (p1 : Int) = (p1 : Int) := IntWalk.i64_in _ (by omega)
  have hv4 : IntKind.i64.wrap (p2 : Int) = (p2 : Int) := IntWalk.i64_in _ (by omega)
  have htn : (n : Int) ≠ 0 := by omega
  have htn0 : n ≠ 0 := by omega
  have htn1 : ((n : Int) == 0) = false := by rw [beq_eq_false_iff_ne]; omega
  clear hrk hp1 hp2 hx hy hca hcb
  go_wp2_with fail
  refine wp_region_class (Ext w3) (by kernel_rfl) (by kernel_rfl) (Ext.refl _).drew ?_
  try simp only [List.append_eq, List.cons_append, List.nil_append]
  repeat (first
    | go_big_quiet_skip
    | (go_big_quiet_want
       first
       | (go_big_quiet_op; go_big_quiet_on)
       | (unfold Oper.quiet
          apply Exists.intro
          refine ⟨fun w' hC => ?_, ?_⟩
          · (obtain ⟨k1, k2, k3, k4, k5⟩ := KS.out w' hC
             unfold Oper.quietAt
             go_simp
             first
             | exact rfl)
          go_simp
          go_big_quiet_on)))
  refine wpQuiet_nil ?_
  intro w4 hC4
  have HX4 := Lib.hid (HX3.out.trans hC4)
  replace q0 := Ext.cell hC4 q0
  replace q1 := Ext.cell hC4 q1
  replace q2 := Ext.cell hC4 q2
  have HCB4 : Hid (∀ w', Ext w4 w' → ∀ i, i < n → w'.cell? ⟨bb, ob + i, none⟩ = some (.int .i64 (t.heights.getD i 0))) := Lib.hid fun w' hE => HCB.out w' (hC4.trans hE)
  have lbb4 : bb < w4.heap.size := by have := hC4.size; omega
  have lq4 : W.heap.size < w4.heap.size := by have := hC4.size; omega
  clear hC4 KS HCB HX3 lba lbb lq3 ls3 hw1 hw2 hw3 hw4 hv1 hv2 hv3 hv4 s0 s1 y0 y1 HA8 CG CR hpn1 hpn2
  go_wp2_with fail
  rcases cut_tower HRT.out HXY.out.2.1 HXY.out.2.2 with ⟨hxy, hct⟩ | ⟨hxy, r, p, hct, g1, g2, g3, g4, g5, s, g6, g7⟩
  · subst hxy
    refine (pcut15_to t.tokens t.heights t.next n n k (some ⟨ba, oa, none⟩) (some ⟨bb, ob, none⟩) N c d e x x [] [] [] 0 0 0 [] [] [] 0 0 0 false _ (HTA.out.ext HX4.out) HXY.out.1.1 HXY.out.1.2 hct rfl rfl rfl rfl rfl rfl).mono ?_
    rintro ed w5 ⟨A5, B5, N5, A6, B6, N6, c5, d5, e5, c6, d6, e6, rfl, hr5, hp5, hE5⟩
    have HX5 := Lib.hid (HX4.out.trans hE5)
    clear hr5 hp5 hE5 hct
    go_wp2_with fail
    go_ret
    exact ⟨ret_bool (by first | rfl | simp), by first | exact HX5.out | exact HX5.out.trans (((Ext.refl _).alloc _).alloc _)⟩
  obtain ⟨_, _, hrne, hrl, _⟩ := right_tok g1
  obtain ⟨_, _, hpne, hpl, _⟩ := right_tok g2
  obtain ⟨rn, hrn⟩ : ∃ n, r.tokens.length = n := ⟨_, rfl⟩
  obtain ⟨rk, hrk⟩ : ∃ n, r.next.length = n := ⟨_, rfl⟩
  obtain ⟨pn, hpn⟩ : ∃ n, p.tokens.length = n := ⟨_, rfl⟩
  obtain ⟨pk, hpk⟩ : ∃ n, p.next.length = n := ⟨_, rfl⟩
  rw [hrn] at hrl
  rw [hpn] at hpl
  have hpn0 : 0 < pn := by rw [← hpn]; exact List.length_pos_iff.2 hpne
  have HG0 := Lib.hid hxy
  have HG1 := Lib.hid g1
  have HG2 := Lib.hid g2
  have HG3 := Lib.hid g3
  have HG4 := Lib.hid g4
  have HG5 := Lib.hid g5
  have HG6 := Lib.hid g6
  have HG7 := Lib.hid g7
  refine (pcut15_to t.tokens t.heights t.next n n k (some ⟨ba, oa, none⟩) (some ⟨bb, ob, none⟩) N c d e x y r.tokens r.heights r.next rn rn rk p.tokens p.heights p.next pn pn pk true _ (HTA.out.ext HX4.out) HXY.out.1.1 HXY.out.1.2 hct hrn hrl hrk hpn hpl hpk).mono ?_
  rintro ed w5 ⟨A5, B5, N5, A6, B6, N6, c5, d5, e5, c6, d6, e6, rfl, hr5, hp5, hE5⟩
  have HX5 := Lib.hid (HX4.out.trans hE5)
  have HR5 := Lib.hid hr5
  have HP5 := Lib.hid hp5
  replace q0 := Ext.cell hE5 q0
  replace q1 := Ext.cell hE5 q1
  replace q2 := Ext.cell hE5 q2
  have HCB5 : Hid (∀ w', Ext w5 w' → ∀ i, i < n → w'.cell? ⟨bb, ob + i, none⟩ = some (.int .i64 (t.heights.getD i 0))) := Lib.hid fun w' hE => HCB4.out w' (hE5.trans hE)
  have lbb5 : bb < w5.heap.size := by have := hE5.size; omega
  have lq5 : W.heap.size < w5.heap.size := by have := hE5.size; omega
  clear hr5 hp5 hE5 hct HX4 HCB4 lbb4 lq4 hrne hpne hrn hrl hrk hpn hpl hpk g1 g2 g3 g4 g5 g6 g7 hxy
  go_wp2_with fail
  obtain ⟨w6, hw6⟩ : ∃ w6, (w5.alloc (.cells #[.slice A5 rn c5, .slice B5 rn d5, .slice N5 rk e5] 25)).alloc (.cells #[.slice A6 pn c6, .slice B6 pn d6, .slice N6 pk e6] 25) = w6 := ⟨_, rfl⟩
  have hE6 : Ext w5 w6 := by rw [← hw6]; exact ((Ext.refl _).alloc _).alloc _
  have r0 : w6.cell? ⟨w5.heap.size, 0, none⟩ = some (.slice A5 rn c5) := by rw [← hw6]; clear hw6; go_simp
  have r1 : w6.cell? ⟨w5.heap.size, 1, none⟩ = some (.slice B5 rn d5) := by rw [← hw6]; clear hw6; go_simp
  have r2 : w6.cell? ⟨w5.heap.size, 2, none⟩ = some (.slice N5 rk e5) := by rw [← hw6]; clear hw6; go_simp
  have u0 : w6.cell? ⟨w5.heap.size + 1, 0, none⟩ = some (.slice A6 pn c6) := by rw [← hw6]; clear hw6; go_simp
  have u1 : w6.cell? ⟨w5.heap.size + 1, 1, none⟩ = some (.slice B6 pn d6) := by rw [← hw6]; clear hw6; go_simp
  have u2 : w6.cell? ⟨w5.heap.size + 1, 2, none⟩ = some (.slice N6 pk e6) := by rw [← hw6]; clear hw6; go_simp
  rw [hw6]
  have HX6 := Lib.hid (HX5.out.trans hE6)
  have HR6 := Lib.hid (HR5.out.ext hE6)
  have HP6 := Lib.hid (HP5.out.ext hE6)
  replace q0 := Ext.cell hE6 q0
  replace q1 := Ext.cell hE6 q1
  replace q2 := Ext.cell hE6 q2
  have HCB6 : Hid (∀ w', Ext w6 w' → ∀ i, i < n → w'.cell? ⟨bb, ob + i, none⟩ = some (.int .i64 (t.heights.getD i 0))) := Lib.hid fun w' hE => HCB5.out w' (hE6.trans hE)
  have lbb6 : bb < w6.heap.size := by have := hE6.size; omega
  have lq6 : W.heap.size < w6.heap.size := by have := hE6.size; omega
  have lr6 : w5.heap.size < w6.heap.size := World.block_lt_of_cell? _ _ r0
  have lu6 : w5.heap.size + 1 < w6.heap.size := World.block_lt_of_cell? _ _ u0
  have HX0 : Hid (W.heap.size < w5.heap.size) := Lib.hid lq5
  clear hw6 hE6 HX5 HCB5 HR5 HP5 lbb5 lq5
  have e1 : ((pn : Int) == 0) = false := by rw [beq_eq_false_iff_ne]; omega
  have hpn1 : (0 : Int) < pn := by omega
  have hpn2 : pn ≠ 0 := by omega
  obtain ⟨j, f, h1, h2, h3, h4, h5⟩ := back_tower HRT.out HXY.out.2.1 HXY.out.2.2 HG0.out HG1.out HG2.out HG3.out HG4.out HG5.out
  obtain ⟨z, hz⟩ : ∃ z, p.tokens.getD 0 0 = z := ⟨_, rfl⟩
  rw [hz] at h1
  obtain ⟨hr6, er1, er2, er3⟩ := HR6.out
  obtain ⟨hp6, ep1, ep2, ep3⟩ := HP6.out
  obtain ⟨_, _, _, hjl, _⟩ := right_tok h2
  obtain ⟨jn, hjn⟩ : ∃ n, j.tokens.length = n := ⟨_, rfl⟩
  obtain ⟨jk, hjk⟩ : ∃ n, j.next.length = n := ⟨_, rfl⟩
  obtain ⟨fn, hfn⟩ : ∃ n, f.tokens.length = n := ⟨_, rfl⟩
  obtain ⟨fh, hfh⟩ : ∃ n, f.heights.length = n := ⟨_, rfl⟩
  obtain ⟨fk, hfk⟩ : ∃ n, f.next.length = n := ⟨_, rfl⟩
  rw [hjn] at hjl
  have hzi : in64 z := by rw [← hz]; exact hp6.tok.okAt 0 (by show 0 < p.tokens.length; rw [ep1]; exact hpn0)
  have CJ : Hid (∀ w', Ext w6 w' → Calls Try.prog 11 #[towV A5 rn c5 B5 rn d5 N5 rk e5, .int .i64 x, towV A6 pn c6 B6 pn d6 N6 pk e6, .int .i64 z] w' fun ed w'' => ∃ (A B N : Option Addr) (c d e : Nat), ed = .returned (.tuple #[towV A jn c B jn d N jk e, .bool true]) ∧ TwO w'.heap.size w'' j A B N c d e ∧ Ext w' w'') := Lib.hid fun w' hE => by
    have h := pjoin15_any r p x z A5 B5 N5 c5 d5 e5 A6 B6 N6 c6 d6 e6 w' (hr6.ext hE) (hp6.ext hE) HXY.out.1.1 hzi
    rw [er1, er2, er3, ep1, ep2, ep3, h1] at h
    refine h.mono fun ed w'' h8 => ?_
    obtain ⟨A, B, N, c, d, e, k1, k2, k3⟩ := h8
    simp only at k1 k2
    rw [hjn, hjl, hjk] at k1
    exact ⟨A, B, N, c, d, e, k1, k2, k3⟩
  have CFT : Hid (∀ w', Ext W w' → Calls Try.prog 15 #[towV (some ⟨ba, oa, none⟩) n c (some ⟨bb, ob, none⟩) n d N k e, .int .i64 x] w' fun ed w'' => ∃ (A B N : Option Addr) (c d e : Nat), ed = .returned (.tuple #[towV A fn c B fh d N fk e, .bool true]) ∧ TwR w'' f A B N c d e ∧ Ext w' w'') := Lib.hid fun w' hE => by
    have h := pfrom15_any t x (some ⟨ba, oa, none⟩) (some ⟨bb, ob, none⟩) N c d e w' (HT.out.ext hE) HXY.out.1.1
    rw [HLN.out.1, HLN.out.2.1, HLN.out.2.2, h3] at h
    refine h.mono fun ed w'' h8 => ?_
    obtain ⟨A, B, N, c, d, e, k1, k2, k3⟩ := h8.r
    simp only at k1 k2
    rw [hfn, hfh, hfk] at k1
    exact ⟨A, B, N, c, d, e, k1, k2, k3⟩
  have CFJ : Hid (∀ (w' : World) (A B N : Option Addr) (c d e : Nat), TwR w' j A B N c d e → Calls Try.prog 15 #[towV A jn c B jn d N jk e, .int .i64 x] w' fun ed w'' => ∃ (A B N : Option Addr) (c d e : Nat), ed = .returned (.tuple #[towV A fn c B fh d N fk e, .bool true]) ∧ TwR w'' f A B N c d e ∧ Ext w' w'') := Lib.hid fun w' A B N c d e hF => by
    have h := pfrom15_any j x A B N c d e w' hF HXY.out.1.1
    rw [hjn, hjl, hjk, h4] at h
    refine h.mono fun ed w'' h8 => ?_
    obtain ⟨A, B, N, c, d, e, k1, k2, k3⟩ := h8.r
    simp only at k1 k2
    rw [hfn, hfh, hfk] at k1
    exact ⟨A, B, N, c, d, e, k1, k2, k3⟩
  have CRR : Hid (∀ w', Ext w6 w' → Calls Try.prog 25 #[towV A5 rn c5 B5 rn d5 N5 rk e5] w' fun ed w'' => ed = .returned (.bool true) ∧ Ext w' w'') := Lib.hid fun w' hE => by
    have h := rright14_any r A5 B5 N5 c5 d5 e5 w' (hr6.ext hE)
    rw [er1, er2, er3, HG1.out] at h
    exact h
  have CRP : Hid (∀ w', Ext w6 w' → Calls Try.prog 25 #[towV A6 pn c6 B6 pn d6 N6 pk e6] w' fun ed w'' => ed = .returned (.bool true) ∧ Ext w' w'') := Lib.hid fun w' hE => by
    have h := rright14_any p A6 B6 N6 c6 d6 e6 w' (hp6.ext hE)
    rw [ep1, ep2, ep3, HG2.out] at h
    exact h
  have CSM : Hid (∀ (w' : World) (A B N A' B' N' : Option Addr) (c d e c' d' e' : Nat), TwR w' f A B N c d e → TwR w' f A' B' N' c' d' e' → Calls Try.prog 17 #[towV A fn c B fh d N fk e, towV A' fn c' B' fh d' N' fk e'] w' fun ed w'' => ed = .returned (.bool true) ∧ Ext w' w'') := Lib.hid fun w' A B N A' B' N' c d e c' d' e' hF hE => by
    have h := rsame14_any f f A B N A' B' N' c d e c' d' e' w' hF hE
    rw [hfn, hfh, hfk, decide_eq_true rfl] at h
    exact h
  obtain ⟨lt, hlt⟩ : ∃ l, linksP t = l := ⟨_, rfl⟩
  obtain ⟨lj, hlj⟩ : ∃ l, linksP j = l := ⟨_, rfl⟩
  have HLL : Hid (lt.length ≤ 100000 ∧ lj.length ≤ 100000 ∧ changedP lt lj = 0) := Lib.hid ⟨hlt ▸ links_le HRT.out, hlj ▸ links_le h2, by rw [← hlt, ← hlj]; exact h5⟩
  have CLT : Hid (∀ w', Ext W w' → Calls Try.prog 19 #[towV (some ⟨ba, oa, none⟩) n c (some ⟨bb, ob, none⟩) n d N k e] w' (LkSaid lt w')) := Lib.hid fun w' hE => by
    have h := plinks15_any t (some ⟨ba, oa, none⟩) (some ⟨bb, ob, none⟩) N c d e w' (HT.out.ext hE)
    rw [HLN.out.1, HLN.out.2.1, HLN.out.2.2, hlt] at h
    exact h
  have CLJ : Hid (∀ (w' : World) (A B N : Option Addr) (c d e : Nat), TwR w' j A B N c d e → Calls Try.prog 19 #[towV A jn c B jn d N jk e] w' (LkSaid lj w')) := Lib.hid fun w' A B N c d e hF => by
    have h := plinks15_any j A B N c d e w' hF
    rw [hjn, hjl, hjk, hlj] at h
    exact h
  obtain ⟨b6, o6, hb6, hc6⟩ := (ints_of_rd hp6.tok).cells (by show 0 < p.tokens.length; rw [ep1]; exact hpn0)
  subst hb6
  have z0 : w6.cell? ⟨b6, o6, none⟩ = some (.int .i64 z) := by have := hc6 0 (by show 0 < p.tokens.length; rw [ep1]; exact hpn0); rw [hz] at this; exact this
  have lz6 : b6 < w6.heap.size := World.block_lt_of_cell? _ _ z0
  clear hc6 hz h1 h2 h3 h4 h5 hr6 er1 er2 er3 hp6 ep1 ep2 ep3 hjl hjn hjk hfn hfh hfk hzi hlt hlj HR6 HP6 HCB6 lbb6
  go_wp2_with fail
  rw [e1]
  clear e1
  go_cut [11, 12] from 74 to 84 (fun u v wx => ∃ (P : Nat) (Ab Bb Nb : Option Addr) (cb db eb : Nat), u = .pointer (some ⟨P, 0, none⟩) ∧ v = .bool true ∧ (wx.cell? ⟨P, 0, none⟩ = some (.slice Ab jn cb) ∧ wx.cell? ⟨P, 1, none⟩ = some (.slice Bb jn db) ∧ wx.cell? ⟨P, 2, none⟩ = some (.slice Nb jk eb)) ∧ TwR wx j Ab Bb Nb cb db eb ∧ Ext w6 wx)
  case first =>
    go_region_law (first
      | (go_simp; go_at_call 11
         refine (CJ.out _ (by repeat (first | (with_reducible exact Ext.refl _) | (with_reducible assumption) | refine Ext.drew ?_ | refine Ext.drewN ?_ _ | refine Ext.alloc ?_ _))).mono ?_
         rintro ed w7 ⟨A7, B7, N7, c7, d7, e7, rfl, hT7, hE7⟩
         have hx7 : Ext w6 w7 := Ext.trans (by repeat (first | (with_reducible exact Ext.refl _) | (with_reducible assumption) | refine Ext.drew ?_ | refine Ext.drewN ?_ _ | refine Ext.alloc ?_ _)) hE7
         have hs7 := hx7.size
         have hb7 := hE7.size
         first
           | have bx7 : BxT w6.heap.size w6.heap.size w7 := (BxT.new (w := w6) (Nat.le_refl _)).ext (Ext.trans (by first | ((repeat (first | (with_reducible exact Ext.refl _) | (with_reducible assumption) | refine Ext.drew ?_ | refine Ext.drewN ?_ _ | refine Ext.alloc ?_ _)); done) | fail) hE7)
             obtain ⟨vc0, vc1, vc2, vf, vlo, vhi⟩ := id bx7
           | skip)
      | fail)
    all_goals go_wp2_with fail
    all_goals (go_simp; go_meet)
    all_goals first
      | (have h9 := meet15 (B0 := _) (u := .slice A7 jn c7) (v := .slice B7 jn d7) (z := .slice N7 jk e7) bx7 (by first | omega | (simp; omega) | (simp; done) | fail) hT7 hx7
         exact ⟨_, A7, B7, N7, c7, d7, e7, rfl, rfl, h9.1, h9.2.1, h9.2.2⟩)
      | exact ⟨w7.heap.size, A7, B7, N7, c7, d7, e7, rfl, rfl, ⟨by go_simp, by go_simp, by go_simp⟩, hT7.r.ext (by repeat (first | (with_reducible exact Ext.refl _) | (with_reducible assumption) | refine Ext.drew ?_ | refine Ext.drewN ?_ _ | refine Ext.alloc ?_ _)), hx7.trans (by repeat (first | (with_reducible exact Ext.refl _) | (with_reducible assumption) | refine Ext.drew ?_ | refine Ext.drewN ?_ _ | refine Ext.alloc ?_ _))⟩
  case rest =>
  obtain ⟨P, Ab, Bb, Nb, cb, db, eb, rfl, rfl, ⟨b0, b1, b2⟩, hTb, hE8⟩ := hcut
  generalize wc = w8 at *
  have HX8 := Lib.hid (HX6.out.trans hE8)
  have KA : Hid (∀ w', Ext w8 w' → w'.cell? ⟨W.heap.size, 0, none⟩ = some (.slice (some ⟨ba, oa, none⟩) n c) ∧ w'.cell? ⟨W.heap.size, 1, none⟩ = some (.slice (some ⟨bb, ob, none⟩) n d) ∧ w'.cell? ⟨W.heap.size, 2, none⟩ = some (.slice N k e) ∧ w'.cell? ⟨w5.heap.size, 0, none⟩ = some (.slice A5 rn c5) ∧ w'.cell? ⟨w5.heap.size, 1, none⟩ = some (.slice B5 rn d5) ∧ w'.cell? ⟨w5.heap.size, 2, none⟩ = some (.slice N5 rk e5) ∧ w'.cell? ⟨w5.heap.size + 1, 0, none⟩ = some (.slice (some ⟨b6, o6, none⟩) pn c6) ∧ w'.cell? ⟨w5.heap.size + 1, 1, none⟩ = some (.slice B6 pn d6) ∧ w'.cell? ⟨w5.heap.size + 1, 2, none⟩ = some (.slice N6 pk e6) ∧ w'.cell? ⟨P, 0, none⟩ = some (.slice Ab jn cb) ∧ w'.cell? ⟨P, 1, none⟩ = some (.slice Bb jn db) ∧ w'.cell? ⟨P, 2, none⟩ = some (.slice Nb jk eb)) := Lib.hid fun w' hE => ⟨hE.cell (hE8.cell q0), hE.cell (hE8.cell q1), hE.cell (hE8.cell q2), hE.cell (hE8.cell r0), hE.cell (hE8.cell r1), hE.cell (hE8.cell r2), hE.cell (hE8.cell u0), hE.cell (hE8.cell u1), hE.cell (hE8.cell u2), hE.cell b0, hE.cell b1, hE.cell b2⟩
  have HXX := Lib.hid hE8
  have HJ8 := Lib.hid hTb
  replace q0 := Ext.cell hE8 q0
  replace q1 := Ext.cell hE8 q1
  replace q2 := Ext.cell hE8 q2
  have lq8 : W.heap.size < w8.heap.size := World.block_lt_of_cell? _ _ q0
  have lP8 : P < w8.heap.size := World.block_lt_of_cell? _ _ b0
  clear hE8 HX6 hTb r0 r1 r2 u0 u1 u2 z0 lz6 lq6 lr6 lu6 hpn1 hpn2 hpn0 CJ
  go_wp2_with fail
  refine (CFT.out _ HX8.out).mono ?_
  rintro ed w9 ⟨A9, B9, N9, c9, d9, e9, rfl, hF9, hE9⟩
  have HX9 := Lib.hid (HX8.out.trans hE9)
  have HXY9 := Lib.hid hE9
  have HF9 := Lib.hid hF9
  have HJ9 := Lib.hid (HJ8.out.ext hE9)
  replace b0 := Ext.cell hE9 b0
  replace b1 := Ext.cell hE9 b1
  replace b2 := Ext.cell hE9 b2
  have lP9 : P < w9.heap.size := World.block_lt_of_cell? _ _ b0
  clear hE9 hF9 HX8 HJ8 lq8 lP8 q0 q1 q2 CFT
  go_wp2_with fail
  refine (CFJ.out (w9.alloc (.cells #[.slice A9 fn c9, .slice B9 fh d9, .slice N9 fk e9] 25)) _ _ _ _ _ _ (HJ9.out.ext ((Ext.refl _).alloc _))).mono ?_
  rintro ed w11 ⟨A11, B11, N11, c11, d11, e11, rfl, hF11, hE11⟩
  have g0 : w11.cell? ⟨w9.heap.size, 0, none⟩ = some (.slice A9 fn c9) := hE11.cell (by go_simp)
  have g1 : w11.cell? ⟨w9.heap.size, 1, none⟩ = some (.slice B9 fh d9) := hE11.cell (by go_simp)
  have g2 : w11.cell? ⟨w9.heap.size, 2, none⟩ = some (.slice N9 fk e9) := hE11.cell (by go_simp)
  have hE10 : Ext w9 w11 := ((Ext.refl _).alloc _).trans hE11
  have HF11 := Lib.hid (HF9.out.ext hE10)
  have HG11 := Lib.hid hF11
  have HJ11 := Lib.hid (HJ9.out.ext hE10)
  have HX11 := Lib.hid (HX9.out.trans hE10)
  have HXZ := Lib.hid (HXY9.out.trans hE10)
  clear hE10 hE11 hF11 HF9 HJ9 HX9 lP9 b0 b1 b2 CFJ
  go_wp2_with fail
  obtain ⟨wq, hwq⟩ : ∃ wq, w11.alloc (.cells #[.slice A11 fn c11, .slice B11 fh d11, .slice N11 fk e11] 25) = wq := ⟨_, rfl⟩
  have hE12 : Ext w11 wq := by rw [← hwq]; exact (Ext.refl _).alloc _
  have v0 : wq.cell? ⟨w11.heap.size, 0, none⟩ = some (.slice A11 fn c11) := by rw [← hwq]; clear hwq; go_simp
  have v1 : wq.cell? ⟨w11.heap.size, 1, none⟩ = some (.slice B11 fh d11) := by rw [← hwq]; clear hwq; go_simp
  have v2 : wq.cell? ⟨w11.heap.size, 2, none⟩ = some (.slice N11 fk e11) := by rw [← hwq]; clear hwq; go_simp
  rw [hwq]
  replace g0 := Ext.cell hE12 g0
  replace g1 := Ext.cell hE12 g1
  replace g2 := Ext.cell hE12 g2
  have HKR : Hid (∀ w', Ext wq w' → w'.cell? ⟨W.heap.size, 0, none⟩ = some (.slice (some ⟨ba, oa, none⟩) n c) ∧ w'.cell? ⟨W.heap.size, 1, none⟩ = some (.slice (some ⟨bb, ob, none⟩) n d) ∧ w'.cell? ⟨W.heap.size, 2, none⟩ = some (.slice N k e) ∧ w'.cell? ⟨w5.heap.size, 0, none⟩ = some (.slice A5 rn c5) ∧ w'.cell? ⟨w5.heap.size, 1, none⟩ = some (.slice B5 rn d5) ∧ w'.cell? ⟨w5.heap.size, 2, none⟩ = some (.slice N5 rk e5) ∧ w'.cell? ⟨w5.heap.size + 1, 0, none⟩ = some (.slice (some ⟨b6, o6, none⟩) pn c6) ∧ w'.cell? ⟨w5.heap.size + 1, 1, none⟩ = some (.slice B6 pn d6) ∧ w'.cell? ⟨w5.heap.size + 1, 2, none⟩ = some (.slice N6 pk e6) ∧ w'.cell? ⟨P, 0, none⟩ = some (.slice Ab jn cb) ∧ w'.cell? ⟨P, 1, none⟩ = some (.slice Bb jn db) ∧ w'.cell? ⟨P, 2, none⟩ = some (.slice Nb jk eb) ∧ w'.cell? ⟨w9.heap.size, 0, none⟩ = some (.slice A9 fn c9) ∧ w'.cell? ⟨w9.heap.size, 1, none⟩ = some (.slice B9 fh d9) ∧ w'.cell? ⟨w9.heap.size, 2, none⟩ = some (.slice N9 fk e9) ∧ w'.cell? ⟨w11.heap.size, 0, none⟩ = some (.slice A11 fn c11) ∧ w'.cell? ⟨w11.heap.size, 1, none⟩ = some (.slice B11 fh d11) ∧ w'.cell? ⟨w11.heap.size, 2, none⟩ = some (.slice N11 fk e11)) := Lib.hid fun w' hE => by
    have h := KA.out w' (HXZ.out.trans (hE12.trans hE))
    exact ⟨h.1, h.2.1, h.2.2.1, h.2.2.2.1, h.2.2.2.2.1, h.2.2.2.2.2.1, h.2.2.2.2.2.2.1, h.2.2.2.2.2.2.2.1, h.2.2.2.2.2.2.2.2.1, h.2.2.2.2.2.2.2.2.2.1, h.2.2.2.2.2.2.2.2.2.2.1, h.2.2.2.2.2.2.2.2.2.2.2, hE.cell g0, hE.cell g1, hE.cell g2, hE.cell v0, hE.cell v1, hE.cell v2⟩
  obtain ⟨aq0, aq1, aq2, ar0, ar1, ar2, ap0, ap1, ap2, aj0, aj1, aj2, af0, af1, af2, ag0, ag1, ag2⟩ := HKR.out wq (Ext.refl _)
  have HX16 := Lib.hid (HX11.out.trans hE12)
  have H6Q := Lib.hid (HXX.out.trans (HXZ.out.trans hE12))
  have HF16 := Lib.hid (HF11.out.ext hE12)
  have HG16 := Lib.hid (HG11.out.ext hE12)
  have HJ16 := Lib.hid (HJ11.out.ext hE12)
  have l_aq : W.heap.size < wq.heap.size := World.block_lt_of_cell? _ _ aq0
  have l_ar : w5.heap.size < wq.heap.size := World.block_lt_of_cell? _ _ ar0
  have l_ap : w5.heap.size + 1 < wq.heap.size := World.block_lt_of_cell? _ _ ap0
  have l_aj : P < wq.heap.size := World.block_lt_of_cell? _ _ aj0
  have l_af : w9.heap.size < wq.heap.size := World.block_lt_of_cell? _ _ af0
  have l_ag : w11.heap.size < wq.heap.size := World.block_lt_of_cell? _ _ ag0
  clear g0 g1 g2 v0 v1 v2 hwq hE12 HX11 HF11 HG11 HJ11 HXZ HXX HXY9 KA
  go_upto_region 15 with fail
  go_region_held3 (fun w' => w'.cell? ⟨W.heap.size, 0, none⟩ = some (.slice (some ⟨ba, oa, none⟩) n c) ∧ w'.cell? ⟨W.heap.size, 1, none⟩ = some (.slice (some ⟨bb, ob, none⟩) n d) ∧ w'.cell? ⟨W.heap.size, 2, none⟩ = some (.slice N k e) ∧ w'.cell? ⟨w5.heap.size, 0, none⟩ = some (.slice A5 rn c5) ∧ w'.cell? ⟨w5.heap.size, 1, none⟩ = some (.slice B5 rn d5) ∧ w'.cell? ⟨w5.heap.size, 2, none⟩ = some (.slice N5 rk e5) ∧ w'.cell? ⟨w5.heap.size + 1, 0, none⟩ = some (.slice (some ⟨b6, o6, none⟩) pn c6) ∧ w'.cell? ⟨w5.heap.size + 1, 1, none⟩ = some (.slice B6 pn d6) ∧ w'.cell? ⟨w5.heap.size + 1, 2, none⟩ = some (.slice N6 pk e6) ∧ w'.cell? ⟨P, 0, none⟩ = some (.slice Ab jn cb) ∧ w'.cell? ⟨P, 1, none⟩ = some (.slice Bb jn db) ∧ w'.cell? ⟨P, 2, none⟩ = some (.slice Nb jk eb) ∧ w'.cell? ⟨w9.heap.size, 0, none⟩ = some (.slice A9 fn c9) ∧ w'.cell? ⟨w9.heap.size, 1, none⟩ = some (.slice B9 fh d9) ∧ w'.cell? ⟨w9.heap.size, 2, none⟩ = some (.slice N9 fk e9) ∧ w'.cell? ⟨w11.heap.size, 0, none⟩ = some (.slice A11 fn c11) ∧ w'.cell? ⟨w11.heap.size, 1, none⟩ = some (.slice B11 fh d11) ∧ w'.cell? ⟨w11.heap.size, 2, none⟩ = some (.slice N11 fk e11))
    (first | exact HKR.out _ (by repeat (first | (with_reducible exact Ext.refl _) | (with_reducible assumption) | refine Ext.drew ?_ | refine Ext.drewN ?_ _ | refine Ext.alloc ?_ _)) | go_keep)
    (first
    | (go_at_call_of 25 (Value.agg #[.slice A5 rn c5, .slice B5 rn d5, .slice N5 rk e5])
       refine (CRR.out _ (H6Q.out.trans (by repeat (first | (with_reducible exact Ext.refl _) | (with_reducible assumption) | refine Ext.drew ?_ | refine Ext.drewN ?_ _ | refine Ext.alloc ?_ _)))).mono ?_
       rintro ed wa ⟨rfl, ha⟩
       have xa : Ext wq wa := Ext.trans (by repeat (first | (with_reducible exact Ext.refl _) | (with_reducible assumption) | refine Ext.drew ?_ | refine Ext.drewN ?_ _ | refine Ext.alloc ?_ _)) ha)
    | (go_at_call_of 25 (Value.agg #[.slice (some ⟨b6, o6, none⟩) pn c6, .slice B6 pn d6, .slice N6 pk e6])
       refine (CRP.out _ (H6Q.out.trans (by repeat (first | (with_reducible exact Ext.refl _) | (with_reducible assumption) | refine Ext.drew ?_ | refine Ext.drewN ?_ _ | refine Ext.alloc ?_ _)))).mono ?_
       rintro ed wb ⟨rfl, hb⟩
       have xb : Ext wq wb := Ext.trans (by repeat (first | (with_reducible exact Ext.refl _) | (with_reducible assumption) | refine Ext.drew ?_ | refine Ext.drewN ?_ _ | refine Ext.alloc ?_ _)) hb)
    | (go_at_call 17
       refine (CSM.out _ _ _ _ _ _ _ _ _ _ _ _ _ (HF16.out.ext (by repeat (first | (with_reducible exact Ext.refl _) | (with_reducible assumption) | refine Ext.drew ?_ | refine Ext.drewN ?_ _ | refine Ext.alloc ?_ _))) (HG16.out.ext (by repeat (first | (with_reducible exact Ext.refl _) | (with_reducible assumption) | refine Ext.drew ?_ | refine Ext.drewN ?_ _ | refine Ext.alloc ?_ _)))).mono ?_
       rintro ed wc ⟨rfl, hc⟩
       have xc : Ext wq wc := Ext.trans (by repeat (first | (with_reducible exact Ext.refl _) | (with_reducible assumption) | refine Ext.drew ?_ | refine Ext.drewN ?_ _ | refine Ext.alloc ?_ _)) hc)
    | (go_at_call_of 19 (Value.agg #[.slice (some ⟨ba, oa, none⟩) n c, .slice (some ⟨bb, ob, none⟩) n d, .slice N k e])
       refine (CLT.out _ (HX16.out.trans (by repeat (first | (with_reducible exact Ext.refl _) | (with_reducible assumption) | refine Ext.drew ?_ | refine Ext.drewN ?_ _ | refine Ext.alloc ?_ _)))).mono ?_
       rintro ed wd ⟨Ld, cd, rfl, hOd, hd⟩
       have xd : Ext wq wd := Ext.trans (by repeat (first | (with_reducible exact Ext.refl _) | (with_reducible assumption) | refine Ext.drew ?_ | refine Ext.drewN ?_ _ | refine Ext.alloc ?_ _)) hd)
    | (go_at_call_of 19 (Value.agg #[.slice Ab jn cb, .slice Bb jn db, .slice Nb jk eb])
       refine (CLJ.out _ _ _ _ _ _ _ (HJ16.out.ext (by repeat (first | (with_reducible exact Ext.refl _) | (with_reducible assumption) | refine Ext.drew ?_ | refine Ext.drewN ?_ _ | refine Ext.alloc ?_ _)))).mono ?_
       rintro ed we ⟨Le, ce, rfl, hOe, he⟩
       have xe : Ext wq we := Ext.trans (by repeat (first | (with_reducible exact Ext.refl _) | (with_reducible assumption) | refine Ext.drew ?_ | refine Ext.drewN ?_ _ | refine Ext.alloc ?_ _)) he)
    | (go_at_call 23
       refine (pchanged15_to lt lj lt.length lj.length Ld Le cd ce 0 0 _ (hOd.rd.ext (by repeat (first | (with_reducible exact Ext.refl _) | (with_reducible assumption) | refine Ext.drew ?_ | refine Ext.drewN ?_ _ | refine Ext.alloc ?_ _))) rfl (hOe.rd.ext (by repeat (first | (with_reducible exact Ext.refl _) | (with_reducible assumption) | refine Ext.drew ?_ | refine Ext.drewN ?_ _ | refine Ext.alloc ?_ _))) rfl HLL.out.1 HLL.out.2.1 HLL.out.2.2 rfl).mono ?_
       rintro ed wf ⟨rfl, hf⟩
       have xf : Ext wq wf := Ext.trans (by repeat (first | (with_reducible exact Ext.refl _) | (with_reducible assumption) | refine Ext.drew ?_ | refine Ext.drewN ?_ _ | refine Ext.alloc ?_ _)) hf)
    | fail)
  all_goals go_wp2_with fail
  all_goals go_ret
  all_goals exact ⟨ret_bool (by first | rfl | simp), HX16.out.trans xf⟩
end Go.Proofs.Ytllpfegnpakadaa
