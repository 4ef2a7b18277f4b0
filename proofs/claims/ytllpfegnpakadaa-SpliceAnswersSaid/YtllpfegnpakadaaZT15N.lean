/- SpliceAnswers: the law returns true. Written by wip/mk_t15law.py. -/
import Derived.Test.YtllpfegnpakadaaJ6
set_option linter.unusedVariables false
set_option linter.unusedSimpArgs false
set_option linter.unnecessarySimpa false
namespace Go.Proofs.Ytllpfegnpakadaa
open Go.BigFrame
open Go.RowKit Go.Proofs.Ytllpfegnpakadaa.Plain

set_option maxHeartbeats 12800000 in
set_option maxRecDepth 100000 in
theorem spliceanswers_any (a b : Tw) (A B N A' B' N' : Option Addr) (c d e c' d' e' : Nat) (x y : Int) (W : World) (hT : TwR W a A B N c d e) (hU : TwR W b A' B' N' c' d' e') (hx : in64 x) (hy : in64 y) :
    Calls Try.prog 3 #[towV A a.tokens.length c B a.heights.length d N a.next.length e, towV A' b.tokens.length c' B' b.heights.length d' N' b.next.length e', .agg #[.int .i64 x, .int .i64 y]] W fun ed w' => ed = .returned (.bool true) ∧ Ext W w' := by
  have HT := Lib.hid hT
  have HU := Lib.hid hU
  have HXY := Lib.hid (And.intro hx hy)
  clear hT hU hx hy
  obtain ⟨n, hn⟩ : ∃ n, a.tokens.length = n := ⟨_, rfl⟩
  obtain ⟨m, hm⟩ : ∃ n, a.heights.length = n := ⟨_, rfl⟩
  obtain ⟨k, hk⟩ : ∃ n, a.next.length = n := ⟨_, rfl⟩
  obtain ⟨n', hn'⟩ : ∃ n, b.tokens.length = n := ⟨_, rfl⟩
  obtain ⟨m', hm'⟩ : ∃ n, b.heights.length = n := ⟨_, rfl⟩
  obtain ⟨k', hk'⟩ : ∃ n, b.next.length = n := ⟨_, rfl⟩
  obtain ⟨⟨tp, ok⟩, hp⟩ : ∃ r, joinT a x b y = r := ⟨_, rfl⟩
  obtain ⟨⟨tr, ts, gd⟩, hr⟩ : ∃ r, cutT a x y = r := ⟨_, rfl⟩
  obtain ⟨⟨tf, fi⟩, hf⟩ : ∃ r, fromT a x = r := ⟨_, rfl⟩
  obtain ⟨ll, hl⟩ : ∃ r, linksP a = r := ⟨_, rfl⟩
  obtain ⟨hv, hh⟩ : ∃ r, heightP a x = r := ⟨_, rfl⟩
  obtain ⟨pn, hpn⟩ : ∃ n, tp.tokens.length = n := ⟨_, rfl⟩
  obtain ⟨ph, hph⟩ : ∃ n, tp.heights.length = n := ⟨_, rfl⟩
  obtain ⟨pk, hpk⟩ : ∃ n, tp.next.length = n := ⟨_, rfl⟩
  obtain ⟨rn, hrn⟩ : ∃ n, tr.tokens.length = n := ⟨_, rfl⟩
  obtain ⟨rh, hrh⟩ : ∃ n, tr.heights.length = n := ⟨_, rfl⟩
  obtain ⟨rk, hrk⟩ : ∃ n, tr.next.length = n := ⟨_, rfl⟩
  obtain ⟨sn, hsn⟩ : ∃ n, ts.tokens.length = n := ⟨_, rfl⟩
  obtain ⟨sh, hsh⟩ : ∃ n, ts.heights.length = n := ⟨_, rfl⟩
  obtain ⟨sk, hsk⟩ : ∃ n, ts.next.length = n := ⟨_, rfl⟩
  obtain ⟨fn, hfn⟩ : ∃ n, tf.tokens.length = n := ⟨_, rfl⟩
  obtain ⟨fh, hfh⟩ : ∃ n, tf.heights.length = n := ⟨_, rfl⟩
  obtain ⟨fk, hfk⟩ : ∃ n, tf.next.length = n := ⟨_, rfl⟩
  have CGA : Hid (∀ w', Ext W w' → Calls Try.prog 10 #[towV A n c B m d N k e, .int .i64 150] w' fun ed w'' => ∃ b, ed = .returned (.bool b) ∧ Ext w' w'') := Lib.hid fun w' hE => by
    have h := rgreat14_any a 150 A B N c d e w' (HT.out.ext hE)
    rw [hn, hm, hk] at h
    exact h
  have CGB : Hid (∀ w', Ext W w' → Calls Try.prog 10 #[towV A' n' c' B' m' d' N' k' e', .int .i64 150] w' fun ed w'' => ∃ b, ed = .returned (.bool b) ∧ Ext w' w'') := Lib.hid fun w' hE => by
    have h := rgreat14_any b 150 A' B' N' c' d' e' w' (HU.out.ext hE)
    rw [hn', hm', hk'] at h
    exact h
  have CJP : Hid (∀ w', Ext W w' → Calls Try.prog 11 #[towV A n c B m d N k e, .int .i64 x, towV A' n' c' B' m' d' N' k' e', .int .i64 y] w' fun ed w'' => ∃ (A B N : Option Addr) (c d e : Nat), ed = .returned (.tuple #[towV A pn c B ph d N pk e, .bool ok]) ∧ TwR w'' tp A B N c d e ∧ Ext w' w'') := Lib.hid fun w' hE => by
    have h := pjoin15_any a b x y A B N c d e A' B' N' c' d' e' w' (HT.out.ext hE) (HU.out.ext hE) HXY.out.1 HXY.out.2
    rw [hn, hm, hk, hn', hm', hk', hp] at h
    refine h.mono fun ed w'' h8 => ?_
    obtain ⟨A, B, N, c, d, e, k1, k2, k3⟩ := h8.r
    simp only at k1 k2
    rw [hpn, hph, hpk] at k1
    exact ⟨A, B, N, c, d, e, k1, k2, k3⟩
  have CCP : Hid (∀ w', Ext W w' → Calls Try.prog 13 #[towV A n c B m d N k e, .int .i64 x, .int .i64 y] w' fun ed w'' => ∃ (A B N A' B' N' : Option Addr) (c d e c' d' e' : Nat), ed = .returned (.tuple #[towV A rn c B rh d N rk e, towV A' sn c' B' sh d' N' sk e', .bool gd]) ∧ TwR w'' tr A B N c d e ∧ TwR w'' ts A' B' N' c' d' e' ∧ Ext w' w'') := Lib.hid fun w' hE => by
    have h := pcut15_any a x y A B N c d e w' (HT.out.ext hE) HXY.out.1 HXY.out.2
    rw [hn, hm, hk, hr] at h
    refine h.mono fun ed w'' h8 => ?_
    obtain ⟨A, B, N, A', B', N', c, d, e, c', d', e', k1, k2, k3, k4⟩ := h8.r
    simp only at k1 k2 k3
    rw [hrn, hrh, hrk, hsn, hsh, hsk] at k1
    exact ⟨A, B, N, A', B', N', c, d, e, c', d', e', k1, k2, k3, k4⟩
  have CFP : Hid (∀ w', Ext W w' → Calls Try.prog 15 #[towV A n c B m d N k e, .int .i64 x] w' fun ed w'' => ∃ (A B N : Option Addr) (c d e : Nat), ed = .returned (.tuple #[towV A fn c B fh d N fk e, .bool fi]) ∧ TwR w'' tf A B N c d e ∧ Ext w' w'') := Lib.hid fun w' hE => by
    have h := pfrom15_any a x A B N c d e w' (HT.out.ext hE) HXY.out.1
    rw [hn, hm, hk, hf] at h
    refine h.mono fun ed w'' h8 => ?_
    obtain ⟨A, B, N, c, d, e, k1, k2, k3⟩ := h8.r
    simp only at k1 k2
    rw [hfn, hfh, hfk] at k1
    exact ⟨A, B, N, c, d, e, k1, k2, k3⟩
  have CLP : Hid (∀ w', Ext W w' → Calls Try.prog 19 #[towV A n c B m d N k e] w' fun ed w'' => ∃ (L : Option Addr) (lc : Nat), ed = .returned (.slice L ll.length lc) ∧ Rd kLink w'' (.slice L ll.length lc) ll ∧ Ext w' w'') := Lib.hid fun w' hE => by
    have h := plinks15_any a A B N c d e w' (HT.out.ext hE)
    rw [hn, hm, hk, hl] at h
    refine h.mono fun ed w'' h8 => ?_
    obtain ⟨L, lc, k1, k2, k3⟩ := h8
    exact ⟨L, lc, k1, k2.rd, k3⟩
  have CHP : Hid (∀ w', Ext W w' → Calls Try.prog 21 #[towV A n c B m d N k e, .int .i64 x] w' fun ed w'' => ed = .returned (.int .i64 hv) ∧ Ext w' w'') := Lib.hid fun w' hE => by
    have h := pheight15_any a x A B N c d e w' (HT.out.ext hE) HXY.out.1
    rw [hn, hm, hk, hh] at h
    exact h
  have CJR : Hid (∀ w', Ext W w' → Calls Try.prog 12 #[towV A n c B m d N k e, .int .i64 x, towV A' n' c' B' m' d' N' k' e', .int .i64 y] w' fun ed w'' => ∃ (A B N : Option Addr) (c d e : Nat), ed = .returned (.tuple #[towV A pn c B ph d N pk e, .bool ok]) ∧ TwR w'' tp A B N c d e ∧ Ext w' w'') := Lib.hid fun w' hE => by
    have h := rjoin15_any a b x y A B N A' B' N' c d e c' d' e' w' (HT.out.ext hE) (HU.out.ext hE)
    rw [hn, hm, hk, hn', hm', hk', hp] at h
    refine h.mono fun ed w'' h8 => ?_
    obtain ⟨A, B, N, c, d, e, k1, k2, k3⟩ := h8.r
    simp only at k1 k2
    rw [hpn, hph, hpk] at k1
    exact ⟨A, B, N, c, d, e, k1, k2, k3⟩
  have CCR : Hid (∀ w', Ext W w' → Calls Try.prog 14 #[towV A n c B m d N k e, .int .i64 x, .int .i64 y] w' fun ed w'' => ∃ (A B N A' B' N' : Option Addr) (c d e c' d' e' : Nat), ed = .returned (.tuple #[towV A rn c B rh d N rk e, towV A' sn c' B' sh d' N' sk e', .bool gd]) ∧ TwR w'' tr A B N c d e ∧ TwR w'' ts A' B' N' c' d' e' ∧ Ext w' w'') := Lib.hid fun w' hE => by
    have h := rcut15_any a x y A B N c d e w' (HT.out.ext hE)
    rw [hn, hm, hk, hr] at h
    refine h.mono fun ed w'' h8 => ?_
    obtain ⟨A, B, N, A', B', N', c, d, e, c', d', e', k1, k2, k3, k4⟩ := h8.r
    simp only at k1 k2 k3
    rw [hrn, hrh, hrk, hsn, hsh, hsk] at k1
    exact ⟨A, B, N, A', B', N', c, d, e, c', d', e', k1, k2, k3, k4⟩
  have CFR : Hid (∀ w', Ext W w' → Calls Try.prog 16 #[towV A n c B m d N k e, .int .i64 x] w' fun ed w'' => ∃ (A B N : Option Addr) (c d e : Nat), ed = .returned (.tuple #[towV A fn c B fh d N fk e, .bool fi]) ∧ TwR w'' tf A B N c d e ∧ Ext w' w'') := Lib.hid fun w' hE => by
    have h := rfrom15_any a x A B N c d e w' (HT.out.ext hE)
    rw [hn, hm, hk, hf] at h
    refine h.mono fun ed w'' h8 => ?_
    obtain ⟨A, B, N, c, d, e, k1, k2, k3⟩ := h8.r
    simp only at k1 k2
    rw [hfn, hfh, hfk] at k1
    exact ⟨A, B, N, c, d, e, k1, k2, k3⟩
  have CLR : Hid (∀ w', Ext W w' → Calls Try.prog 20 #[towV A n c B m d N k e] w' fun ed w'' => ∃ (L : Option Addr) (lc : Nat), ed = .returned (.slice L ll.length lc) ∧ Rd kLink w'' (.slice L ll.length lc) ll ∧ Ext w' w'') := Lib.hid fun w' hE => by
    have h := rlinks15_any a A B N c d e w' (HT.out.ext hE)
    rw [hn, hm, hk, hl] at h
    refine h.mono fun ed w'' h8 => ?_
    obtain ⟨L, lc, k1, k2, k3⟩ := h8
    exact ⟨L, lc, k1, k2.rd, k3⟩
  have CHR : Hid (∀ w', Ext W w' → Calls Try.prog 22 #[towV A n c B m d N k e, .int .i64 x] w' fun ed w'' => ed = .returned (.int .i64 hv) ∧ Ext w' w'') := Lib.hid fun w' hE => by
    have h := rheight15_any a x A B N c d e w' (HT.out.ext hE)
    rw [hn, hm, hk, hh] at h
    exact h
  have CSp : Hid (∀ (w' : World) (A B N A' B' N' : Option Addr) (c d e c' d' e' : Nat), TwR w' tp A B N c d e → TwR w' tp A' B' N' c' d' e' → Calls Try.prog 17 #[towV A pn c B ph d N pk e, towV A' pn c' B' ph d' N' pk e'] w' fun ed w'' => ed = .returned (.bool true) ∧ Ext w' w'') := Lib.hid fun w' A B N A' B' N' c d e c' d' e' hF hE => by
    have h := rsame14_any tp tp A B N A' B' N' c d e c' d' e' w' hF hE
    rw [hpn, hph, hpk, decide_eq_true rfl] at h
    exact h
  have CSr : Hid (∀ (w' : World) (A B N A' B' N' : Option Addr) (c d e c' d' e' : Nat), TwR w' tr A B N c d e → TwR w' tr A' B' N' c' d' e' → Calls Try.prog 17 #[towV A rn c B rh d N rk e, towV A' rn c' B' rh d' N' rk e'] w' fun ed w'' => ed = .returned (.bool true) ∧ Ext w' w'') := Lib.hid fun w' A B N A' B' N' c d e c' d' e' hF hE => by
    have h := rsame14_any tr tr A B N A' B' N' c d e c' d' e' w' hF hE
    rw [hrn, hrh, hrk, decide_eq_true rfl] at h
    exact h
  have CSs : Hid (∀ (w' : World) (A B N A' B' N' : Option Addr) (c d e c' d' e' : Nat), TwR w' ts A B N c d e → TwR w' ts A' B' N' c' d' e' → Calls Try.prog 17 #[towV A sn c B sh d N sk e, towV A' sn c' B' sh d' N' sk e'] w' fun ed w'' => ed = .returned (.bool true) ∧ Ext w' w'') := Lib.hid fun w' A B N A' B' N' c d e c' d' e' hF hE => by
    have h := rsame14_any ts ts A B N A' B' N' c d e c' d' e' w' hF hE
    rw [hsn, hsh, hsk, decide_eq_true rfl] at h
    exact h
  have CSf : Hid (∀ (w' : World) (A B N A' B' N' : Option Addr) (c d e c' d' e' : Nat), TwR w' tf A B N c d e → TwR w' tf A' B' N' c' d' e' → Calls Try.prog 17 #[towV A fn c B fh d N fk e, towV A' fn c' B' fh d' N' fk e'] w' fun ed w'' => ed = .returned (.bool true) ∧ Ext w' w'') := Lib.hid fun w' A B N A' B' N' c d e c' d' e' hF hE => by
    have h := rsame14_any tf tf A B N A' B' N' c d e c' d' e' w' hF hE
    rw [hfn, hfh, hfk, decide_eq_true rfl] at h
    exact h
  have CS5 : Hid (∀ (w' : World) (L R : Option Addr) (lc rc : Nat), Rd kLink w' (.slice L ll.length lc) ll → Rd kLink w' (.slice R ll.length rc) ll → Calls Try.prog 18 #[.slice L ll.length lc, .slice R ll.length rc] w' fun ed w'' => ed = .returned (.bool true) ∧ Ext w' w'') := Lib.hid fun w' L R lc rc h1 h2 => by
    have h := rsame15_any ll ll L R lc rc w' h1 h2
    rw [decide_eq_true rfl] at h
    exact h
  rw [hn, hm, hk, hn', hm', hk']
  obtain ⟨q5, hq5⟩ : ∃ n, ll.length = n := ⟨_, rfl⟩
  rw [hq5] at CLP CLR CS5
  clear hn hm hk hn' hm' hk' hp hr hf hl hh hq5 hpn hph hpk hrn hrh hrk hsn hsh hsk hfn hfh hfk
  go_enter Try.func3, Try.ntmps3
  go_wp2_with fail
  refine (splicealive_any _).mono ?_
  rintro ed w1 ⟨rfl, hE1⟩
  have q0 : w1.cell? ⟨W.heap.size, 0, none⟩ = some (.slice A n c) := Ext.cell hE1 (by go_simp)
  have q1 : w1.cell? ⟨W.heap.size, 1, none⟩ = some (.slice B m d) := Ext.cell hE1 (by go_simp)
  have q2 : w1.cell? ⟨W.heap.size, 2, none⟩ = some (.slice N k e) := Ext.cell hE1 (by go_simp)
  have qf : ∀ o, w1.frozen? ⟨W.heap.size, o, none⟩ = false := fun o => (Below.frozen hE1 (p := ⟨W.heap.size, o, none⟩) (by first | omega | (simp; omega) | simp)).trans (by go_simp)
  have s0 : w1.cell? ⟨(W.heap.size+1), 0, none⟩ = some (.slice A' n' c') := Ext.cell hE1 (by go_simp)
  have s1 : w1.cell? ⟨(W.heap.size+1), 1, none⟩ = some (.slice B' m' d') := Ext.cell hE1 (by go_simp)
  have s2 : w1.cell? ⟨(W.heap.size+1), 2, none⟩ = some (.slice N' k' e') := Ext.cell hE1 (by go_simp)
  have sf : ∀ o, w1.frozen? ⟨(W.heap.size+1), o, none⟩ = false := fun o => (Below.frozen hE1 (p := ⟨(W.heap.size+1), o, none⟩) (by first | omega | (simp; omega) | simp)).trans (by go_simp)
  have v0 : w1.cell? ⟨(W.heap.size+1+1), 0, none⟩ = some (.int .i64 x) := Ext.cell hE1 (by go_simp)
  have v1 : w1.cell? ⟨(W.heap.size+1+1), 1, none⟩ = some (.int .i64 y) := Ext.cell hE1 (by go_simp)
  have vf : ∀ o, w1.frozen? ⟨(W.heap.size+1+1), o, none⟩ = false := fun o => (Below.frozen hE1 (p := ⟨(W.heap.size+1+1), o, none⟩) (by first | omega | (simp; omega) | simp)).trans (by go_simp)
  have HX1 := Lib.hid (((((Ext.refl W).alloc (.cells #[.slice A n c, .slice B m d, .slice N k e] 25)).alloc (.cells #[.slice A' n' c', .slice B' m' d', .slice N' k' e'] 25)).alloc (.cells #[.int .i64 x, .int .i64 y] 26)).trans hE1)
  clear hE1 qf sf vf
  have lq1 : W.heap.size < w1.heap.size := World.block_lt_of_cell? _ _ q0
  have ls1 : W.heap.size + 1 < w1.heap.size := World.block_lt_of_cell? _ _ s0
  have lv1 : W.heap.size + 1 + 1 < w1.heap.size := World.block_lt_of_cell? _ _ v0
  go_wp2_with fail
  refine (CGA.out _ HX1.out).mono ?_
  rintro ed w2 ⟨ga, rfl, hE2⟩
  replace q0 := Ext.cell hE2 q0
  replace q1 := Ext.cell hE2 q1
  replace q2 := Ext.cell hE2 q2
  replace s0 := Ext.cell hE2 s0
  replace s1 := Ext.cell hE2 s1
  replace s2 := Ext.cell hE2 s2
  replace v0 := Ext.cell hE2 v0
  replace v1 := Ext.cell hE2 v1
  have lq2 : W.heap.size < w2.heap.size := World.block_lt_of_cell? _ _ q0
  have ls2 : W.heap.size + 1 < w2.heap.size := World.block_lt_of_cell? _ _ s0
  have lv2 : W.heap.size + 1 + 1 < w2.heap.size := World.block_lt_of_cell? _ _ v0
  have HX2 := Lib.hid (HX1.out.trans hE2)
  clear hE2 lq1 ls1 lv1 HX1 CGA
  cases ga with
  | true =>
    go_wp2_with fail
    go_ret
    exact ⟨ret_bool (by first | rfl | simp), HX2.out⟩
  | false =>
  go_wp2_with fail
  refine (CGB.out _ HX2.out).mono ?_
  rintro ed w3 ⟨gb, rfl, hE3⟩
  replace q0 := Ext.cell hE3 q0
  replace q1 := Ext.cell hE3 q1
  replace q2 := Ext.cell hE3 q2
  replace s0 := Ext.cell hE3 s0
  replace s1 := Ext.cell hE3 s1
  replace s2 := Ext.cell hE3 s2
  replace v0 := Ext.cell hE3 v0
  replace v1 := Ext.cell hE3 v1
  have lq3 : W.heap.size < w3.heap.size := World.block_lt_of_cell? _ _ q0
  have ls3 : W.heap.size + 1 < w3.heap.size := World.block_lt_of_cell? _ _ s0
  have lv3 : W.heap.size + 1 + 1 < w3.heap.size := World.block_lt_of_cell? _ _ v0
  have HX3 := Lib.hid (HX2.out.trans hE3)
  clear hE3 lq2 ls2 lv2 HX2 CGB
  cases gb with
  | true =>
    go_wp2_with fail
    go_ret
    exact ⟨ret_bool (by first | rfl | simp), HX3.out⟩
  | false =>
  go_wp2_with fail
  have KS : Hid (∀ w', Ext w3 w' → w'.cell? ⟨W.heap.size + 1 + 1, 0, none⟩ = some (.int .i64 x) ∧ w'.cell? ⟨W.heap.size + 1 + 1, 1, none⟩ = some (.int .i64 y)) := Lib.hid fun w' hE => ⟨hE.cell v0, hE.cell v1⟩
  refine wp_region_class (Ext w3) (by kernel_rfl) (by kernel_rfl) (Ext.refl _).drew ?_
  try simp only [List.append_eq, List.cons_append, List.nil_append]
  repeat (first
    | go_big_quiet_skip
    | (go_big_quiet_want
       first
       | (go_big_quiet_op; go_big_quiet_on)
       | (unfold Oper.quiet
          apply Exists.intro
          refine ⟨fun w' hC => ?_, ?_⟩
          · (obtain ⟨k1, k2⟩ := KS.out w' hC
             unfold Oper.quietAt
             go_simp
             first
             | exact rfl)
          go_simp
          go_big_quiet_on)))
  refine wpQuiet_nil ?_
  intro w4 hC4
  have HX4 := Lib.hid (HX3.out.trans hC4)
  replace q0 := Ext.cell hC4 q0
  replace q1 := Ext.cell hC4 q1
  replace q2 := Ext.cell hC4 q2
  replace s0 := Ext.cell hC4 s0
  replace s1 := Ext.cell hC4 s1
  replace s2 := Ext.cell hC4 s2
  have lq4 : W.heap.size < w4.heap.size := World.block_lt_of_cell? _ _ q0
  have ls4 : W.heap.size + 1 < w4.heap.size := World.block_lt_of_cell? _ _ s0
  clear hC4 KS HX3 v0 v1 lq3 ls3 lv3
  go_wp2_with fail
  refine (CJP.out _ HX4.out).mono ?_
  rintro ed w5 ⟨A5, B5, N5, c5, d5, e5, rfl, hT5, hE5⟩
  replace q0 := Ext.cell hE5 q0
  replace q1 := Ext.cell hE5 q1
  replace q2 := Ext.cell hE5 q2
  replace s0 := Ext.cell hE5 s0
  replace s1 := Ext.cell hE5 s1
  replace s2 := Ext.cell hE5 s2
  have lb5_0 : W.heap.size < w5.heap.size := by have := Ext.size hE5; omega
  have lb5_1 : W.heap.size + 1 < w5.heap.size := by have := Ext.size hE5; omega
  have HX5 := Lib.hid (HX4.out.trans hE5)
  have Hrp_5 := Lib.hid (hT5)
  clear hE5 HX4 lq4 ls4
  go_wp2_with fail
  refine (CJR.out _ (HX5.out.trans ((Ext.refl _).alloc _))).mono ?_
  rintro ed w6 ⟨A6, B6, N6, c6, d6, e6, rfl, hT6, hE6⟩
  have hF6 := ((Ext.refl w5).alloc (.cells #[.slice A5 pn c5, .slice B5 ph d5, .slice N5 pk e5] 25)).trans hE6
  replace q0 := Ext.cell hF6 q0
  replace q1 := Ext.cell hF6 q1
  replace q2 := Ext.cell hF6 q2
  replace s0 := Ext.cell hF6 s0
  replace s1 := Ext.cell hF6 s1
  replace s2 := Ext.cell hF6 s2
  have lb6_0 : W.heap.size < w6.heap.size := by have := Ext.size hF6; omega
  have lb6_1 : W.heap.size + 1 < w6.heap.size := by have := Ext.size hF6; omega
  have HX6 := Lib.hid (HX5.out.trans hF6)
  have Hrp_6 := Lib.hid (Hrp_5.out.ext hF6)
  have Hrq_6 := Lib.hid (hT6)
  have bp0 : w6.cell? ⟨w5.heap.size, 0, none⟩ = some (.slice A5 pn c5) := Ext.cell hE6 (by go_simp)
  have bp1 : w6.cell? ⟨w5.heap.size, 1, none⟩ = some (.slice B5 ph d5) := Ext.cell hE6 (by go_simp)
  have bp2 : w6.cell? ⟨w5.heap.size, 2, none⟩ = some (.slice N5 pk e5) := Ext.cell hE6 (by go_simp)
  have lb_bp : w5.heap.size < w6.heap.size := World.block_lt_of_cell? _ _ bp0
  clear hE6 hF6 HX5 Hrp_5 lb5_0 lb5_1
  go_wp2_with fail
  refine (CCP.out _ (HX6.out.trans ((Ext.refl _).alloc _))).mono ?_
  rintro ed w7 ⟨A7, B7, N7, A79, B79, N79, c7, d7, e7, c79, d79, e79, rfl, hT7, hT79, hE7⟩
  have hF7 := ((Ext.refl w6).alloc (.cells #[.slice A6 pn c6, .slice B6 ph d6, .slice N6 pk e6] 25)).trans hE7
  replace q0 := Ext.cell hF7 q0
  replace q1 := Ext.cell hF7 q1
  replace q2 := Ext.cell hF7 q2
  replace s0 := Ext.cell hF7 s0
  replace s1 := Ext.cell hF7 s1
  replace s2 := Ext.cell hF7 s2
  replace bp0 := Ext.cell hF7 bp0
  replace bp1 := Ext.cell hF7 bp1
  replace bp2 := Ext.cell hF7 bp2
  have lb7_0 : W.heap.size < w7.heap.size := by have := Ext.size hF7; omega
  have lb7_1 : W.heap.size + 1 < w7.heap.size := by have := Ext.size hF7; omega
  have lb7_2 : w5.heap.size < w7.heap.size := by have := Ext.size hF7; omega
  have HX7 := Lib.hid (HX6.out.trans hF7)
  have Hrp_7 := Lib.hid (Hrp_6.out.ext hF7)
  have Hrq_7 := Lib.hid (Hrq_6.out.ext hF7)
  have Hrr_7 := Lib.hid (hT7)
  have Hrs_7 := Lib.hid (hT79)
  have bq0 : w7.cell? ⟨w6.heap.size, 0, none⟩ = some (.slice A6 pn c6) := Ext.cell hE7 (by go_simp)
  have bq1 : w7.cell? ⟨w6.heap.size, 1, none⟩ = some (.slice B6 ph d6) := Ext.cell hE7 (by go_simp)
  have bq2 : w7.cell? ⟨w6.heap.size, 2, none⟩ = some (.slice N6 pk e6) := Ext.cell hE7 (by go_simp)
  have lb_bq : w6.heap.size < w7.heap.size := World.block_lt_of_cell? _ _ bq0
  clear hE7 hF7 HX6 Hrp_6 Hrq_6 lb6_0 lb6_1 lb_bp
  go_wp2_with fail
  refine (CCR.out _ (HX7.out.trans (((Ext.refl _).alloc _).alloc _))).mono ?_
  rintro ed w8 ⟨A8, B8, N8, A89, B89, N89, c8, d8, e8, c89, d89, e89, rfl, hT8, hT89, hE8⟩
  have hF8 := (((Ext.refl w7).alloc (.cells #[.slice A7 rn c7, .slice B7 rh d7, .slice N7 rk e7] 25)).alloc (.cells #[.slice A79 sn c79, .slice B79 sh d79, .slice N79 sk e79] 25)).trans hE8
  replace q0 := Ext.cell hF8 q0
  replace q1 := Ext.cell hF8 q1
  replace q2 := Ext.cell hF8 q2
  replace s0 := Ext.cell hF8 s0
  replace s1 := Ext.cell hF8 s1
  replace s2 := Ext.cell hF8 s2
  replace bp0 := Ext.cell hF8 bp0
  replace bp1 := Ext.cell hF8 bp1
  replace bp2 := Ext.cell hF8 bp2
  replace bq0 := Ext.cell hF8 bq0
  replace bq1 := Ext.cell hF8 bq1
  replace bq2 := Ext.cell hF8 bq2
  have lb8_0 : W.heap.size < w8.heap.size := by have := Ext.size hF8; omega
  have lb8_1 : W.heap.size + 1 < w8.heap.size := by have := Ext.size hF8; omega
  have lb8_2 : w5.heap.size < w8.heap.size := by have := Ext.size hF8; omega
  have lb8_3 : w6.heap.size < w8.heap.size := by have := Ext.size hF8; omega
  have HX8 := Lib.hid (HX7.out.trans hF8)
  have Hrp_8 := Lib.hid (Hrp_7.out.ext hF8)
  have Hrq_8 := Lib.hid (Hrq_7.out.ext hF8)
  have Hrr_8 := Lib.hid (Hrr_7.out.ext hF8)
  have Hrs_8 := Lib.hid (Hrs_7.out.ext hF8)
  have Hrt_8 := Lib.hid (hT8)
  have Hru_8 := Lib.hid (hT89)
  have br0 : w8.cell? ⟨w7.heap.size, 0, none⟩ = some (.slice A7 rn c7) := Ext.cell hE8 (by go_simp)
  have br1 : w8.cell? ⟨w7.heap.size, 1, none⟩ = some (.slice B7 rh d7) := Ext.cell hE8 (by go_simp)
  have br2 : w8.cell? ⟨w7.heap.size, 2, none⟩ = some (.slice N7 rk e7) := Ext.cell hE8 (by go_simp)
  have lb_br : w7.heap.size < w8.heap.size := World.block_lt_of_cell? _ _ br0
  have bs0 : w8.cell? ⟨(w7.heap.size+1), 0, none⟩ = some (.slice A79 sn c79) := Ext.cell hE8 (by go_simp)
  have bs1 : w8.cell? ⟨(w7.heap.size+1), 1, none⟩ = some (.slice B79 sh d79) := Ext.cell hE8 (by go_simp)
  have bs2 : w8.cell? ⟨(w7.heap.size+1), 2, none⟩ = some (.slice N79 sk e79) := Ext.cell hE8 (by go_simp)
  have lb_bs : (w7.heap.size+1) < w8.heap.size := World.block_lt_of_cell? _ _ bs0
  clear hE8 hF8 HX7 Hrp_7 Hrq_7 Hrr_7 Hrs_7 lb7_0 lb7_1 lb7_2 lb_bq
  go_wp2_with fail
  refine (CFP.out _ (HX8.out.trans (((Ext.refl _).alloc _).alloc _))).mono ?_
  rintro ed w9 ⟨A9, B9, N9, c9, d9, e9, rfl, hT9, hE9⟩
  have hF9 := (((Ext.refl w8).alloc (.cells #[.slice A8 rn c8, .slice B8 rh d8, .slice N8 rk e8] 25)).alloc (.cells #[.slice A89 sn c89, .slice B89 sh d89, .slice N89 sk e89] 25)).trans hE9
  replace q0 := Ext.cell hF9 q0
  replace q1 := Ext.cell hF9 q1
  replace q2 := Ext.cell hF9 q2
  replace s0 := Ext.cell hF9 s0
  replace s1 := Ext.cell hF9 s1
  replace s2 := Ext.cell hF9 s2
  replace bp0 := Ext.cell hF9 bp0
  replace bp1 := Ext.cell hF9 bp1
  replace bp2 := Ext.cell hF9 bp2
  replace bq0 := Ext.cell hF9 bq0
  replace bq1 := Ext.cell hF9 bq1
  replace bq2 := Ext.cell hF9 bq2
  replace br0 := Ext.cell hF9 br0
  replace br1 := Ext.cell hF9 br1
  replace br2 := Ext.cell hF9 br2
  replace bs0 := Ext.cell hF9 bs0
  replace bs1 := Ext.cell hF9 bs1
  replace bs2 := Ext.cell hF9 bs2
  have lb9_0 : W.heap.size < w9.heap.size := by have := Ext.size hF9; omega
  have lb9_1 : W.heap.size + 1 < w9.heap.size := by have := Ext.size hF9; omega
  have lb9_2 : w5.heap.size < w9.heap.size := by have := Ext.size hF9; omega
  have lb9_3 : w6.heap.size < w9.heap.size := by have := Ext.size hF9; omega
  have lb9_4 : w7.heap.size < w9.heap.size := by have := Ext.size hF9; omega
  have lb9_5 : (w7.heap.size+1) < w9.heap.size := by have := Ext.size hF9; omega
  have HX9 := Lib.hid (HX8.out.trans hF9)
  have Hrp_9 := Lib.hid (Hrp_8.out.ext hF9)
  have Hrq_9 := Lib.hid (Hrq_8.out.ext hF9)
  have Hrr_9 := Lib.hid (Hrr_8.out.ext hF9)
  have Hrs_9 := Lib.hid (Hrs_8.out.ext hF9)
  have Hrt_9 := Lib.hid (Hrt_8.out.ext hF9)
  have Hru_9 := Lib.hid (Hru_8.out.ext hF9)
  have Hrf_9 := Lib.hid (hT9)
  have bt0 : w9.cell? ⟨w8.heap.size, 0, none⟩ = some (.slice A8 rn c8) := Ext.cell hE9 (by go_simp)
  have bt1 : w9.cell? ⟨w8.heap.size, 1, none⟩ = some (.slice B8 rh d8) := Ext.cell hE9 (by go_simp)
  have bt2 : w9.cell? ⟨w8.heap.size, 2, none⟩ = some (.slice N8 rk e8) := Ext.cell hE9 (by go_simp)
  have lb_bt : w8.heap.size < w9.heap.size := World.block_lt_of_cell? _ _ bt0
  have bu0 : w9.cell? ⟨(w8.heap.size+1), 0, none⟩ = some (.slice A89 sn c89) := Ext.cell hE9 (by go_simp)
  have bu1 : w9.cell? ⟨(w8.heap.size+1), 1, none⟩ = some (.slice B89 sh d89) := Ext.cell hE9 (by go_simp)
  have bu2 : w9.cell? ⟨(w8.heap.size+1), 2, none⟩ = some (.slice N89 sk e89) := Ext.cell hE9 (by go_simp)
  have lb_bu : (w8.heap.size+1) < w9.heap.size := World.block_lt_of_cell? _ _ bu0
  clear hE9 hF9 HX8 Hrp_8 Hrq_8 Hrr_8 Hrs_8 Hrt_8 Hru_8 lb8_0 lb8_1 lb8_2 lb8_3 lb_br lb_bs
  go_wp2_with fail
  refine (CFR.out _ (HX9.out.trans ((Ext.refl _).alloc _))).mono ?_
  rintro ed w10 ⟨A10, B10, N10, c10, d10, e10, rfl, hT10, hE10⟩
  have hF10 := ((Ext.refl w9).alloc (.cells #[.slice A9 fn c9, .slice B9 fh d9, .slice N9 fk e9] 25)).trans hE10
  replace q0 := Ext.cell hF10 q0
  replace q1 := Ext.cell hF10 q1
  replace q2 := Ext.cell hF10 q2
  replace s0 := Ext.cell hF10 s0
  replace s1 := Ext.cell hF10 s1
  replace s2 := Ext.cell hF10 s2
  replace bp0 := Ext.cell hF10 bp0
  replace bp1 := Ext.cell hF10 bp1
  replace bp2 := Ext.cell hF10 bp2
  replace bq0 := Ext.cell hF10 bq0
  replace bq1 := Ext.cell hF10 bq1
  replace bq2 := Ext.cell hF10 bq2
  replace br0 := Ext.cell hF10 br0
  replace br1 := Ext.cell hF10 br1
  replace br2 := Ext.cell hF10 br2
  replace bs0 := Ext.cell hF10 bs0
  replace bs1 := Ext.cell hF10 bs1
  replace bs2 := Ext.cell hF10 bs2
  replace bt0 := Ext.cell hF10 bt0
  replace bt1 := Ext.cell hF10 bt1
  replace bt2 := Ext.cell hF10 bt2
  replace bu0 := Ext.cell hF10 bu0
  replace bu1 := Ext.cell hF10 bu1
  replace bu2 := Ext.cell hF10 bu2
  have lb10_0 : W.heap.size < w10.heap.size := by have := Ext.size hF10; omega
  have lb10_1 : W.heap.size + 1 < w10.heap.size := by have := Ext.size hF10; omega
  have lb10_2 : w5.heap.size < w10.heap.size := by have := Ext.size hF10; omega
  have lb10_3 : w6.heap.size < w10.heap.size := by have := Ext.size hF10; omega
  have lb10_4 : w7.heap.size < w10.heap.size := by have := Ext.size hF10; omega
  have lb10_5 : (w7.heap.size+1) < w10.heap.size := by have := Ext.size hF10; omega
  have lb10_6 : w8.heap.size < w10.heap.size := by have := Ext.size hF10; omega
  have lb10_7 : (w8.heap.size+1) < w10.heap.size := by have := Ext.size hF10; omega
  have HX10 := Lib.hid (HX9.out.trans hF10)
  have Hrp_10 := Lib.hid (Hrp_9.out.ext hF10)
  have Hrq_10 := Lib.hid (Hrq_9.out.ext hF10)
  have Hrr_10 := Lib.hid (Hrr_9.out.ext hF10)
  have Hrs_10 := Lib.hid (Hrs_9.out.ext hF10)
  have Hrt_10 := Lib.hid (Hrt_9.out.ext hF10)
  have Hru_10 := Lib.hid (Hru_9.out.ext hF10)
  have Hrf_10 := Lib.hid (Hrf_9.out.ext hF10)
  have Hrg_10 := Lib.hid (hT10)
  have bf0 : w10.cell? ⟨w9.heap.size, 0, none⟩ = some (.slice A9 fn c9) := Ext.cell hE10 (by go_simp)
  have bf1 : w10.cell? ⟨w9.heap.size, 1, none⟩ = some (.slice B9 fh d9) := Ext.cell hE10 (by go_simp)
  have bf2 : w10.cell? ⟨w9.heap.size, 2, none⟩ = some (.slice N9 fk e9) := Ext.cell hE10 (by go_simp)
  have lb_bf : w9.heap.size < w10.heap.size := World.block_lt_of_cell? _ _ bf0
  clear hE10 hF10 HX9 Hrp_9 Hrq_9 Hrr_9 Hrs_9 Hrt_9 Hru_9 Hrf_9 lb9_0 lb9_1 lb9_2 lb9_3 lb9_4 lb9_5 lb_bt lb_bu
  go_wp2_with fail
  obtain ⟨wq, hwq⟩ : ∃ wq, w10.alloc (.cells #[.slice A10 fn c10, .slice B10 fh d10, .slice N10 fk e10] 25) = wq := ⟨_, rfl⟩
  have hE11 : Ext w10 wq := by rw [← hwq]; exact (Ext.refl _).alloc _
  have bg0 : wq.cell? ⟨w10.heap.size, 0, none⟩ = some (.slice A10 fn c10) := by rw [← hwq]; clear hwq; go_simp
  have bg1 : wq.cell? ⟨w10.heap.size, 1, none⟩ = some (.slice B10 fh d10) := by rw [← hwq]; clear hwq; go_simp
  have bg2 : wq.cell? ⟨w10.heap.size, 2, none⟩ = some (.slice N10 fk e10) := by rw [← hwq]; clear hwq; go_simp
  rw [hwq]
  replace q0 := Ext.cell hE11 q0
  replace q1 := Ext.cell hE11 q1
  replace q2 := Ext.cell hE11 q2
  replace bp0 := Ext.cell hE11 bp0
  replace bp1 := Ext.cell hE11 bp1
  replace bp2 := Ext.cell hE11 bp2
  replace bq0 := Ext.cell hE11 bq0
  replace bq1 := Ext.cell hE11 bq1
  replace bq2 := Ext.cell hE11 bq2
  replace br0 := Ext.cell hE11 br0
  replace br1 := Ext.cell hE11 br1
  replace br2 := Ext.cell hE11 br2
  replace bs0 := Ext.cell hE11 bs0
  replace bs1 := Ext.cell hE11 bs1
  replace bs2 := Ext.cell hE11 bs2
  replace bt0 := Ext.cell hE11 bt0
  replace bt1 := Ext.cell hE11 bt1
  replace bt2 := Ext.cell hE11 bt2
  replace bu0 := Ext.cell hE11 bu0
  replace bu1 := Ext.cell hE11 bu1
  replace bu2 := Ext.cell hE11 bu2
  replace bf0 := Ext.cell hE11 bf0
  replace bf1 := Ext.cell hE11 bf1
  replace bf2 := Ext.cell hE11 bf2
  have HKR : Hid (∀ w', Ext wq w' → w'.cell? ⟨W.heap.size, 0, none⟩ = some (.slice A n c) ∧ w'.cell? ⟨W.heap.size, 1, none⟩ = some (.slice B m d) ∧ w'.cell? ⟨W.heap.size, 2, none⟩ = some (.slice N k e) ∧ w'.cell? ⟨w5.heap.size, 0, none⟩ = some (.slice A5 pn c5) ∧ w'.cell? ⟨w5.heap.size, 1, none⟩ = some (.slice B5 ph d5) ∧ w'.cell? ⟨w5.heap.size, 2, none⟩ = some (.slice N5 pk e5) ∧ w'.cell? ⟨w6.heap.size, 0, none⟩ = some (.slice A6 pn c6) ∧ w'.cell? ⟨w6.heap.size, 1, none⟩ = some (.slice B6 ph d6) ∧ w'.cell? ⟨w6.heap.size, 2, none⟩ = some (.slice N6 pk e6) ∧ w'.cell? ⟨w7.heap.size, 0, none⟩ = some (.slice A7 rn c7) ∧ w'.cell? ⟨w7.heap.size, 1, none⟩ = some (.slice B7 rh d7) ∧ w'.cell? ⟨w7.heap.size, 2, none⟩ = some (.slice N7 rk e7) ∧ w'.cell? ⟨w7.heap.size + 1, 0, none⟩ = some (.slice A79 sn c79) ∧ w'.cell? ⟨w7.heap.size + 1, 1, none⟩ = some (.slice B79 sh d79) ∧ w'.cell? ⟨w7.heap.size + 1, 2, none⟩ = some (.slice N79 sk e79) ∧ w'.cell? ⟨w8.heap.size, 0, none⟩ = some (.slice A8 rn c8) ∧ w'.cell? ⟨w8.heap.size, 1, none⟩ = some (.slice B8 rh d8) ∧ w'.cell? ⟨w8.heap.size, 2, none⟩ = some (.slice N8 rk e8) ∧ w'.cell? ⟨w8.heap.size + 1, 0, none⟩ = some (.slice A89 sn c89) ∧ w'.cell? ⟨w8.heap.size + 1, 1, none⟩ = some (.slice B89 sh d89) ∧ w'.cell? ⟨w8.heap.size + 1, 2, none⟩ = some (.slice N89 sk e89) ∧ w'.cell? ⟨w9.heap.size, 0, none⟩ = some (.slice A9 fn c9) ∧ w'.cell? ⟨w9.heap.size, 1, none⟩ = some (.slice B9 fh d9) ∧ w'.cell? ⟨w9.heap.size, 2, none⟩ = some (.slice N9 fk e9) ∧ w'.cell? ⟨w10.heap.size, 0, none⟩ = some (.slice A10 fn c10) ∧ w'.cell? ⟨w10.heap.size, 1, none⟩ = some (.slice B10 fh d10) ∧ w'.cell? ⟨w10.heap.size, 2, none⟩ = some (.slice N10 fk e10)) := Lib.hid fun w' hE => ⟨hE.cell q0, hE.cell q1, hE.cell q2, hE.cell bp0, hE.cell bp1, hE.cell bp2, hE.cell bq0, hE.cell bq1, hE.cell bq2, hE.cell br0, hE.cell br1, hE.cell br2, hE.cell bs0, hE.cell bs1, hE.cell bs2, hE.cell bt0, hE.cell bt1, hE.cell bt2, hE.cell bu0, hE.cell bu1, hE.cell bu2, hE.cell bf0, hE.cell bf1, hE.cell bf2, hE.cell bg0, hE.cell bg1, hE.cell bg2⟩
  have l_q : W.heap.size < wq.heap.size := World.block_lt_of_cell? _ _ q0
  have l_bp : w5.heap.size < wq.heap.size := World.block_lt_of_cell? _ _ bp0
  have l_bq : w6.heap.size < wq.heap.size := World.block_lt_of_cell? _ _ bq0
  have l_br : w7.heap.size < wq.heap.size := World.block_lt_of_cell? _ _ br0
  have l_bs : w7.heap.size + 1 < wq.heap.size := World.block_lt_of_cell? _ _ bs0
  have l_bt : w8.heap.size < wq.heap.size := World.block_lt_of_cell? _ _ bt0
  have l_bu : w8.heap.size + 1 < wq.heap.size := World.block_lt_of_cell? _ _ bu0
  have l_bf : w9.heap.size < wq.heap.size := World.block_lt_of_cell? _ _ bf0
  have l_bg : w10.heap.size < wq.heap.size := World.block_lt_of_cell? _ _ bg0
  have HRrp := Lib.hid (Hrp_10.out.ext hE11)
  have HRrq := Lib.hid (Hrq_10.out.ext hE11)
  have HRrr := Lib.hid (Hrr_10.out.ext hE11)
  have HRrs := Lib.hid (Hrs_10.out.ext hE11)
  have HRrt := Lib.hid (Hrt_10.out.ext hE11)
  have HRru := Lib.hid (Hru_10.out.ext hE11)
  have HRrf := Lib.hid (Hrf_10.out.ext hE11)
  have HRrg := Lib.hid (Hrg_10.out.ext hE11)
  have HXq := Lib.hid (HX10.out.trans hE11)
  have eb1 : (ok == ok) = true := by simp
  have eb2 : (gd == gd) = true := by simp
  have eb3 : (fi == fi) = true := by simp
  clear hwq hE11 HX10 s0 s1 s2 CJP CJR CCP CCR CFP CFR Hrp_10 Hrq_10 Hrr_10 Hrs_10 Hrt_10 Hru_10 Hrf_10 Hrg_10 lb10_0 lb10_1 lb10_2 lb10_3 lb10_4 lb10_5 lb10_6 lb10_7 lb_bf
  go_upto_region 12 with fail
  go_region_held3 (fun w' => w'.cell? ⟨W.heap.size, 0, none⟩ = some (.slice A n c) ∧ w'.cell? ⟨W.heap.size, 1, none⟩ = some (.slice B m d) ∧ w'.cell? ⟨W.heap.size, 2, none⟩ = some (.slice N k e) ∧ w'.cell? ⟨w5.heap.size, 0, none⟩ = some (.slice A5 pn c5) ∧ w'.cell? ⟨w5.heap.size, 1, none⟩ = some (.slice B5 ph d5) ∧ w'.cell? ⟨w5.heap.size, 2, none⟩ = some (.slice N5 pk e5) ∧ w'.cell? ⟨w6.heap.size, 0, none⟩ = some (.slice A6 pn c6) ∧ w'.cell? ⟨w6.heap.size, 1, none⟩ = some (.slice B6 ph d6) ∧ w'.cell? ⟨w6.heap.size, 2, none⟩ = some (.slice N6 pk e6) ∧ w'.cell? ⟨w7.heap.size, 0, none⟩ = some (.slice A7 rn c7) ∧ w'.cell? ⟨w7.heap.size, 1, none⟩ = some (.slice B7 rh d7) ∧ w'.cell? ⟨w7.heap.size, 2, none⟩ = some (.slice N7 rk e7) ∧ w'.cell? ⟨w7.heap.size + 1, 0, none⟩ = some (.slice A79 sn c79) ∧ w'.cell? ⟨w7.heap.size + 1, 1, none⟩ = some (.slice B79 sh d79) ∧ w'.cell? ⟨w7.heap.size + 1, 2, none⟩ = some (.slice N79 sk e79) ∧ w'.cell? ⟨w8.heap.size, 0, none⟩ = some (.slice A8 rn c8) ∧ w'.cell? ⟨w8.heap.size, 1, none⟩ = some (.slice B8 rh d8) ∧ w'.cell? ⟨w8.heap.size, 2, none⟩ = some (.slice N8 rk e8) ∧ w'.cell? ⟨w8.heap.size + 1, 0, none⟩ = some (.slice A89 sn c89) ∧ w'.cell? ⟨w8.heap.size + 1, 1, none⟩ = some (.slice B89 sh d89) ∧ w'.cell? ⟨w8.heap.size + 1, 2, none⟩ = some (.slice N89 sk e89) ∧ w'.cell? ⟨w9.heap.size, 0, none⟩ = some (.slice A9 fn c9) ∧ w'.cell? ⟨w9.heap.size, 1, none⟩ = some (.slice B9 fh d9) ∧ w'.cell? ⟨w9.heap.size, 2, none⟩ = some (.slice N9 fk e9) ∧ w'.cell? ⟨w10.heap.size, 0, none⟩ = some (.slice A10 fn c10) ∧ w'.cell? ⟨w10.heap.size, 1, none⟩ = some (.slice B10 fh d10) ∧ w'.cell? ⟨w10.heap.size, 2, none⟩ = some (.slice N10 fk e10))
    (first | exact HKR.out _ (by repeat (first | (with_reducible exact Ext.refl _) | (with_reducible assumption) | refine Ext.drew ?_ | refine Ext.drewN ?_ _ | refine Ext.alloc ?_ _)) | go_keep)
    (first
    | (go_at_call_of 17 (Value.agg #[.slice A5 pn c5, .slice B5 ph d5, .slice N5 pk e5])
       refine (CSp.out _ _ _ _ _ _ _ _ _ _ _ _ _ (HRrp.out.ext (by repeat (first | (with_reducible exact Ext.refl _) | (with_reducible assumption) | refine Ext.drew ?_ | refine Ext.drewN ?_ _ | refine Ext.alloc ?_ _))) (HRrq.out.ext (by repeat (first | (with_reducible exact Ext.refl _) | (with_reducible assumption) | refine Ext.drew ?_ | refine Ext.drewN ?_ _ | refine Ext.alloc ?_ _)))).mono ?_
       rintro ed y1 ⟨rfl, hy1⟩
       have xy1 : Ext wq y1 := Ext.trans (by repeat (first | (with_reducible exact Ext.refl _) | (with_reducible assumption) | refine Ext.drew ?_ | refine Ext.drewN ?_ _ | refine Ext.alloc ?_ _)) hy1)
    | (go_at_call_of 17 (Value.agg #[.slice A7 rn c7, .slice B7 rh d7, .slice N7 rk e7])
       refine (CSr.out _ _ _ _ _ _ _ _ _ _ _ _ _ (HRrr.out.ext (by repeat (first | (with_reducible exact Ext.refl _) | (with_reducible assumption) | refine Ext.drew ?_ | refine Ext.drewN ?_ _ | refine Ext.alloc ?_ _))) (HRrt.out.ext (by repeat (first | (with_reducible exact Ext.refl _) | (with_reducible assumption) | refine Ext.drew ?_ | refine Ext.drewN ?_ _ | refine Ext.alloc ?_ _)))).mono ?_
       rintro ed y2 ⟨rfl, hy2⟩
       have xy2 : Ext wq y2 := Ext.trans (by repeat (first | (with_reducible exact Ext.refl _) | (with_reducible assumption) | refine Ext.drew ?_ | refine Ext.drewN ?_ _ | refine Ext.alloc ?_ _)) hy2)
    | (go_at_call_of 17 (Value.agg #[.slice A79 sn c79, .slice B79 sh d79, .slice N79 sk e79])
       refine (CSs.out _ _ _ _ _ _ _ _ _ _ _ _ _ (HRrs.out.ext (by repeat (first | (with_reducible exact Ext.refl _) | (with_reducible assumption) | refine Ext.drew ?_ | refine Ext.drewN ?_ _ | refine Ext.alloc ?_ _))) (HRru.out.ext (by repeat (first | (with_reducible exact Ext.refl _) | (with_reducible assumption) | refine Ext.drew ?_ | refine Ext.drewN ?_ _ | refine Ext.alloc ?_ _)))).mono ?_
       rintro ed y3 ⟨rfl, hy3⟩
       have xy3 : Ext wq y3 := Ext.trans (by repeat (first | (with_reducible exact Ext.refl _) | (with_reducible assumption) | refine Ext.drew ?_ | refine Ext.drewN ?_ _ | refine Ext.alloc ?_ _)) hy3)
    | (go_at_call_of 17 (Value.agg #[.slice A9 fn c9, .slice B9 fh d9, .slice N9 fk e9])
       refine (CSf.out _ _ _ _ _ _ _ _ _ _ _ _ _ (HRrf.out.ext (by repeat (first | (with_reducible exact Ext.refl _) | (with_reducible assumption) | refine Ext.drew ?_ | refine Ext.drewN ?_ _ | refine Ext.alloc ?_ _))) (HRrg.out.ext (by repeat (first | (with_reducible exact Ext.refl _) | (with_reducible assumption) | refine Ext.drew ?_ | refine Ext.drewN ?_ _ | refine Ext.alloc ?_ _)))).mono ?_
       rintro ed y4 ⟨rfl, hy4⟩
       have xy4 : Ext wq y4 := Ext.trans (by repeat (first | (with_reducible exact Ext.refl _) | (with_reducible assumption) | refine Ext.drew ?_ | refine Ext.drewN ?_ _ | refine Ext.alloc ?_ _)) hy4)
    | (go_at_call 19
       refine (CLP.out _ (HXq.out.trans (by repeat (first | (with_reducible exact Ext.refl _) | (with_reducible assumption) | refine Ext.drew ?_ | refine Ext.drewN ?_ _ | refine Ext.alloc ?_ _)))).mono ?_
       rintro ed y5 ⟨La, ca, rfl, hOa, hy5⟩
       have xy5 : Ext wq y5 := Ext.trans (by repeat (first | (with_reducible exact Ext.refl _) | (with_reducible assumption) | refine Ext.drew ?_ | refine Ext.drewN ?_ _ | refine Ext.alloc ?_ _)) hy5)
    | (go_at_call 20
       refine (CLR.out _ (HXq.out.trans (by repeat (first | (with_reducible exact Ext.refl _) | (with_reducible assumption) | refine Ext.drew ?_ | refine Ext.drewN ?_ _ | refine Ext.alloc ?_ _)))).mono ?_
       rintro ed y6 ⟨Lb, cb, rfl, hOb, hy6⟩
       have xy6 : Ext wq y6 := Ext.trans (by repeat (first | (with_reducible exact Ext.refl _) | (with_reducible assumption) | refine Ext.drew ?_ | refine Ext.drewN ?_ _ | refine Ext.alloc ?_ _)) hy6)
    | (go_at_call 18
       refine (CS5.out _ _ _ _ _ (hOa.ext (by repeat (first | (with_reducible exact Ext.refl _) | (with_reducible assumption) | refine Ext.drew ?_ | refine Ext.drewN ?_ _ | refine Ext.alloc ?_ _))) (hOb.ext (by repeat (first | (with_reducible exact Ext.refl _) | (with_reducible assumption) | refine Ext.drew ?_ | refine Ext.drewN ?_ _ | refine Ext.alloc ?_ _)))).mono ?_
       rintro ed y7 ⟨rfl, hy7⟩
       have xy7 : Ext wq y7 := Ext.trans (by repeat (first | (with_reducible exact Ext.refl _) | (with_reducible assumption) | refine Ext.drew ?_ | refine Ext.drewN ?_ _ | refine Ext.alloc ?_ _)) hy7)
    | (go_at_call 21
       refine (CHP.out _ (HXq.out.trans (by repeat (first | (with_reducible exact Ext.refl _) | (with_reducible assumption) | refine Ext.drew ?_ | refine Ext.drewN ?_ _ | refine Ext.alloc ?_ _)))).mono ?_
       rintro ed y8 ⟨rfl, hy8⟩
       have xy8 : Ext wq y8 := Ext.trans (by repeat (first | (with_reducible exact Ext.refl _) | (with_reducible assumption) | refine Ext.drew ?_ | refine Ext.drewN ?_ _ | refine Ext.alloc ?_ _)) hy8)
    | (go_at_call 22
       refine (CHR.out _ (HXq.out.trans (by repeat (first | (with_reducible exact Ext.refl _) | (with_reducible assumption) | refine Ext.drew ?_ | refine Ext.drewN ?_ _ | refine Ext.alloc ?_ _)))).mono ?_
       rintro ed y9 ⟨rfl, hy9⟩
       have xy9 : Ext wq y9 := Ext.trans (by repeat (first | (with_reducible exact Ext.refl _) | (with_reducible assumption) | refine Ext.drew ?_ | refine Ext.drewN ?_ _ | refine Ext.alloc ?_ _)) hy9)
    | fail)
  all_goals go_wp2_with fail
  all_goals go_ret
  all_goals exact ⟨ret_bool (by first | rfl | simp), HXq.out.trans xy9⟩
end Go.Proofs.Ytllpfegnpakadaa
