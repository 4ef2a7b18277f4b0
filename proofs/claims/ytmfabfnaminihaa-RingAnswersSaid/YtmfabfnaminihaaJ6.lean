/- Joined by wip/merge.py: T13A. -/
import Derived.Test.YtmfabfnaminihaaJ5
set_option linter.unusedVariables false
set_option linter.unusedSimpArgs false
set_option linter.unnecessarySimpa false
/- The fixed fact of ring's statements; calls with answers named. Written by wip/mk_r13.py. -/
namespace Go.Proofs.Ytmfabfnaminihaa
open Go.BigFrame
open Go.RowKit Go.Proofs.Ytmfabfnaminihaa.Plain

theorem pcut13_to (l : List Int) (ln : Nat) (L : Option Addr) (lc : Nat) (x y : Int) (r p : List Int) (ok : Bool) (k m : Nat) (w : World) (hL : Rd kInt w (.slice L ln lc) l) (hln : l.length = ln) (hl : l.length ≤ 2000) (hx : in64 x) (hy : in64 y) (he : cutR l x y = (r, p, ok)) (hk : r.length = k) (hm : p.length = m) :
    Calls Try.prog 11 #[.slice L ln lc, .int .i64 x, .int .i64 y] w fun ed w' => ∃ (R P : Option Addr) (c d : Nat), ed = .returned (.tuple #[.slice R k c, .slice P m d, .bool ok]) ∧ Ow kInt w.heap.size w' (.slice R k c) r ∧ Ow kInt w.heap.size w' (.slice P m d) p ∧ Ext w w' := by
  subst hln hk hm
  have h := pcut13_any l L lc x y w hL hl hx hy
  rw [he] at h
  exact h.mono fun _ _ hh => hh
theorem pjoin13_to (a b : List Int) (an bn : Nat) (L O : Option Addr) (lc oc : Nat) (x y : Int) (j : List Int) (ok : Bool) (k : Nat) (w : World) (hL : Rd kInt w (.slice L an lc) a) (han : a.length = an) (hO : Rd kInt w (.slice O bn oc) b) (hbn : b.length = bn) (ha : a.length ≤ 2000) (hb : b.length ≤ 2000) (hx : in64 x) (hy : in64 y) (he : joinR a x b y = (j, ok)) (hk : j.length = k) :
    Calls Try.prog 9 #[.slice L an lc, .int .i64 x, .slice O bn oc, .int .i64 y] w fun ed w' => ∃ (R : Option Addr) (c : Nat), ed = .returned (.tuple #[.slice R k c, .bool ok]) ∧ Ow kInt w.heap.size w' (.slice R k c) j ∧ Ext w w' := by
  subst han hbn hk
  have h := pjoin13_any a b L O lc oc x y w hL hO ha hb hx hy
  rw [he] at h
  exact h.mono fun _ _ hh => hh
theorem pfrom13_to (l : List Int) (ln : Nat) (L : Option Addr) (lc : Nat) (x : Int) (r : List Int) (ok : Bool) (k : Nat) (w : World) (hL : Rd kInt w (.slice L ln lc) l) (hln : l.length = ln) (hl : l.length ≤ 2000) (hx : in64 x) (he : fromR l x = (r, ok)) (hk : r.length = k) :
    Calls Try.prog 13 #[.slice L ln lc, .int .i64 x] w fun ed w' => ∃ (R : Option Addr) (c : Nat), ed = .returned (.tuple #[.slice R k c, .bool ok]) ∧ Ow kInt w.heap.size w' (.slice R k c) r ∧ Ext w w' := by
  subst hln hk
  have h := pfrom13_any l L lc x w hL hl hx
  rw [he] at h
  exact h.mono fun _ _ hh => hh
theorem pnext13_to (l : List Int) (ln : Nat) (L : Option Addr) (lc : Nat) (x d : Int) (r : Int) (ok : Bool) (w : World) (hL : Rd kInt w (.slice L ln lc) l) (hln : l.length = ln) (hl : l.length ≤ 2000) (hx : in64 x) (hd : in64 d) (he : nextR l x d = (r, ok)) :
    Calls Try.prog 15 #[.slice L ln lc, .int .i64 x, .int .i64 d] w fun ed w' => ed = .returned (.tuple #[.int .i64 r, .bool ok]) ∧ Ext w w' := by
  subst hln
  have h := pnext13_any l L lc x d w hL hl hx hd
  rw [he] at h
  exact h.mono fun _ _ hh => hh
theorem pplain13_to (l : List Int) (ln : Nat) (L : Option Addr) (lc : Nat) (r : List Int) (k : Nat) (w : World) (hL : Rd kInt w (.slice L ln lc) l) (hln : l.length = ln) (hl : l.length ≤ 2000) (he : plainR l = r) (hk : r.length = k) :
    Calls Try.prog 18 #[.slice L ln lc] w fun ed w' => ∃ (R : Option Addr) (c : Nat), ed = .returned (.slice R k c) ∧ Ow kInt w.heap.size w' (.slice R k c) r ∧ Ext w w' := by
  subst hln hk
  have h := pplain13_any l L lc w hL hl
  rw [he] at h
  exact h.mono fun _ _ hh => hh
theorem psame13_to (a b : List Int) (an bn : Nat) (L O : Option Addr) (lc oc : Nat) (ok : Bool) (w : World) (hL : Rd kInt w (.slice L an lc) a) (han : a.length = an) (hO : Rd kInt w (.slice O bn oc) b) (hbn : b.length = bn) (ha : a.length ≤ 2000) (hb : b.length ≤ 2000) (he : sameR a b = ok) :
    Calls Try.prog 22 #[.slice L an lc, .slice O bn oc] w fun ed w' => ed = .returned (.bool ok) ∧ Ext w w' := by
  subst han hbn he
  exact psame13_any a b L O lc oc w hL hO ha hb
theorem pright13_to (l : List Int) (ln : Nat) (L : Option Addr) (lc : Nat) (ok : Bool) (w : World) (hL : Rd kInt w (.slice L ln lc) l) (hln : l.length = ln) (hl : l.length ≤ 2000) (he : rightL l = ok) :
    Calls Try.prog 20 #[.slice L ln lc] w fun ed w' => ed = .returned (.bool ok) ∧ Ext w w' := by
  subst hln he
  exact pright13_any l L lc w hL hl
set_option maxHeartbeats 3200000 in
set_option maxRecDepth 100000 in
theorem ringalive_any (w : World) : Calls Try.prog 8 #[] w fun ed w' => ed = .returned (.bool true) ∧ Ext w w' := by
  have he1 : cutR [2, 3, 0, 1] 1 2 = ([3, 0, 1], [2], true) := by decide +kernel
  have he2 : joinR [3, 0, 1] 1 [2] 2 = ([0, 1, 2, 3], true) := by decide +kernel
  have he3 : fromR [2, 3, 0, 1] 0 = ([0, 1, 2, 3], true) := by decide +kernel
  have he4 : nextR [2, 3, 0, 1] 1 2 = (3, true) := by decide +kernel
  have he5 : joinR [2, 3, 0, 1] 1 [3] 3 = ([], false) := by decide +kernel
  have he6 : sameR [2, 3, 0, 1] [0, 1, 2, 3] = true := by decide +kernel
  have he7 : rightL [2, 3, 0, 1] = true := by decide +kernel
  have he8 : rightL [1, 1] = false := by decide +kernel
  have he9 : plainR [2, 3, 0, 1] = [0, 1, 2, 3] := by decide +kernel
  have H1 := Lib.hid he1
  have H2 := Lib.hid he2
  have H3 := Lib.hid he3
  have H4 := Lib.hid he4
  have H5 := Lib.hid he5
  have H6 := Lib.hid he6
  have H7 := Lib.hid he7
  have H8 := Lib.hid he8
  have H9 := Lib.hid he9
  clear he1 he2 he3 he4 he5 he6 he7 he8 he9
  go_enter Try.func8, Try.ntmps8
  go_wp2_with fail
  obtain ⟨w1, hW0⟩ : ∃ W0, (w.alloc (.cells #[.int .i64 2, .int .i64 3, .int .i64 0, .int .i64 1] 3)) = W0 := ⟨_, rfl⟩
  have HL_1 : Hid (Rd kInt w1 (.slice (some ⟨w.heap.size, 0, none⟩) 4 4) [2, 3, 0, 1]) := Lib.hid (by rw [← hW0]; exact int_list w [2, 3, 0, 1] w.heap.size 4 #[.int .i64 2, .int .i64 3, .int .i64 0, .int .i64 1] rfl rfl rfl (by decide) (by decide))
  have HX1 : Hid (Ext w w1) := Lib.hid (by rw [← hW0]; exact (Ext.refl w).alloc _)
  rw [hW0]
  clear hW0
  refine (pcut13_to [2, 3, 0, 1] 4 (some ⟨w.heap.size, 0, none⟩) 4 1 2 [3, 0, 1] [2] true 3 1 _ HL_1.out rfl (by decide) (by decide) (by decide) H1.out rfl rfl).mono ?_
  rintro ed w2 ⟨Lr, Lp, lr, lp, rfl, hOr, hOp, hE2⟩
  have HX2 := Lib.hid (HX1.out.trans hE2)
  have HL_2 := Lib.hid (HL_1.out.ext hE2)
  have Hr_2 := Lib.hid (hOr.rd)
  have Hp_2 := Lib.hid (hOp.rd)
  clear hE2 HX1 HL_1
  go_wp2_with fail
  refine (pjoin13_to [3, 0, 1] [2] 3 1 Lr Lp lr lp 1 2 [0, 1, 2, 3] true 4 _ Hr_2.out rfl Hp_2.out rfl (by decide) (by decide) (by decide) (by decide) H2.out rfl).mono ?_
  rintro ed w3 ⟨Lj, lj, rfl, hOj, hE3⟩
  have HX3 := Lib.hid (HX2.out.trans hE3)
  have HL_3 := Lib.hid (HL_2.out.ext hE3)
  have Hr_3 := Lib.hid (Hr_2.out.ext hE3)
  have Hp_3 := Lib.hid (Hp_2.out.ext hE3)
  have Hj_3 := Lib.hid (hOj.rd)
  clear hE3 HX2 HL_2 Hr_2 Hp_2
  go_wp2_with fail
  refine (pfrom13_to [2, 3, 0, 1] 4 (some ⟨w.heap.size, 0, none⟩) 4 0 [0, 1, 2, 3] true 4 _ HL_3.out rfl (by decide) (by decide) H3.out rfl).mono ?_
  rintro ed w4 ⟨Lf, lf, rfl, hOf, hE4⟩
  have HX4 := Lib.hid (HX3.out.trans hE4)
  have HL_4 := Lib.hid (HL_3.out.ext hE4)
  have Hr_4 := Lib.hid (Hr_3.out.ext hE4)
  have Hp_4 := Lib.hid (Hp_3.out.ext hE4)
  have Hj_4 := Lib.hid (Hj_3.out.ext hE4)
  have Hf_4 := Lib.hid (hOf.rd)
  clear hE4 HX3 HL_3 Hr_3 Hp_3 Hj_3
  go_wp2_with fail
  refine (pnext13_to [2, 3, 0, 1] 4 (some ⟨w.heap.size, 0, none⟩) 4 1 2 3 true _ HL_4.out rfl (by decide) (by decide) (by decide) H4.out).mono ?_
  rintro ed w5 ⟨rfl, hE5⟩
  have HX5 := Lib.hid (HX4.out.trans hE5)
  have HL_5 := Lib.hid (HL_4.out.ext hE5)
  have Hr_5 := Lib.hid (Hr_4.out.ext hE5)
  have Hp_5 := Lib.hid (Hp_4.out.ext hE5)
  have Hj_5 := Lib.hid (Hj_4.out.ext hE5)
  have Hf_5 := Lib.hid (Hf_4.out.ext hE5)
  clear hE5 HX4 HL_4 Hr_4 Hp_4 Hj_4 Hf_4
  go_wp2_with fail
  refine (pjoin13_to [2, 3, 0, 1] [3] 4 1 (some ⟨w.heap.size, 0, none⟩) (some ⟨w5.heap.size, 0, none⟩) 4 1 1 3 [] false 0 _ (HL_5.out.ext ((Ext.refl _).alloc _)) rfl (int_list w5 [3] _ 1 #[.int .i64 3] rfl rfl rfl (by decide) (by decide)) rfl (by decide) (by decide) (by decide) (by decide) H5.out rfl).mono ?_
  rintro ed w6 ⟨Ln, ln, rfl, hOn, hE6⟩
  have hF6 := ((Ext.refl w5).alloc (.cells #[.int .i64 3] 3)).trans hE6
  have HX6 := Lib.hid (HX5.out.trans hF6)
  have HL_6 := Lib.hid (HL_5.out.ext hF6)
  have Hr_6 := Lib.hid (Hr_5.out.ext hF6)
  have Hp_6 := Lib.hid (Hp_5.out.ext hF6)
  have Hj_6 := Lib.hid (Hj_5.out.ext hF6)
  have Hf_6 := Lib.hid (Hf_5.out.ext hF6)
  clear hE6 hF6 HX5 HL_5 Hr_5 Hp_5 Hj_5 Hf_5
  go_wp2_with fail
  refine (ints_e _ _ [3, 0, 1] [3, 0, 1] _ (Hr_6.out.ext ((Ext.refl _).alloc _)) (int_list w6 [3, 0, 1] _ 3 #[.int .i64 3, .int .i64 0, .int .i64 1] rfl rfl rfl (by decide) (by decide))).mono ?_
  rintro ed w7 ⟨rfl, hE7⟩
  rw [show sameB [3, 0, 1] [3, 0, 1] = true by decide +kernel]
  have hF7 := ((Ext.refl w6).alloc (.cells #[.int .i64 3, .int .i64 0, .int .i64 1] 3)).trans hE7
  have HX7 := Lib.hid (HX6.out.trans hF7)
  have HL_7 := Lib.hid (HL_6.out.ext hF7)
  have Hr_7 := Lib.hid (Hr_6.out.ext hF7)
  have Hp_7 := Lib.hid (Hp_6.out.ext hF7)
  have Hj_7 := Lib.hid (Hj_6.out.ext hF7)
  have Hf_7 := Lib.hid (Hf_6.out.ext hF7)
  clear hE7 hF7 HX6 HL_6 Hr_6 Hp_6 Hj_6 Hf_6
  go_wp2_with fail
  clear Hr_7
  refine (ints_e _ _ [2] [2] _ (Hp_7.out.ext ((Ext.refl _).alloc _)) (int_list w7 [2] _ 1 #[.int .i64 2] rfl rfl rfl (by decide) (by decide))).mono ?_
  rintro ed w8 ⟨rfl, hE8⟩
  rw [show sameB [2] [2] = true by decide +kernel]
  have hF8 := ((Ext.refl w7).alloc (.cells #[.int .i64 2] 3)).trans hE8
  have HX8 := Lib.hid (HX7.out.trans hF8)
  have HL_8 := Lib.hid (HL_7.out.ext hF8)
  have Hp_8 := Lib.hid (Hp_7.out.ext hF8)
  have Hj_8 := Lib.hid (Hj_7.out.ext hF8)
  have Hf_8 := Lib.hid (Hf_7.out.ext hF8)
  clear hE8 hF8 HX7 HL_7 Hp_7 Hj_7 Hf_7
  go_wp2_with fail
  clear Hp_8
  refine (ints_e _ _ [0, 1, 2, 3] [0, 1, 2, 3] _ (Hj_8.out.ext ((Ext.refl _).alloc _)) (int_list w8 [0, 1, 2, 3] _ 4 #[.int .i64 0, .int .i64 1, .int .i64 2, .int .i64 3] rfl rfl rfl (by decide) (by decide))).mono ?_
  rintro ed w9 ⟨rfl, hE9⟩
  rw [show sameB [0, 1, 2, 3] [0, 1, 2, 3] = true by decide +kernel]
  have hF9 := ((Ext.refl w8).alloc (.cells #[.int .i64 0, .int .i64 1, .int .i64 2, .int .i64 3] 3)).trans hE9
  have HX9 := Lib.hid (HX8.out.trans hF9)
  have HL_9 := Lib.hid (HL_8.out.ext hF9)
  have Hj_9 := Lib.hid (Hj_8.out.ext hF9)
  have Hf_9 := Lib.hid (Hf_8.out.ext hF9)
  clear hE9 hF9 HX8 HL_8 Hj_8 Hf_8
  go_wp2_with fail
  refine (ints_e _ _ [0, 1, 2, 3] [0, 1, 2, 3] _ (Hf_9.out.ext ((Ext.refl _).alloc _)) (int_list w9 [0, 1, 2, 3] _ 4 #[.int .i64 0, .int .i64 1, .int .i64 2, .int .i64 3] rfl rfl rfl (by decide) (by decide))).mono ?_
  rintro ed w10 ⟨rfl, hE10⟩
  rw [show sameB [0, 1, 2, 3] [0, 1, 2, 3] = true by decide +kernel]
  have hF10 := ((Ext.refl w9).alloc (.cells #[.int .i64 0, .int .i64 1, .int .i64 2, .int .i64 3] 3)).trans hE10
  have HX10 := Lib.hid (HX9.out.trans hF10)
  have HL_10 := Lib.hid (HL_9.out.ext hF10)
  have Hj_10 := Lib.hid (Hj_9.out.ext hF10)
  have Hf_10 := Lib.hid (Hf_9.out.ext hF10)
  clear hE10 hF10 HX9 HL_9 Hj_9 Hf_9
  go_wp2_with fail
  refine (psame13_to [2, 3, 0, 1] [0, 1, 2, 3] 4 4 (some ⟨w.heap.size, 0, none⟩) Lj 4 lj true _ HL_10.out rfl Hj_10.out rfl (by decide) (by decide) H6.out).mono ?_
  rintro ed w11 ⟨rfl, hE11⟩
  have HX11 := Lib.hid (HX10.out.trans hE11)
  have HL_11 := Lib.hid (HL_10.out.ext hE11)
  have Hj_11 := Lib.hid (Hj_10.out.ext hE11)
  have Hf_11 := Lib.hid (Hf_10.out.ext hE11)
  clear hE11 HX10 HL_10 Hj_10 Hf_10
  go_wp2_with fail
  clear Hj_11
  refine (pright13_to [2, 3, 0, 1] 4 (some ⟨w.heap.size, 0, none⟩) 4 true _ HL_11.out rfl (by decide) H7.out).mono ?_
  rintro ed w12 ⟨rfl, hE12⟩
  have HX12 := Lib.hid (HX11.out.trans hE12)
  have HL_12 := Lib.hid (HL_11.out.ext hE12)
  have Hf_12 := Lib.hid (Hf_11.out.ext hE12)
  clear hE12 HX11 HL_11 Hf_11
  go_wp2_with fail
  refine (pright13_to [1, 1] 2 (some ⟨w12.heap.size, 0, none⟩) 2 false _ (int_list w12 [1, 1] _ 2 #[.int .i64 1, .int .i64 1] rfl rfl rfl (by decide) (by decide)) rfl (by decide) H8.out).mono ?_
  rintro ed w13 ⟨rfl, hE13⟩
  have hF13 := ((Ext.refl w12).alloc (.cells #[.int .i64 1, .int .i64 1] 3)).trans hE13
  have HX13 := Lib.hid (HX12.out.trans hF13)
  have HL_13 := Lib.hid (HL_12.out.ext hF13)
  have Hf_13 := Lib.hid (Hf_12.out.ext hF13)
  clear hE13 hF13 HX12 HL_12 Hf_12
  go_wp2_with fail
  refine (pplain13_to [2, 3, 0, 1] 4 (some ⟨w.heap.size, 0, none⟩) 4 [0, 1, 2, 3] 4 _ HL_13.out rfl (by decide) H9.out rfl).mono ?_
  rintro ed w14 ⟨Lq, lq, rfl, hOq, hE14⟩
  have HX14 := Lib.hid (HX13.out.trans hE14)
  have HL_14 := Lib.hid (HL_13.out.ext hE14)
  have Hf_14 := Lib.hid (Hf_13.out.ext hE14)
  have Hq_14 := Lib.hid (hOq.rd)
  clear hE14 HX13 HL_13 Hf_13
  go_wp2_with fail
  clear HL_14
  refine (ints_e _ _ [0, 1, 2, 3] [0, 1, 2, 3] _ Hq_14.out Hf_14.out).mono ?_
  rintro ed w15 ⟨rfl, hE15⟩
  rw [show sameB [0, 1, 2, 3] [0, 1, 2, 3] = true by decide +kernel]
  have HX15 := Lib.hid (HX14.out.trans hE15)
  have Hf_15 := Lib.hid (Hf_14.out.ext hE15)
  have Hq_15 := Lib.hid (Hq_14.out.ext hE15)
  clear hE15 HX14 Hf_14 Hq_14
  go_wp2_with fail
  go_ret
  exact ⟨rfl, HX15.out⟩
end Go.Proofs.Ytmfabfnaminihaa
