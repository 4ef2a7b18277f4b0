/- TableAnswers: the law returns true. Written by wip/mk_t12law.py. -/
import Derived.Test.YtofiokegdgdacaaJ6
import Derived.Deep.RegionHeld3
set_option linter.unusedVariables false
set_option linter.unusedSimpArgs false
set_option linter.unnecessarySimpa false
namespace Go.Proofs.Ytofiokegdgdacaa
open Go.BigFrame
open Go.RowKit Go.Proofs.Ytofiokegdgdacaa.Plain

theorem Plain.make_len (b : Int) (l : List Nat) : (makeP b l).1.full.length ≤ 1024 ∧ (makeP b l).1.cells.length ≤ 1024 := by
  unfold makeP
  split
  · exact ⟨by simp [noTb], by simp [noTb]⟩
  · rename_i h
    split
    · exact ⟨by simp [noTb], by simp [noTb]⟩
    · rename_i h2
      have h3 : (fillT b.toNat (risingR l)).length = 2 ^ b.toNat := (inv_of (risingR_good _ l rfl).1 (Nat.le_of_not_lt h2)).len
      have h4 : 2 ^ b.toNat ≤ 2 ^ 10 := Nat.pow_le_pow_right (n := 2) (by decide) (by omega)
      show (fullT _).length ≤ 1024 ∧ (cellsT _).length ≤ 1024
      rw [fullT_len, cellsT_len, h3]; exact ⟨h4, h4⟩
theorem Plain.put_len (t : Tb) (l : List Nat) (h : t.full.length ≤ 64) : (putP t l).1.full.length ≤ 1024 := by
  unfold putP
  split
  · split
    · exact (make_len _ _).1
    · exact Nat.le_trans h (by omega)
  · exact Nat.le_trans h (by omega)
theorem Plain.drop_len (t : Tb) (l : List Nat) (h : t.full.length ≤ 64) : (dropP t l).1.full.length ≤ 1024 := by
  unfold dropP
  split
  · exact (make_len _ _).1
  · exact Nat.le_trans h (by omega)
theorem Plain.same_self (t : Tb) : sameTb t t = true := (sameTb_iff t t).2 rfl
set_option maxHeartbeats 6400000 in
set_option maxRecDepth 100000 in
theorem tableanswers_any (t : Tb) (C F : Option Addr) (cc cf : Nat) (l : List Nat) (L : Option Addr) (lc : Nat) (b : Int) (W : World) (hC : Rd kU32 W (.slice C t.cells.length cc) (zs t.cells)) (hF : Rd kBool W (.slice F t.full.length cf) t.full) (htb : in64 t.bits) (hL : Rd kU32 W (.slice L l.length lc) (zs l)) (hb : in64 b) :
    Calls Try.prog 3 #[tabV t.bits C t.cells.length cc F t.full.length cf, .slice L l.length lc, .int .i64 b] W fun ed w' => ed = .returned (.bool true) ∧ Ext W w' := by
  obtain ⟨bits, cells, full⟩ := t
  simp only at hC hF htb ⊢
  have HC := Lib.hid hC
  have HF := Lib.hid hF
  have HL := Lib.hid hL
  have HG := Lib.hid (And.intro htb hb)
  clear hC hF hL htb hb
  go_enter Try.func3, Try.ntmps3
  go_wp2_with fail
  refine (tablealive_any _).mono ?_
  rintro ed w1 ⟨rfl, hE1⟩
  have q0 : w1.cell? ⟨W.heap.size, 0, none⟩ = some (.int .i64 bits) := Ext.cell hE1 (by go_simp)
  have q1 : w1.cell? ⟨W.heap.size, 1, none⟩ = some (.slice C cells.length cc) := Ext.cell hE1 (by go_simp)
  have q2 : w1.cell? ⟨W.heap.size, 2, none⟩ = some (.slice F full.length cf) := Ext.cell hE1 (by go_simp)
  have qf : ∀ o, w1.frozen? ⟨W.heap.size, o, none⟩ = false := fun o => (Below.frozen hE1 (p := ⟨W.heap.size, o, none⟩) (by first | omega | (simp; omega) | simp)).trans (by go_simp)
  have HX1 := Lib.hid (((Ext.refl W).alloc (.cells #[.int .i64 bits, .slice C cells.length cc, .slice F full.length cf] 25)).trans hE1)
  have lz1 := hE1.size
  simp at lz1
  have n1 : W.heap.size < w1.heap.size := by omega
  clear hE1 lz1
  go_wp2_with fail
  refine (rgreat12_any bits C F cells.length cc full.length cf _).mono ?_
  rintro ed w2 ⟨rfl, hE2⟩
  replace q0 := Ext.cell hE2 q0
  replace q1 := Ext.cell hE2 q1
  replace q2 := Ext.cell hE2 q2
  have lb2_0 : W.heap.size < w2.heap.size := by have := Ext.size hE2; omega
  have HX2 := Lib.hid (HX1.out.trans hE2)
  clear hE2 HX1 n1
  by_cases h1 : 64 < cells.length ∨ 64 < full.length
  · have hg : (decide (64 < cells.length) || decide (64 < full.length)) = true := by rw [Bool.or_eq_true, decide_eq_true_eq, decide_eq_true_eq]; exact h1
    rw [hg]
    go_wp2_with fail
    go_ret
    exact ⟨rfl, HX2.out⟩
  have hg : (decide (64 < cells.length) || decide (64 < full.length)) = false := by rw [Bool.or_eq_false_iff, decide_eq_false_iff_not, decide_eq_false_iff_not]; omega
  rw [hg]
  by_cases h3 : (60 : Int) < l.length
  · go_wp2_with fail
    go_ret
    exact ⟨rfl, HX2.out⟩
  have h3' : (l.length : Int) ≤ 60 := by omega
  have HN : Hid (cells.length ≤ 64 ∧ full.length ≤ 64 ∧ l.length ≤ 60) := Lib.hid (by omega)
  clear h1 h3 hg
  obtain ⟨⟨⟨yb, yc, yf⟩, ye⟩, hy⟩ : ∃ r, putP ⟨bits, cells, full⟩ l = r := ⟨_, rfl⟩
  have hyl : yf.length ≤ 1024 := by have := put_len ⟨bits, cells, full⟩ l HN.out.2.1; rw [hy] at this; exact this
  obtain ⟨⟨⟨ub, uc, uf⟩, ue⟩, hu⟩ : ∃ r, dropP ⟨bits, cells, full⟩ l = r := ⟨_, rfl⟩
  have hul : uf.length ≤ 1024 := by have := drop_len ⟨bits, cells, full⟩ l HN.out.2.1; rw [hu] at this; exact this
  obtain ⟨⟨⟨pb, pc, pf⟩, pe⟩, hp⟩ : ∃ r, makeP b l = r := ⟨_, rfl⟩
  have hpl : pf.length ≤ 1024 := by have := (make_len b l).1; rw [hp] at this; exact this
  have HY := Lib.hid hy
  have HU := Lib.hid hu
  have HP := Lib.hid hp
  have HLN := Lib.hid (And.intro hyl (And.intro hul hpl))
  clear hy hu hp hyl hul hpl
  go_wp2_with fail
  refine (pput12_any ⟨bits, cells, full⟩ C F cc cf l L lc _ (HC.out.ext HX2.out) (HF.out.ext HX2.out) (by have := HN.out; show cells.length ≤ 2000; omega) (by have := HN.out; show full.length ≤ 2000; omega) HG.out.1 (HL.out.ext HX2.out) (by have := HN.out; omega)).mono ?_
  rw [HY.out]
  rintro ed w3 ⟨C1, F1, c1, f1, rfl, hC1, hF_1, hE3⟩
  simp only at hC1 hF_1 ⊢
  replace q0 := Ext.cell hE3 q0
  replace q1 := Ext.cell hE3 q1
  replace q2 := Ext.cell hE3 q2
  have lb3_0 : W.heap.size < w3.heap.size := by have := Ext.size hE3; omega
  have HX3 := Lib.hid (HX2.out.trans hE3)
  have HC1_3 := Lib.hid (hC1)
  have HF1_3 := Lib.hid (hF_1)
  clear hE3 HX2 lb2_0
  go_wp2_with fail
  refine (rput12_any ⟨bits, cells, full⟩ l C F L cc cf lc _ (HC.out.ext (HX3.out.trans ((Ext.refl _).alloc _))) (HF.out.ext (HX3.out.trans ((Ext.refl _).alloc _))) (HL.out.ext (HX3.out.trans ((Ext.refl _).alloc _))) (by have := HN.out; show cells.length ≤ 2000; omega) (by have := HN.out; show full.length ≤ 2000; omega) (by have := HN.out; omega) HG.out.1).mono ?_
  rw [HY.out]
  rintro ed w4 ⟨C2, F2, c2, f2, rfl, hC2, hF_2, hE4⟩
  simp only at hC2 hF_2 ⊢
  have hF4 := ((Ext.refl w3).alloc (.cells #[.int .i64 yb, .slice C1 yc.length c1, .slice F1 yf.length f1] 25)).trans hE4
  replace q0 := Ext.cell hF4 q0
  replace q1 := Ext.cell hF4 q1
  replace q2 := Ext.cell hF4 q2
  have lb4_0 : W.heap.size < w4.heap.size := by have := Ext.size hF4; omega
  have HX4 := Lib.hid (HX3.out.trans hF4)
  have HC1_4 := Lib.hid (HC1_3.out.ext hF4)
  have HF1_4 := Lib.hid (HF1_3.out.ext hF4)
  have HC2_4 := Lib.hid (hC2)
  have HF2_4 := Lib.hid (hF_2)
  have b1_0 : w4.cell? ⟨w3.heap.size, 0, none⟩ = some (.int .i64 yb) := Ext.cell hE4 (by go_simp)
  have b1_1 : w4.cell? ⟨w3.heap.size, 1, none⟩ = some (.slice C1 yc.length c1) := Ext.cell hE4 (by go_simp)
  have b1_2 : w4.cell? ⟨w3.heap.size, 2, none⟩ = some (.slice F1 yf.length f1) := Ext.cell hE4 (by go_simp)
  have lb_b1_ : w3.heap.size < w4.heap.size := World.block_lt_of_cell? _ _ b1_0
  clear hE4 hF4 HX3 HC1_3 HF1_3 lb3_0
  go_wp2_with fail
  refine (pdrop12_any ⟨bits, cells, full⟩ C F cc cf l L lc _ (HC.out.ext (HX4.out.trans ((Ext.refl _).alloc _))) (HF.out.ext (HX4.out.trans ((Ext.refl _).alloc _))) (by have := HN.out; show cells.length ≤ 2000; omega) (by have := HN.out; show full.length ≤ 2000; omega) HG.out.1 (HL.out.ext (HX4.out.trans ((Ext.refl _).alloc _))) (by have := HN.out; omega)).mono ?_
  rw [HU.out]
  rintro ed w5 ⟨C3, F3, c3, f3, rfl, hC3, hF_3, hE5⟩
  simp only at hC3 hF_3 ⊢
  have hF5 := ((Ext.refl w4).alloc (.cells #[.int .i64 yb, .slice C2 yc.length c2, .slice F2 yf.length f2] 25)).trans hE5
  replace q0 := Ext.cell hF5 q0
  replace q1 := Ext.cell hF5 q1
  replace q2 := Ext.cell hF5 q2
  replace b1_0 := Ext.cell hF5 b1_0
  replace b1_1 := Ext.cell hF5 b1_1
  replace b1_2 := Ext.cell hF5 b1_2
  have lb5_0 : W.heap.size < w5.heap.size := by have := Ext.size hF5; omega
  have lb5_1 : w3.heap.size < w5.heap.size := by have := Ext.size hF5; omega
  have HX5 := Lib.hid (HX4.out.trans hF5)
  have HC1_5 := Lib.hid (HC1_4.out.ext hF5)
  have HF1_5 := Lib.hid (HF1_4.out.ext hF5)
  have HC2_5 := Lib.hid (HC2_4.out.ext hF5)
  have HF2_5 := Lib.hid (HF2_4.out.ext hF5)
  have HC3_5 := Lib.hid (hC3)
  have HF3_5 := Lib.hid (hF_3)
  have b2_0 : w5.cell? ⟨w4.heap.size, 0, none⟩ = some (.int .i64 yb) := Ext.cell hE5 (by go_simp)
  have b2_1 : w5.cell? ⟨w4.heap.size, 1, none⟩ = some (.slice C2 yc.length c2) := Ext.cell hE5 (by go_simp)
  have b2_2 : w5.cell? ⟨w4.heap.size, 2, none⟩ = some (.slice F2 yf.length f2) := Ext.cell hE5 (by go_simp)
  have lb_b2_ : w4.heap.size < w5.heap.size := World.block_lt_of_cell? _ _ b2_0
  clear hE5 hF5 HX4 HC1_4 HF1_4 HC2_4 HF2_4 lb4_0 lb_b1_
  go_wp2_with fail
  refine (rdrop12_any ⟨bits, cells, full⟩ l C F L cc cf lc _ (HC.out.ext (HX5.out.trans ((Ext.refl _).alloc _))) (HF.out.ext (HX5.out.trans ((Ext.refl _).alloc _))) (HL.out.ext (HX5.out.trans ((Ext.refl _).alloc _))) (by have := HN.out; show cells.length ≤ 2000; omega) (by have := HN.out; show full.length ≤ 2000; omega) HG.out.1).mono ?_
  rw [HU.out]
  rintro ed w6 ⟨C4, F4, c4, f4, rfl, hC4, hF_4, hE6⟩
  simp only at hC4 hF_4 ⊢
  have hF6 := ((Ext.refl w5).alloc (.cells #[.int .i64 ub, .slice C3 uc.length c3, .slice F3 uf.length f3] 25)).trans hE6
  replace q0 := Ext.cell hF6 q0
  replace q1 := Ext.cell hF6 q1
  replace q2 := Ext.cell hF6 q2
  replace b1_0 := Ext.cell hF6 b1_0
  replace b1_1 := Ext.cell hF6 b1_1
  replace b1_2 := Ext.cell hF6 b1_2
  replace b2_0 := Ext.cell hF6 b2_0
  replace b2_1 := Ext.cell hF6 b2_1
  replace b2_2 := Ext.cell hF6 b2_2
  have lb6_0 : W.heap.size < w6.heap.size := by have := Ext.size hF6; omega
  have lb6_1 : w3.heap.size < w6.heap.size := by have := Ext.size hF6; omega
  have lb6_2 : w4.heap.size < w6.heap.size := by have := Ext.size hF6; omega
  have HX6 := Lib.hid (HX5.out.trans hF6)
  have HC1_6 := Lib.hid (HC1_5.out.ext hF6)
  have HF1_6 := Lib.hid (HF1_5.out.ext hF6)
  have HC2_6 := Lib.hid (HC2_5.out.ext hF6)
  have HF2_6 := Lib.hid (HF2_5.out.ext hF6)
  have HC3_6 := Lib.hid (HC3_5.out.ext hF6)
  have HF3_6 := Lib.hid (HF3_5.out.ext hF6)
  have HC4_6 := Lib.hid (hC4)
  have HF4_6 := Lib.hid (hF_4)
  have b3_0 : w6.cell? ⟨w5.heap.size, 0, none⟩ = some (.int .i64 ub) := Ext.cell hE6 (by go_simp)
  have b3_1 : w6.cell? ⟨w5.heap.size, 1, none⟩ = some (.slice C3 uc.length c3) := Ext.cell hE6 (by go_simp)
  have b3_2 : w6.cell? ⟨w5.heap.size, 2, none⟩ = some (.slice F3 uf.length f3) := Ext.cell hE6 (by go_simp)
  have lb_b3_ : w5.heap.size < w6.heap.size := World.block_lt_of_cell? _ _ b3_0
  clear hE6 hF6 HX5 HC1_5 HF1_5 HC2_5 HF2_5 HC3_5 HF3_5 lb5_0 lb5_1 lb_b2_
  go_wp2_with fail
  refine (pmake12_any b l L lc _ (HL.out.ext (HX6.out.trans ((Ext.refl _).alloc _))) (by have := HN.out; omega) HG.out.2).mono ?_
  rw [HP.out]
  rintro ed w7 ⟨C5, F5, c5, f5, rfl, hC5, hF_5, hE7⟩
  simp only at hC5 hF_5 ⊢
  have hF7 := ((Ext.refl w6).alloc (.cells #[.int .i64 ub, .slice C4 uc.length c4, .slice F4 uf.length f4] 25)).trans hE7
  replace q0 := Ext.cell hF7 q0
  replace q1 := Ext.cell hF7 q1
  replace q2 := Ext.cell hF7 q2
  replace b1_0 := Ext.cell hF7 b1_0
  replace b1_1 := Ext.cell hF7 b1_1
  replace b1_2 := Ext.cell hF7 b1_2
  replace b2_0 := Ext.cell hF7 b2_0
  replace b2_1 := Ext.cell hF7 b2_1
  replace b2_2 := Ext.cell hF7 b2_2
  replace b3_0 := Ext.cell hF7 b3_0
  replace b3_1 := Ext.cell hF7 b3_1
  replace b3_2 := Ext.cell hF7 b3_2
  have lb7_0 : W.heap.size < w7.heap.size := by have := Ext.size hF7; omega
  have lb7_1 : w3.heap.size < w7.heap.size := by have := Ext.size hF7; omega
  have lb7_2 : w4.heap.size < w7.heap.size := by have := Ext.size hF7; omega
  have lb7_3 : w5.heap.size < w7.heap.size := by have := Ext.size hF7; omega
  have HX7 := Lib.hid (HX6.out.trans hF7)
  have HC1_7 := Lib.hid (HC1_6.out.ext hF7)
  have HF1_7 := Lib.hid (HF1_6.out.ext hF7)
  have HC2_7 := Lib.hid (HC2_6.out.ext hF7)
  have HF2_7 := Lib.hid (HF2_6.out.ext hF7)
  have HC3_7 := Lib.hid (HC3_6.out.ext hF7)
  have HF3_7 := Lib.hid (HF3_6.out.ext hF7)
  have HC4_7 := Lib.hid (HC4_6.out.ext hF7)
  have HF4_7 := Lib.hid (HF4_6.out.ext hF7)
  have HC5_7 := Lib.hid (hC5)
  have HF5_7 := Lib.hid (hF_5)
  have b4_0 : w7.cell? ⟨w6.heap.size, 0, none⟩ = some (.int .i64 ub) := Ext.cell hE7 (by go_simp)
  have b4_1 : w7.cell? ⟨w6.heap.size, 1, none⟩ = some (.slice C4 uc.length c4) := Ext.cell hE7 (by go_simp)
  have b4_2 : w7.cell? ⟨w6.heap.size, 2, none⟩ = some (.slice F4 uf.length f4) := Ext.cell hE7 (by go_simp)
  have lb_b4_ : w6.heap.size < w7.heap.size := World.block_lt_of_cell? _ _ b4_0
  clear hE7 hF7 HX6 HC1_6 HF1_6 HC2_6 HF2_6 HC3_6 HF3_6 HC4_6 HF4_6 lb6_0 lb6_1 lb6_2 lb_b3_
  go_wp2_with fail
  refine (rmake_any b l L lc _ (HL.out.ext (HX7.out.trans ((Ext.refl _).alloc _))) (by have := HN.out; omega) HG.out.2).mono ?_
  rw [HP.out]
  rintro ed w8 ⟨C6, F6, c6, f6, rfl, hC6, hF_6, hE8⟩
  simp only at hC6 hF_6 ⊢
  have hF8 := ((Ext.refl w7).alloc (.cells #[.int .i64 pb, .slice C5 pc.length c5, .slice F5 pf.length f5] 25)).trans hE8
  replace q0 := Ext.cell hF8 q0
  replace q1 := Ext.cell hF8 q1
  replace q2 := Ext.cell hF8 q2
  replace b1_0 := Ext.cell hF8 b1_0
  replace b1_1 := Ext.cell hF8 b1_1
  replace b1_2 := Ext.cell hF8 b1_2
  replace b2_0 := Ext.cell hF8 b2_0
  replace b2_1 := Ext.cell hF8 b2_1
  replace b2_2 := Ext.cell hF8 b2_2
  replace b3_0 := Ext.cell hF8 b3_0
  replace b3_1 := Ext.cell hF8 b3_1
  replace b3_2 := Ext.cell hF8 b3_2
  replace b4_0 := Ext.cell hF8 b4_0
  replace b4_1 := Ext.cell hF8 b4_1
  replace b4_2 := Ext.cell hF8 b4_2
  have lb8_0 : W.heap.size < w8.heap.size := by have := Ext.size hF8; omega
  have lb8_1 : w3.heap.size < w8.heap.size := by have := Ext.size hF8; omega
  have lb8_2 : w4.heap.size < w8.heap.size := by have := Ext.size hF8; omega
  have lb8_3 : w5.heap.size < w8.heap.size := by have := Ext.size hF8; omega
  have lb8_4 : w6.heap.size < w8.heap.size := by have := Ext.size hF8; omega
  have HX8 := Lib.hid (HX7.out.trans hF8)
  have HC1_8 := Lib.hid (HC1_7.out.ext hF8)
  have HF1_8 := Lib.hid (HF1_7.out.ext hF8)
  have HC2_8 := Lib.hid (HC2_7.out.ext hF8)
  have HF2_8 := Lib.hid (HF2_7.out.ext hF8)
  have HC3_8 := Lib.hid (HC3_7.out.ext hF8)
  have HF3_8 := Lib.hid (HF3_7.out.ext hF8)
  have HC4_8 := Lib.hid (HC4_7.out.ext hF8)
  have HF4_8 := Lib.hid (HF4_7.out.ext hF8)
  have HC5_8 := Lib.hid (HC5_7.out.ext hF8)
  have HF5_8 := Lib.hid (HF5_7.out.ext hF8)
  have HC6_8 := Lib.hid (hC6.rd)
  have HF6_8 := Lib.hid (hF_6.rd)
  have b5_0 : w8.cell? ⟨w7.heap.size, 0, none⟩ = some (.int .i64 pb) := Ext.cell hE8 (by go_simp)
  have b5_1 : w8.cell? ⟨w7.heap.size, 1, none⟩ = some (.slice C5 pc.length c5) := Ext.cell hE8 (by go_simp)
  have b5_2 : w8.cell? ⟨w7.heap.size, 2, none⟩ = some (.slice F5 pf.length f5) := Ext.cell hE8 (by go_simp)
  have lb_b5_ : w7.heap.size < w8.heap.size := World.block_lt_of_cell? _ _ b5_0
  clear hE8 hF8 HX7 HC1_7 HF1_7 HC2_7 HF2_7 HC3_7 HF3_7 HC4_7 HF4_7 HC5_7 HF5_7 lb7_0 lb7_1 lb7_2 lb7_3 lb_b4_
  go_wp2_with fail
  obtain ⟨wb, hwb⟩ : ∃ wb, w8.alloc (.cells #[.int .i64 pb, .slice C6 pc.length c6, .slice F6 pf.length f6] 25) = wb := ⟨_, rfl⟩
  have HXb := Lib.hid (HX8.out.trans (hwb ▸ (Ext.refl _).alloc _ : Ext w8 wb))
  have b6_0 : wb.cell? ⟨w8.heap.size, 0, none⟩ = some (.int .i64 pb) := by subst hwb; go_simp
  have b6_1 : wb.cell? ⟨w8.heap.size, 1, none⟩ = some (.slice C6 pc.length c6) := by subst hwb; go_simp
  have b6_2 : wb.cell? ⟨w8.heap.size, 2, none⟩ = some (.slice F6 pf.length f6) := by subst hwb; go_simp
  replace q0 := Ext.cell (hwb ▸ (Ext.refl _).alloc _ : Ext w8 wb) q0
  replace q1 := Ext.cell (hwb ▸ (Ext.refl _).alloc _ : Ext w8 wb) q1
  replace q2 := Ext.cell (hwb ▸ (Ext.refl _).alloc _ : Ext w8 wb) q2
  replace b1_0 := Ext.cell (hwb ▸ (Ext.refl _).alloc _ : Ext w8 wb) b1_0
  replace b1_1 := Ext.cell (hwb ▸ (Ext.refl _).alloc _ : Ext w8 wb) b1_1
  replace b1_2 := Ext.cell (hwb ▸ (Ext.refl _).alloc _ : Ext w8 wb) b1_2
  replace b2_0 := Ext.cell (hwb ▸ (Ext.refl _).alloc _ : Ext w8 wb) b2_0
  replace b2_1 := Ext.cell (hwb ▸ (Ext.refl _).alloc _ : Ext w8 wb) b2_1
  replace b2_2 := Ext.cell (hwb ▸ (Ext.refl _).alloc _ : Ext w8 wb) b2_2
  replace b3_0 := Ext.cell (hwb ▸ (Ext.refl _).alloc _ : Ext w8 wb) b3_0
  replace b3_1 := Ext.cell (hwb ▸ (Ext.refl _).alloc _ : Ext w8 wb) b3_1
  replace b3_2 := Ext.cell (hwb ▸ (Ext.refl _).alloc _ : Ext w8 wb) b3_2
  replace b4_0 := Ext.cell (hwb ▸ (Ext.refl _).alloc _ : Ext w8 wb) b4_0
  replace b4_1 := Ext.cell (hwb ▸ (Ext.refl _).alloc _ : Ext w8 wb) b4_1
  replace b4_2 := Ext.cell (hwb ▸ (Ext.refl _).alloc _ : Ext w8 wb) b4_2
  replace b5_0 := Ext.cell (hwb ▸ (Ext.refl _).alloc _ : Ext w8 wb) b5_0
  replace b5_1 := Ext.cell (hwb ▸ (Ext.refl _).alloc _ : Ext w8 wb) b5_1
  replace b5_2 := Ext.cell (hwb ▸ (Ext.refl _).alloc _ : Ext w8 wb) b5_2
  have HC1_b := Lib.hid (HC1_8.out.ext (hwb ▸ (Ext.refl _).alloc _ : Ext w8 wb))
  have HF1_b := Lib.hid (HF1_8.out.ext (hwb ▸ (Ext.refl _).alloc _ : Ext w8 wb))
  have HC2_b := Lib.hid (HC2_8.out.ext (hwb ▸ (Ext.refl _).alloc _ : Ext w8 wb))
  have HF2_b := Lib.hid (HF2_8.out.ext (hwb ▸ (Ext.refl _).alloc _ : Ext w8 wb))
  have HC3_b := Lib.hid (HC3_8.out.ext (hwb ▸ (Ext.refl _).alloc _ : Ext w8 wb))
  have HF3_b := Lib.hid (HF3_8.out.ext (hwb ▸ (Ext.refl _).alloc _ : Ext w8 wb))
  have HC4_b := Lib.hid (HC4_8.out.ext (hwb ▸ (Ext.refl _).alloc _ : Ext w8 wb))
  have HF4_b := Lib.hid (HF4_8.out.ext (hwb ▸ (Ext.refl _).alloc _ : Ext w8 wb))
  have HC5_b := Lib.hid (HC5_8.out.ext (hwb ▸ (Ext.refl _).alloc _ : Ext w8 wb))
  have HF5_b := Lib.hid (HF5_8.out.ext (hwb ▸ (Ext.refl _).alloc _ : Ext w8 wb))
  have HC6_b := Lib.hid (HC6_8.out.ext (hwb ▸ (Ext.refl _).alloc _ : Ext w8 wb))
  have HF6_b := Lib.hid (HF6_8.out.ext (hwb ▸ (Ext.refl _).alloc _ : Ext w8 wb))
  rw [hwb]
  clear HC1_8 HF1_8 HC2_8 HF2_8 HC3_8 HF3_8 HC4_8 HF4_8 HC5_8 HF5_8 HC6_8 HF6_8 lb8_0 lb8_1 lb8_2 lb8_3 lb8_4 lb_b5_
  have KA : Hid (∀ w', Ext wb w' → w'.cell? ⟨W.heap.size, 0, none⟩ = some (.int .i64 bits) ∧ w'.cell? ⟨W.heap.size, 1, none⟩ = some (.slice C cells.length cc) ∧ w'.cell? ⟨W.heap.size, 2, none⟩ = some (.slice F full.length cf) ∧ w'.cell? ⟨w3.heap.size, 0, none⟩ = some (.int .i64 yb) ∧ w'.cell? ⟨w3.heap.size, 1, none⟩ = some (.slice C1 yc.length c1) ∧ w'.cell? ⟨w3.heap.size, 2, none⟩ = some (.slice F1 yf.length f1) ∧ w'.cell? ⟨w4.heap.size, 0, none⟩ = some (.int .i64 yb) ∧ w'.cell? ⟨w4.heap.size, 1, none⟩ = some (.slice C2 yc.length c2) ∧ w'.cell? ⟨w4.heap.size, 2, none⟩ = some (.slice F2 yf.length f2) ∧ w'.cell? ⟨w5.heap.size, 0, none⟩ = some (.int .i64 ub) ∧ w'.cell? ⟨w5.heap.size, 1, none⟩ = some (.slice C3 uc.length c3) ∧ w'.cell? ⟨w5.heap.size, 2, none⟩ = some (.slice F3 uf.length f3) ∧ w'.cell? ⟨w6.heap.size, 0, none⟩ = some (.int .i64 ub) ∧ w'.cell? ⟨w6.heap.size, 1, none⟩ = some (.slice C4 uc.length c4) ∧ w'.cell? ⟨w6.heap.size, 2, none⟩ = some (.slice F4 uf.length f4) ∧ w'.cell? ⟨w7.heap.size, 0, none⟩ = some (.int .i64 pb) ∧ w'.cell? ⟨w7.heap.size, 1, none⟩ = some (.slice C5 pc.length c5) ∧ w'.cell? ⟨w7.heap.size, 2, none⟩ = some (.slice F5 pf.length f5) ∧ w'.cell? ⟨w8.heap.size, 0, none⟩ = some (.int .i64 pb) ∧ w'.cell? ⟨w8.heap.size, 1, none⟩ = some (.slice C6 pc.length c6) ∧ w'.cell? ⟨w8.heap.size, 2, none⟩ = some (.slice F6 pf.length f6)) := Lib.hid fun w' hE => ⟨hE.cell q0, hE.cell q1, hE.cell q2, hE.cell b1_0, hE.cell b1_1, hE.cell b1_2, hE.cell b2_0, hE.cell b2_1, hE.cell b2_2, hE.cell b3_0, hE.cell b3_1, hE.cell b3_2, hE.cell b4_0, hE.cell b4_1, hE.cell b4_2, hE.cell b5_0, hE.cell b5_1, hE.cell b5_2, hE.cell b6_0, hE.cell b6_1, hE.cell b6_2⟩
  clear hwb q0 q1 q2 b1_0 b1_1 b1_2 b2_0 b2_1 b2_2 b3_0 b3_1 b3_2 b4_0 b4_1 b4_2 b5_0 b5_1 b5_2 b6_0 b6_1 b6_2
  go_loopw [19] (fun i wr => ∃ k : Nat, k ≤ l.length ∧ i = .int .i64 k ∧ Ext wb wr) (fun i _ => l.length - (intOf i).toNat)
  case atStart => exact ⟨0, Nat.zero_le _, rfl, Ext.refl _⟩
  case round =>
    obtain ⟨k, hk, rfl, hX⟩ := hrel
    have HX := Lib.hid hX
    have hk0 : (0 : Int) ≤ k := by omega
    clear hX
    by_cases hlt : k < l.length
    · have hlt' : (k : Int) < l.length := by omega
      obtain ⟨bx, ox, rfl, z0, hxl⟩ := u32_at (HL.out.ext (HXb.out.trans HX.out)) k hlt
      obtain ⟨key, hkey⟩ : ∃ key, l.getD k 0 = key := ⟨_, rfl⟩
      rw [hkey] at z0 hxl
      obtain ⟨⟨fp, fk, fo⟩, hf⟩ : ∃ r, findP ⟨bits, cells, full⟩ key = r := ⟨_, rfl⟩
      obtain ⟨hm, hhm⟩ : ∃ r, homeP b key = r := ⟨_, rfl⟩
      have HF1 : Hid (∀ w', Ext wr w' → Calls Try.prog 14 #[tabV bits C cells.length cc F full.length cf, .int .u32 key] w' fun ed w'' => ed = .returned (.tuple #[.int .i64 fp, .int .i64 fk, .bool fo]) ∧ Ext wr w'') := Lib.hid fun w' hE => (pfind12_any ⟨bits, cells, full⟩ C F cc cf key w' (HC.out.ext ((HXb.out.trans HX.out).trans hE)) (HF.out.ext ((HXb.out.trans HX.out).trans hE)) (by have := HN.out; show cells.length ≤ 2000; omega) (by have := HN.out; show full.length ≤ 2000; omega) HG.out.1 hxl).mono fun ed w'' hh => ⟨by rw [hh.1, hf], hE.trans hh.2⟩
      have HF2 : Hid (∀ w', Ext wr w' → Calls Try.prog 15 #[tabV bits C cells.length cc F full.length cf, .int .u32 key] w' fun ed w'' => ed = .returned (.tuple #[.int .i64 fp, .int .i64 fk, .bool fo]) ∧ Ext wr w'') := Lib.hid fun w' hE => (rfind12_any ⟨bits, cells, full⟩ key C F cc cf w' (HC.out.ext ((HXb.out.trans HX.out).trans hE)) (HF.out.ext ((HXb.out.trans HX.out).trans hE)) (by have := HN.out; show cells.length ≤ 2000; omega) (by have := HN.out; show full.length ≤ 2000; omega) HG.out.1 hxl).mono fun ed w'' hh => ⟨by rw [hh.1, hf], hE.trans hh.2⟩
      have HF3 : Hid (∀ w', Ext wr w' → Calls Try.prog 16 #[.int .i64 b, .int .u32 key] w' fun ed w'' => ed = .returned (.int .i64 hm) ∧ Ext wr w'') := Lib.hid fun w' hE => (phome12_any b key w' HG.out.2 hxl).mono fun ed w'' hh => ⟨by rw [hh.1, hhm], hE.trans hh.2⟩
      have HF4 : Hid (∀ w', Ext wr w' → Calls Try.prog 17 #[.int .i64 b, .int .u32 key] w' fun ed w'' => ed = .returned (.int .i64 hm) ∧ Ext wr w'') := Lib.hid fun w' hE => (rhome_any b key w' hxl HG.out.2).mono fun ed w'' hh => ⟨by rw [hh.1, hhm], hh.2 ▸ hE⟩
      have KS : Hid (∀ w', Ext wr w' → w'.cell? ⟨W.heap.size, 0, none⟩ = some (.int .i64 bits) ∧ w'.cell? ⟨W.heap.size, 1, none⟩ = some (.slice C cells.length cc) ∧ w'.cell? ⟨W.heap.size, 2, none⟩ = some (.slice F full.length cf) ∧ w'.cell? ⟨bx, ox + k, none⟩ = some (.int .u32 key)) := Lib.hid (fun w' hE => ⟨(KA.out _ (HX.out.trans hE)).1, (KA.out _ (HX.out.trans hE)).2.1, (KA.out _ (HX.out.trans hE)).2.2.1, hE.cell z0⟩)
      have lbx : bx < wr.heap.size := World.block_lt_of_cell? _ _ z0
      have lbw : W.heap.size < wr.heap.size := World.block_lt_of_cell? _ _ (KS.out wr (Ext.refl _)).1
      clear hkey z0 hxl hf hhm
      go_wp2_with fail
      refine wp_region_class (Ext wr) (by kernel_rfl) (by kernel_rfl) (Ext.refl _).drew ?_
      try simp only [List.append_eq, List.cons_append, List.nil_append]
      repeat (first
        | go_big_quiet_skip
        | (go_big_quiet_want
           first
           | (go_big_quiet_op; go_big_quiet_on)
           | (unfold Oper.quiet
              apply Exists.intro
              refine ⟨fun w' hC => ?_, ?_⟩
              · (obtain ⟨k1, k2, k3, k4⟩ := KS.out w' hC
                 unfold Oper.quietAt
                 go_simp
                 first
                 | exact rfl
                 | (with_reducible exact HF1.out w' hC))
              go_simp
              go_big_quiet_on)
           | (go_big_quiet_op
              apply Exists.intro
              refine ⟨fun w' hC => ?_, ?_⟩
              · exact HF1.out w' hC
              go_big_quiet_on)))
      refine wpQuiet_nil ?_
      intro w21 hC1
      go_wp2_with fail
      refine wp_region_class (Ext wr) (by kernel_rfl) (by kernel_rfl) hC1.drew ?_
      try simp only [List.append_eq, List.cons_append, List.nil_append]
      repeat (first
        | go_big_quiet_skip
        | (go_big_quiet_want
           first
           | (go_big_quiet_op; go_big_quiet_on)
           | (unfold Oper.quiet
              apply Exists.intro
              refine ⟨fun w' hC => ?_, ?_⟩
              · (obtain ⟨k1, k2, k3, k4⟩ := KS.out w' hC
                 unfold Oper.quietAt
                 go_simp
                 first
                 | exact rfl
                 | (with_reducible exact HF2.out w' hC))
              go_simp
              go_big_quiet_on)
           | (go_big_quiet_op
              apply Exists.intro
              refine ⟨fun w' hC => ?_, ?_⟩
              · exact HF2.out w' hC
              go_big_quiet_on)))
      refine wpQuiet_nil ?_
      intro w22 hC2
      go_wp2_with fail
      refine wp_region_class (Ext wr) (by kernel_rfl) (by kernel_rfl) hC2.drew ?_
      try simp only [List.append_eq, List.cons_append, List.nil_append]
      repeat (first
        | go_big_quiet_skip
        | (go_big_quiet_want
           first
           | (go_big_quiet_op; go_big_quiet_on)
           | (unfold Oper.quiet
              apply Exists.intro
              refine ⟨fun w' hC => ?_, ?_⟩
              · (obtain ⟨k1, k2, k3, k4⟩ := KS.out w' hC
                 unfold Oper.quietAt
                 go_simp
                 first
                 | exact rfl
                 | (with_reducible exact HF3.out w' hC)
                 | (with_reducible exact HF4.out w' hC))
              go_simp
              go_big_quiet_on)
           | (go_big_quiet_op
              apply Exists.intro
              refine ⟨fun w' hC => ?_, ?_⟩
              · exact HF3.out w' hC
              go_big_quiet_on)
           | (go_big_quiet_op
              apply Exists.intro
              refine ⟨fun w' hC => ?_, ?_⟩
              · exact HF4.out w' hC
              go_big_quiet_on)))
      refine wpQuiet_nil ?_
      intro w23 hC3
      go_wp2_with fail
      go_roundw
      case rel => exact ⟨k + 1, by omega, by go_num, HX.out.trans hC3⟩
      case measure => simp [intOf]; omega
    · obtain rfl : k = l.length := by omega
      obtain ⟨rt, hrt⟩ : ∃ r, rightP ⟨bits, cells, full⟩ = r := ⟨_, rfl⟩
      obtain ⟨ks, hks⟩ : ∃ r, keysP ⟨bits, cells, full⟩ = r := ⟨_, rfl⟩
      have HRT := Lib.hid hrt
      have HKS := Lib.hid hks
      have KR : Hid (∀ w', Ext wr w' → w'.cell? ⟨W.heap.size, 0, none⟩ = some (.int .i64 bits) ∧ w'.cell? ⟨W.heap.size, 1, none⟩ = some (.slice C cells.length cc) ∧ w'.cell? ⟨W.heap.size, 2, none⟩ = some (.slice F full.length cf) ∧ w'.cell? ⟨w3.heap.size, 0, none⟩ = some (.int .i64 yb) ∧ w'.cell? ⟨w3.heap.size, 1, none⟩ = some (.slice C1 yc.length c1) ∧ w'.cell? ⟨w3.heap.size, 2, none⟩ = some (.slice F1 yf.length f1) ∧ w'.cell? ⟨w4.heap.size, 0, none⟩ = some (.int .i64 yb) ∧ w'.cell? ⟨w4.heap.size, 1, none⟩ = some (.slice C2 yc.length c2) ∧ w'.cell? ⟨w4.heap.size, 2, none⟩ = some (.slice F2 yf.length f2) ∧ w'.cell? ⟨w5.heap.size, 0, none⟩ = some (.int .i64 ub) ∧ w'.cell? ⟨w5.heap.size, 1, none⟩ = some (.slice C3 uc.length c3) ∧ w'.cell? ⟨w5.heap.size, 2, none⟩ = some (.slice F3 uf.length f3) ∧ w'.cell? ⟨w6.heap.size, 0, none⟩ = some (.int .i64 ub) ∧ w'.cell? ⟨w6.heap.size, 1, none⟩ = some (.slice C4 uc.length c4) ∧ w'.cell? ⟨w6.heap.size, 2, none⟩ = some (.slice F4 uf.length f4) ∧ w'.cell? ⟨w7.heap.size, 0, none⟩ = some (.int .i64 pb) ∧ w'.cell? ⟨w7.heap.size, 1, none⟩ = some (.slice C5 pc.length c5) ∧ w'.cell? ⟨w7.heap.size, 2, none⟩ = some (.slice F5 pf.length f5) ∧ w'.cell? ⟨w8.heap.size, 0, none⟩ = some (.int .i64 pb) ∧ w'.cell? ⟨w8.heap.size, 1, none⟩ = some (.slice C6 pc.length c6) ∧ w'.cell? ⟨w8.heap.size, 2, none⟩ = some (.slice F6 pf.length f6)) := Lib.hid fun w' hE => KA.out w' (HX.out.trans hE)
      clear hrt hks
      go_upto_region 30 with fail
      go_region_held3 (fun w' => w'.cell? ⟨W.heap.size, 0, none⟩ = some (.int .i64 bits) ∧ w'.cell? ⟨W.heap.size, 1, none⟩ = some (.slice C cells.length cc) ∧ w'.cell? ⟨W.heap.size, 2, none⟩ = some (.slice F full.length cf) ∧ w'.cell? ⟨w3.heap.size, 0, none⟩ = some (.int .i64 yb) ∧ w'.cell? ⟨w3.heap.size, 1, none⟩ = some (.slice C1 yc.length c1) ∧ w'.cell? ⟨w3.heap.size, 2, none⟩ = some (.slice F1 yf.length f1) ∧ w'.cell? ⟨w4.heap.size, 0, none⟩ = some (.int .i64 yb) ∧ w'.cell? ⟨w4.heap.size, 1, none⟩ = some (.slice C2 yc.length c2) ∧ w'.cell? ⟨w4.heap.size, 2, none⟩ = some (.slice F2 yf.length f2) ∧ w'.cell? ⟨w5.heap.size, 0, none⟩ = some (.int .i64 ub) ∧ w'.cell? ⟨w5.heap.size, 1, none⟩ = some (.slice C3 uc.length c3) ∧ w'.cell? ⟨w5.heap.size, 2, none⟩ = some (.slice F3 uf.length f3) ∧ w'.cell? ⟨w6.heap.size, 0, none⟩ = some (.int .i64 ub) ∧ w'.cell? ⟨w6.heap.size, 1, none⟩ = some (.slice C4 uc.length c4) ∧ w'.cell? ⟨w6.heap.size, 2, none⟩ = some (.slice F4 uf.length f4) ∧ w'.cell? ⟨w7.heap.size, 0, none⟩ = some (.int .i64 pb) ∧ w'.cell? ⟨w7.heap.size, 1, none⟩ = some (.slice C5 pc.length c5) ∧ w'.cell? ⟨w7.heap.size, 2, none⟩ = some (.slice F5 pf.length f5) ∧ w'.cell? ⟨w8.heap.size, 0, none⟩ = some (.int .i64 pb) ∧ w'.cell? ⟨w8.heap.size, 1, none⟩ = some (.slice C6 pc.length c6) ∧ w'.cell? ⟨w8.heap.size, 2, none⟩ = some (.slice F6 pf.length f6))
        (first | exact KR.out _ (by repeat (first | (with_reducible exact Ext.refl _) | (with_reducible assumption) | refine Ext.drew ?_ | refine Ext.drewN ?_ _ | refine Ext.alloc ?_ _)) | go_keep)
        (first
        | (go_at_call_of 18 (Value.agg #[Value.int .i64 yb, Value.slice C1 yc.length c1, Value.slice F1 yf.length f1])
           refine (rsame12_any ⟨yb, yc, yf⟩ ⟨yb, yc, yf⟩ C1 F1 C2 F2 c1 f1 c2 f2 _ (HC1_b.out.ext (HX.out.trans (by repeat (first | (with_reducible exact Ext.refl _) | (with_reducible assumption) | refine Ext.drew ?_ | refine Ext.drewN ?_ _ | refine Ext.alloc ?_ _)))) (HF1_b.out.ext (HX.out.trans (by repeat (first | (with_reducible exact Ext.refl _) | (with_reducible assumption) | refine Ext.drew ?_ | refine Ext.drewN ?_ _ | refine Ext.alloc ?_ _)))) (HC2_b.out.ext (HX.out.trans (by repeat (first | (with_reducible exact Ext.refl _) | (with_reducible assumption) | refine Ext.drew ?_ | refine Ext.drewN ?_ _ | refine Ext.alloc ?_ _)))) (HF2_b.out.ext (HX.out.trans (by repeat (first | (with_reducible exact Ext.refl _) | (with_reducible assumption) | refine Ext.drew ?_ | refine Ext.drewN ?_ _ | refine Ext.alloc ?_ _)))) (by have := HLN.out; show yf.length ≤ 2000; omega)).mono ?_
           rw [same_self]
           rintro ed wa ⟨rfl, hwa⟩
           have xwa : Ext wr wa := Ext.trans (by repeat (first | (with_reducible exact Ext.refl _) | (with_reducible assumption) | refine Ext.drew ?_ | refine Ext.drewN ?_ _ | refine Ext.alloc ?_ _)) hwa)
        | (go_at_call_of 18 (Value.agg #[Value.int .i64 ub, Value.slice C3 uc.length c3, Value.slice F3 uf.length f3])
           refine (rsame12_any ⟨ub, uc, uf⟩ ⟨ub, uc, uf⟩ C3 F3 C4 F4 c3 f3 c4 f4 _ (HC3_b.out.ext (HX.out.trans (by repeat (first | (with_reducible exact Ext.refl _) | (with_reducible assumption) | refine Ext.drew ?_ | refine Ext.drewN ?_ _ | refine Ext.alloc ?_ _)))) (HF3_b.out.ext (HX.out.trans (by repeat (first | (with_reducible exact Ext.refl _) | (with_reducible assumption) | refine Ext.drew ?_ | refine Ext.drewN ?_ _ | refine Ext.alloc ?_ _)))) (HC4_b.out.ext (HX.out.trans (by repeat (first | (with_reducible exact Ext.refl _) | (with_reducible assumption) | refine Ext.drew ?_ | refine Ext.drewN ?_ _ | refine Ext.alloc ?_ _)))) (HF4_b.out.ext (HX.out.trans (by repeat (first | (with_reducible exact Ext.refl _) | (with_reducible assumption) | refine Ext.drew ?_ | refine Ext.drewN ?_ _ | refine Ext.alloc ?_ _)))) (by have := HLN.out; show uf.length ≤ 2000; omega)).mono ?_
           rw [same_self]
           rintro ed wb_ ⟨rfl, hwb_⟩
           have xwb_ : Ext wr wb_ := Ext.trans (by repeat (first | (with_reducible exact Ext.refl _) | (with_reducible assumption) | refine Ext.drew ?_ | refine Ext.drewN ?_ _ | refine Ext.alloc ?_ _)) hwb_)
        | (go_at_call_of 18 (Value.agg #[Value.int .i64 pb, Value.slice C5 pc.length c5, Value.slice F5 pf.length f5])
           refine (rsame12_any ⟨pb, pc, pf⟩ ⟨pb, pc, pf⟩ C5 F5 C6 F6 c5 f5 c6 f6 _ (HC5_b.out.ext (HX.out.trans (by repeat (first | (with_reducible exact Ext.refl _) | (with_reducible assumption) | refine Ext.drew ?_ | refine Ext.drewN ?_ _ | refine Ext.alloc ?_ _)))) (HF5_b.out.ext (HX.out.trans (by repeat (first | (with_reducible exact Ext.refl _) | (with_reducible assumption) | refine Ext.drew ?_ | refine Ext.drewN ?_ _ | refine Ext.alloc ?_ _)))) (HC6_b.out.ext (HX.out.trans (by repeat (first | (with_reducible exact Ext.refl _) | (with_reducible assumption) | refine Ext.drew ?_ | refine Ext.drewN ?_ _ | refine Ext.alloc ?_ _)))) (HF6_b.out.ext (HX.out.trans (by repeat (first | (with_reducible exact Ext.refl _) | (with_reducible assumption) | refine Ext.drew ?_ | refine Ext.drewN ?_ _ | refine Ext.alloc ?_ _)))) (by have := HLN.out; show pf.length ≤ 2000; omega)).mono ?_
           rw [same_self]
           rintro ed wc ⟨rfl, hwc⟩
           have xwc : Ext wr wc := Ext.trans (by repeat (first | (with_reducible exact Ext.refl _) | (with_reducible assumption) | refine Ext.drew ?_ | refine Ext.drewN ?_ _ | refine Ext.alloc ?_ _)) hwc)
        | (go_at_call 19
           refine (pright12_any ⟨bits, cells, full⟩ C F cc cf _ (HC.out.ext (HXb.out.trans (HX.out.trans (by repeat (first | (with_reducible exact Ext.refl _) | (with_reducible assumption) | refine Ext.drew ?_ | refine Ext.drewN ?_ _ | refine Ext.alloc ?_ _))))) (HF.out.ext (HXb.out.trans (HX.out.trans (by repeat (first | (with_reducible exact Ext.refl _) | (with_reducible assumption) | refine Ext.drew ?_ | refine Ext.drewN ?_ _ | refine Ext.alloc ?_ _))))) (by have := HN.out; show cells.length ≤ 2000; omega) (by have := HN.out; show full.length ≤ 2000; omega) HG.out.1).mono ?_
           rw [HRT.out]
           rintro ed wd ⟨rfl, hwd⟩
           have xwd : Ext wr wd := Ext.trans (by repeat (first | (with_reducible exact Ext.refl _) | (with_reducible assumption) | refine Ext.drew ?_ | refine Ext.drewN ?_ _ | refine Ext.alloc ?_ _)) hwd
           skip)
        | (go_at_call 20
           refine (rright12_any ⟨bits, cells, full⟩ C F cc cf _ (HC.out.ext (HXb.out.trans (HX.out.trans (by repeat (first | (with_reducible exact Ext.refl _) | (with_reducible assumption) | refine Ext.drew ?_ | refine Ext.drewN ?_ _ | refine Ext.alloc ?_ _))))) (HF.out.ext (HXb.out.trans (HX.out.trans (by repeat (first | (with_reducible exact Ext.refl _) | (with_reducible assumption) | refine Ext.drew ?_ | refine Ext.drewN ?_ _ | refine Ext.alloc ?_ _))))) (by have := HN.out; show cells.length ≤ 2000; omega) (by have := HN.out; show full.length ≤ 2000; omega) HG.out.1).mono ?_
           rw [HRT.out]
           rintro ed we ⟨rfl, hwe⟩
           have xwe : Ext wr we := Ext.trans (by repeat (first | (with_reducible exact Ext.refl _) | (with_reducible assumption) | refine Ext.drew ?_ | refine Ext.drewN ?_ _ | refine Ext.alloc ?_ _)) hwe
           skip)
        | (go_at_call 22
           refine (pkeys12_any ⟨bits, cells, full⟩ C F cc cf _ (HC.out.ext (HXb.out.trans (HX.out.trans (by repeat (first | (with_reducible exact Ext.refl _) | (with_reducible assumption) | refine Ext.drew ?_ | refine Ext.drewN ?_ _ | refine Ext.alloc ?_ _))))) (HF.out.ext (HXb.out.trans (HX.out.trans (by repeat (first | (with_reducible exact Ext.refl _) | (with_reducible assumption) | refine Ext.drew ?_ | refine Ext.drewN ?_ _ | refine Ext.alloc ?_ _))))) (by have := HN.out; show cells.length ≤ 2000; omega) (by have := HN.out; show full.length ≤ 2000; omega) HG.out.1).mono ?_
           rw [HKS.out]
           rintro ed wf ⟨Lf, lf, rfl, hkf, hwf⟩
           have xwf : Ext wr wf := Ext.trans (by repeat (first | (with_reducible exact Ext.refl _) | (with_reducible assumption) | refine Ext.drew ?_ | refine Ext.drewN ?_ _ | refine Ext.alloc ?_ _)) hwf
           skip)
        | (go_at_call 23
           refine (rkeys12_any ⟨bits, cells, full⟩ C F cc cf _ (HC.out.ext (HXb.out.trans (HX.out.trans (by repeat (first | (with_reducible exact Ext.refl _) | (with_reducible assumption) | refine Ext.drew ?_ | refine Ext.drewN ?_ _ | refine Ext.alloc ?_ _))))) (HF.out.ext (HXb.out.trans (HX.out.trans (by repeat (first | (with_reducible exact Ext.refl _) | (with_reducible assumption) | refine Ext.drew ?_ | refine Ext.drewN ?_ _ | refine Ext.alloc ?_ _))))) (by have := HN.out; show cells.length ≤ 2000; omega) (by have := HN.out; show full.length ≤ 2000; omega)).mono ?_
           rw [HKS.out]
           rintro ed wg ⟨Lg, lg, rfl, hkg, hwg⟩
           have xwg : Ext wr wg := Ext.trans (by repeat (first | (with_reducible exact Ext.refl _) | (with_reducible assumption) | refine Ext.drew ?_ | refine Ext.drewN ?_ _ | refine Ext.alloc ?_ _)) hwg
           skip)
        | (go_at_call 21
           refine (rwords_any _ _ _ _ _ (hkf.ext (by repeat (first | (with_reducible exact Ext.refl _) | (with_reducible assumption) | refine Ext.drew ?_ | refine Ext.drewN ?_ _ | refine Ext.alloc ?_ _))) (hkg.rd.ext (by repeat (first | (with_reducible exact Ext.refl _) | (with_reducible assumption) | refine Ext.drew ?_ | refine Ext.drewN ?_ _ | refine Ext.alloc ?_ _)))).mono ?_
           rw [sameB_refl]
           rintro ed wh ⟨rfl, hwh⟩
           have xwh : Ext wr wh := Ext.trans (by repeat (first | (with_reducible exact Ext.refl _) | (with_reducible assumption) | refine Ext.drew ?_ | refine Ext.drewN ?_ _ | refine Ext.alloc ?_ _)) hwh)
        | fail)
      all_goals go_wp2_with fail
      all_goals go_ret
      all_goals exact ⟨ret_bool (by first | rfl | simp), HXb.out.trans (HX.out.trans xwh)⟩
end Go.Proofs.Ytofiokegdgdacaa
