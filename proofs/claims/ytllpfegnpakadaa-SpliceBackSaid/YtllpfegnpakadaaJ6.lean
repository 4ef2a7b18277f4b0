/- Joined by wip/merge.py: T15J, T15U, T14J, T14X, T14A, T13M, T13X, T15Z, T15X, T15D, T15Y, T15H. -/
import Derived.Test.YtllpfegnpakadaaJ5
import Derived.Lib.TrailingZeros
import Derived.Deep.RegionHeld3
import Derived.Deep.QuietTactic
import Derived.BigQuiet
set_option linter.unusedVariables false
set_option linter.unusedSimpArgs false
set_option linter.unnecessarySimpa false
/- The document's Join, From of towers (ref15). Written by wip/mk_t15.py. -/
namespace Go.Proofs.Ytllpfegnpakadaa
open Go.BigFrame
open Go.RowKit Go.Proofs.Ytllpfegnpakadaa.Plain

/-- a tower is laid into a result's box -/
theorem tb_store {t : Tw} {bo : Bool} {r : Tw × Bool} {w wd W : World} {R B0 : Nat} {A B N : Option Addr} {c d e : Nat} (hr : r = (t, bo)) (hT : TwO B0 wd t A B N c d e) (hX : Ext w wd) (hR : R < B0) (hB : w.heap.size ≤ B0) (hw : w.heap.size ≤ R) (hW : ((wd.setCell ⟨R, 0, none⟩ (.slice A t.tokens.length c)).setCell ⟨R, 1, none⟩ (.slice B t.heights.length d)).setCell ⟨R, 2, none⟩ (.slice N t.next.length e) = W) :
    TbSaid r w (.returned (.tuple #[.agg #[.slice A t.tokens.length c, .slice B t.heights.length d, .slice N t.next.length e], .bool bo])) W := by
  subst hr hW
  exact ⟨A, B, N, c, d, e, rfl, (((hT.set (p := ⟨R, 0, none⟩) hR _).set (p := ⟨R, 1, none⟩) hR _).set (p := ⟨R, 2, none⟩) hR _).mono hB, ((hX.setCell (p := ⟨R, 0, none⟩) hw _).setCell (p := ⟨R, 1, none⟩) hw _).setCell (p := ⟨R, 2, none⟩) hw _⟩
theorem tb_none {r : Tw × Bool} {w wd W : World} {R : Nat} (hr : r = (noTw, false)) (hX : Ext w wd) (hw : w.heap.size ≤ R) (hW : ((wd.setCell ⟨R, 0, none⟩ (.slice none 0 0)).setCell ⟨R, 1, none⟩ (.slice none 0 0)).setCell ⟨R, 2, none⟩ (.slice none 0 0) = W) :
    TbSaid r w (.returned (.tuple #[.agg #[.slice none 0 0, .slice none 0 0, .slice none 0 0], .bool false])) W := by
  subst hr hW
  exact ⟨none, none, none, 0, 0, 0, rfl, TwO.no _ _, ((hX.setCell (p := ⟨R, 0, none⟩) hw _).setCell (p := ⟨R, 1, none⟩) hw _).setCell (p := ⟨R, 2, none⟩) hw _⟩
theorem Plain.joinR_len {a b : List Int} {x y : Int} : (joinR a x b y).2 = true → (joinR a x b y).1.length ≤ 2000 := fun h => by
  obtain ⟨⟨j, ok⟩, hj⟩ : ∃ r, joinR a x b y = r := ⟨_, rfl⟩
  rw [hj] at h ⊢
  simp only at h ⊢
  subst h
  have := ((rightL_iff _).1 (join_ok hj).2.2.2.2.1).1
  omega
theorem Plain.fromR_len {l : List Int} {x : Int} : (fromR l x).2 = true → (fromR l x).1.length ≤ 2000 := fun h => by
  unfold fromR at h ⊢
  split at h
  · rename_i hc
    rw [if_pos hc]
    show (fromL l x).length ≤ 2000
    rw [from_len]
    have := ((rightL_iff _).1 hc.1).1
    omega
  · cases h
set_option maxHeartbeats 6400000 in
set_option maxRecDepth 100000 in
theorem rjoin15_any (a b : Tw) (x y : Int) (A B N A' B' N' : Option Addr) (c d e c' d' e' : Nat) (w : World) (ha : TwR w a A B N c d e) (hb : TwR w b A' B' N' c' d' e') :
    Calls Try.prog 12 #[towV A a.tokens.length c B a.heights.length d N a.next.length e, .int .i64 x, towV A' b.tokens.length c' B' b.heights.length d' N' b.next.length e', .int .i64 y] w (TbSaid (joinT a x b y) w) := by
  have HA := Lib.hid ha
  have HB := Lib.hid hb
  have HJ : Hid (joinT a x b y = if rightTw a = true ∧ rightTw b = true ∧ (joinR a.tokens x b.tokens y).2 = true then ((builtP (joinR a.tokens x b.tokens y).1 a b).1, decide ((builtP (joinR a.tokens x b.tokens y).1 a b).2 = 0)) else (noTw, false)) := Lib.hid rfl
  have hjl := joinR_len (a := a.tokens) (b := b.tokens) (x := x) (y := y)
  obtain ⟨⟨j, ok⟩, hj⟩ : ∃ r, joinR a.tokens x b.tokens y = r := ⟨_, rfl⟩
  rw [hj] at HJ hjl
  simp only at HJ hjl
  have HJR := Lib.hid hj
  have HJL := Lib.hid hjl
  clear ha hb hj hjl
  obtain ⟨an, han⟩ : ∃ k, a.tokens.length = k := ⟨_, rfl⟩
  obtain ⟨ah, hah⟩ : ∃ k, a.heights.length = k := ⟨_, rfl⟩
  obtain ⟨ak, hak⟩ : ∃ k, a.next.length = k := ⟨_, rfl⟩
  obtain ⟨bn, hbn⟩ : ∃ k, b.tokens.length = k := ⟨_, rfl⟩
  obtain ⟨bh, hbh⟩ : ∃ k, b.heights.length = k := ⟨_, rfl⟩
  obtain ⟨bk, hbk⟩ : ∃ k, b.next.length = k := ⟨_, rfl⟩
  have HLN := Lib.hid (And.intro (And.intro han (And.intro hah hak)) (And.intro hbn (And.intro hbh hbk)))
  obtain ⟨ra, hra⟩ : ∃ r, rightTw a = r := ⟨_, rfl⟩
  obtain ⟨rb, hrb⟩ : ∃ r, rightTw b = r := ⟨_, rfl⟩
  rw [hra, hrb] at HJ
  have CA : Hid (∀ w', Ext w w' → Calls Try.prog 25 #[towV A an c B ah d N ak e] w' fun ed w'' => ed = .returned (.bool ra) ∧ Ext w' w'') := Lib.hid fun w' hE => by
    have h := rright14_any a A B N c d e w' (HA.out.ext hE)
    rw [han, hah, hak, hra] at h
    exact h
  have CB : Hid (∀ w', Ext w w' → Calls Try.prog 25 #[towV A' bn c' B' bh d' N' bk e'] w' fun ed w'' => ed = .returned (.bool rb) ∧ Ext w' w'') := Lib.hid fun w' hE => by
    have h := rright14_any b A' B' N' c' d' e' w' (HB.out.ext hE)
    rw [hbn, hbh, hbk, hrb] at h
    exact h
  have CJ : Hid (∀ w', Ext w w' → Calls Try.prog 31 #[.slice A an c, .int .i64 x, .slice A' bn c', .int .i64 y] w' fun ed w'' => ∃ (R : Option Addr) (q : Nat), ed = .returned (.tuple #[.slice R j.length q, .bool ok]) ∧ Ow kInt w'.heap.size w'' (.slice R j.length q) j ∧ Ext w' w'') := Lib.hid fun w' hE => by
    have h := rjoin_any a.tokens b.tokens A A' c c' x y w' (HA.out.tok.ext hE) (HB.out.tok.ext hE)
    rw [HJR.out, han, hbn] at h
    exact h
  have CBU : Hid (∀ w', Ext w w' → ∀ (R : Option Addr) (q : Nat), Rd kInt w' (.slice R j.length q) j → j.length ≤ 2000 → Calls Try.prog 32 #[.slice R j.length q, towV A an c B ah d N ak e, towV A' bn c' B' bh d' N' bk e'] w' (TbSaid ((builtP j a b).1, decide ((builtP j a b).2 = 0)) w')) := Lib.hid fun w' hE R q hR hl => by
    have h := rbuilt15_any j R q a b A B N A' B' N' c d e c' d' e' w' hR (HA.out.ext hE) (HB.out.ext hE) hl
    rw [han, hah, hak, hbn, hbh, hbk] at h
    exact h
  rw [han, hah, hak, hbn, hbh, hbk]
  clear han hah hak hbn hbh hbk hra hrb HA HB
  go_enter Try.func12, Try.ntmps12
  go_wp2_with fail
  have HX0 : Hid (Ext w (((w.alloc (.cells #[.slice A an c, .slice B ah d, .slice N ak e] 25)).alloc (.cells #[.slice A' bn c', .slice B' bh d', .slice N' bk e'] 25)).alloc (.cells #[.slice none 0 0, .slice none 0 0, .slice none 0 0] 25))) := Lib.hid ((((Ext.refl w).alloc _).alloc _).alloc _)
  refine (CA.out _ HX0.out).mono ?_
  rintro ed w1 ⟨rfl, hE1⟩
  have p0 : w1.cell? ⟨w.heap.size, 0, none⟩ = some (.slice A an c) := Ext.cell hE1 (by go_simp)
  have p1 : w1.cell? ⟨w.heap.size, 1, none⟩ = some (.slice B ah d) := Ext.cell hE1 (by go_simp)
  have p2 : w1.cell? ⟨w.heap.size, 2, none⟩ = some (.slice N ak e) := Ext.cell hE1 (by go_simp)
  have pf : ∀ o, w1.frozen? ⟨w.heap.size, o, none⟩ = false := fun o => (Below.frozen hE1 (p := ⟨w.heap.size, o, none⟩) (by first | omega | (simp; omega) | simp)).trans (by go_simp)
  have q0 : w1.cell? ⟨(w.heap.size+1), 0, none⟩ = some (.slice A' bn c') := Ext.cell hE1 (by go_simp)
  have q1 : w1.cell? ⟨(w.heap.size+1), 1, none⟩ = some (.slice B' bh d') := Ext.cell hE1 (by go_simp)
  have q2 : w1.cell? ⟨(w.heap.size+1), 2, none⟩ = some (.slice N' bk e') := Ext.cell hE1 (by go_simp)
  have qf : ∀ o, w1.frozen? ⟨(w.heap.size+1), o, none⟩ = false := fun o => (Below.frozen hE1 (p := ⟨(w.heap.size+1), o, none⟩) (by first | omega | (simp; omega) | simp)).trans (by go_simp)
  have z0 : w1.cell? ⟨(w.heap.size+1+1), 0, none⟩ = some (.slice none 0 0) := Ext.cell hE1 (by go_simp)
  have z1 : w1.cell? ⟨(w.heap.size+1+1), 1, none⟩ = some (.slice none 0 0) := Ext.cell hE1 (by go_simp)
  have z2 : w1.cell? ⟨(w.heap.size+1+1), 2, none⟩ = some (.slice none 0 0) := Ext.cell hE1 (by go_simp)
  have zf : ∀ o, w1.frozen? ⟨(w.heap.size+1+1), o, none⟩ = false := fun o => (Below.frozen hE1 (p := ⟨(w.heap.size+1+1), o, none⟩) (by first | omega | (simp; omega) | simp)).trans (by go_simp)
  have lz1 := hE1.size
  simp at lz1
  have n1 : w.heap.size < w1.heap.size := by omega
  have n2 : w.heap.size + 1 < w1.heap.size := by omega
  have n3 : w.heap.size + 1 + 1 < w1.heap.size := by omega
  have HX1 := Lib.hid (HX0.out.trans hE1)
  have HW1 : Hid (w.heap.size ≤ w.heap.size + 1 + 1) := Lib.hid (by omega)
  have f0 := zf 0
  have f1 := zf 1
  have f2 := zf 2
  clear hE1 lz1 HX0 CA pf qf zf
  cases ra with
  | false =>
    have HR : Hid (joinT a x b y = (noTw, false)) := Lib.hid (by rw [HJ.out]; simp)
    go_wp2_with fail
    obtain ⟨W, hW⟩ : ∃ W, ((w1.setCell ⟨w.heap.size + 1 + 1, 0, none⟩ (.slice none 0 0)).setCell ⟨w.heap.size + 1 + 1, 1, none⟩ (.slice none 0 0)).setCell ⟨w.heap.size + 1 + 1, 2, none⟩ (.slice none 0 0) = W := ⟨_, rfl⟩
    have s0 : W.cell? ⟨w.heap.size + 1 + 1, 0, none⟩ = some (.slice none 0 0) := by subst hW; go_simp
    have s1 : W.cell? ⟨w.heap.size + 1 + 1, 1, none⟩ = some (.slice none 0 0) := by subst hW; go_simp
    have s2 : W.cell? ⟨w.heap.size + 1 + 1, 2, none⟩ = some (.slice none 0 0) := by subst hW; go_simp
    have HWF := Lib.hid hW
    rw [hW]
    clear hW
    exact bodyPost_ret (v := .tuple #[.agg #[.slice none 0 0, .slice none 0 0, .slice none 0 0], .bool false]) (by simp [results, Try.results12, go_sem, s0, s1, s2]) rfl (tb_none HR.out HX1.out HW1.out HWF.out)
  | true =>
    go_wp2_with fail
    refine (CB.out _ HX1.out).mono ?_
    rintro ed w2 ⟨rfl, hE2⟩
    have e0 := (Below.frozen hE2 (p := ⟨w.heap.size + 1 + 1, 0, none⟩) n3).trans f0
    have e1 := (Below.frozen hE2 (p := ⟨w.heap.size + 1 + 1, 1, none⟩) n3).trans f1
    have e2 := (Below.frozen hE2 (p := ⟨w.heap.size + 1 + 1, 2, none⟩) n3).trans f2
    replace p0 := Ext.cell hE2 p0
    replace p1 := Ext.cell hE2 p1
    replace p2 := Ext.cell hE2 p2
    replace q0 := Ext.cell hE2 q0
    replace q1 := Ext.cell hE2 q1
    replace q2 := Ext.cell hE2 q2
    replace z0 := Ext.cell hE2 z0
    replace z1 := Ext.cell hE2 z1
    replace z2 := Ext.cell hE2 z2
    have m1 : w.heap.size < w2.heap.size := by have := Ext.size hE2; omega
    have m2 : w.heap.size + 1 < w2.heap.size := by have := Ext.size hE2; omega
    have m3 : w.heap.size + 1 + 1 < w2.heap.size := by have := Ext.size hE2; omega
    have HX2 := Lib.hid (HX1.out.trans hE2)
    clear hE2 n1 n2 n3 f0 f1 f2 HX1
    cases rb with
    | false =>
      have HR : Hid (joinT a x b y = (noTw, false)) := Lib.hid (by rw [HJ.out]; simp)
      go_wp2_with fail
      obtain ⟨W, hW⟩ : ∃ W, ((w2.setCell ⟨w.heap.size + 1 + 1, 0, none⟩ (.slice none 0 0)).setCell ⟨w.heap.size + 1 + 1, 1, none⟩ (.slice none 0 0)).setCell ⟨w.heap.size + 1 + 1, 2, none⟩ (.slice none 0 0) = W := ⟨_, rfl⟩
      have s0 : W.cell? ⟨w.heap.size + 1 + 1, 0, none⟩ = some (.slice none 0 0) := by subst hW; go_simp
      have s1 : W.cell? ⟨w.heap.size + 1 + 1, 1, none⟩ = some (.slice none 0 0) := by subst hW; go_simp
      have s2 : W.cell? ⟨w.heap.size + 1 + 1, 2, none⟩ = some (.slice none 0 0) := by subst hW; go_simp
      have HWF := Lib.hid hW
      rw [hW]
      clear hW
      exact bodyPost_ret (v := .tuple #[.agg #[.slice none 0 0, .slice none 0 0, .slice none 0 0], .bool false]) (by simp [results, Try.results12, go_sem, s0, s1, s2]) rfl (tb_none HR.out HX2.out HW1.out HWF.out)
    | true =>
      go_wp2_with fail
      refine (CJ.out _ HX2.out).mono ?_
      rintro ed w3 ⟨Rj, qj, rfl, hO3, hE3⟩
      have f0 := (Below.frozen hE3 (p := ⟨w.heap.size + 1 + 1, 0, none⟩) m3).trans e0
      have f1 := (Below.frozen hE3 (p := ⟨w.heap.size + 1 + 1, 1, none⟩) m3).trans e1
      have f2 := (Below.frozen hE3 (p := ⟨w.heap.size + 1 + 1, 2, none⟩) m3).trans e2
      replace p0 := Ext.cell hE3 p0
      replace p1 := Ext.cell hE3 p1
      replace p2 := Ext.cell hE3 p2
      replace q0 := Ext.cell hE3 q0
      replace q1 := Ext.cell hE3 q1
      replace q2 := Ext.cell hE3 q2
      replace z0 := Ext.cell hE3 z0
      replace z1 := Ext.cell hE3 z1
      replace z2 := Ext.cell hE3 z2
      have n1 : w.heap.size < w3.heap.size := by have := Ext.size hE3; omega
      have n2 : w.heap.size + 1 < w3.heap.size := by have := Ext.size hE3; omega
      have n3 : w.heap.size + 1 + 1 < w3.heap.size := by have := Ext.size hE3; omega
      have HX3 := Lib.hid (HX2.out.trans hE3)
      have HO3 := Lib.hid hO3.rd
      clear hE3 m1 m2 m3 e0 e1 e2 HX2 hO3
      cases ok with
      | false =>
        have HR : Hid (joinT a x b y = (noTw, false)) := Lib.hid (by rw [HJ.out]; simp)
        go_wp2_with fail
        obtain ⟨W, hW⟩ : ∃ W, ((w3.setCell ⟨w.heap.size + 1 + 1, 0, none⟩ (.slice none 0 0)).setCell ⟨w.heap.size + 1 + 1, 1, none⟩ (.slice none 0 0)).setCell ⟨w.heap.size + 1 + 1, 2, none⟩ (.slice none 0 0) = W := ⟨_, rfl⟩
        have s0 : W.cell? ⟨w.heap.size + 1 + 1, 0, none⟩ = some (.slice none 0 0) := by subst hW; go_simp
        have s1 : W.cell? ⟨w.heap.size + 1 + 1, 1, none⟩ = some (.slice none 0 0) := by subst hW; go_simp
        have s2 : W.cell? ⟨w.heap.size + 1 + 1, 2, none⟩ = some (.slice none 0 0) := by subst hW; go_simp
        have HWF := Lib.hid hW
        rw [hW]
        clear hW
        exact bodyPost_ret (v := .tuple #[.agg #[.slice none 0 0, .slice none 0 0, .slice none 0 0], .bool false]) (by simp [results, Try.results12, go_sem, s0, s1, s2]) rfl (tb_none HR.out HX3.out HW1.out HWF.out)
      | true =>
        have HR : Hid (joinT a x b y = ((builtP j a b).1, decide ((builtP j a b).2 = 0))) := Lib.hid (by rw [HJ.out]; simp)
        go_wp2_with fail
        refine (CBU.out _ HX3.out Rj qj HO3.out (HJL.out (by first | trivial | rfl))).mono ?_
        obtain ⟨⟨t, bo⟩, ht⟩ : ∃ r : Tw × Bool, ((builtP j a b).1, decide ((builtP j a b).2 = 0)) = r := ⟨_, rfl⟩
        rw [ht] at HR ⊢
        clear ht
        rintro ed w4 ⟨A4, B4, N4, c4, d4, e4, rfl, hT4, hE4⟩
        simp only at hT4 ⊢
        have e0 := (Below.frozen hE4 (p := ⟨w.heap.size + 1 + 1, 0, none⟩) n3).trans f0
        have e1 := (Below.frozen hE4 (p := ⟨w.heap.size + 1 + 1, 1, none⟩) n3).trans f1
        have e2 := (Below.frozen hE4 (p := ⟨w.heap.size + 1 + 1, 2, none⟩) n3).trans f2
        replace z0 := Ext.cell hE4 z0
        replace z1 := Ext.cell hE4 z1
        replace z2 := Ext.cell hE4 z2
        have m3 : w.heap.size + 1 + 1 < w4.heap.size := by have := Ext.size hE4; omega
        have HX4 := Lib.hid (HX3.out.trans hE4)
        have HT4 := Lib.hid hT4
        have HN3 : Hid (w.heap.size + 1 + 1 < w3.heap.size ∧ w.heap.size ≤ w3.heap.size) := Lib.hid ⟨n3, by omega⟩
        clear hE4 n1 n2 n3 f0 f1 f2 p0 p1 p2 q0 q1 q2 HX3 hT4
        go_wp2_with fail
        obtain ⟨W, hW⟩ : ∃ W, ((w4.setCell ⟨w.heap.size + 1 + 1, 0, none⟩ (.slice A4 t.tokens.length c4)).setCell ⟨w.heap.size + 1 + 1, 1, none⟩ (.slice B4 t.heights.length d4)).setCell ⟨w.heap.size + 1 + 1, 2, none⟩ (.slice N4 t.next.length e4) = W := ⟨_, rfl⟩
        have s0 : W.cell? ⟨w.heap.size + 1 + 1, 0, none⟩ = some (.slice A4 t.tokens.length c4) := by subst hW; go_simp
        have s1 : W.cell? ⟨w.heap.size + 1 + 1, 1, none⟩ = some (.slice B4 t.heights.length d4) := by subst hW; go_simp
        have s2 : W.cell? ⟨w.heap.size + 1 + 1, 2, none⟩ = some (.slice N4 t.next.length e4) := by subst hW; go_simp
        have HWF := Lib.hid hW
        rw [hW]
        clear hW
        exact bodyPost_ret (v := .tuple #[.agg #[.slice A4 t.tokens.length c4, .slice B4 t.heights.length d4, .slice N4 t.next.length e4], .bool bo]) (by simp [results, Try.results12, go_sem, s0, s1, s2]) rfl (tb_store HR.out HT4.out HX4.out HN3.out.1 HN3.out.2 HW1.out HWF.out)
set_option maxHeartbeats 6400000 in
set_option maxRecDepth 100000 in
theorem rfrom15_any (a : Tw) (x : Int) (A B N : Option Addr) (c d e : Nat) (w : World) (ha : TwR w a A B N c d e) :
    Calls Try.prog 16 #[towV A a.tokens.length c B a.heights.length d N a.next.length e, .int .i64 x] w (TbSaid (fromT a x) w) := by
  have HA := Lib.hid ha
  have HJ : Hid (fromT a x = if rightTw a = true ∧ (fromR a.tokens x).2 = true then ((builtP (fromR a.tokens x).1 a a).1, decide ((builtP (fromR a.tokens x).1 a a).2 = 0)) else (noTw, false)) := Lib.hid rfl
  have hjl := fromR_len (l := a.tokens) (x := x)
  obtain ⟨⟨j, ok⟩, hj⟩ : ∃ r, fromR a.tokens x = r := ⟨_, rfl⟩
  rw [hj] at HJ hjl
  simp only at HJ hjl
  have HJR := Lib.hid hj
  have HJL := Lib.hid hjl
  clear ha hj hjl
  obtain ⟨an, han⟩ : ∃ k, a.tokens.length = k := ⟨_, rfl⟩
  obtain ⟨ah, hah⟩ : ∃ k, a.heights.length = k := ⟨_, rfl⟩
  obtain ⟨ak, hak⟩ : ∃ k, a.next.length = k := ⟨_, rfl⟩
  have HLN := Lib.hid (And.intro han (And.intro hah hak))
  obtain ⟨ra, hra⟩ : ∃ r, rightTw a = r := ⟨_, rfl⟩
  rw [hra] at HJ
  have CA : Hid (∀ w', Ext w w' → Calls Try.prog 25 #[towV A an c B ah d N ak e] w' fun ed w'' => ed = .returned (.bool ra) ∧ Ext w' w'') := Lib.hid fun w' hE => by
    have h := rright14_any a A B N c d e w' (HA.out.ext hE)
    rw [han, hah, hak, hra] at h
    exact h
  have CJ : Hid (∀ w', Ext w w' → Calls Try.prog 36 #[.slice A an c, .int .i64 x] w' fun ed w'' => ∃ (R : Option Addr) (q : Nat), ed = .returned (.tuple #[.slice R j.length q, .bool ok]) ∧ Ow kInt w'.heap.size w'' (.slice R j.length q) j ∧ Ext w' w'') := Lib.hid fun w' hE => by
    have h := rfrom_any a.tokens A c x w' (HA.out.tok.ext hE)
    rw [HJR.out, han] at h
    exact h
  have CBU : Hid (∀ w', Ext w w' → ∀ (R : Option Addr) (q : Nat), Rd kInt w' (.slice R j.length q) j → j.length ≤ 2000 → Calls Try.prog 32 #[.slice R j.length q, towV A an c B ah d N ak e, towV A an c B ah d N ak e] w' (TbSaid ((builtP j a a).1, decide ((builtP j a a).2 = 0)) w')) := Lib.hid fun w' hE R q hR hl => by
    have h := rbuilt15_any j R q a a A B N A B N c d e c d e w' hR (HA.out.ext hE) (HA.out.ext hE) hl
    rw [han, hah, hak] at h
    exact h
  rw [han, hah, hak]
  clear han hah hak hra HA
  go_enter Try.func16, Try.ntmps16
  go_wp2_with fail
  have HX0 : Hid (Ext w ((w.alloc (.cells #[.slice A an c, .slice B ah d, .slice N ak e] 25)).alloc (.cells #[.slice none 0 0, .slice none 0 0, .slice none 0 0] 25))) := Lib.hid (((Ext.refl w).alloc _).alloc _)
  refine (CA.out _ HX0.out).mono ?_
  rintro ed w1 ⟨rfl, hE1⟩
  have p0 : w1.cell? ⟨w.heap.size, 0, none⟩ = some (.slice A an c) := Ext.cell hE1 (by go_simp)
  have p1 : w1.cell? ⟨w.heap.size, 1, none⟩ = some (.slice B ah d) := Ext.cell hE1 (by go_simp)
  have p2 : w1.cell? ⟨w.heap.size, 2, none⟩ = some (.slice N ak e) := Ext.cell hE1 (by go_simp)
  have pf : ∀ o, w1.frozen? ⟨w.heap.size, o, none⟩ = false := fun o => (Below.frozen hE1 (p := ⟨w.heap.size, o, none⟩) (by first | omega | (simp; omega) | simp)).trans (by go_simp)
  have z0 : w1.cell? ⟨(w.heap.size+1), 0, none⟩ = some (.slice none 0 0) := Ext.cell hE1 (by go_simp)
  have z1 : w1.cell? ⟨(w.heap.size+1), 1, none⟩ = some (.slice none 0 0) := Ext.cell hE1 (by go_simp)
  have z2 : w1.cell? ⟨(w.heap.size+1), 2, none⟩ = some (.slice none 0 0) := Ext.cell hE1 (by go_simp)
  have zf : ∀ o, w1.frozen? ⟨(w.heap.size+1), o, none⟩ = false := fun o => (Below.frozen hE1 (p := ⟨(w.heap.size+1), o, none⟩) (by first | omega | (simp; omega) | simp)).trans (by go_simp)
  have lz1 := hE1.size
  simp at lz1
  have n1 : w.heap.size < w1.heap.size := by omega
  have n3 : w.heap.size + 1 < w1.heap.size := by omega
  have HX1 := Lib.hid (HX0.out.trans hE1)
  have HW1 : Hid (w.heap.size ≤ w.heap.size + 1) := Lib.hid (by omega)
  have f0 := zf 0
  have f1 := zf 1
  have f2 := zf 2
  clear hE1 lz1 HX0 CA pf zf
  cases ra with
  | false =>
    have HR : Hid (fromT a x = (noTw, false)) := Lib.hid (by rw [HJ.out]; simp)
    go_wp2_with fail
    obtain ⟨W, hW⟩ : ∃ W, ((w1.setCell ⟨w.heap.size + 1, 0, none⟩ (.slice none 0 0)).setCell ⟨w.heap.size + 1, 1, none⟩ (.slice none 0 0)).setCell ⟨w.heap.size + 1, 2, none⟩ (.slice none 0 0) = W := ⟨_, rfl⟩
    have s0 : W.cell? ⟨w.heap.size + 1, 0, none⟩ = some (.slice none 0 0) := by subst hW; go_simp
    have s1 : W.cell? ⟨w.heap.size + 1, 1, none⟩ = some (.slice none 0 0) := by subst hW; go_simp
    have s2 : W.cell? ⟨w.heap.size + 1, 2, none⟩ = some (.slice none 0 0) := by subst hW; go_simp
    have HWF := Lib.hid hW
    rw [hW]
    clear hW
    exact bodyPost_ret (v := .tuple #[.agg #[.slice none 0 0, .slice none 0 0, .slice none 0 0], .bool false]) (by simp [results, Try.results16, go_sem, s0, s1, s2]) rfl (tb_none HR.out HX1.out HW1.out HWF.out)
  | true =>
    go_wp2_with fail
    refine (CJ.out _ HX1.out).mono ?_
    rintro ed w3 ⟨Rj, qj, rfl, hO3, hE3⟩
    have e0 := (Below.frozen hE3 (p := ⟨w.heap.size + 1, 0, none⟩) n3).trans f0
    have e1 := (Below.frozen hE3 (p := ⟨w.heap.size + 1, 1, none⟩) n3).trans f1
    have e2 := (Below.frozen hE3 (p := ⟨w.heap.size + 1, 2, none⟩) n3).trans f2
    replace p0 := Ext.cell hE3 p0
    replace p1 := Ext.cell hE3 p1
    replace p2 := Ext.cell hE3 p2
    replace z0 := Ext.cell hE3 z0
    replace z1 := Ext.cell hE3 z1
    replace z2 := Ext.cell hE3 z2
    have m1 : w.heap.size < w3.heap.size := by have := Ext.size hE3; omega
    have m3 : w.heap.size + 1 < w3.heap.size := by have := Ext.size hE3; omega
    have HX3 := Lib.hid (HX1.out.trans hE3)
    have HO3 := Lib.hid hO3.rd
    clear hE3 n1 n3 f0 f1 f2 HX1 hO3
    cases ok with
    | false =>
      have HR : Hid (fromT a x = (noTw, false)) := Lib.hid (by rw [HJ.out]; simp)
      go_wp2_with fail
      obtain ⟨W, hW⟩ : ∃ W, ((w3.setCell ⟨w.heap.size + 1, 0, none⟩ (.slice none 0 0)).setCell ⟨w.heap.size + 1, 1, none⟩ (.slice none 0 0)).setCell ⟨w.heap.size + 1, 2, none⟩ (.slice none 0 0) = W := ⟨_, rfl⟩
      have s0 : W.cell? ⟨w.heap.size + 1, 0, none⟩ = some (.slice none 0 0) := by subst hW; go_simp
      have s1 : W.cell? ⟨w.heap.size + 1, 1, none⟩ = some (.slice none 0 0) := by subst hW; go_simp
      have s2 : W.cell? ⟨w.heap.size + 1, 2, none⟩ = some (.slice none 0 0) := by subst hW; go_simp
      have HWF := Lib.hid hW
      rw [hW]
      clear hW
      exact bodyPost_ret (v := .tuple #[.agg #[.slice none 0 0, .slice none 0 0, .slice none 0 0], .bool false]) (by simp [results, Try.results16, go_sem, s0, s1, s2]) rfl (tb_none HR.out HX3.out HW1.out HWF.out)
    | true =>
      have HR : Hid (fromT a x = ((builtP j a a).1, decide ((builtP j a a).2 = 0))) := Lib.hid (by rw [HJ.out]; simp)
      go_wp2_with fail
      refine (CBU.out _ HX3.out Rj qj HO3.out (HJL.out (by first | trivial | rfl))).mono ?_
      obtain ⟨⟨t, bo⟩, ht⟩ : ∃ r : Tw × Bool, ((builtP j a a).1, decide ((builtP j a a).2 = 0)) = r := ⟨_, rfl⟩
      rw [ht] at HR ⊢
      clear ht
      rintro ed w4 ⟨A4, B4, N4, c4, d4, e4, rfl, hT4, hE4⟩
      simp only at hT4 ⊢
      have f0 := (Below.frozen hE4 (p := ⟨w.heap.size + 1, 0, none⟩) m3).trans e0
      have f1 := (Below.frozen hE4 (p := ⟨w.heap.size + 1, 1, none⟩) m3).trans e1
      have f2 := (Below.frozen hE4 (p := ⟨w.heap.size + 1, 2, none⟩) m3).trans e2
      replace z0 := Ext.cell hE4 z0
      replace z1 := Ext.cell hE4 z1
      replace z2 := Ext.cell hE4 z2
      have n3 : w.heap.size + 1 < w4.heap.size := by have := Ext.size hE4; omega
      have HX4 := Lib.hid (HX3.out.trans hE4)
      have HT4 := Lib.hid hT4
      have HN3 : Hid (w.heap.size + 1 < w3.heap.size ∧ w.heap.size ≤ w3.heap.size) := Lib.hid ⟨m3, by omega⟩
      clear hE4 m1 m3 e0 e1 e2 p0 p1 p2 HX3 hT4
      go_wp2_with fail
      obtain ⟨W, hW⟩ : ∃ W, ((w4.setCell ⟨w.heap.size + 1, 0, none⟩ (.slice A4 t.tokens.length c4)).setCell ⟨w.heap.size + 1, 1, none⟩ (.slice B4 t.heights.length d4)).setCell ⟨w.heap.size + 1, 2, none⟩ (.slice N4 t.next.length e4) = W := ⟨_, rfl⟩
      have s0 : W.cell? ⟨w.heap.size + 1, 0, none⟩ = some (.slice A4 t.tokens.length c4) := by subst hW; go_simp
      have s1 : W.cell? ⟨w.heap.size + 1, 1, none⟩ = some (.slice B4 t.heights.length d4) := by subst hW; go_simp
      have s2 : W.cell? ⟨w.heap.size + 1, 2, none⟩ = some (.slice N4 t.next.length e4) := by subst hW; go_simp
      have HWF := Lib.hid hW
      rw [hW]
      clear hW
      exact bodyPost_ret (v := .tuple #[.agg #[.slice A4 t.tokens.length c4, .slice B4 t.heights.length d4, .slice N4 t.next.length e4], .bool bo]) (by simp [results, Try.results16, go_sem, s0, s1, s2]) rfl (tb_store HR.out HT4.out HX4.out HN3.out.1 HN3.out.2 HW1.out HWF.out)
end Go.Proofs.Ytllpfegnpakadaa

/- The document's Cut of towers (ref15). Written by wip/mk_t15.py. -/
namespace Go.Proofs.Ytllpfegnpakadaa
open Go.BigFrame
open Go.RowKit Go.Proofs.Ytllpfegnpakadaa.Plain

/-- two towers, and whether they are -/
def TcSaid (r : Tw × Tw × Bool) (w : World) (ed : Ending) (w' : World) : Prop :=
  ∃ (A B N A' B' N' : Option Addr) (c d e c' d' e' : Nat), ed = .returned (.tuple #[towV A r.1.tokens.length c B r.1.heights.length d N r.1.next.length e, towV A' r.2.1.tokens.length c' B' r.2.1.heights.length d' N' r.2.1.next.length e', .bool r.2.2]) ∧ TwO w.heap.size w' r.1 A B N c d e ∧ TwO w.heap.size w' r.2.1 A' B' N' c' d' e' ∧ Ext w w'
/-- three cells of a box are laid anew -/
abbrev box3 (w : World) (R : Nat) (u v z : Value) : World := ((w.setCell ⟨R, 0, none⟩ u).setCell ⟨R, 1, none⟩ v).setCell ⟨R, 2, none⟩ z
theorem TwO.box {B0 : Nat} {w : World} {t : Tw} {A B N : Option Addr} {c d e : Nat} (h : TwO B0 w t A B N c d e) {R : Nat} (hR : R < B0) (u v z : Value) : TwO B0 (box3 w R u v z) t A B N c d e := ((h.set (p := ⟨R, 0, none⟩) hR u).set (p := ⟨R, 1, none⟩) hR v).set (p := ⟨R, 2, none⟩) hR z
theorem ext_box {w wd : World} (h : Ext w wd) {R : Nat} (hw : w.heap.size ≤ R) (u v z : Value) : Ext w (box3 wd R u v z) := ((h.setCell (p := ⟨R, 0, none⟩) hw u).setCell (p := ⟨R, 1, none⟩) hw v).setCell (p := ⟨R, 2, none⟩) hw z
theorem Plain.cutR_len {l : List Int} {x y : Int} : (cutR l x y).2.2 = true → (cutR l x y).1.length ≤ 2000 ∧ (cutR l x y).2.1.length ≤ 2000 := fun h => by
  unfold cutR at h ⊢
  split at h
  · rename_i hc
    rw [if_pos hc]
    have h1 := ((rightL_iff _).1 hc.1).1
    obtain ⟨r, p, g1, g2, _⟩ := ring_cuts hc.1 hc.2.1 hc.2.2
    unfold cutR at g1
    rw [if_pos hc] at g1
    rw [g1]
    simp only
    omega
  · cases h
set_option maxHeartbeats 6400000 in
set_option maxRecDepth 100000 in
theorem rcut15_any (a : Tw) (x y : Int) (A B N : Option Addr) (c d e : Nat) (w : World) (ha : TwR w a A B N c d e) :
    Calls Try.prog 14 #[towV A a.tokens.length c B a.heights.length d N a.next.length e, .int .i64 x, .int .i64 y] w (TcSaid (cutT a x y) w) := by
  have HA := Lib.hid ha
  have HJ : Hid (cutT a x y = if rightTw a = true ∧ (cutR a.tokens x y).2.2 = true ∧ (cutR a.tokens x y).1.length ≠ 0 then ((builtP (cutR a.tokens x y).1 a a).1, (builtP (cutR a.tokens x y).2.1 a a).1, true) else (noTw, noTw, false)) := Lib.hid rfl
  have hjl := cutR_len (l := a.tokens) (x := x) (y := y)
  obtain ⟨⟨j, g, ok⟩, hj⟩ : ∃ r, cutR a.tokens x y = r := ⟨_, rfl⟩
  rw [hj] at HJ hjl
  simp only at HJ hjl
  have HJR := Lib.hid hj
  have HJL := Lib.hid hjl
  clear ha hj hjl
  obtain ⟨an, han⟩ : ∃ k, a.tokens.length = k := ⟨_, rfl⟩
  obtain ⟨ah, hah⟩ : ∃ k, a.heights.length = k := ⟨_, rfl⟩
  obtain ⟨ak, hak⟩ : ∃ k, a.next.length = k := ⟨_, rfl⟩
  have HLN := Lib.hid (And.intro han (And.intro hah hak))
  obtain ⟨ra, hra⟩ : ∃ r, rightTw a = r := ⟨_, rfl⟩
  rw [hra] at HJ
  have CA : Hid (∀ w', Ext w w' → Calls Try.prog 25 #[towV A an c B ah d N ak e] w' fun ed w'' => ed = .returned (.bool ra) ∧ Ext w' w'') := Lib.hid fun w' hE => by
    have h := rright14_any a A B N c d e w' (HA.out.ext hE)
    rw [han, hah, hak, hra] at h
    exact h
  have CJ : Hid (∀ w', Ext w w' → Calls Try.prog 34 #[.slice A an c, .int .i64 x, .int .i64 y] w' fun ed w'' => ∃ (R P : Option Addr) (q p : Nat), ed = .returned (.tuple #[.slice R j.length q, .slice P g.length p, .bool ok]) ∧ Ow kInt w'.heap.size w'' (.slice R j.length q) j ∧ Ow kInt w'.heap.size w'' (.slice P g.length p) g ∧ Ext w' w'') := Lib.hid fun w' hE => by
    have h := rcut_any a.tokens A c x y w' (HA.out.tok.ext hE)
    rw [HJR.out, han] at h
    exact h
  have CBU : Hid (∀ w', Ext w w' → ∀ (l : List Int) (R : Option Addr) (q : Nat), Rd kInt w' (.slice R l.length q) l → l.length ≤ 2000 → Calls Try.prog 32 #[.slice R l.length q, towV A an c B ah d N ak e, towV A an c B ah d N ak e] w' (TbSaid ((builtP l a a).1, decide ((builtP l a a).2 = 0)) w')) := Lib.hid fun w' hE l R q hR hl => by
    have h := rbuilt15_any l R q a a A B N A B N c d e c d e w' hR (HA.out.ext hE) (HA.out.ext hE) hl
    rw [han, hah, hak] at h
    exact h
  rw [han, hah, hak]
  clear han hah hak hra HA
  go_enter Try.func14, Try.ntmps14
  go_wp2_with fail
  have HX0 : Hid (Ext w (((w.alloc (.cells #[.slice A an c, .slice B ah d, .slice N ak e] 25)).alloc (.cells #[.slice none 0 0, .slice none 0 0, .slice none 0 0] 25)).alloc (.cells #[.slice none 0 0, .slice none 0 0, .slice none 0 0] 25))) := Lib.hid ((((Ext.refl w).alloc _).alloc _).alloc _)
  refine (CA.out _ HX0.out).mono ?_
  rintro ed w1 ⟨rfl, hE1⟩
  have p0 : w1.cell? ⟨w.heap.size, 0, none⟩ = some (.slice A an c) := Ext.cell hE1 (by go_simp)
  have p1 : w1.cell? ⟨w.heap.size, 1, none⟩ = some (.slice B ah d) := Ext.cell hE1 (by go_simp)
  have p2 : w1.cell? ⟨w.heap.size, 2, none⟩ = some (.slice N ak e) := Ext.cell hE1 (by go_simp)
  have pf : ∀ o, w1.frozen? ⟨w.heap.size, o, none⟩ = false := fun o => (Below.frozen hE1 (p := ⟨w.heap.size, o, none⟩) (by first | omega | (simp; omega) | simp)).trans (by go_simp)
  have z0 : w1.cell? ⟨(w.heap.size+1), 0, none⟩ = some (.slice none 0 0) := Ext.cell hE1 (by go_simp)
  have z1 : w1.cell? ⟨(w.heap.size+1), 1, none⟩ = some (.slice none 0 0) := Ext.cell hE1 (by go_simp)
  have z2 : w1.cell? ⟨(w.heap.size+1), 2, none⟩ = some (.slice none 0 0) := Ext.cell hE1 (by go_simp)
  have zf : ∀ o, w1.frozen? ⟨(w.heap.size+1), o, none⟩ = false := fun o => (Below.frozen hE1 (p := ⟨(w.heap.size+1), o, none⟩) (by first | omega | (simp; omega) | simp)).trans (by go_simp)
  have y_0 : w1.cell? ⟨(w.heap.size+1+1), 0, none⟩ = some (.slice none 0 0) := Ext.cell hE1 (by go_simp)
  have y_1 : w1.cell? ⟨(w.heap.size+1+1), 1, none⟩ = some (.slice none 0 0) := Ext.cell hE1 (by go_simp)
  have y_2 : w1.cell? ⟨(w.heap.size+1+1), 2, none⟩ = some (.slice none 0 0) := Ext.cell hE1 (by go_simp)
  have y_f : ∀ o, w1.frozen? ⟨(w.heap.size+1+1), o, none⟩ = false := fun o => (Below.frozen hE1 (p := ⟨(w.heap.size+1+1), o, none⟩) (by first | omega | (simp; omega) | simp)).trans (by go_simp)
  have lz1 := hE1.size
  simp at lz1
  have n1 : w.heap.size < w1.heap.size := by omega
  have n2 : w.heap.size + 1 < w1.heap.size := by omega
  have n3 : w.heap.size + 1 + 1 < w1.heap.size := by omega
  have HX1 := Lib.hid (HX0.out.trans hE1)
  have HW1 : Hid (w.heap.size ≤ w.heap.size + 1 ∧ w.heap.size ≤ w.heap.size + 1 + 1) := Lib.hid (by omega)
  have f0 := zf 0
  have f1 := zf 1
  have f2 := zf 2
  have g0 := y_f 0
  have g1 := y_f 1
  have g2 := y_f 2
  clear hE1 lz1 HX0 CA pf zf y_f
  cases ra with
  | false =>
    have HR : Hid (cutT a x y = (noTw, noTw, false)) := Lib.hid (by rw [HJ.out]; simp)
    go_wp2_with fail
    obtain ⟨W, hW⟩ : ∃ W, box3 (box3 w1 (w.heap.size + 1) (.slice none 0 0) (.slice none 0 0) (.slice none 0 0)) (w.heap.size + 1 + 1) (.slice none 0 0) (.slice none 0 0) (.slice none 0 0) = W := ⟨_, rfl⟩
    have s00 : W.cell? ⟨w.heap.size + 1, 0, none⟩ = some (.slice none 0 0) := by subst hW; go_simp
    have s01 : W.cell? ⟨w.heap.size + 1, 1, none⟩ = some (.slice none 0 0) := by subst hW; go_simp
    have s02 : W.cell? ⟨w.heap.size + 1, 2, none⟩ = some (.slice none 0 0) := by subst hW; go_simp
    have s10 : W.cell? ⟨w.heap.size + 1 + 1, 0, none⟩ = some (.slice none 0 0) := by subst hW; go_simp
    have s11 : W.cell? ⟨w.heap.size + 1 + 1, 1, none⟩ = some (.slice none 0 0) := by subst hW; go_simp
    have s12 : W.cell? ⟨w.heap.size + 1 + 1, 2, none⟩ = some (.slice none 0 0) := by subst hW; go_simp
    have HWF := Lib.hid hW
    unfold box3 at hW
    rw [hW]
    clear hW
    exact bodyPost_ret (v := .tuple #[.agg #[.slice none 0 0, .slice none 0 0, .slice none 0 0], .agg #[.slice none 0 0, .slice none 0 0, .slice none 0 0], .bool false]) (by simp [results, Try.results14, go_sem, s00, s01, s02, s10, s11, s12]) rfl (by rw [HR.out, ← HWF.out]; exact ⟨none, none, none, none, none, none, 0, 0, 0, 0, 0, 0, rfl, TwO.no _ _, TwO.no _ _, ext_box (ext_box HX1.out HW1.out.1 _ _ _) HW1.out.2 _ _ _⟩)
  | true =>
    go_wp2_with fail
    refine (CJ.out _ HX1.out).mono ?_
    rintro ed w3 ⟨Rj, Rg, qj, qg, rfl, hO3, hP3, hE3⟩
    have FZ : Hid (∀ (W : World), Ext w1 W → (∀ o, o < 3 → W.frozen? ⟨w.heap.size + 1, o, none⟩ = false) ∧ (∀ o, o < 3 → W.frozen? ⟨w.heap.size + 1 + 1, o, none⟩ = false)) := Lib.hid fun W hE => ⟨fun o ho => (Below.frozen hE (p := ⟨w.heap.size + 1, o, none⟩) n2).trans (by rcases o with _ | _ | _ | o <;> first | exact f0 | exact f1 | exact f2 | omega), fun o ho => (Below.frozen hE (p := ⟨w.heap.size + 1 + 1, o, none⟩) n3).trans (by rcases o with _ | _ | _ | o <;> first | exact g0 | exact g1 | exact g2 | omega)⟩
    have KZ : Hid (∀ (W : World), Ext w1 W → (W.cell? ⟨w.heap.size, 0, none⟩ = some (.slice A an c) ∧ W.cell? ⟨w.heap.size, 1, none⟩ = some (.slice B ah d) ∧ W.cell? ⟨w.heap.size, 2, none⟩ = some (.slice N ak e)) ∧ (W.cell? ⟨w.heap.size + 1, 0, none⟩ = some (.slice none 0 0) ∧ W.cell? ⟨w.heap.size + 1, 1, none⟩ = some (.slice none 0 0) ∧ W.cell? ⟨w.heap.size + 1, 2, none⟩ = some (.slice none 0 0)) ∧ (W.cell? ⟨w.heap.size + 1 + 1, 0, none⟩ = some (.slice none 0 0) ∧ W.cell? ⟨w.heap.size + 1 + 1, 1, none⟩ = some (.slice none 0 0) ∧ W.cell? ⟨w.heap.size + 1 + 1, 2, none⟩ = some (.slice none 0 0))) := Lib.hid fun W hE => ⟨⟨hE.cell p0, hE.cell p1, hE.cell p2⟩, ⟨hE.cell z0, hE.cell z1, hE.cell z2⟩, ⟨hE.cell y_0, hE.cell y_1, hE.cell y_2⟩⟩
    have HN1 : Hid (w.heap.size + 1 + 1 < w1.heap.size) := Lib.hid n3
    clear f0 f1 f2 g0 g1 g2 p0 p1 p2 z0 z1 z2 y_0 y_1 y_2 n1 n2 n3
    obtain ⟨⟨p0, p1, p2⟩, ⟨z0, z1, z2⟩, ⟨y0, y1, y2⟩⟩ := KZ.out w3 hE3
    obtain ⟨fz, fy⟩ := FZ.out w3 hE3
    have f0 := fz 0 (by decide)
    have f1 := fz 1 (by decide)
    have f2 := fz 2 (by decide)
    have g0 := fy 0 (by decide)
    have g1 := fy 1 (by decide)
    have g2 := fy 2 (by decide)
    have HY3 := Lib.hid hE3
    have HX3 := Lib.hid (HX1.out.trans hE3)
    have HO3 := Lib.hid hO3.rd
    have HP3 := Lib.hid hP3.rd
    have m3 : w.heap.size + 1 + 1 < w3.heap.size := by have := hE3.size; have := HN1.out; omega
    have m2 : w.heap.size + 1 < w3.heap.size := by omega
    have m1 : w.heap.size < w3.heap.size := by omega
    clear hE3 hO3 hP3 fz fy HX1
    cases ok with
    | false =>
      have HR : Hid (cutT a x y = (noTw, noTw, false)) := Lib.hid (by rw [HJ.out]; simp)
      go_wp2_with fail
      obtain ⟨W, hW⟩ : ∃ W, box3 (box3 w3 (w.heap.size + 1) (.slice none 0 0) (.slice none 0 0) (.slice none 0 0)) (w.heap.size + 1 + 1) (.slice none 0 0) (.slice none 0 0) (.slice none 0 0) = W := ⟨_, rfl⟩
      have s00 : W.cell? ⟨w.heap.size + 1, 0, none⟩ = some (.slice none 0 0) := by subst hW; go_simp
      have s01 : W.cell? ⟨w.heap.size + 1, 1, none⟩ = some (.slice none 0 0) := by subst hW; go_simp
      have s02 : W.cell? ⟨w.heap.size + 1, 2, none⟩ = some (.slice none 0 0) := by subst hW; go_simp
      have s10 : W.cell? ⟨w.heap.size + 1 + 1, 0, none⟩ = some (.slice none 0 0) := by subst hW; go_simp
      have s11 : W.cell? ⟨w.heap.size + 1 + 1, 1, none⟩ = some (.slice none 0 0) := by subst hW; go_simp
      have s12 : W.cell? ⟨w.heap.size + 1 + 1, 2, none⟩ = some (.slice none 0 0) := by subst hW; go_simp
      have HWF := Lib.hid hW
      unfold box3 at hW
      rw [hW]
      clear hW
      exact bodyPost_ret (v := .tuple #[.agg #[.slice none 0 0, .slice none 0 0, .slice none 0 0], .agg #[.slice none 0 0, .slice none 0 0, .slice none 0 0], .bool false]) (by simp [results, Try.results14, go_sem, s00, s01, s02, s10, s11, s12]) rfl (by rw [HR.out, ← HWF.out]; exact ⟨none, none, none, none, none, none, 0, 0, 0, 0, 0, 0, rfl, TwO.no _ _, TwO.no _ _, ext_box (ext_box HX3.out HW1.out.1 _ _ _) HW1.out.2 _ _ _⟩)
    | true =>
      by_cases hj0 : j.length = 0
      · have HR : Hid (cutT a x y = (noTw, noTw, false)) := Lib.hid (by rw [HJ.out, hj0]; simp)
        have e0 : ((j.length : Int) == 0) = true := by rw [beq_iff_eq]; omega
        clear hj0
        go_wp2_with fail
        obtain ⟨W, hW⟩ : ∃ W, box3 (box3 w3 (w.heap.size + 1) (.slice none 0 0) (.slice none 0 0) (.slice none 0 0)) (w.heap.size + 1 + 1) (.slice none 0 0) (.slice none 0 0) (.slice none 0 0) = W := ⟨_, rfl⟩
        have s00 : W.cell? ⟨w.heap.size + 1, 0, none⟩ = some (.slice none 0 0) := by subst hW; go_simp
        have s01 : W.cell? ⟨w.heap.size + 1, 1, none⟩ = some (.slice none 0 0) := by subst hW; go_simp
        have s02 : W.cell? ⟨w.heap.size + 1, 2, none⟩ = some (.slice none 0 0) := by subst hW; go_simp
        have s10 : W.cell? ⟨w.heap.size + 1 + 1, 0, none⟩ = some (.slice none 0 0) := by subst hW; go_simp
        have s11 : W.cell? ⟨w.heap.size + 1 + 1, 1, none⟩ = some (.slice none 0 0) := by subst hW; go_simp
        have s12 : W.cell? ⟨w.heap.size + 1 + 1, 2, none⟩ = some (.slice none 0 0) := by subst hW; go_simp
        have HWF := Lib.hid hW
        unfold box3 at hW
        rw [hW]
        clear hW
        exact bodyPost_ret (v := .tuple #[.agg #[.slice none 0 0, .slice none 0 0, .slice none 0 0], .agg #[.slice none 0 0, .slice none 0 0, .slice none 0 0], .bool false]) (by simp [results, Try.results14, go_sem, s00, s01, s02, s10, s11, s12]) rfl (by rw [HR.out, ← HWF.out]; exact ⟨none, none, none, none, none, none, 0, 0, 0, 0, 0, 0, rfl, TwO.no _ _, TwO.no _ _, ext_box (ext_box HX3.out HW1.out.1 _ _ _) HW1.out.2 _ _ _⟩)
      have HR : Hid (cutT a x y = ((builtP j a a).1, (builtP g a a).1, true)) := Lib.hid (by rw [HJ.out]; simp [hj0])
      have e0 : ((j.length : Int) == 0) = false := by rw [beq_eq_false_iff_ne]; omega
      have HJL2 := Lib.hid (HJL.out (by first | trivial | rfl))
      clear hj0
      go_wp2_with fail
      refine (CBU.out _ HX3.out j Rj qj HO3.out HJL2.out.1).mono ?_
      obtain ⟨⟨t, bo⟩, ht⟩ : ∃ r : Tw × Bool, ((builtP j a a).1, decide ((builtP j a a).2 = 0)) = r := ⟨_, rfl⟩
      obtain ⟨⟨u, bu⟩, hu⟩ : ∃ r : Tw × Bool, ((builtP g a a).1, decide ((builtP g a a).2 = 0)) = r := ⟨_, rfl⟩
      have ht1 : (builtP j a a).1 = t := congrArg Prod.fst ht
      have hu1 : (builtP g a a).1 = u := congrArg Prod.fst hu
      rw [ht1, hu1] at HR
      rw [ht]
      have HU := Lib.hid hu
      clear ht ht1 hu1 hu
      rintro ed w4 ⟨A4, B4, N4, c4, d4, e4, rfl, hT4, hE4⟩
      simp only at hT4 ⊢
      have HT4 := Lib.hid hT4
      have HY4 := Lib.hid (HY3.out.trans hE4)
      have HX4 := Lib.hid (HX3.out.trans hE4)
      have HP4 := Lib.hid (HP3.out.ext hE4)
      have hz34 := hE4.size
      clear hE4 hT4 f0 f1 f2 g0 g1 g2 p0 p1 p2 z0 z1 z2 y0 y1 y2 m1 m2
      obtain ⟨⟨p0, p1, p2⟩, ⟨z0, z1, z2⟩, ⟨y0, y1, y2⟩⟩ := KZ.out w4 HY4.out
      have m4 : w.heap.size < w4.heap.size := by omega
      go_wp2_with fail
      obtain ⟨w5, hw5⟩ : ∃ w5, w4.alloc (.cells #[.slice A4 t.tokens.length c4, .slice B4 t.heights.length d4, .slice N4 t.next.length e4] 25) = w5 := ⟨_, rfl⟩
      have hE5 : Ext w4 w5 := by rw [← hw5]; exact (Ext.refl _).alloc _
      have r0 : w5.cell? ⟨w4.heap.size, 0, none⟩ = some (.slice A4 t.tokens.length c4) := by rw [← hw5]; clear hw5; go_simp
      have r1 : w5.cell? ⟨w4.heap.size, 1, none⟩ = some (.slice B4 t.heights.length d4) := by rw [← hw5]; clear hw5; go_simp
      have r2 : w5.cell? ⟨w4.heap.size, 2, none⟩ = some (.slice N4 t.next.length e4) := by rw [← hw5]; clear hw5; go_simp
      have hh9 := CBU.out w5 (HX4.out.trans hE5) g Rg qg (HP4.out.ext hE5) HJL2.out.2
      rw [HU.out] at hh9
      rw [hw5]
      refine hh9.mono ?_
      clear hh9 hw5
      rintro ed w6 ⟨A6, B6, N6, c6, d6, e6, rfl, hT6, hE6⟩
      simp only at hT6 ⊢
      have HT6 := Lib.hid hT6
      have HT4' := Lib.hid (HT4.out.ext (hE5.trans hE6))
      replace r0 := hE6.cell r0
      replace r1 := hE6.cell r1
      replace r2 := hE6.cell r2
      have HY6 := Lib.hid (HY4.out.trans (hE5.trans hE6))
      have HX6 := Lib.hid (HX4.out.trans (hE5.trans hE6))
      have hz45 := hE5.size
      have hz56 := hE6.size
      have HZS : Hid (w3.heap.size ≤ w4.heap.size ∧ w4.heap.size ≤ w5.heap.size) := Lib.hid ⟨hz34, hz45⟩
      clear hE5 hE6 hT6 p0 p1 p2 z0 z1 z2 y0 y1 y2
      obtain ⟨⟨p0, p1, p2⟩, ⟨z0, z1, z2⟩, ⟨y0, y1, y2⟩⟩ := KZ.out w6 HY6.out
      obtain ⟨fz, fy⟩ := FZ.out w6 HY6.out
      have f0 := fz 0 (by decide)
      have f1 := fz 1 (by decide)
      have f2 := fz 2 (by decide)
      have g0 := fy 0 (by decide)
      have g1 := fy 1 (by decide)
      have g2 := fy 2 (by decide)
      have m6 : w.heap.size + 1 + 1 < w6.heap.size := by omega
      have m7 : w.heap.size + 1 < w6.heap.size := by omega
      have m8 : w4.heap.size < w6.heap.size := World.block_lt_of_cell? _ _ r0
      have m9 : w.heap.size + 1 ≠ w4.heap.size := by omega
      have m10 : w.heap.size + 1 + 1 ≠ w4.heap.size := by omega
      clear fz fy p0 p1 p2 hz34 hz45 hz56 m3 m4
      go_wp2_with fail
      go_region_law (fail)
      all_goals go_wp2_with fail
      all_goals
        obtain ⟨W, hW⟩ : ∃ W, ((box3 (box3 w6 (w.heap.size + 1) (.slice A4 t.tokens.length c4) (.slice B4 t.heights.length d4) (.slice N4 t.next.length e4)) (w.heap.size + 1 + 1) (.slice A6 u.tokens.length c6) (.slice B6 u.heights.length d6) (.slice N6 u.next.length e6)).alloc (.cells #[.slice A6 u.tokens.length c6, .slice B6 u.heights.length d6, .slice N6 u.next.length e6] 25)).drew = W := ⟨_, rfl⟩
        have s00 : W.cell? ⟨w.heap.size + 1, 0, none⟩ = some (.slice A4 t.tokens.length c4) := by subst hW; go_simp
        have s01 : W.cell? ⟨w.heap.size + 1, 1, none⟩ = some (.slice B4 t.heights.length d4) := by subst hW; go_simp
        have s02 : W.cell? ⟨w.heap.size + 1, 2, none⟩ = some (.slice N4 t.next.length e4) := by subst hW; go_simp
        have s10 : W.cell? ⟨w.heap.size + 1 + 1, 0, none⟩ = some (.slice A6 u.tokens.length c6) := by subst hW; go_simp
        have s11 : W.cell? ⟨w.heap.size + 1 + 1, 1, none⟩ = some (.slice B6 u.heights.length d6) := by subst hW; go_simp
        have s12 : W.cell? ⟨w.heap.size + 1 + 1, 2, none⟩ = some (.slice N6 u.next.length e6) := by subst hW; go_simp
        have HWF := Lib.hid hW
        unfold box3 at hW
        rw [hW]
        clear hW
        refine bodyPost_ret (v := .tuple #[.agg #[.slice A4 t.tokens.length c4, .slice B4 t.heights.length d4, .slice N4 t.next.length e4], .agg #[.slice A6 u.tokens.length c6, .slice B6 u.heights.length d6, .slice N6 u.next.length e6], .bool true]) (by simp [results, Try.results14, go_sem, s00, s01, s02, s10, s11, s12]) rfl ?_
        rw [HR.out, ← HWF.out]
        have hb3 := HZS.out
        have hb4 := HN1.out
        have hb5 := HY3.out.size
        exact ⟨A4, B4, N4, A6, B6, N6, c4, d4, e4, c6, d6, e6, rfl, ((((HT4'.out.box (R := w.heap.size + 1) (by omega) _ _ _).box (R := w.heap.size + 1 + 1) (by omega) _ _ _).ext ((Ext.refl _).alloc _)).ext (Ext.refl _).drew).mono (by omega), ((((HT6.out.box (R := w.heap.size + 1) (by omega) _ _ _).box (R := w.heap.size + 1 + 1) (by omega) _ _ _).ext ((Ext.refl _).alloc _)).ext (Ext.refl _).drew).mono (by omega), ((ext_box (ext_box HX6.out HW1.out.1 _ _ _) HW1.out.2 _ _ _).alloc _).drew⟩
end Go.Proofs.Ytllpfegnpakadaa

/- The program's coin (At, Height, by the library's table of 32 bytes), and tower's heightOf, Heights. -/
namespace Go.Proofs.Ytllpfegnpakadaa
open Go.BigFrame
open Go.RowKit Go.Proofs.Ytllpfegnpakadaa.Plain

end Go.Proofs.Ytllpfegnpakadaa

/- The program's Head, Level, Walk, Same of towers. (Made out of the document's T14C, T14L, T14W by program, then by hand.) -/
namespace Go.Proofs.Ytllpfegnpakadaa
open Go.BigFrame
open Go.RowKit Go.Proofs.Ytllpfegnpakadaa.Plain

end Go.Proofs.Ytllpfegnpakadaa

/- Calls of towers with answers named; the fixed fact of tower's statements. Written by wip/mk_t14law.py. -/
namespace Go.Proofs.Ytllpfegnpakadaa
open Go.BigFrame
open Go.RowKit Go.Proofs.Ytllpfegnpakadaa.Plain

/-- a tower that reads so, its lengths by letters -/
structure TwA (w : World) (tk hs : List Int) (nx : List (List Int)) (n m k : Nat) (A B N : Option Addr) (c d e : Nat) : Prop where
  r : TwR w ⟨tk, hs, nx⟩ A B N c d e
  hn : tk.length = n
  hm : hs.length = m
  hk : nx.length = k
theorem TwA.ext {w W : World} {tk hs : List Int} {nx : List (List Int)} {n m k : Nat} {A B N : Option Addr} {c d e : Nat} (h : TwA w tk hs nx n m k A B N c d e) (hE : Ext w W) : TwA W tk hs nx n m k A B N c d e := ⟨h.r.ext hE, h.hn, h.hm, h.hk⟩
theorem TwR.ofSaid {w : World} {B' : Nat} {t : Tw} {A B N : Option Addr} {c d e : Nat} (h1 : Ow kInt B' w (.slice A t.tokens.length c) t.tokens) (h2 : Ow kInt B' w (.slice B t.heights.length d) t.heights) (h3 : Oww B' w (.slice N t.next.length e) t.next) : TwR w t A B N c d e := ⟨h1.rd, h2.rd, h3.rdd⟩
end Go.Proofs.Ytllpfegnpakadaa

/- The program's From, Plain, Next, Same (ring). Written by wip/mk_t13x.py. -/
namespace Go.Proofs.Ytllpfegnpakadaa
open Go.BigFrame
open Go.RowKit Go.Proofs.Ytllpfegnpakadaa.Plain

set_option maxHeartbeats 3200000 in
set_option maxRecDepth 100000 in
theorem pfrom13_any (l : List Int) (L : Option Addr) (lc : Nat) (x : Int) (w : World) (hL : Rd kInt w (.slice L l.length lc) l) (hl : l.length ≤ 2000) (hx : in64 x) :
    Calls Try.prog 35 #[.slice L l.length lc, .int .i64 x] w (LbSaid (fromR l x) w) := by
  have HL := Lib.hid hL
  have HLL := Lib.hid hl
  have HXX := Lib.hid hx
  clear hL hx hl
  by_cases h : rightL l = true ∧ x ∈ l
  · have hP : placesP l [x] = ([((l.idxOf x : Nat) : Int)], true) := places_yes h.1 (by simpa using h.2)
    have hf : fromR l x = (l.drop (l.idxOf x) ++ l.take (l.idxOf x), true) := by unfold fromR fromL; rw [if_pos h]
    have hi := List.idxOf_lt_length_of_mem h.2
    obtain ⟨q, hq⟩ : ∃ q, l.idxOf x = q := ⟨_, rfl⟩
    rw [hq] at hP hf hi
    have HP := Lib.hid hP
    have HF := Lib.hid hf
    have HI : Hid (q ≤ l.length) := Lib.hid (by omega)
    clear h hP hf hi hq
    go_enter Try.func35, Try.ntmps35
    go_wp2_with fail
    refine (pplaces13_any l [x] L _ lc 1 _ (HL.out.ext ((Ext.refl _).alloc _)) (one_at (heap_alloc_new _ _) HXX.out) HLL.out (by simp)).mono ?_
    rw [HP.out]
    rintro ed w1 ⟨A, c, rfl, hO, hE⟩
    have HX : Hid (Ext w w1) := Lib.hid (((Ext.refl w).alloc _).trans hE)
    simp only at hO ⊢
    obtain ⟨ba, oa, rfl, z0'⟩ := int_at9 hO.rd 0 (by simp)
    have z0 : w1.cell? ⟨ba, oa, none⟩ = some (.int .i64 q) := z0'
    have lba : ba < w1.heap.size := World.block_lt_of_cell? _ _ z0
    clear hO hE z0'
    go_wp2_with fail
    refine (pturned13_any l L lc q _ (HL.out.ext HX.out) HLL.out HI.out).mono ?_
    rintro ed w2 ⟨T, c2, rfl, hO2, hE2⟩
    have HO := Lib.hid (hO2.mono (B' := w.heap.size) HX.out.size)
    have HX2 := Lib.hid (HX.out.trans hE2)
    obtain ⟨r, hr⟩ : ∃ r, l.drop q ++ l.take q = r := ⟨_, rfl⟩
    rw [hr] at HO HF ⊢
    clear hO2 hE2 hr
    go_wp2_with fail
    exact bodyPost_ret (v := .tuple #[.slice T r.length c2, .bool true]) (by simp [results, Try.results35, go_sem]) rfl (by rw [HF.out]; exact ⟨T, c2, rfl, HO.out, HX2.out⟩)
  · have hP : placesP l [x] = ([], false) := places_no (fun h9 => h ⟨h9.1, by simpa using h9.2⟩)
    have HF : Hid (fromR l x = ([], false)) := Lib.hid (by unfold fromR; rw [if_neg h])
    have HP := Lib.hid hP
    clear h hP
    go_enter Try.func35, Try.ntmps35
    go_wp2_with fail
    refine (pplaces13_any l [x] L _ lc 1 _ (HL.out.ext ((Ext.refl _).alloc _)) (one_at (heap_alloc_new _ _) HXX.out) HLL.out (by simp)).mono ?_
    rw [HP.out]
    rintro ed w1 ⟨A, c, rfl, hO, hE⟩
    have HX : Hid (Ext w w1) := Lib.hid (((Ext.refl w).alloc _).trans hE)
    simp only at hO ⊢
    clear hO hE
    go_wp2_with fail
    exact bodyPost_ret (v := .tuple #[.slice none 0 0, .bool false]) (by simp [results, Try.results35, go_sem]) rfl (by rw [HF.out]; exact ⟨none, 0, rfl, Ow.nil _ _, HX.out⟩)
set_option maxHeartbeats 3200000 in
set_option maxRecDepth 100000 in
theorem pplain13_any (l : List Int) (L : Option Addr) (lc : Nat) (w : World) (hL : Rd kInt w (.slice L l.length lc) l) (hl : l.length ≤ 2000) :
    Calls Try.prog 43 #[.slice L l.length lc] w (LsSaid (plainR l) w) := by
  have HL := Lib.hid hL
  have HLL := Lib.hid hl
  have hl9 : (l.length : Int) ≤ 2000 := by omega
  have HC := Lib.hid (pright13_any l L lc w hL hl)
  clear hL
  cases hr : rightL l with
  | false =>
    rw [hr] at HC
    have HF : Hid (plainR l = []) := Lib.hid (by unfold plainR; rw [if_neg (by rw [hr]; simp)])
    clear hr
    go_enter Try.func43, Try.ntmps43
    go_wp2_with fail
    refine HC.out.mono ?_
    rintro ed w1 ⟨rfl, hE⟩
    have HE := Lib.hid hE
    clear hE
    go_wp2_with fail
    go_ret
    exact (by rw [HF.out]; exact ⟨none, 0, rfl, Ow.nil _ _, HE.out⟩)
  | true =>
    rw [hr] at HC
    by_cases h0 : l = []
    · have HF : Hid (plainR l = []) := Lib.hid (by unfold plainR; rw [if_neg (by simp [h0])])
      have e1 : ((l.length : Int) == 0) = true := by rw [h0]; rfl
      have e2 : (l.length == 0) = true := by rw [h0]; rfl
      have e3 : l.length = 0 := by rw [h0]; rfl
      clear hr h0 hl9 hl
      rw [e3] at HC ⊢
      go_enter Try.func43, Try.ntmps43
      go_wp2_with fail
      refine HC.out.mono ?_
      rintro ed w1 ⟨rfl, hE⟩
      have HE := Lib.hid hE
      clear hE
      go_wp2_with fail
      go_ret
      exact (by rw [HF.out]; exact ⟨none, 0, rfl, Ow.nil _ _, HE.out⟩)
    · have hpos : 0 < l.length := List.length_pos_iff.2 h0
      have e1 : ((l.length : Int) == 0) = false := by simp [h0]
      have e2 : (l.length == 0) = false := by simp [h0]
      have hmem := (least_in h0).1
      have hi := List.idxOf_lt_length_of_mem hmem
      have hpin := place_in hmem
      have hf : plainR l = l.drop (l.idxOf (leastL l)) ++ l.take (l.idxOf (leastL l)) := by unfold plainR fromL; rw [if_pos ⟨hr, h0⟩]
      have HNE := Lib.hid h0
      obtain ⟨m, hm⟩ : ∃ m, leastL l = m := ⟨_, rfl⟩
      rw [hm] at hi hpin hf
      obtain ⟨q, hq⟩ : ∃ q, l.idxOf m = q := ⟨_, rfl⟩
      rw [hq] at hi hpin hf
      have HM := Lib.hid hm
      have HF := Lib.hid hf
      have HI : Hid (q ≤ l.length) := Lib.hid (by omega)
      have HPI := Lib.hid hpin
      clear hr h0 hmem hi hpin hf hm hq hpos
      go_enter Try.func43, Try.ntmps43
      go_wp2_with fail
      refine HC.out.mono ?_
      rintro ed w1 ⟨rfl, hE⟩
      have HE := Lib.hid hE
      clear hE
      go_wp2_with fail
      refine (minI l L lc _ (HL.out.ext HE.out) HNE.out (Nat.le_trans HLL.out (by decide))).mono ?_
      rintro ed w2 ⟨rfl, rfl⟩
      rw [HM.out]
      go_wp2_with fail
      refine (indexI l L lc m _ (HL.out.ext HE.out)).mono ?_
      rintro ed w2 ⟨rfl, rfl⟩
      rw [HPI.out]
      go_wp2_with fail
      refine (pturned13_any l L lc q _ (HL.out.ext HE.out) HLL.out HI.out).mono ?_
      rintro ed w2 ⟨T, c2, rfl, hO2, hE2⟩
      have HO := Lib.hid (hO2.mono (B' := w.heap.size) HE.out.size)
      have HX2 := Lib.hid (HE.out.trans hE2)
      obtain ⟨r, hr⟩ : ∃ r, l.drop q ++ l.take q = r := ⟨_, rfl⟩
      rw [hr] at HO HF ⊢
      clear hO2 hE2 hr
      go_wp2_with fail
      go_ret
      exact (by rw [HF.out]; exact ⟨T, c2, rfl, HO.out, HX2.out⟩)
end Go.Proofs.Ytllpfegnpakadaa

/- The program's Join, Cut (ring). Written by wip/mk_t13x.py. -/
namespace Go.Proofs.Ytllpfegnpakadaa
open Go.BigFrame
open Go.RowKit Go.Proofs.Ytllpfegnpakadaa.Plain

set_option maxHeartbeats 3200000 in
set_option maxRecDepth 100000 in
theorem pjoin13_any (a b : List Int) (L O : Option Addr) (lc oc : Nat) (x y : Int) (w : World) (hL : Rd kInt w (.slice L a.length lc) a) (hO : Rd kInt w (.slice O b.length oc) b) (ha : a.length ≤ 2000) (hb : b.length ≤ 2000) (hx : in64 x) (hy : in64 y) :
    Calls Try.prog 29 #[.slice L a.length lc, .int .i64 x, .slice O b.length oc, .int .i64 y] w (LbSaid (joinR a x b y) w) := by
  have HL := Lib.hid hL
  have HO := Lib.hid hO
  have HA := Lib.hid ha
  have HB := Lib.hid hb
  have HXX := Lib.hid hx
  have HYY := Lib.hid hy
  clear hL hO ha hb hx hy
  obtain ⟨J, hJ⟩ : ∃ J, joinR a x b y = J := ⟨_, rfl⟩
  have HJ : Hid (J = if (rightL b = true ∧ y ∈ b) ∧ (rightL a = true ∧ x ∈ a) ∧ rightL (insB (plainR a) x (fromL b y)) = true then (insB (plainR a) x (fromL b y), true) else ([], false)) := Lib.hid hJ.symm
  rw [hJ]
  clear hJ
  go_enter Try.func29, Try.ntmps29
  go_wp2_with fail
  have hcf := pfrom13_any b O oc y w HO.out HB.out HYY.out
  by_cases hb : rightL b = true ∧ y ∈ b
  · have hf : fromR b y = (fromL b y, true) := by unfold fromR; rw [if_pos hb]
    have hfl := from_len b y
    have hb9 := ((rightL_iff b).1 hb.1).1
    obtain ⟨F, hF⟩ : ∃ F, fromL b y = F := ⟨_, rfl⟩
    rw [hF] at hf hfl HJ
    rw [hf] at hcf
    refine hcf.mono ?_
    clear hcf
    rintro ed w1 ⟨L1, l1, rfl, hO1, hE1⟩
    simp only at hO1 ⊢
    have HX1 := Lib.hid hE1
    have HF1 := Lib.hid hO1.rd
    have HFL : Hid (F.length ≤ 1000) := Lib.hid (by omega)
    have HBB := Lib.hid hb
    clear hO1 hE1 hb hf hfl hb9 hF
    go_wp2_with fail
    have hcp := pplain13_any a L lc w1 (HL.out.ext HX1.out) HA.out
    have hpl : (plainR a).length ≤ 1000 ∧ (∀ h : rightL a = true, rightL (plainR a) = true ∧ ∀ x, x ∈ plainR a ↔ x ∈ a) ∧ (rightL a = false → plainR a = []) := by
      refine ⟨?_, fun h => ⟨plain_is_right h, plain_mem h⟩, fun h => by unfold plainR; rw [if_neg (by rw [h]; simp)]⟩
      by_cases h0 : rightL a = true
      · have := (rot_perm (plain_right h0)).length_eq
        have := ((rightL_iff a).1 h0).1
        omega
      · unfold plainR; rw [if_neg (fun h => h0 h.1)]; simp
    obtain ⟨p, hp⟩ : ∃ p, plainR a = p := ⟨_, rfl⟩
    rw [hp] at hcp hpl HJ
    refine hcp.mono ?_
    clear hcp hp
    rintro ed w2 ⟨L2, l2, rfl, hO2, hE2⟩
    have HX2 := Lib.hid (HX1.out.trans hE2)
    have HP2 := Lib.hid hO2.rd
    have HF2 := Lib.hid (HF1.out.ext hE2)
    have HPL := Lib.hid hpl
    clear hO2 hE2 hpl HF1
    go_wp2_with fail
    have hcl := pplaces13_any p [x] L2 (some ⟨w2.heap.size, 0, none⟩) l2 1 (w2.alloc (.cells #[.int .i64 x] 3)) (HP2.out.ext ((Ext.refl _).alloc _)) (one_at (heap_alloc_new _ _) HXX.out) (Nat.le_trans HPL.out.1 (by decide)) (by simp)
    by_cases h : rightL a = true ∧ x ∈ a
    · obtain ⟨hrp, hmp⟩ := HPL.out.2.1 h.1
      have hxp : x ∈ p := (hmp x).2 h.2
      have hP : placesP p [x] = ([((p.idxOf x : Nat) : Int)], true) := places_yes hrp (by simpa using hxp)
      have hi := List.idxOf_lt_length_of_mem hxp
      have hins : insB p x F = p.take (p.idxOf x + 1) ++ F ++ p.drop (p.idxOf x + 1) := rfl
      rw [hP] at hcl
      obtain ⟨q, hq⟩ : ∃ q, p.idxOf x = q := ⟨_, rfl⟩
      rw [hq] at hcl hi hins
      have HJ2 : Hid (J = if rightL (insB p x F) = true then (insB p x F, true) else ([], false)) := Lib.hid (by
        rw [HJ.out]
        by_cases h9 : rightL (insB p x F) = true
        · rw [if_pos ⟨HBB.out, h, h9⟩, if_pos h9]
        · rw [if_neg (fun h8 => h9 h8.2.2), if_neg h9])
      refine hcl.mono ?_
      rintro ed w3 ⟨A, c, rfl, hO3, hE3⟩
      simp only at hO3 ⊢
      have hE3' : Ext w2 w3 := ((Ext.refl w2).alloc _).trans hE3
      have HX3 := Lib.hid (HX2.out.trans hE3')
      have HP3 := Lib.hid (HP2.out.ext hE3')
      have HF3 := Lib.hid (HF2.out.ext hE3')
      obtain ⟨ba, oa, rfl, z0'⟩ := int_at9 hO3.rd 0 (by simp)
      have z0 : w3.cell? ⟨ba, oa, none⟩ = some (.int .i64 q) := z0'
      have lba : ba < w3.heap.size := World.block_lt_of_cell? _ _ z0
      obtain ⟨q1, hq1⟩ : ∃ q1, q + 1 = q1 := ⟨_, rfl⟩
      rw [hq1] at hins
      have hq1I : (q : Int) + 1 = (q1 : Int) := by omega
      have hqw : IntKind.i64.wrap (q1 : Int) = (q1 : Int) := IntWalk.i64_in _ (by have := HPL.out.1; omega)
      have hq0 : (0 : Int) ≤ q1 := by omega
      have hqn : (q1 : Int) ≤ p.length := by omega
      obtain ⟨_, _, hsl, hlc⟩ := HP3.out.slice
      cases hsl
      have hqc : (q1 : Int) ≤ l2 := by omega
      have hpc : (p.length : Int) ≤ l2 := by omega
      have HT : Hid (Rd kInt w3 (.slice L2 q1 l2) (p.take q1)) := Lib.hid (Rd.take HP3.out q1 l2 (by omega) (by omega))
      have HD : Hid (Rd kInt w3 (.slice (if l2 = q1 then L2 else Option.map (fun x => x.add q1) L2) (p.length - q1) (l2 - q1)) (p.drop q1)) := Lib.hid (Rd.sliced HP3.out rfl q1 (by omega))
      have HLL : Hid ((p.take q1).length + F.length + (p.drop q1).length ≤ 1000000) := Lib.hid (by
        rw [List.length_take, List.length_drop]; have := HPL.out.1; have := HFL.out; omega)
      obtain ⟨r, hr⟩ : ∃ r, insB p x F = r := ⟨_, rfl⟩
      rw [hr] at hins HJ2
      have HR : Hid (p.take q1 ++ F ++ p.drop q1 = r) := Lib.hid hins.symm
      obtain ⟨k, hk⟩ : ∃ k, r.length = k := ⟨_, rfl⟩
      have HK := Lib.hid hk
      have HKL : Hid (k ≤ 2000) := Lib.hid (by
        rw [← hk, ← HR.out, List.length_append, List.length_append, List.length_take, List.length_drop]; have := HPL.out.1; have := HFL.out; omega)
      have HZ3 : Hid (w.heap.size ≤ w3.heap.size) := Lib.hid HX3.out.size
      clear hcl h hrp hmp hxp hP hi hins hq hq1 hO3 hE3 hE3' z0' hlc hr hk HJ HX2 HP2 HF2
      go_wp2_with fail
      go_region_law (first
        | (go_simp; go_at_call 45
           refine (concatI3_to _ _ (.slice L2 q1 l2) (.slice L1 F.length l1) (.slice (if l2 = q1 then L2 else Option.map (fun x => x.add q1) L2) (p.length - q1) (l2 - q1)) (p.take q1) F (p.drop q1) r k _ (by first | (go_simp; done) | fail) (by first | (go_simp; done) | fail) (by first | (go_simp; done) | fail) (HT.out.ext (by repeat (first | (with_reducible exact Ext.refl _) | (with_reducible assumption) | refine Ext.drew ?_ | refine Ext.drewN ?_ _ | refine Ext.alloc ?_ _))) (HF3.out.ext (by repeat (first | (with_reducible exact Ext.refl _) | (with_reducible assumption) | refine Ext.drew ?_ | refine Ext.drewN ?_ _ | refine Ext.alloc ?_ _))) (HD.out.ext (by repeat (first | (with_reducible exact Ext.refl _) | (with_reducible assumption) | refine Ext.drew ?_ | refine Ext.drewN ?_ _ | refine Ext.alloc ?_ _))) HLL.out HR.out HK.out).mono ?_
           rintro ed w5 ⟨A5, c5, rfl, hO5, hE5⟩
           have hx5 : Ext w3 w5 := Ext.trans (by repeat (first | (with_reducible exact Ext.refl _) | (with_reducible assumption) | refine Ext.drew ?_ | refine Ext.drewN ?_ _ | refine Ext.alloc ?_ _)) hE5
           have ho5 := hO5.mono (B' := w.heap.size) (by first | exact Nat.le_trans HZ3.out (Ext.size (w := w3) (by repeat (first | (with_reducible exact Ext.refl _) | (with_reducible assumption) | refine Ext.drew ?_ | refine Ext.drewN ?_ _ | refine Ext.alloc ?_ _))) | fail))
        | fail)
      all_goals go_wp2_with fail
      all_goals
        have hcr := pright13_any r A5 c5 w5 (by rw [HK.out]; exact ho5.rd) (by rw [HK.out]; exact HKL.out)
        rw [HK.out] at hcr
        have HX5 := Lib.hid (HX3.out.trans hx5)
        have HO5 := Lib.hid ho5
        clear hx5 ho5 hO5 hE5
        cases hr : rightL r with
        | false =>
          have HR : Hid (J = ([], false)) := Lib.hid (by rw [HJ2.out, if_neg (by rw [hr]; simp)])
          rw [hr] at hcr
          refine hcr.mono ?_
          rintro ed w6 ⟨rfl, hE6⟩
          have HX6 := Lib.hid (HX5.out.trans hE6)
          clear hr hcr hE6
          go_wp2_with fail
          exact bodyPost_ret (v := .tuple #[.slice none 0 0, .bool false]) (by simp [results, Try.results29, go_sem]) rfl (by rw [HR.out]; exact ⟨none, 0, rfl, Ow.nil _ _, HX6.out⟩)
        | true =>
          have HR : Hid (J = (r, true)) := Lib.hid (by rw [HJ2.out, if_pos hr])
          rw [hr] at hcr
          refine hcr.mono ?_
          rintro ed w6 ⟨rfl, hE6⟩
          have HX6 := Lib.hid (HX5.out.trans hE6)
          have HO6 := Lib.hid (HO5.out.ext hE6)
          clear hr hcr hE6
          go_wp2_with fail
          exact bodyPost_ret (v := .tuple #[.slice A5 k c5, .bool true]) (by simp [results, Try.results29, go_sem]) rfl (by rw [HR.out]; exact ⟨A5, c5, by rw [HK.out], by rw [HK.out]; exact HO6.out, HX6.out⟩)
    · have hP : placesP p [x] = ([], false) := places_no (fun h9 => h (by
        by_cases h0 : rightL a = true
        · exact ⟨h0, ((HPL.out.2.1 h0).2 x).1 (by simpa using h9.2)⟩
        · rw [HPL.out.2.2 (by simpa using h0)] at h9
          exact absurd (h9.2 x (by simp)) (by simp)))
      rw [hP] at hcl
      have HR : Hid (J = ([], false)) := Lib.hid (by rw [HJ.out, if_neg (fun h8 => h h8.2.1)])
      refine hcl.mono ?_
      rintro ed w3 ⟨A, c, rfl, hO3, hE3⟩
      simp only at hO3 ⊢
      have HX3 := Lib.hid (HX2.out.trans (((Ext.refl w2).alloc _).trans hE3))
      clear hcl h hP hO3 hE3
      go_wp2_with fail
      exact bodyPost_ret (v := .tuple #[.slice none 0 0, .bool false]) (by simp [results, Try.results29, go_sem]) rfl (by rw [HR.out]; exact ⟨none, 0, rfl, Ow.nil _ _, HX3.out⟩)
  · have hf : fromR b y = ([], false) := by unfold fromR; rw [if_neg hb]
    have HR : Hid (J = ([], false)) := Lib.hid (by rw [HJ.out, if_neg (fun h8 => hb h8.1)])
    rw [hf] at hcf
    refine hcf.mono ?_
    clear hcf
    rintro ed w1 ⟨L1, l1, rfl, hO1, hE1⟩
    simp only at hO1 ⊢
    have HX1 := Lib.hid hE1
    clear hO1 hE1 hb hf
    go_wp2_with fail
    exact bodyPost_ret (v := .tuple #[.slice none 0 0, .bool false]) (by simp [results, Try.results29, go_sem]) rfl (by rw [HR.out]; exact ⟨none, 0, rfl, Ow.nil _ _, HX1.out⟩)
set_option maxHeartbeats 3200000 in
set_option maxRecDepth 100000 in
theorem pcut13_any (l : List Int) (L : Option Addr) (lc : Nat) (x y : Int) (w : World) (hL : Rd kInt w (.slice L l.length lc) l) (hl : l.length ≤ 2000) (hx : in64 x) (hy : in64 y) :
    Calls Try.prog 33 #[.slice L l.length lc, .int .i64 x, .int .i64 y] w (CutSaid (cutR l x y) w) := by
  have HL := Lib.hid hL
  have hcl := pplaces13_any l [x, y] L (some ⟨w.heap.size, 0, none⟩) lc 2 (w.alloc (.cells #[.int .i64 x, .int .i64 y] 3)) (hL.ext ((Ext.refl _).alloc _)) (int_list w [x, y] _ 2 _ rfl rfl rfl (by decide) (by intro z hz; simp only [List.mem_cons, List.not_mem_nil, or_false] at hz; rcases hz with h9 | h9; (rw [h9]; exact hx); (rw [h9]; exact hy))) hl (by simp)
  obtain ⟨J, hJ⟩ : ∃ J, cutR l x y = J := ⟨_, rfl⟩
  have hJ2 : J = if rightL l = true ∧ x ∈ l ∧ y ∈ l then (l.filter (fun t => !(cutPart l x y).contains t), cutPart l x y, true) else ([], [], false) := hJ.symm
  rw [hJ]
  clear hJ hx hy hL
  by_cases h : rightL l = true ∧ x ∈ l ∧ y ∈ l
  · have hP : placesP l [x, y] = ([((l.idxOf x : Nat) : Int), ((l.idxOf y : Nat) : Int)], true) := places_yes h.1 (by simpa using h.2)
    rw [hP] at hcl
    rw [if_pos h] at hJ2
    obtain ⟨hr, hxl, hyl⟩ := h
    have hi := List.idxOf_lt_length_of_mem hxl
    have hj := List.idxOf_lt_length_of_mem hyl
    have hl9 := ((rightL_iff l).1 hr).1
    have hcf := cut_fwd (right_nodup hr) hxl hyl
    have hcb := cut_bwd (right_nodup hr) hxl hyl
    obtain ⟨i, hix⟩ : ∃ i, l.idxOf x = i := ⟨_, rfl⟩
    obtain ⟨j, hjx⟩ : ∃ j, l.idxOf y = j := ⟨_, rfl⟩
    rw [hix] at hcl hi hcf hcb
    rw [hjx] at hcl hj hcf hcb
    obtain ⟨f, hf⟩ : ∃ f, i + 1 = f := ⟨_, rfl⟩
    obtain ⟨t, ht⟩ : ∃ t, j + 1 = t := ⟨_, rfl⟩
    rw [hf, ht] at hcf hcb
    have hfI : (i : Int) + 1 = (f : Int) := by omega
    have htI : (j : Int) + 1 = (t : Int) := by omega
    have hfw : IntKind.i64.wrap (f : Int) = (f : Int) := IntWalk.i64_in _ (by omega)
    have htw : IntKind.i64.wrap (t : Int) = (t : Int) := IntWalk.i64_in _ (by omega)
    have HIJ : Hid (i + 1 = f ∧ j + 1 = t) := Lib.hid ⟨hf, ht⟩
    have HCF := Lib.hid hcf
    have HCB := Lib.hid hcb
    have HJ := Lib.hid hJ2
    have HB : Hid (f ≤ l.length ∧ t ≤ l.length ∧ l.length ≤ 1000) := Lib.hid ⟨by omega, by omega, hl9⟩
    have HCL := Lib.hid hcl
    clear hP hr hxl hyl hi hj hcf hcb hix hjx hf ht hJ2 hcl hl9 hl
    go_enter Try.func33, Try.ntmps33
    go_wp2_with fail
    refine HCL.out.mono ?_
    clear HCL
    rintro ed w1 ⟨A, c, rfl, hO1, hE1⟩
    simp only at hO1 ⊢
    have hE1' : Ext w w1 := ((Ext.refl w).alloc _).trans hE1
    have HX1 := Lib.hid hE1'
    obtain ⟨ba, oa, rfl, z0'⟩ := int_at9 hO1.rd 0 (by simp)
    have z0 : w1.cell? ⟨ba, oa, none⟩ = some (.int .i64 i) := z0'
    obtain ⟨ba2, oa2, hba, z1'⟩ := int_at9 hO1.rd 1 (by simp)
    cases hba
    have z1 : w1.cell? ⟨ba, oa + 1, none⟩ = some (.int .i64 j) := z1'
    have lba : ba < w1.heap.size := World.block_lt_of_cell? _ _ z0
    have hc2 : (2 : Int) ≤ c := by have := hO1.slice; obtain ⟨_, _, hs, hsc⟩ := this; cases hs; simp at hsc; omega
    have KS := Lib.hid (fun w' (hE : Ext w1 w') => And.intro (hE.cell z0) (hE.cell z1))
    clear hO1 hE1 hE1' z0' z1' z0 z1
    go_wp2_with fail
    refine wp_region_class (Ext w1) (by kernel_rfl) (by kernel_rfl) (Ext.refl _).drew ?_
    try simp only [List.append_eq, List.cons_append, List.nil_append]
    repeat (first
      | go_big_quiet_skip
      | (go_big_quiet_want
         first
         | (go_big_quiet_op; go_big_quiet_on)
         | (unfold Oper.quiet
            apply Exists.intro
            refine ⟨fun w' hC => ?_, ?_⟩
            · (obtain ⟨k1, k2⟩ := KS.out w' hC
               unfold Oper.quietAt
               go_simp
               first
               | exact rfl)
            go_simp
            go_big_quiet_on)))
    refine wpQuiet_nil ?_
    intro w2 hC2
    have HX2 := Lib.hid (HX1.out.trans hC2)
    have HL2 := Lib.hid (HL.out.ext HX2.out)
    have HZ2 : Hid (w.heap.size ≤ w2.heap.size) := Lib.hid HX2.out.size
    obtain ⟨_, _, hsl, hlc⟩ := HL.out.slice
    cases hsl
    have hf0 : (0 : Int) ≤ f := by omega
    have ht0 : (0 : Int) ≤ t := by omega
    have hfn : (f : Int) ≤ l.length := by have := HB.out; omega
    have htn : (t : Int) ≤ l.length := by have := HB.out; omega
    have hfc : (f : Int) ≤ lc := by omega
    have htc : (t : Int) ≤ lc := by omega
    have hlc9 : (l.length : Int) ≤ lc := by omega
    have HD := Lib.hid (fun q (hq : q ≤ l.length) => Rd.sliced HL2.out rfl q hq)
    have HT := Lib.hid (fun q (hq : q ≤ l.length) => Rd.take HL2.out q lc hq (by omega))
    clear hC2 HX1 KS hlc
    by_cases hlt : f < t
    · have hd : decide ((f : Int) < t) = true := decide_eq_true (by omega)
      have hdN : decide (f < t) = true := decide_eq_true hlt
      have hft : (f : Int) ≤ t := by omega
      obtain ⟨hp1, hp2⟩ := HCF.out (by have := HIJ.out; omega)
      rw [hp2, hp1, show j - i = t - f by have := HIJ.out; omega] at HJ
      obtain ⟨rr, hrr⟩ : ∃ r, l.take f ++ l.drop t = r := ⟨_, rfl⟩
      obtain ⟨pp, hpp⟩ : ∃ r, (l.drop f).take (t - f) = r := ⟨_, rfl⟩
      obtain ⟨kr, hkr⟩ : ∃ k, rr.length = k := ⟨_, rfl⟩
      obtain ⟨kp, hkp⟩ : ∃ k, t - f = k := ⟨_, rfl⟩
      have HRR := Lib.hid hrr
      have HKR := Lib.hid hkr
      have HKPL : Hid (kp ≤ 1048576) := Lib.hid (by have := HB.out; omega)
      have HU := Lib.hid (HT.out f HB.out.1)
      have HV := Lib.hid (HD.out t HB.out.2.1)
      have HLL : Hid ((l.take f).length + (l.drop t).length ≤ 1000000) := Lib.hid (by rw [List.length_take, List.length_drop]; have := HB.out; omega)
      have hps : Rd kInt w2 (.slice (if lc = f then L else Option.map (fun x => x.add f) L) (t - f) (lc - f)) pp := by
        rw [← hpp]
        exact Rd.take (HD.out f HB.out.1) (t - f) (lc - f) (by rw [List.length_drop]; have := HB.out; omega) (by have := HB.out; omega)
      have HP := Lib.hid hps
      have HKP : Hid (pp.length = kp) := Lib.hid (by rw [← hpp, List.length_take, List.length_drop]; have := HB.out; omega)
      rw [hrr, hpp] at HJ
      clear hlt hp1 hp2 hrr hpp hkr hps HCF HCB HT HD hkp
      go_wp2_with fail
      go_region_law (first
        | (go_simp; go_at_call 45
           refine (concatI2_to _ _ (.slice L f lc) (.slice (if lc = t then L else Option.map (fun x => x.add t) L) (l.length - t) (lc - t)) (l.take f) (l.drop t) rr kr _ (by first | (go_simp; done) | exact Ext.cell hEb (by first | (go_simp; done) | fail) | fail) (by first | (go_simp; done) | exact Ext.cell hEb (by first | (go_simp; done) | fail) | fail) (HU.out.ext (by repeat (first | (with_reducible exact Ext.refl _) | (with_reducible assumption) | refine Ext.drew ?_ | refine Ext.drewN ?_ _ | refine Ext.alloc ?_ _))) (HV.out.ext (by repeat (first | (with_reducible exact Ext.refl _) | (with_reducible assumption) | refine Ext.drew ?_ | refine Ext.drewN ?_ _ | refine Ext.alloc ?_ _))) HLL.out HRR.out HKR.out).mono ?_
           rintro ed wa ⟨Aa, ca, rfl, hOa, hEa⟩
           have xa : Ext w2 wa := Ext.trans (by repeat (first | (with_reducible exact Ext.refl _) | (with_reducible assumption) | refine Ext.drew ?_ | refine Ext.drewN ?_ _ | refine Ext.alloc ?_ _)) hEa
           have oa := hOa.mono (B' := w.heap.size) (by first | exact Nat.le_trans HZ2.out (Ext.size (w := w2) (by repeat (first | (with_reducible exact Ext.refl _) | (with_reducible assumption) | refine Ext.drew ?_ | refine Ext.drewN ?_ _ | refine Ext.alloc ?_ _))) | fail))
        | (go_simp; go_at_call 49
           refine (cloneI_to _ pp kp _ (HP.out.ext (by repeat (first | (with_reducible exact Ext.refl _) | (with_reducible assumption) | refine Ext.drew ?_ | refine Ext.drewN ?_ _ | refine Ext.alloc ?_ _))) HKP.out HKPL.out).mono ?_
           rintro ed wb ⟨Ab, cb, rfl, hOb, hEb⟩
           have xb : Ext w2 wb := Ext.trans (by repeat (first | (with_reducible exact Ext.refl _) | (with_reducible assumption) | refine Ext.drew ?_ | refine Ext.drewN ?_ _ | refine Ext.alloc ?_ _)) hEb
           have ob := hOb.mono (B' := w.heap.size) (by first | exact Nat.le_trans HZ2.out (Ext.size (w := w2) (by repeat (first | (with_reducible exact Ext.refl _) | (with_reducible assumption) | refine Ext.drew ?_ | refine Ext.drewN ?_ _ | refine Ext.alloc ?_ _))) | fail))
        | fail)

      all_goals go_wp2_with fail
      all_goals first
        | (refine bodyPost_ret (v := .tuple #[.slice Aa kr ca, .slice Ab kp cb, .bool true]) (by simp [results, Try.results33, go_sem]) rfl ?_; rw [HJ.out]; refine ⟨Aa, Ab, ca, cb, by rw [HKR.out, HKP.out], ?_, ?_, HX2.out.trans xb⟩; (rw [HKR.out]; exact oa.ext (Ext.trans (by first | ((repeat (first | (with_reducible exact Ext.refl _) | (with_reducible assumption) | refine Ext.drew ?_ | refine Ext.drewN ?_ _ | refine Ext.alloc ?_ _)); done) | fail) hEb)); (rw [HKP.out]; exact ob))
        | (refine bodyPost_ret (v := .tuple #[.slice Aa kr ca, .slice Ab kp cb, .bool true]) (by simp [results, Try.results33, go_sem]) rfl ?_; rw [HJ.out]; refine ⟨Aa, Ab, ca, cb, by rw [HKR.out, HKP.out], ?_, ?_, HX2.out.trans xa⟩; (rw [HKR.out]; exact oa); (rw [HKP.out]; exact ob.ext (Ext.trans (by first | ((repeat (first | (with_reducible exact Ext.refl _) | (with_reducible assumption) | refine Ext.drew ?_ | refine Ext.drewN ?_ _ | refine Ext.alloc ?_ _)); done) | fail) hEa)))
        | fail
    · have hd : decide ((f : Int) < t) = false := decide_eq_false (by omega)
      have hdN : decide (f < t) = false := decide_eq_false hlt
      have hft : (t : Int) ≤ f := by omega
      obtain ⟨hp1, hp2⟩ := HCB.out (by have := HIJ.out; omega)
      rw [hp2, hp1, show i - j = f - t by have := HIJ.out; omega] at HJ
      obtain ⟨rr, hrr⟩ : ∃ r, l.drop f ++ l.take t = r := ⟨_, rfl⟩
      obtain ⟨pp, hpp⟩ : ∃ r, (l.drop t).take (f - t) = r := ⟨_, rfl⟩
      obtain ⟨kr, hkr⟩ : ∃ k, rr.length = k := ⟨_, rfl⟩
      obtain ⟨kp, hkp⟩ : ∃ k, f - t = k := ⟨_, rfl⟩
      have HRR := Lib.hid hrr
      have HKR := Lib.hid hkr
      have HKPL : Hid (kp ≤ 1048576) := Lib.hid (by have := HB.out; omega)
      have HU := Lib.hid (HD.out f HB.out.1)
      have HV := Lib.hid (HT.out t HB.out.2.1)
      have HLL : Hid ((l.drop f).length + (l.take t).length ≤ 1000000) := Lib.hid (by rw [List.length_take, List.length_drop]; have := HB.out; omega)
      have hps : Rd kInt w2 (.slice (if lc = t then L else Option.map (fun x => x.add t) L) (f - t) (lc - t)) pp := by
        rw [← hpp]
        exact Rd.take (HD.out t HB.out.2.1) (f - t) (lc - t) (by rw [List.length_drop]; have := HB.out; omega) (by have := HB.out; omega)
      have HP := Lib.hid hps
      have HKP : Hid (pp.length = kp) := Lib.hid (by rw [← hpp, List.length_take, List.length_drop]; have := HB.out; omega)
      rw [hrr, hpp] at HJ
      clear hlt hp1 hp2 hrr hpp hkr hps HCF HCB HT HD hkp
      go_wp2_with fail
      go_region_law (first
        | (go_simp; go_at_call 45
           refine (concatI2_to _ _ (.slice (if lc = f then L else Option.map (fun x => x.add f) L) (l.length - f) (lc - f)) (.slice L t lc) (l.drop f) (l.take t) rr kr _ (by first | (go_simp; done) | exact Ext.cell hEb (by first | (go_simp; done) | fail) | fail) (by first | (go_simp; done) | exact Ext.cell hEb (by first | (go_simp; done) | fail) | fail) (HU.out.ext (by repeat (first | (with_reducible exact Ext.refl _) | (with_reducible assumption) | refine Ext.drew ?_ | refine Ext.drewN ?_ _ | refine Ext.alloc ?_ _))) (HV.out.ext (by repeat (first | (with_reducible exact Ext.refl _) | (with_reducible assumption) | refine Ext.drew ?_ | refine Ext.drewN ?_ _ | refine Ext.alloc ?_ _))) HLL.out HRR.out HKR.out).mono ?_
           rintro ed wa ⟨Aa, ca, rfl, hOa, hEa⟩
           have xa : Ext w2 wa := Ext.trans (by repeat (first | (with_reducible exact Ext.refl _) | (with_reducible assumption) | refine Ext.drew ?_ | refine Ext.drewN ?_ _ | refine Ext.alloc ?_ _)) hEa
           have oa := hOa.mono (B' := w.heap.size) (by first | exact Nat.le_trans HZ2.out (Ext.size (w := w2) (by repeat (first | (with_reducible exact Ext.refl _) | (with_reducible assumption) | refine Ext.drew ?_ | refine Ext.drewN ?_ _ | refine Ext.alloc ?_ _))) | fail))
        | (go_simp; go_at_call 49
           refine (cloneI_to _ pp kp _ (HP.out.ext (by repeat (first | (with_reducible exact Ext.refl _) | (with_reducible assumption) | refine Ext.drew ?_ | refine Ext.drewN ?_ _ | refine Ext.alloc ?_ _))) HKP.out HKPL.out).mono ?_
           rintro ed wb ⟨Ab, cb, rfl, hOb, hEb⟩
           have xb : Ext w2 wb := Ext.trans (by repeat (first | (with_reducible exact Ext.refl _) | (with_reducible assumption) | refine Ext.drew ?_ | refine Ext.drewN ?_ _ | refine Ext.alloc ?_ _)) hEb
           have ob := hOb.mono (B' := w.heap.size) (by first | exact Nat.le_trans HZ2.out (Ext.size (w := w2) (by repeat (first | (with_reducible exact Ext.refl _) | (with_reducible assumption) | refine Ext.drew ?_ | refine Ext.drewN ?_ _ | refine Ext.alloc ?_ _))) | fail))
        | fail)

      all_goals go_wp2_with fail
      all_goals first
        | (refine bodyPost_ret (v := .tuple #[.slice Ab kp cb, .slice Aa kr ca, .bool true]) (by simp [results, Try.results33, go_sem]) rfl ?_; rw [HJ.out]; refine ⟨Ab, Aa, cb, ca, by rw [HKR.out, HKP.out], ?_, ?_, HX2.out.trans xb⟩; (rw [HKP.out]; exact ob); (rw [HKR.out]; exact oa.ext (Ext.trans (by first | ((repeat (first | (with_reducible exact Ext.refl _) | (with_reducible assumption) | refine Ext.drew ?_ | refine Ext.drewN ?_ _ | refine Ext.alloc ?_ _)); done) | fail) hEb)))
        | (refine bodyPost_ret (v := .tuple #[.slice Ab kp cb, .slice Aa kr ca, .bool true]) (by simp [results, Try.results33, go_sem]) rfl ?_; rw [HJ.out]; refine ⟨Ab, Aa, cb, ca, by rw [HKR.out, HKP.out], ?_, ?_, HX2.out.trans xa⟩; (rw [HKP.out]; exact ob.ext (Ext.trans (by first | ((repeat (first | (with_reducible exact Ext.refl _) | (with_reducible assumption) | refine Ext.drew ?_ | refine Ext.drewN ?_ _ | refine Ext.alloc ?_ _)); done) | fail) hEa)); (rw [HKR.out]; exact oa))
        | fail
  · have hP : placesP l [x, y] = ([], false) := places_no (fun h9 => h ⟨h9.1, by simpa using h9.2⟩)
    rw [hP] at hcl
    have HR : Hid (J = ([], [], false)) := Lib.hid (by rw [hJ2, if_neg h])
    have HCL := Lib.hid hcl
    clear h hP hcl hJ2 hl
    go_enter Try.func33, Try.ntmps33
    go_wp2_with fail
    refine HCL.out.mono ?_
    rintro ed w1 ⟨A, c, rfl, hO, hE⟩
    have HX : Hid (Ext w w1) := Lib.hid (((Ext.refl w).alloc _).trans hE)
    simp only at hO ⊢
    clear hO hE
    go_wp2_with fail
    exact bodyPost_ret (v := .tuple #[.slice none 0 0, .slice none 0 0, .bool false]) (by simp [results, Try.results33, go_sem]) rfl (by rw [HR.out]; exact ⟨none, none, 0, 0, rfl, Ow.nil _ _, Ow.nil _ _, HX.out⟩)
end Go.Proofs.Ytllpfegnpakadaa

/- The program's Links of towers. -/
namespace Go.Proofs.Ytllpfegnpakadaa
open Go.BigFrame
open Go.RowKit Go.Proofs.Ytllpfegnpakadaa.Plain

set_option maxHeartbeats 6400000 in
set_option maxRecDepth 100000 in
theorem plinks15_any (t : Tw) (A B N : Option Addr) (c d e : Nat) (w : World) (ht : TwR w t A B N c d e) :
    Calls Try.prog 19 #[towV A t.tokens.length c B t.heights.length d N t.next.length e] w (LkSaid (linksP t) w) := by
  have HT := Lib.hid ht
  have HLK : Hid (linksP t = if rightTw t = true then linksF t.tokens t.heights t.heights.length else []) := Lib.hid rfl
  have HRF := Lib.hid (fun h => right_facts (t := t) h)
  have HX0 : Hid (Ext w (w.alloc (.cells #[.slice A t.tokens.length c, .slice B t.heights.length d, .slice N t.next.length e] 25))) := Lib.hid ((Ext.refl w).alloc _)
  clear ht
  go_enter Try.func19, Try.ntmps19
  go_wp2_with fail
  refine (pright14_any t A B N c d e _ (HT.out.ext HX0.out)).mono ?_
  rintro ed w1 ⟨rfl, hE1⟩
  have p0 : w1.cell? ⟨w.heap.size, 0, none⟩ = some (.slice A t.tokens.length c) := Ext.cell hE1 (by go_simp)
  have p1 : w1.cell? ⟨w.heap.size, 1, none⟩ = some (.slice B t.heights.length d) := Ext.cell hE1 (by go_simp)
  have p2 : w1.cell? ⟨w.heap.size, 2, none⟩ = some (.slice N t.next.length e) := Ext.cell hE1 (by go_simp)
  have pf : ∀ o, w1.frozen? ⟨w.heap.size, o, none⟩ = false := fun o => (Below.frozen hE1 (p := ⟨w.heap.size, o, none⟩) (by first | omega | (simp; omega) | simp)).trans (by go_simp)
  have lz1 := hE1.size
  simp at lz1
  have n1 : w.heap.size < w1.heap.size := by omega
  have HX1 := Lib.hid (HX0.out.trans hE1)
  clear hE1 lz1 HX0 pf
  cases hr : rightTw t with
  | false =>
    have HR : Hid (linksP t = []) := Lib.hid (by rw [HLK.out, hr]; rfl)
    clear hr HLK
    go_wp2_with fail
    refine bodyPost_ret (v := .slice none 0 0) (by simp [results, Try.results19, go_sem]) rfl (by rw [HR.out]; exact ⟨none, 0, rfl, Ow.nil _ _, HX1.out⟩)
  | true =>
    obtain ⟨g1, g2, g3, g4, g5⟩ := HRF.out hr
    have HR : Hid (linksP t = linksF t.tokens t.heights t.heights.length) := Lib.hid (by rw [HLK.out, hr]; rfl)
    obtain ⟨tk, htk⟩ : ∃ tk, t.tokens = tk := ⟨_, rfl⟩
    obtain ⟨hs, hhs⟩ : ∃ hs, t.heights = hs := ⟨_, rfl⟩
    obtain ⟨nx, hnx⟩ : ∃ nx, t.next = nx := ⟨_, rfl⟩
    have HTt : Hid (Rd kInt w1 (.slice A tk.length c) tk) := Lib.hid (by rw [← htk]; exact HT.out.tok.ext HX1.out)
    have HTn : Hid (Rdd w1 (.slice N nx.length e) nx) := Lib.hid (by rw [← hnx]; exact HT.out.nxt.ext HX1.out)
    rw [hhs] at g1 g3 g4
    rw [hhs, htk] at g2
    rw [hnx, hhs] at g5
    rw [htk, hhs] at HR
    rw [htk] at p0
    rw [hnx] at p2
    rw [htk, hhs, hnx]
    obtain ⟨n, hn⟩ : ∃ n, hs.length = n := ⟨_, rfl⟩
    have htn : tk.length = n := by omega
    have hxn : nx.length = n := by rw [g5]; simp [hn]
    have HG : Hid (tk.length = n ∧ nx.length = n ∧ hs.length = n ∧ nx = (List.range hs.length).map (nextsP hs) ∧ (∀ j, j < hs.length → 1 ≤ hs.getD j 0 ∧ hs.getD j 0 ≤ 8) ∧ n ≤ 1000) := Lib.hid ⟨htn, hxn, hn, g5, g4, by omega⟩
    rw [hn] at HR
    rw [htn] at p0 HTt ⊢
    rw [hxn] at p2 HTn ⊢
    have HP : Hid (∀ W, Ext w1 W → W.cell? ⟨w.heap.size, 0, none⟩ = some (.slice A n c) ∧ W.cell? ⟨w.heap.size, 2, none⟩ = some (.slice N n e)) := Lib.hid fun W hE => ⟨hE.cell p0, hE.cell p2⟩
    have hn9 : (n : Int) ≤ 1000 := by omega
    have hz1 := HX1.out.size
    clear hr HLK HRF HT g1 g2 g3 g4 g5 htk hhs hnx hn htn hxn p0 p1 p2
    obtain ⟨p0, p2⟩ := HP.out w1 (Ext.refl _)
    go_wp2_with fail
    clear p0 p2
    go_loopw [3, 14] (fun v i wr => ∃ k : Nat, k ≤ n ∧ i = .int .i64 k ∧ Ow kLink w1.heap.size wr v (linksF tk hs k) ∧ Ext w1 wr) (fun _ i _ => n - (intOf i).toNat)
    case atStart => exact ⟨0, Nat.zero_le _, rfl, Ow.nil _ _, Ext.refl _⟩
    case round =>
      obtain ⟨k, hk, rfl, hO, hX⟩ := hrel
      have HO := Lib.hid hO
      have HX := Lib.hid hX
      have hk0 : (0 : Int) ≤ k := by omega
      obtain ⟨p0, p2⟩ := HP.out wr hX
      have lw : w.heap.size < wr.heap.size := World.block_lt_of_cell? _ _ p0
      clear hO hX
      by_cases hlt : k < n
      · have hlt' : (k : Int) < n := by omega
        obtain ⟨q, hq⟩ : ∃ q : Nat, (hs.getD k 0).toNat = q := ⟨_, rfl⟩
        have h88 := HG.out.2.2.2.2.1 k (by rw [HG.out.2.2.1]; exact hlt)
        have hq8 : q ≤ 8 := by omega
        have hls : linksF tk hs (k + 1) = linksF tk hs k ++ rowP tk hs k q := by rw [← hq]; rfl
        have hlb := linksF_len (tk := tk) (hs := hs) (fun j hj => (HG.out.2.2.2.2.1 j hj).2) k (by rw [HG.out.2.2.1]; omega)
        obtain ⟨bn, on, Ru, ru, hbn, y0, hRu⟩ := HTn.out.row k (by rw [HG.out.2.1]; exact hlt)
        subst hbn
        have hru : nx.getD k [] = nextsP hs k := by
          rw [HG.out.2.2.2.1, List.getD_eq_getElem?_getD, List.getElem?_map, List.getElem?_range (by rw [HG.out.2.2.1]; exact hlt)]; rfl
        rw [hru, nextsP_len, hq] at y0
        rw [hru, nextsP_len, hq] at hRu
        obtain ⟨br, or_, hbr, hcr⟩ := (ints_of_rd hRu).cells (by rw [nextsP_len]; omega)
        subst hbr
        rw [nextsP_len, hq] at hcr
        obtain ⟨bt, ot, hbt, hct⟩ := (ints_of_rd HTt.out).cells (by rw [HG.out.1]; omega)
        subst hbt
        have HY0 : Hid (∀ W, Ext w1 W → W.cell? ⟨bn, on + k, none⟩ = some (.slice (some ⟨br, or_, none⟩) q ru)) := Lib.hid fun W hE => hE.cell y0
        have HCR := Lib.hid hcr
        have HCT := Lib.hid hct
        have HLS := Lib.hid hls
        have HLB := Lib.hid hlb
        have hx1 : wr.cell? ⟨bn, on + k, none⟩ = some (.slice (some ⟨br, or_, none⟩) q ru) := HX.out.cell y0
        have HQ : Hid ((hs.getD k 0).toNat = q ∧ k < n) := Lib.hid ⟨hq, hlt⟩
        have lbn : bn < wr.heap.size := World.block_lt_of_cell? _ _ hx1
        have hq9 : (q : Int) ≤ 8 := by omega
        have x0 : wr.cell? ⟨bt, ot + k, none⟩ = some (.int .i64 (tk.getD k 0)) := HX.out.cell (hct k (by rw [HG.out.1]; exact hlt))
        have lbt0 : bt < wr.heap.size := World.block_lt_of_cell? _ _ x0
        obtain ⟨x, hx⟩ : ∃ x, tk.getD k 0 = x := ⟨_, rfl⟩
        rw [hx] at x0
        have HXX := Lib.hid hx
        clear hq h88 hls hlb y0 hRu hru hcr hct hx
        go_wp2_with fail
        clear x0 hx1 lbt0
        generalize wr = wb at *
        go_loopw [3, 25] (fun v i wr => ∃ h : Nat, h ≤ q ∧ i = .int .i64 h ∧ Ow kLink w1.heap.size wr v (linksF tk hs k ++ rowP tk hs k h) ∧ Ext w1 wr) (fun _ i _ => q - (intOf i).toNat)
        case atStart => exact ⟨0, Nat.zero_le _, rfl, by rw [show rowP tk hs k 0 = [] from rfl, List.append_nil]; exact HO.out, HX.out⟩
        case round =>
          obtain ⟨h, hh, rfl, hO2, hX2⟩ := hrel
          have HO2 := Lib.hid hO2
          have HX2 := Lib.hid hX2
          have hh0 : (0 : Int) ≤ h := by omega
          obtain ⟨q0, q2⟩ := HP.out wr hX2
          have y0 := HY0.out wr hX2
          have lw2 : w.heap.size < wr.heap.size := World.block_lt_of_cell? _ _ q0
          have lbn2 : bn < wr.heap.size := World.block_lt_of_cell? _ _ y0
          have hzx := hX2.size
          clear hO2 hX2
          by_cases hlh : h < q
          · have hlh' : (h : Int) < q := by omega
            have z1 := HCR.out h hlh
            rw [nextsP_at hs k h (by rw [HQ.out.1]; exact hlh)] at z1
            obtain ⟨n1_, n2_, _⟩ := next_spec (hs := hs) (i := k) (h := h) (by rw [HG.out.2.2.1]; exact HQ.out.2) (by have := HQ.out.1; omega)
            obtain ⟨v, hv⟩ : ∃ v, nextP hs k h = v := ⟨_, rfl⟩
            rw [hv] at z1 n1_
            rw [HG.out.2.2.1] at n1_
            have x1 := HCT.out v (by rw [HG.out.1]; exact n1_)
            have okx : in64 (tk.getD k 0) := HTt.out.okAt k (by rw [HG.out.1]; exact HQ.out.2)
            have okz : in64 (tk.getD v 0) := HTt.out.okAt v (by rw [HG.out.1]; exact n1_)
            have hrs : linksF tk hs k ++ rowP tk hs k (h + 1) = (linksF tk hs k ++ rowP tk hs k h) ++ [(tk.getD k 0, (h : Int), tk.getD v 0)] := by rw [rowP_succ, List.append_assoc]; unfold linkP; rw [hv]
            have hrl := rowP_len tk hs k h
            have hal : (linksF tk hs k ++ rowP tk hs k h).length ≤ 9000 := by rw [List.length_append, hrl]; have := HLB.out; have := HG.out.2.2.2.2.2; omega
            obtain ⟨LST, hLST⟩ : ∃ l, linksF tk hs k ++ rowP tk hs k h = l := ⟨_, rfl⟩
            rw [hLST] at HO2 hrs hal
            obtain ⟨z, hz⟩ : ∃ x, tk.getD v 0 = x := ⟨_, rfl⟩
            rw [HXX.out] at okx hrs
            rw [hz] at x1 okz hrs
            replace x1 := HX2.out.cell x1
            replace z1 := HX2.out.cell z1
            have HOK : Hid (in64 x ∧ in64 (h : Int) ∧ in64 z) := Lib.hid ⟨okx, in64_nat h (by omega), okz⟩
            have HRS := Lib.hid hrs
            have HLL : Hid (LST.length + [(x, (h : Int), z)].length ≤ 1048576) := Lib.hid (by rw [List.length_singleton]; omega)
            obtain ⟨Av, cv, hv9, hcv⟩ := HO2.out.slice
            have lbr : br < wr.heap.size := World.block_lt_of_cell? _ _ z1
            have lbt : bt < wr.heap.size := World.block_lt_of_cell? _ _ x1
            have hv0 : (0 : Int) ≤ v := by omega
            have hvn : (v : Int) < n := by omega
            subst hv9
            have HY : Hid (Rd kLink (wr.alloc (.cells #[.int .i64 x, .int .i64 (h : Int), .int .i64 z] 51)) (.slice (some ⟨wr.heap.size, 0, none⟩) 1 1) [(x, (h : Int), z)]) := Lib.hid (link_at (heap_alloc_new _ _) HOK.out)
            clear n1_ n2_ hv okx okz hrs hrl hal hLST hz hcv q2 y0
            go_wp2_with (at_builtin; refine kLink.wpList_app (by rfl) (.tmp 30) (.tmp 39) (by rfl) (by rfl) w1.heap.size _ LST (by rfl) (HO2.out.ext ((Ext.refl _).alloc _)) _ [(x, (h : Int), z)] (by rfl) HY.out HLL.out (by simp; omega) ?_; intro v8 w8 hown8 hgrow8 hat8)
            have H8 := Lib.hid (And.intro hown8 (Ext.grown (HX2.out.alloc (.cells #[.int .i64 x, .int .i64 (h : Int), .int .i64 z] 51)) hgrow8 (fun b hb => (HO2.out.lt b hb).1)))
            clear hown8 hgrow8 hat8
            go_wp2_with fail
            go_roundw
            case rel => exact ⟨h + 1, by omega, by go_num, by rw [HRS.out]; exact H8.out.1, H8.out.2⟩
            case measure => simp [intOf]; omega
          · obtain rfl : h = q := by omega
            clear lw lbn
            go_wp2_with fail
            go_roundw
            case rel => exact ⟨k + 1, by have := HQ.out.2; omega, by go_num, by rw [HLS.out]; exact HO2.out, HX2.out⟩
            case measure => simp [intOf]; have := HQ.out.2; omega
      · obtain rfl : k = n := by omega
        obtain ⟨Lz, lz, hv, hlz⟩ := HO.out.slice
        subst hv
        go_wp2_with fail
        refine bodyPost_ret (v := .slice Lz (linksF tk hs k).length lz) (by simp [results, Try.results19, go_sem]) rfl (by rw [HR.out]; exact ⟨Lz, lz, rfl, HO.out.mono hz1, HX1.out.trans HX.out⟩)
end Go.Proofs.Ytllpfegnpakadaa

/- The program's Join, From, Cut, Links of towers. -/
namespace Go.Proofs.Ytllpfegnpakadaa
open Go.BigFrame
open Go.RowKit Go.Proofs.Ytllpfegnpakadaa.Plain

/-- a tower, and whether it is one -/
def TrSaid (r : Tw × Bool) (w : World) (ed : Ending) (w' : World) : Prop :=
  ∃ (A B N : Option Addr) (c d e : Nat), ed = .returned (.tuple #[towV A r.1.tokens.length c B r.1.heights.length d N r.1.next.length e, .bool r.2]) ∧ TwR w' r.1 A B N c d e ∧ Ext w w'
def TcrSaid (r : Tw × Tw × Bool) (w : World) (ed : Ending) (w' : World) : Prop :=
  ∃ (A B N A' B' N' : Option Addr) (c d e c' d' e' : Nat), ed = .returned (.tuple #[towV A r.1.tokens.length c B r.1.heights.length d N r.1.next.length e, towV A' r.2.1.tokens.length c' B' r.2.1.heights.length d' N' r.2.1.next.length e', .bool r.2.2]) ∧ TwR w' r.1 A B N c d e ∧ TwR w' r.2.1 A' B' N' c' d' e' ∧ Ext w w'
theorem TbSaid.r {r : Tw × Bool} {w w' : World} {ed : Ending} (h : TbSaid r w ed w') : TrSaid r w ed w' := by
  obtain ⟨A, B, N, c, d, e, h1, h2, h3⟩ := h
  exact ⟨A, B, N, c, d, e, h1, h2.r, h3⟩
theorem TcSaid.r {r : Tw × Tw × Bool} {w w' : World} {ed : Ending} (h : TcSaid r w ed w') : TcrSaid r w ed w' := by
  obtain ⟨A, B, N, A', B', N', c, d, e, c', d', e', h1, h2, h3, h4⟩ := h
  exact ⟨A, B, N, A', B', N', c, d, e, c', d', e', h1, h2.r, h3.r, h4⟩
/-- no tower, laid into the result's box -/
theorem tb_no {w W : World} (h : Ext w W) : TbSaid (noTw, false) w (.returned (.tuple #[towV none 0 0 none 0 0 none 0 0, .bool false])) W := ⟨none, none, none, 0, 0, 0, rfl, TwO.no _ _, h⟩
set_option maxHeartbeats 6400000 in
set_option maxRecDepth 100000 in
theorem pfrom15_any (a : Tw) (x : Int) (A B N : Option Addr) (c d e : Nat) (w : World) (ha : TwR w a A B N c d e) (hx : in64 x) :
    Calls Try.prog 15 #[towV A a.tokens.length c B a.heights.length d N a.next.length e, .int .i64 x] w (TbSaid (fromT a x) w) := by
  have HA := Lib.hid ha
  have HX := Lib.hid hx
  have hft : fromT a x = if rightTw a = true ∧ (fromR a.tokens x).2 = true then ((builtP (fromR a.tokens x).1 a a).1, decide ((builtP (fromR a.tokens x).1 a a).2 = 0)) else (noTw, false) := rfl
  have HFT := Lib.hid hft
  have HFL : Hid ((fromR a.tokens x).2 = true → (fromR a.tokens x).1.length ≤ 2000) := Lib.hid fun h => by
    unfold fromR at h ⊢
    by_cases hc : rightL a.tokens = true ∧ x ∈ a.tokens
    · rw [if_pos hc]
      have h1 := ((rightL_iff _).1 hc.1).1
      have h2 := (from_perm (l := a.tokens) x).length_eq
      simp only
      omega
    · rw [if_neg hc] at h; cases h
  clear ha hx hft
  go_enter Try.func15, Try.ntmps15
  go_wp2_with fail
  refine (pgather_one a A B N c d e (w.heap.size + 2) _ (HA.out.ext (by repeat (first | (with_reducible exact Ext.refl _) | (with_reducible assumption) | refine Ext.drew ?_ | refine Ext.drewN ?_ _ | refine Ext.alloc ?_ _))) (by go_simp) (by go_simp) (by go_simp)).mono ?_
  rintro ed w1 ⟨hE1, hcase⟩
  have p0 : w1.cell? ⟨w.heap.size, 0, none⟩ = some (.slice A a.tokens.length c) := Ext.cell hE1 (by go_simp)
  have p1 : w1.cell? ⟨w.heap.size, 1, none⟩ = some (.slice B a.heights.length d) := Ext.cell hE1 (by go_simp)
  have p2 : w1.cell? ⟨w.heap.size, 2, none⟩ = some (.slice N a.next.length e) := Ext.cell hE1 (by go_simp)
  have pf : ∀ o, w1.frozen? ⟨w.heap.size, o, none⟩ = false := fun o => (Below.frozen hE1 (p := ⟨w.heap.size, o, none⟩) (by first | omega | (simp; omega) | simp)).trans (by go_simp)
  clear pf
  have q0 : w1.cell? ⟨w.heap.size + 1, 0, none⟩ = some (.slice none 0 0) := Ext.cell hE1 (by go_simp)
  have q1 : w1.cell? ⟨w.heap.size + 1, 1, none⟩ = some (.slice none 0 0) := Ext.cell hE1 (by go_simp)
  have q2 : w1.cell? ⟨w.heap.size + 1, 2, none⟩ = some (.slice none 0 0) := Ext.cell hE1 (by go_simp)
  have qf : ∀ o, w1.frozen? ⟨w.heap.size + 1, o, none⟩ = false := fun o => (Below.frozen hE1 (p := ⟨w.heap.size + 1, o, none⟩) (by first | omega | (simp; omega) | simp)).trans (by go_simp)
  have HX1 : Hid (Ext w w1) := Lib.hid (Ext.trans (by repeat (first | (with_reducible exact Ext.refl _) | (with_reducible assumption) | refine Ext.drew ?_ | refine Ext.drewN ?_ _ | refine Ext.alloc ?_ _)) hE1)
  have lz1 := hE1.size
  simp at lz1
  have n1 : w.heap.size + 1 < w1.heap.size := by omega
  clear hE1 lz1
  rcases hcase with ⟨hr, m, q, D, rfl, hm, hO, hD⟩ | ⟨hr, rfl⟩
  · have HO := Lib.hid hO
    have HD := Lib.hid hD
    have hln : a.tokens.length ≤ 1000 := ((rightL_iff _).1 (right_tok hr).1).1
    have hcl := pfrom13_any a.tokens A c x w1 (HA.out.tok.ext HX1.out) (by omega) HX.out
    obtain ⟨⟨l, okf⟩, hf⟩ : ∃ r, fromR a.tokens x = r := ⟨_, rfl⟩
    rw [hf] at hcl HFT HFL
    rw [hr] at HFT
    have HCL := Lib.hid hcl
    clear hr hm hO hD hln hcl hf
    go_wp2_with fail
    refine HCL.out.mono ?_
    rintro ed w2 ⟨L2, lc2, rfl, hL2, hE2⟩
    simp only at hL2 ⊢
    replace q0 := hE2.cell q0
    replace q1 := hE2.cell q1
    replace q2 := hE2.cell q2
    replace qf := fun o => (Below.frozen hE2 (p := ⟨w.heap.size + 1, o, none⟩) n1).trans (qf o)
    have HX2 := Lib.hid (HX1.out.trans hE2)
    have HO2 := Lib.hid (owns_ext HO.out hE2)
    have HL2 := Lib.hid hL2.rd
    have n2 : w.heap.size + 1 < w2.heap.size := by have := hE2.size; omega
    clear hE2 hL2 p0 p1 p2
    cases okf with
    | false =>
      have HR : Hid (fromT a x = (noTw, false)) := Lib.hid (by rw [HFT.out]; rfl)
      go_wp2_with fail
      exact bodyPost_ret (v := .tuple #[towV none 0 0 none 0 0 none 0 0, .bool false]) (by simp [results, Try.results15, go_sem, q0, q1, q2]) rfl (by rw [HR.out]; exact tb_no (((HX2.out.setCell (p := ⟨w.heap.size + 1, 0, none⟩) (Nat.le_succ _) _).setCell (p := ⟨w.heap.size + 1, 1, none⟩) (Nat.le_succ _) _).setCell (p := ⟨w.heap.size + 1, 2, none⟩) (Nat.le_succ _) _))
    | true =>
      have HLL : Hid (l.length ≤ 2000) := Lib.hid (HFL.out rfl)
      have hfb : fromT a x = ((builtP l a a).1, decide ((builtP l a a).2 = 0)) := by rw [HFT.out]; rfl
      go_wp2_with fail
      refine (pbuilt15_any l L2 lc2 m q D _ w2 HL2.out HLL.out HO2.out HD.out).mono ?_
      rw [built_one]
      rintro ed w3 ⟨A1, B1, N1, c1, d1, e1, rfl, hT3, hE3⟩
      replace q0 := hE3.cell q0
      replace q1 := hE3.cell q1
      replace q2 := hE3.cell q2
      replace qf := fun o => (Below.frozen hE3 (p := ⟨w.heap.size + 1, o, none⟩) n2).trans (qf o)
      have HX3 := Lib.hid (HX2.out.trans hE3)
      have LW : Hid (w.heap.size + 1 < w2.heap.size) := Lib.hid n2
      have n3 : w.heap.size + 1 < w3.heap.size := by have := hE3.size; have := LW.out; omega
      clear hE3
      obtain ⟨⟨⟨rt, rh, rn⟩, er⟩, hb⟩ : ∃ r, builtP l a a = r := ⟨_, rfl⟩
      rw [hb] at hT3 hfb ⊢
      simp only at hT3 hfb ⊢
      have HT3 := Lib.hid hT3
      have HFB := Lib.hid hfb
      obtain ⟨ok, hok⟩ : ∃ ok, decide (er = 0) = ok := ⟨_, rfl⟩
      rw [hok] at HFB ⊢
      clear hT3 hb hok hfb
      go_wp2_with fail
      have hXW : Ext w (((w3.setCell ⟨w.heap.size + 1, 0, none⟩ (.slice A1 rt.length c1)).setCell ⟨w.heap.size + 1, 1, none⟩ (.slice B1 rh.length d1)).setCell ⟨w.heap.size + 1, 2, none⟩ (.slice N1 rn.length e1)) := (((HX3.out.setCell (p := ⟨w.heap.size + 1, 0, none⟩) (Nat.le_succ _) _).setCell (p := ⟨w.heap.size + 1, 1, none⟩) (Nat.le_succ _) _).setCell (p := ⟨w.heap.size + 1, 2, none⟩) (Nat.le_succ _) _)
      have hTW : TwO w.heap.size (((w3.setCell ⟨w.heap.size + 1, 0, none⟩ (.slice A1 rt.length c1)).setCell ⟨w.heap.size + 1, 1, none⟩ (.slice B1 rh.length d1)).setCell ⟨w.heap.size + 1, 2, none⟩ (.slice N1 rn.length e1)) ⟨rt, rh, rn⟩ A1 B1 N1 c1 d1 e1 := (((HT3.out.set (p := ⟨w.heap.size + 1, 0, none⟩) LW.out _).set (p := ⟨w.heap.size + 1, 1, none⟩) LW.out _).set (p := ⟨w.heap.size + 1, 2, none⟩) LW.out _).mono (by have := LW.out; omega)
      obtain ⟨W, hW⟩ : ∃ W, (((w3.setCell ⟨w.heap.size + 1, 0, none⟩ (.slice A1 rt.length c1)).setCell ⟨w.heap.size + 1, 1, none⟩ (.slice B1 rh.length d1)).setCell ⟨w.heap.size + 1, 2, none⟩ (.slice N1 rn.length e1)) = W := ⟨_, rfl⟩
      have t0 : W.cell? ⟨w.heap.size + 1, 0, none⟩ = some (.slice A1 rt.length c1) := by subst hW; clear hXW hTW; go_simp
      have t1 : W.cell? ⟨w.heap.size + 1, 1, none⟩ = some (.slice B1 rh.length d1) := by subst hW; clear hXW hTW; go_simp
      have t2 : W.cell? ⟨w.heap.size + 1, 2, none⟩ = some (.slice N1 rn.length e1) := by subst hW; clear hXW hTW; go_simp
      rw [hW] at hXW hTW ⊢
      clear hW q0 q1 q2 qf
      refine bodyPost_ret (v := .tuple #[towV A1 rt.length c1 B1 rh.length d1 N1 rn.length e1, .bool ok]) (by simp [results, Try.results15, go_sem, t0, t1, t2]) rfl (by rw [HFB.out]; exact ⟨A1, B1, N1, c1, d1, e1, rfl, hTW, hXW⟩)
  · have HR : Hid (fromT a x = (noTw, false)) := Lib.hid (by rw [HFT.out, if_neg (by rw [hr]; exact fun h => absurd h.1 (by decide))])
    clear hr
    go_wp2_with fail
    exact bodyPost_ret (v := .tuple #[towV none 0 0 none 0 0 none 0 0, .bool false]) (by simp [results, Try.results15, go_sem, q0, q1, q2]) rfl (by rw [HR.out]; exact tb_no (((HX1.out.setCell (p := ⟨w.heap.size + 1, 0, none⟩) (Nat.le_succ _) _).setCell (p := ⟨w.heap.size + 1, 1, none⟩) (Nat.le_succ _) _).setCell (p := ⟨w.heap.size + 1, 2, none⟩) (Nat.le_succ _) _))
set_option maxHeartbeats 6400000 in
set_option maxRecDepth 100000 in
theorem pjoin15_any (a b : Tw) (x y : Int) (A B N : Option Addr) (c d e : Nat) (A' B' N' : Option Addr) (c' d' e' : Nat) (w : World) (ha : TwR w a A B N c d e) (hb : TwR w b A' B' N' c' d' e') (hx : in64 x) (hy : in64 y) :
    Calls Try.prog 11 #[towV A a.tokens.length c B a.heights.length d N a.next.length e, .int .i64 x, towV A' b.tokens.length c' B' b.heights.length d' N' b.next.length e', .int .i64 y] w (TbSaid (joinT a x b y) w) := by
  have HA := Lib.hid ha
  have HB := Lib.hid hb
  have HX := Lib.hid (And.intro hx hy)
  have hft : joinT a x b y = if rightTw a = true ∧ rightTw b = true ∧ (joinR a.tokens x b.tokens y).2 = true then ((builtP (joinR a.tokens x b.tokens y).1 a b).1, decide ((builtP (joinR a.tokens x b.tokens y).1 a b).2 = 0)) else (noTw, false) := rfl
  have HFT := Lib.hid hft
  have HAP := Lib.hid (join_apart (a := a.tokens) (b := b.tokens) (x := x) (y := y))
  have HFL : Hid ((joinR a.tokens x b.tokens y).2 = true → (joinR a.tokens x b.tokens y).1.length ≤ 2000) := Lib.hid fun h => by
    unfold joinR at h ⊢
    by_cases hc : (rightL b.tokens = true ∧ y ∈ b.tokens) ∧ (rightL a.tokens = true ∧ x ∈ a.tokens) ∧ rightL (insB (plainR a.tokens) x (fromL b.tokens y)) = true
    · rw [if_pos hc]
      have h1 := ((rightL_iff _).1 hc.2.2).1
      simp only
      omega
    · rw [if_neg hc] at h; cases h
  clear ha hb hx hy hft
  go_enter Try.func11, Try.ntmps11
  go_wp2_with fail
  refine (pgather_two a b A B N A' B' N' c d e c' d' e' (w.heap.size + 3) _ (HA.out.ext (by repeat (first | (with_reducible exact Ext.refl _) | (with_reducible assumption) | refine Ext.drew ?_ | refine Ext.drewN ?_ _ | refine Ext.alloc ?_ _))) (HB.out.ext (by repeat (first | (with_reducible exact Ext.refl _) | (with_reducible assumption) | refine Ext.drew ?_ | refine Ext.drewN ?_ _ | refine Ext.alloc ?_ _))) (by go_simp) (by go_simp) (by go_simp) (by go_simp) (by go_simp) (by go_simp)).mono ?_
  rintro ed w1 ⟨hE1, hcase⟩
  have p0 : w1.cell? ⟨w.heap.size, 0, none⟩ = some (.slice A a.tokens.length c) := Ext.cell hE1 (by go_simp)
  have p1 : w1.cell? ⟨w.heap.size, 1, none⟩ = some (.slice B a.heights.length d) := Ext.cell hE1 (by go_simp)
  have p2 : w1.cell? ⟨w.heap.size, 2, none⟩ = some (.slice N a.next.length e) := Ext.cell hE1 (by go_simp)
  have pf : ∀ o, w1.frozen? ⟨w.heap.size, o, none⟩ = false := fun o => (Below.frozen hE1 (p := ⟨w.heap.size, o, none⟩) (by first | omega | (simp; omega) | simp)).trans (by go_simp)
  clear pf
  have s0 : w1.cell? ⟨w.heap.size + 1, 0, none⟩ = some (.slice A' b.tokens.length c') := Ext.cell hE1 (by go_simp)
  have s1 : w1.cell? ⟨w.heap.size + 1, 1, none⟩ = some (.slice B' b.heights.length d') := Ext.cell hE1 (by go_simp)
  have s2 : w1.cell? ⟨w.heap.size + 1, 2, none⟩ = some (.slice N' b.next.length e') := Ext.cell hE1 (by go_simp)
  have sf : ∀ o, w1.frozen? ⟨w.heap.size + 1, o, none⟩ = false := fun o => (Below.frozen hE1 (p := ⟨w.heap.size + 1, o, none⟩) (by first | omega | (simp; omega) | simp)).trans (by go_simp)
  clear sf
  have q0 : w1.cell? ⟨w.heap.size + 2, 0, none⟩ = some (.slice none 0 0) := Ext.cell hE1 (by go_simp)
  have q1 : w1.cell? ⟨w.heap.size + 2, 1, none⟩ = some (.slice none 0 0) := Ext.cell hE1 (by go_simp)
  have q2 : w1.cell? ⟨w.heap.size + 2, 2, none⟩ = some (.slice none 0 0) := Ext.cell hE1 (by go_simp)
  have qf : ∀ o, w1.frozen? ⟨w.heap.size + 2, o, none⟩ = false := fun o => (Below.frozen hE1 (p := ⟨w.heap.size + 2, o, none⟩) (by first | omega | (simp; omega) | simp)).trans (by go_simp)
  have HX1 : Hid (Ext w w1) := Lib.hid (Ext.trans (by repeat (first | (with_reducible exact Ext.refl _) | (with_reducible assumption) | refine Ext.drew ?_ | refine Ext.drewN ?_ _ | refine Ext.alloc ?_ _)) hE1)
  have lz1 := hE1.size
  simp at lz1
  have n1 : w.heap.size + 2 < w1.heap.size := by omega
  have n1b : w.heap.size + 1 < w1.heap.size := by omega
  have n1c : w.heap.size < w1.heap.size := by omega
  clear hE1 lz1
  rcases hcase with ⟨hr, hr2, m, q, D, rfl, hm, hO, hD⟩ | ⟨hr, rfl⟩
  · have HO := Lib.hid hO
    have HD := Lib.hid hD
    have hln : a.tokens.length ≤ 1000 := ((rightL_iff _).1 (right_tok hr).1).1
    have hln2 : b.tokens.length ≤ 1000 := ((rightL_iff _).1 (right_tok hr2).1).1
    have hcl := pjoin13_any a.tokens b.tokens A A' c c' x y w1 (HA.out.tok.ext HX1.out) (HB.out.tok.ext HX1.out) (by omega) (by omega) HX.out.1 HX.out.2
    obtain ⟨⟨l, okf⟩, hf⟩ : ∃ r, joinR a.tokens x b.tokens y = r := ⟨_, rfl⟩
    rw [hf] at hcl HFT HFL HAP
    rw [hr, hr2] at HFT
    have HCL := Lib.hid hcl
    clear hr hr2 hm hO hD hln hln2 hcl hf
    go_wp2_with fail
    refine HCL.out.mono ?_
    rintro ed w2 ⟨L2, lc2, rfl, hL2, hE2⟩
    simp only at hL2 ⊢
    replace q0 := hE2.cell q0
    replace q1 := hE2.cell q1
    replace q2 := hE2.cell q2
    replace qf := fun o => (Below.frozen hE2 (p := ⟨w.heap.size + 2, o, none⟩) n1).trans (qf o)
    have HX2 := Lib.hid (HX1.out.trans hE2)
    have HO2 := Lib.hid (owns_ext HO.out hE2)
    have HL2 := Lib.hid hL2.rd
    have n2 : w.heap.size + 2 < w2.heap.size := by have := hE2.size; omega
    clear hE2 hL2 p0 p1 p2 s0 s1 s2
    cases okf with
    | false =>
      have HR : Hid (joinT a x b y = (noTw, false)) := Lib.hid (by rw [HFT.out]; rfl)
      go_wp2_with fail
      exact bodyPost_ret (v := .tuple #[towV none 0 0 none 0 0 none 0 0, .bool false]) (by simp [results, Try.results11, go_sem, q0, q1, q2]) rfl (by rw [HR.out]; exact tb_no (((HX2.out.setCell (p := ⟨w.heap.size + 2, 0, none⟩) (Nat.le_add_right _ _) _).setCell (p := ⟨w.heap.size + 2, 1, none⟩) (Nat.le_add_right _ _) _).setCell (p := ⟨w.heap.size + 2, 2, none⟩) (Nat.le_add_right _ _) _))
    | true =>
      have HLL : Hid (l.length ≤ 2000) := Lib.hid (HFL.out rfl)
      have hfb : joinT a x b y = ((builtP l a b).1, decide ((builtP l a b).2 = 0)) := by rw [HFT.out]; rfl
      have HB2 : Hid (buildP l (l.map (hAt (hF (fun i => if i = 0 then a else b) 2))) = builtP l a b) := Lib.hid (built_two l (fun i => if i = 0 then a else b) (fun z => HAP.out rfl z))
      go_wp2_with fail
      refine (pbuilt15_any l L2 lc2 m q D _ w2 HL2.out HLL.out HO2.out HD.out).mono ?_
      rw [HB2.out]
      rintro ed w3 ⟨A1, B1, N1, c1, d1, e1, rfl, hT3, hE3⟩
      replace q0 := hE3.cell q0
      replace q1 := hE3.cell q1
      replace q2 := hE3.cell q2
      replace qf := fun o => (Below.frozen hE3 (p := ⟨w.heap.size + 2, o, none⟩) n2).trans (qf o)
      have HX3 := Lib.hid (HX2.out.trans hE3)
      have LW : Hid (w.heap.size + 2 < w2.heap.size) := Lib.hid n2
      have n3 : w.heap.size + 2 < w3.heap.size := by have := hE3.size; have := LW.out; omega
      clear hE3
      obtain ⟨⟨⟨rt, rh, rn⟩, er⟩, hb⟩ : ∃ r, builtP l a b = r := ⟨_, rfl⟩
      rw [hb] at hT3 hfb ⊢
      simp only at hT3 hfb ⊢
      have HT3 := Lib.hid hT3
      have HFB := Lib.hid hfb
      obtain ⟨ok, hok⟩ : ∃ ok, decide (er = 0) = ok := ⟨_, rfl⟩
      rw [hok] at HFB ⊢
      clear hT3 hb hok hfb
      go_wp2_with fail
      have hXW : Ext w (((w3.setCell ⟨w.heap.size + 2, 0, none⟩ (.slice A1 rt.length c1)).setCell ⟨w.heap.size + 2, 1, none⟩ (.slice B1 rh.length d1)).setCell ⟨w.heap.size + 2, 2, none⟩ (.slice N1 rn.length e1)) := (((HX3.out.setCell (p := ⟨w.heap.size + 2, 0, none⟩) (Nat.le_add_right _ _) _).setCell (p := ⟨w.heap.size + 2, 1, none⟩) (Nat.le_add_right _ _) _).setCell (p := ⟨w.heap.size + 2, 2, none⟩) (Nat.le_add_right _ _) _)
      have hTW : TwO w.heap.size (((w3.setCell ⟨w.heap.size + 2, 0, none⟩ (.slice A1 rt.length c1)).setCell ⟨w.heap.size + 2, 1, none⟩ (.slice B1 rh.length d1)).setCell ⟨w.heap.size + 2, 2, none⟩ (.slice N1 rn.length e1)) ⟨rt, rh, rn⟩ A1 B1 N1 c1 d1 e1 := (((HT3.out.set (p := ⟨w.heap.size + 2, 0, none⟩) LW.out _).set (p := ⟨w.heap.size + 2, 1, none⟩) LW.out _).set (p := ⟨w.heap.size + 2, 2, none⟩) LW.out _).mono (by have := LW.out; omega)
      obtain ⟨W, hW⟩ : ∃ W, (((w3.setCell ⟨w.heap.size + 2, 0, none⟩ (.slice A1 rt.length c1)).setCell ⟨w.heap.size + 2, 1, none⟩ (.slice B1 rh.length d1)).setCell ⟨w.heap.size + 2, 2, none⟩ (.slice N1 rn.length e1)) = W := ⟨_, rfl⟩
      have t0 : W.cell? ⟨w.heap.size + 2, 0, none⟩ = some (.slice A1 rt.length c1) := by subst hW; clear hXW hTW; go_simp
      have t1 : W.cell? ⟨w.heap.size + 2, 1, none⟩ = some (.slice B1 rh.length d1) := by subst hW; clear hXW hTW; go_simp
      have t2 : W.cell? ⟨w.heap.size + 2, 2, none⟩ = some (.slice N1 rn.length e1) := by subst hW; clear hXW hTW; go_simp
      rw [hW] at hXW hTW ⊢
      clear hW q0 q1 q2 qf
      refine bodyPost_ret (v := .tuple #[towV A1 rt.length c1 B1 rh.length d1 N1 rn.length e1, .bool ok]) (by simp [results, Try.results11, go_sem, t0, t1, t2]) rfl (by rw [HFB.out]; exact ⟨A1, B1, N1, c1, d1, e1, rfl, hTW, hXW⟩)
  · have HR : Hid (joinT a x b y = (noTw, false)) := Lib.hid (by rw [HFT.out, if_neg (fun h => hr ⟨h.1, h.2.1⟩)])
    clear hr
    go_wp2_with fail
    exact bodyPost_ret (v := .tuple #[towV none 0 0 none 0 0 none 0 0, .bool false]) (by simp [results, Try.results11, go_sem, q0, q1, q2]) rfl (by rw [HR.out]; exact tb_no (((HX1.out.setCell (p := ⟨w.heap.size + 2, 0, none⟩) (Nat.le_add_right _ _) _).setCell (p := ⟨w.heap.size + 2, 1, none⟩) (Nat.le_add_right _ _) _).setCell (p := ⟨w.heap.size + 2, 2, none⟩) (Nat.le_add_right _ _) _))
/-- no towers, laid into the results' boxes -/
theorem tc_no {w W : World} (h : Ext w W) : TcSaid (noTw, noTw, false) w (.returned (.tuple #[towV none 0 0 none 0 0 none 0 0, towV none 0 0 none 0 0 none 0 0, .bool false])) W := ⟨none, none, none, none, none, none, 0, 0, 0, 0, 0, 0, rfl, TwO.no _ _, TwO.no _ _, h⟩
set_option maxHeartbeats 12800000 in
set_option maxRecDepth 100000 in
theorem pcut15_any (a : Tw) (x y : Int) (A B N : Option Addr) (c d e : Nat) (w : World) (ha : TwR w a A B N c d e) (hx : in64 x) (hy : in64 y) :
    Calls Try.prog 13 #[towV A a.tokens.length c B a.heights.length d N a.next.length e, .int .i64 x, .int .i64 y] w (TcSaid (cutT a x y) w) := by
  have HA := Lib.hid ha
  have HX := Lib.hid (And.intro hx hy)
  have hft : cutT a x y = if rightTw a = true ∧ (cutR a.tokens x y).2.2 = true ∧ (cutR a.tokens x y).1.length ≠ 0 then ((builtP (cutR a.tokens x y).1 a a).1, (builtP (cutR a.tokens x y).2.1 a a).1, true) else (noTw, noTw, false) := rfl
  have HFT := Lib.hid hft
  have HFL := Lib.hid (cutR_len (l := a.tokens) (x := x) (y := y))
  clear ha hx hy hft
  go_enter Try.func13, Try.ntmps13
  go_wp2_with fail
  refine (pgather_one a A B N c d e (w.heap.size + 3) _ (HA.out.ext (by repeat (first | (with_reducible exact Ext.refl _) | (with_reducible assumption) | refine Ext.drew ?_ | refine Ext.drewN ?_ _ | refine Ext.alloc ?_ _))) (by go_simp) (by go_simp) (by go_simp)).mono ?_
  rintro ed w1 ⟨hE1, hcase⟩
  have p0 : w1.cell? ⟨w.heap.size, 0, none⟩ = some (.slice A a.tokens.length c) := Ext.cell hE1 (by go_simp)
  have p1 : w1.cell? ⟨w.heap.size, 1, none⟩ = some (.slice B a.heights.length d) := Ext.cell hE1 (by go_simp)
  have p2 : w1.cell? ⟨w.heap.size, 2, none⟩ = some (.slice N a.next.length e) := Ext.cell hE1 (by go_simp)
  have pf : ∀ o, w1.frozen? ⟨w.heap.size, o, none⟩ = false := fun o => (Below.frozen hE1 (p := ⟨w.heap.size, o, none⟩) (by first | omega | (simp; omega) | simp)).trans (by go_simp)
  clear pf
  have q0 : w1.cell? ⟨w.heap.size + 1, 0, none⟩ = some (.slice none 0 0) := Ext.cell hE1 (by go_simp)
  have q1 : w1.cell? ⟨w.heap.size + 1, 1, none⟩ = some (.slice none 0 0) := Ext.cell hE1 (by go_simp)
  have q2 : w1.cell? ⟨w.heap.size + 1, 2, none⟩ = some (.slice none 0 0) := Ext.cell hE1 (by go_simp)
  have qf : ∀ o, w1.frozen? ⟨w.heap.size + 1, o, none⟩ = false := fun o => (Below.frozen hE1 (p := ⟨w.heap.size + 1, o, none⟩) (by first | omega | (simp; omega) | simp)).trans (by go_simp)
  have s0 : w1.cell? ⟨w.heap.size + 2, 0, none⟩ = some (.slice none 0 0) := Ext.cell hE1 (by go_simp)
  have s1 : w1.cell? ⟨w.heap.size + 2, 1, none⟩ = some (.slice none 0 0) := Ext.cell hE1 (by go_simp)
  have s2 : w1.cell? ⟨w.heap.size + 2, 2, none⟩ = some (.slice none 0 0) := Ext.cell hE1 (by go_simp)
  have sf : ∀ o, w1.frozen? ⟨w.heap.size + 2, o, none⟩ = false := fun o => (Below.frozen hE1 (p := ⟨w.heap.size + 2, o, none⟩) (by first | omega | (simp; omega) | simp)).trans (by go_simp)
  have HX1 : Hid (Ext w w1) := Lib.hid (Ext.trans (by repeat (first | (with_reducible exact Ext.refl _) | (with_reducible assumption) | refine Ext.drew ?_ | refine Ext.drewN ?_ _ | refine Ext.alloc ?_ _)) hE1)
  have lz1 := hE1.size
  simp at lz1
  have n1 : w.heap.size + 2 < w1.heap.size := by omega
  have n1b : w.heap.size + 1 < w1.heap.size := by omega
  have n1c : w.heap.size < w1.heap.size := by omega
  clear hE1 lz1
  rcases hcase with ⟨hr, m, q, D, rfl, hm, hO, hD⟩ | ⟨hr, rfl⟩
  · have HO := Lib.hid hO
    have HD := Lib.hid hD
    have HMN : Hid (w.heap.size + 2 < m) := Lib.hid (by simp at hm; omega)
    have hln : a.tokens.length ≤ 1000 := ((rightL_iff _).1 (right_tok hr).1).1
    have hcl := pcut13_any a.tokens A c x y w1 (HA.out.tok.ext HX1.out) (by omega) HX.out.1 HX.out.2
    obtain ⟨⟨l, k, okf⟩, hf⟩ : ∃ r, cutR a.tokens x y = r := ⟨_, rfl⟩
    rw [hf] at hcl HFT HFL
    rw [hr] at HFT
    have HCL := Lib.hid hcl
    clear hr hm hO hD hln hcl hf
    go_wp2_with fail
    refine HCL.out.mono ?_
    rintro ed w2 ⟨L2, P2, lc2, pc2, rfl, hL2, hP2, hE2⟩
    simp only at hL2 hP2 ⊢
    replace q0 := hE2.cell q0
    replace q1 := hE2.cell q1
    replace q2 := hE2.cell q2
    replace qf := fun o => (Below.frozen hE2 (p := ⟨w.heap.size + 1, o, none⟩) n1b).trans (qf o)
    replace s0 := hE2.cell s0
    replace s1 := hE2.cell s1
    replace s2 := hE2.cell s2
    replace sf := fun o => (Below.frozen hE2 (p := ⟨w.heap.size + 2, o, none⟩) n1).trans (sf o)
    have HX2 := Lib.hid (HX1.out.trans hE2)
    have HO2 := Lib.hid (owns_ext HO.out hE2)
    have HL2 := Lib.hid hL2.rd
    have HP2 := Lib.hid hP2
    have HZ1 := Lib.hid (And.intro n1b n1)
    have n2 : w.heap.size + 2 < w2.heap.size := by have := hE2.size; omega
    have n2b : w.heap.size + 1 < w2.heap.size := by omega
    clear hE2 hL2 hP2 p0 p1 p2 n1 n1b n1c
    cases okf with
    | false =>
      have HR : Hid (cutT a x y = (noTw, noTw, false)) := Lib.hid (by rw [HFT.out]; rfl)
      go_wp2_with fail
      exact bodyPost_ret (v := .tuple #[towV none 0 0 none 0 0 none 0 0, towV none 0 0 none 0 0 none 0 0, .bool false]) (by simp [results, Try.results13, go_sem, q0, q1, q2, s0, s1, s2]) rfl (by rw [HR.out]; exact tc_no ((((((HX2.out.setCell (p := ⟨w.heap.size + 1, 0, none⟩) (Nat.le_succ _) _).setCell (p := ⟨w.heap.size + 1, 1, none⟩) (Nat.le_succ _) _).setCell (p := ⟨w.heap.size + 1, 2, none⟩) (Nat.le_succ _) _).setCell (p := ⟨w.heap.size + 2, 0, none⟩) (Nat.le_add_right _ _) _).setCell (p := ⟨w.heap.size + 2, 1, none⟩) (Nat.le_add_right _ _) _).setCell (p := ⟨w.heap.size + 2, 2, none⟩) (Nat.le_add_right _ _) _))
    | true =>
      by_cases h0 : l.length = 0
      · have e0 : ((l.length : Int) == 0) = true := by rw [beq_iff_eq]; omega
        have HR : Hid (cutT a x y = (noTw, noTw, false)) := Lib.hid (by rw [HFT.out]; simp [h0])
        clear h0
        go_wp2_with fail
        exact bodyPost_ret (v := .tuple #[towV none 0 0 none 0 0 none 0 0, towV none 0 0 none 0 0 none 0 0, .bool false]) (by simp [results, Try.results13, go_sem, q0, q1, q2, s0, s1, s2]) rfl (by rw [HR.out]; exact tc_no ((((((HX2.out.setCell (p := ⟨w.heap.size + 1, 0, none⟩) (Nat.le_succ _) _).setCell (p := ⟨w.heap.size + 1, 1, none⟩) (Nat.le_succ _) _).setCell (p := ⟨w.heap.size + 1, 2, none⟩) (Nat.le_succ _) _).setCell (p := ⟨w.heap.size + 2, 0, none⟩) (Nat.le_add_right _ _) _).setCell (p := ⟨w.heap.size + 2, 1, none⟩) (Nat.le_add_right _ _) _).setCell (p := ⟨w.heap.size + 2, 2, none⟩) (Nat.le_add_right _ _) _))
      have e0 : ((l.length : Int) == 0) = false := by rw [beq_eq_false_iff_ne]; omega
      have HLL := Lib.hid (HFL.out rfl)
      have hfb : cutT a x y = ((builtP l a a).1, (builtP k a a).1, true) := by rw [HFT.out]; simp [h0]
      obtain ⟨⟨⟨rt, rh, rn⟩, er⟩, hb⟩ : ∃ r, builtP l a a = r := ⟨_, rfl⟩
      obtain ⟨⟨⟨gt, gh, gn⟩, gr⟩, hg⟩ : ∃ r, builtP k a a = r := ⟨_, rfl⟩
      rw [hb, hg] at hfb
      simp only at hfb
      have HFB := Lib.hid hfb
      have HB := Lib.hid ((built_one l a).trans hb)
      have HG := Lib.hid ((built_one k a).trans hg)
      clear h0 hfb hb hg HFT
      go_wp2_with fail
      refine (pbuilt15_any l L2 lc2 m q D _ w2 HL2.out HLL.out.1 HO2.out HD.out).mono ?_
      rw [HB.out]
      rintro ed w3 ⟨A1, B1, N1, c1, d1, e1, rfl, hT3, hE3⟩
      simp only at hT3 ⊢
      replace q0 := hE3.cell q0
      replace q1 := hE3.cell q1
      replace q2 := hE3.cell q2
      replace qf := fun o => (Below.frozen hE3 (p := ⟨w.heap.size + 1, o, none⟩) n2b).trans (qf o)
      replace s0 := hE3.cell s0
      replace s1 := hE3.cell s1
      replace s2 := hE3.cell s2
      replace sf := fun o => (Below.frozen hE3 (p := ⟨w.heap.size + 2, o, none⟩) n2).trans (sf o)
      have n3 : w.heap.size + 2 < w3.heap.size := by have := hE3.size; omega
      have n3b : w.heap.size + 1 < w3.heap.size := by omega
      have HX3 := Lib.hid (HX2.out.trans hE3)
      have HO3 := Lib.hid (owns_ext HO2.out hE3)
      have HP3 := Lib.hid (HP2.out.ext hE3)
      have HT3 := Lib.hid hT3
      have HZ2 := Lib.hid (And.intro n2b n2)
      have HZ23 := Lib.hid hE3.size
      clear hE3 hT3 n2 n2b
      go_wp2_with fail
      have hX4 : Ext w (((w3.setCell ⟨w.heap.size + 1, 0, none⟩ (.slice A1 rt.length c1)).setCell ⟨w.heap.size + 1, 1, none⟩ (.slice B1 rh.length d1)).setCell ⟨w.heap.size + 1, 2, none⟩ (.slice N1 rn.length e1)) := (((HX3.out.setCell (p := ⟨w.heap.size + 1, 0, none⟩) (Nat.le_succ _) _).setCell (p := ⟨w.heap.size + 1, 1, none⟩) (Nat.le_succ _) _).setCell (p := ⟨w.heap.size + 1, 2, none⟩) (Nat.le_succ _) _)
      have hO4 := ((HO3.out.setCell (a := ⟨w.heap.size + 1, 0, none⟩) (by show m ≠ w.heap.size + 1; have := HMN.out; omega) (.slice A1 rt.length c1)).setCell (a := ⟨w.heap.size + 1, 1, none⟩) (by show m ≠ w.heap.size + 1; have := HMN.out; omega) (.slice B1 rh.length d1)).setCell (a := ⟨w.heap.size + 1, 2, none⟩) (by show m ≠ w.heap.size + 1; have := HMN.out; omega) (.slice N1 rn.length e1)
      have hP4 := ((HP3.out.setBelow (p := ⟨w.heap.size + 1, 0, none⟩) HZ1.out.1 (.slice A1 rt.length c1)).setBelow (p := ⟨w.heap.size + 1, 1, none⟩) HZ1.out.1 (.slice B1 rh.length d1)).setBelow (p := ⟨w.heap.size + 1, 2, none⟩) HZ1.out.1 (.slice N1 rn.length e1)
      have hT4 := ((HT3.out.set (p := ⟨w.heap.size + 1, 0, none⟩) HZ2.out.1 (.slice A1 rt.length c1)).set (p := ⟨w.heap.size + 1, 1, none⟩) HZ2.out.1 (.slice B1 rh.length d1)).set (p := ⟨w.heap.size + 1, 2, none⟩) HZ2.out.1 (.slice N1 rn.length e1)
      obtain ⟨w4, hW⟩ : ∃ W, (((w3.setCell ⟨w.heap.size + 1, 0, none⟩ (.slice A1 rt.length c1)).setCell ⟨w.heap.size + 1, 1, none⟩ (.slice B1 rh.length d1)).setCell ⟨w.heap.size + 1, 2, none⟩ (.slice N1 rn.length e1)) = W := ⟨_, rfl⟩
      have r0 : w4.cell? ⟨w.heap.size + 1, 0, none⟩ = some (.slice A1 rt.length c1) := by subst hW; clear hX4 hO4 hP4 hT4; go_simp
      have r1 : w4.cell? ⟨w.heap.size + 1, 1, none⟩ = some (.slice B1 rh.length d1) := by subst hW; clear hX4 hO4 hP4 hT4; go_simp
      have r2 : w4.cell? ⟨w.heap.size + 1, 2, none⟩ = some (.slice N1 rn.length e1) := by subst hW; clear hX4 hO4 hP4 hT4; go_simp
      have rf : ∀ o, w4.frozen? ⟨w.heap.size + 1, o, none⟩ = false := fun o => by subst hW; clear hX4 hO4 hP4 hT4; go_simp
      have u0 : w4.cell? ⟨w.heap.size + 2, 0, none⟩ = some (.slice none 0 0) := by subst hW; clear hX4 hO4 hP4 hT4; go_simp
      have u1 : w4.cell? ⟨w.heap.size + 2, 1, none⟩ = some (.slice none 0 0) := by subst hW; clear hX4 hO4 hP4 hT4; go_simp
      have u2 : w4.cell? ⟨w.heap.size + 2, 2, none⟩ = some (.slice none 0 0) := by subst hW; clear hX4 hO4 hP4 hT4; go_simp
      have uf : ∀ o, w4.frozen? ⟨w.heap.size + 2, o, none⟩ = false := fun o => by subst hW; clear hX4 hO4 hP4 hT4; go_simp
      have hz4 : w4.heap.size = w3.heap.size := by subst hW; clear hX4 hO4 hP4 hT4; simp
      rw [hW] at hX4 hO4 hP4 hT4 ⊢
      have HX4 := Lib.hid hX4
      have HO4 := Lib.hid hO4
      have HP4 := Lib.hid hP4
      have HT4 := Lib.hid hT4
      have n4 : w.heap.size + 2 < w4.heap.size := by omega
      have n4b : w.heap.size + 1 < w4.heap.size := by omega
      have HZ4 := Lib.hid (And.intro n4b n4)
      clear hW hX4 hO4 hP4 hT4 q0 q1 q2 qf s0 s1 s2 sf HX3 HO3 HP3 HT3 n3 n3b
      refine (pbuilt15_any k P2 pc2 m q D _ w4 HP4.out.rd HLL.out.2 HO4.out HD.out).mono ?_
      rw [HG.out]
      rintro ed w5 ⟨A2, B2, N2, c2, d2, e2, rfl, hT5, hE5⟩
      simp only at hT5 ⊢
      replace r0 := hE5.cell r0
      replace r1 := hE5.cell r1
      replace r2 := hE5.cell r2
      replace rf := fun o => (Below.frozen hE5 (p := ⟨w.heap.size + 1, o, none⟩) n4b).trans (rf o)
      replace u0 := hE5.cell u0
      replace u1 := hE5.cell u1
      replace u2 := hE5.cell u2
      replace uf := fun o => (Below.frozen hE5 (p := ⟨w.heap.size + 2, o, none⟩) n4).trans (uf o)
      have HX5 := Lib.hid (HX4.out.trans hE5)
      have HT45 := Lib.hid (HT4.out.ext hE5)
      have HT5 := Lib.hid hT5
      have n5 : w.heap.size + 2 < w5.heap.size := by have := hE5.size; omega
      have n5b : w.heap.size + 1 < w5.heap.size := by omega
      have HZ5 : Hid (w2.heap.size ≤ w3.heap.size ∧ w4.heap.size = w3.heap.size) := Lib.hid ⟨HZ23.out, hz4⟩
      clear hE5 hT5 hz4 n4 n4b
      go_wp2_with fail
      have hX6 : Ext w (((w5.setCell ⟨w.heap.size + 1 + 1, 0, none⟩ (.slice A2 gt.length c2)).setCell ⟨w.heap.size + 1 + 1, 1, none⟩ (.slice B2 gh.length d2)).setCell ⟨w.heap.size + 1 + 1, 2, none⟩ (.slice N2 gn.length e2)) := (((HX5.out.setCell (p := ⟨w.heap.size + 2, 0, none⟩) (Nat.le_add_right _ _) _).setCell (p := ⟨w.heap.size + 2, 1, none⟩) (Nat.le_add_right _ _) _).setCell (p := ⟨w.heap.size + 2, 2, none⟩) (Nat.le_add_right _ _) _)
      have hT6 := ((HT45.out.set (p := ⟨w.heap.size + 2, 0, none⟩) HZ2.out.2 (.slice A2 gt.length c2)).set (p := ⟨w.heap.size + 2, 1, none⟩) HZ2.out.2 (.slice B2 gh.length d2)).set (p := ⟨w.heap.size + 2, 2, none⟩) HZ2.out.2 (.slice N2 gn.length e2)
      have hG6 := ((HT5.out.set (p := ⟨w.heap.size + 2, 0, none⟩) HZ4.out.2 (.slice A2 gt.length c2)).set (p := ⟨w.heap.size + 2, 1, none⟩) HZ4.out.2 (.slice B2 gh.length d2)).set (p := ⟨w.heap.size + 2, 2, none⟩) HZ4.out.2 (.slice N2 gn.length e2)
      obtain ⟨w6, hW⟩ : ∃ W, (((w5.setCell ⟨w.heap.size + 1 + 1, 0, none⟩ (.slice A2 gt.length c2)).setCell ⟨w.heap.size + 1 + 1, 1, none⟩ (.slice B2 gh.length d2)).setCell ⟨w.heap.size + 1 + 1, 2, none⟩ (.slice N2 gn.length e2)) = W := ⟨_, rfl⟩
      have v0 : w6.cell? ⟨w.heap.size + 1, 0, none⟩ = some (.slice A1 rt.length c1) := by subst hW; clear hX6 hT6 hG6; go_simp
      have v1 : w6.cell? ⟨w.heap.size + 1, 1, none⟩ = some (.slice B1 rh.length d1) := by subst hW; clear hX6 hT6 hG6; go_simp
      have v2 : w6.cell? ⟨w.heap.size + 1, 2, none⟩ = some (.slice N1 rn.length e1) := by subst hW; clear hX6 hT6 hG6; go_simp
      have vf : ∀ o, w6.frozen? ⟨w.heap.size + 1, o, none⟩ = false := fun o => by subst hW; clear hX6 hT6 hG6; go_simp
      have x0 : w6.cell? ⟨w.heap.size + 2, 0, none⟩ = some (.slice A2 gt.length c2) := by subst hW; clear hX6 hT6 hG6; go_simp
      have x1 : w6.cell? ⟨w.heap.size + 2, 1, none⟩ = some (.slice B2 gh.length d2) := by subst hW; clear hX6 hT6 hG6; go_simp
      have x2 : w6.cell? ⟨w.heap.size + 2, 2, none⟩ = some (.slice N2 gn.length e2) := by subst hW; clear hX6 hT6 hG6; go_simp
      have xf : ∀ o, w6.frozen? ⟨w.heap.size + 2, o, none⟩ = false := fun o => by subst hW; clear hX6 hT6 hG6; go_simp
      have hz6 : w6.heap.size = w5.heap.size := by subst hW; clear hX6 hT6 hG6; simp
      rw [show (((w5.setCell ⟨w.heap.size + 1 + 1, 0, none⟩ (.slice A2 gt.length c2)).setCell ⟨w.heap.size + 1 + 1, 1, none⟩ (.slice B2 gh.length d2)).setCell ⟨w.heap.size + 1 + 1, 2, none⟩ (.slice N2 gn.length e2)) = w6 from hW] at hX6 ⊢
      rw [show (((w5.setCell ⟨w.heap.size + 2, 0, none⟩ (.slice A2 gt.length c2)).setCell ⟨w.heap.size + 2, 1, none⟩ (.slice B2 gh.length d2)).setCell ⟨w.heap.size + 2, 2, none⟩ (.slice N2 gn.length e2)) = w6 from hW] at hT6 hG6
      have HX6 := Lib.hid hX6
      have HT6 := Lib.hid hT6
      have HG6 := Lib.hid hG6
      have n6 : w.heap.size + 2 < w6.heap.size := by omega
      have n6b : w.heap.size + 1 < w6.heap.size := by omega
      clear hW hX6 hT6 hG6 r0 r1 r2 rf u0 u1 u2 uf n5 n5b hz6 HX5 HT45 HT5 HL2 HP2 HO2 HX2 HX4 HP4 HO4 HT4
      go_region_law (fail)
      all_goals go_wp2_with fail
      all_goals
        obtain ⟨W, hW⟩ : ∃ W, (box3 (box3 w6 (w.heap.size + 1) (.slice A1 rt.length c1) (.slice B1 rh.length d1) (.slice N1 rn.length e1)) (w.heap.size + 1 + 1) (.slice A2 gt.length c2) (.slice B2 gh.length d2) (.slice N2 gn.length e2)).drew = W := ⟨_, rfl⟩
        have s00 : W.cell? ⟨w.heap.size + 1, 0, none⟩ = some (.slice A1 rt.length c1) := by subst hW; go_simp
        have s01 : W.cell? ⟨w.heap.size + 1, 1, none⟩ = some (.slice B1 rh.length d1) := by subst hW; go_simp
        have s02 : W.cell? ⟨w.heap.size + 1, 2, none⟩ = some (.slice N1 rn.length e1) := by subst hW; go_simp
        have s10 : W.cell? ⟨w.heap.size + 1 + 1, 0, none⟩ = some (.slice A2 gt.length c2) := by subst hW; go_simp
        have s11 : W.cell? ⟨w.heap.size + 1 + 1, 1, none⟩ = some (.slice B2 gh.length d2) := by subst hW; go_simp
        have s12 : W.cell? ⟨w.heap.size + 1 + 1, 2, none⟩ = some (.slice N2 gn.length e2) := by subst hW; go_simp
        have HWF := Lib.hid hW
        unfold box3 at hW
        rw [hW]
        clear hW
        refine bodyPost_ret (v := .tuple #[.agg #[.slice A1 rt.length c1, .slice B1 rh.length d1, .slice N1 rn.length e1], .agg #[.slice A2 gt.length c2, .slice B2 gh.length d2, .slice N2 gn.length e2], .bool true]) (by simp [results, Try.results13, go_sem, s00, s01, s02, s10, s11, s12]) rfl ?_
        rw [HFB.out, ← HWF.out]
        have hb2 := HZ2.out
        have hb4 := HZ4.out
        exact ⟨A1, B1, N1, A2, B2, N2, c1, d1, e1, c2, d2, e2, rfl, (((HT6.out.box (R := w.heap.size + 1) (by omega) _ _ _).box (R := w.heap.size + 1 + 1) (by omega) _ _ _).ext (Ext.refl _).drew).mono (by omega), (((HG6.out.box (R := w.heap.size + 1) (by omega) _ _ _).box (R := w.heap.size + 1 + 1) (by omega) _ _ _).ext (Ext.refl _).drew).mono (by omega), (ext_box (ext_box HX6.out (by omega) _ _ _) (by omega) _ _ _).drew⟩
  · have HR : Hid (cutT a x y = (noTw, noTw, false)) := Lib.hid (by rw [HFT.out, if_neg (by rw [hr]; exact fun h => absurd h.1 (by decide))])
    clear hr
    go_wp2_with fail
    exact bodyPost_ret (v := .tuple #[towV none 0 0 none 0 0 none 0 0, towV none 0 0 none 0 0 none 0 0, .bool false]) (by simp [results, Try.results13, go_sem, q0, q1, q2, s0, s1, s2]) rfl (by rw [HR.out]; exact tc_no ((((((HX1.out.setCell (p := ⟨w.heap.size + 1, 0, none⟩) (Nat.le_succ _) _).setCell (p := ⟨w.heap.size + 1, 1, none⟩) (Nat.le_succ _) _).setCell (p := ⟨w.heap.size + 1, 2, none⟩) (Nat.le_succ _) _).setCell (p := ⟨w.heap.size + 2, 0, none⟩) (Nat.le_add_right _ _) _).setCell (p := ⟨w.heap.size + 2, 1, none⟩) (Nat.le_add_right _ _) _).setCell (p := ⟨w.heap.size + 2, 2, none⟩) (Nat.le_add_right _ _) _))
end Go.Proofs.Ytllpfegnpakadaa

/- Calls of splice with answers named; the fixed fact of splice's statements. Written by wip/mk_t15law.py. -/
namespace Go.Proofs.Ytllpfegnpakadaa
open Go.BigFrame
open Go.RowKit Go.Proofs.Ytllpfegnpakadaa.Plain

theorem pjoin15_to (tk hs : List Int) (nx : List (List Int)) (n m k : Nat) (A B N : Option Addr) (c d e : Nat) (tk' hs' : List Int) (nx' : List (List Int)) (n' m' k' : Nat) (A' B' N' : Option Addr) (c' d' e' : Nat) (x y : Int) (rt rh : List Int) (rn : List (List Int)) (i j q : Nat) (ok : Bool) (w : World) (h : TwA w tk hs nx n m k A B N c d e) (h' : TwA w tk' hs' nx' n' m' k' A' B' N' c' d' e') (hx : in64 x) (hy : in64 y) (he : joinT ⟨tk, hs, nx⟩ x ⟨tk', hs', nx'⟩ y = (⟨rt, rh, rn⟩, ok)) (hi : rt.length = i) (hj : rh.length = j) (hq : rn.length = q) :
    Calls Try.prog 11 #[towV A n c B m d N k e, .int .i64 x, towV A' n' c' B' m' d' N' k' e', .int .i64 y] w fun ed w' => ∃ (A B N : Option Addr) (c d e : Nat), ed = .returned (.tuple #[towV A i c B j d N q e, .bool ok]) ∧ TwA w' rt rh rn i j q A B N c d e ∧ Ext w w' := by
  obtain ⟨h, rfl, rfl, rfl⟩ := h
  obtain ⟨h', rfl, rfl, rfl⟩ := h'
  subst hi hj hq
  have h9 := pjoin15_any ⟨tk, hs, nx⟩ ⟨tk', hs', nx'⟩ x y A B N c d e A' B' N' c' d' e' w h h' hx hy
  rw [he] at h9
  exact h9.mono fun _ _ h8 => by
    obtain ⟨A, B, N, c, d, e, h1, h2, h3⟩ := h8.r
    exact ⟨A, B, N, c, d, e, h1, ⟨h2, rfl, rfl, rfl⟩, h3⟩
theorem pfrom15_to (tk hs : List Int) (nx : List (List Int)) (n m k : Nat) (A B N : Option Addr) (c d e : Nat) (x : Int) (rt rh : List Int) (rn : List (List Int)) (i j q : Nat) (ok : Bool) (w : World) (h : TwA w tk hs nx n m k A B N c d e) (hx : in64 x) (he : fromT ⟨tk, hs, nx⟩ x = (⟨rt, rh, rn⟩, ok)) (hi : rt.length = i) (hj : rh.length = j) (hq : rn.length = q) :
    Calls Try.prog 15 #[towV A n c B m d N k e, .int .i64 x] w fun ed w' => ∃ (A B N : Option Addr) (c d e : Nat), ed = .returned (.tuple #[towV A i c B j d N q e, .bool ok]) ∧ TwA w' rt rh rn i j q A B N c d e ∧ Ext w w' := by
  obtain ⟨h, rfl, rfl, rfl⟩ := h
  subst hi hj hq
  have h9 := pfrom15_any ⟨tk, hs, nx⟩ x A B N c d e w h hx
  rw [he] at h9
  exact h9.mono fun _ _ h8 => by
    obtain ⟨A, B, N, c, d, e, h1, h2, h3⟩ := h8.r
    exact ⟨A, B, N, c, d, e, h1, ⟨h2, rfl, rfl, rfl⟩, h3⟩
theorem pcut15_to (tk hs : List Int) (nx : List (List Int)) (n m k : Nat) (A B N : Option Addr) (c d e : Nat) (x y : Int) (rt rh : List Int) (rn : List (List Int)) (i j q : Nat) (st sh : List Int) (sn : List (List Int)) (i2 j2 q2 : Nat) (ok : Bool) (w : World) (h : TwA w tk hs nx n m k A B N c d e) (hx : in64 x) (hy : in64 y) (he : cutT ⟨tk, hs, nx⟩ x y = (⟨rt, rh, rn⟩, ⟨st, sh, sn⟩, ok)) (hi : rt.length = i) (hj : rh.length = j) (hq : rn.length = q) (hi2 : st.length = i2) (hj2 : sh.length = j2) (hq2 : sn.length = q2) :
    Calls Try.prog 13 #[towV A n c B m d N k e, .int .i64 x, .int .i64 y] w fun ed w' => ∃ (A B N A' B' N' : Option Addr) (c d e c' d' e' : Nat), ed = .returned (.tuple #[towV A i c B j d N q e, towV A' i2 c' B' j2 d' N' q2 e', .bool ok]) ∧ TwA w' rt rh rn i j q A B N c d e ∧ TwA w' st sh sn i2 j2 q2 A' B' N' c' d' e' ∧ Ext w w' := by
  obtain ⟨h, rfl, rfl, rfl⟩ := h
  subst hi hj hq hi2 hj2 hq2
  have h9 := pcut15_any ⟨tk, hs, nx⟩ x y A B N c d e w h hx hy
  rw [he] at h9
  exact h9.mono fun _ _ h8 => by
    obtain ⟨A, B, N, A', B', N', c, d, e, c', d', e', h1, h2, h2', h3⟩ := h8.r
    exact ⟨A, B, N, A', B', N', c, d, e, c', d', e', h1, ⟨h2, rfl, rfl, rfl⟩, ⟨h2', rfl, rfl, rfl⟩, h3⟩
theorem plinks15_to (tk hs : List Int) (nx : List (List Int)) (n m k : Nat) (A B N : Option Addr) (c d e : Nat) (l : List Lk) (q : Nat) (w : World) (h : TwA w tk hs nx n m k A B N c d e) (he : linksP ⟨tk, hs, nx⟩ = l) (hq : l.length = q) :
    Calls Try.prog 19 #[towV A n c B m d N k e] w fun ed w' => ∃ (L : Option Addr) (lc : Nat), ed = .returned (.slice L q lc) ∧ Ow kLink w.heap.size w' (.slice L q lc) l ∧ Ext w w' := by
  obtain ⟨h, rfl, rfl, rfl⟩ := h
  subst he hq
  exact plinks15_any ⟨tk, hs, nx⟩ A B N c d e w h
theorem pheight15_to (tk hs : List Int) (nx : List (List Int)) (n m k : Nat) (A B N : Option Addr) (c d e : Nat) (x r : Int) (w : World) (h : TwA w tk hs nx n m k A B N c d e) (hx : in64 x) (he : heightP ⟨tk, hs, nx⟩ x = r) :
    Calls Try.prog 21 #[towV A n c B m d N k e, .int .i64 x] w fun ed w' => ed = .returned (.int .i64 r) ∧ Ext w w' := by
  obtain ⟨h, rfl, rfl, rfl⟩ := h
  subst he
  exact pheight15_any ⟨tk, hs, nx⟩ x A B N c d e w h hx
theorem pchanged15_to (a b : List Lk) (n m : Nat) (L M : Option Addr) (lc mc : Nat) (r : Nat) (i : Int) (w : World) (hL : Rd kLink w (.slice L n lc) a) (hn : a.length = n) (hM : Rd kLink w (.slice M m mc) b) (hm : b.length = m) (ha : a.length ≤ 100000) (hb : b.length ≤ 100000) (he : changedP a b = r) (hi : (r : Int) = i) :
    Calls Try.prog 23 #[.slice L n lc, .slice M m mc] w fun ed w' => ed = .returned (.int .i64 i) ∧ Ext w w' := by
  subst hn hm he hi
  exact pchanged15_any a b L M lc mc w hL hM ha hb
theorem rsame14_to (tk hs : List Int) (nx : List (List Int)) (n m k : Nat) (A B N : Option Addr) (c d e : Nat) (tk' hs' : List Int) (nx' : List (List Int)) (n' m' k' : Nat) (A' B' N' : Option Addr) (c' d' e' : Nat) (w : World) (h : TwA w tk hs nx n m k A B N c d e) (h' : TwA w tk' hs' nx' n' m' k' A' B' N' c' d' e') (he : (⟨tk, hs, nx⟩ : Tw) = ⟨tk', hs', nx'⟩) :
    Calls Try.prog 17 #[towV A n c B m d N k e, towV A' n' c' B' m' d' N' k' e'] w fun ed w' => ed = .returned (.bool true) ∧ Ext w w' := by
  obtain ⟨h, rfl, rfl, rfl⟩ := h
  obtain ⟨h', rfl, rfl, rfl⟩ := h'
  have h9 := rsame14_any ⟨tk, hs, nx⟩ ⟨tk', hs', nx'⟩ A B N A' B' N' c d e c' d' e' w h h'
  rw [decide_eq_true he] at h9
  exact h9
theorem rbuild14_to (tk hs : List Int) (n m : Nat) (A B : Option Addr) (c d : Nat) (rt rh : List Int) (rn : List (List Int)) (a b k : Nat) (er : Int) (w : World) (hA : Rd kInt w (.slice A n c) tk) (hn : tk.length = n) (hB : Rd kInt w (.slice B m d) hs) (hm : hs.length = m) (he : buildP tk hs = (⟨rt, rh, rn⟩, er)) (ha : rt.length = a) (hb : rh.length = b) (hk : rn.length = k) :
    Calls Try.prog 26 #[.slice A n c, .slice B m d] w fun ed w' => ∃ (A B N : Option Addr) (c d e : Nat), ed = .returned (.tuple #[towV A a c B b d N k e, .int .i64 er]) ∧ TwA w' rt rh rn a b k A B N c d e ∧ Ext w w' := by
  subst hn hm ha hb hk
  have h := rbuild14_any tk hs A B c d w hA hB
  rw [he] at h
  exact h.mono fun _ _ ⟨A, B, N, c, d, e, h1, h2, h3, h4, h5⟩ => ⟨A, B, N, c, d, e, h1, ⟨TwR.ofSaid (t := ⟨rt, rh, rn⟩) h2 h3 h4, rfl, rfl, rfl⟩, h5⟩
set_option maxHeartbeats 6400000 in
set_option maxRecDepth 100000 in
theorem splicealive_any (w : World) : Calls Try.prog 9 #[] w fun ed w' => ed = .returned (.bool true) ∧ Ext w w' := by
  have he1 : buildP [0, 1, 2, 3] [1, 3, 1, 2] = (⟨[0, 1, 2, 3], [1, 3, 1, 2], [[1], [2, 3, 1], [3], [0, 1]]⟩, 0) := by decide +kernel
  have he2 : cutT ⟨[0, 1, 2, 3], [1, 3, 1, 2], [[1], [2, 3, 1], [3], [0, 1]]⟩ 1 2 = (⟨[0, 1, 3], [1, 3, 2], [[1], [2, 2, 1], [0, 1]]⟩, ⟨[2], [1], [[0]]⟩, true) := by decide +kernel
  have he3 : joinT ⟨[0, 1, 3], [1, 3, 2], [[1], [2, 2, 1], [0, 1]]⟩ 1 ⟨[2], [1], [[0]]⟩ 2 = (⟨[0, 1, 2, 3], [1, 3, 1, 2], [[1], [2, 3, 1], [3], [0, 1]]⟩, true) := by decide +kernel
  have he4 : fromT ⟨[0, 1, 2, 3], [1, 3, 1, 2], [[1], [2, 3, 1], [3], [0, 1]]⟩ 2 = (⟨[2, 3, 0, 1], [1, 2, 1, 3], [[1], [2, 3], [3], [0, 1, 3]]⟩, true) := by decide +kernel
  have he5 : linksP ⟨[0, 1, 2, 3], [1, 3, 1, 2], [[1], [2, 3, 1], [3], [0, 1]]⟩ = [(0, 0, 1), (1, 0, 2), (1, 1, 3), (1, 2, 1), (2, 0, 3), (3, 0, 0), (3, 1, 1)] := by decide +kernel
  have he6 : linksP ⟨[0, 1, 3], [1, 3, 2], [[1], [2, 2, 1], [0, 1]]⟩ = [(0, 0, 1), (1, 0, 3), (1, 1, 3), (1, 2, 1), (3, 0, 0), (3, 1, 1)] := by decide +kernel
  have he7 : cutT ⟨[0, 1, 2, 3], [1, 3, 1, 2], [[1], [2, 3, 1], [3], [0, 1]]⟩ 1 1 = (⟨[], [], []⟩, ⟨[], [], []⟩, false) := by decide +kernel
  have he8 : changedP [(0, 0, 1), (1, 0, 2), (1, 1, 3), (1, 2, 1), (2, 0, 3), (3, 0, 0), (3, 1, 1)] [(0, 0, 1), (1, 0, 3), (1, 1, 3), (1, 2, 1), (3, 0, 0), (3, 1, 1)] = 2 := by decide +kernel
  have he9 : changedP [(0, 0, 1), (1, 0, 2), (1, 1, 3), (1, 2, 1), (2, 0, 3), (3, 0, 0), (3, 1, 1)] [(0, 0, 1), (1, 0, 2), (1, 1, 3), (1, 2, 1), (2, 0, 3), (3, 0, 0), (3, 1, 1)] = 0 := by decide +kernel
  have he10 : heightP ⟨[0, 1, 2, 3], [1, 3, 1, 2], [[1], [2, 3, 1], [3], [0, 1]]⟩ 3 = 2 := by decide +kernel
  have he11 : heightP ⟨[0, 1, 2, 3], [1, 3, 1, 2], [[1], [2, 3, 1], [3], [0, 1]]⟩ 9 = 0 := by decide +kernel
  have H1 := Lib.hid he1
  have H2 := Lib.hid he2
  have H3 := Lib.hid he3
  have H4 := Lib.hid he4
  have H5 := Lib.hid he5
  have H6 := Lib.hid he6
  have H7 := Lib.hid he7
  have H8 := Lib.hid he8
  have H9 := Lib.hid he9
  have H10 := Lib.hid he10
  have H11 := Lib.hid he11
  clear he1 he2 he3 he4 he5 he6 he7 he8 he9 he10 he11
  have HX0 : Hid (Ext w w) := Lib.hid (Ext.refl w)
  go_enter Try.func9, Try.ntmps9
  go_wp2_with fail
  refine (rbuild14_to [0, 1, 2, 3] [1, 3, 1, 2] 4 4 (some ⟨w.heap.size, 0, none⟩) (some ⟨w.heap.size + 1, 0, none⟩) 4 4 [0, 1, 2, 3] [1, 3, 1, 2] [[1], [2, 3, 1], [3], [0, 1]] 4 4 4 0 _ ((int_list w [0, 1, 2, 3] _ 4 #[.int .i64 0, .int .i64 1, .int .i64 2, .int .i64 3] rfl rfl (by simp) (by decide) (by decide)).ext ((Ext.refl _).alloc _)) rfl (int_list (w.alloc (.cells #[.int .i64 0, .int .i64 1, .int .i64 2, .int .i64 3] 3)) [1, 3, 1, 2] _ 4 #[.int .i64 1, .int .i64 3, .int .i64 1, .int .i64 2] rfl rfl (by simp) (by decide) (by decide)) rfl H1.out rfl rfl rfl).mono ?_
  rintro ed w1 ⟨A1, B1, N1, c1, d1, e1, rfl, hT1, hE1⟩
  have hF1 := (((Ext.refl w).alloc (.cells #[.int .i64 0, .int .i64 1, .int .i64 2, .int .i64 3] 3)).alloc (.cells #[.int .i64 1, .int .i64 3, .int .i64 1, .int .i64 2] 3)).trans hE1
  have HX1 := Lib.hid (HX0.out.trans hF1)
  have Ht_1 := Lib.hid (hT1)
  clear hE1 hF1 HX0
  go_wp2_with fail
  refine (pcut15_to [0, 1, 2, 3] [1, 3, 1, 2] [[1], [2, 3, 1], [3], [0, 1]] 4 4 4 A1 B1 N1 c1 d1 e1 1 2 [0, 1, 3] [1, 3, 2] [[1], [2, 2, 1], [0, 1]] 3 3 3 [2] [1] [[0]] 1 1 1 true _ (Ht_1.out.ext ((Ext.refl _).alloc _)) (by decide) (by decide) H2.out rfl rfl rfl rfl rfl rfl).mono ?_
  rintro ed w2 ⟨A2, B2, N2, A3, B3, N3, c2, d2, e2, c3, d3, e3, rfl, hT2, hT3, hE2⟩
  have hF2 := ((Ext.refl w1).alloc (.cells #[.slice A1 4 c1, .slice B1 4 d1, .slice N1 4 e1] 25)).trans hE2
  have HX2 := Lib.hid (HX1.out.trans hF2)
  have Ht_2 := Lib.hid (Ht_1.out.ext hF2)
  have Hr_2 := Lib.hid (hT2)
  have Hp_2 := Lib.hid (hT3)
  have t0 : w2.cell? ⟨w1.heap.size, 0, none⟩ = some (.slice A1 4 c1) := Ext.cell hE2 (by go_simp)
  have t1 : w2.cell? ⟨w1.heap.size, 1, none⟩ = some (.slice B1 4 d1) := Ext.cell hE2 (by go_simp)
  have t2 : w2.cell? ⟨w1.heap.size, 2, none⟩ = some (.slice N1 4 e1) := Ext.cell hE2 (by go_simp)
  have lb_t : w1.heap.size < w2.heap.size := World.block_lt_of_cell? _ _ t0
  clear hE2 hF2 HX1 Ht_1
  go_wp2_with fail
  refine (pjoin15_to [0, 1, 3] [1, 3, 2] [[1], [2, 2, 1], [0, 1]] 3 3 3 A2 B2 N2 c2 d2 e2 [2] [1] [[0]] 1 1 1 A3 B3 N3 c3 d3 e3 1 2 [0, 1, 2, 3] [1, 3, 1, 2] [[1], [2, 3, 1], [3], [0, 1]] 4 4 4 true _ (Hr_2.out.ext (((Ext.refl _).alloc _).alloc _)) (Hp_2.out.ext (((Ext.refl _).alloc _).alloc _)) (by decide) (by decide) H3.out rfl rfl rfl).mono ?_
  rintro ed w3 ⟨A4, B4, N4, c4, d4, e4, rfl, hT4, hE3⟩
  have hF3 := (((Ext.refl w2).alloc (.cells #[.slice A2 3 c2, .slice B2 3 d2, .slice N2 3 e2] 25)).alloc (.cells #[.slice A3 1 c3, .slice B3 1 d3, .slice N3 1 e3] 25)).trans hE3
  replace t0 := Ext.cell hF3 t0
  replace t1 := Ext.cell hF3 t1
  replace t2 := Ext.cell hF3 t2
  have lb3_0 : w1.heap.size < w3.heap.size := by have := Ext.size hF3; omega
  have HX3 := Lib.hid (HX2.out.trans hF3)
  have Ht_3 := Lib.hid (Ht_2.out.ext hF3)
  have Hr_3 := Lib.hid (Hr_2.out.ext hF3)
  have Hp_3 := Lib.hid (Hp_2.out.ext hF3)
  have Hj_3 := Lib.hid (hT4)
  have r0 : w3.cell? ⟨w2.heap.size, 0, none⟩ = some (.slice A2 3 c2) := Ext.cell hE3 (by go_simp)
  have r1 : w3.cell? ⟨w2.heap.size, 1, none⟩ = some (.slice B2 3 d2) := Ext.cell hE3 (by go_simp)
  have r2 : w3.cell? ⟨w2.heap.size, 2, none⟩ = some (.slice N2 3 e2) := Ext.cell hE3 (by go_simp)
  have lb_r : w2.heap.size < w3.heap.size := World.block_lt_of_cell? _ _ r0
  have p0 : w3.cell? ⟨(w2.heap.size+1), 0, none⟩ = some (.slice A3 1 c3) := Ext.cell hE3 (by go_simp)
  have p1 : w3.cell? ⟨(w2.heap.size+1), 1, none⟩ = some (.slice B3 1 d3) := Ext.cell hE3 (by go_simp)
  have p2 : w3.cell? ⟨(w2.heap.size+1), 2, none⟩ = some (.slice N3 1 e3) := Ext.cell hE3 (by go_simp)
  have lb_p : (w2.heap.size+1) < w3.heap.size := World.block_lt_of_cell? _ _ p0
  clear hE3 hF3 HX2 Ht_2 Hr_2 Hp_2 lb_t
  go_wp2_with fail
  refine (pfrom15_to [0, 1, 2, 3] [1, 3, 1, 2] [[1], [2, 3, 1], [3], [0, 1]] 4 4 4 A1 B1 N1 c1 d1 e1 2 [2, 3, 0, 1] [1, 2, 1, 3] [[1], [2, 3], [3], [0, 1, 3]] 4 4 4 true _ (Ht_3.out.ext ((Ext.refl _).alloc _)) (by decide) H4.out rfl rfl rfl).mono ?_
  rintro ed w4 ⟨A5, B5, N5, c5, d5, e5, rfl, hT5, hE4⟩
  have hF4 := ((Ext.refl w3).alloc (.cells #[.slice A4 4 c4, .slice B4 4 d4, .slice N4 4 e4] 25)).trans hE4
  replace t0 := Ext.cell hF4 t0
  replace t1 := Ext.cell hF4 t1
  replace t2 := Ext.cell hF4 t2
  replace r0 := Ext.cell hF4 r0
  replace r1 := Ext.cell hF4 r1
  replace r2 := Ext.cell hF4 r2
  replace p0 := Ext.cell hF4 p0
  replace p1 := Ext.cell hF4 p1
  replace p2 := Ext.cell hF4 p2
  have lb4_0 : w1.heap.size < w4.heap.size := by have := Ext.size hF4; omega
  have lb4_1 : w2.heap.size < w4.heap.size := by have := Ext.size hF4; omega
  have lb4_2 : (w2.heap.size+1) < w4.heap.size := by have := Ext.size hF4; omega
  have HX4 := Lib.hid (HX3.out.trans hF4)
  have Ht_4 := Lib.hid (Ht_3.out.ext hF4)
  have Hr_4 := Lib.hid (Hr_3.out.ext hF4)
  have Hp_4 := Lib.hid (Hp_3.out.ext hF4)
  have Hj_4 := Lib.hid (Hj_3.out.ext hF4)
  have Hf_4 := Lib.hid (hT5)
  have j0 : w4.cell? ⟨w3.heap.size, 0, none⟩ = some (.slice A4 4 c4) := Ext.cell hE4 (by go_simp)
  have j1 : w4.cell? ⟨w3.heap.size, 1, none⟩ = some (.slice B4 4 d4) := Ext.cell hE4 (by go_simp)
  have j2 : w4.cell? ⟨w3.heap.size, 2, none⟩ = some (.slice N4 4 e4) := Ext.cell hE4 (by go_simp)
  have lb_j : w3.heap.size < w4.heap.size := World.block_lt_of_cell? _ _ j0
  clear hE4 hF4 HX3 Ht_3 Hr_3 Hp_3 Hj_3 lb3_0 lb_r lb_p
  go_wp2_with fail
  obtain ⟨wb, hwb⟩ : ∃ wb, w4.alloc (.cells #[.slice A5 4 c5, .slice B5 4 d5, .slice N5 4 e5] 25) = wb := ⟨_, rfl⟩
  have hEb : Ext w4 wb := by rw [← hwb]; exact (Ext.refl _).alloc _
  have f0 : wb.cell? ⟨w4.heap.size, 0, none⟩ = some (.slice A5 4 c5) := by rw [← hwb]; clear hwb; go_simp
  have f1 : wb.cell? ⟨w4.heap.size, 1, none⟩ = some (.slice B5 4 d5) := by rw [← hwb]; clear hwb; go_simp
  have f2 : wb.cell? ⟨w4.heap.size, 2, none⟩ = some (.slice N5 4 e5) := by rw [← hwb]; clear hwb; go_simp
  replace t0 := hEb.cell t0
  replace t1 := hEb.cell t1
  replace t2 := hEb.cell t2
  replace r0 := hEb.cell r0
  replace r1 := hEb.cell r1
  replace r2 := hEb.cell r2
  replace p0 := hEb.cell p0
  replace p1 := hEb.cell p1
  replace p2 := hEb.cell p2
  replace j0 := hEb.cell j0
  replace j1 := hEb.cell j1
  replace j2 := hEb.cell j2
  have Ht_b := Lib.hid (Ht_4.out.ext hEb)
  have Hr_b := Lib.hid (Hr_4.out.ext hEb)
  have Hp_b := Lib.hid (Hp_4.out.ext hEb)
  have Hj_b := Lib.hid (Hj_4.out.ext hEb)
  have Hf_b := Lib.hid (Hf_4.out.ext hEb)
  have HXb := Lib.hid (HX4.out.trans hEb)
  rw [hwb]
  have KA : Hid (∀ W, Ext wb W → W.cell? ⟨w1.heap.size, 0, none⟩ = some (.slice A1 4 c1) ∧ W.cell? ⟨w1.heap.size, 1, none⟩ = some (.slice B1 4 d1) ∧ W.cell? ⟨w1.heap.size, 2, none⟩ = some (.slice N1 4 e1) ∧ W.cell? ⟨w2.heap.size, 0, none⟩ = some (.slice A2 3 c2) ∧ W.cell? ⟨w2.heap.size, 1, none⟩ = some (.slice B2 3 d2) ∧ W.cell? ⟨w2.heap.size, 2, none⟩ = some (.slice N2 3 e2) ∧ W.cell? ⟨w2.heap.size + 1, 0, none⟩ = some (.slice A3 1 c3) ∧ W.cell? ⟨w2.heap.size + 1, 1, none⟩ = some (.slice B3 1 d3) ∧ W.cell? ⟨w2.heap.size + 1, 2, none⟩ = some (.slice N3 1 e3) ∧ W.cell? ⟨w3.heap.size, 0, none⟩ = some (.slice A4 4 c4) ∧ W.cell? ⟨w3.heap.size, 1, none⟩ = some (.slice B4 4 d4) ∧ W.cell? ⟨w3.heap.size, 2, none⟩ = some (.slice N4 4 e4) ∧ W.cell? ⟨w4.heap.size, 0, none⟩ = some (.slice A5 4 c5) ∧ W.cell? ⟨w4.heap.size, 1, none⟩ = some (.slice B5 4 d5) ∧ W.cell? ⟨w4.heap.size, 2, none⟩ = some (.slice N5 4 e5)) := Lib.hid fun W hE => ⟨hE.cell t0, hE.cell t1, hE.cell t2, hE.cell r0, hE.cell r1, hE.cell r2, hE.cell p0, hE.cell p1, hE.cell p2, hE.cell j0, hE.cell j1, hE.cell j2, hE.cell f0, hE.cell f1, hE.cell f2⟩
  clear hwb hEb t0 t1 t2 r0 r1 r2 p0 p1 p2 j0 j1 j2 f0 f1 f2 Ht_4 Hr_4 Hp_4 Hj_4 Hf_4 HX4 lb4_0 lb4_1 lb4_2 lb_j
  obtain ⟨t0, t1, t2, r0, r1, r2, p0, p1, p2, j0, j1, j2, f0, f1, f2⟩ := KA.out wb (Ext.refl _)
  have lbb_t : w1.heap.size < wb.heap.size := World.block_lt_of_cell? _ _ t0
  have lbb_r : w2.heap.size < wb.heap.size := World.block_lt_of_cell? _ _ r0
  have lbb_p : w2.heap.size + 1 < wb.heap.size := World.block_lt_of_cell? _ _ p0
  have lbb_j : w3.heap.size < wb.heap.size := World.block_lt_of_cell? _ _ j0
  have lbb_f : w4.heap.size < wb.heap.size := World.block_lt_of_cell? _ _ f0
  go_cut [10, 11] from 38 to 41 (fun u v wx => ∃ (La Lb : Option Addr) (ca cb : Nat), u = .slice La 7 ca ∧ v = .slice Lb 6 cb ∧ Rd kLink wx (.slice La 7 ca) [(0, 0, 1), (1, 0, 2), (1, 1, 3), (1, 2, 1), (2, 0, 3), (3, 0, 0), (3, 1, 1)] ∧ Rd kLink wx (.slice Lb 6 cb) [(0, 0, 1), (1, 0, 3), (1, 1, 3), (1, 2, 1), (3, 0, 0), (3, 1, 1)] ∧ Ext wb wx)
  case first =>
    go_region_held3 (fun W => W.cell? ⟨w1.heap.size, 0, none⟩ = some (.slice A1 4 c1) ∧ W.cell? ⟨w1.heap.size, 1, none⟩ = some (.slice B1 4 d1) ∧ W.cell? ⟨w1.heap.size, 2, none⟩ = some (.slice N1 4 e1) ∧ W.cell? ⟨w2.heap.size, 0, none⟩ = some (.slice A2 3 c2) ∧ W.cell? ⟨w2.heap.size, 1, none⟩ = some (.slice B2 3 d2) ∧ W.cell? ⟨w2.heap.size, 2, none⟩ = some (.slice N2 3 e2) ∧ W.cell? ⟨w2.heap.size + 1, 0, none⟩ = some (.slice A3 1 c3) ∧ W.cell? ⟨w2.heap.size + 1, 1, none⟩ = some (.slice B3 1 d3) ∧ W.cell? ⟨w2.heap.size + 1, 2, none⟩ = some (.slice N3 1 e3) ∧ W.cell? ⟨w3.heap.size, 0, none⟩ = some (.slice A4 4 c4) ∧ W.cell? ⟨w3.heap.size, 1, none⟩ = some (.slice B4 4 d4) ∧ W.cell? ⟨w3.heap.size, 2, none⟩ = some (.slice N4 4 e4) ∧ W.cell? ⟨w4.heap.size, 0, none⟩ = some (.slice A5 4 c5) ∧ W.cell? ⟨w4.heap.size, 1, none⟩ = some (.slice B5 4 d5) ∧ W.cell? ⟨w4.heap.size, 2, none⟩ = some (.slice N5 4 e5))
      (first | exact KA.out _ (by repeat (first | (with_reducible exact Ext.refl _) | (with_reducible assumption) | refine Ext.drew ?_ | refine Ext.drewN ?_ _ | refine Ext.alloc ?_ _)) | go_keep)
      (first
      | (go_at_call_of 19 (Value.agg #[Value.slice A1 4 c1, Value.slice B1 4 d1, Value.slice N1 4 e1])
         refine (plinks15_to [0, 1, 2, 3] [1, 3, 1, 2] [[1], [2, 3, 1], [3], [0, 1]] 4 4 4 A1 B1 N1 c1 d1 e1 [(0, 0, 1), (1, 0, 2), (1, 1, 3), (1, 2, 1), (2, 0, 3), (3, 0, 0), (3, 1, 1)] 7 _ (Ht_b.out.ext (by repeat (first | (with_reducible exact Ext.refl _) | (with_reducible assumption) | refine Ext.drew ?_ | refine Ext.drewN ?_ _ | refine Ext.alloc ?_ _))) H5.out rfl).mono ?_
         rintro ed wy ⟨La, ca, rfl, hOa, hy⟩
         have xy : Ext wb wy := Ext.trans (by repeat (first | (with_reducible exact Ext.refl _) | (with_reducible assumption) | refine Ext.drew ?_ | refine Ext.drewN ?_ _ | refine Ext.alloc ?_ _)) hy)
      | (go_at_call_of 19 (Value.agg #[Value.slice A2 3 c2, Value.slice B2 3 d2, Value.slice N2 3 e2])
         refine (plinks15_to [0, 1, 3] [1, 3, 2] [[1], [2, 2, 1], [0, 1]] 3 3 3 A2 B2 N2 c2 d2 e2 [(0, 0, 1), (1, 0, 3), (1, 1, 3), (1, 2, 1), (3, 0, 0), (3, 1, 1)] 6 _ (Hr_b.out.ext (by repeat (first | (with_reducible exact Ext.refl _) | (with_reducible assumption) | refine Ext.drew ?_ | refine Ext.drewN ?_ _ | refine Ext.alloc ?_ _))) H6.out rfl).mono ?_
         rintro ed wz ⟨Lb, cb, rfl, hOb, hz⟩
         have xz : Ext wb wz := Ext.trans (by repeat (first | (with_reducible exact Ext.refl _) | (with_reducible assumption) | refine Ext.drew ?_ | refine Ext.drewN ?_ _ | refine Ext.alloc ?_ _)) hz)
      | fail)
    all_goals go_wp2_with fail
    all_goals (go_simp; go_meet)
    all_goals first
      | exact ⟨La, Lb, ca, cb, rfl, rfl, hOa.rd.ext (by repeat (first | (with_reducible exact Ext.refl _) | (with_reducible assumption) | refine Ext.drew ?_ | refine Ext.drewN ?_ _ | refine Ext.alloc ?_ _)), hOb.rd.ext (by repeat (first | (with_reducible exact Ext.refl _) | (with_reducible assumption) | refine Ext.drew ?_ | refine Ext.drewN ?_ _ | refine Ext.alloc ?_ _)), xz⟩
      | exact ⟨La, Lb, ca, cb, rfl, rfl, hOa.rd.ext (by repeat (first | (with_reducible exact Ext.refl _) | (with_reducible assumption) | refine Ext.drew ?_ | refine Ext.drewN ?_ _ | refine Ext.alloc ?_ _)), hOb.rd.ext (by repeat (first | (with_reducible exact Ext.refl _) | (with_reducible assumption) | refine Ext.drew ?_ | refine Ext.drewN ?_ _ | refine Ext.alloc ?_ _)), xy⟩
      | fail
  case rest =>
  obtain ⟨La, Lb, ca, cb, rfl, rfl, hOa, hOb, hE6⟩ := hcut
  generalize wc = w6 at *
  replace t0 := hE6.cell t0
  replace t1 := hE6.cell t1
  replace t2 := hE6.cell t2
  replace r0 := hE6.cell r0
  replace r1 := hE6.cell r1
  replace r2 := hE6.cell r2
  replace p0 := hE6.cell p0
  replace p1 := hE6.cell p1
  replace p2 := hE6.cell p2
  replace j0 := hE6.cell j0
  replace j1 := hE6.cell j1
  replace j2 := hE6.cell j2
  replace f0 := hE6.cell f0
  replace f1 := hE6.cell f1
  replace f2 := hE6.cell f2
  have Ht_6 := Lib.hid (Ht_b.out.ext hE6)
  have Hr_6 := Lib.hid (Hr_b.out.ext hE6)
  have Hp_6 := Lib.hid (Hp_b.out.ext hE6)
  have Hj_6 := Lib.hid (Hj_b.out.ext hE6)
  have Hf_6 := Lib.hid (Hf_b.out.ext hE6)
  have Ha_6 := Lib.hid hOa
  have Hb_6 := Lib.hid hOb
  have HX6 := Lib.hid (HXb.out.trans hE6)
  have lb6_t : w1.heap.size < w6.heap.size := World.block_lt_of_cell? _ _ t0
  have lb6_r : w2.heap.size < w6.heap.size := World.block_lt_of_cell? _ _ r0
  have lb6_p : w2.heap.size + 1 < w6.heap.size := World.block_lt_of_cell? _ _ p0
  have lb6_j : w3.heap.size < w6.heap.size := World.block_lt_of_cell? _ _ j0
  have lb6_f : w4.heap.size < w6.heap.size := World.block_lt_of_cell? _ _ f0
  clear hE6 hOa hOb HXb KA Ht_b Hr_b Hp_b Hj_b Hf_b lbb_t lbb_r lbb_p lbb_j lbb_f
  go_wp2_with fail
  refine (pcut15_to [0, 1, 2, 3] [1, 3, 1, 2] [[1], [2, 3, 1], [3], [0, 1]] 4 4 4 A1 B1 N1 c1 d1 e1 1 1 [] [] [] 0 0 0 [] [] [] 0 0 0 false _ Ht_6.out (by decide) (by decide) H7.out rfl rfl rfl rfl rfl rfl).mono ?_
  rintro ed w7 ⟨A7, B7, N7, A8, B8, N8, c7, d7, e7, c8, d8, e8, rfl, _, _, hE7⟩
  replace t0 := Ext.cell hE7 t0
  replace t1 := Ext.cell hE7 t1
  replace t2 := Ext.cell hE7 t2
  replace r0 := Ext.cell hE7 r0
  replace r1 := Ext.cell hE7 r1
  replace r2 := Ext.cell hE7 r2
  replace p0 := Ext.cell hE7 p0
  replace p1 := Ext.cell hE7 p1
  replace p2 := Ext.cell hE7 p2
  replace j0 := Ext.cell hE7 j0
  replace j1 := Ext.cell hE7 j1
  replace j2 := Ext.cell hE7 j2
  replace f0 := Ext.cell hE7 f0
  replace f1 := Ext.cell hE7 f1
  replace f2 := Ext.cell hE7 f2
  have lb7_0 : w1.heap.size < w7.heap.size := by have := Ext.size hE7; omega
  have lb7_1 : w2.heap.size < w7.heap.size := by have := Ext.size hE7; omega
  have lb7_2 : w2.heap.size + 1 < w7.heap.size := by have := Ext.size hE7; omega
  have lb7_3 : w3.heap.size < w7.heap.size := by have := Ext.size hE7; omega
  have lb7_4 : w4.heap.size < w7.heap.size := by have := Ext.size hE7; omega
  have HX7 := Lib.hid (HX6.out.trans hE7)
  have Ht_7 := Lib.hid (Ht_6.out.ext hE7)
  have Hr_7 := Lib.hid (Hr_6.out.ext hE7)
  have Hp_7 := Lib.hid (Hp_6.out.ext hE7)
  have Hj_7 := Lib.hid (Hj_6.out.ext hE7)
  have Hf_7 := Lib.hid (Hf_6.out.ext hE7)
  have Ha_7 := Lib.hid (Ha_6.out.ext hE7)
  have Hb_7 := Lib.hid (Hb_6.out.ext hE7)
  clear hE7 HX6 Ht_6 Hr_6 Hp_6 Hj_6 Hf_6 Ha_6 Hb_6 lb6_t lb6_r lb6_p lb6_j lb6_f
  go_wp2_with fail
  have hla := Rd.links Ha_7.out (by decide)
  obtain ⟨bl, ol, hbl, hcl⟩ := hla
  subst hbl
  have a1 := hcl 1 (by decide)
  have a3 := hcl 3 (by decide)
  obtain ⟨a10, a11, a12⟩ := a1
  obtain ⟨a30, a31, a32⟩ := a3
  replace a10 : w7.cell? ⟨bl, ol + 3, none⟩ = some (.int .i64 1) := a10
  replace a11 : w7.cell? ⟨bl, ol + 4, none⟩ = some (.int .i64 0) := a11
  replace a12 : w7.cell? ⟨bl, ol + 5, none⟩ = some (.int .i64 2) := a12
  replace a30 : w7.cell? ⟨bl, ol + 9, none⟩ = some (.int .i64 1) := a30
  replace a31 : w7.cell? ⟨bl, ol + 10, none⟩ = some (.int .i64 2) := a31
  replace a32 : w7.cell? ⟨bl, ol + 11, none⟩ = some (.int .i64 1) := a32
  have lbl : bl < w7.heap.size := World.block_lt_of_cell? _ _ a10
  clear hcl
  refine (rsame14_to [0, 1, 2, 3] [1, 3, 1, 2] [[1], [2, 3, 1], [3], [0, 1]] 4 4 4 A4 B4 N4 c4 d4 e4 [0, 1, 2, 3] [1, 3, 1, 2] [[1], [2, 3, 1], [3], [0, 1]] 4 4 4 A1 B1 N1 c1 d1 e1 _ (Hj_7.out.ext (((Ext.refl _).alloc _).alloc _)) (Ht_7.out.ext (((Ext.refl _).alloc _).alloc _)) rfl).mono ?_
  rintro ed w8 ⟨rfl, hE8⟩
  have hF8 := (((Ext.refl w7).alloc (.cells #[.slice A7 0 c7, .slice B7 0 d7, .slice N7 0 e7] 25)).alloc (.cells #[.slice A8 0 c8, .slice B8 0 d8, .slice N8 0 e8] 25)).trans hE8
  replace t0 := Ext.cell hF8 t0
  replace t1 := Ext.cell hF8 t1
  replace t2 := Ext.cell hF8 t2
  replace r0 := Ext.cell hF8 r0
  replace r1 := Ext.cell hF8 r1
  replace r2 := Ext.cell hF8 r2
  replace p0 := Ext.cell hF8 p0
  replace p1 := Ext.cell hF8 p1
  replace p2 := Ext.cell hF8 p2
  replace j0 := Ext.cell hF8 j0
  replace j1 := Ext.cell hF8 j1
  replace j2 := Ext.cell hF8 j2
  replace f0 := Ext.cell hF8 f0
  replace f1 := Ext.cell hF8 f1
  replace f2 := Ext.cell hF8 f2
  replace a10 := Ext.cell hF8 a10
  replace a11 := Ext.cell hF8 a11
  replace a12 := Ext.cell hF8 a12
  replace a30 := Ext.cell hF8 a30
  replace a31 := Ext.cell hF8 a31
  replace a32 := Ext.cell hF8 a32
  have lb8_0 : w1.heap.size < w8.heap.size := by have := Ext.size hF8; omega
  have lb8_1 : w2.heap.size < w8.heap.size := by have := Ext.size hF8; omega
  have lb8_2 : w2.heap.size + 1 < w8.heap.size := by have := Ext.size hF8; omega
  have lb8_3 : w3.heap.size < w8.heap.size := by have := Ext.size hF8; omega
  have lb8_4 : w4.heap.size < w8.heap.size := by have := Ext.size hF8; omega
  have lb8_5 : bl < w8.heap.size := by have := Ext.size hF8; omega
  have HX8 := Lib.hid (HX7.out.trans hF8)
  have Ht_8 := Lib.hid (Ht_7.out.ext hF8)
  have Hr_8 := Lib.hid (Hr_7.out.ext hF8)
  have Hp_8 := Lib.hid (Hp_7.out.ext hF8)
  have Hj_8 := Lib.hid (Hj_7.out.ext hF8)
  have Hf_8 := Lib.hid (Hf_7.out.ext hF8)
  have Ha_8 := Lib.hid (Ha_7.out.ext hF8)
  have Hb_8 := Lib.hid (Hb_7.out.ext hF8)
  clear hE8 hF8 HX7 Ht_7 Hr_7 Hp_7 Hj_7 Hf_7 Ha_7 Hb_7 lb7_0 lb7_1 lb7_2 lb7_3 lb7_4 lbl
  go_wp2_with fail
  clear Hj_8
  refine (ints_e _ _ [0, 1, 3] [0, 1, 3] _ (Hr_8.out.r.tok.ext ((Ext.refl _).alloc _)) (int_list w8 [0, 1, 3] _ 3 #[.int .i64 0, .int .i64 1, .int .i64 3] rfl rfl (by simp) (by decide) (by decide))).mono ?_
  rintro ed w9 ⟨rfl, hE9⟩
  rw [show sameB [0, 1, 3] [0, 1, 3] = true by decide +kernel]
  have hF9 := ((Ext.refl w8).alloc (.cells #[.int .i64 0, .int .i64 1, .int .i64 3] 3)).trans hE9
  replace t0 := Ext.cell hF9 t0
  replace t1 := Ext.cell hF9 t1
  replace t2 := Ext.cell hF9 t2
  replace r0 := Ext.cell hF9 r0
  replace r1 := Ext.cell hF9 r1
  replace r2 := Ext.cell hF9 r2
  replace p0 := Ext.cell hF9 p0
  replace p1 := Ext.cell hF9 p1
  replace p2 := Ext.cell hF9 p2
  replace j0 := Ext.cell hF9 j0
  replace j1 := Ext.cell hF9 j1
  replace j2 := Ext.cell hF9 j2
  replace f0 := Ext.cell hF9 f0
  replace f1 := Ext.cell hF9 f1
  replace f2 := Ext.cell hF9 f2
  replace a10 := Ext.cell hF9 a10
  replace a11 := Ext.cell hF9 a11
  replace a12 := Ext.cell hF9 a12
  replace a30 := Ext.cell hF9 a30
  replace a31 := Ext.cell hF9 a31
  replace a32 := Ext.cell hF9 a32
  have lb9_0 : w1.heap.size < w9.heap.size := by have := Ext.size hF9; omega
  have lb9_1 : w2.heap.size < w9.heap.size := by have := Ext.size hF9; omega
  have lb9_2 : w2.heap.size + 1 < w9.heap.size := by have := Ext.size hF9; omega
  have lb9_3 : w3.heap.size < w9.heap.size := by have := Ext.size hF9; omega
  have lb9_4 : w4.heap.size < w9.heap.size := by have := Ext.size hF9; omega
  have lb9_5 : bl < w9.heap.size := by have := Ext.size hF9; omega
  have HX9 := Lib.hid (HX8.out.trans hF9)
  have Ht_9 := Lib.hid (Ht_8.out.ext hF9)
  have Hr_9 := Lib.hid (Hr_8.out.ext hF9)
  have Hp_9 := Lib.hid (Hp_8.out.ext hF9)
  have Hf_9 := Lib.hid (Hf_8.out.ext hF9)
  have Ha_9 := Lib.hid (Ha_8.out.ext hF9)
  have Hb_9 := Lib.hid (Hb_8.out.ext hF9)
  clear hE9 hF9 HX8 Ht_8 Hr_8 Hp_8 Hf_8 Ha_8 Hb_8 lb8_0 lb8_1 lb8_2 lb8_3 lb8_4 lb8_5
  go_wp2_with fail
  refine (ints_e _ _ [1] [1] _ (Hp_9.out.r.hts.ext ((Ext.refl _).alloc _)) (int_list w9 [1] _ 1 #[.int .i64 1] rfl rfl (by simp) (by decide) (by decide))).mono ?_
  rintro ed w10 ⟨rfl, hE10⟩
  rw [show sameB [1] [1] = true by decide +kernel]
  have hF10 := ((Ext.refl w9).alloc (.cells #[.int .i64 1] 3)).trans hE10
  replace t0 := Ext.cell hF10 t0
  replace t1 := Ext.cell hF10 t1
  replace t2 := Ext.cell hF10 t2
  replace r0 := Ext.cell hF10 r0
  replace r1 := Ext.cell hF10 r1
  replace r2 := Ext.cell hF10 r2
  replace p0 := Ext.cell hF10 p0
  replace p1 := Ext.cell hF10 p1
  replace p2 := Ext.cell hF10 p2
  replace j0 := Ext.cell hF10 j0
  replace j1 := Ext.cell hF10 j1
  replace j2 := Ext.cell hF10 j2
  replace f0 := Ext.cell hF10 f0
  replace f1 := Ext.cell hF10 f1
  replace f2 := Ext.cell hF10 f2
  replace a10 := Ext.cell hF10 a10
  replace a11 := Ext.cell hF10 a11
  replace a12 := Ext.cell hF10 a12
  replace a30 := Ext.cell hF10 a30
  replace a31 := Ext.cell hF10 a31
  replace a32 := Ext.cell hF10 a32
  have lb10_0 : w1.heap.size < w10.heap.size := by have := Ext.size hF10; omega
  have lb10_1 : w2.heap.size < w10.heap.size := by have := Ext.size hF10; omega
  have lb10_2 : w2.heap.size + 1 < w10.heap.size := by have := Ext.size hF10; omega
  have lb10_3 : w3.heap.size < w10.heap.size := by have := Ext.size hF10; omega
  have lb10_4 : w4.heap.size < w10.heap.size := by have := Ext.size hF10; omega
  have lb10_5 : bl < w10.heap.size := by have := Ext.size hF10; omega
  have HX10 := Lib.hid (HX9.out.trans hF10)
  have Ht_10 := Lib.hid (Ht_9.out.ext hF10)
  have Hr_10 := Lib.hid (Hr_9.out.ext hF10)
  have Hp_10 := Lib.hid (Hp_9.out.ext hF10)
  have Hf_10 := Lib.hid (Hf_9.out.ext hF10)
  have Ha_10 := Lib.hid (Ha_9.out.ext hF10)
  have Hb_10 := Lib.hid (Hb_9.out.ext hF10)
  clear hE10 hF10 HX9 Ht_9 Hr_9 Hp_9 Hf_9 Ha_9 Hb_9 lb9_0 lb9_1 lb9_2 lb9_3 lb9_4 lb9_5
  go_wp2_with fail
  refine (ints_e _ _ [1, 2, 1, 3] [1, 2, 1, 3] _ (Hf_10.out.r.hts.ext ((Ext.refl _).alloc _)) (int_list w10 [1, 2, 1, 3] _ 4 #[.int .i64 1, .int .i64 2, .int .i64 1, .int .i64 3] rfl rfl (by simp) (by decide) (by decide))).mono ?_
  rintro ed w11 ⟨rfl, hE11⟩
  rw [show sameB [1, 2, 1, 3] [1, 2, 1, 3] = true by decide +kernel]
  have hF11 := ((Ext.refl w10).alloc (.cells #[.int .i64 1, .int .i64 2, .int .i64 1, .int .i64 3] 3)).trans hE11
  replace t0 := Ext.cell hF11 t0
  replace t1 := Ext.cell hF11 t1
  replace t2 := Ext.cell hF11 t2
  replace r0 := Ext.cell hF11 r0
  replace r1 := Ext.cell hF11 r1
  replace r2 := Ext.cell hF11 r2
  replace p0 := Ext.cell hF11 p0
  replace p1 := Ext.cell hF11 p1
  replace p2 := Ext.cell hF11 p2
  replace j0 := Ext.cell hF11 j0
  replace j1 := Ext.cell hF11 j1
  replace j2 := Ext.cell hF11 j2
  replace f0 := Ext.cell hF11 f0
  replace f1 := Ext.cell hF11 f1
  replace f2 := Ext.cell hF11 f2
  replace a10 := Ext.cell hF11 a10
  replace a11 := Ext.cell hF11 a11
  replace a12 := Ext.cell hF11 a12
  replace a30 := Ext.cell hF11 a30
  replace a31 := Ext.cell hF11 a31
  replace a32 := Ext.cell hF11 a32
  have lb11_0 : w1.heap.size < w11.heap.size := by have := Ext.size hF11; omega
  have lb11_1 : w2.heap.size < w11.heap.size := by have := Ext.size hF11; omega
  have lb11_2 : w2.heap.size + 1 < w11.heap.size := by have := Ext.size hF11; omega
  have lb11_3 : w3.heap.size < w11.heap.size := by have := Ext.size hF11; omega
  have lb11_4 : w4.heap.size < w11.heap.size := by have := Ext.size hF11; omega
  have lb11_5 : bl < w11.heap.size := by have := Ext.size hF11; omega
  have HX11 := Lib.hid (HX10.out.trans hF11)
  have Ht_11 := Lib.hid (Ht_10.out.ext hF11)
  have Hr_11 := Lib.hid (Hr_10.out.ext hF11)
  have Hp_11 := Lib.hid (Hp_10.out.ext hF11)
  have Hf_11 := Lib.hid (Hf_10.out.ext hF11)
  have Ha_11 := Lib.hid (Ha_10.out.ext hF11)
  have Hb_11 := Lib.hid (Hb_10.out.ext hF11)
  clear hE11 hF11 HX10 Ht_10 Hr_10 Hp_10 Hf_10 Ha_10 Hb_10 lb10_0 lb10_1 lb10_2 lb10_3 lb10_4 lb10_5
  go_wp2_with fail
  clear Hr_11
  clear Hp_11
  clear Hf_11
  refine (pchanged15_to [(0, 0, 1), (1, 0, 2), (1, 1, 3), (1, 2, 1), (2, 0, 3), (3, 0, 0), (3, 1, 1)] [(0, 0, 1), (1, 0, 3), (1, 1, 3), (1, 2, 1), (3, 0, 0), (3, 1, 1)] 7 6 (some ⟨bl, ol, none⟩) Lb ca cb 2 2 _ Ha_11.out rfl Hb_11.out rfl (by decide) (by decide) H8.out rfl).mono ?_
  rintro ed w12 ⟨rfl, hE12⟩
  replace t0 := Ext.cell hE12 t0
  replace t1 := Ext.cell hE12 t1
  replace t2 := Ext.cell hE12 t2
  replace r0 := Ext.cell hE12 r0
  replace r1 := Ext.cell hE12 r1
  replace r2 := Ext.cell hE12 r2
  replace p0 := Ext.cell hE12 p0
  replace p1 := Ext.cell hE12 p1
  replace p2 := Ext.cell hE12 p2
  replace j0 := Ext.cell hE12 j0
  replace j1 := Ext.cell hE12 j1
  replace j2 := Ext.cell hE12 j2
  replace f0 := Ext.cell hE12 f0
  replace f1 := Ext.cell hE12 f1
  replace f2 := Ext.cell hE12 f2
  replace a10 := Ext.cell hE12 a10
  replace a11 := Ext.cell hE12 a11
  replace a12 := Ext.cell hE12 a12
  replace a30 := Ext.cell hE12 a30
  replace a31 := Ext.cell hE12 a31
  replace a32 := Ext.cell hE12 a32
  have lb12_0 : w1.heap.size < w12.heap.size := by have := Ext.size hE12; omega
  have lb12_1 : w2.heap.size < w12.heap.size := by have := Ext.size hE12; omega
  have lb12_2 : w2.heap.size + 1 < w12.heap.size := by have := Ext.size hE12; omega
  have lb12_3 : w3.heap.size < w12.heap.size := by have := Ext.size hE12; omega
  have lb12_4 : w4.heap.size < w12.heap.size := by have := Ext.size hE12; omega
  have lb12_5 : bl < w12.heap.size := by have := Ext.size hE12; omega
  have HX12 := Lib.hid (HX11.out.trans hE12)
  have Ht_12 := Lib.hid (Ht_11.out.ext hE12)
  have Ha_12 := Lib.hid (Ha_11.out.ext hE12)
  have Hb_12 := Lib.hid (Hb_11.out.ext hE12)
  clear hE12 HX11 Ht_11 Ha_11 Hb_11 lb11_0 lb11_1 lb11_2 lb11_3 lb11_4 lb11_5
  go_wp2_with fail
  clear Hb_12
  refine (pchanged15_to [(0, 0, 1), (1, 0, 2), (1, 1, 3), (1, 2, 1), (2, 0, 3), (3, 0, 0), (3, 1, 1)] [(0, 0, 1), (1, 0, 2), (1, 1, 3), (1, 2, 1), (2, 0, 3), (3, 0, 0), (3, 1, 1)] 7 7 (some ⟨bl, ol, none⟩) (some ⟨bl, ol, none⟩) ca ca 0 0 _ Ha_12.out rfl Ha_12.out rfl (by decide) (by decide) H9.out rfl).mono ?_
  rintro ed w13 ⟨rfl, hE13⟩
  replace t0 := Ext.cell hE13 t0
  replace t1 := Ext.cell hE13 t1
  replace t2 := Ext.cell hE13 t2
  replace r0 := Ext.cell hE13 r0
  replace r1 := Ext.cell hE13 r1
  replace r2 := Ext.cell hE13 r2
  replace p0 := Ext.cell hE13 p0
  replace p1 := Ext.cell hE13 p1
  replace p2 := Ext.cell hE13 p2
  replace j0 := Ext.cell hE13 j0
  replace j1 := Ext.cell hE13 j1
  replace j2 := Ext.cell hE13 j2
  replace f0 := Ext.cell hE13 f0
  replace f1 := Ext.cell hE13 f1
  replace f2 := Ext.cell hE13 f2
  replace a10 := Ext.cell hE13 a10
  replace a11 := Ext.cell hE13 a11
  replace a12 := Ext.cell hE13 a12
  replace a30 := Ext.cell hE13 a30
  replace a31 := Ext.cell hE13 a31
  replace a32 := Ext.cell hE13 a32
  have lb13_0 : w1.heap.size < w13.heap.size := by have := Ext.size hE13; omega
  have lb13_1 : w2.heap.size < w13.heap.size := by have := Ext.size hE13; omega
  have lb13_2 : w2.heap.size + 1 < w13.heap.size := by have := Ext.size hE13; omega
  have lb13_3 : w3.heap.size < w13.heap.size := by have := Ext.size hE13; omega
  have lb13_4 : w4.heap.size < w13.heap.size := by have := Ext.size hE13; omega
  have lb13_5 : bl < w13.heap.size := by have := Ext.size hE13; omega
  have HX13 := Lib.hid (HX12.out.trans hE13)
  have Ht_13 := Lib.hid (Ht_12.out.ext hE13)
  have Ha_13 := Lib.hid (Ha_12.out.ext hE13)
  clear hE13 HX12 Ht_12 Ha_12 lb12_0 lb12_1 lb12_2 lb12_3 lb12_4 lb12_5
  go_wp2_with fail
  clear Ha_13
  refine (pheight15_to [0, 1, 2, 3] [1, 3, 1, 2] [[1], [2, 3, 1], [3], [0, 1]] 4 4 4 A1 B1 N1 c1 d1 e1 3 2 _ Ht_13.out (by decide) H10.out).mono ?_
  rintro ed w14 ⟨rfl, hE14⟩
  replace t0 := Ext.cell hE14 t0
  replace t1 := Ext.cell hE14 t1
  replace t2 := Ext.cell hE14 t2
  replace r0 := Ext.cell hE14 r0
  replace r1 := Ext.cell hE14 r1
  replace r2 := Ext.cell hE14 r2
  replace p0 := Ext.cell hE14 p0
  replace p1 := Ext.cell hE14 p1
  replace p2 := Ext.cell hE14 p2
  replace j0 := Ext.cell hE14 j0
  replace j1 := Ext.cell hE14 j1
  replace j2 := Ext.cell hE14 j2
  replace f0 := Ext.cell hE14 f0
  replace f1 := Ext.cell hE14 f1
  replace f2 := Ext.cell hE14 f2
  replace a10 := Ext.cell hE14 a10
  replace a11 := Ext.cell hE14 a11
  replace a12 := Ext.cell hE14 a12
  replace a30 := Ext.cell hE14 a30
  replace a31 := Ext.cell hE14 a31
  replace a32 := Ext.cell hE14 a32
  have lb14_0 : w1.heap.size < w14.heap.size := by have := Ext.size hE14; omega
  have lb14_1 : w2.heap.size < w14.heap.size := by have := Ext.size hE14; omega
  have lb14_2 : w2.heap.size + 1 < w14.heap.size := by have := Ext.size hE14; omega
  have lb14_3 : w3.heap.size < w14.heap.size := by have := Ext.size hE14; omega
  have lb14_4 : w4.heap.size < w14.heap.size := by have := Ext.size hE14; omega
  have lb14_5 : bl < w14.heap.size := by have := Ext.size hE14; omega
  have HX14 := Lib.hid (HX13.out.trans hE14)
  have Ht_14 := Lib.hid (Ht_13.out.ext hE14)
  clear hE14 HX13 Ht_13 lb13_0 lb13_1 lb13_2 lb13_3 lb13_4 lb13_5
  go_wp2_with fail
  refine (pheight15_to [0, 1, 2, 3] [1, 3, 1, 2] [[1], [2, 3, 1], [3], [0, 1]] 4 4 4 A1 B1 N1 c1 d1 e1 9 0 _ Ht_14.out (by decide) H11.out).mono ?_
  rintro ed w15 ⟨rfl, hE15⟩
  replace t0 := Ext.cell hE15 t0
  replace t1 := Ext.cell hE15 t1
  replace t2 := Ext.cell hE15 t2
  replace r0 := Ext.cell hE15 r0
  replace r1 := Ext.cell hE15 r1
  replace r2 := Ext.cell hE15 r2
  replace p0 := Ext.cell hE15 p0
  replace p1 := Ext.cell hE15 p1
  replace p2 := Ext.cell hE15 p2
  replace j0 := Ext.cell hE15 j0
  replace j1 := Ext.cell hE15 j1
  replace j2 := Ext.cell hE15 j2
  replace f0 := Ext.cell hE15 f0
  replace f1 := Ext.cell hE15 f1
  replace f2 := Ext.cell hE15 f2
  replace a10 := Ext.cell hE15 a10
  replace a11 := Ext.cell hE15 a11
  replace a12 := Ext.cell hE15 a12
  replace a30 := Ext.cell hE15 a30
  replace a31 := Ext.cell hE15 a31
  replace a32 := Ext.cell hE15 a32
  have lb15_0 : w1.heap.size < w15.heap.size := by have := Ext.size hE15; omega
  have lb15_1 : w2.heap.size < w15.heap.size := by have := Ext.size hE15; omega
  have lb15_2 : w2.heap.size + 1 < w15.heap.size := by have := Ext.size hE15; omega
  have lb15_3 : w3.heap.size < w15.heap.size := by have := Ext.size hE15; omega
  have lb15_4 : w4.heap.size < w15.heap.size := by have := Ext.size hE15; omega
  have lb15_5 : bl < w15.heap.size := by have := Ext.size hE15; omega
  have HX15 := Lib.hid (HX14.out.trans hE15)
  have Ht_15 := Lib.hid (Ht_14.out.ext hE15)
  clear hE15 HX14 Ht_14 lb14_0 lb14_1 lb14_2 lb14_3 lb14_4 lb14_5
  go_wp2_with fail
  go_ret
  exact ⟨ret_bool (by first | rfl | simp), HX15.out⟩
end Go.Proofs.Ytllpfegnpakadaa

/- Towers in boxes, as splice's laws lay them. Written by wip/mk_t15law.py. -/
namespace Go.Proofs.Ytllpfegnpakadaa
open Go.BigFrame
open Go.RowKit Go.Proofs.Ytllpfegnpakadaa.Plain

/-- a tower's box, with nothing in it yet -/
structure BxT (B P : Nat) (W : World) : Prop where
  c0 : W.cell? ⟨P, 0, none⟩ = some (.slice none 0 0)
  c1 : W.cell? ⟨P, 1, none⟩ = some (.slice none 0 0)
  c2 : W.cell? ⟨P, 2, none⟩ = some (.slice none 0 0)
  f : ∀ o, W.frozen? ⟨P, o, none⟩ = false
  lo : B ≤ P
  hi : P < W.heap.size
theorem BxT.new {B : Nat} {w : World} (h : B ≤ w.heap.size) : BxT B w.heap.size (w.alloc (.cells #[.slice none 0 0, .slice none 0 0, .slice none 0 0] 25)) :=
  ⟨by go_simp, by go_simp, by go_simp, fun o => by go_simp, h, by simp⟩
theorem BxT.ext {B P : Nat} {W W' : World} (h : BxT B P W) (hE : Ext W W') : BxT B P W' :=
  ⟨hE.cell h.c0, hE.cell h.c1, hE.cell h.c2, fun o => (Below.frozen hE (p := ⟨P, o, none⟩) h.hi).trans (h.f o), h.lo, Nat.lt_of_lt_of_le h.hi hE.size⟩
theorem meet15 {w5 w6 : World} {P B0 : Nat} {t : Tw} {A B N : Option Addr} {c d e : Nat} {u v z : Value} (bx : BxT w5.heap.size P w6) (hb : P < B0) (hT : TwO B0 w6 t A B N c d e) (hx : Ext w5 w6) :
    ((box3 w6 P u v z).cell? ⟨P, 0, none⟩ = some u ∧ (box3 w6 P u v z).cell? ⟨P, 1, none⟩ = some v ∧ (box3 w6 P u v z).cell? ⟨P, 2, none⟩ = some z) ∧ TwR (box3 w6 P u v z) t A B N c d e ∧ Ext w5 (box3 w6 P u v z) := by
  obtain ⟨c0, c1, c2, f, lo, hi⟩ := bx
  have f0 := f 0
  have f1 := f 1
  have f2 := f 2
  exact ⟨⟨by go_simp, by go_simp, by go_simp⟩, (hT.box hb u v z).r, ext_box hx lo u v z⟩
end Go.Proofs.Ytllpfegnpakadaa

/- SpliceTurns: the law returns true. Written by wip/mk_t15law.py. -/
namespace Go.Proofs.Ytllpfegnpakadaa
open Go.BigFrame
open Go.RowKit Go.Proofs.Ytllpfegnpakadaa.Plain

theorem Plain.links_le {t : Tw} (hr : rightTw t = true) : (linksP t).length ≤ 100000 := by
  obtain ⟨h1, _, _, h4, h5, _⟩ := right_tok hr
  have h2 := ((rightL_iff _).1 h1).1
  unfold linksP
  rw [if_pos hr]
  have h3 := linksF_len (tk := t.tokens) (hs := t.heights) (fun j hj => (h5 _ (by rw [List.getD_eq_getElem?_getD, List.getElem?_eq_getElem hj]; exact List.getElem_mem hj)).2) t.heights.length (Nat.le_refl _)
  omega
/-- what a turned tower tells -/
theorem Plain.turns_facts {t : Tw} (hr : rightTw t = true) {p : Nat} (hp : p < t.tokens.length) : ∃ f : Tw, fromT t (t.tokens.getD p 0) = (f, true) ∧ fromT f (t.tokens.getD 0 0) = (t, true) ∧ rightTw f = true ∧ f.tokens.length = t.tokens.length ∧ f.heights.length = t.tokens.length ∧ f.tokens.getD 0 0 = t.tokens.getD p 0 ∧ (∀ i, i < t.tokens.length → heightP f (t.tokens.getD i 0) = t.heights.getD i 0) ∧ changedP (linksP t) (linksP f) = 0 := by
  have hx : t.tokens.getD p 0 ∈ t.tokens := by rw [List.getD_eq_getElem?_getD, List.getElem?_eq_getElem hp]; exact List.getElem_mem hp
  obtain ⟨f, g1, g2, g3, g4, g5⟩ := turn_tower hr hx
  obtain ⟨_, _, _, h4, _⟩ := right_tok g2
  have hl : f.tokens.length = t.tokens.length := by rw [g3]; exact from_len _ _
  exact ⟨f, g1, turn_back hr hx g2 g3 g4, g2, hl, h4.trans hl, by rw [g3]; exact from_head hx, fun i hi => (g4 _ (by rw [List.getD_eq_getElem?_getD, List.getElem?_eq_getElem hi]; exact List.getElem_mem hi)).trans (height_at hr hi), g5⟩
set_option maxHeartbeats 12800000 in
set_option maxRecDepth 100000 in
theorem spliceturns_any (t : Tw) (A B N : Option Addr) (c d e : Nat) (k8 : Int) (W : World) (hT : TwR W t A B N c d e) (hk8 : 0 ≤ k8 ∧ k8 ≤ 255) :
    Calls Try.prog 7 #[towV A t.tokens.length c B t.heights.length d N t.next.length e, .int .u8 k8] W fun ed w' => ed = .returned (.bool true) ∧ Ext W w' := by
  have HT := Lib.hid hT
  clear hT
  obtain ⟨a8, rfl⟩ : ∃ a : Nat, k8 = a := ⟨k8.toNat, by omega⟩
  have HA8 : Hid (a8 ≤ 255) := Lib.hid (by omega)
  clear hk8
  obtain ⟨n, hn⟩ : ∃ n, t.tokens.length = n := ⟨_, rfl⟩
  obtain ⟨m, hm⟩ : ∃ n, t.heights.length = n := ⟨_, rfl⟩
  obtain ⟨k, hk⟩ : ∃ n, t.next.length = n := ⟨_, rfl⟩
  have HLN := Lib.hid (And.intro hn (And.intro hm hk))
  obtain ⟨rt, hrt⟩ : ∃ r, rightTw t = r := ⟨_, rfl⟩
  have HRT := Lib.hid hrt
  have CG : Hid (∀ w', Ext W w' → Calls Try.prog 10 #[towV A n c B m d N k e, .int .i64 200] w' fun ed w'' => ∃ b, ed = .returned (.bool b) ∧ Ext w' w'') := Lib.hid fun w' hE => by
    have h := rgreat14_any t 200 A B N c d e w' (HT.out.ext hE)
    rw [hn, hm, hk] at h
    exact h
  have CR : Hid (∀ w', Ext W w' → Calls Try.prog 25 #[towV A n c B m d N k e] w' fun ed w'' => ed = .returned (.bool rt) ∧ Ext w' w'') := Lib.hid fun w' hE => by
    have h := rright14_any t A B N c d e w' (HT.out.ext hE)
    rw [hn, hm, hk, hrt] at h
    exact h
  rw [hn, hm, hk]
  clear hn hm hk hrt
  go_enter Try.func7, Try.ntmps7
  go_wp2_with fail
  refine (splicealive_any _).mono ?_
  rintro ed w1 ⟨rfl, hE1⟩
  have q0 : w1.cell? ⟨W.heap.size, 0, none⟩ = some (.slice A n c) := Ext.cell hE1 (by go_simp)
  have q1 : w1.cell? ⟨W.heap.size, 1, none⟩ = some (.slice B m d) := Ext.cell hE1 (by go_simp)
  have q2 : w1.cell? ⟨W.heap.size, 2, none⟩ = some (.slice N k e) := Ext.cell hE1 (by go_simp)
  have qf : ∀ o, w1.frozen? ⟨W.heap.size, o, none⟩ = false := fun o => (Below.frozen hE1 (p := ⟨W.heap.size, o, none⟩) (by first | omega | (simp; omega) | simp)).trans (by go_simp)
  have HX1 := Lib.hid (((Ext.refl W).alloc (.cells #[.slice A n c, .slice B m d, .slice N k e] 25)).trans hE1)
  clear hE1 qf
  have lq1 : W.heap.size < w1.heap.size := World.block_lt_of_cell? _ _ q0
  go_wp2_with fail
  refine (CG.out _ HX1.out).mono ?_
  rintro ed w2 ⟨bg, rfl, hE2⟩
  replace q0 := Ext.cell hE2 q0
  replace q1 := Ext.cell hE2 q1
  replace q2 := Ext.cell hE2 q2
  have lq2 : W.heap.size < w2.heap.size := World.block_lt_of_cell? _ _ q0
  have HX2 := Lib.hid (HX1.out.trans hE2)
  clear hE2 lq1 HX1
  cases bg with
  | true =>
    go_wp2_with fail
    go_ret
    exact ⟨ret_bool (by first | rfl | simp), HX2.out⟩
  | false =>
  go_wp2_with fail
  refine (CR.out _ HX2.out).mono ?_
  rintro ed w3 ⟨rfl, hE3⟩
  replace q0 := Ext.cell hE3 q0
  replace q1 := Ext.cell hE3 q1
  replace q2 := Ext.cell hE3 q2
  have lq3 : W.heap.size < w3.heap.size := World.block_lt_of_cell? _ _ q0
  have HX3 := Lib.hid (HX2.out.trans hE3)
  clear hE3 lq2 HX2
  cases rt with
  | false =>
    go_wp2_with fail
    go_ret
    exact ⟨ret_bool (by first | rfl | simp), HX3.out⟩
  | true =>
  have hrk := right_tok HRT.out
  have hmn : n = m := by rw [← HLN.out.1, ← HLN.out.2.1]; exact hrk.2.2.2.1.symm
  subst hmn
  have hn1 : n ≤ 1000 := by have := ((rightL_iff _).1 hrk.1).1; rw [HLN.out.1] at this; exact this
  have hn0 : 0 < n := by rw [← HLN.out.1]; exact List.length_pos_iff.2 hrk.2.2.1
  obtain ⟨p, hp⟩ : ∃ p : Nat, a8 % n = p := ⟨_, rfl⟩
  have hpn : p < n := by rw [← hp]; exact Nat.mod_lt _ hn0
  obtain ⟨f, g1, g2, g3, g4, g5, g6, g7, g8⟩ := turns_facts HRT.out (p := p) (by rw [HLN.out.1]; exact hpn)
  rw [HLN.out.1] at g4 g5 g7
  obtain ⟨x, hx⟩ : ∃ x, t.tokens.getD p 0 = x := ⟨_, rfl⟩
  obtain ⟨y, hy⟩ : ∃ x, t.tokens.getD 0 0 = x := ⟨_, rfl⟩
  obtain ⟨fk, hfk⟩ : ∃ n, f.next.length = n := ⟨_, rfl⟩
  have hxi : in64 x := by rw [← hx]; exact HT.out.tok.okAt p (by rw [HLN.out.1]; exact hpn)
  have hyi : in64 y := by rw [← hy]; exact HT.out.tok.okAt 0 (by rw [HLN.out.1]; exact hn0)
  rw [hx] at g1 g6
  rw [hy] at g2
  have CF : Hid (∀ w', Ext W w' → Calls Try.prog 15 #[towV A n c B n d N k e, .int .i64 x] w' fun ed w'' => ∃ (A B N : Option Addr) (c d e : Nat), ed = .returned (.tuple #[towV A n c B n d N fk e, .bool true]) ∧ TwR w'' f A B N c d e ∧ Ext w' w'') := Lib.hid fun w' hE => by
    have h := pfrom15_any t x A B N c d e w' (HT.out.ext hE) hxi
    rw [HLN.out.1, HLN.out.2.1, HLN.out.2.2, g1] at h
    refine h.mono fun ed w'' h8 => ?_
    obtain ⟨A, B, N, c, d, e, h1, h2, h3⟩ := h8.r
    simp only at h1 h2
    rw [g4, g5, hfk] at h1
    exact ⟨A, B, N, c, d, e, h1, h2, h3⟩
  have CB : Hid (∀ (w' : World) (A B N : Option Addr) (c d e : Nat), TwR w' f A B N c d e → Calls Try.prog 15 #[towV A n c B n d N fk e, .int .i64 y] w' fun ed w'' => ∃ (A B N : Option Addr) (c d e : Nat), ed = .returned (.tuple #[towV A n c B n d N k e, .bool true]) ∧ TwO w'.heap.size w'' t A B N c d e ∧ Ext w' w'') := Lib.hid fun w' A B N c d e hF => by
    have h := pfrom15_any f y A B N c d e w' hF hyi
    rw [g4, g5, hfk, g2] at h
    refine h.mono fun ed w'' h8 => ?_
    obtain ⟨A, B, N, c, d, e, h1, h2, h3⟩ := h8
    simp only at h1 h2
    rw [HLN.out.1, HLN.out.2.1, HLN.out.2.2] at h1
    exact ⟨A, B, N, c, d, e, h1, h2, h3⟩
  have CSM : Hid (∀ (w' : World) (A' B' N' : Option Addr) (c' d' e' : Nat), TwR w' t A' B' N' c' d' e' → Ext W w' → Calls Try.prog 17 #[towV A' n c' B' n d' N' k e', towV A n c B n d N k e] w' fun ed w'' => ed = .returned (.bool true) ∧ Ext w' w'') := Lib.hid fun w' A' B' N' c' d' e' hF hE => by
    have h := rsame14_any t t A' B' N' A B N c' d' e' c d e w' hF (HT.out.ext hE)
    rw [HLN.out.1, HLN.out.2.1, HLN.out.2.2, decide_eq_true rfl] at h
    exact h
  have CH : Hid (∀ (w' : World) (A B N : Option Addr) (c d e : Nat) (i : Nat), i < n → TwR w' f A B N c d e → Calls Try.prog 21 #[towV A n c B n d N fk e, .int .i64 (t.tokens.getD i 0)] w' fun ed w'' => ed = .returned (.int .i64 (t.heights.getD i 0)) ∧ Ext w' w'') := Lib.hid fun w' A B N c d e i hi hF => by
    have h := pheight15_any f (t.tokens.getD i 0) A B N c d e w' hF (HT.out.tok.okAt i (by rw [HLN.out.1]; exact hi))
    rw [g4, g5, hfk, g7 i hi] at h
    exact h
  obtain ⟨lt, hlt⟩ : ∃ l, linksP t = l := ⟨_, rfl⟩
  obtain ⟨lf, hlf⟩ : ∃ l, linksP f = l := ⟨_, rfl⟩
  have HLL : Hid (lt.length ≤ 100000 ∧ lf.length ≤ 100000 ∧ changedP lt lf = 0) := Lib.hid ⟨hlt ▸ links_le HRT.out, hlf ▸ links_le g3, by rw [← hlt, ← hlf]; exact g8⟩
  have CLT : Hid (∀ w', Ext W w' → Calls Try.prog 19 #[towV A n c B n d N k e] w' (LkSaid lt w')) := Lib.hid fun w' hE => by
    have h := plinks15_any t A B N c d e w' (HT.out.ext hE)
    rw [HLN.out.1, HLN.out.2.1, HLN.out.2.2, hlt] at h
    exact h
  have CLF : Hid (∀ (w' : World) (A B N : Option Addr) (c d e : Nat), TwR w' f A B N c d e → Calls Try.prog 19 #[towV A n c B n d N fk e] w' (LkSaid lf w')) := Lib.hid fun w' A B N c d e hF => by
    have h := plinks15_any f A B N c d e w' hF
    rw [g4, g5, hfk, hlf] at h
    exact h
  have CRF : Hid (∀ (w' : World) (A B N : Option Addr) (c d e : Nat), TwR w' f A B N c d e → Calls Try.prog 25 #[towV A n c B n d N fk e] w' fun ed w'' => ed = .returned (.bool true) ∧ Ext w' w'') := Lib.hid fun w' A B N c d e hF => by
    have h := rright14_any f A B N c d e w' hF
    rw [g4, g5, hfk, g3] at h
    exact h
  have HF0 : Hid (f.tokens.getD 0 0 = x ∧ f.tokens.length = n) := Lib.hid ⟨g6, g4⟩
  obtain ⟨ba, oa, hba, hca⟩ := (ints_of_rd (HT.out.tok.ext HX3.out)).cells (by rw [HLN.out.1]; exact hn0)
  subst hba
  rw [HLN.out.1] at hca
  have hcq : ∀ w', Ext w3 w' → w'.cell? ⟨ba, oa + p, none⟩ = some (.int .i64 x) := fun w' hE => by have := hE.cell (hca p hpn); rw [hx] at this; exact this
  have hcy : ∀ w', Ext w3 w' → w'.cell? ⟨ba, oa, none⟩ = some (.int .i64 y) := fun w' hE => by have := hE.cell (hca 0 hn0); rw [hy] at this; exact this
  have HCA : Hid (∀ w', Ext w3 w' → ∀ i, i < n → w'.cell? ⟨ba, oa + i, none⟩ = some (.int .i64 (t.tokens.getD i 0))) := Lib.hid fun w' hE i hi => hE.cell (hca i hi)
  obtain ⟨bb, ob, hbb, hcb⟩ := (ints_of_rd (HT.out.hts.ext HX3.out)).cells (by rw [HLN.out.2.1]; exact hn0)
  subst hbb
  rw [HLN.out.2.1] at hcb
  have HCB : Hid (∀ w', Ext w3 w' → ∀ i, i < n → w'.cell? ⟨bb, ob + i, none⟩ = some (.int .i64 (t.heights.getD i 0))) := Lib.hid fun w' hE i hi => hE.cell (hcb i hi)
  have y0 := hcy w3 (Ext.refl _)
  have lba : ba < w3.heap.size := World.block_lt_of_cell? _ _ y0
  have lbb : bb < w3.heap.size := World.block_lt_of_cell? _ _ (hcb 0 hn0)
  have KS : Hid (∀ w', Ext w3 w' → w'.cell? ⟨W.heap.size, 0, none⟩ = some (.slice (some ⟨ba, oa, none⟩) n c) ∧ w'.cell? ⟨ba, oa + p, none⟩ = some (.int .i64 x)) := Lib.hid fun w' hE => ⟨hE.cell q0, hcq w' hE⟩
  have hw1 : IntKind.i64.wrap (a8 : Int) = (a8 : Int) := IntWalk.i64_in _ (by have := HA8.out; omega)
  have hw3 : (a8 : Int) % (n : Int) = (p : Int) := by rw [← hp]; simp
  have hw2 : (a8 : Int).tmod (n : Int) = (p : Int) := by rw [Int.tmod_eq_emod_of_nonneg (by omega)]; exact hw3
  have hw4 : IntKind.i64.wrap (p : Int) = (p : Int) := IntWalk.i64_in _ (by omega)
  have htn : (n : Int) ≠ 0 := by omega
  have htn0 : n ≠ 0 := by omega
  have htn1 : ((n : Int) == 0) = false := by rw [beq_eq_false_iff_ne]; omega
  clear hrk hp g1 g2 g3 g4 g5 g6 g7 g8 hx hy hfk hxi hyi hlt hlf hca hcb hcq hcy
  go_wp2_with fail
  refine wp_region_class (Ext w3) (by kernel_rfl) (by kernel_rfl) (Ext.refl _).drew ?_
  try simp only [List.append_eq, List.cons_append, List.nil_append]
  repeat (first
    | go_big_quiet_skip
    | (go_big_quiet_want
       first
       | (go_big_quiet_op; go_big_quiet_on)
       | (unfold Oper.quiet
          apply Exists.intro
          refine ⟨fun w' hC => ?_, ?_⟩
          · (obtain ⟨k1, k2⟩ := KS.out w' hC
             unfold Oper.quietAt
             go_simp
             first
             | exact rfl)
          go_simp
          go_big_quiet_on)))
  refine wpQuiet_nil ?_
  intro w4 hC4
  have HX4 := Lib.hid (HX3.out.trans hC4)
  replace q0 := Ext.cell hC4 q0
  replace q1 := Ext.cell hC4 q1
  replace q2 := Ext.cell hC4 q2
  replace y0 := Ext.cell hC4 y0
  have HCA4 : Hid (∀ w', Ext w4 w' → ∀ i, i < n → w'.cell? ⟨ba, oa + i, none⟩ = some (.int .i64 (t.tokens.getD i 0))) := Lib.hid fun w' hE => HCA.out w' (hC4.trans hE)
  have HCB4 : Hid (∀ w', Ext w4 w' → ∀ i, i < n → w'.cell? ⟨bb, ob + i, none⟩ = some (.int .i64 (t.heights.getD i 0))) := Lib.hid fun w' hE => HCB.out w' (hC4.trans hE)
  have lba4 : ba < w4.heap.size := by have := hC4.size; omega
  have lbb4 : bb < w4.heap.size := by have := hC4.size; omega
  have lq4 : W.heap.size < w4.heap.size := by have := hC4.size; omega
  clear hC4 KS HCA HCB HX3 lba lbb lq3 hw1 hw2 hw3 hw4
  go_wp2_with fail
  refine (CF.out _ HX4.out).mono ?_
  rintro ed w5 ⟨A5, B5, N5, c5, d5, e5, rfl, hF5, hE5⟩
  have HX5 := Lib.hid (HX4.out.trans hE5)
  replace q0 := Ext.cell hE5 q0
  replace q1 := Ext.cell hE5 q1
  replace q2 := Ext.cell hE5 q2
  replace y0 := Ext.cell hE5 y0
  have HCA5 : Hid (∀ w', Ext w5 w' → ∀ i, i < n → w'.cell? ⟨ba, oa + i, none⟩ = some (.int .i64 (t.tokens.getD i 0))) := Lib.hid fun w' hE => HCA4.out w' (hE5.trans hE)
  have HCB5 : Hid (∀ w', Ext w5 w' → ∀ i, i < n → w'.cell? ⟨bb, ob + i, none⟩ = some (.int .i64 (t.heights.getD i 0))) := Lib.hid fun w' hE => HCB4.out w' (hE5.trans hE)
  have lba5 : ba < w5.heap.size := by have := hE5.size; omega
  have lbb5 : bb < w5.heap.size := by have := hE5.size; omega
  have lq5 : W.heap.size < w5.heap.size := by have := hE5.size; omega
  have HF5 := Lib.hid hF5
  clear hE5 hF5 HCA4 HCB4 HX4 lba4 lbb4 lq4 CF
  go_wp2_with fail
  obtain ⟨w6, hw6⟩ : ∃ w6, w5.alloc (.cells #[.slice A5 n c5, .slice B5 n d5, .slice N5 fk e5] 25) = w6 := ⟨_, rfl⟩
  have hE6 : Ext w5 w6 := by rw [← hw6]; exact (Ext.refl _).alloc _
  have f0 : w6.cell? ⟨w5.heap.size, 0, none⟩ = some (.slice A5 n c5) := by rw [← hw6]; clear hw6; go_simp
  have f1 : w6.cell? ⟨w5.heap.size, 1, none⟩ = some (.slice B5 n d5) := by rw [← hw6]; clear hw6; go_simp
  have f2 : w6.cell? ⟨w5.heap.size, 2, none⟩ = some (.slice N5 fk e5) := by rw [← hw6]; clear hw6; go_simp
  rw [hw6]
  have HX6 := Lib.hid (HX5.out.trans hE6)
  replace q0 := Ext.cell hE6 q0
  replace q1 := Ext.cell hE6 q1
  replace q2 := Ext.cell hE6 q2
  replace y0 := Ext.cell hE6 y0
  have HCA6 : Hid (∀ w', Ext w6 w' → ∀ i, i < n → w'.cell? ⟨ba, oa + i, none⟩ = some (.int .i64 (t.tokens.getD i 0))) := Lib.hid fun w' hE => HCA5.out w' (hE6.trans hE)
  have HCB6 : Hid (∀ w', Ext w6 w' → ∀ i, i < n → w'.cell? ⟨bb, ob + i, none⟩ = some (.int .i64 (t.heights.getD i 0))) := Lib.hid fun w' hE => HCB5.out w' (hE6.trans hE)
  have HF6 := Lib.hid (HF5.out.ext hE6)
  have lba6 : ba < w6.heap.size := by have := hE6.size; omega
  have lbb6 : bb < w6.heap.size := by have := hE6.size; omega
  have lq6 : W.heap.size < w6.heap.size := by have := hE6.size; omega
  have lf6 : w5.heap.size < w6.heap.size := World.block_lt_of_cell? _ _ f0
  have hn0' : (0 : Int) < n := by omega
  clear hw6 hE6 HX5 HCA5 HCB5 HF5 lba5 lbb5 lq5
  go_cut [9, 10] from 38 to 46 (fun u v wx => ∃ (P : Nat) (Ab Bb Nb : Option Addr) (cb db eb : Nat), u = .pointer (some ⟨P, 0, none⟩) ∧ v = .bool true ∧ (wx.cell? ⟨P, 0, none⟩ = some (.slice Ab n cb) ∧ wx.cell? ⟨P, 1, none⟩ = some (.slice Bb n db) ∧ wx.cell? ⟨P, 2, none⟩ = some (.slice Nb k eb)) ∧ TwR wx t Ab Bb Nb cb db eb ∧ Ext w6 wx)
  case first =>
    go_region_law (first
      | (go_simp; go_at_call 15
         refine (CB.out _ A5 B5 N5 c5 d5 e5 (HF6.out.ext (by repeat (first | (with_reducible exact Ext.refl _) | (with_reducible assumption) | refine Ext.drew ?_ | refine Ext.drewN ?_ _ | refine Ext.alloc ?_ _)))).mono ?_
         rintro ed w7 ⟨A7, B7, N7, c7, d7, e7, rfl, hT7, hE7⟩
         have hx7 : Ext w6 w7 := Ext.trans (by repeat (first | (with_reducible exact Ext.refl _) | (with_reducible assumption) | refine Ext.drew ?_ | refine Ext.drewN ?_ _ | refine Ext.alloc ?_ _)) hE7
         have hs7 := hx7.size
         have hb7 := hE7.size
         first
           | have bx7 : BxT w6.heap.size w6.heap.size w7 := (BxT.new (w := w6) (Nat.le_refl _)).ext (Ext.trans (by first | ((repeat (first | (with_reducible exact Ext.refl _) | (with_reducible assumption) | refine Ext.drew ?_ | refine Ext.drewN ?_ _ | refine Ext.alloc ?_ _)); done) | fail) hE7)
             obtain ⟨vc0, vc1, vc2, vf, vlo, vhi⟩ := id bx7
           | skip)
      | fail)
    all_goals go_wp2_with fail
    all_goals (go_simp; go_meet)
    all_goals first
      | (have h9 := meet15 (B0 := _) (u := .slice A7 n c7) (v := .slice B7 n d7) (z := .slice N7 k e7) bx7 (by first | omega | (simp; omega) | (simp; done) | fail) hT7 hx7
         exact ⟨_, A7, B7, N7, c7, d7, e7, rfl, rfl, h9.1, h9.2.1, h9.2.2⟩)
      | exact ⟨w7.heap.size, A7, B7, N7, c7, d7, e7, rfl, rfl, ⟨by go_simp, by go_simp, by go_simp⟩, hT7.r.ext (by repeat (first | (with_reducible exact Ext.refl _) | (with_reducible assumption) | refine Ext.drew ?_ | refine Ext.drewN ?_ _ | refine Ext.alloc ?_ _)), hx7.trans (by repeat (first | (with_reducible exact Ext.refl _) | (with_reducible assumption) | refine Ext.drew ?_ | refine Ext.drewN ?_ _ | refine Ext.alloc ?_ _))⟩
  case rest =>
  obtain ⟨P, Ab, Bb, Nb, cb, db, eb, rfl, rfl, ⟨b0, b1, b2⟩, hTb, hE8⟩ := hcut
  generalize wc = w8 at *
  have HX8 := Lib.hid (HX6.out.trans hE8)
  replace q0 := Ext.cell hE8 q0
  replace q1 := Ext.cell hE8 q1
  replace q2 := Ext.cell hE8 q2
  replace y0 := Ext.cell hE8 y0
  replace f0 := Ext.cell hE8 f0
  replace f1 := Ext.cell hE8 f1
  replace f2 := Ext.cell hE8 f2
  have HCA8 : Hid (∀ w', Ext w8 w' → ∀ i, i < n → w'.cell? ⟨ba, oa + i, none⟩ = some (.int .i64 (t.tokens.getD i 0))) := Lib.hid fun w' hE => HCA6.out w' (hE8.trans hE)
  have HCB8 : Hid (∀ w', Ext w8 w' → ∀ i, i < n → w'.cell? ⟨bb, ob + i, none⟩ = some (.int .i64 (t.heights.getD i 0))) := Lib.hid fun w' hE => HCB6.out w' (hE8.trans hE)
  have HF8 := Lib.hid (HF6.out.ext hE8)
  have HB8 := Lib.hid hTb
  have lba8 : ba < w8.heap.size := by have := hE8.size; omega
  have lbb8 : bb < w8.heap.size := by have := hE8.size; omega
  have lq8 : W.heap.size < w8.heap.size := by have := hE8.size; omega
  have lf8 : w5.heap.size < w8.heap.size := by have := hE8.size; omega
  have lP8 : P < w8.heap.size := World.block_lt_of_cell? _ _ b0
  obtain ⟨b5, o5, hb5, hc5⟩ := (ints_of_rd HF8.out.tok).cells (by rw [HF0.out.2]; exact hn0)
  subst hb5
  have z0 : w8.cell? ⟨b5, o5, none⟩ = some (.int .i64 x) := by have := hc5 0 (by rw [HF0.out.2]; exact hn0); rw [HF0.out.1] at this; exact this
  have lz8 : b5 < w8.heap.size := World.block_lt_of_cell? _ _ z0
  clear hE8 HX6 HCA6 HCB6 HF6 lba6 lbb6 lq6 lf6 hTb hc5 CB
  go_wp2_with fail
  refine (CSM.out _ Ab Bb Nb cb db eb HB8.out HX8.out).mono ?_
  rintro ed w9 ⟨rfl, hE9⟩
  have HX9 := Lib.hid (HX8.out.trans hE9)
  replace q0 := Ext.cell hE9 q0
  replace q1 := Ext.cell hE9 q1
  replace q2 := Ext.cell hE9 q2
  replace f0 := Ext.cell hE9 f0
  replace f1 := Ext.cell hE9 f1
  replace f2 := Ext.cell hE9 f2
  have HCA9 : Hid (∀ w', Ext w9 w' → ∀ i, i < n → w'.cell? ⟨ba, oa + i, none⟩ = some (.int .i64 (t.tokens.getD i 0))) := Lib.hid fun w' hE => HCA8.out w' (hE9.trans hE)
  have HCB9 : Hid (∀ w', Ext w9 w' → ∀ i, i < n → w'.cell? ⟨bb, ob + i, none⟩ = some (.int .i64 (t.heights.getD i 0))) := Lib.hid fun w' hE => HCB8.out w' (hE9.trans hE)
  have HF9 := Lib.hid (HF8.out.ext hE9)
  have lq9 : W.heap.size < w9.heap.size := by have := hE9.size; omega
  have lf9 : w5.heap.size < w9.heap.size := by have := hE9.size; omega
  have HKL : Hid (∀ w', Ext w9 w' → (w'.cell? ⟨W.heap.size, 0, none⟩ = some (.slice (some ⟨ba, oa, none⟩) n c) ∧ w'.cell? ⟨W.heap.size, 1, none⟩ = some (.slice (some ⟨bb, ob, none⟩) n d) ∧ w'.cell? ⟨W.heap.size, 2, none⟩ = some (.slice N k e)) ∧ w'.cell? ⟨w5.heap.size, 0, none⟩ = some (.slice (some ⟨b5, o5, none⟩) n c5) ∧ w'.cell? ⟨w5.heap.size, 1, none⟩ = some (.slice B5 n d5) ∧ w'.cell? ⟨w5.heap.size, 2, none⟩ = some (.slice N5 fk e5)) := Lib.hid fun w' hE => ⟨⟨hE.cell q0, hE.cell q1, hE.cell q2⟩, hE.cell f0, hE.cell f1, hE.cell f2⟩
  clear hE9 HX8 HCA8 HCB8 HF8 lba8 lbb8 lq8 lf8 lP8 lz8 z0 y0 b0 b1 b2 HB8 CSM q0 q1 q2 f0 f1 f2
  go_wp2_with fail
  go_loopw [11] (fun i wr => ∃ k : Nat, k ≤ n ∧ i = .int .i64 k ∧ Ext w9 wr) (fun i _ => n - (intOf i).toNat)
  case atStart => exact ⟨0, Nat.zero_le _, rfl, Ext.refl _⟩
  case round =>
    obtain ⟨j, hj, rfl, hX⟩ := hrel
    have HX := Lib.hid hX
    have hj0 : (0 : Int) ≤ j := by omega
    clear hX
    by_cases hlt : j < n
    · have hlt' : (j : Int) < n := by omega
      have KS : Hid (∀ w', Ext wr w' → w'.cell? ⟨ba, oa + j, none⟩ = some (.int .i64 (t.tokens.getD j 0)) ∧ w'.cell? ⟨bb, ob + j, none⟩ = some (.int .i64 (t.heights.getD j 0)) ∧ w'.cell? ⟨W.heap.size, 0, none⟩ = some (.slice (some ⟨ba, oa, none⟩) n c) ∧ w'.cell? ⟨W.heap.size, 1, none⟩ = some (.slice (some ⟨bb, ob, none⟩) n d) ∧ w'.cell? ⟨w5.heap.size, 0, none⟩ = some (.slice (some ⟨b5, o5, none⟩) n c5) ∧ w'.cell? ⟨w5.heap.size, 1, none⟩ = some (.slice B5 n d5) ∧ w'.cell? ⟨w5.heap.size, 2, none⟩ = some (.slice N5 fk e5)) := Lib.hid fun w' hE => by
        have h := HKL.out w' (HX.out.trans hE)
        exact ⟨HCA9.out w' (HX.out.trans hE) j hlt, HCB9.out w' (HX.out.trans hE) j hlt, h.1.1, h.1.2.1, h.2.1, h.2.2.1, h.2.2.2⟩
      have HF1 : Hid (∀ w', Ext wr w' → Calls Try.prog 21 #[towV (some ⟨b5, o5, none⟩) n c5 B5 n d5 N5 fk e5, .int .i64 (t.tokens.getD j 0)] w' fun ed w'' => ed = .returned (.int .i64 (t.heights.getD j 0)) ∧ Ext wr w'') := Lib.hid fun w' hE => (CH.out w' _ _ _ _ _ _ j hlt (HF9.out.ext (HX.out.trans hE))).mono fun ed w'' hh => ⟨hh.1, hE.trans hh.2⟩
      obtain ⟨xj, hxj⟩ : ∃ x, t.tokens.getD j 0 = x := ⟨_, rfl⟩
      obtain ⟨yj, hyj⟩ : ∃ x, t.heights.getD j 0 = x := ⟨_, rfl⟩
      rw [hxj, hyj] at KS
      rw [hxj, hyj] at HF1
      have hp5 : (yj != yj) = false := by simp
      clear hxj hyj
      go_wp2_with fail
      refine wp_region_class (Ext wr) (by kernel_rfl) (by kernel_rfl) (Ext.refl _).drew ?_
      try simp only [List.append_eq, List.cons_append, List.nil_append]
      repeat (first
        | go_big_quiet_skip
        | (go_big_quiet_want
           first
           | (go_big_quiet_op; go_big_quiet_on)
           | (unfold Oper.quiet
              apply Exists.intro
              refine ⟨fun w' hC => ?_, ?_⟩
              · (obtain ⟨k1, k2, k3, k4, k5, k6, k7⟩ := KS.out w' hC
                 unfold Oper.quietAt
                 go_simp
                 first
                 | exact rfl
                 | (with_reducible exact HF1.out w' hC))
              go_simp
              go_big_quiet_on)
           | (go_big_quiet_op
              apply Exists.intro
              refine ⟨fun w' hC => ?_, ?_⟩
              · exact HF1.out w' hC
              go_big_quiet_on)))
      refine wpQuiet_nil ?_
      intro w10 hC10
      go_wp2_with fail
      go_roundw
      case rel => exact ⟨j + 1, by omega, by go_num, HX.out.trans hC10⟩
      case measure => simp [intOf]; omega
    · obtain rfl : n = j := by omega
      generalize wr = wq at *
      have HKR : Hid (∀ w', Ext wq w' → w'.cell? ⟨W.heap.size, 0, none⟩ = some (.slice (some ⟨ba, oa, none⟩) n c) ∧ w'.cell? ⟨W.heap.size, 1, none⟩ = some (.slice (some ⟨bb, ob, none⟩) n d) ∧ w'.cell? ⟨W.heap.size, 2, none⟩ = some (.slice N k e) ∧ w'.cell? ⟨w5.heap.size, 0, none⟩ = some (.slice (some ⟨b5, o5, none⟩) n c5) ∧ w'.cell? ⟨w5.heap.size, 1, none⟩ = some (.slice B5 n d5) ∧ w'.cell? ⟨w5.heap.size, 2, none⟩ = some (.slice N5 fk e5)) := Lib.hid fun w' hE => by
        have h := HKL.out w' (HX.out.trans hE)
        exact ⟨h.1.1, h.1.2.1, h.1.2.2, h.2.1, h.2.2.1, h.2.2.2⟩
      obtain ⟨r0, r1, r2, s0, s1, s2⟩ := HKR.out wq (Ext.refl _)
      have HX16 := Lib.hid (HX9.out.trans HX.out)
      have HF16 := Lib.hid (HF9.out.ext HX.out)
      have lq16 : W.heap.size < wq.heap.size := World.block_lt_of_cell? _ _ r0
      have lf16 : w5.heap.size < wq.heap.size := World.block_lt_of_cell? _ _ s0
      have e16 : (((0 : Nat) : Int) == 0) = true := by decide
      clear HX9 HX HF9 HCA9 HCB9 HKL CH lq9 lf9
      go_upto_region 16 with fail
      go_region_held3 (fun w' => w'.cell? ⟨W.heap.size, 0, none⟩ = some (.slice (some ⟨ba, oa, none⟩) n c) ∧ w'.cell? ⟨W.heap.size, 1, none⟩ = some (.slice (some ⟨bb, ob, none⟩) n d) ∧ w'.cell? ⟨W.heap.size, 2, none⟩ = some (.slice N k e) ∧ w'.cell? ⟨w5.heap.size, 0, none⟩ = some (.slice (some ⟨b5, o5, none⟩) n c5) ∧ w'.cell? ⟨w5.heap.size, 1, none⟩ = some (.slice B5 n d5) ∧ w'.cell? ⟨w5.heap.size, 2, none⟩ = some (.slice N5 fk e5))
        (first | exact HKR.out _ (by repeat (first | (with_reducible exact Ext.refl _) | (with_reducible assumption) | refine Ext.drew ?_ | refine Ext.drewN ?_ _ | refine Ext.alloc ?_ _)) | go_keep)
        (first
        | (go_at_call_of 19 (Value.agg #[.slice (some ⟨ba, oa, none⟩) n c, .slice (some ⟨bb, ob, none⟩) n d, .slice N k e])
           refine (CLT.out _ (HX16.out.trans (by repeat (first | (with_reducible exact Ext.refl _) | (with_reducible assumption) | refine Ext.drew ?_ | refine Ext.drewN ?_ _ | refine Ext.alloc ?_ _)))).mono ?_
           rintro ed wa ⟨La, ca, rfl, hOa, ha⟩
           have xa : Ext wq wa := Ext.trans (by repeat (first | (with_reducible exact Ext.refl _) | (with_reducible assumption) | refine Ext.drew ?_ | refine Ext.drewN ?_ _ | refine Ext.alloc ?_ _)) ha)
        | (go_at_call_of 19 (Value.agg #[.slice (some ⟨b5, o5, none⟩) n c5, .slice B5 n d5, .slice N5 fk e5])
           refine (CLF.out _ _ _ _ _ _ _ (HF16.out.ext (by repeat (first | (with_reducible exact Ext.refl _) | (with_reducible assumption) | refine Ext.drew ?_ | refine Ext.drewN ?_ _ | refine Ext.alloc ?_ _)))).mono ?_
           rintro ed wb ⟨Lb, cb2, rfl, hOb, hb⟩
           have xb : Ext wq wb := Ext.trans (by repeat (first | (with_reducible exact Ext.refl _) | (with_reducible assumption) | refine Ext.drew ?_ | refine Ext.drewN ?_ _ | refine Ext.alloc ?_ _)) hb)
        | (go_at_call 23
           refine (pchanged15_to lt lf lt.length lf.length La Lb ca cb2 0 0 _ (hOa.rd.ext (by repeat (first | (with_reducible exact Ext.refl _) | (with_reducible assumption) | refine Ext.drew ?_ | refine Ext.drewN ?_ _ | refine Ext.alloc ?_ _))) rfl (hOb.rd.ext (by repeat (first | (with_reducible exact Ext.refl _) | (with_reducible assumption) | refine Ext.drew ?_ | refine Ext.drewN ?_ _ | refine Ext.alloc ?_ _))) rfl HLL.out.1 HLL.out.2.1 HLL.out.2.2 rfl).mono ?_
           rintro ed wc ⟨rfl, hc⟩
           have xc : Ext wq wc := Ext.trans (by repeat (first | (with_reducible exact Ext.refl _) | (with_reducible assumption) | refine Ext.drew ?_ | refine Ext.drewN ?_ _ | refine Ext.alloc ?_ _)) hc)
        | (go_at_call 25
           refine (CRF.out _ _ _ _ _ _ _ (HF16.out.ext (by repeat (first | (with_reducible exact Ext.refl _) | (with_reducible assumption) | refine Ext.drew ?_ | refine Ext.drewN ?_ _ | refine Ext.alloc ?_ _)))).mono ?_
           rintro ed wd ⟨rfl, hd⟩
           have xd : Ext wq wd := Ext.trans (by repeat (first | (with_reducible exact Ext.refl _) | (with_reducible assumption) | refine Ext.drew ?_ | refine Ext.drewN ?_ _ | refine Ext.alloc ?_ _)) hd)
        | fail)
      all_goals go_wp2_with fail
      all_goals go_ret
      all_goals exact ⟨ret_bool (by first | rfl | simp), HX16.out.trans xd⟩
end Go.Proofs.Ytllpfegnpakadaa
