/- Joined by wip/merge.py: CrCopy, CrStep, CrStp, R5E, CrRun, CrTk, DrP, DrO, DrW, R6A, TBeginN, CrBegin, R5F. -/
import Derived.Test.YtggjjjfdkgfoiaaJ3
import Derived.Deep.DeepCutAuto
import Derived.BigRegion
set_option linter.unusedVariables false
set_option linter.unusedSimpArgs false
set_option linter.unnecessarySimpa false
/- The program's copy of a crew: memory of its own. -/
namespace Go.Proofs.Ytggjjjfdkgfoiaa
open Go.BigFrame
open Go.RowKit Go.Proofs.Ytggjjjfdkgfoiaa.Plain

theorem Ow.off {α : Type} {K : Kd α} {S : Nat → Prop} {B n c : Nat} {w : World} {A : Option Addr} {xs : List α} (h : Ow K B w (.slice A n c) xs) (hS : ∀ x, S x → x < B ∨ w.heap.size ≤ x) : RdO K S w (.slice A n c) xs :=
  h.rd.off fun a ha hs => by
    subst ha
    have := h.lt a.block rfl
    have := hS _ hs
    omega
/-- while deques are cloned, one after the other -/
structure CopyAt (S : Nat → Prop) (w1 : World) (e0 m k : Nat) (D : List (List Nat)) (hs : Nat → Hd) (wr : World) : Prop where
  done : ∀ j, j < k → wr.cell? ⟨e0, j, none⟩ = some (hs j).v ∧ (hs j).n = (D.getD j []).length ∧ ((hs j).n = 0 → (hs j).c = 0) ∧ RdO kInt S wr (hs j).v (zs (D.getD j []))
  rest : ∀ j, k ≤ j → j < m → wr.cell? ⟨e0, j, none⟩ = some (.slice none 0 0)
  frz : ∀ o, wr.frozen? ⟨e0, o, none⟩ = false
  grew : Grew (fun b => b = e0) w1 wr
theorem CopyAt.next {S : Nat → Prop} {w1 wr w2 : World} {e0 m k : Nat} {D : List (List Nat)} {hs : Nat → Hd} (h : CopyAt S w1 e0 m k D hs wr) (sE : S e0) (lE : e0 < wr.heap.size) (hE : Ext wr w2) (x : Hd) (hn : x.n = (D.getD k []).length) (hc : x.n = 0 → x.c = 0) (hr : RdO kInt S w2 x.v (zs (D.getD k []))) (hk : k < m) :
    CopyAt S w1 e0 m (k + 1) D (fun j => if j = k then x else hs j) (w2.setCell ⟨e0, k, none⟩ x.v) := by
  have hold : w2.cell? ⟨e0, k, none⟩ = some (.slice none 0 0) := hE.cell (h.rest k (Nat.le_refl _) hk)
  have hfz : w2.frozen? ⟨e0, k, none⟩ = false := (Below.frozen hE (p := ⟨e0, k, none⟩) lE).trans (h.frz k)
  refine ⟨fun j hj => ?_, fun j hj hjm => ?_, fun o => ?_, (h.grew.ext hE).setCell rfl _⟩
  · by_cases e : j = k
    · subst e
      rw [if_pos rfl]
      exact ⟨by go_simp, hn, hc, hr.setCell sE _⟩
    · rw [if_neg e]
      obtain ⟨h1, h2, h3, h4⟩ := h.done j (by omega)
      refine ⟨?_, h2, h3, (h4.ext hE).setCell sE _⟩
      rw [World.cell?_setCell_other _ _ _ _ (fun e' => e (by cases e'; rfl))]
      exact hE.cell h1
  · rw [World.cell?_setCell_other _ _ _ _ (fun e' => by cases e'; omega)]
    exact hE.cell (h.rest j (by omega) hjm)
  · rw [World.frozen?_setCell]
    exact (Below.frozen hE (p := ⟨e0, o, none⟩) lE).trans (h.frz o)

set_option maxHeartbeats 1600000 in
set_option maxRecDepth 100000 in
theorem ccopy_any (A B : Option Addr) (eb eo a b e g m : Nat) (c : Cw) (w : World) (h : CrewAt w m c A B eb eo a b) (me : m ≤ e) (m1 : 1 ≤ m) (m2 : m ≤ 8) (lt : c.ts.length ≤ 1000000) (ln : c.dn.length ≤ 1000000) (lh : ∀ j, (c.D.getD j []).length ≤ 1000000) :
    Calls Try.prog 73 #[crewV A B eb eo a b e g m c] w fun ed w' => ∃ (A' B' : Option Addr) (e0 a' b' : Nat) (hs : Nat → Hd), ed = .returned (crewV A' B' e0 0 a' b' m g m c) ∧
      w.heap.size ≤ e0 ∧ e0 < w'.heap.size ∧ (∀ o, w'.frozen? ⟨e0, o, none⟩ = false) ∧
      RdO kTask (fun x => x < w.heap.size + 2 ∨ x = e0) w' (.slice A' c.ts.length a') c.ts ∧ RdO kBool (fun x => x < w.heap.size + 2 ∨ x = e0) w' (.slice B' c.dn.length b') c.dn ∧
      (∀ j, j < m → w'.cell? ⟨e0, j, none⟩ = some (hs j).v ∧ (hs j).n = (c.D.getD j []).length ∧ ((hs j).n = 0 → (hs j).c = 0) ∧ RdO kInt (fun x => x < w.heap.size + 2 ∨ x = e0) w' (hs j).v (zs (c.D.getD j []))) ∧ Ext w w' := by
  have HH := Lib.hid h
  have HLH := Lib.hid lh
  obtain ⟨hs0, hds⟩ := h.deq
  have HDS := Lib.hid hds
  have HDL : Hid (c.D.length = m) := Lib.hid hds.1
  have m3 : (m : Int) ≤ 8 := by omega
  have m4 : (1 : Int) ≤ m := by omega
  have m5 : (m : Int) ≤ e := by omega
  obtain ⟨C, hmk, hmown⟩ := kRow.make hd0 rfl trivial m (by omega)
  have HMK := Lib.hid hmown
  have hmk2 : ∀ w : World, (Instr.makeSlice 75 (.int .i64 m) (.int .i64 m)).run Try.prog w = .ok (.slice (some ⟨w.heap.size, 0, none⟩) m m) (w.alloc (.cells C 23)) := hmk
  clear hmk h hds hmown lh
  go_enter Try.func73, Try.ntmps73
  go_wp2_with fail
  refine (clone_t _ c.ts _ (HH.out.tsk.rd.ext (((Ext.refl _).alloc _).alloc _)) (by omega)).mono ?_
  rintro ed w1 ⟨A1, a1, rfl, hT1, hE1⟩
  have v0 : w1.cell? ⟨w.heap.size, 0, none⟩ = some (.slice A c.ts.length a) := Ext.cell hE1 (by go_simp)
  have v1 : w1.cell? ⟨w.heap.size, 1, none⟩ = some (.int .i64 g) := Ext.cell hE1 (by go_simp)
  have v2 : w1.cell? ⟨w.heap.size, 2, none⟩ = some (.slice B c.dn.length b) := Ext.cell hE1 (by go_simp)
  have v3 : w1.cell? ⟨w.heap.size, 3, none⟩ = some (.slice (some ⟨eb, eo, none⟩) m e) := Ext.cell hE1 (by go_simp)
  have v4 : w1.cell? ⟨w.heap.size, 4, none⟩ = some (.bool c.over) := Ext.cell hE1 (by go_simp)
  have v5 : w1.cell? ⟨w.heap.size, 5, none⟩ = some (.int .i64 c.st) := Ext.cell hE1 (by go_simp)
  have v6 : w1.cell? ⟨w.heap.size, 6, none⟩ = some (.int .i64 c.id) := Ext.cell hE1 (by go_simp)
  have vf : ∀ o, w1.frozen? ⟨w.heap.size, o, none⟩ = false := fun o => (Below.frozen hE1 (p := ⟨w.heap.size, o, none⟩) (by first | omega | (simp; omega) | simp)).trans (by go_simp)
  have r0 : w1.cell? ⟨w.heap.size + 1, 0, none⟩ = some (.slice none 0 0) := Ext.cell hE1 (by go_simp)
  have r1 : w1.cell? ⟨w.heap.size + 1, 1, none⟩ = some (.int .i64 0) := Ext.cell hE1 (by go_simp)
  have r2 : w1.cell? ⟨w.heap.size + 1, 2, none⟩ = some (.slice none 0 0) := Ext.cell hE1 (by go_simp)
  have r3 : w1.cell? ⟨w.heap.size + 1, 3, none⟩ = some (.slice none 0 0) := Ext.cell hE1 (by go_simp)
  have r4 : w1.cell? ⟨w.heap.size + 1, 4, none⟩ = some (.bool false) := Ext.cell hE1 (by go_simp)
  have r5 : w1.cell? ⟨w.heap.size + 1, 5, none⟩ = some (.int .i64 0) := Ext.cell hE1 (by go_simp)
  have r6 : w1.cell? ⟨w.heap.size + 1, 6, none⟩ = some (.int .i64 0) := Ext.cell hE1 (by go_simp)
  have rf : ∀ o, w1.frozen? ⟨w.heap.size + 1, o, none⟩ = false := fun o => (Below.frozen hE1 (p := ⟨w.heap.size + 1, o, none⟩) (by first | omega | (simp; omega) | simp)).trans (by go_simp)
  have hz1 := hE1.size
  simp at hz1
  have l1 : w.heap.size < w1.heap.size := by omega
  have l1' : w.heap.size + 1 < w1.heap.size := by omega
  have HT1 := Lib.hid hT1
  have HX1 := Lib.hid (((((Ext.refl w).alloc _).alloc _).trans hE1).setCell (p := ⟨w.heap.size, 0, none⟩) (Nat.le_refl _) (.slice A1 c.ts.length a1))
  clear hE1 hT1
  go_wp2_with fail
  refine (clone_b _ c.dn _ (HH.out.dns.rd.ext HX1.out) (by omega)).mono ?_
  rintro ed w2 ⟨B1, b1, rfl, hD1, hE2⟩
  have y0 : w2.cell? ⟨w.heap.size, 0, none⟩ = some (.slice A1 c.ts.length a1) := Ext.cell hE2 (by go_simp)
  have y1 : w2.cell? ⟨w.heap.size, 1, none⟩ = some (.int .i64 g) := Ext.cell hE2 (by go_simp)
  have y2 : w2.cell? ⟨w.heap.size, 2, none⟩ = some (.slice B c.dn.length b) := Ext.cell hE2 (by go_simp)
  have y3 : w2.cell? ⟨w.heap.size, 3, none⟩ = some (.slice (some ⟨eb, eo, none⟩) m e) := Ext.cell hE2 (by go_simp)
  have y4 : w2.cell? ⟨w.heap.size, 4, none⟩ = some (.bool c.over) := Ext.cell hE2 (by go_simp)
  have y5 : w2.cell? ⟨w.heap.size, 5, none⟩ = some (.int .i64 c.st) := Ext.cell hE2 (by go_simp)
  have y6 : w2.cell? ⟨w.heap.size, 6, none⟩ = some (.int .i64 c.id) := Ext.cell hE2 (by go_simp)
  have yf : ∀ o, w2.frozen? ⟨w.heap.size, o, none⟩ = false := fun o => (Below.frozen hE2 (p := ⟨w.heap.size, o, none⟩) (by first | omega | (simp; omega) | simp)).trans (by go_simp)
  have s0 : w2.cell? ⟨w.heap.size + 1, 0, none⟩ = some (.slice none 0 0) := Ext.cell hE2 (by go_simp)
  have s1 : w2.cell? ⟨w.heap.size + 1, 1, none⟩ = some (.int .i64 0) := Ext.cell hE2 (by go_simp)
  have s2 : w2.cell? ⟨w.heap.size + 1, 2, none⟩ = some (.slice none 0 0) := Ext.cell hE2 (by go_simp)
  have s3 : w2.cell? ⟨w.heap.size + 1, 3, none⟩ = some (.slice none 0 0) := Ext.cell hE2 (by go_simp)
  have s4 : w2.cell? ⟨w.heap.size + 1, 4, none⟩ = some (.bool false) := Ext.cell hE2 (by go_simp)
  have s5 : w2.cell? ⟨w.heap.size + 1, 5, none⟩ = some (.int .i64 0) := Ext.cell hE2 (by go_simp)
  have s6 : w2.cell? ⟨w.heap.size + 1, 6, none⟩ = some (.int .i64 0) := Ext.cell hE2 (by go_simp)
  have sf : ∀ o, w2.frozen? ⟨w.heap.size + 1, o, none⟩ = false := fun o => (Below.frozen hE2 (p := ⟨w.heap.size + 1, o, none⟩) (by first | omega | (simp; omega) | simp)).trans (by go_simp)
  have hz2 := hE2.size
  simp at hz2
  have l2 : w.heap.size < w2.heap.size := by omega
  have l2' : w.heap.size + 1 < w2.heap.size := by omega
  have HD1 := Lib.hid hD1
  have HT2 := Lib.hid ((HT1.out.setBelow (p := ⟨w.heap.size, 0, none⟩) (by simp; omega) (.slice A1 c.ts.length a1)).ext hE2)
  have HX2 := Lib.hid ((HX1.out.trans hE2).setCell (p := ⟨w.heap.size, 2, none⟩) (Nat.le_refl _) (.slice B1 c.dn.length b1))
  clear hE2 hD1 v0 v1 v2 v3 v4 v5 v6 vf r0 r1 r2 r3 r4 r5 r6 rf
  go_wp2_with fail
  obtain ⟨e0, he0⟩ : ∃ e0, w2.heap.size = e0 := ⟨_, rfl⟩
  have HT3 : Hid (RdO kTask (fun x => x < w.heap.size + 2 ∨ x = e0) ((w2.setCell ⟨w.heap.size, 2, none⟩ (.slice B1 c.dn.length b1)).alloc (.cells C 23)) (.slice A1 c.ts.length a1) c.ts) := Lib.hid (by
    refine RdO.ext (Ow.off (HT2.out.setBelow (p := ⟨w.heap.size, 2, none⟩) (by simp; omega) (.slice B1 c.dn.length b1)) (fun x hx => ?_)) ((Ext.refl _).alloc _)
    rcases hx with hx | hx
    · left; simp; omega
    · right; subst hx; rw [← he0, World.size_setCell]; exact Nat.le_refl _)
  have HD3 : Hid (RdO kBool (fun x => x < w.heap.size + 2 ∨ x = e0) ((w2.setCell ⟨w.heap.size, 2, none⟩ (.slice B1 c.dn.length b1)).alloc (.cells C 23)) (.slice B1 c.dn.length b1) c.dn) := Lib.hid (by
    refine RdO.ext (Ow.off (HD1.out.setBelow (p := ⟨w.heap.size, 2, none⟩) (by simp; omega) (.slice B1 c.dn.length b1)) (fun x hx => ?_)) ((Ext.refl _).alloc _)
    rcases hx with hx | hx
    · left; simp; omega
    · right; subst hx; rw [← he0, World.size_setCell]; exact Nat.le_refl _)
  have HX3 : Hid (Ext w ((w2.setCell ⟨w.heap.size, 2, none⟩ (.slice B1 c.dn.length b1)).alloc (.cells C 23))) := Lib.hid (HX2.out.alloc _)
  have HC3 : Hid (CopyAt (fun x => x < w.heap.size + 2 ∨ x = e0) ((w2.setCell ⟨w.heap.size, 2, none⟩ (.slice B1 c.dn.length b1)).alloc (.cells C 23)) e0 m 0 c.D (fun _ => hd0) ((w2.setCell ⟨w.heap.size, 2, none⟩ (.slice B1 c.dn.length b1)).alloc (.cells C 23))) := Lib.hid (by
    have hm := HMK.out (w2.setCell ⟨w.heap.size, 2, none⟩ (.slice B1 c.dn.length b1)) e0 e0 (by rw [World.size_setCell]; exact he0.symm) (Nat.le_refl _)
    obtain ⟨g', eg, _, _, h3, h4⟩ := Ow.pos hm (by rw [List.length_replicate]; exact m1)
    cases eg
    refine ⟨fun j hj => absurd hj (Nat.not_lt_zero _), fun j _ hj => ?_, h4, Grew.refl _ _⟩
    have := h3 j (by rw [List.length_replicate]; exact hj) 0 (.slice none 0 0) (by rw [List.getD_eq_getElem?_getD, List.getElem?_replicate, if_pos hj]; rfl)
    rw [show j = j * kRow.n + 0 from by show j = j * 1 + 0; omega]
    exact this)
  have le0 : w.heap.size + 1 < e0 := by omega
  have le00 : w.heap.size < e0 := by omega
  have HZ3 : Hid (e0 < ((w2.setCell ⟨w.heap.size, 2, none⟩ (.slice B1 c.dn.length b1)).alloc (.cells C 23)).heap.size) := Lib.hid (by simp; omega)
  have hEr : Ext ((w2.setCell ⟨w.heap.size, 2, none⟩ (.slice B1 c.dn.length b1)).alloc (.cells C 23)) ((w2.setCell ⟨w.heap.size, 2, none⟩ (.slice B1 c.dn.length b1)).alloc (.cells C 23)) := Ext.refl _
  rw [he0]
  have l3 : w.heap.size + 1 < ((w2.setCell ⟨w.heap.size, 2, none⟩ (.slice B1 c.dn.length b1)).alloc (.cells C 23)).heap.size := by simp; omega
  have q0 : ((w2.setCell ⟨w.heap.size, 2, none⟩ (.slice B1 c.dn.length b1)).alloc (.cells C 23)).cell? ⟨w.heap.size, 0, none⟩ = some (.slice A1 c.ts.length a1) := Ext.cell hEr (by go_simp)
  have q1 : ((w2.setCell ⟨w.heap.size, 2, none⟩ (.slice B1 c.dn.length b1)).alloc (.cells C 23)).cell? ⟨w.heap.size, 1, none⟩ = some (.int .i64 g) := Ext.cell hEr (by go_simp)
  have q2 : ((w2.setCell ⟨w.heap.size, 2, none⟩ (.slice B1 c.dn.length b1)).alloc (.cells C 23)).cell? ⟨w.heap.size, 2, none⟩ = some (.slice B1 c.dn.length b1) := Ext.cell hEr (by go_simp)
  have q3 : ((w2.setCell ⟨w.heap.size, 2, none⟩ (.slice B1 c.dn.length b1)).alloc (.cells C 23)).cell? ⟨w.heap.size, 3, none⟩ = some (.slice (some ⟨eb, eo, none⟩) m e) := Ext.cell hEr (by go_simp)
  have q4 : ((w2.setCell ⟨w.heap.size, 2, none⟩ (.slice B1 c.dn.length b1)).alloc (.cells C 23)).cell? ⟨w.heap.size, 4, none⟩ = some (.bool c.over) := Ext.cell hEr (by go_simp)
  have q5 : ((w2.setCell ⟨w.heap.size, 2, none⟩ (.slice B1 c.dn.length b1)).alloc (.cells C 23)).cell? ⟨w.heap.size, 5, none⟩ = some (.int .i64 c.st) := Ext.cell hEr (by go_simp)
  have q6 : ((w2.setCell ⟨w.heap.size, 2, none⟩ (.slice B1 c.dn.length b1)).alloc (.cells C 23)).cell? ⟨w.heap.size, 6, none⟩ = some (.int .i64 c.id) := Ext.cell hEr (by go_simp)
  have qf : ∀ o, ((w2.setCell ⟨w.heap.size, 2, none⟩ (.slice B1 c.dn.length b1)).alloc (.cells C 23)).frozen? ⟨w.heap.size, o, none⟩ = false := fun o => (Below.frozen hEr (p := ⟨w.heap.size, o, none⟩) (by first | omega | (simp; omega) | simp)).trans (by go_simp)
  have x0 : ((w2.setCell ⟨w.heap.size, 2, none⟩ (.slice B1 c.dn.length b1)).alloc (.cells C 23)).cell? ⟨w.heap.size + 1, 0, none⟩ = some (.slice none 0 0) := Ext.cell hEr (by go_simp)
  have x1 : ((w2.setCell ⟨w.heap.size, 2, none⟩ (.slice B1 c.dn.length b1)).alloc (.cells C 23)).cell? ⟨w.heap.size + 1, 1, none⟩ = some (.int .i64 0) := Ext.cell hEr (by go_simp)
  have x2 : ((w2.setCell ⟨w.heap.size, 2, none⟩ (.slice B1 c.dn.length b1)).alloc (.cells C 23)).cell? ⟨w.heap.size + 1, 2, none⟩ = some (.slice none 0 0) := Ext.cell hEr (by go_simp)
  have x3 : ((w2.setCell ⟨w.heap.size, 2, none⟩ (.slice B1 c.dn.length b1)).alloc (.cells C 23)).cell? ⟨w.heap.size + 1, 3, none⟩ = some (.slice none 0 0) := Ext.cell hEr (by go_simp)
  have x4 : ((w2.setCell ⟨w.heap.size, 2, none⟩ (.slice B1 c.dn.length b1)).alloc (.cells C 23)).cell? ⟨w.heap.size + 1, 4, none⟩ = some (.bool false) := Ext.cell hEr (by go_simp)
  have x5 : ((w2.setCell ⟨w.heap.size, 2, none⟩ (.slice B1 c.dn.length b1)).alloc (.cells C 23)).cell? ⟨w.heap.size + 1, 5, none⟩ = some (.int .i64 0) := Ext.cell hEr (by go_simp)
  have x6 : ((w2.setCell ⟨w.heap.size, 2, none⟩ (.slice B1 c.dn.length b1)).alloc (.cells C 23)).cell? ⟨w.heap.size + 1, 6, none⟩ = some (.int .i64 0) := Ext.cell hEr (by go_simp)
  have xf : ∀ o, ((w2.setCell ⟨w.heap.size, 2, none⟩ (.slice B1 c.dn.length b1)).alloc (.cells C 23)).frozen? ⟨w.heap.size + 1, o, none⟩ = false := fun o => (Below.frozen hEr (p := ⟨w.heap.size + 1, o, none⟩) (by first | omega | (simp; omega) | simp)).trans (by go_simp)
  clear hEr y0 y1 y2 y3 y4 y5 y6 yf s0 s1 s2 s3 s4 s5 s6 sf HT2 HD1 HX2 HT1 HX1 HMK hz1 hz2 l1 l1' l2 l2'
  generalize hw3 : (w2.setCell ⟨w.heap.size, 2, none⟩ (.slice B1 c.dn.length b1)).alloc (.cells C 23) = w3 at *
  clear hw3 he0 hmk2
  go_loopw [25] (fun i wr => ∃ (k : Nat) (hs : Nat → Hd), k ≤ m ∧ i = .int .i64 k ∧ CopyAt (fun x => x < w.heap.size + 2 ∨ x = e0) w3 e0 m k c.D hs wr) (fun i _ => m - (intOf i).toNat)
  case atStart => exact ⟨0, _, Nat.zero_le _, rfl, HC3.out⟩
  case round =>
    obtain ⟨k, hs, hk, rfl, hC⟩ := hrel
    have HC := Lib.hid hC
    have hk0 : (0 : Int) ≤ k := by omega
    have hG := hC.grew
    have hzr := hG.size
    have z3 := HZ3.out
    have ler : e0 < wr.heap.size := by omega
    by_cases hlt : k < m
    · have hlt' : (k : Int) < m := by omega
      obtain ⟨z0, zn, zr⟩ := HDS.out.2 k hlt
      have hXr := hG.toExt HX3.out (fun b hb => by rw [hb]; omega)
      have z := hXr.cell z0
      obtain ⟨xs, hxs⟩ : ∃ xs, c.D.getD k [] = xs := ⟨_, rfl⟩
      rw [hxs] at zn zr
      have HXS := Lib.hid hxs
      have HZR : Hid (Rd kInt wr (hs0 k).v (zs xs)) := Lib.hid (zr.rd.ext hXr)
      have HZN := Lib.hid zn
      have HXL : Hid (xs.length ≤ 1000000) := Lib.hid (by rw [← hxs]; exact HLH.out k)
      have hrest := hC.rest k (Nat.le_refl _) hlt
      clear hC hG zn zr hXr z0 hxs
      go_wp2_with fail
      refine (clone_dq (hs0 k) xs _ HZR.out HZN.out HXL.out).mono ?_
      rintro ed w4 ⟨x, rfl, hxn, hxc, hxr, hE4⟩
      have HN4 : Hid (CopyAt (fun x => x < w.heap.size + 2 ∨ x = e0) w3 e0 m (k + 1) c.D (fun j => if j = k then x else hs j) (w4.setCell ⟨e0, k, none⟩ x.v)) := Lib.hid (HC.out.next (.inr rfl) ler hE4 x (by rw [HXS.out]; exact hxn) hxc (by rw [HXS.out]; exact hxr _ (fun y hy => by rcases hy with hy | hy <;> omega)) hlt)
      have hr4 := hE4.cell hrest
      have hf4 := fun o => (Below.frozen hE4 (p := ⟨e0, o, none⟩) ler).trans (HC.out.frz o)
      have hz4 := hE4.size
      have ler4 : e0 < w4.heap.size := by omega
      clear hxn hxc hxr hE4 hrest
      go_wp2_with fail
      go_roundw
      case rel => exact ⟨k + 1, _, by omega, by go_num, HN4.out⟩
      case measure => simp [intOf]; omega
    · obtain rfl : k = m := by omega
      have p0 := hG.cell q0 (by omega)
      have p1 := hG.cell q1 (by omega)
      have p2 := hG.cell q2 (by omega)
      have p3 := hG.cell q3 (by omega)
      have p4 := hG.cell q4 (by omega)
      have p5 := hG.cell q5 (by omega)
      have p6 := hG.cell q6 (by omega)
      have pf := fun o => (hG.frozen (b := w.heap.size) (by omega) (by omega) o).trans (qf o)
      have zz0 := hG.cell x0 (by omega)
      have zz1 := hG.cell x1 (by omega)
      have zz2 := hG.cell x2 (by omega)
      have zz3 := hG.cell x3 (by omega)
      have zz4 := hG.cell x4 (by omega)
      have zz5 := hG.cell x5 (by omega)
      have zz6 := hG.cell x6 (by omega)
      have zzf := fun o => (hG.frozen (b := w.heap.size + 1) (by omega) (by omega) o).trans (xf o)
      have lv0 : w.heap.size < wr.heap.size := by omega
      have lv1 : w.heap.size + 1 < wr.heap.size := by omega
      have HXR : Hid (Ext w wr) := Lib.hid (hG.toExt HX3.out (fun b hb => by rw [hb]; omega))
      have HTR := Lib.hid (HT3.out.grew (hG.mono (T := fun x => x < w.heap.size + 2 ∨ x = e0) (fun b _ hb => .inr hb)))
      have HDR := Lib.hid (HD3.out.grew (hG.mono (T := fun x => x < w.heap.size + 2 ∨ x = e0) (fun b _ hb => .inr hb)))
      clear q0 q1 q2 q3 q4 q5 q6 qf x0 x1 x2 x3 x4 x5 x6 xf hG hC l3 z3 hzr
      go_upto_region 10 with fail
      have hEs : Ext (wr.setCell ⟨w.heap.size, 3, none⟩ (.slice (some ⟨e0, 0, none⟩) k k)) (wr.setCell ⟨w.heap.size, 3, none⟩ (.slice (some ⟨e0, 0, none⟩) k k)) := Ext.refl _
      have mm0 : (wr.setCell ⟨w.heap.size, 3, none⟩ (.slice (some ⟨e0, 0, none⟩) k k)).cell? ⟨w.heap.size, 0, none⟩ = some (.slice A1 c.ts.length a1) := Ext.cell hEs (by go_simp)
      have mm1 : (wr.setCell ⟨w.heap.size, 3, none⟩ (.slice (some ⟨e0, 0, none⟩) k k)).cell? ⟨w.heap.size, 1, none⟩ = some (.int .i64 g) := Ext.cell hEs (by go_simp)
      have mm2 : (wr.setCell ⟨w.heap.size, 3, none⟩ (.slice (some ⟨e0, 0, none⟩) k k)).cell? ⟨w.heap.size, 2, none⟩ = some (.slice B1 c.dn.length b1) := Ext.cell hEs (by go_simp)
      have mm3 : (wr.setCell ⟨w.heap.size, 3, none⟩ (.slice (some ⟨e0, 0, none⟩) k k)).cell? ⟨w.heap.size, 3, none⟩ = some (.slice (some ⟨e0, 0, none⟩) k k) := Ext.cell hEs (by go_simp)
      have mm4 : (wr.setCell ⟨w.heap.size, 3, none⟩ (.slice (some ⟨e0, 0, none⟩) k k)).cell? ⟨w.heap.size, 4, none⟩ = some (.bool c.over) := Ext.cell hEs (by go_simp)
      have mm5 : (wr.setCell ⟨w.heap.size, 3, none⟩ (.slice (some ⟨e0, 0, none⟩) k k)).cell? ⟨w.heap.size, 5, none⟩ = some (.int .i64 c.st) := Ext.cell hEs (by go_simp)
      have mm6 : (wr.setCell ⟨w.heap.size, 3, none⟩ (.slice (some ⟨e0, 0, none⟩) k k)).cell? ⟨w.heap.size, 6, none⟩ = some (.int .i64 c.id) := Ext.cell hEs (by go_simp)
      have mmf : ∀ o, (wr.setCell ⟨w.heap.size, 3, none⟩ (.slice (some ⟨e0, 0, none⟩) k k)).frozen? ⟨w.heap.size, o, none⟩ = false := fun o => (Below.frozen hEs (p := ⟨w.heap.size, o, none⟩) (by first | omega | (simp; omega) | simp)).trans (by go_simp)
      have nn0 : (wr.setCell ⟨w.heap.size, 3, none⟩ (.slice (some ⟨e0, 0, none⟩) k k)).cell? ⟨w.heap.size + 1, 0, none⟩ = some (.slice none 0 0) := Ext.cell hEs (by go_simp)
      have nn1 : (wr.setCell ⟨w.heap.size, 3, none⟩ (.slice (some ⟨e0, 0, none⟩) k k)).cell? ⟨w.heap.size + 1, 1, none⟩ = some (.int .i64 0) := Ext.cell hEs (by go_simp)
      have nn2 : (wr.setCell ⟨w.heap.size, 3, none⟩ (.slice (some ⟨e0, 0, none⟩) k k)).cell? ⟨w.heap.size + 1, 2, none⟩ = some (.slice none 0 0) := Ext.cell hEs (by go_simp)
      have nn3 : (wr.setCell ⟨w.heap.size, 3, none⟩ (.slice (some ⟨e0, 0, none⟩) k k)).cell? ⟨w.heap.size + 1, 3, none⟩ = some (.slice none 0 0) := Ext.cell hEs (by go_simp)
      have nn4 : (wr.setCell ⟨w.heap.size, 3, none⟩ (.slice (some ⟨e0, 0, none⟩) k k)).cell? ⟨w.heap.size + 1, 4, none⟩ = some (.bool false) := Ext.cell hEs (by go_simp)
      have nn5 : (wr.setCell ⟨w.heap.size, 3, none⟩ (.slice (some ⟨e0, 0, none⟩) k k)).cell? ⟨w.heap.size + 1, 5, none⟩ = some (.int .i64 0) := Ext.cell hEs (by go_simp)
      have nn6 : (wr.setCell ⟨w.heap.size, 3, none⟩ (.slice (some ⟨e0, 0, none⟩) k k)).cell? ⟨w.heap.size + 1, 6, none⟩ = some (.int .i64 0) := Ext.cell hEs (by go_simp)
      have nnf : ∀ o, (wr.setCell ⟨w.heap.size, 3, none⟩ (.slice (some ⟨e0, 0, none⟩) k k)).frozen? ⟨w.heap.size + 1, o, none⟩ = false := fun o => (Below.frozen hEs (p := ⟨w.heap.size + 1, o, none⟩) (by first | omega | (simp; omega) | simp)).trans (by go_simp)
      have HGW : Hid (Grew (fun x => x = w.heap.size) wr (wr.setCell ⟨w.heap.size, 3, none⟩ (.slice (some ⟨e0, 0, none⟩) k k))) := Lib.hid (Grew.setCell (S := fun x => x = w.heap.size) (p := ⟨w.heap.size, 3, none⟩) (Grew.refl _ _) rfl _)
      have HG7 : Hid (Grew (fun x => x < w.heap.size + 2 ∨ x = e0) wr (wr.setCell ⟨w.heap.size, 3, none⟩ (.slice (some ⟨e0, 0, none⟩) k k))) := Lib.hid (HGW.out.mono (fun x _ hx => .inl (by rw [hx]; omega)))
      have HXS : Hid (Ext w (wr.setCell ⟨w.heap.size, 3, none⟩ (.slice (some ⟨e0, 0, none⟩) k k))) := Lib.hid (HXR.out.setCell (p := ⟨w.heap.size, 3, none⟩) (Nat.le_refl _) _)
      have lv5 : w.heap.size + 1 < ((wr.setCell ⟨w.heap.size, 3, none⟩ (.slice (some ⟨e0, 0, none⟩) k k))).heap.size := by simp; omega
      have lv7 : e0 < ((wr.setCell ⟨w.heap.size, 3, none⟩ (.slice (some ⟨e0, 0, none⟩) k k))).heap.size := by simp; omega
      have lv6 : w.heap.size < ((wr.setCell ⟨w.heap.size, 3, none⟩ (.slice (some ⟨e0, 0, none⟩) k k))).heap.size := by simp; omega
      generalize hw5 : (wr.setCell ⟨w.heap.size, 3, none⟩ (.slice (some ⟨e0, 0, none⟩) k k)) = w5 at *
      clear hw5 hEs p0 p1 p2 p3 p4 p5 p6 pf zz0 zz1 zz2 zz3 zz4 zz5 zz6 zzf
      go_wp2_with fail
      refine bodyPost_ret (v := .agg #[.slice A1 c.ts.length a1, .int .i64 g, .slice B1 c.dn.length b1, .slice (some ⟨e0, 0, none⟩) k k, .bool c.over, .int .i64 c.st, .int .i64 c.id]) (by simp [results, Try.results73, go_sem]; go_simp) rfl ⟨A1, B1, e0, a1, b1, hs, rfl, ?_, ?_, ?_, ?_, ?_, ?_, ?_⟩
      · omega
      · simp; omega
      · exact fun o => by rw [World.frozen?_setCell, World.frozen?_setCell, World.frozen?_setCell, World.frozen?_setCell, World.frozen?_setCell, World.frozen?_setCell, World.frozen?_setCell]; exact (HGW.out.frozen ler (by omega) o).trans (HC.out.frz o)
      · exact HTR.out.grew (((((((HG7.out.setCell (p := ⟨w.heap.size + 1, 0, none⟩) (.inl (by simp)) _).setCell (p := ⟨w.heap.size + 1, 1, none⟩) (.inl (by simp)) _).setCell (p := ⟨w.heap.size + 1, 2, none⟩) (.inl (by simp)) _).setCell (p := ⟨w.heap.size + 1, 3, none⟩) (.inl (by simp)) _).setCell (p := ⟨w.heap.size + 1, 4, none⟩) (.inl (by simp)) _).setCell (p := ⟨w.heap.size + 1, 5, none⟩) (.inl (by simp)) _).setCell (p := ⟨w.heap.size + 1, 6, none⟩) (.inl (by simp)) _)
      · exact HDR.out.grew (((((((HG7.out.setCell (p := ⟨w.heap.size + 1, 0, none⟩) (.inl (by simp)) _).setCell (p := ⟨w.heap.size + 1, 1, none⟩) (.inl (by simp)) _).setCell (p := ⟨w.heap.size + 1, 2, none⟩) (.inl (by simp)) _).setCell (p := ⟨w.heap.size + 1, 3, none⟩) (.inl (by simp)) _).setCell (p := ⟨w.heap.size + 1, 4, none⟩) (.inl (by simp)) _).setCell (p := ⟨w.heap.size + 1, 5, none⟩) (.inl (by simp)) _).setCell (p := ⟨w.heap.size + 1, 6, none⟩) (.inl (by simp)) _)
      · intro j hj
        obtain ⟨h1, h2, h3, h4⟩ := HC.out.done j hj
        have hG7 := (((((((HG7.out.setCell (p := ⟨w.heap.size + 1, 0, none⟩) (.inl (by simp)) (.slice A1 c.ts.length a1)).setCell (p := ⟨w.heap.size + 1, 1, none⟩) (.inl (by simp)) (.int .i64 g)).setCell (p := ⟨w.heap.size + 1, 2, none⟩) (.inl (by simp)) (.slice B1 c.dn.length b1)).setCell (p := ⟨w.heap.size + 1, 3, none⟩) (.inl (by simp)) (.slice (some ⟨e0, 0, none⟩) k k)).setCell (p := ⟨w.heap.size + 1, 4, none⟩) (.inl (by simp)) (.bool c.over)).setCell (p := ⟨w.heap.size + 1, 5, none⟩) (.inl (by simp)) (.int .i64 c.st)).setCell (p := ⟨w.heap.size + 1, 6, none⟩) (.inl (by simp)) (.int .i64 c.id))
        refine ⟨?_, h2, h3, h4.grew hG7⟩
        exact Grew.cell (S := fun x => x = w.heap.size ∨ x = w.heap.size + 1) ((((((((HGW.out.mono (T := fun x => x = w.heap.size ∨ x = w.heap.size + 1) (fun _ _ hx => .inl hx)).setCell (p := ⟨w.heap.size + 1, 0, none⟩) (.inr rfl) _).setCell (p := ⟨w.heap.size + 1, 1, none⟩) (.inr rfl) _).setCell (p := ⟨w.heap.size + 1, 2, none⟩) (.inr rfl) _).setCell (p := ⟨w.heap.size + 1, 3, none⟩) (.inr rfl) _).setCell (p := ⟨w.heap.size + 1, 4, none⟩) (.inr rfl) _).setCell (p := ⟨w.heap.size + 1, 5, none⟩) (.inr rfl) _).setCell (p := ⟨w.heap.size + 1, 6, none⟩) (.inr rfl) _) h1 (by omega)
      · exact ((((((HXS.out.setCell (by simp) _).setCell (by simp) _).setCell (by simp) _).setCell (by simp) _).setCell (by simp) _).setCell (by simp) _).setCell (by simp) _
end Go.Proofs.Ytggjjjfdkgfoiaa

/- One that goes steps: a step; the program's Step, Run. -/
namespace Go.Proofs.Ytggjjjfdkgfoiaa
open Go.BigFrame
open Go.RowKit Go.Proofs.Ytggjjjfdkgfoiaa.Plain

theorem srcI_none {D : List (List Nat)} {P Q : Nat} (h : srcN D P Q = none) : srcI D P Q = -1 := by unfold srcI; rw [h]
theorem srcI_some {D : List (List Nat)} {P Q F : Nat} (h : srcN D P Q = some F) : srcI D P Q = F := by unfold srcI; rw [h]
set_option maxHeartbeats 1600000 in
set_option maxRecDepth 100000 in
theorem gstep_any {S : Nat → Prop} {V e0 g n m : Nat} {c : Cw} {ev : Ev} {A B : Option Addr} {a b e : Nat} {hs : Nat → Hd} {done : Nat} {G : List Nat} (p q : Int) (w : World) (h : GoAt S w V e0 g m c ev A B a b e hs) (hI : CwI g n m c done G)
    (n1 : 1 ≤ n) (n2 : n ≤ 900) (g1 : 1 ≤ g) (g2 : g ≤ 100) (m1 : 1 ≤ m) (m2 : m ≤ 8) (hst : c.st < 100000) (hid : c.id < 100000) (hp : in64 p) (hq : in64 q) :
    Calls Try.prog 74 #[.pointer (some ⟨V, 0, none⟩), .int .i64 p, .int .i64 q] w (GoSaid S V e0 g m e (stepP g m c p q) w) := by
  have H := Lib.hid h
  have HI := Lib.hid hI
  have hP := cutN_lt m p m1
  have hQ := cutN_lt m q m1
  obtain ⟨P, hPe⟩ : ∃ P, cutN m p = P := ⟨_, rfl⟩
  obtain ⟨Q, hQe⟩ : ∃ Q, cutN m q = Q := ⟨_, rfl⟩
  rw [hPe] at hP
  rw [hQe] at hQ
  have HPE := Lib.hid (And.intro hPe hQe)
  have HPQ := Lib.hid (And.intro hp hq)
  obtain ⟨v0, v1, v2, v3, v4, v5, v6⟩ := And.intro h.v0 (And.intro h.v1 (And.intro h.v2 (And.intro h.v3 (And.intro h.v4 (And.intro h.v5 h.v6)))))
  have s1 : ¬ (c.st : Int) = 100000 := by omega
  have s2 : ¬ (c.id : Int) = 100000 := by omega
  have d1 : ((c.st : Int) == 100000) = false := by rw [beq_eq_false_iff_ne]; exact s1
  have d2 : ((c.id : Int) == 100000) = false := by rw [beq_eq_false_iff_ne]; exact s2
  have lV : V < w.heap.size := h.sl V h.sV
  clear h hI hPe hQe hp hq
  go_enter Try.func74, Try.ntmps74
  go_wp2_with fail
  refine (cright_yes A B e0 0 a b e g n m c _ _ w H.out.at_ HI.out n1 n2 g1 g2 m1 m2 (by omega) (by omega)).mono ?_
  rintro ed w1 ⟨rfl, hE1⟩
  have H1 := Lib.hid (H.out.ext hE1)
  have x3 := hE1.cell v3
  have x5 := hE1.cell v5
  have x6 := hE1.cell v6
  have HE1 := Lib.hid hE1
  clear hE1 v0 v1 v2 v3 v4 v5 v6
  go_wp2_with fail
  refine (ccut_any p m w1 HPQ.out.1 m1 m2).mono ?_
  rw [HPE.out.1]
  rintro ed w2 ⟨rfl, rfl⟩
  go_wp2_with fail
  refine (ccut_any q m w1 HPQ.out.2 m1 m2).mono ?_
  rw [HPE.out.2]
  rintro ed w2 ⟨rfl, rfl⟩
  go_wp2_with fail
  refine (source_any P Q w1 H1.out hP hQ m2).mono ?_
  cases hs' : srcN c.D P Q with
  | none =>
    rw [srcI_none hs']
    have HST : Hid (stepP g m c p q = (⟨c.ts, c.dn, c.D, c.over, c.st + 1, c.id + 1⟩, ⟨P, -1, -1, false⟩)) := Lib.hid (by unfold stepP; rw [HPE.out.1, HPE.out.2, hs'])
    clear hs'
    rintro ed w2 ⟨rfl, rfl⟩
    go_wp2_with fail
    refine (idle_any P w1 H1.out hst hid).mono ?_
    rintro ed w3 ⟨rfl, hG3, hW3⟩
    have HG3 := Lib.hid hG3
    have HW3 := Lib.hid hW3
    clear hG3 hW3
    go_wp2_with fail
    go_ret
    rw [HST.out]
    exact ⟨A, B, a, b, hs, rfl, HG3.out, (Grew.of HE1.out).trans HW3.out⟩
  | some F =>
    obtain ⟨hne, hor⟩ := srcN_some hs'
    have hF : F < m := by rcases hor with rfl | ⟨rfl, _⟩ <;> assumption
    have hFP : F = P ∨ c.D.getD P [] = [] := by rcases hor with h1 | ⟨_, _, h1⟩; exact .inl h1; exact .inr h1
    rw [srcI_some hs']
    have HST : Hid (stepP g m c p q = goP g c P F) := Lib.hid (by unfold stepP; rw [HPE.out.1, HPE.out.2, hs'])
    have HNE := Lib.hid hne
    have HFP := Lib.hid hFP
    have hF0 : ¬ (F : Int) < 0 := by omega
    clear hs' hne hor hFP
    rintro ed w2 ⟨rfl, rfl⟩
    go_wp2_with fail
    refine (goAt_any P F w1 H1.out HI.out hP hF HNE.out HFP.out n1 n2 g1 g2 m2 hst).mono ?_
    rintro ed w3 ⟨A3, B3, a3, b3, hs3, rfl, hG3, hW3⟩
    have HG3 := Lib.hid hG3
    have HW3 := Lib.hid hW3
    clear hG3 hW3
    go_wp2_with fail
    go_ret
    rw [HST.out]
    exact ⟨A3, B3, a3, b3, hs3, rfl, HG3.out, (Grew.of HE1.out).trans HW3.out⟩
end Go.Proofs.Ytggjjjfdkgfoiaa

/- The program's Step of a crew. -/
namespace Go.Proofs.Ytggjjjfdkgfoiaa
open Go.BigFrame
open Go.RowKit Go.Proofs.Ytggjjjfdkgfoiaa.Plain

/-- a crew, and an event, in two boxes -/
structure Boxed (w : World) (R Q : Nat) (A B : Option Addr) (e0 a b e g m : Nat) (c : Cw) (ev : Ev) : Prop where
  v0 : w.cell? ⟨R, 0, none⟩ = some (.slice A c.ts.length a)
  v1 : w.cell? ⟨R, 1, none⟩ = some (.int .i64 g)
  v2 : w.cell? ⟨R, 2, none⟩ = some (.slice B c.dn.length b)
  v3 : w.cell? ⟨R, 3, none⟩ = some (.slice (some ⟨e0, 0, none⟩) m e)
  v4 : w.cell? ⟨R, 4, none⟩ = some (.bool c.over)
  v5 : w.cell? ⟨R, 5, none⟩ = some (.int .i64 c.st)
  v6 : w.cell? ⟨R, 6, none⟩ = some (.int .i64 c.id)
  u0 : w.cell? ⟨Q, 0, none⟩ = some (.int .i64 ev.wk)
  u1 : w.cell? ⟨Q, 1, none⟩ = some (.int .i64 ev.fr)
  u2 : w.cell? ⟨Q, 2, none⟩ = some (.int .i64 ev.tk)
  u3 : w.cell? ⟨Q, 3, none⟩ = some (.bool ev.pt)
/-- the stores of both, in either order -/
theorem Boxed.one {w : World} {R Q : Nat} {A B : Option Addr} {e0 a b e g m : Nat} {c : Cw} {ev : Ev} {p0 p1 p2 p3 p4 p5 p6 o0 o1 o2 o3 : Value} (_h1 : ¬ R = Q) (h2 : ¬ Q = R) (r0 : w.cell? ⟨R, 0, none⟩ = some p0) (r1 : w.cell? ⟨R, 1, none⟩ = some p1) (r2 : w.cell? ⟨R, 2, none⟩ = some p2) (r3 : w.cell? ⟨R, 3, none⟩ = some p3) (r4 : w.cell? ⟨R, 4, none⟩ = some p4) (r5 : w.cell? ⟨R, 5, none⟩ = some p5) (r6 : w.cell? ⟨R, 6, none⟩ = some p6) (q0 : w.cell? ⟨Q, 0, none⟩ = some o0) (q1 : w.cell? ⟨Q, 1, none⟩ = some o1) (q2 : w.cell? ⟨Q, 2, none⟩ = some o2) (q3 : w.cell? ⟨Q, 3, none⟩ = some o3) : Boxed (((((((((((w.setCell ⟨R, 0, none⟩ (.slice A c.ts.length a)).setCell ⟨R, 1, none⟩ (.int .i64 g)).setCell ⟨R, 2, none⟩ (.slice B c.dn.length b)).setCell ⟨R, 3, none⟩ (.slice (some ⟨e0, 0, none⟩) m e)).setCell ⟨R, 4, none⟩ (.bool c.over)).setCell ⟨R, 5, none⟩ (.int .i64 c.st)).setCell ⟨R, 6, none⟩ (.int .i64 c.id)).setCell ⟨Q, 0, none⟩ (.int .i64 ev.wk)).setCell ⟨Q, 1, none⟩ (.int .i64 ev.fr)).setCell ⟨Q, 2, none⟩ (.int .i64 ev.tk)).setCell ⟨Q, 3, none⟩ (.bool ev.pt)) R Q A B e0 a b e g m c ev :=
  ⟨by go_simp, by go_simp, by go_simp, by go_simp, by go_simp, by go_simp, by go_simp, by go_simp, by go_simp, by go_simp, by go_simp⟩
theorem Boxed.two {w : World} {R Q : Nat} {A B : Option Addr} {e0 a b e g m : Nat} {c : Cw} {ev : Ev} {p0 p1 p2 p3 p4 p5 p6 o0 o1 o2 o3 : Value} (_h1 : ¬ R = Q) (h2 : ¬ Q = R) (r0 : w.cell? ⟨R, 0, none⟩ = some p0) (r1 : w.cell? ⟨R, 1, none⟩ = some p1) (r2 : w.cell? ⟨R, 2, none⟩ = some p2) (r3 : w.cell? ⟨R, 3, none⟩ = some p3) (r4 : w.cell? ⟨R, 4, none⟩ = some p4) (r5 : w.cell? ⟨R, 5, none⟩ = some p5) (r6 : w.cell? ⟨R, 6, none⟩ = some p6) (q0 : w.cell? ⟨Q, 0, none⟩ = some o0) (q1 : w.cell? ⟨Q, 1, none⟩ = some o1) (q2 : w.cell? ⟨Q, 2, none⟩ = some o2) (q3 : w.cell? ⟨Q, 3, none⟩ = some o3) : Boxed (((((((((((w.setCell ⟨Q, 0, none⟩ (.int .i64 ev.wk)).setCell ⟨Q, 1, none⟩ (.int .i64 ev.fr)).setCell ⟨Q, 2, none⟩ (.int .i64 ev.tk)).setCell ⟨Q, 3, none⟩ (.bool ev.pt)).setCell ⟨R, 0, none⟩ (.slice A c.ts.length a)).setCell ⟨R, 1, none⟩ (.int .i64 g)).setCell ⟨R, 2, none⟩ (.slice B c.dn.length b)).setCell ⟨R, 3, none⟩ (.slice (some ⟨e0, 0, none⟩) m e)).setCell ⟨R, 4, none⟩ (.bool c.over)).setCell ⟨R, 5, none⟩ (.int .i64 c.st)).setCell ⟨R, 6, none⟩ (.int .i64 c.id)) R Q A B e0 a b e g m c ev :=
  ⟨by go_simp, by go_simp, by go_simp, by go_simp, by go_simp, by go_simp, by go_simp, by go_simp, by go_simp, by go_simp, by go_simp⟩
theorem Boxed.ext {w W : World} {R Q : Nat} {A B : Option Addr} {e0 a b e g m : Nat} {c : Cw} {ev : Ev} (h : Boxed w R Q A B e0 a b e g m c ev) (hE : Ext w W) : Boxed W R Q A B e0 a b e g m c ev :=
  ⟨hE.cell h.v0, hE.cell h.v1, hE.cell h.v2, hE.cell h.v3, hE.cell h.v4, hE.cell h.v5, hE.cell h.v6, hE.cell h.u0, hE.cell h.u1, hE.cell h.u2, hE.cell h.u3⟩
theorem Boxed.one' {w : World} {R Q : Nat} {A B : Option Addr} {e0 a b e g m : Nat} {c : Cw} {ev : Ev} {p0 p1 p2 p3 p4 p5 p6 o0 o1 o2 o3 : Value} (h1 : ¬ R = Q) (h2 : ¬ Q = R) (r0 : w.cell? ⟨R, 0, none⟩ = some p0) (r1 : w.cell? ⟨R, 1, none⟩ = some p1) (r2 : w.cell? ⟨R, 2, none⟩ = some p2) (r3 : w.cell? ⟨R, 3, none⟩ = some p3) (r4 : w.cell? ⟨R, 4, none⟩ = some p4) (r5 : w.cell? ⟨R, 5, none⟩ = some p5) (r6 : w.cell? ⟨R, 6, none⟩ = some p6) (q0 : w.cell? ⟨Q, 0, none⟩ = some o0) (q1 : w.cell? ⟨Q, 1, none⟩ = some o1) (q2 : w.cell? ⟨Q, 2, none⟩ = some o2) (q3 : w.cell? ⟨Q, 3, none⟩ = some o3) : Boxed (World.drew (((((((((((w.setCell ⟨R, 0, none⟩ (.slice A c.ts.length a)).setCell ⟨R, 1, none⟩ (.int .i64 g)).setCell ⟨R, 2, none⟩ (.slice B c.dn.length b)).setCell ⟨R, 3, none⟩ (.slice (some ⟨e0, 0, none⟩) m e)).setCell ⟨R, 4, none⟩ (.bool c.over)).setCell ⟨R, 5, none⟩ (.int .i64 c.st)).setCell ⟨R, 6, none⟩ (.int .i64 c.id)).setCell ⟨Q, 0, none⟩ (.int .i64 ev.wk)).setCell ⟨Q, 1, none⟩ (.int .i64 ev.fr)).setCell ⟨Q, 2, none⟩ (.int .i64 ev.tk)).setCell ⟨Q, 3, none⟩ (.bool ev.pt))) R Q A B e0 a b e g m c ev ∧ Grew (fun x => x = R ∨ x = Q) w (World.drew (((((((((((w.setCell ⟨R, 0, none⟩ (.slice A c.ts.length a)).setCell ⟨R, 1, none⟩ (.int .i64 g)).setCell ⟨R, 2, none⟩ (.slice B c.dn.length b)).setCell ⟨R, 3, none⟩ (.slice (some ⟨e0, 0, none⟩) m e)).setCell ⟨R, 4, none⟩ (.bool c.over)).setCell ⟨R, 5, none⟩ (.int .i64 c.st)).setCell ⟨R, 6, none⟩ (.int .i64 c.id)).setCell ⟨Q, 0, none⟩ (.int .i64 ev.wk)).setCell ⟨Q, 1, none⟩ (.int .i64 ev.fr)).setCell ⟨Q, 2, none⟩ (.int .i64 ev.tk)).setCell ⟨Q, 3, none⟩ (.bool ev.pt))) := by
  refine ⟨(Boxed.one h1 h2 r0 r1 r2 r3 r4 r5 r6 q0 q1 q2 q3).ext ((Ext.refl _).drew), ?_⟩
  refine Grew.drew ?_
  repeat (first | (with_reducible exact Grew.refl _ _) | refine Grew.setCell ?_ (.inl rfl) _ | refine Grew.setCell ?_ (.inr rfl) _)
theorem Boxed.two' {w : World} {R Q : Nat} {A B : Option Addr} {e0 a b e g m : Nat} {c : Cw} {ev : Ev} {p0 p1 p2 p3 p4 p5 p6 o0 o1 o2 o3 : Value} (h1 : ¬ R = Q) (h2 : ¬ Q = R) (r0 : w.cell? ⟨R, 0, none⟩ = some p0) (r1 : w.cell? ⟨R, 1, none⟩ = some p1) (r2 : w.cell? ⟨R, 2, none⟩ = some p2) (r3 : w.cell? ⟨R, 3, none⟩ = some p3) (r4 : w.cell? ⟨R, 4, none⟩ = some p4) (r5 : w.cell? ⟨R, 5, none⟩ = some p5) (r6 : w.cell? ⟨R, 6, none⟩ = some p6) (q0 : w.cell? ⟨Q, 0, none⟩ = some o0) (q1 : w.cell? ⟨Q, 1, none⟩ = some o1) (q2 : w.cell? ⟨Q, 2, none⟩ = some o2) (q3 : w.cell? ⟨Q, 3, none⟩ = some o3) : Boxed (World.drew (((((((((((w.setCell ⟨Q, 0, none⟩ (.int .i64 ev.wk)).setCell ⟨Q, 1, none⟩ (.int .i64 ev.fr)).setCell ⟨Q, 2, none⟩ (.int .i64 ev.tk)).setCell ⟨Q, 3, none⟩ (.bool ev.pt)).setCell ⟨R, 0, none⟩ (.slice A c.ts.length a)).setCell ⟨R, 1, none⟩ (.int .i64 g)).setCell ⟨R, 2, none⟩ (.slice B c.dn.length b)).setCell ⟨R, 3, none⟩ (.slice (some ⟨e0, 0, none⟩) m e)).setCell ⟨R, 4, none⟩ (.bool c.over)).setCell ⟨R, 5, none⟩ (.int .i64 c.st)).setCell ⟨R, 6, none⟩ (.int .i64 c.id))) R Q A B e0 a b e g m c ev ∧ Grew (fun x => x = R ∨ x = Q) w (World.drew (((((((((((w.setCell ⟨Q, 0, none⟩ (.int .i64 ev.wk)).setCell ⟨Q, 1, none⟩ (.int .i64 ev.fr)).setCell ⟨Q, 2, none⟩ (.int .i64 ev.tk)).setCell ⟨Q, 3, none⟩ (.bool ev.pt)).setCell ⟨R, 0, none⟩ (.slice A c.ts.length a)).setCell ⟨R, 1, none⟩ (.int .i64 g)).setCell ⟨R, 2, none⟩ (.slice B c.dn.length b)).setCell ⟨R, 3, none⟩ (.slice (some ⟨e0, 0, none⟩) m e)).setCell ⟨R, 4, none⟩ (.bool c.over)).setCell ⟨R, 5, none⟩ (.int .i64 c.st)).setCell ⟨R, 6, none⟩ (.int .i64 c.id))) := by
  refine ⟨(Boxed.two h1 h2 r0 r1 r2 r3 r4 r5 r6 q0 q1 q2 q3).ext ((Ext.refl _).drew), ?_⟩
  refine Grew.drew ?_
  repeat (first | (with_reducible exact Grew.refl _ _) | refine Grew.setCell ?_ (.inl rfl) _ | refine Grew.setCell ?_ (.inr rfl) _)
/-- what Step leaves -/
def StepSaid (g m : Nat) (r : Cw × Ev) (w : World) (ed : Ending) (w' : World) : Prop :=
  ∃ (A B : Option Addr) (e0 a b : Nat), ed = .returned (.tuple #[crewV A B e0 0 a b m g m r.1, evV r.2, .int .i64 0]) ∧ CrewO (fun x => x < w.heap.size) w' m r.1 A B e0 0 a b ∧ Ext w w'

set_option maxHeartbeats 600000 in
set_option maxRecDepth 100000 in
theorem cstep_any (A B : Option Addr) (eb eo a b e g n m : Nat) (c : Cw) (done : Nat) (G : List Nat) (p q : Int) (w : World) (h : CrewAt w m c A B eb eo a b) (me : m ≤ e) (hI : CwI g n m c done G)
    (n1 : 1 ≤ n) (n2 : n ≤ 900) (g1 : 1 ≤ g) (g2 : g ≤ 100) (m1 : 1 ≤ m) (m2 : m ≤ 8) (hst : c.st < 100000) (hid : c.id < 100000) (hp : in64 p) (hq : in64 q) :
    Calls Try.prog 68 #[crewV A B eb eo a b e g m c, .int .i64 p, .int .i64 q] w (StepSaid g m (stepP g m c p q) w) := by
  have H := Lib.hid h
  have HI := Lib.hid hI
  have HPQ := Lib.hid (And.intro hp hq)
  have hfew := hI.few g1 n1
  have HLT : Hid (c.ts.length ≤ 1000000) := Lib.hid (by omega)
  have HLN : Hid (c.dn.length ≤ 1000000) := Lib.hid (by rw [(CrI.inv hI).dl]; omega)
  have HLH : Hid (∀ j, (c.D.getD j []).length ≤ 1000000) := Lib.hid (by
    intro j
    have h2 := (CrI.fresh hI).2.2.2
    by_cases hj : j < c.D.length
    · have h3 := (held_at c.D j hj).length_eq
      rw [List.length_append] at h3
      omega
    · rw [List.getD_eq_getElem?_getD, List.getElem?_eq_none (by omega)]; simp)
  obtain ⟨r, hr⟩ : ∃ r, stepP g m c p q = r := ⟨_, rfl⟩
  have HR := Lib.hid hr
  rw [hr]
  clear h hI hr hp hq hfew
  go_enter Try.func68, Try.ntmps68
  go_wp2_with fail
  refine (ccopy_any A B eb eo a b e g m c _ (H.out.ext ((((Ext.refl _).alloc _).alloc _).alloc _)) me m1 m2 HLT.out HLN.out HLH.out).mono ?_
  rintro ed w4 ⟨A1, B1, e0, a1, b1, hs, rfl, z1, z2, z3, z4, z5, z6, hE4⟩
  have r0 : w4.cell? ⟨w.heap.size + 1, 0, none⟩ = some (.slice none 0 0) := Ext.cell hE4 (by go_simp)
  have r1 : w4.cell? ⟨w.heap.size + 1, 1, none⟩ = some (.int .i64 0) := Ext.cell hE4 (by go_simp)
  have r2 : w4.cell? ⟨w.heap.size + 1, 2, none⟩ = some (.slice none 0 0) := Ext.cell hE4 (by go_simp)
  have r3 : w4.cell? ⟨w.heap.size + 1, 3, none⟩ = some (.slice none 0 0) := Ext.cell hE4 (by go_simp)
  have r4 : w4.cell? ⟨w.heap.size + 1, 4, none⟩ = some (.bool false) := Ext.cell hE4 (by go_simp)
  have r5 : w4.cell? ⟨w.heap.size + 1, 5, none⟩ = some (.int .i64 0) := Ext.cell hE4 (by go_simp)
  have r6 : w4.cell? ⟨w.heap.size + 1, 6, none⟩ = some (.int .i64 0) := Ext.cell hE4 (by go_simp)
  have rf : ∀ o, w4.frozen? ⟨w.heap.size + 1, o, none⟩ = false := fun o => (Below.frozen hE4 (p := ⟨w.heap.size + 1, o, none⟩) (by first | omega | (simp; omega) | simp)).trans (by go_simp)
  have s0 : w4.cell? ⟨w.heap.size + 1 + 1, 0, none⟩ = some (.int .i64 0) := Ext.cell hE4 (by go_simp)
  have s1 : w4.cell? ⟨w.heap.size + 1 + 1, 1, none⟩ = some (.int .i64 0) := Ext.cell hE4 (by go_simp)
  have s2 : w4.cell? ⟨w.heap.size + 1 + 1, 2, none⟩ = some (.int .i64 0) := Ext.cell hE4 (by go_simp)
  have s3 : w4.cell? ⟨w.heap.size + 1 + 1, 3, none⟩ = some (.bool false) := Ext.cell hE4 (by go_simp)
  have sf : ∀ o, w4.frozen? ⟨w.heap.size + 1 + 1, o, none⟩ = false := fun o => (Below.frozen hE4 (p := ⟨w.heap.size + 1 + 1, o, none⟩) (by first | omega | (simp; omega) | simp)).trans (by go_simp)
  simp only [World.size_alloc] at z1 z4 z5 z6
  have hz4 := hE4.size
  simp at hz4
  have HX4 := Lib.hid (((((Ext.refl w).alloc _).alloc _).alloc _).trans hE4)
  have HZ := Lib.hid (And.intro z3 (And.intro z4 (And.intro z5 z6)))
  clear z3 z4 z5 z6 hE4
  have l1 : w.heap.size + 1 < w4.heap.size := by omega
  have l2 : w.heap.size + 1 + 1 < w4.heap.size := by omega
  have l3 : w.heap.size + 1 < w4.heap.size + 1 := by omega
  have l4 : w.heap.size + 1 + 1 < w4.heap.size + 1 := by omega
  go_wp2_with fail
  obtain ⟨V, hV⟩ : ∃ V, w4.heap.size = V := ⟨_, rfl⟩
  have HGO : Hid (GoAt (fun x => x < w.heap.size + 5 ∨ x = e0 ∨ x = V) (w4.alloc (.cells #[.slice A1 c.ts.length a1, .int .i64 g, .slice B1 c.dn.length b1, .slice (some ⟨e0, 0, none⟩) m m, .bool c.over, .int .i64 c.st, .int .i64 c.id, .int .i64 0, .int .i64 0, .int .i64 0, .bool false] 115)) V e0 g m c ev0 A1 B1 a1 b1 m hs) := Lib.hid (by
    subst hV
    obtain ⟨z3, z4, z5, z6⟩ := HZ.out
    have hla : Grew (fun x => x < w.heap.size + 5 ∨ x = e0) w4 (w4.alloc (.cells #[.slice A1 c.ts.length a1, .int .i64 g, .slice B1 c.dn.length b1, .slice (some ⟨e0, 0, none⟩) m m, .bool c.over, .int .i64 c.st, .int .i64 c.id, .int .i64 0, .int .i64 0, .int .i64 0, .bool false] 115)) := (Grew.refl _ _).alloc _
    have hS : ∀ x, x < w4.heap.size → (x < w.heap.size + 5 ∨ x = e0 ∨ x = w4.heap.size) → (x < w.heap.size + 5 ∨ x = e0) := fun x hx hh => by omega
    have hEa : Ext w4 (w4.alloc (.cells #[.slice A1 c.ts.length a1, .int .i64 g, .slice B1 c.dn.length b1, .slice (some ⟨e0, 0, none⟩) m m, .bool c.over, .int .i64 c.st, .int .i64 c.id, .int .i64 0, .int .i64 0, .int .i64 0, .bool false] 115)) := (Ext.refl w4).alloc _
    refine ⟨.inr (.inr rfl), .inr (.inl rfl), fun x hx => by simp; omega, by omega, by go_simp, by go_simp, by go_simp, by go_simp, by go_simp, by go_simp, by go_simp, by unfold ev0; go_simp, by unfold ev0; go_simp, by unfold ev0; go_simp, by unfold ev0; go_simp, fun o => by go_simp, fun o => (Below.frozen hEa (p := ⟨e0, o, none⟩) z2).trans (z3 o), Nat.le_refl _, z4.later hla hS, z5.later hla hS, ?_, fun j hj => hEa.cell (z6 j hj).1, fun j hj => (z6 j hj).2.1, fun j hj => (z6 j hj).2.2.2.later hla hS, fun j hj => (z6 j hj).2.2.1⟩
    obtain ⟨hs0, hds⟩ := H.out.deq
    exact hds.1)
  have hEa : Ext w4 (w4.alloc (.cells #[.slice A1 c.ts.length a1, .int .i64 g, .slice B1 c.dn.length b1, .slice (some ⟨e0, 0, none⟩) m m, .bool c.over, .int .i64 c.st, .int .i64 c.id, .int .i64 0, .int .i64 0, .int .i64 0, .bool false] 115)) := (Ext.refl w4).alloc _
  have r0' := hEa.cell r0
  have r1' := hEa.cell r1
  have r2' := hEa.cell r2
  have r3' := hEa.cell r3
  have r4' := hEa.cell r4
  have r5' := hEa.cell r5
  have r6' := hEa.cell r6
  have s0' := hEa.cell s0
  have s1' := hEa.cell s1
  have s2' := hEa.cell s2
  have s3' := hEa.cell s3
  have rf' : ∀ o, (w4.alloc (.cells #[.slice A1 c.ts.length a1, .int .i64 g, .slice B1 c.dn.length b1, .slice (some ⟨e0, 0, none⟩) m m, .bool c.over, .int .i64 c.st, .int .i64 c.id, .int .i64 0, .int .i64 0, .int .i64 0, .bool false] 115)).frozen? ⟨w.heap.size + 1, o, none⟩ = false := fun o => (Below.frozen hEa (p := ⟨w.heap.size + 1, o, none⟩) l1).trans (rf o)
  have sf' : ∀ o, (w4.alloc (.cells #[.slice A1 c.ts.length a1, .int .i64 g, .slice B1 c.dn.length b1, .slice (some ⟨e0, 0, none⟩) m m, .bool c.over, .int .i64 c.st, .int .i64 c.id, .int .i64 0, .int .i64 0, .int .i64 0, .bool false] 115)).frozen? ⟨w.heap.size + 1 + 1, o, none⟩ = false := fun o => (Below.frozen hEa (p := ⟨w.heap.size + 1 + 1, o, none⟩) l2).trans (sf o)
  have HX5 := Lib.hid (HX4.out.trans hEa)
  have l5 : w.heap.size + 1 + 1 < (w4.alloc (.cells #[.slice A1 c.ts.length a1, .int .i64 g, .slice B1 c.dn.length b1, .slice (some ⟨e0, 0, none⟩) m m, .bool c.over, .int .i64 c.st, .int .i64 c.id, .int .i64 0, .int .i64 0, .int .i64 0, .bool false] 115)).heap.size := by simp; omega
  rw [hV]
  clear r0 r1 r2 r3 r4 r5 r6 rf s0 s1 s2 s3 sf hEa l3 l4
  generalize hw5 : w4.alloc (.cells #[.slice A1 c.ts.length a1, .int .i64 g, .slice B1 c.dn.length b1, .slice (some ⟨e0, 0, none⟩) m m, .bool c.over, .int .i64 c.st, .int .i64 c.id, .int .i64 0, .int .i64 0, .int .i64 0, .bool false] 115) = w5 at *
  clear hw5
  refine (gstep_any p q w5 HGO.out HI.out n1 n2 g1 g2 m1 m2 hst hid HPQ.out.1 HPQ.out.2).mono ?_
  rw [HR.out]
  rintro ed w6 ⟨A6, B6, a6, b6, hs6, rfl, hG6, hW6⟩
  have HG6 := Lib.hid hG6
  have HW6 := Lib.hid hW6
  have nV : ¬ (w.heap.size + 1 = V ∨ w.heap.size + 1 = e0) := by omega
  have nQ : ¬ (w.heap.size + 1 + 1 = V ∨ w.heap.size + 1 + 1 = e0) := by omega
  have y0 := hW6.cell r0' nV
  have y1 := hW6.cell r1' nV
  have y2 := hW6.cell r2' nV
  have y3 := hW6.cell r3' nV
  have y4 := hW6.cell r4' nV
  have y5 := hW6.cell r5' nV
  have y6 := hW6.cell r6' nV
  have x0 := hW6.cell s0' nQ
  have x1 := hW6.cell s1' nQ
  have x2 := hW6.cell s2' nQ
  have x3 := hW6.cell s3' nQ
  have yf := fun o => (hW6.frozen (by omega) nV o).trans (rf' o)
  have xf := fun o => (hW6.frozen l5 nQ o).trans (sf' o)
  have v0 := hG6.v0
  have v1 := hG6.v1
  have v2 := hG6.v2
  have v3 := hG6.v3
  have v4 := hG6.v4
  have v5 := hG6.v5
  have v6 := hG6.v6
  have v7 := hG6.v7
  have v8 := hG6.v8
  have v9 := hG6.v9
  have v10 := hG6.v10
  have l6 : w.heap.size + 1 + 1 < w6.heap.size := by have := hW6.size; omega
  have l7 : w.heap.size + 1 < w6.heap.size := by omega
  have l8 : V < w6.heap.size := hG6.sl V hG6.sV
  have HNE := Lib.hid (And.intro nV nQ)
  have nV1 : ¬ w.heap.size + 1 = V := by omega
  have nV2 : ¬ w.heap.size + 1 + 1 = V := by omega
  have nV3 : ¬ V = w.heap.size + 1 := by omega
  have nV4 : ¬ V = w.heap.size + 1 + 1 := by omega
  have hV2 : w.heap.size ≤ V := by omega
  clear hG6 hW6 nV nQ r0' r1' r2' r3' r4' r5' r6' rf' s0' s1' s2' s3' sf' hV l1 l2 l5
  go_upto_region 3 with fail
  go_cut [8] (fun z wx => z = .int .i64 0 ∧ Boxed wx (w.heap.size + 1) (w.heap.size + 1 + 1) A6 B6 e0 a6 b6 m g m r.1 r.2 ∧ Grew (fun x => x = w.heap.size + 1 ∨ x = w.heap.size + 1 + 1) w6 wx)
  case first =>
    go_region
    all_goals go_wp2_with fail
    all_goals go_meet
    all_goals first
      | (with_reducible exact ⟨rfl, Boxed.one' (by omega) (by omega) y0 y1 y2 y3 y4 y5 y6 x0 x1 x2 x3⟩)
      | (with_reducible exact ⟨rfl, Boxed.two' (by omega) (by omega) y0 y1 y2 y3 y4 y5 y6 x0 x1 x2 x3⟩)
  case rest =>
  obtain ⟨rfl, hB, hG7⟩ := hcut
  obtain ⟨k0, k1, k2, k3, k4, k5, k6, j0, j1, j2, j3⟩ := hB
  have HG7 := Lib.hid hG7
  clear hG7 y0 y1 y2 y3 y4 y5 y6 x0 x1 x2 x3 yf xf v0 v1 v2 v3 v4 v5 v6 v7 v8 v9 v10 l6 l7 l8
  go_wp2_with fail
  refine bodyPost_ret (v := .tuple #[crewV A6 B6 e0 0 a6 b6 m g m r.1, evV r.2, .int .i64 0]) (by simp [results, Try.results68, go_sem, k0, k1, k2, k3, k4, k5, k6, j0, j1, j2, j3]) rfl ⟨A6, B6, e0, a6, b6, rfl, ?_, ?_⟩
  · refine (HG6.out.crew (T := fun x => x < w.heap.size + 3) (fun x hx => .inl (by omega)) (by omega)).later m1 (hG := HG7.out.mono (fun x _ hx => by rcases hx with rfl | rfl <;> omega)) (fun x _ hx => by omega)
  · exact HG7.out.toExt (HW6.out.toExt HX5.out (fun b hb => by rcases hb with rfl | rfl <;> omega)) (fun b hb => by rcases hb with rfl | rfl <;> omega)
end Go.Proofs.Ytggjjjfdkgfoiaa

/- The document's Step of a crew (ref05). -/
namespace Go.Proofs.Ytggjjjfdkgfoiaa
open Go.BigFrame
open Go.RowKit Go.Proofs.Ytggjjjfdkgfoiaa.Plain

def R5P (w0 : World) (row : Option Nat) (V e0 P m e1 nh ch B : Nat) (Ah : Option Addr) (xs : List Nat) (x y : Int) : Nat → World → List Value → Value → Prop
  | 0, w, ds, v => v = .pointer (some ⟨V, 3, none⟩)
  | 1, w, ds, v => v = .slice (some ⟨e0, 0, none⟩) m e1
  | 2, w, ds, v => v = .int .i64 P
  | 3, w, ds, v => v = .pointer (some ⟨V, 3, none⟩)
  | 4, w, ds, v => v = .slice (some ⟨e0, 0, none⟩) m e1
  | 5, w, ds, v => v = .int .i64 P
  | 6, w, ds, v => v = .pointer (some ⟨e0, P, none⟩)
  | 7, w, ds, v => v = .slice Ah nh ch
  | 8, w, ds, v => v = .int .i64 y
  | 9, w, ds, v => v = .int .i64 x
  | 10, w, ds, v => ∃ p, v = .slice (some ⟨p, 0, none⟩) 2 2 ∧ Ow kInt w0.heap.size w (.slice (some ⟨p, 0, none⟩) 2 2) [y, x]
  | 11, w, ds, v => AppAt kInt B w v (zs xs ++ [y, x]) (.slice Ah nh ch) w0.heap.size
  | _, _, _, _ => True
theorem R5P_ext (w0 : World) (row : Option Nat) (V e0 P m e1 nh ch B : Nat) (Ah : Option Addr) (xs : List Nat) (x y : Int) : ∀ i w w' ds v, R5P w0 row V e0 P m e1 nh ch B Ah xs x y i w ds v → Ext w w' → R5P w0 row V e0 P m e1 nh ch B Ah xs x y i w' ds v
  | 0, _, _, _, _, h, _ => h
  | 1, _, _, _, _, h, _ => h
  | 2, _, _, _, _, h, _ => h
  | 3, _, _, _, _, h, _ => h
  | 4, _, _, _, _, h, _ => h
  | 5, _, _, _, _, h, _ => h
  | 6, _, _, _, _, h, _ => h
  | 7, _, _, _, _, h, _ => h
  | 8, _, _, _, _, h, _ => h
  | 9, _, _, _, _, h, _ => h
  | 10, _, _, _, _, h, hE => (by obtain ⟨p, h1, h2⟩ := h; exact ⟨p, h1, h2.ext hE⟩)
  | 11, _, _, _, _, h, hE => h.ext hE
  | _ + 12, _, _, _, _, _, _ => trivial
theorem R5P_sw (w0 : World) (row : Option Nat) (V e0 P m e1 nh ch B : Nat) (Ah : Option Addr) (xs : List Nat) (x y : Int) (hrow : ∀ b, row = some b → b < w0.heap.size) : ∀ i w w' ds v, i ≠ 11 → R5P w0 row V e0 P m e1 nh ch B Ah xs x y i w ds v → Wr row w w' → R5P w0 row V e0 P m e1 nh ch B Ah xs x y i w' ds v
  | 0, _, _, _, _, _, h, _ => h
  | 1, _, _, _, _, _, h, _ => h
  | 2, _, _, _, _, _, h, _ => h
  | 3, _, _, _, _, _, h, _ => h
  | 4, _, _, _, _, _, h, _ => h
  | 5, _, _, _, _, _, h, _ => h
  | 6, _, _, _, _, _, h, _ => h
  | 7, _, _, _, _, _, h, _ => h
  | 8, _, _, _, _, _, h, _ => h
  | 9, _, _, _, _, _, h, _ => h
  | 10, _, _, _, _, _, h, hE => (by obtain ⟨p, h1, h2⟩ := h; exact ⟨p, h1, h2.sw hE hrow⟩)
  | 11, _, _, _, _, hq, _, _ => absurd rfl hq
  | _ + 12, _, _, _, _, _, _, _ => trivial
section
variable (w0 : World) (row : Option Nat) (V e0 P m e1 nh ch B : Nat) (Ah : Option Addr) (xs : List Nat) (x y : Int) (w : World) (ds : List Value) (v : Value)
theorem R5P_i0 (h : v = .pointer (some ⟨V, 3, none⟩)) : R5P w0 row V e0 P m e1 nh ch B Ah xs x y 0 w ds v := h
theorem R5P_e0 (h : R5P w0 row V e0 P m e1 nh ch B Ah xs x y 0 w ds v) : v = .pointer (some ⟨V, 3, none⟩) := h
theorem R5P_i1 (h : v = .slice (some ⟨e0, 0, none⟩) m e1) : R5P w0 row V e0 P m e1 nh ch B Ah xs x y 1 w ds v := h
theorem R5P_e1 (h : R5P w0 row V e0 P m e1 nh ch B Ah xs x y 1 w ds v) : v = .slice (some ⟨e0, 0, none⟩) m e1 := h
theorem R5P_i2 (h : v = .int .i64 P) : R5P w0 row V e0 P m e1 nh ch B Ah xs x y 2 w ds v := h
theorem R5P_e2 (h : R5P w0 row V e0 P m e1 nh ch B Ah xs x y 2 w ds v) : v = .int .i64 P := h
theorem R5P_i3 (h : v = .pointer (some ⟨V, 3, none⟩)) : R5P w0 row V e0 P m e1 nh ch B Ah xs x y 3 w ds v := h
theorem R5P_e3 (h : R5P w0 row V e0 P m e1 nh ch B Ah xs x y 3 w ds v) : v = .pointer (some ⟨V, 3, none⟩) := h
theorem R5P_i4 (h : v = .slice (some ⟨e0, 0, none⟩) m e1) : R5P w0 row V e0 P m e1 nh ch B Ah xs x y 4 w ds v := h
theorem R5P_e4 (h : R5P w0 row V e0 P m e1 nh ch B Ah xs x y 4 w ds v) : v = .slice (some ⟨e0, 0, none⟩) m e1 := h
theorem R5P_i5 (h : v = .int .i64 P) : R5P w0 row V e0 P m e1 nh ch B Ah xs x y 5 w ds v := h
theorem R5P_e5 (h : R5P w0 row V e0 P m e1 nh ch B Ah xs x y 5 w ds v) : v = .int .i64 P := h
theorem R5P_i6 (h : v = .pointer (some ⟨e0, P, none⟩)) : R5P w0 row V e0 P m e1 nh ch B Ah xs x y 6 w ds v := h
theorem R5P_e6 (h : R5P w0 row V e0 P m e1 nh ch B Ah xs x y 6 w ds v) : v = .pointer (some ⟨e0, P, none⟩) := h
theorem R5P_i7 (h : v = .slice Ah nh ch) : R5P w0 row V e0 P m e1 nh ch B Ah xs x y 7 w ds v := h
theorem R5P_e7 (h : R5P w0 row V e0 P m e1 nh ch B Ah xs x y 7 w ds v) : v = .slice Ah nh ch := h
theorem R5P_i8 (h : v = .int .i64 y) : R5P w0 row V e0 P m e1 nh ch B Ah xs x y 8 w ds v := h
theorem R5P_e8 (h : R5P w0 row V e0 P m e1 nh ch B Ah xs x y 8 w ds v) : v = .int .i64 y := h
theorem R5P_i9 (h : v = .int .i64 x) : R5P w0 row V e0 P m e1 nh ch B Ah xs x y 9 w ds v := h
theorem R5P_e9 (h : R5P w0 row V e0 P m e1 nh ch B Ah xs x y 9 w ds v) : v = .int .i64 x := h
theorem R5P_i10 (h : ∃ p, v = .slice (some ⟨p, 0, none⟩) 2 2 ∧ Ow kInt w0.heap.size w (.slice (some ⟨p, 0, none⟩) 2 2) [y, x]) : R5P w0 row V e0 P m e1 nh ch B Ah xs x y 10 w ds v := h
theorem R5P_e10 (h : R5P w0 row V e0 P m e1 nh ch B Ah xs x y 10 w ds v) : ∃ p, v = .slice (some ⟨p, 0, none⟩) 2 2 ∧ Ow kInt w0.heap.size w (.slice (some ⟨p, 0, none⟩) 2 2) [y, x] := h
theorem R5P_i11 (h : AppAt kInt B w v (zs xs ++ [y, x]) (.slice Ah nh ch) w0.heap.size) : R5P w0 row V e0 P m e1 nh ch B Ah xs x y 11 w ds v := h
theorem R5P_e11 (h : R5P w0 row V e0 P m e1 nh ch B Ah xs x y 11 w ds v) : AppAt kInt B w v (zs xs ++ [y, x]) (.slice Ah nh ch) w0.heap.size := h
end

/-- behind the popping -/
def PopCut (w5 : World) (F P K : Nat) (xs : List Nat) (r k q : Value) (wx : World) : Prop :=
  Ext w5 wx ∧ ∃ e : Int, q = .int .i64 e ∧ ((F = P ∧ e = 0 ∧ ∃ x : Hd, r = x.v ∧ k = .int .i64 K ∧ x.n = xs.length ∧ Ow kInt w5.heap.size wx x.v (zs xs)) ∨ (F ≠ P ∧ e = 4))
/-- behind the taking -/
def TakenCut (w1 : World) (B V g m : Nat) (c : Cw) (ev : Ev) (A1 B1 : Option Addr) (e0 e1 a1 b1 : Nat) (wx : World) : Prop := ∃ L, S5At w1 wx B V (V + 1) g m c ev A1 B1 e0 e1 a1 b1 L
/-- what the document's Step leaves -/
def R5Said (g m : Nat) (r : Cw × Ev) (w : World) (ed : Ending) (w' : World) : Prop :=
  ∃ (A B : Option Addr) (e0 a b e : Nat), m ≤ e ∧ ed = .returned (.tuple #[crewV A B e0 0 a b e g m r.1, evV r.2, .int .i64 0]) ∧ CrewO (fun x => x < w.heap.size) w' m r.1 A B e0 0 a b ∧ Ext w w'

set_option maxHeartbeats 6400000 in
set_option maxRecDepth 100000 in
theorem rstep5_any (A B : Option Addr) (eb eo a b e g n m : Nat) (c : Cw) (done : Nat) (G : List Nat) (p q : Int) (w : World) (h : CrewAt w m c A B eb eo a b) (me : m ≤ e) (hI : CwI g n m c done G)
    (n1 : 1 ≤ n) (n2 : n ≤ 900) (g1 : 1 ≤ g) (g2 : g ≤ 100) (m1 : 1 ≤ m) (m2 : m ≤ 8) (hst : c.st < 100000) (hid : c.id < 100000) (hp : in64 p) (hq : in64 q) :
    Calls Try.prog 51 #[crewV A B eb eo a b e g m c, .int .i64 p, .int .i64 q] w (R5Said g m (stepP g m c p q) w) := by
  have H := Lib.hid h
  have HI := Lib.hid hI
  have HPQ := Lib.hid (And.intro hp hq)
  have hfew := hI.few g1 n1
  have HLT : Hid (c.ts.length ≤ 4000) := Lib.hid (by omega)
  have HLN : Hid (c.dn.length ≤ 4000) := Lib.hid (by rw [(CrI.inv hI).dl]; omega)
  have HLH : Hid (∀ j, (c.D.getD j []).length ≤ 4000) := Lib.hid (by
    intro j
    have h2 := (CrI.fresh hI).2.2.2
    by_cases hj : j < c.D.length
    · have h3 := (held_at c.D j hj).length_eq
      rw [List.length_append] at h3
      omega
    · rw [List.getD_eq_getElem?_getD, List.getElem?_eq_none (by omega)]; simp)
  have s1 : (0 : Int) ≤ (c.st : Int) := by omega
  have s2 : (c.st : Int) ≤ 99999 := by omega
  have s3 : (0 : Int) ≤ (c.id : Int) := by omega
  have s4 : (c.id : Int) ≤ 99999 := by omega
  have s5 : (1 : Int) ≤ m := by omega
  have s6 : (m : Int) ≤ 8 := by omega
  clear h hI hp hq hfew
  go_enter Try.func51, Try.ntmps51
  go_wp2_with fail
  refine (rright5_yes A B eb eo a b e g n m c _ _ _ (H.out.ext ((((Ext.refl _).alloc _).alloc _).alloc _)) HI.out n1 n2 g1 g2 m1 m2 (by omega) (by omega)).mono ?_
  rintro ed w1 ⟨rfl, hE1⟩
  have k0 : w1.cell? ⟨w.heap.size, 0, none⟩ = some (.slice A c.ts.length a) := Ext.cell hE1 (by go_simp)
  have k1 : w1.cell? ⟨w.heap.size, 1, none⟩ = some (.int .i64 g) := Ext.cell hE1 (by go_simp)
  have k2 : w1.cell? ⟨w.heap.size, 2, none⟩ = some (.slice B c.dn.length b) := Ext.cell hE1 (by go_simp)
  have k3 : w1.cell? ⟨w.heap.size, 3, none⟩ = some (.slice (some ⟨eb, eo, none⟩) m e) := Ext.cell hE1 (by go_simp)
  have k4 : w1.cell? ⟨w.heap.size, 4, none⟩ = some (.bool c.over) := Ext.cell hE1 (by go_simp)
  have k5 : w1.cell? ⟨w.heap.size, 5, none⟩ = some (.int .i64 c.st) := Ext.cell hE1 (by go_simp)
  have k6 : w1.cell? ⟨w.heap.size, 6, none⟩ = some (.int .i64 c.id) := Ext.cell hE1 (by go_simp)
  have kf : ∀ o, w1.frozen? ⟨w.heap.size, o, none⟩ = false := fun o => (Below.frozen hE1 (p := ⟨w.heap.size, o, none⟩) (by first | omega | (simp; omega) | simp)).trans (by go_simp)
  have r0 : w1.cell? ⟨w.heap.size + 1, 0, none⟩ = some (.slice none 0 0) := Ext.cell hE1 (by go_simp)
  have r1 : w1.cell? ⟨w.heap.size + 1, 1, none⟩ = some (.int .i64 0) := Ext.cell hE1 (by go_simp)
  have r2 : w1.cell? ⟨w.heap.size + 1, 2, none⟩ = some (.slice none 0 0) := Ext.cell hE1 (by go_simp)
  have r3 : w1.cell? ⟨w.heap.size + 1, 3, none⟩ = some (.slice none 0 0) := Ext.cell hE1 (by go_simp)
  have r4 : w1.cell? ⟨w.heap.size + 1, 4, none⟩ = some (.bool false) := Ext.cell hE1 (by go_simp)
  have r5 : w1.cell? ⟨w.heap.size + 1, 5, none⟩ = some (.int .i64 0) := Ext.cell hE1 (by go_simp)
  have r6 : w1.cell? ⟨w.heap.size + 1, 6, none⟩ = some (.int .i64 0) := Ext.cell hE1 (by go_simp)
  have rf : ∀ o, w1.frozen? ⟨w.heap.size + 1, o, none⟩ = false := fun o => (Below.frozen hE1 (p := ⟨w.heap.size + 1, o, none⟩) (by first | omega | (simp; omega) | simp)).trans (by go_simp)
  have s0 : w1.cell? ⟨w.heap.size + 1 + 1, 0, none⟩ = some (.int .i64 0) := Ext.cell hE1 (by go_simp)
  have s1 : w1.cell? ⟨w.heap.size + 1 + 1, 1, none⟩ = some (.int .i64 0) := Ext.cell hE1 (by go_simp)
  have s2 : w1.cell? ⟨w.heap.size + 1 + 1, 2, none⟩ = some (.int .i64 0) := Ext.cell hE1 (by go_simp)
  have s3 : w1.cell? ⟨w.heap.size + 1 + 1, 3, none⟩ = some (.bool false) := Ext.cell hE1 (by go_simp)
  have sf : ∀ o, w1.frozen? ⟨w.heap.size + 1 + 1, o, none⟩ = false := fun o => (Below.frozen hE1 (p := ⟨w.heap.size + 1 + 1, o, none⟩) (by first | omega | (simp; omega) | simp)).trans (by go_simp)
  have hz1 := hE1.size
  simp at hz1
  have HX1 := Lib.hid (((((Ext.refl w).alloc _).alloc _).alloc _).trans hE1)
  clear hE1
  go_wp2_with fail
  refine (rcut_any _ _ _ HPQ.out.1 m1 m2).mono ?_
  rintro ed wx ⟨rfl, rfl⟩
  go_wp2_with fail
  refine (rcut_any _ _ _ HPQ.out.2 m1 m2).mono ?_
  rintro ed wx ⟨rfl, rfl⟩
  go_wp2_with fail
  refine (r5copy_any A B eb eo a b e g m c _ (H.out.ext HX1.out) me m1 m2 HLT.out HLN.out (fun j => Nat.le_trans (HLH.out j) (by omega))).mono ?_
  rintro ed w4 ⟨A1, B1, e0, a1, b1, e1, L, rfl, hO, hE4⟩
  have hz4 := hE4.size
  obtain ⟨V, hV⟩ : ∃ V, w4.heap.size = V := ⟨_, rfl⟩
  go_upto_region 10 with fail
  have hS5 := S5At.begin (g := g) (ev := ⟨cutN m p, -1, -1, false⟩) hO hE4 (Nat.le_refl _) hz4 (c.st + 1)
  have hE5 : Ext w4 ((w4.alloc (.cells #[.slice A1 c.ts.length a1, .int .i64 g, .slice B1 c.dn.length b1, .slice (some ⟨e0, 0, none⟩) m e1, .bool c.over, .int .i64 ((c.st : Int) + 1), .int .i64 c.id] 77)).alloc (.cells #[.int .i64 (cutN m p), .int .i64 (-1), .int .i64 (-1), .bool false] 91)) := ((Ext.refl w4).alloc _).alloc _
  obtain ⟨c1, hc1⟩ : ∃ c1 : Cw, (⟨c.ts, c.dn, c.D, c.over, c.st + 1, c.id⟩ : Cw) = c1 := ⟨_, rfl⟩
  have HS5 : Hid (S5At w1 ((w4.alloc (.cells #[.slice A1 c.ts.length a1, .int .i64 g, .slice B1 c.dn.length b1, .slice (some ⟨e0, 0, none⟩) m e1, .bool c.over, .int .i64 ((c.st : Int) + 1), .int .i64 c.id] 77)).alloc (.cells #[.int .i64 (cutN m p), .int .i64 (-1), .int .i64 (-1), .bool false] 91)) w1.heap.size V (V + 1) g m c1 ⟨cutN m p, -1, -1, false⟩ A1 B1 e0 e1 a1 b1 L) := Lib.hid (by rw [← hc1, ← hV]; exact hS5)
  have HC1 := Lib.hid hc1
  have HZ5 : Hid (w1.heap.size ≤ ((w4.alloc (.cells #[.slice A1 c.ts.length a1, .int .i64 g, .slice B1 c.dn.length b1, .slice (some ⟨e0, 0, none⟩) m e1, .bool c.over, .int .i64 ((c.st : Int) + 1), .int .i64 c.id] 77)).alloc (.cells #[.int .i64 (cutN m p), .int .i64 (-1), .int .i64 (-1), .bool false] 91)).heap.size) := Lib.hid (by simp; omega)
  rw [hV] at *
  clear hS5 hO hc1
  generalize hw5 : ((w4.alloc (.cells #[.slice A1 c.ts.length a1, .int .i64 g, .slice B1 c.dn.length b1, .slice (some ⟨e0, 0, none⟩) m e1, .bool c.over, .int .i64 ((c.st : Int) + 1), .int .i64 c.id] 77)).alloc (.cells #[.int .i64 (cutN m p), .int .i64 (-1), .int .i64 (-1), .bool false] 91)) = w5 at *
  clear hw5 hE5
  obtain ⟨hs0, hds⟩ := H.out.deq
  have HDS := Lib.hid hds
  have HDL : Hid (c.D.length = m) := Lib.hid hds.1
  have hP := cutN_lt m p m1
  have hQ := cutN_lt m q m1
  obtain ⟨P, hPP⟩ : ∃ P, cutN m p = P := ⟨_, rfl⟩
  obtain ⟨Q, hQQ⟩ : ∃ Q, cutN m q = Q := ⟨_, rfl⟩
  have hstep : stepP g m c p q = match srcN c.D P Q with
    | none => (⟨c.ts, c.dn, c.D, c.over, c.st + 1, c.id + 1⟩, ⟨P, -1, -1, false⟩)
    | some F => goP g c P F := by rw [← hPP, ← hQQ]; rfl
  rw [hPP] at hP HS5 ⊢
  rw [hQQ] at hQ ⊢
  have HSTEP := Lib.hid hstep
  have hP0 : (0 : Int) ≤ P := by omega
  have hP1 : (P : Int) < m := by omega
  have hQ0 : (0 : Int) ≤ Q := by omega
  have hQ1 : (Q : Int) < m := by omega
  have HXW : Hid (Ext w w5) := Lib.hid (HX1.out.trans HS5.out.ext)
  have leb : eb < w.heap.size := HDS.out.lt m1
  obtain ⟨zP, nP, rP⟩ := hds.2 P hP
  obtain ⟨zQ, nQ, rQ⟩ := hds.2 Q hQ
  obtain ⟨⟨Ap, np, cp⟩, hhp⟩ : ∃ x, hs0 P = x := ⟨_, rfl⟩
  obtain ⟨⟨Aq, nq, cq⟩, hhq⟩ : ∃ x, hs0 Q = x := ⟨_, rfl⟩
  rw [hhp] at zP nP rP
  rw [hhq] at zQ nQ rQ
  unfold Hd.v at zP zQ rP rQ
  simp only at zP zQ rP rQ nP nQ
  have HRP := Lib.hid rP
  have HRQ := Lib.hid rQ
  have HNP := Lib.hid nP
  have HNQ := Lib.hid nQ
  have kE := HS5.out.ext
  have HZP : Hid (w1.cell? ⟨eb, eo + P, none⟩ = some (.slice Ap np cp)) := Lib.hid (HX1.out.cell zP)
  have HZQ : Hid (w1.cell? ⟨eb, eo + Q, none⟩ = some (.slice Aq nq cq)) := Lib.hid (HX1.out.cell zQ)
  have HK : Hid (∀ W, Ext w1 W → W.cell? ⟨w.heap.size, 0, none⟩ = some (.slice A c.ts.length a) ∧ W.cell? ⟨w.heap.size, 1, none⟩ = some (.int .i64 g) ∧ W.cell? ⟨w.heap.size, 2, none⟩ = some (.slice B c.dn.length b) ∧ W.cell? ⟨w.heap.size, 3, none⟩ = some (.slice (some ⟨eb, eo, none⟩) m e)) := Lib.hid fun W hE => ⟨hE.cell k0, hE.cell k1, hE.cell k2, hE.cell k3⟩
  have HR : Hid (∀ W, Ext w1 W → W.cell? ⟨w.heap.size + 1, 0, none⟩ = some (.slice none 0 0) ∧ W.cell? ⟨w.heap.size + 1, 1, none⟩ = some (.int .i64 0) ∧ W.cell? ⟨w.heap.size + 1, 2, none⟩ = some (.slice none 0 0) ∧ W.cell? ⟨w.heap.size + 1, 3, none⟩ = some (.slice none 0 0) ∧ W.cell? ⟨w.heap.size + 1, 4, none⟩ = some (.bool false) ∧ W.cell? ⟨w.heap.size + 1, 5, none⟩ = some (.int .i64 0) ∧ W.cell? ⟨w.heap.size + 1, 6, none⟩ = some (.int .i64 0) ∧ W.cell? ⟨w.heap.size + 1 + 1, 0, none⟩ = some (.int .i64 0) ∧ W.cell? ⟨w.heap.size + 1 + 1, 1, none⟩ = some (.int .i64 0) ∧ W.cell? ⟨w.heap.size + 1 + 1, 2, none⟩ = some (.int .i64 0) ∧ W.cell? ⟨w.heap.size + 1 + 1, 3, none⟩ = some (.bool false) ∧ (∀ o, W.frozen? ⟨w.heap.size + 1, o, none⟩ = false) ∧ (∀ o, W.frozen? ⟨w.heap.size + 1 + 1, o, none⟩ = false)) := Lib.hid fun W hE => ⟨hE.cell r0, hE.cell r1, hE.cell r2, hE.cell r3, hE.cell r4, hE.cell r5, hE.cell r6, hE.cell s0, hE.cell s1, hE.cell s2, hE.cell s3, fun o => (Below.frozen hE (p := ⟨w.heap.size + 1, o, none⟩) (by show w.heap.size + 1 < w1.heap.size; omega)).trans (rf o), fun o => (Below.frozen hE (p := ⟨w.heap.size + 1 + 1, o, none⟩) (by show w.heap.size + 1 + 1 < w1.heap.size; omega)).trans (sf o)⟩
  clear hds hstep hPP hQQ zP zQ nP nQ rP rQ hhp hhq k0 k1 k2 k3 k4 k5 k6 kf r0 r1 r2 r3 r4 r5 r6 rf s0 s1 s2 s3 sf
  cases hsrc : srcN c.D P Q with
  | none =>
    obtain ⟨eP, eQ⟩ := srcN_none hsrc
    have HRES : Hid (stepP g m c p q = (⟨c.ts, c.dn, c.D, c.over, c.st + 1, c.id + 1⟩, ⟨P, -1, -1, false⟩)) := Lib.hid (by rw [HSTEP.out, hsrc])
    have hnp : np = 0 := by rw [HNP.out, eP]; rfl
    have hnq : nq = 0 := by rw [HNQ.out, eQ]; rfl
    subst hnp hnq
    clear hsrc eP eQ
    have hzp := kE.cell HZP.out
    have hzq := kE.cell HZQ.out
    obtain ⟨k0, k1, k2, k3⟩ := HK.out w5 kE
    go_wp2_with fail
    refine (rpop_any Ap cp [] w5 (Ints.nil _ _ _) (by decide)).mono ?_
    rintro ed w6 ⟨A6, c6, rfl, _, hE6⟩
    rw [show popE [] = 4 from rfl]
    have hS6 := HS5.out.ext' hE6
    have HS6 := Lib.hid hS6
    have hzq6 := hE6.cell hzq
    obtain ⟨k0', k1', k2', k3'⟩ := HK.out w6 hS6.ext
    clear k0 k1 k2 k3 hzp hzq hE6 hS6
    go_wp2_with fail
    refine (rsteal_any Aq cq [] w6 (Ints.nil _ _ _) (by decide)).mono ?_
    rintro ed w7 ⟨A7, c7, rfl, _, hE7⟩
    rw [show popE [] = 4 from rfl]
    have hS7 := HS6.out.ext' hE7
    have HS7 := Lib.hid hS7
    have v6 : w7.cell? ⟨V, 6, none⟩ = some (.int .i64 c1.id) := (cell_of_row w7 V 6 _ _ _ hS7.box).trans rfl
    rw [show c1.id = c.id by rw [← HC1.out]] at v6
    have vf := fun o => frozen_of_row w7 V o _ _ hS7.box
    have lv := block_lt hS7.box
    clear hE7 hS7 hzq6 k0' k1' k2' k3'
    go_upto_region 19 with fail
    have hS8 := HS7.out.idle (c.id + 1)
    have HS8 := Lib.hid hS8
    obtain ⟨cx, hcx⟩ : ∃ x : Cw, (⟨c1.ts, c1.dn, c1.D, c1.over, c1.st, c.id + 1⟩ : Cw) = x := ⟨_, rfl⟩
    obtain ⟨ex, hex⟩ : ∃ x : Ev, (⟨P, -1, -1, false⟩ : Ev) = x := ⟨_, rfl⟩
    have HSX : S5At w1 (w7.setCell ⟨V, 6, none⟩ (.int .i64 ((c.id : Int) + 1))) w1.heap.size V (V + 1) g m (⟨c1.ts, c1.dn, c1.D, c1.over, c1.st, c.id + 1⟩ : Cw) (⟨P, -1, -1, false⟩ : Ev) A1 B1 e0 e1 a1 b1 L := HS8.out
    rw [hcx, hex] at HSX
    have hrs : stepP g m c p q = (cx, ex) := by rw [HRES.out, ← hcx, ← hex]; rw [← HC1.out]
    have HSX := Lib.hid HSX
    have HRS := Lib.hid hrs
    have hme : m ≤ e1 := by
      obtain ⟨A', c', hh, hl⟩ := HSX.out.dq.row.slice
      cases hh
      have := HSX.out.dq.len
      omega
    have hxx := HSX.out.ext
    have hvl := HSX.out.vl
    have v0 : (w7.setCell ⟨V, 6, none⟩ (.int .i64 ((c.id : Int) + 1))).cell? ⟨V, 0, none⟩ = some (.slice A1 cx.ts.length a1) := (cell_of_row _ V 0 _ _ _ HSX.out.box).trans rfl
    have v1 : (w7.setCell ⟨V, 6, none⟩ (.int .i64 ((c.id : Int) + 1))).cell? ⟨V, 1, none⟩ = some (.int .i64 g) := (cell_of_row _ V 1 _ _ _ HSX.out.box).trans rfl
    have v2 : (w7.setCell ⟨V, 6, none⟩ (.int .i64 ((c.id : Int) + 1))).cell? ⟨V, 2, none⟩ = some (.slice B1 cx.dn.length b1) := (cell_of_row _ V 2 _ _ _ HSX.out.box).trans rfl
    have v3 : (w7.setCell ⟨V, 6, none⟩ (.int .i64 ((c.id : Int) + 1))).cell? ⟨V, 3, none⟩ = some (.slice (some ⟨e0, 0, none⟩) m e1) := (cell_of_row _ V 3 _ _ _ HSX.out.box).trans rfl
    have v4 : (w7.setCell ⟨V, 6, none⟩ (.int .i64 ((c.id : Int) + 1))).cell? ⟨V, 4, none⟩ = some (.bool cx.over) := (cell_of_row _ V 4 _ _ _ HSX.out.box).trans rfl
    have v5 : (w7.setCell ⟨V, 6, none⟩ (.int .i64 ((c.id : Int) + 1))).cell? ⟨V, 5, none⟩ = some (.int .i64 cx.st) := (cell_of_row _ V 5 _ _ _ HSX.out.box).trans rfl
    have v6 : (w7.setCell ⟨V, 6, none⟩ (.int .i64 ((c.id : Int) + 1))).cell? ⟨V, 6, none⟩ = some (.int .i64 cx.id) := (cell_of_row _ V 6 _ _ _ HSX.out.box).trans rfl
    have v7 : (w7.setCell ⟨V, 6, none⟩ (.int .i64 ((c.id : Int) + 1))).cell? ⟨V + 1, 0, none⟩ = some (.int .i64 ex.wk) := (cell_of_row _ (V + 1) 0 _ _ _ HSX.out.ebx).trans rfl
    have v8 : (w7.setCell ⟨V, 6, none⟩ (.int .i64 ((c.id : Int) + 1))).cell? ⟨V + 1, 1, none⟩ = some (.int .i64 ex.fr) := (cell_of_row _ (V + 1) 1 _ _ _ HSX.out.ebx).trans rfl
    have v9 : (w7.setCell ⟨V, 6, none⟩ (.int .i64 ((c.id : Int) + 1))).cell? ⟨V + 1, 2, none⟩ = some (.int .i64 ex.tk) := (cell_of_row _ (V + 1) 2 _ _ _ HSX.out.ebx).trans rfl
    have v10 : (w7.setCell ⟨V, 6, none⟩ (.int .i64 ((c.id : Int) + 1))).cell? ⟨V + 1, 3, none⟩ = some (.bool ex.pt) := (cell_of_row _ (V + 1) 3 _ _ _ HSX.out.ebx).trans rfl
    obtain ⟨y0, y1, y2, y3, y4, y5, y6, x0, x1, x2, x3, yf, xf⟩ := HR.out (w7.setCell ⟨V, 6, none⟩ (.int .i64 ((c.id : Int) + 1))) hxx
    have l8 := block_lt HSX.out.box
    have l9 := block_lt HSX.out.ebx
    generalize w7.setCell ⟨V, 6, none⟩ (.int .i64 ((c.id : Int) + 1)) = w9 at *
    have l6 : w.heap.size + 1 + 1 < w9.heap.size := by have := hxx.size; omega
    have l7 : w.heap.size + 1 < w9.heap.size := by omega
    have nV1 : ¬ w.heap.size + 1 = V := by omega
    have nV2 : ¬ w.heap.size + 1 + 1 = V := by omega
    have nV3 : ¬ V = w.heap.size + 1 := by omega
    have nV4 : ¬ V = w.heap.size + 1 + 1 := by omega
    have nQ1 : ¬ w.heap.size + 1 = V + 1 := by omega
    have nQ2 : ¬ w.heap.size + 1 + 1 = V + 1 := by omega
    have nQ3 : ¬ V + 1 = w.heap.size + 1 := by omega
    have nQ4 : ¬ V + 1 = w.heap.size + 1 + 1 := by omega
    clear hxx hrs hcx hex
    go_cut [8] (fun z wx => z = .int .i64 0 ∧ Boxed wx (w.heap.size + 1) (w.heap.size + 1 + 1) A1 B1 e0 a1 b1 e1 g m cx ex ∧ Grew (fun x => x = w.heap.size + 1 ∨ x = w.heap.size + 1 + 1) w9 wx)
    case first =>
      go_region
      all_goals go_wp2_with fail
      all_goals go_meet
      all_goals first
        | (with_reducible exact ⟨rfl, Boxed.one' (by omega) (by omega) y0 y1 y2 y3 y4 y5 y6 x0 x1 x2 x3⟩)
        | (with_reducible exact ⟨rfl, Boxed.two' (by omega) (by omega) y0 y1 y2 y3 y4 y5 y6 x0 x1 x2 x3⟩)
    case rest =>
    obtain ⟨rfl, hBx, hG7⟩ := hcut
    obtain ⟨j0, j1, j2, j3, j4, j5, j6, i0, i1, i2, i3⟩ := hBx
    have HG7 := Lib.hid hG7
    clear hG7 y0 y1 y2 y3 y4 y5 y6 x0 x1 x2 x3 yf xf v0 v1 v2 v3 v4 v5 v6 v7 v8 v9 v10 l6 l7 l8 l9
    go_wp2_with fail
    rw [HRS.out]
    refine bodyPost_ret (v := .tuple #[crewV A1 B1 e0 0 a1 b1 e1 g m cx, evV ex, .int .i64 0]) (by simp [results, Try.results51, go_sem, j0, j1, j2, j3, j4, j5, j6, i0, i1, i2, i3]) rfl ⟨A1, B1, e0, a1, b1, e1, hme, rfl, ?_, ?_⟩
    · have hb := HSX.out.bl
      exact ((HSX.out.crew).mono m1 (T := fun x => x < w.heap.size + 3) (fun x _ hx => by omega)).later m1 (hG := HG7.out.mono (fun x _ hx => by rcases hx with rfl | rfl <;> omega)) (fun x _ hx => by omega)
    · exact HG7.out.toExt (HX1.out.trans HSX.out.ext) (fun b hb => by rcases hb with rfl | rfl <;> omega)
  | some F => 
    obtain ⟨hne, hor⟩ := srcN_some hsrc
    have hF : F < m := by rcases hor with rfl | ⟨rfl, _⟩; exact hP; exact hQ
    have HRES : Hid (stepP g m c p q = goP g c P F) := Lib.hid (by rw [HSTEP.out, hsrc])
    have hdl := HDL.out
    have hE := take_held (P := P) (by omega : F < c.D.length) hne
    obtain ⟨K, hK⟩ : ∃ K, (takeN c.D P F).1 = K := ⟨_, rfl⟩
    obtain ⟨xs, hxs⟩ : ∃ xs, (takeN c.D P F).2 = xs := ⟨_, rfl⟩
    have hKm : K ∈ held c.D := by rw [← hK]; exact hE.mem_iff.2 (by simp)
    have hOI := CrI.inv HI.out
    have hKl := hOI.lt K hKm
    have hw0 := hOI.w0 K hKm
    have HKK := Lib.hid (And.intro hK hxs)
    have HKM := Lib.hid hKm
    clear hsrc hE hdl hOI
    have hzp := kE.cell HZP.out
    obtain ⟨k0, k1, k2, k3⟩ := HK.out w5 kE
    go_cut [12, 13, 14] (fun r k q wx => PopCut w5 F P K xs r k q wx)
    case first =>
      by_cases e : F = P
      · subst e
        have hne' : 0 < (zs (c.D.getD F [])).length := by rw [zs_len]; exact List.length_pos_iff.2 hne
        obtain ⟨p1, p2, p3⟩ := pop_zs _ hne
        have HPZ : Hid (popL (zs (c.D.getD F [])) = zs xs ∧ lastD (zs (c.D.getD F [])) = ((K : Nat) : Int) ∧ popE (zs (c.D.getD F [])) = 0) := Lib.hid (by
          have e1 := HKK.out.1
          have e2 := HKK.out.2
          unfold takeN at e1 e2
          rw [if_pos rfl] at e1 e2
          simp only at e1 e2
          rw [p1, p2, p3, e1, e2]; exact ⟨rfl, rfl, rfl⟩)
        have hnn : np = (zs (c.D.getD F [])).length := by rw [zs_len]; exact HNP.out
        have HIN : Hid (Ints w5 (.slice Ap (zs (c.D.getD F [])).length cp) (zs (c.D.getD F []))) := Lib.hid (by rw [← hnn]; exact ints_of_rd (HRP.out.rd.ext HXW.out))
        have HLL : Hid ((zs (c.D.getD F [])).length ≤ 4000) := Lib.hid (by rw [zs_len]; exact HLH.out F)
        subst hnn
        clear p1 p2 p3
        go_wp2_with fail
        refine (rpop_own Ap cp _ w5 HIN.out HLL.out hne').mono ?_
        rintro ed w6 ⟨A6, c6, rfl, hO6, hE6⟩
        rw [HPZ.out.1, HPZ.out.2.1, HPZ.out.2.2] at *
        have HO6 := Lib.hid hO6
        have HE6 := Lib.hid hE6
        clear hO6 hE6
        go_wp2_with fail
        go_meet
        exact ⟨HE6.out, 0, rfl, .inl ⟨rfl, rfl, ⟨A6, (zs xs).length, c6⟩, rfl, rfl, zs_len xs, ow_of_own HO6.out⟩⟩
      · have eP : c.D.getD P [] = [] := by
          rcases hor with h | ⟨_, _, h⟩
          · exact absurd h e
          · exact h
        have hnp : np = 0 := by rw [HNP.out, eP]; rfl
        subst hnp
        have HEE := Lib.hid e
        clear eP e
        go_wp2_with fail
        refine (rpop_any Ap cp [] w5 (Ints.nil _ _ _) (by decide)).mono ?_
        rintro ed w6 ⟨A6, c6, rfl, _, hE6⟩
        rw [show popE [] = 4 from rfl]
        have HE6 := Lib.hid hE6
        clear hE6
        go_wp2_with fail
        go_meet
        exact ⟨HE6.out, 4, rfl, .inr ⟨HEE.out, rfl⟩⟩
    case rest =>
    generalize wc = w6 at *
    obtain ⟨hE6, ec, rfl, hpop⟩ := hcut
    have hS6 := HS5.out.ext' hE6
    have HS6 := Lib.hid hS6
    have HE65 := Lib.hid hE6
    have HB5 : Hid (w1.heap.size ≤ w5.heap.size) := HZ5
    have v3 : w6.cell? ⟨V, 3, none⟩ = some (.slice (some ⟨e0, 0, none⟩) m e1) := (cell_of_row w6 V 3 _ _ _ hS6.box).trans rfl
    obtain ⟨z0, zf⟩ := hS6.head hF
    have q0 : w6.cell? ⟨V + 1, 1, none⟩ = some (.int .i64 (-1)) := (cell_of_row w6 (V + 1) 1 _ _ _ hS6.ebx).trans rfl
    have q1 : w6.cell? ⟨V + 1, 2, none⟩ = some (.int .i64 (-1)) := (cell_of_row w6 (V + 1) 2 _ _ _ hS6.ebx).trans rfl
    have qf := fun o => frozen_of_row w6 (V + 1) o _ _ hS6.ebx
    have n1 : e0 ≠ V := fun hh => hS6.dq.row.notBox hS6.box (by decide) (by rw [hh]; rfl)
    have n2 : e0 ≠ V + 1 := fun hh => hS6.dq.row.notBox hS6.ebx (by decide) (by rw [hh]; rfl)
    have le0 := (hS6.dq.row.lt e0 rfl).2
    have lQ := block_lt hS6.ebx
    obtain ⟨k0', k1', k2', k3'⟩ := HK.out w6 hS6.ext
    have HZQ6 : Hid (w6.cell? ⟨eb, eo + Q, none⟩ = some (.slice Aq nq cq)) := Lib.hid (hS6.ext.cell HZQ.out)
    have hF0 : (0 : Int) ≤ F := by omega
    have hF1 : (F : Int) < m := by omega
    obtain ⟨hx, hhx⟩ : ∃ x : Hd, L.getD F hd0 = x := ⟨_, rfl⟩
    obtain ⟨Ax, nx, cx⟩ := hx
    rw [hhx] at z0
    unfold Hd.v at z0
    simp only at z0
    clear hS6 k0 k1 k2 k3 hzp hE6 hhx
    go_upto_if 65 with fail
    go_cut [] (fun wx => TakenCut w1 w1.heap.size V g m ⟨c1.ts, c1.dn, c1.D.set F xs, c1.over, c1.st, c1.id⟩ ⟨P, F, K, false⟩ A1 B1 e0 e1 a1 b1 wx)
    case first =>
      rcases hpop with ⟨e, rfl, x, rfl, rfl, hxn, hxo⟩ | ⟨e, rfl⟩
      · subst e
        have HXO := Lib.hid (And.intro hxn hxo)
        clear hxn hxo
        go_wp2_with fail
        go_meet
        exact ⟨_, HS5.out.take HE65.out HB5.out hF HXO.out.2 HXO.out.1 _ _⟩
      · have hFQ : F = Q := by
          rcases hor with h | ⟨h, _, _⟩
          · exact absurd h e
          · exact h
        have HEE := Lib.hid e
        clear e hor
        subst hFQ
        have hne' : 0 < (zs (c.D.getD F [])).length := by rw [zs_len]; exact List.length_pos_iff.2 hne
        obtain ⟨p1, p2, p3⟩ := steal_zs _ hne
        have HPZ : Hid (stealL (zs (c.D.getD F [])) = zs xs ∧ topD (zs (c.D.getD F [])) = ((K : Nat) : Int) ∧ popE (zs (c.D.getD F [])) = 0) := Lib.hid (by
          have e1 := HKK.out.1
          have e2 := HKK.out.2
          unfold takeN at e1 e2
          rw [if_neg HEE.out] at e1 e2
          simp only at e1 e2
          rw [p1, p2, p3, e1, e2]; exact ⟨rfl, rfl, rfl⟩)
        have hnn : nq = (zs (c.D.getD F [])).length := by rw [zs_len]; exact HNQ.out
        have HIN : Hid (Ints w6 (.slice Aq (zs (c.D.getD F [])).length cq) (zs (c.D.getD F []))) := Lib.hid (by rw [← hnn]; exact ints_of_rd (HRQ.out.rd.ext (HXW.out.trans HE65.out)))
        have HLL : Hid ((zs (c.D.getD F [])).length ≤ 4000) := Lib.hid (by rw [zs_len]; exact HLH.out F)
        subst hnn
        clear p1 p2 p3
        have hzq6 := HZQ6.out
        go_wp2_with fail
        refine (rsteal_own Aq cq _ w6 HIN.out HLL.out hne').mono ?_
        rintro ed w7 ⟨A6, c6, rfl, hO6, hE7⟩
        rw [HPZ.out.1, HPZ.out.2.1, HPZ.out.2.2] at *
        have HO6 := Lib.hid hO6
        have HE7 := Lib.hid hE7
        have v3' := hE7.cell v3
        have z0' := hE7.cell z0
        have q0' := hE7.cell q0
        have q1' := hE7.cell q1
        have zf' := fun o => (Below.frozen hE7 (p := ⟨e0, o, none⟩) le0).trans (zf o)
        have qf' := fun o => (Below.frozen hE7 (p := ⟨V + 1, o, none⟩) lQ).trans (qf o)
        have hz7 := hE7.size
        have le0' : e0 < w7.heap.size := by omega
        have lQ' : V + 1 < w7.heap.size := by omega
        clear hO6 hE7 v3 z0 q0 q1 zf qf hzq6
        go_wp2_with fail
        go_meet
        exact ⟨_, HS6.out.take HE7.out (Nat.le_trans HB5.out HE65.out.size) hF (x := ⟨A6, (zs xs).length, c6⟩) (ow_of_own HO6.out) (zs_len xs) _ _⟩
    case rest =>
    obtain ⟨L2, hS⟩ := hcut
    generalize wc = w7 at *
    have HS := Lib.hid hS
    clear hpop v3 z0 zf q0 q1 qf k0' k1' k2' k3' le0 lQ n1 n2 hne
    obtain ⟨k0, k1, k2, k3⟩ := HK.out w7 hS.ext
    have q2 : w7.cell? ⟨V + 1, 2, none⟩ = some (.int .i64 K) := (cell_of_row w7 (V + 1) 2 _ _ _ hS.ebx).trans rfl
    have HB7 : Hid (w1.heap.size ≤ w7.heap.size) := Lib.hid hS.ext.size
    have HXW7 : Hid (Ext w w7) := Lib.hid (HX1.out.trans hS.ext)
    have HGI : Hid (in64 (g : Int)) := Lib.hid (by unfold in64; omega)
    have HKI : Hid (in64 (K : Int)) := Lib.hid (by have := HLT.out; unfold in64; omega)
    have HDN : Hid (c.dn.length = n) := Lib.hid (CrI.inv HI.out).dl
    have HTS := Lib.hid (H.out.tsk.rd.ext HXW7.out)
    have HDS7 := Lib.hid (H.out.dns.rd.ext HXW7.out)
    have HGR : Hid (wGreat c.ts (g : Int) c.dn.length (K : Int) = decide (g < sz c.ts K)) := Lib.hid (by rw [HDN.out]; exact (CrI.inv HI.out).greatB g1 g2 n1 n2 K HKM.out)
    have HWR : Hid (wRight c.ts (g : Int) c.dn.length = true) := Lib.hid (by rw [HDN.out]; exact (CrI.inv HI.out).right g1 g2 n1 n2)
    clear hS
    go_upto_region 20 with fail
    go_wp2_with fail
    refine (rgreat_any A B a b c.dn.length c.ts (g : Int) (K : Int) w7 HTS.out (by have := HLN.out; omega) HGI.out HKI.out).mono ?_
    rw [HGR.out]
    rintro ed w8 ⟨rfl, hE8⟩
    have HE8 := Lib.hid hE8
    have hS8 := HS.out.ext' hE8
    have HS8 := Lib.hid hS8
    obtain ⟨k0', k1', k2', k3'⟩ := HK.out w8 hS8.ext
    have q2' := hE8.cell q2
    clear hE8 hS8 k0 k1 k2 k3 q2
    by_cases hz : g < sz c.ts K
    · rw [decide_eq_true hz]
      have HPE : Hid (partErr c.ts (g : Int) c.dn.length (K : Int) = 0) := Lib.hid (by
        have hh : wHas c.ts.length (K : Int) = true := by unfold wHas; simp; omega
        have e : tkAt c.ts (K : Int) = T c.ts K := by unfold tkAt; rw [Int.toNat_natCast]
        unfold partErr
        rw [if_neg (by rw [HWR.out]; decide), if_neg (by rw [hh]; decide), if_neg (by rw [HGR.out, decide_eq_true hz]; decide), e, if_neg (by rw [hw0]; decide), if_neg (by have := HI.out.few g1 n1; omega)])
      have HGO : Hid (goP g c P F = (⟨partedTs c.ts K, c.dn, (c.D.set F xs).set P ((c.D.set F xs).getD P [] ++ [c.ts.length + 1, c.ts.length]), c.over, c.st + 1, c.id⟩, ⟨P, F, K, true⟩)) := Lib.hid (by
        unfold goP
        rw [HKK.out.1, HKK.out.2]
        simp only
        rw [if_pos hz]; rfl)
      go_wp2_with fail
      refine (rpart_any A B a b c.ts c.dn (g : Int) (K : Int) w8 (HTS.out.ext HE8.out) (HDS7.out.ext HE8.out) HGI.out HKI.out).mono ?_
      rintro ed w9 (⟨h1, _⟩ | ⟨_, A2, a2, B2, b2, rfl, hT, hD, hA, hB, hE9⟩)
      · exact absurd HPE.out h1
      rw [Int.toNat_natCast] at *
      have HT := Lib.hid (And.intro hT hA)
      have HD := Lib.hid (And.intro hD hB)
      have HE9 := Lib.hid hE9
      have hS9 := HS8.out.ext' hE9
      have v0 : w9.cell? ⟨V, 0, none⟩ = some (.slice A1 c1.ts.length a1) := (cell_of_row w9 V 0 _ _ _ hS9.box).trans rfl
      have v1 : w9.cell? ⟨V, 1, none⟩ = some (.int .i64 g) := (cell_of_row w9 V 1 _ _ _ hS9.box).trans rfl
      have v2 : w9.cell? ⟨V, 2, none⟩ = some (.slice B1 c1.dn.length b1) := (cell_of_row w9 V 2 _ _ _ hS9.box).trans rfl
      have vf := fun o => frozen_of_row w9 V o _ _ hS9.box
      have q3 : w9.cell? ⟨V + 1, 3, none⟩ = some (.bool false) := (cell_of_row w9 (V + 1) 3 _ _ _ hS9.ebx).trans rfl
      have qf := fun o => frozen_of_row w9 (V + 1) o _ _ hS9.ebx
      have lV := block_lt hS9.box
      have lQ := block_lt hS9.ebx
      clear hT hD hA hB hE9 hS9 k0' k1' k2' k3' q2'
      go_upto_region 25 with fail
      have hSA := (HS8.out.work (HE9.out.alloc (.cells #[.slice A2 (partedTs c.ts K).length a2, .int .i64 g, .slice B2 c.dn.length b2] 74)) (Nat.le_trans HB7.out HE8.out.size) (HT.out.1.ext ((Ext.refl _).alloc _)) (HD.out.1.ext ((Ext.refl _).alloc _)) HT.out.2 HD.out.2).parted true
      have HSA : Hid (S5At w1 ((((((w9.setCell ⟨V, 0, none⟩ (.slice A2 (partedTs c.ts K).length a2)).setCell ⟨V, 1, none⟩ (.int .i64 g)).setCell ⟨V, 2, none⟩ (.slice B2 c.dn.length b2)).setCell ⟨V + 1, 3, none⟩ (.bool true)).alloc (.cells #[.slice A2 (partedTs c.ts K).length a2, .int .i64 g, .slice B2 c.dn.length b2] 74))) w1.heap.size V (V + 1) g m ⟨partedTs c.ts K, c.dn, c1.D.set F xs, c1.over, c1.st, c1.id⟩ ⟨P, F, K, true⟩ A2 B2 e0 e1 a2 b2 L2) := Lib.hid (by
        have h9 := hSA
        rw [World.setCell_alloc_past (n := V) (i := 0), World.setCell_alloc_past (n := V) (i := 1), World.setCell_alloc_past (n := V) (i := 2), World.setCell_alloc_past (n := V + 1) (i := 3)] at h9
        · exact h9
        all_goals first | exact lV | exact lQ | (simp only [World.size_setCell]; first | exact lV | exact lQ) | (simp; omega))
      clear hSA v0 v1 v2 vf q3 qf lV lQ
      generalize (((((w9.setCell ⟨V, 0, none⟩ (.slice A2 (partedTs c.ts K).length a2)).setCell ⟨V, 1, none⟩ (.int .i64 g)).setCell ⟨V, 2, none⟩ (.slice B2 c.dn.length b2)).setCell ⟨V + 1, 3, none⟩ (.bool true)).alloc (.cells #[.slice A2 (partedTs c.ts K).length a2, .int .i64 g, .slice B2 c.dn.length b2] 74)) = wA at *
      have hSA := HSA.out
      have qv : wA.cell? ⟨V, 3, none⟩ = some (.slice (some ⟨e0, 0, none⟩) m e1) := (cell_of_row wA V 3 _ _ _ hSA.box).trans rfl
      obtain ⟨qh, zf⟩ := hSA.head hP
      obtain ⟨hh, hhh⟩ : ∃ x : Hd, L2.getD P hd0 = x := ⟨_, rfl⟩
      obtain ⟨Ah, nh, ch⟩ := hh
      obtain ⟨row, hrw0⟩ : ∃ row, (L2.getD P hd0).v.ownBlock = row := ⟨_, rfl⟩
      have hLP := (hSA.dq.els P hP).2
      have nV : ¬ row = some V := by rw [← hrw0]; exact hLP.notBox hSA.box (by decide)
      have nE : ¬ row = some e0 := by rw [← hrw0]; exact fun e => Ow.far (by decide) hLP hSA.dq.row e0 e rfl
      have hrow : ∀ b, row = some b → b < wA.heap.size := fun b e => (hLP.lt b (hrw0.trans e)).2
      obtain ⟨ys, hys⟩ : ∃ ys, (c1.D.set F xs).getD P [] = ys := ⟨_, rfl⟩
      have hLP2 : Ow kInt w1.heap.size wA (L2.getD P hd0).v (zs ys) := by rw [← hys]; exact hLP
      have hys4 : ys.length ≤ 5000 := by
        have := HLH.out P
        rw [← hys, ← HC1.out]
        show ((c.D.set F xs).getD P []).length ≤ 5000
        rw [getD_setL _ _ _ _ _ (by have := HDL.out; omega)]
        by_cases e : P = F
        · rw [if_pos e]
          have h1 := HKK.out.2
          have h2 := HLH.out F
          unfold takeN at h1
          rw [← h1]
          split
          · show (List.dropLast _).length ≤ _
            rw [List.length_dropLast]; omega
          · show (List.tail _).length ≤ _
            rw [List.length_tail]; omega
        · rw [if_neg e]; omega
      rw [hhh] at qh hLP2
      have hrw : Value.ownBlock (.slice Ah nh ch) = row := by rw [← hrw0, hhh]
      have HRW0 := Lib.hid hrw0
      have HPW : Hid (Ow kInt w1.heap.size wA (.slice Ah nh ch) (zs ys)) := Lib.hid hLP2
      unfold Hd.v at qh
      simp only at qh
      have HLL : Hid ((zs ys).length + 2 ≤ 1048576) := Lib.hid (by rw [zs_len]; omega)
      obtain ⟨x, hx⟩ : ∃ x : Int, ((c.ts.length : Nat) : Int) = x := ⟨_, rfl⟩
      obtain ⟨y, hy⟩ : ∃ y : Int, ((c.ts.length : Nat) : Int) + 1 = y := ⟨_, rfl⟩
      have HXY : Hid (∀ z ∈ [y, x], kInt.ok z) := Lib.hid (by
        have := HLT.out
        intro z hz
        simp only [List.mem_cons, List.not_mem_nil, or_false] at hz
        show -9223372036854775808 ≤ z ∧ z ≤ 9223372036854775807
        rcases hz with rfl | rfl <;> omega)
      have HXX := Lib.hid (And.intro hx hy)
      have HYS := Lib.hid hys
      have HHH := Lib.hid hhh
      have HZF := Lib.hid zf
      have HBS : Hid (w1.heap.size ≤ wA.heap.size) := Lib.hid hSA.ext.size
      have le0 := (hSA.dq.row.lt e0 rfl).2
      rw [hy, hx]
      clear hSA hLP hLP2 hhh hrw0 hys hx hy zf
      obtain ⟨B9, hB9⟩ : ∃ B9, w1.heap.size = B9 := ⟨_, rfl⟩
      have HB9 := Lib.hid hB9
      rw [hB9] at HBS HPW
      clear hB9
      refine MonoW.wp_region_write 12 11 (Wr row) (R5P wA row V e0 P m e1 nh ch B9 Ah ys x y) (by kernel_rfl) (by kernel_rfl) (Wr.of row) (Wr.tr row) (R5P_ext wA row V e0 P m e1 nh ch B9 Ah ys x y) (R5P_sw wA row V e0 P m e1 nh ch B9 Ah ys x y hrow) ?_ ?_
      · intro i o hi ho vals w5 hE hQ hcl
        have hi' : i = 0 ∨ i = 1 ∨ i = 2 ∨ i = 3 ∨ i = 4 ∨ i = 5 ∨ i = 6 ∨ i = 7 ∨ i = 8 ∨ i = 9 ∨ i = 10 ∨ i = 11 := by omega
        rcases hi' with rfl | rfl | rfl | rfl | rfl | rfl | rfl | rfl | rfl | rfl | rfl | rfl
        · simp only [List.getElem?_cons_succ, List.getElem?_cons_zero, Option.some.injEq] at ho
          subst ho
          rw [if_pos (Mono.wanted_none rfl)]
          clear hcl
          refine Mono.yields_same (.pointer (some ⟨V, 3, none⟩)) w5 ?_ ⟨MonoW.Out.of (Wr.of row) (Ext.refl _), R5P_i0 _ _ _ _ _ _ _ _ _ _ _ _ _ _ _ _ _ rfl⟩
          simp only [Mono.all, List.take, Act.put]
          go_simp
        · simp only [List.getElem?_cons_succ, List.getElem?_cons_zero, Option.some.injEq] at ho
          subst ho
          rw [if_pos (Mono.wanted_none rfl)]
          have h1 : vals 0 = .pointer (some ⟨V, 3, none⟩) := R5P_e0 _ _ _ _ _ _ _ _ _ _ _ _ _ _ _ _ _ (hcl 0 (by kernel_rfl))
          have k1 := hE.cell qv nV
          clear hcl
          refine Mono.yields_same (.slice (some ⟨e0, 0, none⟩) m e1) w5 ?_ ⟨MonoW.Out.of (Wr.of row) (Ext.refl _), R5P_i1 _ _ _ _ _ _ _ _ _ _ _ _ _ _ _ _ _ rfl⟩
          simp only [Mono.all, List.take, Act.put]
          go_simp
        · simp only [List.getElem?_cons_succ, List.getElem?_cons_zero, Option.some.injEq] at ho
          subst ho
          rw [if_pos (Mono.wanted_none rfl)]
          clear hcl
          refine Mono.yields_same (.int .i64 P) w5 ?_ ⟨MonoW.Out.of (Wr.of row) (Ext.refl _), R5P_i2 _ _ _ _ _ _ _ _ _ _ _ _ _ _ _ _ _ rfl⟩
          simp only [Mono.all, List.take, Act.put]
          go_simp
        · simp only [List.getElem?_cons_succ, List.getElem?_cons_zero, Option.some.injEq] at ho
          subst ho
          rw [if_pos (Mono.wanted_none rfl)]
          clear hcl
          refine Mono.yields_same (.pointer (some ⟨V, 3, none⟩)) w5 ?_ ⟨MonoW.Out.of (Wr.of row) (Ext.refl _), R5P_i3 _ _ _ _ _ _ _ _ _ _ _ _ _ _ _ _ _ rfl⟩
          simp only [Mono.all, List.take, Act.put]
          go_simp
        · simp only [List.getElem?_cons_succ, List.getElem?_cons_zero, Option.some.injEq] at ho
          subst ho
          rw [if_pos (Mono.wanted_none rfl)]
          have h1 : vals 3 = .pointer (some ⟨V, 3, none⟩) := R5P_e3 _ _ _ _ _ _ _ _ _ _ _ _ _ _ _ _ _ (hcl 3 (by kernel_rfl))
          have k1 := hE.cell qv nV
          clear hcl
          refine Mono.yields_same (.slice (some ⟨e0, 0, none⟩) m e1) w5 ?_ ⟨MonoW.Out.of (Wr.of row) (Ext.refl _), R5P_i4 _ _ _ _ _ _ _ _ _ _ _ _ _ _ _ _ _ rfl⟩
          simp only [Mono.all, List.take, Act.put]
          go_simp
        · simp only [List.getElem?_cons_succ, List.getElem?_cons_zero, Option.some.injEq] at ho
          subst ho
          rw [if_pos (Mono.wanted_none rfl)]
          clear hcl
          refine Mono.yields_same (.int .i64 P) w5 ?_ ⟨MonoW.Out.of (Wr.of row) (Ext.refl _), R5P_i5 _ _ _ _ _ _ _ _ _ _ _ _ _ _ _ _ _ rfl⟩
          simp only [Mono.all, List.take, Act.put]
          go_simp
        · simp only [List.getElem?_cons_succ, List.getElem?_cons_zero, Option.some.injEq] at ho
          subst ho
          rw [if_pos (Mono.wanted_none rfl)]
          have h4 : vals 4 = .slice (some ⟨e0, 0, none⟩) m e1 := R5P_e4 _ _ _ _ _ _ _ _ _ _ _ _ _ _ _ _ _ (hcl 4 (by kernel_rfl))
          have h5 : vals 5 = .int .i64 P := R5P_e5 _ _ _ _ _ _ _ _ _ _ _ _ _ _ _ _ _ (hcl 5 (by kernel_rfl))
          clear hcl
          refine Mono.yields_same (.pointer (some ⟨e0, P, none⟩)) w5 ?_ ⟨MonoW.Out.of (Wr.of row) (Ext.refl _), R5P_i6 _ _ _ _ _ _ _ _ _ _ _ _ _ _ _ _ _ rfl⟩
          simp only [Mono.all, List.take, Act.put]
          go_simp
        · simp only [List.getElem?_cons_succ, List.getElem?_cons_zero, Option.some.injEq] at ho
          subst ho
          rw [if_pos (Mono.wanted_none rfl)]
          have h1 : vals 6 = .pointer (some ⟨e0, P, none⟩) := R5P_e6 _ _ _ _ _ _ _ _ _ _ _ _ _ _ _ _ _ (hcl 6 (by kernel_rfl))
          have k1 := hE.cell qh nE
          clear hcl
          refine Mono.yields_same (.slice Ah nh ch) w5 ?_ ⟨MonoW.Out.of (Wr.of row) (Ext.refl _), R5P_i7 _ _ _ _ _ _ _ _ _ _ _ _ _ _ _ _ _ rfl⟩
          simp only [Mono.all, List.take, Act.put]
          go_simp
        · simp only [List.getElem?_cons_succ, List.getElem?_cons_zero, Option.some.injEq] at ho
          subst ho
          rw [if_pos (Mono.wanted_none rfl)]
          clear hcl
          refine Mono.yields_same (.int .i64 y) w5 ?_ ⟨MonoW.Out.of (Wr.of row) (Ext.refl _), R5P_i8 _ _ _ _ _ _ _ _ _ _ _ _ _ _ _ _ _ rfl⟩
          simp only [Mono.all, List.take, Act.put]
          go_simp
        · simp only [List.getElem?_cons_succ, List.getElem?_cons_zero, Option.some.injEq] at ho
          subst ho
          rw [if_pos (Mono.wanted_none rfl)]
          clear hcl
          refine Mono.yields_same (.int .i64 x) w5 ?_ ⟨MonoW.Out.of (Wr.of row) (Ext.refl _), R5P_i9 _ _ _ _ _ _ _ _ _ _ _ _ _ _ _ _ _ rfl⟩
          simp only [Mono.all, List.take, Act.put]
          go_simp
        · simp only [List.getElem?_cons_succ, List.getElem?_cons_zero, Option.some.injEq] at ho
          subst ho
          rw [if_pos (Mono.wanted_none rfl)]
          have h8 : vals 8 = .int .i64 y := (R5P_e8 _ _ _ _ _ _ _ _ _ _ _ _ _ _ _ _ _ (hcl 8 (by kernel_rfl)))
          have h9 : vals 9 = .int .i64 x := (R5P_e9 _ _ _ _ _ _ _ _ _ _ _ _ _ _ _ _ _ (hcl 9 (by kernel_rfl)))
          clear hcl
          refine Mono.yields_same (.slice (some ⟨w5.heap.size, 0, none⟩) 2 2) (w5.alloc (.cells #[.int .i64 y, .int .i64 x] kInt.e)) ?_ ⟨MonoW.Out.of (Wr.of row) ((Ext.refl _).alloc _), R5P_i10 _ _ _ _ _ _ _ _ _ _ _ _ _ _ _ _ _ ⟨_, rfl, Ow.lit w5 [y, x] _ rfl rfl rfl hE.size (by unfold maxLen; omega) HXY.out⟩⟩
          simp only [Mono.all, List.take, Act.put, kInt]
          go_simp
        · simp only [List.getElem?_cons_succ, List.getElem?_cons_zero, Option.some.injEq] at ho
          subst ho
          rw [if_pos (Mono.wanted_none rfl)]
          obtain ⟨p, h10, o10⟩ := (R5P_e10 _ _ _ _ _ _ _ _ _ _ _ _ _ _ _ _ _ (hcl 10 (by kernel_rfl)))
          have h7 : vals 7 = .slice Ah nh ch := (R5P_e7 _ _ _ _ _ _ _ _ _ _ _ _ _ _ _ _ _ (hcl 7 (by kernel_rfl)))
          have hX := hQ rfl
          clear hcl
          refine Kd.yields_grow kInt (B := B9) (n := wA.heap.size) (q := 11) (.tmp 137) (.tmp 140) (v := .slice Ah nh ch) (y := .slice (some ⟨p, 0, none⟩) 2 2) (xs := zs ys) (ys := [y, x]) (HPW.out.ext hX) o10.rd HLL.out (Nat.le_trans HBS.out hX.size) hX.size rfl rfl (by rw [← h7]; kernel_rfl) (by rw [← h10]; kernel_rfl) ?_
          intro v' w' hA hO
          exact ⟨by rw [← hrw]; exact hO, R5P_i11 _ _ _ _ _ _ _ _ _ _ _ _ _ _ _ _ _ hA⟩
      · intro vals w5 hE hv
        have ee1 := R5P_e1 _ _ _ _ _ _ _ _ _ _ _ _ _ _ _ _ _ (hv 1 (by omega))
        have ee4 := R5P_e4 _ _ _ _ _ _ _ _ _ _ _ _ _ _ _ _ _ (hv 4 (by omega))
        have ee7 := R5P_e7 _ _ _ _ _ _ _ _ _ _ _ _ _ _ _ _ _ (hv 7 (by omega))
        have hA := (R5P_e11 _ _ _ _ _ _ _ _ _ _ _ _ _ _ _ _ _ (hv 11 (by omega)))
        have ee2 := (R5P_e2 _ _ _ _ _ _ _ _ _ _ _ _ _ _ _ _ _ (hv 2 (by omega)))
        have HA : Hid (AppAt kInt w1.heap.size w5 (vals 11) (zs (ys ++ [c.ts.length + 1, c.ts.length])) (L2.getD P hd0).v wA.heap.size) := Lib.hid (by
          rw [HHH.out, HB9.out, zs_app]
          have e2 : zs [c.ts.length + 1, c.ts.length] = [y, x] := by rw [← HXX.out.1, ← HXX.out.2]; rfl
          rw [e2]
          exact hA)
        have HG : Hid (Wr (L2.getD P hd0).v.ownBlock wA w5) := Lib.hid (by rw [HRW0.out]; exact hE)
        obtain ⟨zx, e11, hSP⟩ := HSA.out.push (Nat.le_trans (Nat.le_of_eq HB9.out) HBS.out) hP HG.out HA.out
        rw [e11] at hSP
        have HSP := Lib.hid hSP
        have qh5 := hE.cell qh nE
        have zf5 := fun o => (Grew.frozen hE (b := e0) le0 nE o).trans (HZF.out o)
        have le5 : e0 < w5.heap.size := Nat.lt_of_lt_of_le le0 hE.size
        clear hA hv hSP hE
        obtain ⟨Az, nz, cz⟩ := zx
        simp only [Mono.all, List.take, List.drop, Act.put]
        rw [e11]
        go_upto_region 26 with fail
        obtain ⟨cx, hcx⟩ : ∃ x : Cw, (⟨partedTs c.ts K, c.dn, (c1.D.set F xs).set P (ys ++ [c.ts.length + 1, c.ts.length]), c1.over, c1.st, c1.id⟩ : Cw) = x := ⟨_, rfl⟩
        obtain ⟨ex, hex⟩ : ∃ x : Ev, (⟨P, F, K, true⟩ : Ev) = x := ⟨_, rfl⟩
        have HSX : S5At w1 (w5.setCell ⟨e0, P, none⟩ (Hd.v ⟨Az, nz, cz⟩)) w1.heap.size V (V + 1) g m (⟨partedTs c.ts K, c.dn, (c1.D.set F xs).set P (ys ++ [c.ts.length + 1, c.ts.length]), c1.over, c1.st, c1.id⟩ : Cw) (⟨P, F, K, true⟩ : Ev) A2 B2 e0 e1 a2 b2 (L2.set P ⟨Az, nz, cz⟩) := HSP.out
        rw [hcx, hex] at HSX
        have hrs : stepP g m c p q = (cx, ex) := by rw [HRES.out, ← hcx, ← hex]; rw [HGO.out, ← HYS.out, ← HC1.out]
        have HSX := Lib.hid HSX
        have HRS := Lib.hid hrs
        have hme : m ≤ e1 := by
          obtain ⟨A', c', hh, hl⟩ := HSX.out.dq.row.slice
          cases hh
          have := HSX.out.dq.len
          omega
        have hxx := HSX.out.ext
        have hvl := HSX.out.vl
        have v0 : (w5.setCell ⟨e0, P, none⟩ (Hd.v ⟨Az, nz, cz⟩)).cell? ⟨V, 0, none⟩ = some (.slice A2 cx.ts.length a2) := (cell_of_row _ V 0 _ _ _ HSX.out.box).trans rfl
        have v1 : (w5.setCell ⟨e0, P, none⟩ (Hd.v ⟨Az, nz, cz⟩)).cell? ⟨V, 1, none⟩ = some (.int .i64 g) := (cell_of_row _ V 1 _ _ _ HSX.out.box).trans rfl
        have v2 : (w5.setCell ⟨e0, P, none⟩ (Hd.v ⟨Az, nz, cz⟩)).cell? ⟨V, 2, none⟩ = some (.slice B2 cx.dn.length b2) := (cell_of_row _ V 2 _ _ _ HSX.out.box).trans rfl
        have v3 : (w5.setCell ⟨e0, P, none⟩ (Hd.v ⟨Az, nz, cz⟩)).cell? ⟨V, 3, none⟩ = some (.slice (some ⟨e0, 0, none⟩) m e1) := (cell_of_row _ V 3 _ _ _ HSX.out.box).trans rfl
        have v4 : (w5.setCell ⟨e0, P, none⟩ (Hd.v ⟨Az, nz, cz⟩)).cell? ⟨V, 4, none⟩ = some (.bool cx.over) := (cell_of_row _ V 4 _ _ _ HSX.out.box).trans rfl
        have v5 : (w5.setCell ⟨e0, P, none⟩ (Hd.v ⟨Az, nz, cz⟩)).cell? ⟨V, 5, none⟩ = some (.int .i64 cx.st) := (cell_of_row _ V 5 _ _ _ HSX.out.box).trans rfl
        have v6 : (w5.setCell ⟨e0, P, none⟩ (Hd.v ⟨Az, nz, cz⟩)).cell? ⟨V, 6, none⟩ = some (.int .i64 cx.id) := (cell_of_row _ V 6 _ _ _ HSX.out.box).trans rfl
        have v7 : (w5.setCell ⟨e0, P, none⟩ (Hd.v ⟨Az, nz, cz⟩)).cell? ⟨V + 1, 0, none⟩ = some (.int .i64 ex.wk) := (cell_of_row _ (V + 1) 0 _ _ _ HSX.out.ebx).trans rfl
        have v8 : (w5.setCell ⟨e0, P, none⟩ (Hd.v ⟨Az, nz, cz⟩)).cell? ⟨V + 1, 1, none⟩ = some (.int .i64 ex.fr) := (cell_of_row _ (V + 1) 1 _ _ _ HSX.out.ebx).trans rfl
        have v9 : (w5.setCell ⟨e0, P, none⟩ (Hd.v ⟨Az, nz, cz⟩)).cell? ⟨V + 1, 2, none⟩ = some (.int .i64 ex.tk) := (cell_of_row _ (V + 1) 2 _ _ _ HSX.out.ebx).trans rfl
        have v10 : (w5.setCell ⟨e0, P, none⟩ (Hd.v ⟨Az, nz, cz⟩)).cell? ⟨V + 1, 3, none⟩ = some (.bool ex.pt) := (cell_of_row _ (V + 1) 3 _ _ _ HSX.out.ebx).trans rfl
        obtain ⟨y0, y1, y2, y3, y4, y5, y6, x0, x1, x2, x3, yf, xf⟩ := HR.out (w5.setCell ⟨e0, P, none⟩ (Hd.v ⟨Az, nz, cz⟩)) hxx
        have l8 := block_lt HSX.out.box
        have l9 := block_lt HSX.out.ebx
        generalize w5.setCell ⟨e0, P, none⟩ (Hd.v ⟨Az, nz, cz⟩) = w9 at *
        have l6 : w.heap.size + 1 + 1 < w9.heap.size := by have := hxx.size; omega
        have l7 : w.heap.size + 1 < w9.heap.size := by omega
        have nV1 : ¬ w.heap.size + 1 = V := by omega
        have nV2 : ¬ w.heap.size + 1 + 1 = V := by omega
        have nV3 : ¬ V = w.heap.size + 1 := by omega
        have nV4 : ¬ V = w.heap.size + 1 + 1 := by omega
        have nQ1 : ¬ w.heap.size + 1 = V + 1 := by omega
        have nQ2 : ¬ w.heap.size + 1 + 1 = V + 1 := by omega
        have nQ3 : ¬ V + 1 = w.heap.size + 1 := by omega
        have nQ4 : ¬ V + 1 = w.heap.size + 1 + 1 := by omega
        clear hxx hrs hcx hex
        go_cut [8] (fun z wx => z = .int .i64 0 ∧ Boxed wx (w.heap.size + 1) (w.heap.size + 1 + 1) A2 B2 e0 a2 b2 e1 g m cx ex ∧ Grew (fun x => x = w.heap.size + 1 ∨ x = w.heap.size + 1 + 1) w9 wx)
        case first =>
          go_region
          all_goals go_wp2_with fail
          all_goals go_meet
          all_goals first
            | (with_reducible exact ⟨rfl, Boxed.one' (by omega) (by omega) y0 y1 y2 y3 y4 y5 y6 x0 x1 x2 x3⟩)
            | (with_reducible exact ⟨rfl, Boxed.two' (by omega) (by omega) y0 y1 y2 y3 y4 y5 y6 x0 x1 x2 x3⟩)
        case rest =>
        obtain ⟨rfl, hBx, hG7⟩ := hcut
        obtain ⟨j0, j1, j2, j3, j4, j5, j6, i0, i1, i2, i3⟩ := hBx
        have HG7 := Lib.hid hG7
        clear hG7 y0 y1 y2 y3 y4 y5 y6 x0 x1 x2 x3 yf xf v0 v1 v2 v3 v4 v5 v6 v7 v8 v9 v10 l6 l7 l8 l9
        go_wp2_with fail
        rw [HRS.out]
        refine bodyPost_ret (v := .tuple #[crewV A2 B2 e0 0 a2 b2 e1 g m cx, evV ex, .int .i64 0]) (by simp [results, Try.results51, go_sem, j0, j1, j2, j3, j4, j5, j6, i0, i1, i2, i3]) rfl ⟨A2, B2, e0, a2, b2, e1, hme, rfl, ?_, ?_⟩
        · have hb := HSX.out.bl
          exact ((HSX.out.crew).mono m1 (T := fun x => x < w.heap.size + 3) (fun x _ hx => by omega)).later m1 (hG := HG7.out.mono (fun x _ hx => by rcases hx with rfl | rfl <;> omega)) (fun x _ hx => by omega)
        · exact HG7.out.toExt (HX1.out.trans HSX.out.ext) (fun b hb => by rcases hb with rfl | rfl <;> omega)
    · rw [decide_eq_false hz]
      have HPE : Hid (doErr c.ts (g : Int) c.dn (K : Int) = 0) := Lib.hid (doErr_zero HWR.out hKl (by rw [HGR.out]; exact decide_eq_false hz) hw0 (by
        have hO := CrI.inv HI.out
        obtain ⟨z1, z2, z3⟩ := hO.szpos K HKM.out
        have ht := hO.task K hKl
        exact (hO.cov (T c.ts K).lo.toNat (by omega)).2 ⟨K, HKM.out, by omega, by omega⟩))
      obtain ⟨us, ov, hcl⟩ : ∃ us ov, climb (c.ts.length + 1) c.ts (T c.ts K).up = (us, ov) := ⟨_, _, rfl⟩
      have hul : us.length = c.ts.length := by have := climb_len (c.ts.length + 1) c.ts (T c.ts K).up; rw [hcl] at this; exact this
      obtain ⟨dn', hmk⟩ : ∃ dn', marked c.dn (T c.ts K).lo.toNat (T c.ts K).hi.toNat = dn' := ⟨_, rfl⟩
      have hml : dn'.length = c.dn.length := by
        have hO := CrI.inv HI.out
        have ht := hO.task K hKl
        have hd := HDN.out
        rw [← hmk]; exact marked_len _ _ _ (by omega) (by omega)
      have hov : c.over = false := by
        rw [CrI.ov HI.out, decide_eq_false_iff_not]
        intro e; have := HKM.out; rw [e] at this; cases this
      have HGO : Hid (goP g c P F = (⟨us, dn', c.D.set F xs, ov, c.st + 1, c.id⟩, ⟨P, F, K, false⟩)) := Lib.hid (by
        unfold goP
        rw [HKK.out.1, HKK.out.2]
        simp only
        rw [if_neg hz, hcl, hmk, hov]; rfl)
      have HOV := Lib.hid hov
      have HCL : Hid (climb (c.ts.length + 1) c.ts (c.ts.getD K tk0).up = (us, ov)) := Lib.hid hcl
      have HMK : Hid (marked c.dn (c.ts.getD K tk0).lo.toNat (c.ts.getD K tk0).hi.toNat = dn') := Lib.hid hmk
      have HUL := Lib.hid (And.intro hul hml)
      clear hcl hmk hov hul hml
      go_wp2_with fail
      refine (rdo_any A B a b c.ts c.dn (g : Int) (K : Int) w8 (HTS.out.ext HE8.out) (HDS7.out.ext HE8.out) HGI.out HKI.out).mono ?_
      rintro ed w9 (⟨h1, _⟩ | ⟨_, A2, a2, B2, b2, rfl, hT, hD, hA, hB, hE9⟩)
      · exact absurd HPE.out h1
      rw [Int.toNat_natCast] at *
      rw [HCL.out, ← HUL.out.1] at hT
      rw [HMK.out, ← HUL.out.2] at hD
      rw [HCL.out, ← HUL.out.1, ← HUL.out.2]
      have HT := Lib.hid (And.intro hT hA)
      have HD := Lib.hid (And.intro hD hB)
      have HE9 := Lib.hid hE9
      have hS9 := HS8.out.ext' hE9
      have v0 : w9.cell? ⟨V, 0, none⟩ = some (.slice A1 c1.ts.length a1) := (cell_of_row w9 V 0 _ _ _ hS9.box).trans rfl
      have v1 : w9.cell? ⟨V, 1, none⟩ = some (.int .i64 g) := (cell_of_row w9 V 1 _ _ _ hS9.box).trans rfl
      have v2 : w9.cell? ⟨V, 2, none⟩ = some (.slice B1 c1.dn.length b1) := (cell_of_row w9 V 2 _ _ _ hS9.box).trans rfl
      have v4 : w9.cell? ⟨V, 4, none⟩ = some (.bool c1.over) := (cell_of_row w9 V 4 _ _ _ hS9.box).trans rfl
      rw [show c1.over = false by rw [← HC1.out]; exact HOV.out] at v4
      have vf := fun o => frozen_of_row w9 V o _ _ hS9.box
      have lV := block_lt hS9.box
      clear hT hD hA hB hE9 hS9 k0' k1' k2' k3' q2'
      go_upto_region 32 with fail
      have hSA := (HS8.out.work (HE9.out.alloc (.cells #[.slice A2 us.length a2, .int .i64 g, .slice B2 dn'.length b2] 74)) (Nat.le_trans HB7.out HE8.out.size) (HT.out.1.ext ((Ext.refl _).alloc _)) (HD.out.1.ext ((Ext.refl _).alloc _)) HT.out.2 HD.out.2).over ov
      have HSA : Hid (S5At w1 ((((((w9.setCell ⟨V, 0, none⟩ (.slice A2 us.length a2)).setCell ⟨V, 1, none⟩ (.int .i64 g)).setCell ⟨V, 2, none⟩ (.slice B2 dn'.length b2)).setCell ⟨V, 4, none⟩ (.bool ov)).alloc (.cells #[.slice A2 us.length a2, .int .i64 g, .slice B2 dn'.length b2] 74))) w1.heap.size V (V + 1) g m ⟨us, dn', c1.D.set F xs, ov, c1.st, c1.id⟩ ⟨P, F, K, false⟩ A2 B2 e0 e1 a2 b2 L2) := Lib.hid (by
        have h9 := hSA
        rw [World.setCell_alloc_past (n := V) (i := 0), World.setCell_alloc_past (n := V) (i := 1), World.setCell_alloc_past (n := V) (i := 2), World.setCell_alloc_past (n := V) (i := 4)] at h9
        · exact h9
        all_goals first | exact lV | exact lQ | (simp only [World.size_setCell]; first | exact lV | exact lQ) | (simp; omega))
      clear hSA v0 v1 v2 v4 vf lV
      obtain ⟨cx, hcx⟩ : ∃ x : Cw, (⟨us, dn', c1.D.set F xs, ov, c1.st, c1.id⟩ : Cw) = x := ⟨_, rfl⟩
      obtain ⟨ex, hex⟩ : ∃ x : Ev, (⟨P, F, K, false⟩ : Ev) = x := ⟨_, rfl⟩
      have HSX : S5At w1 ((((((w9.setCell ⟨V, 0, none⟩ (.slice A2 us.length a2)).setCell ⟨V, 1, none⟩ (.int .i64 g)).setCell ⟨V, 2, none⟩ (.slice B2 dn'.length b2)).setCell ⟨V, 4, none⟩ (.bool ov)).alloc (.cells #[.slice A2 us.length a2, .int .i64 g, .slice B2 dn'.length b2] 74))) w1.heap.size V (V + 1) g m (⟨us, dn', c1.D.set F xs, ov, c1.st, c1.id⟩ : Cw) (⟨P, F, K, false⟩ : Ev) A2 B2 e0 e1 a2 b2 L2 := HSA.out
      rw [hcx, hex] at HSX
      have hrs : stepP g m c p q = (cx, ex) := by rw [HRES.out, ← hcx, ← hex]; rw [HGO.out, ← HC1.out]
      have HSX := Lib.hid HSX
      have HRS := Lib.hid hrs
      have hme : m ≤ e1 := by
        obtain ⟨A', c', hh, hl⟩ := HSX.out.dq.row.slice
        cases hh
        have := HSX.out.dq.len
        omega
      have hxx := HSX.out.ext
      have hvl := HSX.out.vl
      have v0 : ((((((w9.setCell ⟨V, 0, none⟩ (.slice A2 us.length a2)).setCell ⟨V, 1, none⟩ (.int .i64 g)).setCell ⟨V, 2, none⟩ (.slice B2 dn'.length b2)).setCell ⟨V, 4, none⟩ (.bool ov)).alloc (.cells #[.slice A2 us.length a2, .int .i64 g, .slice B2 dn'.length b2] 74))).cell? ⟨V, 0, none⟩ = some (.slice A2 cx.ts.length a2) := (cell_of_row _ V 0 _ _ _ HSX.out.box).trans rfl
      have v1 : ((((((w9.setCell ⟨V, 0, none⟩ (.slice A2 us.length a2)).setCell ⟨V, 1, none⟩ (.int .i64 g)).setCell ⟨V, 2, none⟩ (.slice B2 dn'.length b2)).setCell ⟨V, 4, none⟩ (.bool ov)).alloc (.cells #[.slice A2 us.length a2, .int .i64 g, .slice B2 dn'.length b2] 74))).cell? ⟨V, 1, none⟩ = some (.int .i64 g) := (cell_of_row _ V 1 _ _ _ HSX.out.box).trans rfl
      have v2 : ((((((w9.setCell ⟨V, 0, none⟩ (.slice A2 us.length a2)).setCell ⟨V, 1, none⟩ (.int .i64 g)).setCell ⟨V, 2, none⟩ (.slice B2 dn'.length b2)).setCell ⟨V, 4, none⟩ (.bool ov)).alloc (.cells #[.slice A2 us.length a2, .int .i64 g, .slice B2 dn'.length b2] 74))).cell? ⟨V, 2, none⟩ = some (.slice B2 cx.dn.length b2) := (cell_of_row _ V 2 _ _ _ HSX.out.box).trans rfl
      have v3 : ((((((w9.setCell ⟨V, 0, none⟩ (.slice A2 us.length a2)).setCell ⟨V, 1, none⟩ (.int .i64 g)).setCell ⟨V, 2, none⟩ (.slice B2 dn'.length b2)).setCell ⟨V, 4, none⟩ (.bool ov)).alloc (.cells #[.slice A2 us.length a2, .int .i64 g, .slice B2 dn'.length b2] 74))).cell? ⟨V, 3, none⟩ = some (.slice (some ⟨e0, 0, none⟩) m e1) := (cell_of_row _ V 3 _ _ _ HSX.out.box).trans rfl
      have v4 : ((((((w9.setCell ⟨V, 0, none⟩ (.slice A2 us.length a2)).setCell ⟨V, 1, none⟩ (.int .i64 g)).setCell ⟨V, 2, none⟩ (.slice B2 dn'.length b2)).setCell ⟨V, 4, none⟩ (.bool ov)).alloc (.cells #[.slice A2 us.length a2, .int .i64 g, .slice B2 dn'.length b2] 74))).cell? ⟨V, 4, none⟩ = some (.bool cx.over) := (cell_of_row _ V 4 _ _ _ HSX.out.box).trans rfl
      have v5 : ((((((w9.setCell ⟨V, 0, none⟩ (.slice A2 us.length a2)).setCell ⟨V, 1, none⟩ (.int .i64 g)).setCell ⟨V, 2, none⟩ (.slice B2 dn'.length b2)).setCell ⟨V, 4, none⟩ (.bool ov)).alloc (.cells #[.slice A2 us.length a2, .int .i64 g, .slice B2 dn'.length b2] 74))).cell? ⟨V, 5, none⟩ = some (.int .i64 cx.st) := (cell_of_row _ V 5 _ _ _ HSX.out.box).trans rfl
      have v6 : ((((((w9.setCell ⟨V, 0, none⟩ (.slice A2 us.length a2)).setCell ⟨V, 1, none⟩ (.int .i64 g)).setCell ⟨V, 2, none⟩ (.slice B2 dn'.length b2)).setCell ⟨V, 4, none⟩ (.bool ov)).alloc (.cells #[.slice A2 us.length a2, .int .i64 g, .slice B2 dn'.length b2] 74))).cell? ⟨V, 6, none⟩ = some (.int .i64 cx.id) := (cell_of_row _ V 6 _ _ _ HSX.out.box).trans rfl
      have v7 : ((((((w9.setCell ⟨V, 0, none⟩ (.slice A2 us.length a2)).setCell ⟨V, 1, none⟩ (.int .i64 g)).setCell ⟨V, 2, none⟩ (.slice B2 dn'.length b2)).setCell ⟨V, 4, none⟩ (.bool ov)).alloc (.cells #[.slice A2 us.length a2, .int .i64 g, .slice B2 dn'.length b2] 74))).cell? ⟨V + 1, 0, none⟩ = some (.int .i64 ex.wk) := (cell_of_row _ (V + 1) 0 _ _ _ HSX.out.ebx).trans rfl
      have v8 : ((((((w9.setCell ⟨V, 0, none⟩ (.slice A2 us.length a2)).setCell ⟨V, 1, none⟩ (.int .i64 g)).setCell ⟨V, 2, none⟩ (.slice B2 dn'.length b2)).setCell ⟨V, 4, none⟩ (.bool ov)).alloc (.cells #[.slice A2 us.length a2, .int .i64 g, .slice B2 dn'.length b2] 74))).cell? ⟨V + 1, 1, none⟩ = some (.int .i64 ex.fr) := (cell_of_row _ (V + 1) 1 _ _ _ HSX.out.ebx).trans rfl
      have v9 : ((((((w9.setCell ⟨V, 0, none⟩ (.slice A2 us.length a2)).setCell ⟨V, 1, none⟩ (.int .i64 g)).setCell ⟨V, 2, none⟩ (.slice B2 dn'.length b2)).setCell ⟨V, 4, none⟩ (.bool ov)).alloc (.cells #[.slice A2 us.length a2, .int .i64 g, .slice B2 dn'.length b2] 74))).cell? ⟨V + 1, 2, none⟩ = some (.int .i64 ex.tk) := (cell_of_row _ (V + 1) 2 _ _ _ HSX.out.ebx).trans rfl
      have v10 : ((((((w9.setCell ⟨V, 0, none⟩ (.slice A2 us.length a2)).setCell ⟨V, 1, none⟩ (.int .i64 g)).setCell ⟨V, 2, none⟩ (.slice B2 dn'.length b2)).setCell ⟨V, 4, none⟩ (.bool ov)).alloc (.cells #[.slice A2 us.length a2, .int .i64 g, .slice B2 dn'.length b2] 74))).cell? ⟨V + 1, 3, none⟩ = some (.bool ex.pt) := (cell_of_row _ (V + 1) 3 _ _ _ HSX.out.ebx).trans rfl
      obtain ⟨y0, y1, y2, y3, y4, y5, y6, x0, x1, x2, x3, yf, xf⟩ := HR.out ((((((w9.setCell ⟨V, 0, none⟩ (.slice A2 us.length a2)).setCell ⟨V, 1, none⟩ (.int .i64 g)).setCell ⟨V, 2, none⟩ (.slice B2 dn'.length b2)).setCell ⟨V, 4, none⟩ (.bool ov)).alloc (.cells #[.slice A2 us.length a2, .int .i64 g, .slice B2 dn'.length b2] 74))) hxx
      have l8 := block_lt HSX.out.box
      have l9 := block_lt HSX.out.ebx
      generalize (((((w9.setCell ⟨V, 0, none⟩ (.slice A2 us.length a2)).setCell ⟨V, 1, none⟩ (.int .i64 g)).setCell ⟨V, 2, none⟩ (.slice B2 dn'.length b2)).setCell ⟨V, 4, none⟩ (.bool ov)).alloc (.cells #[.slice A2 us.length a2, .int .i64 g, .slice B2 dn'.length b2] 74)) = w9 at *
      have l6 : w.heap.size + 1 + 1 < w9.heap.size := by have := hxx.size; omega
      have l7 : w.heap.size + 1 < w9.heap.size := by omega
      have nV1 : ¬ w.heap.size + 1 = V := by omega
      have nV2 : ¬ w.heap.size + 1 + 1 = V := by omega
      have nV3 : ¬ V = w.heap.size + 1 := by omega
      have nV4 : ¬ V = w.heap.size + 1 + 1 := by omega
      have nQ1 : ¬ w.heap.size + 1 = V + 1 := by omega
      have nQ2 : ¬ w.heap.size + 1 + 1 = V + 1 := by omega
      have nQ3 : ¬ V + 1 = w.heap.size + 1 := by omega
      have nQ4 : ¬ V + 1 = w.heap.size + 1 + 1 := by omega
      clear hxx hrs hcx hex
      go_cut [8] (fun z wx => z = .int .i64 0 ∧ Boxed wx (w.heap.size + 1) (w.heap.size + 1 + 1) A2 B2 e0 a2 b2 e1 g m cx ex ∧ Grew (fun x => x = w.heap.size + 1 ∨ x = w.heap.size + 1 + 1) w9 wx)
      case first =>
        go_region
        all_goals go_wp2_with fail
        all_goals go_meet
        all_goals first
          | (with_reducible exact ⟨rfl, Boxed.one' (by omega) (by omega) y0 y1 y2 y3 y4 y5 y6 x0 x1 x2 x3⟩)
          | (with_reducible exact ⟨rfl, Boxed.two' (by omega) (by omega) y0 y1 y2 y3 y4 y5 y6 x0 x1 x2 x3⟩)
      case rest =>
      obtain ⟨rfl, hBx, hG7⟩ := hcut
      obtain ⟨j0, j1, j2, j3, j4, j5, j6, i0, i1, i2, i3⟩ := hBx
      have HG7 := Lib.hid hG7
      clear hG7 y0 y1 y2 y3 y4 y5 y6 x0 x1 x2 x3 yf xf v0 v1 v2 v3 v4 v5 v6 v7 v8 v9 v10 l6 l7 l8 l9
      go_wp2_with fail
      rw [HRS.out]
      refine bodyPost_ret (v := .tuple #[crewV A2 B2 e0 0 a2 b2 e1 g m cx, evV ex, .int .i64 0]) (by simp [results, Try.results51, go_sem, j0, j1, j2, j3, j4, j5, j6, i0, i1, i2, i3]) rfl ⟨A2, B2, e0, a2, b2, e1, hme, rfl, ?_, ?_⟩
      · have hb := HSX.out.bl
        exact ((HSX.out.crew).mono m1 (T := fun x => x < w.heap.size + 3) (fun x _ hx => by omega)).later m1 (hG := HG7.out.mono (fun x _ hx => by rcases hx with rfl | rfl <;> omega)) (fun x _ hx => by omega)
      · exact HG7.out.toExt (HX1.out.trans HSX.out.ext) (fun b hb => by rcases hb with rfl | rfl <;> omega)
end Go.Proofs.Ytggjjjfdkgfoiaa

/- The program's Run of a crew. -/
namespace Go.Proofs.Ytggjjjfdkgfoiaa
open Go.BigFrame
open Go.RowKit Go.Proofs.Ytggjjjfdkgfoiaa.Plain

/-- events -/
def kEv : Kd Ev where
  t := 78
  e := 91
  n := 4
  cells := fun x => [.int .i64 x.wk, .int .i64 x.fr, .int .i64 x.tk, .bool x.pt]
  ok := fun x => in64 x.wk ∧ in64 x.fr ∧ in64 x.tk
  d := ev0
  z := .agg #[.int .i64 0, .int .i64 0, .int .i64 0, .bool false]
  bytes := 32
  ht := Try.underlying78
  info := by kernel_rfl
  hzs := rfl
  pos := by decide
  small := by decide
  len := fun _ => rfl
  one := fun a u hu => by simp at hu; rcases hu with rfl | rfl | rfl | rfl <;> rfl
theorem Plain.CwI.evOk {g n m : Nat} {c : Cw} {done : Nat} {G : List Nat} (h : CwI g n m c done G) (hg : 1 ≤ g) (hn : 1 ≤ n) (n2 : n ≤ 900) (hm : 1 ≤ m) (m2 : m ≤ 8) (p q : Int) : kEv.ok (stepP g m c p q).2 := by
  have hc := cutN_lt m p hm
  have hf := h.few hg hn
  show in64 (stepP g m c p q).2.wk ∧ in64 (stepP g m c p q).2.fr ∧ in64 (stepP g m c p q).2.tk
  rcases h.step hg hm p q with ⟨he, _⟩ | ⟨k, F, hF, _, _, he, _, _, _, hk, _⟩ | ⟨k, F, hF, _, _, he, _, _, _, hk, _⟩
  · rw [he]; exact ⟨by unfold in64; simp only; omega, by unfold in64; simp only; omega, by unfold in64; simp only; omega⟩
  · rw [he]; exact ⟨by unfold in64; simp only; omega, by unfold in64; simp only; omega, by unfold in64; simp only; omega⟩
  · rw [he]; exact ⟨by unfold in64; simp only; omega, by unfold in64; simp only; omega, by unfold in64; simp only; omega⟩
/-- .. behind a run -/
theorem Plain.CwI.run {g n m : Nat} (hg : 1 ≤ g) (hm : 1 ≤ m) : ∀ (l : List (Int × Int)) (c : Cw), (∃ done G, CwI g n m c done G) → ∃ done G, CwI g n m (runP g m c l).1 done G
  | [], _, h => h
  | x :: l, _, ⟨_, _, h⟩ => Plain.CwI.run hg hm l _ (h.stepD hg hm x.1 x.2)
theorem GoAt.later {S T : Nat → Prop} {w W : World} {V e0 g m : Nat} {c : Cw} {ev : Ev} {A B : Option Addr} {a b e : Nat} {hs : Nat → Hd} (h : GoAt S w V e0 g m c ev A B a b e hs) (hG : Grew S w W) (hV : W.heap[V]? = w.heap[V]?) (hE : W.heap[e0]? = w.heap[e0]?) (tV : T V) (tE : T e0) (tl : ∀ x, T x → x < W.heap.size) (hT : ∀ x, x < w.heap.size → T x → S x) : GoAt T W V e0 g m c ev A B a b e hs := by
  have cV : ∀ o, W.cell? ⟨V, o, none⟩ = w.cell? ⟨V, o, none⟩ := fun o => by simp only [World.cell?, hV]
  have cE : ∀ o, W.cell? ⟨e0, o, none⟩ = w.cell? ⟨e0, o, none⟩ := fun o => by simp only [World.cell?, hE]
  have fV : ∀ o, W.frozen? ⟨V, o, none⟩ = w.frozen? ⟨V, o, none⟩ := fun o => by simp only [World.frozen?, hV]
  have fE : ∀ o, W.frozen? ⟨e0, o, none⟩ = w.frozen? ⟨e0, o, none⟩ := fun o => by simp only [World.frozen?, hE]
  exact ⟨tV, tE, tl, h.ne, (cV 0).trans h.v0, (cV 1).trans h.v1, (cV 2).trans h.v2, (cV 3).trans h.v3, (cV 4).trans h.v4, (cV 5).trans h.v5, (cV 6).trans h.v6, (cV 7).trans h.v7, (cV 8).trans h.v8, (cV 9).trans h.v9, (cV 10).trans h.v10,
    fun o => (fV o).trans (h.fV o), fun o => (fE o).trans (h.fE o), h.me, h.tsk.later hG hT, h.dns.later hG hT, h.dl, fun j hj => (cE j).trans (h.hd j hj), h.hn, fun j hj => (h.hr j hj).later hG hT, h.hc⟩

theorem Ow.grew {α : Type} {K : Kd α} {S : Nat → Prop} {B : Nat} {w W : World} {v : Value} {xs : List α} (h : Ow K B w v xs) (hG : Grew S w W) (hS : ∀ k, v.ownBlock = some k → ¬ S k) : Ow K B W v xs := by
  obtain ⟨⟨h1, h2⟩, hb⟩ := h
  refine ⟨⟨h1, ?_⟩, hb⟩
  rcases h2 with h2 | ⟨g, cap, cur, hv, hg, hh, hr⟩
  · exact .inl h2
  · have hlt : g < w.heap.size := by
      rcases Nat.lt_or_ge g w.heap.size with hlt | hge
      · exact hlt
      · rw [Array.getElem?_eq_none hge] at hh; cases hh
    exact .inr ⟨g, cap, cur, hv, hg, (hG.block g hlt (hS g (by rw [hv]; rfl))).trans hh, hr⟩
end Go.Proofs.Ytggjjjfdkgfoiaa

/- Plain words of a run of steps: which tasks are gone at, each once. No program in it. -/
namespace Go.Proofs.Ytggjjjfdkgfoiaa.Plain

/-- the tasks that are gone at, as they came -/
def takenL (l : List Ev) : List Nat := l.filterMap fun e => if e.tk < 0 then none else some e.tk.toNat
theorem takenL_app (a b : List Ev) : takenL (a ++ b) = takenL a ++ takenL b := by unfold takenL; rw [List.filterMap_append]
theorem takenL_no (e : Ev) (h : e.tk < 0) : takenL [e] = [] := by unfold takenL; simp [h]
theorem takenL_yes (e : Ev) (k : Nat) (h : e.tk = k) : takenL [e] = [k] := by unfold takenL; simp [h]
theorem CwI.stepG {g n m : Nat} {c : Cw} {done : Nat} {G : List Nat} (h : CwI g n m c done G) (hg : 1 ≤ g) (hm : 1 ≤ m) (p q : Int) : ∃ done', CwI g n m (stepP g m c p q).1 done' (G ++ takenL [(stepP g m c p q).2]) := by
  rcases h.step hg hm p q with ⟨he, _, h'⟩ | ⟨k, F, _, _, _, he, _, _, _, _, h'⟩ | ⟨k, F, _, _, _, he, _, _, _, _, _, h'⟩
  · refine ⟨done, ?_⟩
    rw [takenL_no _ (by rw [he]; simp only; omega), List.append_nil]
    exact h'
  · exact ⟨done, by rw [takenL_yes _ k (by rw [he])]; exact h'⟩
  · exact ⟨_, by rw [takenL_yes _ k (by rw [he])]; exact h'⟩
/-- the end: how many are gone at, held, and over -/
theorem CwI.counts {g n m : Nat} {c : Cw} {done : Nat} {G : List Nat} (h : CwI g n m c done G) (hg : 1 ≤ g) (hn : 1 ≤ n) : G.length + (held c.D).length = c.ts.length ∧ c.ts.length ≤ cntT n g ∧ cntT n g ≤ 2 * n ∧ (c.over = true ↔ G.length = cntT n g) := by
  have h1 := (CrI.fresh h).2.2.2
  have h2 := (CrI.inv h).few hg hn
  refine ⟨h1, h2.1, by omega, ?_⟩
  have hov := CrI.ov h
  constructor
  · intro ho
    rw [ho] at hov
    have he : held c.D = [] := of_decide_eq_true hov.symm
    have hI := CrI.inv h
    rw [he] at hI h1
    have := hI.over.2.1
    simp only [List.length_nil] at h1
    omega
  · intro hl
    rw [hov, decide_eq_true_eq]
    exact List.eq_nil_of_length_eq_zero (by omega)
end Go.Proofs.Ytggjjjfdkgfoiaa.Plain

/- Plain words of a drain: round by round, until it is over; it ends. No program in it. -/
namespace Go.Proofs.Ytggjjjfdkgfoiaa.Plain

/-- the t-th pick of a drain: worker by worker, round by round -/
def dpick (m t : Nat) : Int × Int := (((t % m : Nat) : Int), ((t % m + 1 + t / m : Nat) : Int))
/-- .. until it is over; 'f' bounds the steps -/
def drainP (g m : Nat) : Nat → Nat → Cw → Cw × List Ev
  | 0, _, c => (c, [])
  | f + 1, t, c => if c.over = true then (c, []) else
    ((drainP g m f (t + 1) (stepP g m c (dpick m t).1 (dpick m t).2).1).1, (stepP g m c (dpick m t).1 (dpick m t).2).2 :: (drainP g m f (t + 1) (stepP g m c (dpick m t).1 (dpick m t).2).1).2)
theorem cutN_mod (m t : Nat) (hm : 1 ≤ m) : cutN m ((t % m : Nat) : Int) = t % m := by
  have h := Nat.mod_lt t (by omega : m > 0)
  unfold cutN
  rw [Int.emod_eq_of_lt (by omega) (by omega)]; omega
/-- a task waits at most k workers on from p -/
def near (m : Nat) (D : List (List Nat)) (p k : Nat) : Prop := ∃ j, j ≤ k ∧ D.getD ((p + j) % m) [] ≠ []
theorem near_of {m : Nat} {D : List (List Nat)} (hm : D.length = m) (h1 : 1 ≤ m) (h : held D ≠ []) (p : Nat) (hp : p < m) : near m D p (m - 1) := by
  have : ∃ q, q < m ∧ D.getD q [] ≠ [] := by
    apply Classical.byContradiction
    intro hn
    apply h
    unfold held
    rw [List.flatten_eq_nil_iff]
    intro l hl
    obtain ⟨i, hi, rfl⟩ := List.getElem_of_mem hl
    apply Classical.byContradiction
    intro hne
    exact hn ⟨i, by omega, by rw [getDp hi]; exact hne⟩
  obtain ⟨q, hq, hne⟩ := this
  by_cases hle : p ≤ q
  · exact ⟨q - p, by omega, by rw [show p + (q - p) = q by omega, Nat.mod_eq_of_lt hq]; exact hne⟩
  · refine ⟨q + m - p, by omega, ?_⟩
    rw [show p + (q + m - p) = q + m by omega, Nat.add_mod_right, Nat.mod_eq_of_lt hq]; exact hne
theorem mod_succ (m t : Nat) (_hm : 1 ≤ m) (j : Nat) : ((t + 1) % m + j) % m = (t % m + (j + 1)) % m := by
  rw [Nat.add_mod ((t + 1) % m) j, Nat.mod_mod, ← Nat.add_mod, Nat.add_mod (t % m) (j + 1), Nat.mod_mod, ← Nat.add_mod]
  congr 1; omega
/-- it ends -/
theorem drain_ends {g n m : Nat} (hg : 1 ≤ g) (hn : 1 ≤ n) (hm : 1 ≤ m) : ∀ (N t k : Nat) (c : Cw) (done : Nat) (G : List Nat), CwI g n m c done G → (c.over = false → near m c.D (t % m) k) → k < m → (cntT n g - G.length) * m + k + 1 ≤ N + m →
    (drainP g m N t c).1.over = true ∧ (drainP g m N t c).2.length + m ≤ (cntT n g - G.length) * m + k + 1 + m ∧ ∃ done', CwI g n m (drainP g m N t c).1 done' (G ++ takenL (drainP g m N t c).2)
  | 0, t, k, c, done, G, h, hk, hkm, hN => by
    obtain ⟨c1, c2, c3, c4⟩ := h.counts hg hn
    have hU : cntT n g - G.length = 0 := by
      rcases Nat.eq_zero_or_pos (cntT n g - G.length) with h0 | h0
      · exact h0
      · have : 1 * m ≤ (cntT n g - G.length) * m := Nat.mul_le_mul_right _ h0
        omega
    have hGl : G.length = cntT n g := by omega
    refine ⟨c4.2 hGl, by simp [drainP], ⟨done, by simpa [drainP, takenL] using h⟩⟩
  | N + 1, t, k, c, done, G, h, hk, hkm, hN => by
    obtain ⟨c1, c2, c3, c4⟩ := h.counts hg hn
    unfold drainP
    by_cases ho : c.over = true
    · rw [if_pos ho]
      exact ⟨ho, by simp, ⟨done, by simpa [takenL] using h⟩⟩
    · rw [if_neg ho]
      have hof : c.over = false := by simpa using ho
      have hGl : G.length < cntT n g := by
        rcases Nat.lt_or_ge G.length (cntT n g) with h1 | h1
        · exact h1
        · exact absurd (c4.2 (by omega)) ho
      obtain ⟨p, q, hpq⟩ : ∃ p q, dpick m t = (p, q) := ⟨_, _, rfl⟩
      have hp : p = ((t % m : Nat) : Int) := by unfold dpick at hpq; cases hpq; rfl
      rw [hpq]
      simp only
      have hwk : c.D.length = m := CrI.wk h
      have hcut : cutN m p = t % m := by rw [hp]; exact cutN_mod m t hm
      have hpr : ∀ x : Nat, (stepP g m c p q).2.tk = x → takenL [(stepP g m c p q).2] = [x] := fun x hx => takenL_yes _ x hx
      obtain ⟨d1, h1⟩ := h.stepG hg hm p q
      have nextNear : ∀ c' : Cw, ∀ dd GG, CwI g n m c' dd GG → c'.over = false → near m c'.D ((t + 1) % m) (m - 1) := fun c' dd GG hc' hov =>
        near_of (CrI.wk hc') hm (by have := (CrI.over_iff hc').2 hov; exact List.length_pos_iff.1 this) _ (Nat.mod_lt _ (by omega))
      have hmul : (cntT n g - G.length) * m = (cntT n g - (G.length + 1)) * m + m := by
        rw [show cntT n g - G.length = (cntT n g - (G.length + 1)) + 1 by omega, Nat.add_mul, Nat.one_mul]
      rcases h.step hg hm p q with ⟨he, h0, h'⟩ | ⟨x, F, _, _, _, he, _, _, _, _, h'⟩ | ⟨x, F, _, _, _, he, _, _, _, _, _, h'⟩
      · -- idle
        have hD : (stepP g m c p q).1.D = c.D := by rw [he]
        obtain ⟨j, hj, hne⟩ := hk hof
        have hj0 : j ≠ 0 := by
          intro e; subst e
          rw [Nat.add_zero, Nat.mod_mod] at hne
          rw [hcut] at h0
          exact hne h0
        have hne' : near m (stepP g m c p q).1.D ((t + 1) % m) (k - 1) := by
          refine ⟨j - 1, by omega, ?_⟩
          rw [hD, mod_succ m t hm, show j - 1 + 1 = j by omega]; exact hne
        have hl : (G ++ takenL [(stepP g m c p q).2]).length = G.length := by rw [takenL_no _ (by rw [he]; simp only; omega), List.append_nil]
        have ih := drain_ends hg hn hm N (t + 1) (k - 1) _ _ _ h1 (fun _ => hne') (by omega) (by rw [hl]; omega)
        rw [hl] at ih
        refine ⟨ih.1, by simp only [List.length_cons]; omega, ?_⟩
        obtain ⟨d2, h2⟩ := ih.2.2
        refine ⟨d2, ?_⟩
        have e : takenL ((stepP g m c p q).2 :: (drainP g m N (t + 1) (stepP g m c p q).1).2) = takenL [(stepP g m c p q).2] ++ takenL (drainP g m N (t + 1) (stepP g m c p q).1).2 := by rw [← takenL_app]; rfl
        rw [e, ← List.append_assoc]; exact h2
      all_goals
        have hl : (G ++ takenL [(stepP g m c p q).2]).length = G.length + 1 := by rw [hpr x (by rw [he]), List.length_append]; rfl
        have ih := drain_ends hg hn hm N (t + 1) (m - 1) _ _ _ h1 (fun hov => nextNear _ _ _ h1 hov) (by omega) (by rw [hl]; omega)
        rw [hl] at ih
        refine ⟨ih.1, by simp only [List.length_cons]; omega, ?_⟩
        obtain ⟨d2, h2⟩ := ih.2.2
        refine ⟨d2, ?_⟩
        have e : takenL ((stepP g m c p q).2 :: (drainP g m N (t + 1) (stepP g m c p q).1).2) = takenL [(stepP g m c p q).2] ++ takenL (drainP g m N (t + 1) (stepP g m c p q).1).2 := by rw [← takenL_app]; rfl
        rw [e, ← List.append_assoc]; exact h2
end Go.Proofs.Ytggjjjfdkgfoiaa.Plain

/- Plain words of leaves: the units, as they are done, each once. No program in it. -/
namespace Go.Proofs.Ytggjjjfdkgfoiaa.Plain

/-- a task's units -/
def unitsOf (t : Tk) : List Nat := List.range' t.lo.toNat (t.hi.toNat - t.lo.toNat)
theorem mem_unitsOf (t : Tk) (u : Nat) : u ∈ unitsOf t ↔ t.lo.toNat ≤ u ∧ u < t.hi.toNat := by unfold unitsOf; rw [List.mem_range'_1]; omega
theorem unitsOf_nodup (t : Tk) : (unitsOf t).Nodup := by unfold unitsOf; exact List.nodup_range'
/-- the units of those that weren't parted, nor idle, as they came -/
def orderL (ts : List Tk) (evs : List Ev) : List Nat := evs.flatMap fun e => if e.tk < 0 ∨ e.pt = true then [] else unitsOf (T ts e.tk.toNat)
theorem orderL_app (ts : List Tk) (a b : List Ev) : orderL ts (a ++ b) = orderL ts a ++ orderL ts b := by unfold orderL; rw [List.flatMap_append]
theorem orderL_nil (ts : List Tk) : orderL ts [] = [] := rfl
/-- tasks that were there are where they were -/
def Keeps (ts us : List Tk) : Prop := ts.length ≤ us.length ∧ ∀ k, k < ts.length → (T us k).lo = (T ts k).lo ∧ (T us k).hi = (T ts k).hi
theorem Keeps.refl (ts : List Tk) : Keeps ts ts := ⟨Nat.le_refl _, fun _ _ => ⟨rfl, rfl⟩⟩
theorem Keeps.trans {a b c : List Tk} (h : Keeps a b) (k : Keeps b c) : Keeps a c := ⟨Nat.le_trans h.1 k.1, fun i hi => ⟨(k.2 i (by have := h.1; omega)).1.trans (h.2 i hi).1, (k.2 i (by have := h.1; omega)).2.trans (h.2 i hi).2⟩⟩
theorem Keeps.same {ts us : List Tk} (h : SameBut ts us) : Keeps ts us := ⟨by rw [h.1]; exact Nat.le_refl _, fun k _ => ⟨(h.2 k).1, (h.2 k).2.1⟩⟩
theorem Keeps.parted (ts : List Tk) (k : Nat) (hk : k < ts.length) : Keeps ts (partedL ts k) := ⟨by rw [partedL_len]; omega, fun j hj => by
  rw [parted_at ts k hk]
  by_cases e : j = k
  · subst e; rw [if_pos rfl]; exact ⟨rfl, rfl⟩
  · rw [if_neg e, if_pos hj]; exact ⟨rfl, rfl⟩⟩
/-- events of tasks that there are -/
def evsIn (n : Nat) (evs : List Ev) : Prop := ∀ e ∈ evs, e.tk < n
theorem orderL_keeps {ts us : List Tk} (h : Keeps ts us) : ∀ (evs : List Ev), evsIn ts.length evs → orderL us evs = orderL ts evs
  | [], _ => rfl
  | e :: l, hi => by
    have ih := orderL_keeps h l (fun x hx => hi x (by simp [hx]))
    have e1 : ∀ vs, orderL vs (e :: l) = orderL vs [e] ++ orderL vs l := fun vs => by rw [← orderL_app]; rfl
    rw [e1, e1, ih]
    congr 1
    unfold orderL
    simp only [List.flatMap_cons, List.flatMap_nil, List.append_nil]
    by_cases hc : e.tk < 0 ∨ e.pt = true
    · rw [if_pos hc, if_pos hc]
    · rw [if_neg hc, if_neg hc]
      have hlt : e.tk < ts.length := hi e (by simp)
      obtain ⟨h1, h2⟩ := h.2 e.tk.toNat (by omega)
      unfold unitsOf; rw [h1, h2]
/-- what is done, as it came -/
def LI (n : Nat) (c : Cw) (L : List Nat) : Prop := L.Nodup ∧ ∀ u, u ∈ L ↔ u < n ∧ c.dn.getD u false = true
theorem LI.begin (n m : Nat) : LI n (beginC n m) [] := ⟨List.nodup_nil, fun u => by
  unfold beginC
  simp only [List.not_mem_nil, false_iff]
  rintro ⟨_, h⟩
  rw [List.getD_eq_getElem?_getD, List.getElem?_replicate] at h
  split at h <;> simp at h⟩
theorem stepP_keeps {g n m : Nat} {c : Cw} {done : Nat} {G : List Nat} (h : CwI g n m c done G) (hg : 1 ≤ g) (hm : 1 ≤ m) (p q : Int) : Keeps c.ts (stepP g m c p q).1.ts ∧ (stepP g m c p q).2.tk < c.ts.length := by
  rcases h.step hg hm p q with ⟨he, _⟩ | ⟨k, F, _, _, _, he, ht, _, _, hk, _⟩ | ⟨k, F, _, _, _, he, hs, _, _, hk, _⟩
  · rw [he]; exact ⟨Keeps.refl _, by simp only; omega⟩
  · rw [ht, he]; exact ⟨Keeps.parted _ _ hk, by simp only; omega⟩
  · rw [he]; exact ⟨Keeps.same hs, by simp only; omega⟩
theorem LI.step {g n m : Nat} {c : Cw} {done : Nat} {G L : List Nat} (hL : LI n c L) (h : CwI g n m c done G) (_hg : 1 ≤ g) (hm : 1 ≤ m) (p q : Int) : LI n (stepP g m c p q).1 (L ++ orderL c.ts [(stepP g m c p q).2]) := by
  have hwk : c.D.length = m := CrI.wk h
  unfold stepP
  cases hs : srcN c.D (cutN m p) (cutN m q) with
  | none =>
    simp only
    have e : orderL c.ts [(⟨cutN m p, -1, -1, false⟩ : Ev)] = [] := by unfold orderL; simp
    rw [e, List.append_nil]
    exact hL
  | some F =>
    obtain ⟨hne, hor⟩ := srcN_some hs
    have hF : F < m := by rcases hor with rfl | ⟨rfl, _⟩ <;> exact cutN_lt m _ hm
    have hE := take_held (P := cutN m p) (by omega : F < c.D.length) hne
    have hmem : (takeN c.D (cutN m p) F).1 ∈ held c.D := hE.mem_iff.2 (by simp)
    have hI := CrI.inv h
    have hlt := hI.lt _ hmem
    simp only
    unfold goP
    obtain ⟨k, hk⟩ : ∃ k, (takeN c.D (cutN m p) F).1 = k := ⟨_, rfl⟩
    rw [hk] at hmem hlt ⊢
    simp only
    by_cases hz : g < sz c.ts k
    · rw [if_pos hz]
      have e : orderL c.ts [(⟨cutN m p, F, k, true⟩ : Ev)] = [] := by unfold orderL; simp
      simp only
      rw [e, List.append_nil]
      exact hL
    · rw [if_neg hz]
      have htk := hI.task k hlt
      have e : orderL c.ts [(⟨cutN m p, F, k, false⟩ : Ev)] = unitsOf (T c.ts k) := by
        unfold orderL
        simp only [List.flatMap_cons, List.flatMap_nil, List.append_nil]
        rw [if_neg (by simp), Int.toNat_natCast]
      simp only
      rw [e]
      have hlo : (T c.ts k).lo.toNat ≤ (T c.ts k).hi.toNat := by omega
      have hhi : (T c.ts k).hi.toNat ≤ c.dn.length := by rw [hI.dl]; omega
      have hcov : ∀ u, (T c.ts k).lo.toNat ≤ u → u < (T c.ts k).hi.toNat → c.dn.getD u false = false := fun u h1 h2 => (hI.cov u (by omega)).2 ⟨k, hmem, by omega, by omega⟩
      refine ⟨?_, fun u => ?_⟩
      · rw [List.nodup_append]
        refine ⟨hL.1, unitsOf_nodup _, fun a ha b hb hab => ?_⟩
        subst hab
        rw [mem_unitsOf] at hb
        have h1 := ((hL.2 a).1 ha).2
        rw [hcov a hb.1 hb.2] at h1
        cases h1
      · rw [List.mem_append, mem_unitsOf, hL.2 u]
        show _ ↔ u < n ∧ (marked c.dn (T c.ts k).lo.toNat (T c.ts k).hi.toNat).getD u false = true
        rw [marked_getD _ _ _ hlo hhi]
        have hdl := hI.dl
        by_cases hu : (T c.ts k).lo.toNat ≤ u ∧ u < (T c.ts k).hi.toNat
        · rw [if_pos hu]
          exact ⟨fun _ => ⟨by omega, rfl⟩, fun _ => .inr hu⟩
        · rw [if_neg hu]
          exact ⟨fun hh => by rcases hh with hh | hh; exact hh; exact absurd hh hu, fun hh => .inl hh⟩
/-- over: each unit once -/
theorem LI.over {g n m : Nat} {c : Cw} {done : Nat} {G L : List Nat} (hL : LI n c L) (h : CwI g n m c done G) (ho : c.over = true) : L.Perm (List.range n) := by
  have hov := CrI.ov h
  rw [ho] at hov
  have he : held c.D = [] := of_decide_eq_true hov.symm
  have hI := CrI.inv h
  rw [he] at hI
  have hall := hI.over.2.2.1
  refine (List.perm_ext_iff_of_nodup hL.1 List.nodup_range).2 fun u => ?_
  rw [hL.2 u, List.mem_range]
  exact ⟨fun hh => hh.1, fun hu => ⟨hu, hall u hu⟩⟩
end Go.Proofs.Ytggjjjfdkgfoiaa.Plain

/- Plain words of work from its beginning to its end. No program in it. -/
namespace Go.Proofs.Ytggjjjfdkgfoiaa.Plain

/-- step by step, until it is over -/
def untilP (g m : Nat) : Cw → List (Int × Int) → Cw × List Ev
  | c, [] => (c, [])
  | c, x :: l => if c.over = true then (c, []) else ((untilP g m (stepP g m c x.1 x.2).1 l).1, (stepP g m c x.1 x.2).2 :: (untilP g m (stepP g m c x.1 x.2).1 l).2)
/-- the whole: picks, then round by round -/
def wholeP (g n m : Nat) (picks : List (Int × Int)) : Cw × List Ev :=
  ((drainP g m (m * cntT n g) 0 (untilP g m (beginC n m) picks).1).1, (untilP g m (beginC n m) picks).2 ++ (drainP g m (m * cntT n g) 0 (untilP g m (beginC n m) picks).1).2)

/-- what stands, of a crew behind some events -/
structure Been (g n m : Nat) (c : Cw) (evs : List Ev) : Prop where
  inv : ∃ done, CwI g n m c done (takenL evs)
  li : LI n c (orderL c.ts evs)
  ins : evsIn c.ts.length evs
  st : c.st = evs.length
  id : c.id ≤ evs.length
theorem Been.begin (g n m : Nat) (hn : 1 ≤ n) (hm : 1 ≤ m) : Been g n m (beginC n m) [] :=
  ⟨⟨0, CwI.begin g n m hn hm⟩, LI.begin n m, (fun e he => by cases he), rfl, Nat.le_refl _⟩
theorem Been.step {g n m : Nat} {c : Cw} {evs : List Ev} (h : Been g n m c evs) (hg : 1 ≤ g) (hm : 1 ≤ m) (p q : Int) : Been g n m (stepP g m c p q).1 (evs ++ [(stepP g m c p q).2]) := by
  obtain ⟨⟨done, hI⟩, hL, hi, hs, hd⟩ := h
  obtain ⟨hk, ht⟩ := stepP_keeps hI hg hm p q
  obtain ⟨d1, h1⟩ := hI.stepG hg hm p q
  obtain ⟨s1, s2, s3⟩ := stepP_st g m c p q
  refine ⟨⟨d1, by rw [takenL_app]; exact h1⟩, ?_, fun e he => ?_, by rw [s1, hs, List.length_append]; rfl, by rw [List.length_append]; simp only [List.length_singleton]; omega⟩
  · rw [orderL_app, orderL_keeps hk evs hi, orderL_keeps hk [(stepP g m c p q).2] (fun e he => by rw [List.mem_singleton] at he; rw [he]; exact ht)]
    exact hL.step hI hg hm p q
  · rcases List.mem_append.1 he with h' | h'
    · have := hi e h'; have := hk.1; omega
    · rw [List.mem_singleton] at h'; rw [h']; have := hk.1; omega
theorem Been.until {g n m : Nat} (hg : 1 ≤ g) (hm : 1 ≤ m) : ∀ (l : List (Int × Int)) (c : Cw) (evs : List Ev), Been g n m c evs → Been g n m (untilP g m c l).1 (evs ++ (untilP g m c l).2) ∧ (untilP g m c l).2.length ≤ l.length
  | [], c, evs, h => ⟨by simpa [untilP] using h, Nat.le_refl _⟩
  | x :: l, c, evs, h => by
    unfold untilP
    by_cases ho : c.over = true
    · rw [if_pos ho]; exact ⟨by simpa using h, by simp⟩
    · rw [if_neg ho]
      obtain ⟨h1, h2⟩ := Been.until hg hm l _ _ (h.step hg hm x.1 x.2)
      refine ⟨?_, by simp only [List.length_cons]; omega⟩
      rw [List.append_assoc] at h1
      exact h1
theorem Been.drain {g n m : Nat} (hg : 1 ≤ g) (hm : 1 ≤ m) : ∀ (N t : Nat) (c : Cw) (evs : List Ev), Been g n m c evs → Been g n m (drainP g m N t c).1 (evs ++ (drainP g m N t c).2)
  | 0, t, c, evs, h => by simpa [drainP] using h
  | N + 1, t, c, evs, h => by
    unfold drainP
    by_cases ho : c.over = true
    · rw [if_pos ho]; simpa using h
    · rw [if_neg ho]
      have h1 := Been.drain hg hm N (t + 1) _ _ (h.step hg hm (dpick m t).1 (dpick m t).2)
      rw [List.append_assoc] at h1
      exact h1
/-- the whole ends, each unit once, in so many steps at most -/
theorem whole_ends {g n m : Nat} (hg : 1 ≤ g) (hn : 1 ≤ n) (hm : 1 ≤ m) (picks : List (Int × Int)) :
    (wholeP g n m picks).1.over = true ∧ Been g n m (wholeP g n m picks).1 (wholeP g n m picks).2 ∧ (wholeP g n m picks).2.length ≤ picks.length + m * (cntT n g + 1) ∧ (orderL (wholeP g n m picks).1.ts (wholeP g n m picks).2).Perm (List.range n) := by
  obtain ⟨h1, h2⟩ := Been.until hg hm picks (beginC n m) [] (Been.begin g n m hn hm)
  rw [List.nil_append] at h1
  obtain ⟨d1, hI⟩ := h1.inv
  have hle : (cntT n g - (takenL (untilP g m (beginC n m) picks).2).length) * m + (m - 1) + 1 ≤ m * cntT n g + m := by
    have : (cntT n g - (takenL (untilP g m (beginC n m) picks).2).length) * m ≤ cntT n g * m := Nat.mul_le_mul_right _ (Nat.sub_le _ _)
    rw [Nat.mul_comm m]; omega
  have hnear : (untilP g m (beginC n m) picks).1.over = false → near m (untilP g m (beginC n m) picks).1.D (0 % m) (m - 1) := fun ho =>
    near_of (CrI.wk hI) hm (List.length_pos_iff.1 ((CrI.over_iff hI).2 ho)) _ (Nat.mod_lt _ (by omega))
  obtain ⟨e1, e2, _⟩ := drain_ends hg hn hm (m * cntT n g) 0 (m - 1) _ _ _ hI hnear (by omega) hle
  have h3 := Been.drain hg hm (m * cntT n g) 0 _ _ h1
  refine ⟨e1, h3, ?_, ?_⟩
  · show ((untilP g m (beginC n m) picks).2 ++ (drainP g m (m * cntT n g) 0 (untilP g m (beginC n m) picks).1).2).length ≤ _
    rw [List.length_append, Nat.mul_add, Nat.mul_one]
    omega
  · obtain ⟨_, h4⟩ := h3.inv
    exact h3.li.over h4 e1
end Go.Proofs.Ytggjjjfdkgfoiaa.Plain

/- The document's Drain of a crew (ref06). -/
namespace Go.Proofs.Ytggjjjfdkgfoiaa
open Go.BigFrame
open Go.RowKit Go.Proofs.Ytggjjjfdkgfoiaa.Plain

def R6P (w0 : World) (row : Option Nat) (cv ve vo : Value) (B : Nat) (evs : List Ev) (ev : Ev) : Nat → World → List Value → Value → Prop
  | 0, w, ds, v => v = cv
  | 1, w, ds, v => v = vo
  | 2, w, ds, v => v = ve
  | 3, w, ds, v => OneAt kEv w0.heap.size w v ev
  | 4, w, ds, v => AppAt kEv B w v (evs ++ [ev]) vo w0.heap.size
  | _, _, _, _ => True
theorem R6P_ext (w0 : World) (row : Option Nat) (cv ve vo : Value) (B : Nat) (evs : List Ev) (ev : Ev) : ∀ i w w' ds v, R6P w0 row cv ve vo B evs ev i w ds v → Ext w w' → R6P w0 row cv ve vo B evs ev i w' ds v
  | 0, _, _, _, _, h, _ => h
  | 1, _, _, _, _, h, _ => h
  | 2, _, _, _, _, h, _ => h
  | 3, _, _, _, _, h, hE => OneAt.ext h hE
  | 4, _, _, _, _, h, hE => h.ext hE
  | _ + 5, _, _, _, _, _, _ => trivial
theorem R6P_sw (w0 : World) (row : Option Nat) (cv ve vo : Value) (B : Nat) (evs : List Ev) (ev : Ev) (hrow : ∀ b, row = some b → b < w0.heap.size) : ∀ i w w' ds v, i ≠ 4 → R6P w0 row cv ve vo B evs ev i w ds v → Wr row w w' → R6P w0 row cv ve vo B evs ev i w' ds v
  | 0, _, _, _, _, _, h, _ => h
  | 1, _, _, _, _, _, h, _ => h
  | 2, _, _, _, _, _, h, _ => h
  | 3, _, _, _, _, _, h, hE => OneAt.sw h hE hrow
  | 4, _, _, _, _, hq, _, _ => absurd rfl hq
  | _ + 5, _, _, _, _, _, _, _ => trivial
section
variable (w0 : World) (row : Option Nat) (cv ve vo : Value) (B : Nat) (evs : List Ev) (ev : Ev) (w : World) (ds : List Value) (v : Value)
theorem R6P_i0 (h : v = cv) : R6P w0 row cv ve vo B evs ev 0 w ds v := h
theorem R6P_e0 (h : R6P w0 row cv ve vo B evs ev 0 w ds v) : v = cv := h
theorem R6P_i1 (h : v = vo) : R6P w0 row cv ve vo B evs ev 1 w ds v := h
theorem R6P_e1 (h : R6P w0 row cv ve vo B evs ev 1 w ds v) : v = vo := h
theorem R6P_i2 (h : v = ve) : R6P w0 row cv ve vo B evs ev 2 w ds v := h
theorem R6P_e2 (h : R6P w0 row cv ve vo B evs ev 2 w ds v) : v = ve := h
theorem R6P_i3 (h : OneAt kEv w0.heap.size w v ev) : R6P w0 row cv ve vo B evs ev 3 w ds v := h
theorem R6P_e3 (h : R6P w0 row cv ve vo B evs ev 3 w ds v) : OneAt kEv w0.heap.size w v ev := h
theorem R6P_i4 (h : AppAt kEv B w v (evs ++ [ev]) vo w0.heap.size) : R6P w0 row cv ve vo B evs ev 4 w ds v := h
theorem R6P_e4 (h : R6P w0 row cv ve vo B evs ev 4 w ds v) : AppAt kEv B w v (evs ++ [ev]) vo w0.heap.size := h
end

/-- what stands, t steps on -/
structure D6At (S : Nat → Prop) (w0 : World) (g n m : Nat) (c0 : Cw) (N t : Nat) (v : Value) (wr : World) (c : Cw) (evs : List Ev) (A B : Option Addr) (e0 eo a b e : Nat) : Prop where
  me : m ≤ e
  box : wr.heap[w0.heap.size]? = some (.cells #[.slice A c.ts.length a, .int .i64 g, .slice B c.dn.length b, .slice (some ⟨e0, eo, none⟩) m e, .bool c.over, .int .i64 c.st, .int .i64 c.id] 77)
  cr : CrewO (fun x => S x ∨ x = w0.heap.size ∨ x = w0.heap.size + 1 ∨ v.ownBlock = some x) wr m c A B e0 eo a b
  own : Ow kEv (w0.heap.size + 2) wr v evs
  tn : t ≤ N
  inv : ∃ done G, CwI g n m c done G
  st : c.st = c0.st + t
  id : c.id ≤ c0.id + t
  eq : drainP g m N 0 c0 = ((drainP g m (N - t) t c).1, evs ++ (drainP g m (N - t) t c).2)
  len : evs.length = t
  res : wr.heap[w0.heap.size + 1]? = some (.cells #[.slice none 0 0, .int .i64 0, .slice none 0 0, .slice none 0 0, .bool false, .int .i64 0, .int .i64 0] 77)
  ext : Ext w0 wr
theorem Plain.drainP_over (g m f t : Nat) (c : Cw) (h : c.over = true) : drainP g m f t c = (c, []) := by
  cases f with
  | zero => rfl
  | succ f => unfold drainP; rw [if_pos h]
theorem Plain.drainP_next (g m f t : Nat) (c : Cw) (h : c.over = false) : drainP g m (f + 1) t c = ((drainP g m f (t + 1) (stepP g m c (dpick m t).1 (dpick m t).2).1).1, (stepP g m c (dpick m t).1 (dpick m t).2).2 :: (drainP g m f (t + 1) (stepP g m c (dpick m t).1 (dpick m t).2).1).2) := by
  conv => lhs; unfold drainP
  rw [if_neg (by rw [h]; decide)]
theorem dpick_at (m k j : Nat) (hj : j < m) : dpick m (k * m + j) = ((j : Int), (j : Int) + 1 + k) := by
  unfold dpick
  rw [Nat.add_comm, Nat.add_mul_mod_self_right, Nat.mod_eq_of_lt hj, Nat.add_mul_div_right _ _ (by omega), Nat.div_eq_of_lt hj]
  simp
theorem set_box7 {w : World} {P : Nat} {T : TypeId} {v0 v1 v2 v3 v4 v5 v6 : Value} {fr : Nat × Nat} (h : w.heap[P]? = some (.cells #[v0, v1, v2, v3, v4, v5, v6] T fr)) (u0 u1 u2 u3 u4 u5 u6 : Value) :
    (((((((w.setCell ⟨P, 0, none⟩ u0).setCell ⟨P, 1, none⟩ u1).setCell ⟨P, 2, none⟩ u2).setCell ⟨P, 3, none⟩ u3).setCell ⟨P, 4, none⟩ u4).setCell ⟨P, 5, none⟩ u5).setCell ⟨P, 6, none⟩ u6).heap[P]? = some (.cells #[u0, u1, u2, u3, u4, u5, u6] T fr) := by
  have h0 : (w.setCell ⟨P, 0, none⟩ u0).heap[P]? = some (.cells #[u0, v1, v2, v3, v4, v5, v6] T fr) := by have := set_block (i := 0) h u0; simpa using this
  have h1 : ((w.setCell ⟨P, 0, none⟩ u0).setCell ⟨P, 1, none⟩ u1).heap[P]? = some (.cells #[u0, u1, v2, v3, v4, v5, v6] T fr) := by have := set_block (i := 1) h0 u1; simpa using this
  have h2 : (((w.setCell ⟨P, 0, none⟩ u0).setCell ⟨P, 1, none⟩ u1).setCell ⟨P, 2, none⟩ u2).heap[P]? = some (.cells #[u0, u1, u2, v3, v4, v5, v6] T fr) := by have := set_block (i := 2) h1 u2; simpa using this
  have h3 : ((((w.setCell ⟨P, 0, none⟩ u0).setCell ⟨P, 1, none⟩ u1).setCell ⟨P, 2, none⟩ u2).setCell ⟨P, 3, none⟩ u3).heap[P]? = some (.cells #[u0, u1, u2, u3, v4, v5, v6] T fr) := by have := set_block (i := 3) h2 u3; simpa using this
  have h4 : (((((w.setCell ⟨P, 0, none⟩ u0).setCell ⟨P, 1, none⟩ u1).setCell ⟨P, 2, none⟩ u2).setCell ⟨P, 3, none⟩ u3).setCell ⟨P, 4, none⟩ u4).heap[P]? = some (.cells #[u0, u1, u2, u3, u4, v5, v6] T fr) := by have := set_block (i := 4) h3 u4; simpa using this
  have h5 : ((((((w.setCell ⟨P, 0, none⟩ u0).setCell ⟨P, 1, none⟩ u1).setCell ⟨P, 2, none⟩ u2).setCell ⟨P, 3, none⟩ u3).setCell ⟨P, 4, none⟩ u4).setCell ⟨P, 5, none⟩ u5).heap[P]? = some (.cells #[u0, u1, u2, u3, u4, u5, v6] T fr) := by have := set_block (i := 5) h4 u5; simpa using this
  have h6 : (((((((w.setCell ⟨P, 0, none⟩ u0).setCell ⟨P, 1, none⟩ u1).setCell ⟨P, 2, none⟩ u2).setCell ⟨P, 3, none⟩ u3).setCell ⟨P, 4, none⟩ u4).setCell ⟨P, 5, none⟩ u5).setCell ⟨P, 6, none⟩ u6).heap[P]? = some (.cells #[u0, u1, u2, u3, u4, u5, u6] T fr) := by have := set_block (i := 6) h5 u6; simpa using this
  exact h6
/-- what Drain leaves -/
def R6Said (S : Nat → Prop) (g m : Nat) (r : Cw × List Ev) (w : World) (ed : Ending) (w' : World) : Prop :=
  ∃ (A B L : Option Addr) (e0 eo a b e l : Nat), m ≤ e ∧ ed = .returned (.tuple #[crewV A B e0 eo a b e g m r.1, .slice L r.2.length l, .int .i64 0]) ∧ CrewO S w' m r.1 A B e0 eo a b ∧ Ow kEv w.heap.size w' (.slice L r.2.length l) r.2 ∧ Ext w w'

set_option maxHeartbeats 1000000 in
set_option maxRecDepth 100000 in
theorem rdrain_any (S : Nat → Prop) (A B : Option Addr) (eb eo a b e g n m N : Nat) (c : Cw) (w : World) (hS : ∀ x, S x → x < w.heap.size) (h : CrewO S w m c A B eb eo a b) (me : m ≤ e) (hI : ∃ done G, CwI g n m c done G)
    (n1 : 1 ≤ n) (n2 : n ≤ 900) (g1 : 1 ≤ g) (g2 : g ≤ 100) (m1 : 1 ≤ m) (m2 : m ≤ 8) (hst : c.st + N ≤ 100000) (hid : c.id + N ≤ 100000) (hN : N ≤ 50000) (ho : (drainP g m N 0 c).1.over = true) :
    Calls Try.prog 52 #[crewV A B eb eo a b e g m c] w (R6Said S g m (drainP g m N 0 c) w) := by
  obtain ⟨done, G, hI⟩ := hI
  have H := Lib.hid h
  have HI := Lib.hid hI
  have HO := Lib.hid ho
  have HS := Lib.hid hS
  obtain ⟨hs0, hds⟩ := h.deq
  have HDS := Lib.hid ((h.at_ m1).deq)
  have HHL : Hid ((held c.D).length ≤ 4000) := Lib.hid (by
    have h1 := (CrI.fresh hI).2.2.2
    have h2 := hI.few g1 n1
    omega)
  clear h hI ho hds hS
  go_enter Try.func52, Try.ntmps52
  go_upto_region 1 with fail
  have hE1 : Ext w ((w.alloc (.cells #[.slice A c.ts.length a, .int .i64 g, .slice B c.dn.length b, .slice (some ⟨eb, eo, none⟩) m e, .bool c.over, .int .i64 c.st, .int .i64 c.id] 77)).alloc (.cells #[.slice none 0 0, .int .i64 0, .slice none 0 0, .slice none 0 0, .bool false, .int .i64 0, .int .i64 0] 77)) := ((Ext.refl w).alloc _).alloc _
  have HX1 := Lib.hid hE1
  have hbx : (((w.alloc (.cells #[.slice A c.ts.length a, .int .i64 g, .slice B c.dn.length b, .slice (some ⟨eb, eo, none⟩) m e, .bool c.over, .int .i64 c.st, .int .i64 c.id] 77)).alloc (.cells #[.slice none 0 0, .int .i64 0, .slice none 0 0, .slice none 0 0, .bool false, .int .i64 0, .int .i64 0] 77))).heap[w.heap.size]? = some (.cells #[.slice A c.ts.length a, .int .i64 g, .slice B c.dn.length b, .slice (some ⟨eb, eo, none⟩) m e, .bool c.over, .int .i64 c.st, .int .i64 c.id] 77) := block_keep (heap_alloc_new w _) ((Ext.refl _).alloc _)
  have hrs : (((w.alloc (.cells #[.slice A c.ts.length a, .int .i64 g, .slice B c.dn.length b, .slice (some ⟨eb, eo, none⟩) m e, .bool c.over, .int .i64 c.st, .int .i64 c.id] 77)).alloc (.cells #[.slice none 0 0, .int .i64 0, .slice none 0 0, .slice none 0 0, .bool false, .int .i64 0, .int .i64 0] 77))).heap[w.heap.size + 1]? = some (.cells #[.slice none 0 0, .int .i64 0, .slice none 0 0, .slice none 0 0, .bool false, .int .i64 0, .int .i64 0] 77) := heap_alloc2_new w _ _
  have HBX := Lib.hid (And.intro hbx hrs)
  generalize ((w.alloc (.cells #[.slice A c.ts.length a, .int .i64 g, .slice B c.dn.length b, .slice (some ⟨eb, eo, none⟩) m e, .bool c.over, .int .i64 c.st, .int .i64 c.id] 77)).alloc (.cells #[.slice none 0 0, .int .i64 0, .slice none 0 0, .slice none 0 0, .bool false, .int .i64 0, .int .i64 0] 77)) = w1 at *
  clear hbx hrs
  go_cut [23] (fun z wx => z = .bool false ∧ Ext w1 wx)
  case first =>
    have k0 : w1.cell? ⟨w.heap.size, 0, none⟩ = some (.slice A c.ts.length a) := (cell_of_row w1 (w.heap.size) 0 _ _ _ HBX.out.1).trans rfl
    have k1 : w1.cell? ⟨w.heap.size, 1, none⟩ = some (.int .i64 g) := (cell_of_row w1 (w.heap.size) 1 _ _ _ HBX.out.1).trans rfl
    have k2 : w1.cell? ⟨w.heap.size, 2, none⟩ = some (.slice B c.dn.length b) := (cell_of_row w1 (w.heap.size) 2 _ _ _ HBX.out.1).trans rfl
    have k3 : w1.cell? ⟨w.heap.size, 3, none⟩ = some (.slice (some ⟨eb, eo, none⟩) m e) := (cell_of_row w1 (w.heap.size) 3 _ _ _ HBX.out.1).trans rfl
    have k4 : w1.cell? ⟨w.heap.size, 4, none⟩ = some (.bool c.over) := (cell_of_row w1 (w.heap.size) 4 _ _ _ HBX.out.1).trans rfl
    have k5 : w1.cell? ⟨w.heap.size, 5, none⟩ = some (.int .i64 c.st) := (cell_of_row w1 (w.heap.size) 5 _ _ _ HBX.out.1).trans rfl
    have k6 : w1.cell? ⟨w.heap.size, 6, none⟩ = some (.int .i64 c.id) := (cell_of_row w1 (w.heap.size) 6 _ _ _ HBX.out.1).trans rfl
    have kf := fun o => frozen_of_row w1 (w.heap.size) o _ _ HBX.out.1
    go_wp2_with fail
    refine (rright5_yes A B eb eo a b e g n m c _ _ _ (((H.out).at_ m1).ext HX1.out) HI.out n1 n2 g1 g2 m1 m2 (by omega) (by omega)).mono ?_
    rintro ed w2 ⟨rfl, hE2⟩
    have HE2 := Lib.hid hE2
    have hb2 := block_keep HBX.out.1 hE2
    have q0 : w2.cell? ⟨w.heap.size, 0, none⟩ = some (.slice A c.ts.length a) := (cell_of_row w2 (w.heap.size) 0 _ _ _ hb2).trans rfl
    have q1 : w2.cell? ⟨w.heap.size, 1, none⟩ = some (.int .i64 g) := (cell_of_row w2 (w.heap.size) 1 _ _ _ hb2).trans rfl
    have q2 : w2.cell? ⟨w.heap.size, 2, none⟩ = some (.slice B c.dn.length b) := (cell_of_row w2 (w.heap.size) 2 _ _ _ hb2).trans rfl
    have q3 : w2.cell? ⟨w.heap.size, 3, none⟩ = some (.slice (some ⟨eb, eo, none⟩) m e) := (cell_of_row w2 (w.heap.size) 3 _ _ _ hb2).trans rfl
    have q4 : w2.cell? ⟨w.heap.size, 4, none⟩ = some (.bool c.over) := (cell_of_row w2 (w.heap.size) 4 _ _ _ hb2).trans rfl
    have q5 : w2.cell? ⟨w.heap.size, 5, none⟩ = some (.int .i64 c.st) := (cell_of_row w2 (w.heap.size) 5 _ _ _ hb2).trans rfl
    have q6 : w2.cell? ⟨w.heap.size, 6, none⟩ = some (.int .i64 c.id) := (cell_of_row w2 (w.heap.size) 6 _ _ _ hb2).trans rfl
    have qf := fun o => frozen_of_row w2 (w.heap.size) o _ _ hb2
    clear k0 k1 k2 k3 k4 k5 k6 kf hb2 hE2
    cases hov : c.over with
    | true =>
      rw [hov] at q4
      go_wp2_with fail
      go_meet
      exact ⟨rfl, HE2.out⟩
    | false =>
      have hpos := (CrI.over_iff HI.out).2 hov
      rw [hov] at q4
      obtain ⟨N0, hN0⟩ : ∃ N0, (held c.D).length = N0 := ⟨_, rfl⟩
      have HN0 := Lib.hid hN0
      rw [hN0] at hpos
      have hz : ((N0 : Int) == 0) = false := by simp; omega
      clear hN0
      go_wp2_with fail
      have hh := rheld_any A B eb eo a b e g m c _ w2 (HDS.out.choose_spec.ext (HX1.out.trans HE2.out)) m2 (by have := HHL.out; omega)
      unfold crewV at hh
      rw [hov] at hh
      refine hh.mono ?_
      clear hh
      rintro ed w3 ⟨rfl, hE3⟩
      rw [HN0.out]
      have HE3 := Lib.hid hE3
      clear hE3
      go_wp2_with fail
      go_meet
      exact ⟨rfl, HE2.out.trans HE3.out⟩
  case rest =>
  obtain ⟨rfl, hE2⟩ := hcut
  generalize wc = w3 at *
  have HD0 : Hid (D6At S w g n m c N 0 (.slice none 0 0) w3 c [] A B eb eo a b e) := Lib.hid ⟨me, block_keep HBX.out.1 hE2, H.out.later m1 (Grew.of (HX1.out.trans hE2)) (fun x hx hT => by
      rcases hT with hT | hT | hT | hT
      · exact hT
      · omega
      · omega
      · cases hT), Ow.nil _ _, Nat.zero_le _, ⟨_, _, HI.out⟩, rfl, Nat.le_refl _, by simp, rfl, block_keep HBX.out.2 hE2, HX1.out.trans hE2⟩
  clear hE2 HBX hE1
  have m3 : (m : Int) ≤ 8 := by omega
  go_wp2_with fail
  go_loopw [5, 6] (fun v r wr => ∃ k : Nat, k * m ≤ N ∧ r = .int .i64 k ∧ ∃ (c1 : Cw) (evs : List Ev) (A1 B1 : Option Addr) (e0 o1 a1 b1 e1 : Nat), D6At S w g n m c N (k * m) v wr c1 evs A1 B1 e0 o1 a1 b1 e1) (fun _ r _ => N - (intOf r).toNat)
  case atStart => exact ⟨0, by omega, rfl, _, _, _, _, _, _, _, _, _, by rw [Nat.zero_mul]; exact HD0.out⟩
  case round =>
    obtain ⟨k, hk, rfl, c0, evs0, A0, B0, e00, o0, a0, b0, e01, hD⟩ := hrel
    have HD := Lib.hid hD
    have hkN : (k : Int) ≤ 50000 := by
      have := Nat.le_mul_of_pos_right k m1
      omega
    have hk0 : (0 : Int) ≤ k := by omega
    clear hD
    go_wp2_with fail
    go_loopw [5, 7] (fun v p wr => ∃ j : Nat, j ≤ m ∧ p = .int .i64 j ∧ ∃ (c1 : Cw) (evs : List Ev) (A1 B1 : Option Addr) (e0 o1 a1 b1 e1 : Nat), D6At S w g n m c N (k * m + j) v wr c1 evs A1 B1 e0 o1 a1 b1 e1) (fun _ p _ => m - (intOf p).toNat)
    case atStart => exact ⟨0, by omega, rfl, _, _, _, _, _, _, _, _, _, HD.out⟩
    case round =>
      obtain ⟨j, hj, rfl, c1, evs, A1, B1, e0, o1, a1, b1, e1, hD⟩ := hrel
      have HD1 := Lib.hid hD
      have hj0 : (0 : Int) ≤ j := by omega
      have k0 : wr.cell? ⟨w.heap.size, 0, none⟩ = some (.slice A1 c1.ts.length a1) := (cell_of_row wr (w.heap.size) 0 _ _ _ hD.box).trans rfl
      have k1 : wr.cell? ⟨w.heap.size, 1, none⟩ = some (.int .i64 g) := (cell_of_row wr (w.heap.size) 1 _ _ _ hD.box).trans rfl
      have k2 : wr.cell? ⟨w.heap.size, 2, none⟩ = some (.slice B1 c1.dn.length b1) := (cell_of_row wr (w.heap.size) 2 _ _ _ hD.box).trans rfl
      have k3 : wr.cell? ⟨w.heap.size, 3, none⟩ = some (.slice (some ⟨e0, o1, none⟩) m e1) := (cell_of_row wr (w.heap.size) 3 _ _ _ hD.box).trans rfl
      have k4 : wr.cell? ⟨w.heap.size, 4, none⟩ = some (.bool c1.over) := (cell_of_row wr (w.heap.size) 4 _ _ _ hD.box).trans rfl
      have k5 : wr.cell? ⟨w.heap.size, 5, none⟩ = some (.int .i64 c1.st) := (cell_of_row wr (w.heap.size) 5 _ _ _ hD.box).trans rfl
      have k6 : wr.cell? ⟨w.heap.size, 6, none⟩ = some (.int .i64 c1.id) := (cell_of_row wr (w.heap.size) 6 _ _ _ hD.box).trans rfl
      have kf := fun o => frozen_of_row wr (w.heap.size) o _ _ hD.box
      clear hD
      by_cases hlt : j < m
      · have hlt' : (j : Int) < m := by omega
        cases hov : c1.over with
        | true =>
          rw [hov] at k4
          have heq := HD1.out.eq
          rw [drainP_over _ _ _ _ _ hov] at heq
          simp only [List.append_nil] at heq
          obtain ⟨L, cl, hv, hcl⟩ := HD1.out.own.slice
          subst hv
          have hrs := HD1.out.res
          have r0 : wr.cell? ⟨w.heap.size + 1, 0, none⟩ = some (.slice none 0 0) := (cell_of_row wr (w.heap.size + 1) 0 _ _ _ hrs).trans rfl
          have r1 : wr.cell? ⟨w.heap.size + 1, 1, none⟩ = some (.int .i64 0) := (cell_of_row wr (w.heap.size + 1) 1 _ _ _ hrs).trans rfl
          have r2 : wr.cell? ⟨w.heap.size + 1, 2, none⟩ = some (.slice none 0 0) := (cell_of_row wr (w.heap.size + 1) 2 _ _ _ hrs).trans rfl
          have r3 : wr.cell? ⟨w.heap.size + 1, 3, none⟩ = some (.slice none 0 0) := (cell_of_row wr (w.heap.size + 1) 3 _ _ _ hrs).trans rfl
          have r4 : wr.cell? ⟨w.heap.size + 1, 4, none⟩ = some (.bool false) := (cell_of_row wr (w.heap.size + 1) 4 _ _ _ hrs).trans rfl
          have r5 : wr.cell? ⟨w.heap.size + 1, 5, none⟩ = some (.int .i64 0) := (cell_of_row wr (w.heap.size + 1) 5 _ _ _ hrs).trans rfl
          have r6 : wr.cell? ⟨w.heap.size + 1, 6, none⟩ = some (.int .i64 0) := (cell_of_row wr (w.heap.size + 1) 6 _ _ _ hrs).trans rfl
          have rf := fun o => frozen_of_row wr (w.heap.size + 1) o _ _ hrs
          have HEQ := Lib.hid heq
          have HOV := Lib.hid hov
          have lR := block_lt hrs
          clear heq hov hrs
          go_wp2_with fail
          rw [HEQ.out]
          have hG7 : Grew (fun x => x = w.heap.size + 1) wr ((((((((wr.setCell ⟨w.heap.size + 1, 0, none⟩ (.slice A1 c1.ts.length a1)).setCell ⟨w.heap.size + 1, 1, none⟩ (.int .i64 g)).setCell ⟨w.heap.size + 1, 2, none⟩ (.slice B1 c1.dn.length b1)).setCell ⟨w.heap.size + 1, 3, none⟩ (.slice (some ⟨e0, o1, none⟩) m e1)).setCell ⟨w.heap.size + 1, 4, none⟩ (.bool true)).setCell ⟨w.heap.size + 1, 5, none⟩ (.int .i64 c1.st)).setCell ⟨w.heap.size + 1, 6, none⟩ (.int .i64 c1.id))) := (Grew.setCell (S := fun x => x = w.heap.size + 1) (p := ⟨w.heap.size + 1, 6, none⟩) (Grew.setCell (S := fun x => x = w.heap.size + 1) (p := ⟨w.heap.size + 1, 5, none⟩) (Grew.setCell (S := fun x => x = w.heap.size + 1) (p := ⟨w.heap.size + 1, 4, none⟩) (Grew.setCell (S := fun x => x = w.heap.size + 1) (p := ⟨w.heap.size + 1, 3, none⟩) (Grew.setCell (S := fun x => x = w.heap.size + 1) (p := ⟨w.heap.size + 1, 2, none⟩) (Grew.setCell (S := fun x => x = w.heap.size + 1) (p := ⟨w.heap.size + 1, 1, none⟩) (Grew.setCell (S := fun x => x = w.heap.size + 1) (p := ⟨w.heap.size + 1, 0, none⟩) (Grew.refl _ _) rfl _) rfl _) rfl _) rfl _) rfl _) rfl _) rfl _)
          refine bodyPost_ret (v := .tuple #[.agg #[.slice A1 c1.ts.length a1, .int .i64 g, .slice B1 c1.dn.length b1, .slice (some ⟨e0, o1, none⟩) m e1, .bool true, .int .i64 c1.st, .int .i64 c1.id], .slice L evs.length cl, .int .i64 0]) (by simp [results, Try.results52, go_sem]; go_simp) rfl ⟨A1, B1, L, e0, o1, a1, b1, e1, cl, HD1.out.me, by unfold crewV; rw [HOV.out], ?_, ?_, ?_⟩
          · exact HD1.out.cr.later m1 (hG7.mono (fun x _ hx => .inr (.inr (.inl hx)))) (fun x _ hx => .inl hx)
          · have ho := HD1.out.own.grew hG7 (fun x hx e => by have := (HD1.out.own.lt x hx).1; omega)
            exact ho.mono (by omega)
          · exact hG7.toExt HD1.out.ext (fun x hx => by rw [hx]; omega)
        | false =>
          have htN : k * m + j < N := by
            have h1 := HD1.out.tn
            rcases Nat.lt_or_ge (k * m + j) N with h2 | h2
            · exact h2
            · exfalso
              have h3 := HD1.out.eq
              have h4 := HO.out
              rw [h3, show N - (k * m + j) = 0 by omega] at h4
              have h5 : c1.over = true := h4
              rw [hov] at h5; cases h5
          obtain ⟨d1, G1, hI1⟩ := HD1.out.inv
          have hpos := (CrI.over_iff hI1).2 hov
          obtain ⟨N0, hN0⟩ : ∃ N0, (held c1.D).length = N0 := ⟨_, rfl⟩
          have HN0 := Lib.hid hN0
          rw [hN0] at hpos
          have hz : ((N0 : Int) == 0) = false := by simp; omega
          have HI1 := Lib.hid hI1
          have HN1 : Hid (N0 ≤ 4000) := Lib.hid (by
            have h1 := (CrI.fresh hI1).2.2.2
            have h2 := hI1.few g1 n1
            omega)
          have HTN := Lib.hid htN
          have HOV := Lib.hid hov
          clear hN0 hI1 htN
          rw [hov] at k4
          go_wp2_with fail
          have hh := rheld_any A1 B1 e0 o1 a1 b1 e1 g m c1 _ wr ((HD1.out.cr.at_ m1).deq.choose_spec) m2 (by have := HN0.out; have := HN1.out; omega)
          unfold crewV at hh
          rw [HOV.out] at hh
          refine hh.mono ?_
          clear hh
          rintro ed w5 ⟨rfl, hE5⟩
          rw [HN0.out]
          have hb5 := block_keep HD1.out.box hE5
          have l0 : w5.cell? ⟨w.heap.size, 0, none⟩ = some (.slice A1 c1.ts.length a1) := (cell_of_row w5 (w.heap.size) 0 _ _ _ hb5).trans rfl
          have l1 : w5.cell? ⟨w.heap.size, 1, none⟩ = some (.int .i64 g) := (cell_of_row w5 (w.heap.size) 1 _ _ _ hb5).trans rfl
          have l2 : w5.cell? ⟨w.heap.size, 2, none⟩ = some (.slice B1 c1.dn.length b1) := (cell_of_row w5 (w.heap.size) 2 _ _ _ hb5).trans rfl
          have l3 : w5.cell? ⟨w.heap.size, 3, none⟩ = some (.slice (some ⟨e0, o1, none⟩) m e1) := (cell_of_row w5 (w.heap.size) 3 _ _ _ hb5).trans rfl
          have l4 : w5.cell? ⟨w.heap.size, 4, none⟩ = some (.bool c1.over) := (cell_of_row w5 (w.heap.size) 4 _ _ _ hb5).trans rfl
          have l5 : w5.cell? ⟨w.heap.size, 5, none⟩ = some (.int .i64 c1.st) := (cell_of_row w5 (w.heap.size) 5 _ _ _ hb5).trans rfl
          have l6 : w5.cell? ⟨w.heap.size, 6, none⟩ = some (.int .i64 c1.id) := (cell_of_row w5 (w.heap.size) 6 _ _ _ hb5).trans rfl
          have lf := fun o => frozen_of_row w5 (w.heap.size) o _ _ hb5
          rw [HOV.out] at l4
          have HE5 := Lib.hid hE5
          clear hb5 hE5 k0 k1 k2 k3 k4 k5 k6 kf
          go_wp2_with fail
          have hh := rstep5_any A1 B1 e0 o1 a1 b1 e1 g n m c1 d1 G1 (j : Int) ((j : Int) + 1 + k) w5 ((HD1.out.cr.at_ m1).ext HE5.out) HD1.out.me HI1.out n1 n2 g1 g2 m1 m2 (by have := HD1.out.st; have := HTN.out; omega) (by have := HD1.out.id; have := HTN.out; omega) (by unfold in64; omega) (by unfold in64; omega)
          unfold crewV at hh
          rw [HOV.out] at hh
          refine hh.mono ?_
          clear hh
          have HEV : Hid (kEv.ok (stepP g m c1 (j : Int) ((j : Int) + 1 + k)).2) := Lib.hid (HI1.out.evOk g1 n1 n2 m1 m2 _ _)
          have HI5 : Hid (∃ done G, CwI g n m (stepP g m c1 (j : Int) ((j : Int) + 1 + k)).1 done G) := Lib.hid (HI1.out.stepD g1 m1 _ _)
          have HST := Lib.hid (stepP_st g m c1 (j : Int) ((j : Int) + 1 + k))
          obtain ⟨⟨c5, ev⟩, hr⟩ : ∃ x, stepP g m c1 (j : Int) ((j : Int) + 1 + k) = x := ⟨_, rfl⟩
          rw [hr] at HEV HI5 HST ⊢
          have HOKE : Hid (kEv.ok ev) := HEV
          have HR := Lib.hid hr
          rintro ed w6 ⟨A5, B5, e5, a5, b5, q5, hq5, rfl, hC5, hE6⟩
          have HC5 := Lib.hid (And.intro hq5 hC5)
          have HE6 := Lib.hid hE6
          clear hr hC5 hE6 hq5 l0 l1 l2 l3 l4 l5 l6 lf hpos hz
          go_upto_region 16 with fail
          have hz5 := HE5.out.size
          have hz6 := HE6.out.size
          have hzr := HD1.out.ext.size
          have hRr := block_lt HD1.out.res
          have HX8 : Hid (Ext w6 ((w6.alloc (.cells #[.slice A5 c5.ts.length a5, .int .i64 g, .slice B5 c5.dn.length b5, .slice (some ⟨e5, 0, none⟩) m q5, .bool c5.over, .int .i64 c5.st, .int .i64 c5.id] 77)).alloc (.cells #[.int .i64 ev.wk, .int .i64 ev.fr, .int .i64 ev.tk, .bool ev.pt] 91))) := Lib.hid (((Ext.refl w6).alloc _).alloc _)
          have HBX : Hid ((((w6.alloc (.cells #[.slice A5 c5.ts.length a5, .int .i64 g, .slice B5 c5.dn.length b5, .slice (some ⟨e5, 0, none⟩) m q5, .bool c5.over, .int .i64 c5.st, .int .i64 c5.id] 77)).alloc (.cells #[.int .i64 ev.wk, .int .i64 ev.fr, .int .i64 ev.tk, .bool ev.pt] 91))).heap[w6.heap.size]? = some (.cells #[.slice A5 c5.ts.length a5, .int .i64 g, .slice B5 c5.dn.length b5, .slice (some ⟨e5, 0, none⟩) m q5, .bool c5.over, .int .i64 c5.st, .int .i64 c5.id] 77)) := Lib.hid (block_keep (heap_alloc_new w6 _) ((Ext.refl _).alloc _))
          have HBY : Hid ((((w6.alloc (.cells #[.slice A5 c5.ts.length a5, .int .i64 g, .slice B5 c5.dn.length b5, .slice (some ⟨e5, 0, none⟩) m q5, .bool c5.over, .int .i64 c5.st, .int .i64 c5.id] 77)).alloc (.cells #[.int .i64 ev.wk, .int .i64 ev.fr, .int .i64 ev.tk, .bool ev.pt] 91))).heap[w6.heap.size + 1]? = some (.cells #[.int .i64 ev.wk, .int .i64 ev.fr, .int .i64 ev.tk, .bool ev.pt] 91)) := Lib.hid (heap_alloc2_new w6 _ _)
          generalize ((w6.alloc (.cells #[.slice A5 c5.ts.length a5, .int .i64 g, .slice B5 c5.dn.length b5, .slice (some ⟨e5, 0, none⟩) m q5, .bool c5.over, .int .i64 c5.st, .int .i64 c5.id] 77)).alloc (.cells #[.int .i64 ev.wk, .int .i64 ev.fr, .int .i64 ev.tk, .bool ev.pt] 91)) = w8 at *
          have hz8 := HX8.out.size
          have x0 : w8.cell? ⟨w6.heap.size, 0, none⟩ = some (.slice A5 c5.ts.length a5) := (cell_of_row w8 (w6.heap.size) 0 _ _ _ HBX.out).trans rfl
          have x1 : w8.cell? ⟨w6.heap.size, 1, none⟩ = some (.int .i64 g) := (cell_of_row w8 (w6.heap.size) 1 _ _ _ HBX.out).trans rfl
          have x2 : w8.cell? ⟨w6.heap.size, 2, none⟩ = some (.slice B5 c5.dn.length b5) := (cell_of_row w8 (w6.heap.size) 2 _ _ _ HBX.out).trans rfl
          have x3 : w8.cell? ⟨w6.heap.size, 3, none⟩ = some (.slice (some ⟨e5, 0, none⟩) m q5) := (cell_of_row w8 (w6.heap.size) 3 _ _ _ HBX.out).trans rfl
          have x4 : w8.cell? ⟨w6.heap.size, 4, none⟩ = some (.bool c5.over) := (cell_of_row w8 (w6.heap.size) 4 _ _ _ HBX.out).trans rfl
          have x5 : w8.cell? ⟨w6.heap.size, 5, none⟩ = some (.int .i64 c5.st) := (cell_of_row w8 (w6.heap.size) 5 _ _ _ HBX.out).trans rfl
          have x6 : w8.cell? ⟨w6.heap.size, 6, none⟩ = some (.int .i64 c5.id) := (cell_of_row w8 (w6.heap.size) 6 _ _ _ HBX.out).trans rfl
          have xf := fun o => frozen_of_row w8 (w6.heap.size) o _ _ HBX.out
          have y0 : w8.cell? ⟨w6.heap.size + 1, 0, none⟩ = some (.int .i64 ev.wk) := (cell_of_row w8 (w6.heap.size + 1) 0 _ _ _ HBY.out).trans rfl
          have y1 : w8.cell? ⟨w6.heap.size + 1, 1, none⟩ = some (.int .i64 ev.fr) := (cell_of_row w8 (w6.heap.size + 1) 1 _ _ _ HBY.out).trans rfl
          have y2 : w8.cell? ⟨w6.heap.size + 1, 2, none⟩ = some (.int .i64 ev.tk) := (cell_of_row w8 (w6.heap.size + 1) 2 _ _ _ HBY.out).trans rfl
          have y3 : w8.cell? ⟨w6.heap.size + 1, 3, none⟩ = some (.bool ev.pt) := (cell_of_row w8 (w6.heap.size + 1) 3 _ _ _ HBY.out).trans rfl
          have yf := fun o => frozen_of_row w8 (w6.heap.size + 1) o _ _ HBY.out
          obtain ⟨Ao, co, hv, hco⟩ := HD1.out.own.slice
          obtain ⟨no, hno⟩ : ∃ no, evs.length = no := ⟨_, rfl⟩
          rw [hno] at hv hco
          subst hv
          have HNO := Lib.hid hno
          obtain ⟨row, hrw⟩ : ∃ row, Value.ownBlock (.slice Ao no co) = row := ⟨_, rfl⟩
          have hrlt : ∀ x, row = some x → w.heap.size + 2 ≤ x ∧ x < wr.heap.size := fun x hx => HD1.out.own.lt x (hrw.trans hx)
          have hrow : ∀ x, row = some x → x < w8.heap.size := fun x hx => by have := hrlt x hx; omega
          have nX : ¬ row = some w6.heap.size := fun hh => by have := hrlt _ hh; omega
          have nY : ¬ row = some (w6.heap.size + 1) := fun hh => by have := hrlt _ hh; omega
          have HRL := Lib.hid hrlt
          have HE8 : Hid (Ext wr w8) := Lib.hid ((HE5.out.trans HE6.out).trans HX8.out)
          obtain ⟨B9, hB9⟩ : ∃ B9, w.heap.size + 2 = B9 := ⟨_, rfl⟩
          have HB9 := Lib.hid hB9
          have HO8 : Hid (Ow kEv B9 w8 (.slice Ao no co) evs) := Lib.hid (by rw [← hB9]; exact HD1.out.own.ext HE8.out)
          have HLL : Hid (evs.length + [ev].length ≤ 1048576) := Lib.hid (by have := HD1.out.len; have := HTN.out; simp; omega)
          have HBS : Hid (B9 ≤ w8.heap.size) := Lib.hid (by omega)
          have HSZ := Lib.hid (And.intro hz5 (And.intro hz6 (And.intro hz8 (And.intro hzr hRr))))
          clear hB9 hno hco hrlt hz5 hz6 hz8 hzr hRr
          refine MonoW.wp_region_write 5 4 (Wr row) (R6P w8 row (.agg #[.slice A5 c5.ts.length a5, .int .i64 g, .slice B5 c5.dn.length b5, .slice (some ⟨e5, 0, none⟩) m q5, .bool c5.over, .int .i64 c5.st, .int .i64 c5.id]) (.agg #[.int .i64 ev.wk, .int .i64 ev.fr, .int .i64 ev.tk, .bool ev.pt]) (.slice Ao no co) B9 evs ev) (by kernel_rfl) (by kernel_rfl) (Wr.of row) (Wr.tr row) (R6P_ext w8 row (.agg #[.slice A5 c5.ts.length a5, .int .i64 g, .slice B5 c5.dn.length b5, .slice (some ⟨e5, 0, none⟩) m q5, .bool c5.over, .int .i64 c5.st, .int .i64 c5.id]) (.agg #[.int .i64 ev.wk, .int .i64 ev.fr, .int .i64 ev.tk, .bool ev.pt]) (.slice Ao no co) B9 evs ev) (R6P_sw w8 row (.agg #[.slice A5 c5.ts.length a5, .int .i64 g, .slice B5 c5.dn.length b5, .slice (some ⟨e5, 0, none⟩) m q5, .bool c5.over, .int .i64 c5.st, .int .i64 c5.id]) (.agg #[.int .i64 ev.wk, .int .i64 ev.fr, .int .i64 ev.tk, .bool ev.pt]) (.slice Ao no co) B9 evs ev hrow) ?_ ?_
          · intro i o hi ho vals w5 hE hQ hcl
            have hi' : i = 0 ∨ i = 1 ∨ i = 2 ∨ i = 3 ∨ i = 4 := by omega
            rcases hi' with rfl | rfl | rfl | rfl | rfl
            · simp only [List.getElem?_cons_succ, List.getElem?_cons_zero, Option.some.injEq] at ho
              subst ho
              rw [if_pos (Mono.wanted_none rfl)]
              have l0 := hE.cell x0 nX
              have l1 := hE.cell x1 nX
              have l2 := hE.cell x2 nX
              have l3 := hE.cell x3 nX
              have l4 := hE.cell x4 nX
              have l5 := hE.cell x5 nX
              have l6 := hE.cell x6 nX
              clear hcl
              refine Mono.yields_same (.agg #[.slice A5 c5.ts.length a5, .int .i64 g, .slice B5 c5.dn.length b5, .slice (some ⟨e5, 0, none⟩) m q5, .bool c5.over, .int .i64 c5.st, .int .i64 c5.id]) w5 ?_ ⟨MonoW.Out.of (Wr.of row) (Ext.refl _), R6P_i0 _ _ _ _ _ _ _ _ _ _ _ rfl⟩
              simp only [Mono.all, List.take, Act.put]
              go_simp
            · simp only [List.getElem?_cons_succ, List.getElem?_cons_zero, Option.some.injEq] at ho
              subst ho
              rw [if_pos (Mono.wanted_none rfl)]
              clear hcl
              refine Mono.yields_same (.slice Ao no co) w5 ?_ ⟨MonoW.Out.of (Wr.of row) (Ext.refl _), R6P_i1 _ _ _ _ _ _ _ _ _ _ _ rfl⟩
              simp only [Mono.all, List.take, Act.put]
              go_simp
            · simp only [List.getElem?_cons_succ, List.getElem?_cons_zero, Option.some.injEq] at ho
              subst ho
              rw [if_pos (Mono.wanted_none rfl)]
              have l0 := hE.cell y0 nY
              have l1 := hE.cell y1 nY
              have l2 := hE.cell y2 nY
              have l3 := hE.cell y3 nY
              clear hcl
              refine Mono.yields_same (.agg #[.int .i64 ev.wk, .int .i64 ev.fr, .int .i64 ev.tk, .bool ev.pt]) w5 ?_ ⟨MonoW.Out.of (Wr.of row) (Ext.refl _), R6P_i2 _ _ _ _ _ _ _ _ _ _ _ rfl⟩
              simp only [Mono.all, List.take, Act.put]
              go_simp
            · simp only [List.getElem?_cons_succ, List.getElem?_cons_zero, Option.some.injEq] at ho
              subst ho
              rw [if_pos (Mono.wanted_none rfl)]
              have h2 : vals 2 = .agg #[.int .i64 ev.wk, .int .i64 ev.fr, .int .i64 ev.tk, .bool ev.pt] := (R6P_e2 _ _ _ _ _ _ _ _ _ _ _ (hcl 2 (by kernel_rfl)))
              clear hcl
              refine Mono.yields_same (.slice (some ⟨w5.heap.size, 0, none⟩) 1 1) (w5.alloc (.cells #[.int .i64 ev.wk, .int .i64 ev.fr, .int .i64 ev.tk, .bool ev.pt] kEv.e)) ?_ ⟨MonoW.Out.of (Wr.of row) ((Ext.refl _).alloc _), R6P_i3 _ _ _ _ _ _ _ _ _ _ _ (OneAt.made kEv w5 hE.size _ _ rfl HOKE.out)⟩
              simp only [Mono.all, List.take, Act.put, kEv]
              go_simp
            · simp only [List.getElem?_cons_succ, List.getElem?_cons_zero, Option.some.injEq] at ho
              subst ho
              rw [if_pos (Mono.wanted_none rfl)]
              obtain ⟨p, h3, o3⟩ := (R6P_e3 _ _ _ _ _ _ _ _ _ _ _ (hcl 3 (by kernel_rfl)))
              have h1 : vals 1 = .slice Ao no co := (R6P_e1 _ _ _ _ _ _ _ _ _ _ _ (hcl 1 (by kernel_rfl)))
              have hX := hQ rfl
              clear hcl
              refine Kd.yields_grow kEv (B := B9) (n := w8.heap.size) (q := 4) (.tmp 60) (.tmp 62) (v := .slice Ao no co) (y := .slice (some ⟨p, 0, none⟩) 1 1) (xs := evs) (ys := [ev]) (HO8.out.ext hX) o3.rd HLL.out (Nat.le_trans HBS.out hX.size) hX.size rfl rfl (by rw [← h1]; kernel_rfl) (by rw [← h3]; kernel_rfl) ?_
              intro v' w' hA hO
              exact ⟨by rw [← hrw]; exact hO, R6P_i4 _ _ _ _ _ _ _ _ _ _ _ hA⟩
          · intro vals w5 hE hv
            have hA := (R6P_e4 _ _ _ _ _ _ _ _ _ _ _ (hv 4 (by omega)))
            have ee0 := (R6P_e0 _ _ _ _ _ _ _ _ _ _ _ (hv 0 (by omega)))
            have ee3 := (R6P_e3 _ _ _ _ _ _ _ _ _ _ _ (hv 3 (by omega)))
            have HA := Lib.hid hA
            have HG := Lib.hid hE
            have hbP : w5.heap[w.heap.size]? = some (.cells #[.slice A1 c1.ts.length a1, .int .i64 g, .slice B1 c1.dn.length b1, .slice (some ⟨e0, o1, none⟩) m e1, .bool c1.over, .int .i64 c1.st, .int .i64 c1.id] 77) := block_wr (block_keep HD1.out.box HE8.out) hE (fun hh => by have := (HRL.out _ hh).1; omega)
            have z0 : w5.cell? ⟨w.heap.size, 0, none⟩ = some (.slice A1 c1.ts.length a1) := (cell_of_row w5 (w.heap.size) 0 _ _ _ hbP).trans rfl
            have z1 : w5.cell? ⟨w.heap.size, 1, none⟩ = some (.int .i64 g) := (cell_of_row w5 (w.heap.size) 1 _ _ _ hbP).trans rfl
            have z2 : w5.cell? ⟨w.heap.size, 2, none⟩ = some (.slice B1 c1.dn.length b1) := (cell_of_row w5 (w.heap.size) 2 _ _ _ hbP).trans rfl
            have z3 : w5.cell? ⟨w.heap.size, 3, none⟩ = some (.slice (some ⟨e0, o1, none⟩) m e1) := (cell_of_row w5 (w.heap.size) 3 _ _ _ hbP).trans rfl
            have z4 : w5.cell? ⟨w.heap.size, 4, none⟩ = some (.bool c1.over) := (cell_of_row w5 (w.heap.size) 4 _ _ _ hbP).trans rfl
            have z5 : w5.cell? ⟨w.heap.size, 5, none⟩ = some (.int .i64 c1.st) := (cell_of_row w5 (w.heap.size) 5 _ _ _ hbP).trans rfl
            have z6 : w5.cell? ⟨w.heap.size, 6, none⟩ = some (.int .i64 c1.id) := (cell_of_row w5 (w.heap.size) 6 _ _ _ hbP).trans rfl
            have zf := fun o => frozen_of_row w5 (w.heap.size) o _ _ hbP
            have lP := block_lt hbP
            have HBP := Lib.hid hbP
            clear hA hbP hE ee3
            simp only [Mono.all, List.take, List.drop, Act.put]
            go_wp2_with fail
            go_roundw
            case rel =>
              have hB := HB9.out
              obtain ⟨z5, z6, z8, zr, zR⟩ := HSZ.out
              have hGP : Grew (fun x => x = w.heap.size) w5 ((((((((w5.setCell ⟨w.heap.size, 0, none⟩ (.slice A5 c5.ts.length a5)).setCell ⟨w.heap.size, 1, none⟩ (.int .i64 g)).setCell ⟨w.heap.size, 2, none⟩ (.slice B5 c5.dn.length b5)).setCell ⟨w.heap.size, 3, none⟩ (.slice (some ⟨e5, 0, none⟩) m q5)).setCell ⟨w.heap.size, 4, none⟩ (.bool c5.over)).setCell ⟨w.heap.size, 5, none⟩ (.int .i64 c5.st)).setCell ⟨w.heap.size, 6, none⟩ (.int .i64 c5.id))) := (Grew.setCell (S := fun x => x = w.heap.size) (p := ⟨w.heap.size, 6, none⟩) (Grew.setCell (S := fun x => x = w.heap.size) (p := ⟨w.heap.size, 5, none⟩) (Grew.setCell (S := fun x => x = w.heap.size) (p := ⟨w.heap.size, 4, none⟩) (Grew.setCell (S := fun x => x = w.heap.size) (p := ⟨w.heap.size, 3, none⟩) (Grew.setCell (S := fun x => x = w.heap.size) (p := ⟨w.heap.size, 2, none⟩) (Grew.setCell (S := fun x => x = w.heap.size) (p := ⟨w.heap.size, 1, none⟩) (Grew.setCell (S := fun x => x = w.heap.size) (p := ⟨w.heap.size, 0, none⟩) (Grew.refl _ _) rfl _) rfl _) rfl _) rfl _) rfl _) rfl _) rfl _)
              have hGr : Grew (fun x => x = w.heap.size ∨ row = some x) w8 ((((((((w5.setCell ⟨w.heap.size, 0, none⟩ (.slice A5 c5.ts.length a5)).setCell ⟨w.heap.size, 1, none⟩ (.int .i64 g)).setCell ⟨w.heap.size, 2, none⟩ (.slice B5 c5.dn.length b5)).setCell ⟨w.heap.size, 3, none⟩ (.slice (some ⟨e5, 0, none⟩) m q5)).setCell ⟨w.heap.size, 4, none⟩ (.bool c5.over)).setCell ⟨w.heap.size, 5, none⟩ (.int .i64 c5.st)).setCell ⟨w.heap.size, 6, none⟩ (.int .i64 c5.id))) := (Grew.mono HG.out (fun x _ hx => .inr hx)).trans (hGP.mono (fun x _ hx => .inl hx))
              have hE9 : Ext w8 w5 → True := fun _ => trivial
              have hval := HA.out.1.grew hGP (fun x hx e => by have := (HA.out.1.lt x hx).1; omega)
              obtain ⟨hs1, hs2, hs3⟩ := HST.out
              have hst' := HD1.out.st
              have hid' := HD1.out.id
              have htn := HTN.out
              have hst1 : c5.st = c1.st + 1 := hs1
              have hid1 : c5.id ≤ c1.id + 1 := hs3
              refine ⟨j + 1, by omega, by go_num, c5, evs ++ [ev], A5, B5, e5, 0, a5, b5, q5, HC5.out.1, set_box7 HBP.out _ _ _ _ _ _ _, ?_, ?_, by omega, HI5.out, by omega, by omega, ?_, by have := HD1.out.len; rw [List.length_append, this]; rfl, ?_, ?_⟩
              · refine HC5.out.2.later m1 (W := (((((((w5.setCell ⟨w.heap.size, 0, none⟩ (.slice A5 c5.ts.length a5)).setCell ⟨w.heap.size, 1, none⟩ (.int .i64 g)).setCell ⟨w.heap.size, 2, none⟩ (.slice B5 c5.dn.length b5)).setCell ⟨w.heap.size, 3, none⟩ (.slice (some ⟨e5, 0, none⟩) m q5)).setCell ⟨w.heap.size, 4, none⟩ (.bool c5.over)).setCell ⟨w.heap.size, 5, none⟩ (.int .i64 c5.st)).setCell ⟨w.heap.size, 6, none⟩ (.int .i64 c5.id))) ((Grew.of HX8.out).trans (hGr.mono (fun x hx hh => ?_))) (fun x hx hT => ?_)
                · rcases hh with hh | hh
                  · omega
                  · have := (HRL.out x hh).2; omega
                · rcases hT with hT | hT | hT | hT
                  · have := HS.out x hT; omega
                  · omega
                  · omega
                  · rcases HA.out.2 with h9 | ⟨p, h9, h10⟩
                    · rw [h9, hrw] at hT
                      have := (HRL.out x hT).2; omega
                    · rw [h9] at hT; cases hT; omega
              · rw [hB]; exact hval
              · have h9 := HD1.out.eq
                rw [show N - (k * m + j) = (N - (k * m + (j + 1))) + 1 by omega, drainP_next _ _ _ _ _ HOV.out, dpick_at m k j hlt, HR.out] at h9
                rw [h9, List.append_assoc, Nat.add_assoc]
                rfl
              · exact block_wr (block_keep HD1.out.res HE8.out) hGr (fun hh => by
                  rcases hh with hh | hh
                  · omega
                  · have := (HRL.out _ hh).1; omega)
              · exact hGr.toExt (HD1.out.ext.trans HE8.out) (fun x hx => by
                  rcases hx with hx | hx
                  · omega
                  · have := (HRL.out _ hx).1; omega)
            case measure => simp [intOf]; omega
      · obtain rfl : j = m := by omega
        go_wp2_with fail
        go_roundw
        case rel =>
          have h9 : (k + 1) * j = k * j + j := Nat.succ_mul k j
          exact ⟨k + 1, by rw [h9]; exact HD1.out.tn, by go_num, _, _, _, _, _, _, _, _, _, by rw [h9]; exact HD1.out⟩
        case measure =>
          have h9 := HD1.out.tn
          have h8 : k ≤ k * j := Nat.le_mul_of_pos_right k m1
          simp [intOf]; omega
end Go.Proofs.Ytggjjjfdkgfoiaa

/- The program's Begin of work, in new memory. -/
namespace Go.Proofs.Ytggjjjfdkgfoiaa
open Go.RowKit Go.Proofs.Ytggjjjfdkgfoiaa.Plain

def BeginNew (w : World) (n g : Int) (e : Ending) (w' : World) : Prop :=
  ∃ A c B d, e = .returned (.tuple #[.agg #[.slice A 1 c, .int .i64 g, .slice B n.toNat d], .int .i64 0]) ∧
    Rd kTask w' (.slice A 1 c) [⟨0, n, -1, 0⟩] ∧ Rd kBool w' (.slice B n.toNat d) (List.replicate n.toNat false) ∧ From w.heap.size A ∧ From w.heap.size B ∧ Ext w w'
set_option maxHeartbeats 800000 in
set_option maxRecDepth 100000 in
theorem pbegin_new (n g : Int) (w : World) (hn : in64 n) (hg : in64 g) (hc : cOk n g = true) :
    Calls Try.prog 54 #[.int .i64 n, .int .i64 g] w (BeginNew w n g) := by
  have HN := Lib.hid hn
  have HG := Lib.hid hg
  have HC := Lib.hid hc
  obtain ⟨a1, a2, a3, a4⟩ : 1 ≤ n ∧ n ≤ 1000 ∧ 1 ≤ g ∧ g ≤ 100 := by unfold cOk at hc; simp only [Bool.and_eq_true, decide_eq_true_eq] at hc; omega
  obtain ⟨N, rfl⟩ : ∃ N : Nat, n = N := ⟨n.toNat, by omega⟩
  clear hc hn hg
  obtain ⟨C, hmk, hown⟩ := kBool.make false rfl trivial N (by omega)
  have hmk' : ∀ w : World, (Instr.makeSlice 55 (.int .i64 N) (.int .i64 N)).run Try.prog w = .ok (.slice (some ⟨w.heap.size, 0, none⟩) N N) (w.alloc (.cells C 4)) := hmk
  have HO := Lib.hid hown
  clear hmk hown
  go_enter Try.func54, Try.ntmps54
  go_wp2_with fail
  refine (sized_any _ _ _ HN.out HG.out).mono ?_
  rintro e w1 ⟨he, rfl⟩
  rw [HC.out] at he
  subst he
  go_wp2_with fail
  go_region
  all_goals (try go_wp2)
  · refine bodyPost_ret (v := .tuple #[.agg #[.slice (some ⟨w.heap.size + 1 + 1, 0, none⟩) 1 1, .int .i64 g, .slice (some ⟨w.heap.size + 1 + 1 + 1, 0, none⟩) N N], .int .i64 0]) (by simp [results, Try.results54, go_sem]) rfl ⟨_, 1, _, N, rfl, ?_, ?_, fun a ha => by cases ha; simp only; omega, fun a ha => by cases ha; simp only; omega, ?_⟩
    · exact (Ow.lit (K := kTask) (B := 0) (p := w.heap.size + 1 + 1) _ [⟨0, N, -1, 0⟩] #[.int .i64 0, .int .i64 N, .int .i64 (-1), .int .i64 0] rfl rfl (by simp) (Nat.zero_le _) (by simp [maxLen]) (by intro x hx; simp only [List.mem_singleton] at hx; subst hx; exact tk_ok (by unfold in64; omega) (by unfold in64; omega) (by unfold in64; omega) (by unfold in64; omega))).rd.ext ((Ext.refl _).alloc _).drew
    · exact (HO.out _ 0 (w.heap.size + 1 + 1 + 1) (by simp) (Nat.zero_le _)).rd.ext (Ext.refl _).drew
    · exact (((((Ext.refl w).alloc _).alloc _).alloc _).alloc _).drew
  · refine bodyPost_ret (v := .tuple #[.agg #[.slice (some ⟨w.heap.size + 1 + 1 + 1, 0, none⟩) 1 1, .int .i64 g, .slice (some ⟨w.heap.size + 1 + 1, 0, none⟩) N N], .int .i64 0]) (by simp [results, Try.results54, go_sem]) rfl ⟨_, 1, _, N, rfl, ?_, ?_, fun a ha => by cases ha; simp only; omega, fun a ha => by cases ha; simp only; omega, ?_⟩
    · exact (Ow.lit (K := kTask) (B := 0) (p := w.heap.size + 1 + 1 + 1) _ [⟨0, N, -1, 0⟩] #[.int .i64 0, .int .i64 N, .int .i64 (-1), .int .i64 0] rfl rfl (by simp) (Nat.zero_le _) (by simp [maxLen]) (by intro x hx; simp only [List.mem_singleton] at hx; subst hx; exact tk_ok (by unfold in64; omega) (by unfold in64; omega) (by unfold in64; omega) (by unfold in64; omega))).rd.ext (Ext.refl _).drew
    · exact (HO.out _ 0 (w.heap.size + 1 + 1) (by simp) (Nat.zero_le _)).rd.ext ((Ext.refl _).alloc _).drew
    · exact (((((Ext.refl w).alloc _).alloc _).alloc _).alloc _).drew
end Go.Proofs.Ytggjjjfdkgfoiaa

/- The program's Begin of a crew. -/
namespace Go.Proofs.Ytggjjjfdkgfoiaa
open Go.BigFrame
open Go.RowKit Go.Proofs.Ytggjjjfdkgfoiaa.Plain

/-- but for two blocks -/
abbrev GrewTwo (w : World) (X Y : Nat) (W : World) : Prop := Grew (fun x => x = X ∨ x = Y) w W
/-- .. in memory that is new -/
def CBeginOff (n g m : Nat) (w : World) (ed : Ending) (w' : World) : Prop :=
  ∃ (A B : Option Addr) (e0 a b : Nat), ed = .returned (.tuple #[crewV A B e0 0 a b m g m (beginC n m), .int .i64 0]) ∧ CrewO (fun x => x < w.heap.size) w' m (beginC n m) A B e0 0 a b ∧ Ext w w'
set_option maxHeartbeats 800000 in
set_option maxRecDepth 100000 in
theorem cbegin_off (n g m : Nat) (w : World) (n1 : 1 ≤ n) (n2 : n ≤ 1000) (g1 : 1 ≤ g) (g2 : g ≤ 100) (m1 : 1 ≤ m) (m2 : m ≤ 8) :
    Calls Try.prog 46 #[.int .i64 n, .int .i64 g, .int .i64 m] w (CBeginOff n g m w) := by
  have HCK : Hid (cOk (n : Int) (g : Int) = true) := Lib.hid (by unfold cOk; simp; omega)
  have HNI : Hid (in64 (n : Int)) := Lib.hid (in64_nat n (by omega))
  have HGI : Hid (in64 (g : Int)) := Lib.hid (in64_nat g (by omega))
  have m3 : (1 : Int) ≤ m := by omega
  have m4 : (m : Int) ≤ 8 := by omega
  have m5 : (0 : Int) < m := by omega
  have m6 : 0 < m := by omega
  obtain ⟨C, hmk, hmown⟩ := kRow.make hd0 rfl trivial m (by omega)
  have HMK := Lib.hid hmown
  have hmk2 : ∀ w : World, (Instr.makeSlice 75 (.int .i64 m) (.int .i64 m)).run Try.prog w = .ok (.slice (some ⟨w.heap.size, 0, none⟩) m m) (w.alloc (.cells C 23)) := hmk
  clear hmk hmown
  go_enter Try.func46, Try.ntmps46
  go_wp2_with ((go_at_call 53; refine (manned_yes m _ m1 m2).mono ?_; rintro ed w1 ⟨rfl, rfl⟩))
  refine (pbegin_new (n : Int) (g : Int) _ HNI.out HGI.out HCK.out).mono ?_
  rintro ed w2 ⟨A1, a1, B1, b1, rfl, hT, hD, hA, hB, hE⟩
  rw [Int.toNat_natCast] at hD ⊢
  have HAB : Hid ((∀ a, A1 = some a → w.heap.size + 1 ≤ a.block ∧ a.block < w2.heap.size) ∧ (∀ a, B1 = some a → w.heap.size + 1 ≤ a.block ∧ a.block < w2.heap.size)) := Lib.hid ⟨fun a ha => ⟨by have := hA a ha; simpa using this, Rd.lt hT (by simp) a ha⟩, fun a ha => ⟨by have := hB a ha; simpa using this, Rd.lt hD (by simp; omega) a ha⟩⟩
  clear hA hB
  have r0 : w2.cell? ⟨w.heap.size, 0, none⟩ = some (.slice none 0 0) := Ext.cell hE (by go_simp)
  have r1 : w2.cell? ⟨w.heap.size, 1, none⟩ = some (.int .i64 0) := Ext.cell hE (by go_simp)
  have r2 : w2.cell? ⟨w.heap.size, 2, none⟩ = some (.slice none 0 0) := Ext.cell hE (by go_simp)
  have r3 : w2.cell? ⟨w.heap.size, 3, none⟩ = some (.slice none 0 0) := Ext.cell hE (by go_simp)
  have r4 : w2.cell? ⟨w.heap.size, 4, none⟩ = some (.bool false) := Ext.cell hE (by go_simp)
  have r5 : w2.cell? ⟨w.heap.size, 5, none⟩ = some (.int .i64 0) := Ext.cell hE (by go_simp)
  have r6 : w2.cell? ⟨w.heap.size, 6, none⟩ = some (.int .i64 0) := Ext.cell hE (by go_simp)
  have rf : ∀ o, w2.frozen? ⟨w.heap.size, o, none⟩ = false := fun o => (Below.frozen hE (p := ⟨w.heap.size, o, none⟩) (by first | omega | (simp; omega) | simp)).trans (by go_simp)
  have HT := Lib.hid hT
  have HD := Lib.hid hD
  have hz := hE.size
  simp at hz
  have l2 : w.heap.size < w2.heap.size := by omega
  have l3 : w.heap.size < w2.heap.size + 1 := by omega
  have HX2 := Lib.hid (((Ext.refl w).alloc _).trans hE)
  clear hT hD hE
  go_upto_region 7 with fail
  have hEb : Ext (w2.alloc (.cells #[.slice A1 1 a1, .int .i64 g, .slice B1 n b1] 74)) ((w2.alloc (.cells #[.slice A1 1 a1, .int .i64 g, .slice B1 n b1] 74)).alloc (.cells C 23)) := (Ext.refl _).alloc _
  have hEa : Ext w2 ((w2.alloc (.cells #[.slice A1 1 a1, .int .i64 g, .slice B1 n b1] 74)).alloc (.cells C 23)) := ((Ext.refl w2).alloc _).alloc _
  have s0 : ((w2.alloc (.cells #[.slice A1 1 a1, .int .i64 g, .slice B1 n b1] 74)).alloc (.cells C 23)).cell? ⟨w.heap.size, 0, none⟩ = some (.slice none 0 0) := Ext.cell hEa (by go_simp)
  have s1 : ((w2.alloc (.cells #[.slice A1 1 a1, .int .i64 g, .slice B1 n b1] 74)).alloc (.cells C 23)).cell? ⟨w.heap.size, 1, none⟩ = some (.int .i64 0) := Ext.cell hEa (by go_simp)
  have s2 : ((w2.alloc (.cells #[.slice A1 1 a1, .int .i64 g, .slice B1 n b1] 74)).alloc (.cells C 23)).cell? ⟨w.heap.size, 2, none⟩ = some (.slice none 0 0) := Ext.cell hEa (by go_simp)
  have s3 : ((w2.alloc (.cells #[.slice A1 1 a1, .int .i64 g, .slice B1 n b1] 74)).alloc (.cells C 23)).cell? ⟨w.heap.size, 3, none⟩ = some (.slice none 0 0) := Ext.cell hEa (by go_simp)
  have s4 : ((w2.alloc (.cells #[.slice A1 1 a1, .int .i64 g, .slice B1 n b1] 74)).alloc (.cells C 23)).cell? ⟨w.heap.size, 4, none⟩ = some (.bool false) := Ext.cell hEa (by go_simp)
  have s5 : ((w2.alloc (.cells #[.slice A1 1 a1, .int .i64 g, .slice B1 n b1] 74)).alloc (.cells C 23)).cell? ⟨w.heap.size, 5, none⟩ = some (.int .i64 0) := Ext.cell hEa (by go_simp)
  have s6 : ((w2.alloc (.cells #[.slice A1 1 a1, .int .i64 g, .slice B1 n b1] 74)).alloc (.cells C 23)).cell? ⟨w.heap.size, 6, none⟩ = some (.int .i64 0) := Ext.cell hEa (by go_simp)
  have sf : ∀ o, ((w2.alloc (.cells #[.slice A1 1 a1, .int .i64 g, .slice B1 n b1] 74)).alloc (.cells C 23)).frozen? ⟨w.heap.size, o, none⟩ = false := fun o => (Below.frozen hEa (p := ⟨w.heap.size, o, none⟩) (by first | omega | (simp; omega) | simp)).trans (by go_simp)
  have y0 : ((w2.alloc (.cells #[.slice A1 1 a1, .int .i64 g, .slice B1 n b1] 74)).alloc (.cells C 23)).cell? ⟨w2.heap.size, 0, none⟩ = some (.slice A1 1 a1) := Ext.cell hEb (by go_simp)
  have y1 : ((w2.alloc (.cells #[.slice A1 1 a1, .int .i64 g, .slice B1 n b1] 74)).alloc (.cells C 23)).cell? ⟨w2.heap.size, 1, none⟩ = some (.int .i64 g) := Ext.cell hEb (by go_simp)
  have y2 : ((w2.alloc (.cells #[.slice A1 1 a1, .int .i64 g, .slice B1 n b1] 74)).alloc (.cells C 23)).cell? ⟨w2.heap.size, 2, none⟩ = some (.slice B1 n b1) := Ext.cell hEb (by go_simp)
  have yf : ∀ o, ((w2.alloc (.cells #[.slice A1 1 a1, .int .i64 g, .slice B1 n b1] 74)).alloc (.cells C 23)).frozen? ⟨w2.heap.size, o, none⟩ = false := fun o => (Below.frozen hEb (p := ⟨w2.heap.size, o, none⟩) (by first | omega | (simp; omega) | simp)).trans (by go_simp)
  have hm := HMK.out (w2.alloc (.cells #[.slice A1 1 a1, .int .i64 g, .slice B1 n b1] 74)) (w2.heap.size + 1) (w2.heap.size + 1) (by simp) (Nat.le_refl _)
  obtain ⟨g', eg, _, _, h3, hdf⟩ := Ow.pos hm (by rw [List.length_replicate]; omega)
  obtain rfl : g' = w2.heap.size + 1 := by cases eg; rfl
  have hd : ∀ j, j < m → (((w2.alloc (.cells #[.slice A1 1 a1, .int .i64 g, .slice B1 n b1] 74)).alloc (.cells C 23))).cell? ⟨w2.heap.size + 1, j, none⟩ = some (.slice none 0 0) := fun j hj => by
    have := h3 j (by rw [List.length_replicate]; exact hj) 0 (.slice none 0 0) (by rw [List.getD_eq_getElem?_getD, List.getElem?_replicate, if_pos hj]; rfl)
    rw [show j = j * kRow.n + 0 from by show j = j * 1 + 0; omega]
    exact this
  have hd0 := hd 0 (by omega)
  have hdf2 : ∀ o, (((w2.alloc (.cells #[.slice A1 1 a1, .int .i64 g, .slice B1 n b1] 74)).alloc (.cells C 23))).frozen? ⟨w2.heap.size + 1, o, none⟩ = false := hdf
  clear hdf
  have HDD := Lib.hid hd
  have HX3 := Lib.hid (HX2.out.trans hEa)
  have HT3 := Lib.hid (HT.out.ext hEa)
  have HD3 := Lib.hid (HD.out.ext hEa)
  have l4 : w2.heap.size + 1 < (((w2.alloc (.cells #[.slice A1 1 a1, .int .i64 g, .slice B1 n b1] 74)).alloc (.cells C 23))).heap.size := by simp
  have l5 : w2.heap.size < (((w2.alloc (.cells #[.slice A1 1 a1, .int .i64 g, .slice B1 n b1] 74)).alloc (.cells C 23))).heap.size := by simp; omega
  have l6 : w.heap.size < (((w2.alloc (.cells #[.slice A1 1 a1, .int .i64 g, .slice B1 n b1] 74)).alloc (.cells C 23))).heap.size := by simp; omega
  have HZ3 : Hid ((((w2.alloc (.cells #[.slice A1 1 a1, .int .i64 g, .slice B1 n b1] 74)).alloc (.cells C 23))).heap.size = w2.heap.size + 2) := Lib.hid (by simp)
  clear hEa hEb hm h3 eg hd r0 r1 r2 r3 r4 r5 r6 rf hmk2
  generalize hw3 : ((w2.alloc (.cells #[.slice A1 1 a1, .int .i64 g, .slice B1 n b1] 74)).alloc (.cells C 23)) = w3 at *
  clear hw3
  have HG3 : Hid (∀ u0 u1 u2 u3 u4 u5 u6 : Value, GrewTwo w3 (w2.heap.size + 1) w.heap.size ((((((((w3.setCell ⟨w2.heap.size + 1, 0, none⟩ (.slice (some ⟨w3.heap.size, 0, none⟩) 1 1)).setCell ⟨w.heap.size, 0, none⟩ u0).setCell ⟨w.heap.size, 1, none⟩ u1).setCell ⟨w.heap.size, 2, none⟩ u2).setCell ⟨w.heap.size, 3, none⟩ u3).setCell ⟨w.heap.size, 4, none⟩ u4).setCell ⟨w.heap.size, 5, none⟩ u5).setCell ⟨w.heap.size, 6, none⟩ u6)) := Lib.hid (fun u0 u1 u2 u3 u4 u5 u6 => (((((((Grew.setCell (S := fun x => x = w2.heap.size + 1 ∨ x = w.heap.size) (p := ⟨w2.heap.size + 1, 0, none⟩) (Grew.refl _ w3) (.inl rfl) (.slice (some ⟨w3.heap.size, 0, none⟩) 1 1)).setCell (p := ⟨w.heap.size, 0, none⟩) (.inr rfl) _).setCell (p := ⟨w.heap.size, 1, none⟩) (.inr rfl) _).setCell (p := ⟨w.heap.size, 2, none⟩) (.inr rfl) _).setCell (p := ⟨w.heap.size, 3, none⟩) (.inr rfl) _).setCell (p := ⟨w.heap.size, 4, none⟩) (.inr rfl) _).setCell (p := ⟨w.heap.size, 5, none⟩) (.inr rfl) _).setCell (p := ⟨w.heap.size, 6, none⟩) (.inr rfl) _)
  go_wp2_with fail
  refine bodyPost_ret (v := .tuple #[.agg #[.slice A1 1 a1, .int .i64 g, .slice B1 n b1, .slice (some ⟨w2.heap.size + 1, 0, none⟩) m m, .bool false, .int .i64 0, .int .i64 0], .int .i64 0]) (by simp [results, Try.results46, go_sem]; go_simp) rfl ?_
  have hG := HG3.out (.slice A1 1 a1) (.int .i64 g) (.slice B1 n b1) (.slice (some ⟨w2.heap.size + 1, 0, none⟩) m m) (.bool false) (.int .i64 0) (.int .i64 0)
  refine ⟨A1, B1, w2.heap.size + 1, a1, b1, by simp [beginC], ?_, ?_⟩
  · have hGa := hG.alloc (.cells #[.int .i64 0] 3)
    refine ⟨?_, ?_, ⟨fun j => if j = 0 then ⟨some ⟨w3.heap.size, 0, none⟩, 1, 1⟩ else (⟨none, 0, 0⟩ : Hd), by simp [beginC]; omega, fun j hj => ?_⟩, fun hf => by omega⟩
    · have h1 := (Rd.off (S := fun x => (x = w2.heap.size + 1 ∨ x = w.heap.size) ∨ x < w.heap.size) HT3.out (fun a ha hs => by have := HAB.out.1 a ha; omega)).grew (hGa.mono (fun x _ hx => .inl hx))
      exact h1.mono (fun _ _ hf => .inr hf)
    · have h1 := (Rd.off (S := fun x => (x = w2.heap.size + 1 ∨ x = w.heap.size) ∨ x < w.heap.size) HD3.out (fun a ha hs => by have := HAB.out.2 a ha; omega)).grew (hGa.mono (fun x _ hx => .inl hx))
      have e : (beginC n m).dn.length = n := by simp [beginC]
      rw [e]
      exact h1.mono (fun _ _ hf => .inr hf)
    · by_cases e : j = 0
      · subst e
        dsimp only
        rw [if_pos rfl]
        refine ⟨by simp only [Nat.zero_add]; go_simp, rfl, ?_⟩
        refine Rd.off (Ow.rd (K := kInt) (B := 0) (Ow.lit (K := kInt) (p := w3.heap.size) (n := 1) _ [0] #[.int .i64 0] rfl rfl ?_ (Nat.zero_le _) (by simp [maxLen]) ?_)) (fun a ha hs => ?_)
        · simp
        · intro x hx; simp only [List.mem_singleton] at hx; subst hx; exact in64_nat 0 (by omega)
        · cases ha
          have h9 := HZ3.out
          simp only at hs
          omega
      · dsimp only
        rw [if_neg e]
        have e2 : (beginC n m).D.getD j [] = [] := by
          unfold beginC
          obtain ⟨k, rfl⟩ : ∃ k, j = k + 1 := ⟨j - 1, by omega⟩
          simp only [List.getD_cons_succ]
          rw [List.getD_eq_getElem?_getD, List.getElem?_replicate]; split <;> rfl
        rw [e2]
        refine ⟨?_, rfl, RdO.nil _ _ _ _⟩
        rw [Nat.zero_add]
        have h1 := HDD.out j hj
        have n1 : ¬ w2.heap.size + 1 = w.heap.size := by omega
        have h2 : (w3.setCell ⟨w2.heap.size + 1, 0, none⟩ (.slice (some ⟨w3.heap.size, 0, none⟩) 1 1)).cell? ⟨w2.heap.size + 1, j, none⟩ = some (.slice none 0 0) := by
          rw [World.cell?_setCell_other _ _ _ _ (fun e' => e (by cases e'; rfl))]; exact h1
        refine Ext.cell ((Ext.refl _).alloc _) ?_
        refine Grew.cell (S := fun x => x = w.heap.size) (w := w3.setCell ⟨w2.heap.size + 1, 0, none⟩ (.slice (some ⟨w3.heap.size, 0, none⟩) 1 1)) ?_ h2 (by omega)
        exact ((((((Grew.setCell (S := fun x => x = w.heap.size) (p := ⟨w.heap.size, 0, none⟩) (Grew.refl _ _) rfl _).setCell (p := ⟨w.heap.size, 1, none⟩) rfl _).setCell (p := ⟨w.heap.size, 2, none⟩) rfl _).setCell (p := ⟨w.heap.size, 3, none⟩) rfl _).setCell (p := ⟨w.heap.size, 4, none⟩) rfl _).setCell (p := ⟨w.heap.size, 5, none⟩) rfl _).setCell (p := ⟨w.heap.size, 6, none⟩) rfl _
  · exact (hG.toExt HX3.out (fun b hb => by rcases hb with rfl | rfl <;> omega)).alloc _
end Go.Proofs.Ytggjjjfdkgfoiaa

/- The document's Begin of work in new memory (ref04), and its Begin of a crew (ref05). -/
namespace Go.Proofs.Ytggjjjfdkgfoiaa
open Go.BigFrame
open Go.RowKit Go.Proofs.Ytggjjjfdkgfoiaa.Plain

def RBeginNew (w : World) (n g : Int) (e : Ending) (w' : World) : Prop :=
  ∃ A c B d, e = .returned (.tuple #[.agg #[.slice A 1 c, .int .i64 g, .slice B n.toNat d], .int .i64 0]) ∧
    Rd kTask w' (.slice A 1 c) [⟨0, n, -1, 0⟩] ∧ Rd kBool w' (.slice B n.toNat d) (List.replicate n.toNat false) ∧ From w.heap.size A ∧ From w.heap.size B ∧ Ext w w'
set_option maxHeartbeats 800000 in
set_option maxRecDepth 100000 in
theorem rbegin_new (n g : Int) (w : World) (hn : in64 n) (hg : in64 g) (hc : cOk n g = true) :
    Calls Try.prog 57 #[.int .i64 n, .int .i64 g] w (RBeginNew w n g) := by
  unfold in64 at hn hg
  obtain ⟨a1, a2, a3, a4⟩ : 1 ≤ n ∧ n ≤ 1000 ∧ 1 ≤ g ∧ g ≤ 100 := by unfold cOk at hc; simp only [Bool.and_eq_true, decide_eq_true_eq] at hc; omega
  obtain ⟨N, rfl⟩ : ∃ N : Nat, n = N := ⟨n.toNat, by omega⟩
  clear hc
  obtain ⟨C, hmk, hown⟩ := kBool.make false rfl trivial N (by omega)
  have hmk' : ∀ w : World, (Instr.makeSlice 55 (.int .i64 N) (.int .i64 N)).run Try.prog w = .ok (.slice (some ⟨w.heap.size, 0, none⟩) N N) (w.alloc (.cells C 4)) := hmk
  have HO := Lib.hid hown
  clear hmk hown
  go_enter Try.func57, Try.ntmps57
  go_wp2
  refine bodyPost_ret (v := .tuple #[.agg #[.slice (some ⟨w.heap.size + 1, 0, none⟩) 1 1, .int .i64 g, .slice (some ⟨w.heap.size + 1 + 1, 0, none⟩) N N], .int .i64 0]) (by simp [results, Try.results57, go_sem]) rfl ⟨_, 1, _, N, rfl, ?_, ?_, fun a ha => by cases ha; simp only; omega, fun a ha => by cases ha; simp only; omega, ?_⟩
  · exact (Ow.lit (K := kTask) (B := 0) (p := w.heap.size + 1) _ [⟨0, N, -1, 0⟩] #[.int .i64 0, .int .i64 N, .int .i64 (-1), .int .i64 0] rfl rfl (by simp) (Nat.zero_le _) (by simp [maxLen]) (by intro x hx; simp only [List.mem_singleton] at hx; subst hx; exact tk_ok (by unfold in64; omega) (by unfold in64; omega) (by unfold in64; omega) (by unfold in64; omega))).rd.ext ((Ext.refl _).alloc _)
  · exact (HO.out _ 0 (w.heap.size + 1 + 1) (by simp) (Nat.zero_le _)).rd
  · exact (((Ext.refl w).alloc _).alloc _).alloc _

/-- what Begin leaves: in new memory -/
def RBegin5Said (n g m : Nat) (w : World) (ed : Ending) (w' : World) : Prop :=
  ∃ (A B : Option Addr) (e0 a b : Nat), ed = .returned (.tuple #[crewV A B e0 0 a b m g m (beginC n m), .int .i64 0]) ∧ CrewO (fun x => x < w.heap.size) w' m (beginC n m) A B e0 0 a b ∧ Ext w w'
/-- behind the making -/
def BegCut (w2 : World) (n g m : Nat) (A1 B1 : Option Addr) (a1 b1 : Nat) (p : Value) (wx : World) : Prop :=
  ∃ C E, p = .pointer (some ⟨C, 0, none⟩) ∧ Ow kRow w2.heap.size wx (.slice (some ⟨E, 0, none⟩) m m) (List.replicate m hd0) ∧ wx.heap[C]? = some (.cells #[.slice A1 1 a1, .int .i64 g, .slice B1 n b1, .slice (some ⟨E, 0, none⟩) m m, .bool false, .int .i64 0, .int .i64 0] 77) ∧ w2.heap.size ≤ C ∧ Ext w2 wx

set_option maxHeartbeats 1600000 in
set_option maxRecDepth 100000 in
theorem rbegin5_any (n g m : Nat) (w : World) (n1 : 1 ≤ n) (n2 : n ≤ 1000) (g1 : 1 ≤ g) (g2 : g ≤ 100) (m1 : 1 ≤ m) (m2 : m ≤ 8) :
    Calls Try.prog 50 #[.int .i64 n, .int .i64 g, .int .i64 m] w (RBegin5Said n g m w) := by
  have HCK : Hid (cOk (n : Int) (g : Int) = true) := Lib.hid (by unfold cOk; simp; omega)
  have HNI : Hid (in64 (n : Int)) := Lib.hid (in64_nat n (by omega))
  have HGI : Hid (in64 (g : Int)) := Lib.hid (in64_nat g (by omega))
  have m3 : (1 : Int) ≤ m := by omega
  have m4 : (m : Int) ≤ 8 := by omega
  have m5 : (0 : Int) < m := by omega
  have m6 : 0 < m := by omega
  obtain ⟨C, hmk, hmown⟩ := kRow.make hd0 rfl trivial m (by omega)
  have HMK := Lib.hid hmown
  have hmk2 : ∀ w : World, (Instr.makeSlice 75 (.int .i64 m) (.int .i64 m)).run Try.prog w = .ok (.slice (some ⟨w.heap.size, 0, none⟩) m m) (w.alloc (.cells C 23)) := hmk
  clear hmk hmown
  go_enter Try.func50, Try.ntmps50
  go_wp2_with fail
  refine (rbegin_new (n : Int) (g : Int) _ HNI.out HGI.out HCK.out).mono ?_
  rintro ed w2 ⟨A1, a1, B1, b1, rfl, hT, hD, hA, hB, hE⟩
  rw [Int.toNat_natCast] at hD ⊢
  have HAB : Hid ((∀ a, A1 = some a → w.heap.size + 1 ≤ a.block ∧ a.block < w2.heap.size) ∧ (∀ a, B1 = some a → w.heap.size + 1 ≤ a.block ∧ a.block < w2.heap.size)) := Lib.hid ⟨fun a ha => ⟨by have := hA a ha; simpa using this, Rd.lt hT (by simp) a ha⟩, fun a ha => ⟨by have := hB a ha; simpa using this, Rd.lt hD (by simp; omega) a ha⟩⟩
  clear hA hB
  have r0 : w2.cell? ⟨w.heap.size, 0, none⟩ = some (.slice none 0 0) := Ext.cell hE (by go_simp)
  have r1 : w2.cell? ⟨w.heap.size, 1, none⟩ = some (.int .i64 0) := Ext.cell hE (by go_simp)
  have r2 : w2.cell? ⟨w.heap.size, 2, none⟩ = some (.slice none 0 0) := Ext.cell hE (by go_simp)
  have r3 : w2.cell? ⟨w.heap.size, 3, none⟩ = some (.slice none 0 0) := Ext.cell hE (by go_simp)
  have r4 : w2.cell? ⟨w.heap.size, 4, none⟩ = some (.bool false) := Ext.cell hE (by go_simp)
  have r5 : w2.cell? ⟨w.heap.size, 5, none⟩ = some (.int .i64 0) := Ext.cell hE (by go_simp)
  have r6 : w2.cell? ⟨w.heap.size, 6, none⟩ = some (.int .i64 0) := Ext.cell hE (by go_simp)
  have rf : ∀ o, w2.frozen? ⟨w.heap.size, o, none⟩ = false := fun o => (Below.frozen hE (p := ⟨w.heap.size, o, none⟩) (by first | omega | (simp; omega) | simp)).trans (by go_simp)
  have HT := Lib.hid hT
  have HD := Lib.hid hD
  have hz := hE.size
  simp at hz
  have HX2 := Lib.hid (((Ext.refl w).alloc _).trans hE)
  have HRR : Hid (∀ W, Ext w2 W → W.cell? ⟨w.heap.size, 0, none⟩ = some (.slice none 0 0) ∧ W.cell? ⟨w.heap.size, 1, none⟩ = some (.int .i64 0) ∧ W.cell? ⟨w.heap.size, 2, none⟩ = some (.slice none 0 0) ∧ W.cell? ⟨w.heap.size, 3, none⟩ = some (.slice none 0 0) ∧ W.cell? ⟨w.heap.size, 4, none⟩ = some (.bool false) ∧ W.cell? ⟨w.heap.size, 5, none⟩ = some (.int .i64 0) ∧ W.cell? ⟨w.heap.size, 6, none⟩ = some (.int .i64 0) ∧ ∀ o, W.frozen? ⟨w.heap.size, o, none⟩ = false) := Lib.hid fun W h => ⟨h.cell r0, h.cell r1, h.cell r2, h.cell r3, h.cell r4, h.cell r5, h.cell r6, fun o => (Below.frozen h (p := ⟨w.heap.size, o, none⟩) (by show w.heap.size < w2.heap.size; omega)).trans (rf o)⟩
  clear hT hD hE r0 r1 r2 r3 r4 r5 r6 rf
  go_upto_region 6 with fail
  go_cut [10] (fun p wx => BegCut w2 n g m A1 B1 a1 b1 p wx)
  case first =>
    go_region
    all_goals go_wp2_with fail
    all_goals go_meet
    · refine ⟨w2.heap.size + 1 + 1, w2.heap.size + 1, rfl, ?_, (by
        have h := fun (a b c : Obj) => block_keep (heap_alloc_new ((w2.alloc a).alloc b) c) (Ext.refl _).drew
        simp only [World.size_alloc] at h
        exact h _ _ _), by omega, ?_⟩
      · refine (HMK.out (w2.alloc (.cells #[.slice A1 1 a1, .int .i64 g, .slice B1 n b1] 74)) w2.heap.size (w2.heap.size + 1) (by simp) (by omega)).ext ?_
        repeat (first | exact Ext.refl _ | refine Ext.alloc ?_ _ | refine Ext.drew ?_ | refine Ext.setCell ?_ (by simp) _)
      · repeat (first | exact Ext.refl _ | refine Ext.alloc ?_ _ | refine Ext.drew ?_ | refine Ext.setCell ?_ (by simp) _)
    · refine ⟨w2.heap.size + 1, w2.heap.size + 1 + 1, rfl, ?_, (by
        have h := fun (a b c : Obj) => block_keep (heap_alloc_new (w2.alloc a) b) ((Ext.refl _).alloc c).drew
        simp only [World.size_alloc] at h
        exact h _ _ _), by omega, ?_⟩
      · refine (HMK.out ((w2.alloc (.cells #[.slice A1 1 a1, .int .i64 g, .slice B1 n b1] 74)).alloc (.cells #[.slice A1 1 a1, .int .i64 g, .slice B1 n b1, .slice (some ⟨w2.heap.size + 1 + 1, 0, none⟩) m m, .bool false, .int .i64 0, .int .i64 0] 77)) w2.heap.size (w2.heap.size + 1 + 1) (by simp) (by omega)).ext ?_
        repeat (first | exact Ext.refl _ | refine Ext.alloc ?_ _ | refine Ext.drew ?_ | refine Ext.setCell ?_ (by simp) _)
      · repeat (first | exact Ext.refl _ | refine Ext.alloc ?_ _ | refine Ext.drew ?_ | refine Ext.setCell ?_ (by simp) _)
  case rest =>
  obtain ⟨C', E, rfl, hm, hC, hlC, hE2⟩ := hcut
  generalize wc = wx at *
  obtain ⟨g', eg, _, _, h3, hdf⟩ := Ow.pos hm (by rw [List.length_replicate]; omega)
  obtain rfl : E = g' := by cases eg; rfl
  have hd : ∀ j, j < m → wx.cell? ⟨E, j, none⟩ = some (.slice none 0 0) := fun j hj => by
    have := h3 j (by rw [List.length_replicate]; exact hj) 0 (.slice none 0 0) (by rw [List.getD_eq_getElem?_getD, List.getElem?_replicate, if_pos hj]; rfl)
    rw [show j = j * kRow.n + 0 from by show j = j * 1 + 0; omega]
    exact this
  have hd0 := hd 0 (by omega)
  have hdf2 : ∀ o, wx.frozen? ⟨E, o, none⟩ = false := hdf
  have l4 := (hm.lt E rfl).2
  have lE := (hm.lt E rfl).1
  have nEC : ¬ E = C' := fun hh => Ow.notBox hm hC (by decide) (by rw [← hh]; rfl)
  have nCE : ¬ C' = E := fun hh => nEC hh.symm
  have nER : ¬ E = w.heap.size := by omega
  have nCR : ¬ C' = w.heap.size := by omega
  have nRE : ¬ w.heap.size = E := by omega
  have nRC : ¬ w.heap.size = C' := by omega
  clear hdf h3 eg
  have x0 : wx.cell? ⟨C', 0, none⟩ = some (.slice A1 1 a1) := (cell_of_row wx C' 0 _ _ _ hC).trans rfl
  have x1 : wx.cell? ⟨C', 1, none⟩ = some (.int .i64 g) := (cell_of_row wx C' 1 _ _ _ hC).trans rfl
  have x2 : wx.cell? ⟨C', 2, none⟩ = some (.slice B1 n b1) := (cell_of_row wx C' 2 _ _ _ hC).trans rfl
  have x3 : wx.cell? ⟨C', 3, none⟩ = some (.slice (some ⟨E, 0, none⟩) m m) := (cell_of_row wx C' 3 _ _ _ hC).trans rfl
  have x4 : wx.cell? ⟨C', 4, none⟩ = some (.bool false) := (cell_of_row wx C' 4 _ _ _ hC).trans rfl
  have x5 : wx.cell? ⟨C', 5, none⟩ = some (.int .i64 0) := (cell_of_row wx C' 5 _ _ _ hC).trans rfl
  have x6 : wx.cell? ⟨C', 6, none⟩ = some (.int .i64 0) := (cell_of_row wx C' 6 _ _ _ hC).trans rfl
  have lC := block_lt hC
  obtain ⟨r0, r1, r2, r3, r4, r5, r6, rf⟩ := HRR.out wx hE2
  have l6 : w.heap.size < wx.heap.size := by omega
  have HDD := Lib.hid hd
  have HX3 := Lib.hid (HX2.out.trans hE2)
  have HT3 := Lib.hid (HT.out.ext hE2)
  have HD3 := Lib.hid (HD.out.ext hE2)
  have HG3 : Hid (∀ u0 u1 u2 u3 u4 u5 u6 : Value, GrewTwo wx E w.heap.size ((((((((wx.setCell ⟨E, 0, none⟩ (.slice (some ⟨wx.heap.size, 0, none⟩) 1 1)).setCell ⟨w.heap.size, 0, none⟩ u0).setCell ⟨w.heap.size, 1, none⟩ u1).setCell ⟨w.heap.size, 2, none⟩ u2).setCell ⟨w.heap.size, 3, none⟩ u3).setCell ⟨w.heap.size, 4, none⟩ u4).setCell ⟨w.heap.size, 5, none⟩ u5).setCell ⟨w.heap.size, 6, none⟩ u6)) := Lib.hid (fun u0 u1 u2 u3 u4 u5 u6 => (((((((Grew.setCell (S := fun x => x = E ∨ x = w.heap.size) (p := ⟨E, 0, none⟩) (Grew.refl _ wx) (.inl rfl) (.slice (some ⟨wx.heap.size, 0, none⟩) 1 1)).setCell (p := ⟨w.heap.size, 0, none⟩) (.inr rfl) _).setCell (p := ⟨w.heap.size, 1, none⟩) (.inr rfl) _).setCell (p := ⟨w.heap.size, 2, none⟩) (.inr rfl) _).setCell (p := ⟨w.heap.size, 3, none⟩) (.inr rfl) _).setCell (p := ⟨w.heap.size, 4, none⟩) (.inr rfl) _).setCell (p := ⟨w.heap.size, 5, none⟩) (.inr rfl) _).setCell (p := ⟨w.heap.size, 6, none⟩) (.inr rfl) _)
  clear hm hC hE2 hd hmk2
  go_wp2_with fail
  refine bodyPost_ret (v := .tuple #[.agg #[.slice A1 1 a1, .int .i64 g, .slice B1 n b1, .slice (some ⟨E, 0, none⟩) m m, .bool false, .int .i64 0, .int .i64 0], .int .i64 0]) (by simp [results, Try.results50, go_sem]; go_simp) rfl ?_
  have hG := HG3.out (.slice A1 1 a1) (.int .i64 g) (.slice B1 n b1) (.slice (some ⟨E, 0, none⟩) m m) (.bool false) (.int .i64 0) (.int .i64 0)
  refine ⟨A1, B1, E, a1, b1, by simp [beginC], ?_, ?_⟩
  · have hGa := hG.alloc (.cells #[.int .i64 0] 3)
    refine ⟨?_, ?_, ⟨fun j => if j = 0 then ⟨some ⟨wx.heap.size, 0, none⟩, 1, 1⟩ else (⟨none, 0, 0⟩ : Hd), by simp [beginC]; omega, fun j hj => ?_⟩, fun hf => by omega⟩
    · have h1 := (Rd.off (S := fun x => x = E ∨ x = w.heap.size ∨ x < w.heap.size) HT3.out (fun a ha hs => by have := HAB.out.1 a ha; omega)).grew (hGa.mono (fun x _ hx => by rcases hx with hx | hx; exact .inl hx; exact .inr (.inl hx)))
      exact h1.mono (fun x _ hx => .inr (.inr hx))
    · have h1 := (Rd.off (S := fun x => x = E ∨ x = w.heap.size ∨ x < w.heap.size) HD3.out (fun a ha hs => by have := HAB.out.2 a ha; omega)).grew (hGa.mono (fun x _ hx => by rcases hx with hx | hx; exact .inl hx; exact .inr (.inl hx)))
      have e : (beginC n m).dn.length = n := by simp [beginC]
      rw [e]
      exact h1.mono (fun x _ hx => .inr (.inr hx))
    · by_cases e : j = 0
      · subst e
        dsimp only
        rw [if_pos rfl]
        refine ⟨by simp only [Nat.zero_add]; go_simp, rfl, ?_⟩
        refine Rd.off (Ow.rd (K := kInt) (B := 0) (Ow.lit (K := kInt) (p := wx.heap.size) (n := 1) _ [0] #[.int .i64 0] rfl rfl ?_ (Nat.zero_le _) (by simp [maxLen]) ?_)) (fun a ha hs => by cases ha; have hs' : wx.heap.size < w.heap.size := hs; omega)
        · simp
        · intro x hx; simp only [List.mem_singleton] at hx; subst hx; exact in64_nat 0 (by omega)
      · dsimp only
        rw [if_neg e]
        have e2 : (beginC n m).D.getD j [] = [] := by
          unfold beginC
          obtain ⟨k, rfl⟩ : ∃ k, j = k + 1 := ⟨j - 1, by omega⟩
          simp only [List.getD_cons_succ]
          rw [List.getD_eq_getElem?_getD, List.getElem?_replicate]; split <;> rfl
        rw [e2]
        refine ⟨?_, rfl, RdO.nil _ _ _ _⟩
        rw [Nat.zero_add]
        have h1 := HDD.out j hj
        have h2 : (wx.setCell ⟨E, 0, none⟩ (.slice (some ⟨wx.heap.size, 0, none⟩) 1 1)).cell? ⟨E, j, none⟩ = some (.slice none 0 0) := by
          rw [World.cell?_setCell_other _ _ _ _ (fun e' => e (by cases e'; rfl))]; exact h1
        refine Ext.cell ((Ext.refl _).alloc _) ?_
        refine Grew.cell (S := fun x => x = w.heap.size) (w := wx.setCell ⟨E, 0, none⟩ (.slice (some ⟨wx.heap.size, 0, none⟩) 1 1)) ?_ h2 (by omega)
        exact (((((((Grew.setCell (S := fun x => x = w.heap.size) (p := ⟨w.heap.size, 0, none⟩) (Grew.refl _ _) rfl _).setCell (p := ⟨w.heap.size, 1, none⟩) rfl _).setCell (p := ⟨w.heap.size, 2, none⟩) rfl _).setCell (p := ⟨w.heap.size, 3, none⟩) rfl _).setCell (p := ⟨w.heap.size, 4, none⟩) rfl _).setCell (p := ⟨w.heap.size, 5, none⟩) rfl _).setCell (p := ⟨w.heap.size, 6, none⟩) rfl _)
  · exact (hG.toExt HX3.out (fun b hb => by rcases hb with rfl | rfl <;> omega)).alloc _
end Go.Proofs.Ytggjjjfdkgfoiaa
