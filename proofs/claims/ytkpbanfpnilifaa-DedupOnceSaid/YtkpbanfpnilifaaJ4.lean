/- Joined by wip/merge.py: CrCopy, CrStep, CrStp, R5E, CrRun, CrTk, DrP, DrO, DrW, R6A, TBeginN, CrBegin, R5F, R6B, R6C, R7A, R7B, R7C, R7D, S8P, P9P, R10P, R11P, HasW, S8R, S8S, S8T, R11A, TCount, F7B, R10O, R10R, R10S, P9R, R11G, R11E. -/
import Derived.Test.YtkpbanfpnilifaaJ3
import Derived.Deep.DeepCutAuto
import Derived.BigRegion
import Derived.Deep.RegionHeld3
import Derived.Deep.RegionLaw
import Derived.BigQuiet
import Derived.Laws.BitsAllLaws
import Derived.IntWalk
import Derived.Deep.RegionLawGrows
import Derived.Deep.QuietTactic
import Derived.StillTailTactics
import Derived.Deep.CutBlock
set_option linter.unusedVariables false
set_option linter.unusedSimpArgs false
set_option linter.unnecessarySimpa false
/- The program's copy of a crew: memory of its own. -/
namespace Go.Proofs.Ytkpbanfpnilifaa
open Go.BigFrame
open Go.RowKit Go.Proofs.Ytkpbanfpnilifaa.Plain

theorem Ow.off {α : Type} {K : Kd α} {S : Nat → Prop} {B n c : Nat} {w : World} {A : Option Addr} {xs : List α} (h : Ow K B w (.slice A n c) xs) (hS : ∀ x, S x → x < B ∨ w.heap.size ≤ x) : RdO K S w (.slice A n c) xs :=
  h.rd.off fun a ha hs => by
    subst ha
    have := h.lt a.block rfl
    have := hS _ hs
    omega
/-- while deques are cloned, one after the other -/
structure CopyAt (S : Nat → Prop) (w1 : World) (e0 m k : Nat) (D : List (List Nat)) (hs : Nat → Hd) (wr : World) : Prop where
  done : ∀ j, j < k → wr.cell? ⟨e0, j, none⟩ = some (hs j).v ∧ (hs j).n = (D.getD j []).length ∧ ((hs j).n = 0 → (hs j).c = 0) ∧ RdO kInt S wr (hs j).v (zs (D.getD j []))
  rest : ∀ j, k ≤ j → j < m → wr.cell? ⟨e0, j, none⟩ = some (.slice none 0 0)
  frz : ∀ o, wr.frozen? ⟨e0, o, none⟩ = false
  grew : Grew (fun b => b = e0) w1 wr
theorem CopyAt.next {S : Nat → Prop} {w1 wr w2 : World} {e0 m k : Nat} {D : List (List Nat)} {hs : Nat → Hd} (h : CopyAt S w1 e0 m k D hs wr) (sE : S e0) (lE : e0 < wr.heap.size) (hE : Ext wr w2) (x : Hd) (hn : x.n = (D.getD k []).length) (hc : x.n = 0 → x.c = 0) (hr : RdO kInt S w2 x.v (zs (D.getD k []))) (hk : k < m) :
    CopyAt S w1 e0 m (k + 1) D (fun j => if j = k then x else hs j) (w2.setCell ⟨e0, k, none⟩ x.v) := by
  have hold : w2.cell? ⟨e0, k, none⟩ = some (.slice none 0 0) := hE.cell (h.rest k (Nat.le_refl _) hk)
  have hfz : w2.frozen? ⟨e0, k, none⟩ = false := (Below.frozen hE (p := ⟨e0, k, none⟩) lE).trans (h.frz k)
  refine ⟨fun j hj => ?_, fun j hj hjm => ?_, fun o => ?_, (h.grew.ext hE).setCell rfl _⟩
  · by_cases e : j = k
    · subst e
      rw [if_pos rfl]
      exact ⟨by go_simp, hn, hc, hr.setCell sE _⟩
    · rw [if_neg e]
      obtain ⟨h1, h2, h3, h4⟩ := h.done j (by omega)
      refine ⟨?_, h2, h3, (h4.ext hE).setCell sE _⟩
      rw [World.cell?_setCell_other _ _ _ _ (fun e' => e (by cases e'; rfl))]
      exact hE.cell h1
  · rw [World.cell?_setCell_other _ _ _ _ (fun e' => by cases e'; omega)]
    exact hE.cell (h.rest j (by omega) hjm)
  · rw [World.frozen?_setCell]
    exact (Below.frozen hE (p := ⟨e0, o, none⟩) lE).trans (h.frz o)

set_option maxHeartbeats 1600000 in
set_option maxRecDepth 100000 in
theorem ccopy_any (A B : Option Addr) (eb eo a b e g m : Nat) (c : Cw) (w : World) (h : CrewAt w m c A B eb eo a b) (me : m ≤ e) (m1 : 1 ≤ m) (m2 : m ≤ 8) (lt : c.ts.length ≤ 1000000) (ln : c.dn.length ≤ 1000000) (lh : ∀ j, (c.D.getD j []).length ≤ 1000000) :
    Calls Try.prog 52 #[crewV A B eb eo a b e g m c] w fun ed w' => ∃ (A' B' : Option Addr) (e0 a' b' : Nat) (hs : Nat → Hd), ed = .returned (crewV A' B' e0 0 a' b' m g m c) ∧
      w.heap.size ≤ e0 ∧ e0 < w'.heap.size ∧ (∀ o, w'.frozen? ⟨e0, o, none⟩ = false) ∧
      RdO kTask (fun x => x < w.heap.size + 2 ∨ x = e0) w' (.slice A' c.ts.length a') c.ts ∧ RdO kBool (fun x => x < w.heap.size + 2 ∨ x = e0) w' (.slice B' c.dn.length b') c.dn ∧
      (∀ j, j < m → w'.cell? ⟨e0, j, none⟩ = some (hs j).v ∧ (hs j).n = (c.D.getD j []).length ∧ ((hs j).n = 0 → (hs j).c = 0) ∧ RdO kInt (fun x => x < w.heap.size + 2 ∨ x = e0) w' (hs j).v (zs (c.D.getD j []))) ∧ Ext w w' := by
  have HH := Lib.hid h
  have HLH := Lib.hid lh
  obtain ⟨hs0, hds⟩ := h.deq
  have HDS := Lib.hid hds
  have HDL : Hid (c.D.length = m) := Lib.hid hds.1
  have m3 : (m : Int) ≤ 8 := by omega
  have m4 : (1 : Int) ≤ m := by omega
  have m5 : (m : Int) ≤ e := by omega
  obtain ⟨C, hmk, hmown⟩ := kRow.make hd0 rfl trivial m (by omega)
  have HMK := Lib.hid hmown
  have hmk2 : ∀ w : World, (Instr.makeSlice 79 (.int .i64 m) (.int .i64 m)).run Try.prog w = .ok (.slice (some ⟨w.heap.size, 0, none⟩) m m) (w.alloc (.cells C 30)) := hmk
  clear hmk h hds hmown lh
  go_enter Try.func52, Try.ntmps52
  go_wp2_with fail
  refine (clone_t _ c.ts _ (HH.out.tsk.rd.ext (((Ext.refl _).alloc _).alloc _)) (by omega)).mono ?_
  rintro ed w1 ⟨A1, a1, rfl, hT1, hE1⟩
  have v0 : w1.cell? ⟨w.heap.size, 0, none⟩ = some (.slice A c.ts.length a) := Ext.cell hE1 (by go_simp)
  have v1 : w1.cell? ⟨w.heap.size, 1, none⟩ = some (.int .i64 g) := Ext.cell hE1 (by go_simp)
  have v2 : w1.cell? ⟨w.heap.size, 2, none⟩ = some (.slice B c.dn.length b) := Ext.cell hE1 (by go_simp)
  have v3 : w1.cell? ⟨w.heap.size, 3, none⟩ = some (.slice (some ⟨eb, eo, none⟩) m e) := Ext.cell hE1 (by go_simp)
  have v4 : w1.cell? ⟨w.heap.size, 4, none⟩ = some (.bool c.over) := Ext.cell hE1 (by go_simp)
  have v5 : w1.cell? ⟨w.heap.size, 5, none⟩ = some (.int .i64 c.st) := Ext.cell hE1 (by go_simp)
  have v6 : w1.cell? ⟨w.heap.size, 6, none⟩ = some (.int .i64 c.id) := Ext.cell hE1 (by go_simp)
  have vf : ∀ o, w1.frozen? ⟨w.heap.size, o, none⟩ = false := fun o => (Below.frozen hE1 (p := ⟨w.heap.size, o, none⟩) (by first | omega | (simp; omega) | simp)).trans (by go_simp)
  have r0 : w1.cell? ⟨w.heap.size + 1, 0, none⟩ = some (.slice none 0 0) := Ext.cell hE1 (by go_simp)
  have r1 : w1.cell? ⟨w.heap.size + 1, 1, none⟩ = some (.int .i64 0) := Ext.cell hE1 (by go_simp)
  have r2 : w1.cell? ⟨w.heap.size + 1, 2, none⟩ = some (.slice none 0 0) := Ext.cell hE1 (by go_simp)
  have r3 : w1.cell? ⟨w.heap.size + 1, 3, none⟩ = some (.slice none 0 0) := Ext.cell hE1 (by go_simp)
  have r4 : w1.cell? ⟨w.heap.size + 1, 4, none⟩ = some (.bool false) := Ext.cell hE1 (by go_simp)
  have r5 : w1.cell? ⟨w.heap.size + 1, 5, none⟩ = some (.int .i64 0) := Ext.cell hE1 (by go_simp)
  have r6 : w1.cell? ⟨w.heap.size + 1, 6, none⟩ = some (.int .i64 0) := Ext.cell hE1 (by go_simp)
  have rf : ∀ o, w1.frozen? ⟨w.heap.size + 1, o, none⟩ = false := fun o => (Below.frozen hE1 (p := ⟨w.heap.size + 1, o, none⟩) (by first | omega | (simp; omega) | simp)).trans (by go_simp)
  have hz1 := hE1.size
  simp at hz1
  have l1 : w.heap.size < w1.heap.size := by omega
  have l1' : w.heap.size + 1 < w1.heap.size := by omega
  have HT1 := Lib.hid hT1
  have HX1 := Lib.hid (((((Ext.refl w).alloc _).alloc _).trans hE1).setCell (p := ⟨w.heap.size, 0, none⟩) (Nat.le_refl _) (.slice A1 c.ts.length a1))
  clear hE1 hT1
  go_wp2_with fail
  refine (clone_b _ c.dn _ (HH.out.dns.rd.ext HX1.out) (by omega)).mono ?_
  rintro ed w2 ⟨B1, b1, rfl, hD1, hE2⟩
  have y0 : w2.cell? ⟨w.heap.size, 0, none⟩ = some (.slice A1 c.ts.length a1) := Ext.cell hE2 (by go_simp)
  have y1 : w2.cell? ⟨w.heap.size, 1, none⟩ = some (.int .i64 g) := Ext.cell hE2 (by go_simp)
  have y2 : w2.cell? ⟨w.heap.size, 2, none⟩ = some (.slice B c.dn.length b) := Ext.cell hE2 (by go_simp)
  have y3 : w2.cell? ⟨w.heap.size, 3, none⟩ = some (.slice (some ⟨eb, eo, none⟩) m e) := Ext.cell hE2 (by go_simp)
  have y4 : w2.cell? ⟨w.heap.size, 4, none⟩ = some (.bool c.over) := Ext.cell hE2 (by go_simp)
  have y5 : w2.cell? ⟨w.heap.size, 5, none⟩ = some (.int .i64 c.st) := Ext.cell hE2 (by go_simp)
  have y6 : w2.cell? ⟨w.heap.size, 6, none⟩ = some (.int .i64 c.id) := Ext.cell hE2 (by go_simp)
  have yf : ∀ o, w2.frozen? ⟨w.heap.size, o, none⟩ = false := fun o => (Below.frozen hE2 (p := ⟨w.heap.size, o, none⟩) (by first | omega | (simp; omega) | simp)).trans (by go_simp)
  have s0 : w2.cell? ⟨w.heap.size + 1, 0, none⟩ = some (.slice none 0 0) := Ext.cell hE2 (by go_simp)
  have s1 : w2.cell? ⟨w.heap.size + 1, 1, none⟩ = some (.int .i64 0) := Ext.cell hE2 (by go_simp)
  have s2 : w2.cell? ⟨w.heap.size + 1, 2, none⟩ = some (.slice none 0 0) := Ext.cell hE2 (by go_simp)
  have s3 : w2.cell? ⟨w.heap.size + 1, 3, none⟩ = some (.slice none 0 0) := Ext.cell hE2 (by go_simp)
  have s4 : w2.cell? ⟨w.heap.size + 1, 4, none⟩ = some (.bool false) := Ext.cell hE2 (by go_simp)
  have s5 : w2.cell? ⟨w.heap.size + 1, 5, none⟩ = some (.int .i64 0) := Ext.cell hE2 (by go_simp)
  have s6 : w2.cell? ⟨w.heap.size + 1, 6, none⟩ = some (.int .i64 0) := Ext.cell hE2 (by go_simp)
  have sf : ∀ o, w2.frozen? ⟨w.heap.size + 1, o, none⟩ = false := fun o => (Below.frozen hE2 (p := ⟨w.heap.size + 1, o, none⟩) (by first | omega | (simp; omega) | simp)).trans (by go_simp)
  have hz2 := hE2.size
  simp at hz2
  have l2 : w.heap.size < w2.heap.size := by omega
  have l2' : w.heap.size + 1 < w2.heap.size := by omega
  have HD1 := Lib.hid hD1
  have HT2 := Lib.hid ((HT1.out.setBelow (p := ⟨w.heap.size, 0, none⟩) (by simp; omega) (.slice A1 c.ts.length a1)).ext hE2)
  have HX2 := Lib.hid ((HX1.out.trans hE2).setCell (p := ⟨w.heap.size, 2, none⟩) (Nat.le_refl _) (.slice B1 c.dn.length b1))
  clear hE2 hD1 v0 v1 v2 v3 v4 v5 v6 vf r0 r1 r2 r3 r4 r5 r6 rf
  go_wp2_with fail
  obtain ⟨e0, he0⟩ : ∃ e0, w2.heap.size = e0 := ⟨_, rfl⟩
  have HT3 : Hid (RdO kTask (fun x => x < w.heap.size + 2 ∨ x = e0) ((w2.setCell ⟨w.heap.size, 2, none⟩ (.slice B1 c.dn.length b1)).alloc (.cells C 30)) (.slice A1 c.ts.length a1) c.ts) := Lib.hid (by
    refine RdO.ext (Ow.off (HT2.out.setBelow (p := ⟨w.heap.size, 2, none⟩) (by simp; omega) (.slice B1 c.dn.length b1)) (fun x hx => ?_)) ((Ext.refl _).alloc _)
    rcases hx with hx | hx
    · left; simp; omega
    · right; subst hx; rw [← he0, World.size_setCell]; exact Nat.le_refl _)
  have HD3 : Hid (RdO kBool (fun x => x < w.heap.size + 2 ∨ x = e0) ((w2.setCell ⟨w.heap.size, 2, none⟩ (.slice B1 c.dn.length b1)).alloc (.cells C 30)) (.slice B1 c.dn.length b1) c.dn) := Lib.hid (by
    refine RdO.ext (Ow.off (HD1.out.setBelow (p := ⟨w.heap.size, 2, none⟩) (by simp; omega) (.slice B1 c.dn.length b1)) (fun x hx => ?_)) ((Ext.refl _).alloc _)
    rcases hx with hx | hx
    · left; simp; omega
    · right; subst hx; rw [← he0, World.size_setCell]; exact Nat.le_refl _)
  have HX3 : Hid (Ext w ((w2.setCell ⟨w.heap.size, 2, none⟩ (.slice B1 c.dn.length b1)).alloc (.cells C 30))) := Lib.hid (HX2.out.alloc _)
  have HC3 : Hid (CopyAt (fun x => x < w.heap.size + 2 ∨ x = e0) ((w2.setCell ⟨w.heap.size, 2, none⟩ (.slice B1 c.dn.length b1)).alloc (.cells C 30)) e0 m 0 c.D (fun _ => hd0) ((w2.setCell ⟨w.heap.size, 2, none⟩ (.slice B1 c.dn.length b1)).alloc (.cells C 30))) := Lib.hid (by
    have hm := HMK.out (w2.setCell ⟨w.heap.size, 2, none⟩ (.slice B1 c.dn.length b1)) e0 e0 (by rw [World.size_setCell]; exact he0.symm) (Nat.le_refl _)
    obtain ⟨g', eg, _, _, h3, h4⟩ := Ow.pos hm (by rw [List.length_replicate]; exact m1)
    cases eg
    refine ⟨fun j hj => absurd hj (Nat.not_lt_zero _), fun j _ hj => ?_, h4, Grew.refl _ _⟩
    have := h3 j (by rw [List.length_replicate]; exact hj) 0 (.slice none 0 0) (by rw [List.getD_eq_getElem?_getD, List.getElem?_replicate, if_pos hj]; rfl)
    rw [show j = j * kRow.n + 0 from by show j = j * 1 + 0; omega]
    exact this)
  have le0 : w.heap.size + 1 < e0 := by omega
  have le00 : w.heap.size < e0 := by omega
  have HZ3 : Hid (e0 < ((w2.setCell ⟨w.heap.size, 2, none⟩ (.slice B1 c.dn.length b1)).alloc (.cells C 30)).heap.size) := Lib.hid (by simp; omega)
  have hEr : Ext ((w2.setCell ⟨w.heap.size, 2, none⟩ (.slice B1 c.dn.length b1)).alloc (.cells C 30)) ((w2.setCell ⟨w.heap.size, 2, none⟩ (.slice B1 c.dn.length b1)).alloc (.cells C 30)) := Ext.refl _
  rw [he0]
  have l3 : w.heap.size + 1 < ((w2.setCell ⟨w.heap.size, 2, none⟩ (.slice B1 c.dn.length b1)).alloc (.cells C 30)).heap.size := by simp; omega
  have q0 : ((w2.setCell ⟨w.heap.size, 2, none⟩ (.slice B1 c.dn.length b1)).alloc (.cells C 30)).cell? ⟨w.heap.size, 0, none⟩ = some (.slice A1 c.ts.length a1) := Ext.cell hEr (by go_simp)
  have q1 : ((w2.setCell ⟨w.heap.size, 2, none⟩ (.slice B1 c.dn.length b1)).alloc (.cells C 30)).cell? ⟨w.heap.size, 1, none⟩ = some (.int .i64 g) := Ext.cell hEr (by go_simp)
  have q2 : ((w2.setCell ⟨w.heap.size, 2, none⟩ (.slice B1 c.dn.length b1)).alloc (.cells C 30)).cell? ⟨w.heap.size, 2, none⟩ = some (.slice B1 c.dn.length b1) := Ext.cell hEr (by go_simp)
  have q3 : ((w2.setCell ⟨w.heap.size, 2, none⟩ (.slice B1 c.dn.length b1)).alloc (.cells C 30)).cell? ⟨w.heap.size, 3, none⟩ = some (.slice (some ⟨eb, eo, none⟩) m e) := Ext.cell hEr (by go_simp)
  have q4 : ((w2.setCell ⟨w.heap.size, 2, none⟩ (.slice B1 c.dn.length b1)).alloc (.cells C 30)).cell? ⟨w.heap.size, 4, none⟩ = some (.bool c.over) := Ext.cell hEr (by go_simp)
  have q5 : ((w2.setCell ⟨w.heap.size, 2, none⟩ (.slice B1 c.dn.length b1)).alloc (.cells C 30)).cell? ⟨w.heap.size, 5, none⟩ = some (.int .i64 c.st) := Ext.cell hEr (by go_simp)
  have q6 : ((w2.setCell ⟨w.heap.size, 2, none⟩ (.slice B1 c.dn.length b1)).alloc (.cells C 30)).cell? ⟨w.heap.size, 6, none⟩ = some (.int .i64 c.id) := Ext.cell hEr (by go_simp)
  have qf : ∀ o, ((w2.setCell ⟨w.heap.size, 2, none⟩ (.slice B1 c.dn.length b1)).alloc (.cells C 30)).frozen? ⟨w.heap.size, o, none⟩ = false := fun o => (Below.frozen hEr (p := ⟨w.heap.size, o, none⟩) (by first | omega | (simp; omega) | simp)).trans (by go_simp)
  have x0 : ((w2.setCell ⟨w.heap.size, 2, none⟩ (.slice B1 c.dn.length b1)).alloc (.cells C 30)).cell? ⟨w.heap.size + 1, 0, none⟩ = some (.slice none 0 0) := Ext.cell hEr (by go_simp)
  have x1 : ((w2.setCell ⟨w.heap.size, 2, none⟩ (.slice B1 c.dn.length b1)).alloc (.cells C 30)).cell? ⟨w.heap.size + 1, 1, none⟩ = some (.int .i64 0) := Ext.cell hEr (by go_simp)
  have x2 : ((w2.setCell ⟨w.heap.size, 2, none⟩ (.slice B1 c.dn.length b1)).alloc (.cells C 30)).cell? ⟨w.heap.size + 1, 2, none⟩ = some (.slice none 0 0) := Ext.cell hEr (by go_simp)
  have x3 : ((w2.setCell ⟨w.heap.size, 2, none⟩ (.slice B1 c.dn.length b1)).alloc (.cells C 30)).cell? ⟨w.heap.size + 1, 3, none⟩ = some (.slice none 0 0) := Ext.cell hEr (by go_simp)
  have x4 : ((w2.setCell ⟨w.heap.size, 2, none⟩ (.slice B1 c.dn.length b1)).alloc (.cells C 30)).cell? ⟨w.heap.size + 1, 4, none⟩ = some (.bool false) := Ext.cell hEr (by go_simp)
  have x5 : ((w2.setCell ⟨w.heap.size, 2, none⟩ (.slice B1 c.dn.length b1)).alloc (.cells C 30)).cell? ⟨w.heap.size + 1, 5, none⟩ = some (.int .i64 0) := Ext.cell hEr (by go_simp)
  have x6 : ((w2.setCell ⟨w.heap.size, 2, none⟩ (.slice B1 c.dn.length b1)).alloc (.cells C 30)).cell? ⟨w.heap.size + 1, 6, none⟩ = some (.int .i64 0) := Ext.cell hEr (by go_simp)
  have xf : ∀ o, ((w2.setCell ⟨w.heap.size, 2, none⟩ (.slice B1 c.dn.length b1)).alloc (.cells C 30)).frozen? ⟨w.heap.size + 1, o, none⟩ = false := fun o => (Below.frozen hEr (p := ⟨w.heap.size + 1, o, none⟩) (by first | omega | (simp; omega) | simp)).trans (by go_simp)
  clear hEr y0 y1 y2 y3 y4 y5 y6 yf s0 s1 s2 s3 s4 s5 s6 sf HT2 HD1 HX2 HT1 HX1 HMK hz1 hz2 l1 l1' l2 l2'
  generalize hw3 : (w2.setCell ⟨w.heap.size, 2, none⟩ (.slice B1 c.dn.length b1)).alloc (.cells C 30) = w3 at *
  clear hw3 he0 hmk2
  go_loopw [25] (fun i wr => ∃ (k : Nat) (hs : Nat → Hd), k ≤ m ∧ i = .int .i64 k ∧ CopyAt (fun x => x < w.heap.size + 2 ∨ x = e0) w3 e0 m k c.D hs wr) (fun i _ => m - (intOf i).toNat)
  case atStart => exact ⟨0, _, Nat.zero_le _, rfl, HC3.out⟩
  case round =>
    obtain ⟨k, hs, hk, rfl, hC⟩ := hrel
    have HC := Lib.hid hC
    have hk0 : (0 : Int) ≤ k := by omega
    have hG := hC.grew
    have hzr := hG.size
    have z3 := HZ3.out
    have ler : e0 < wr.heap.size := by omega
    by_cases hlt : k < m
    · have hlt' : (k : Int) < m := by omega
      obtain ⟨z0, zn, zr⟩ := HDS.out.2 k hlt
      have hXr := hG.toExt HX3.out (fun b hb => by rw [hb]; omega)
      have z := hXr.cell z0
      obtain ⟨xs, hxs⟩ : ∃ xs, c.D.getD k [] = xs := ⟨_, rfl⟩
      rw [hxs] at zn zr
      have HXS := Lib.hid hxs
      have HZR : Hid (Rd kInt wr (hs0 k).v (zs xs)) := Lib.hid (zr.rd.ext hXr)
      have HZN := Lib.hid zn
      have HXL : Hid (xs.length ≤ 1000000) := Lib.hid (by rw [← hxs]; exact HLH.out k)
      have hrest := hC.rest k (Nat.le_refl _) hlt
      clear hC hG zn zr hXr z0 hxs
      go_wp2_with fail
      refine (clone_dq (hs0 k) xs _ HZR.out HZN.out HXL.out).mono ?_
      rintro ed w4 ⟨x, rfl, hxn, hxc, hxr, hE4⟩
      have HN4 : Hid (CopyAt (fun x => x < w.heap.size + 2 ∨ x = e0) w3 e0 m (k + 1) c.D (fun j => if j = k then x else hs j) (w4.setCell ⟨e0, k, none⟩ x.v)) := Lib.hid (HC.out.next (.inr rfl) ler hE4 x (by rw [HXS.out]; exact hxn) hxc (by rw [HXS.out]; exact hxr _ (fun y hy => by rcases hy with hy | hy <;> omega)) hlt)
      have hr4 := hE4.cell hrest
      have hf4 := fun o => (Below.frozen hE4 (p := ⟨e0, o, none⟩) ler).trans (HC.out.frz o)
      have hz4 := hE4.size
      have ler4 : e0 < w4.heap.size := by omega
      clear hxn hxc hxr hE4 hrest
      go_wp2_with fail
      go_roundw
      case rel => exact ⟨k + 1, _, by omega, by go_num, HN4.out⟩
      case measure => simp [intOf]; omega
    · obtain rfl : k = m := by omega
      have p0 := hG.cell q0 (by omega)
      have p1 := hG.cell q1 (by omega)
      have p2 := hG.cell q2 (by omega)
      have p3 := hG.cell q3 (by omega)
      have p4 := hG.cell q4 (by omega)
      have p5 := hG.cell q5 (by omega)
      have p6 := hG.cell q6 (by omega)
      have pf := fun o => (hG.frozen (b := w.heap.size) (by omega) (by omega) o).trans (qf o)
      have zz0 := hG.cell x0 (by omega)
      have zz1 := hG.cell x1 (by omega)
      have zz2 := hG.cell x2 (by omega)
      have zz3 := hG.cell x3 (by omega)
      have zz4 := hG.cell x4 (by omega)
      have zz5 := hG.cell x5 (by omega)
      have zz6 := hG.cell x6 (by omega)
      have zzf := fun o => (hG.frozen (b := w.heap.size + 1) (by omega) (by omega) o).trans (xf o)
      have lv0 : w.heap.size < wr.heap.size := by omega
      have lv1 : w.heap.size + 1 < wr.heap.size := by omega
      have HXR : Hid (Ext w wr) := Lib.hid (hG.toExt HX3.out (fun b hb => by rw [hb]; omega))
      have HTR := Lib.hid (HT3.out.grew (hG.mono (T := fun x => x < w.heap.size + 2 ∨ x = e0) (fun b _ hb => .inr hb)))
      have HDR := Lib.hid (HD3.out.grew (hG.mono (T := fun x => x < w.heap.size + 2 ∨ x = e0) (fun b _ hb => .inr hb)))
      clear q0 q1 q2 q3 q4 q5 q6 qf x0 x1 x2 x3 x4 x5 x6 xf hG hC l3 z3 hzr
      go_upto_region 10 with fail
      have hEs : Ext (wr.setCell ⟨w.heap.size, 3, none⟩ (.slice (some ⟨e0, 0, none⟩) k k)) (wr.setCell ⟨w.heap.size, 3, none⟩ (.slice (some ⟨e0, 0, none⟩) k k)) := Ext.refl _
      have mm0 : (wr.setCell ⟨w.heap.size, 3, none⟩ (.slice (some ⟨e0, 0, none⟩) k k)).cell? ⟨w.heap.size, 0, none⟩ = some (.slice A1 c.ts.length a1) := Ext.cell hEs (by go_simp)
      have mm1 : (wr.setCell ⟨w.heap.size, 3, none⟩ (.slice (some ⟨e0, 0, none⟩) k k)).cell? ⟨w.heap.size, 1, none⟩ = some (.int .i64 g) := Ext.cell hEs (by go_simp)
      have mm2 : (wr.setCell ⟨w.heap.size, 3, none⟩ (.slice (some ⟨e0, 0, none⟩) k k)).cell? ⟨w.heap.size, 2, none⟩ = some (.slice B1 c.dn.length b1) := Ext.cell hEs (by go_simp)
      have mm3 : (wr.setCell ⟨w.heap.size, 3, none⟩ (.slice (some ⟨e0, 0, none⟩) k k)).cell? ⟨w.heap.size, 3, none⟩ = some (.slice (some ⟨e0, 0, none⟩) k k) := Ext.cell hEs (by go_simp)
      have mm4 : (wr.setCell ⟨w.heap.size, 3, none⟩ (.slice (some ⟨e0, 0, none⟩) k k)).cell? ⟨w.heap.size, 4, none⟩ = some (.bool c.over) := Ext.cell hEs (by go_simp)
      have mm5 : (wr.setCell ⟨w.heap.size, 3, none⟩ (.slice (some ⟨e0, 0, none⟩) k k)).cell? ⟨w.heap.size, 5, none⟩ = some (.int .i64 c.st) := Ext.cell hEs (by go_simp)
      have mm6 : (wr.setCell ⟨w.heap.size, 3, none⟩ (.slice (some ⟨e0, 0, none⟩) k k)).cell? ⟨w.heap.size, 6, none⟩ = some (.int .i64 c.id) := Ext.cell hEs (by go_simp)
      have mmf : ∀ o, (wr.setCell ⟨w.heap.size, 3, none⟩ (.slice (some ⟨e0, 0, none⟩) k k)).frozen? ⟨w.heap.size, o, none⟩ = false := fun o => (Below.frozen hEs (p := ⟨w.heap.size, o, none⟩) (by first | omega | (simp; omega) | simp)).trans (by go_simp)
      have nn0 : (wr.setCell ⟨w.heap.size, 3, none⟩ (.slice (some ⟨e0, 0, none⟩) k k)).cell? ⟨w.heap.size + 1, 0, none⟩ = some (.slice none 0 0) := Ext.cell hEs (by go_simp)
      have nn1 : (wr.setCell ⟨w.heap.size, 3, none⟩ (.slice (some ⟨e0, 0, none⟩) k k)).cell? ⟨w.heap.size + 1, 1, none⟩ = some (.int .i64 0) := Ext.cell hEs (by go_simp)
      have nn2 : (wr.setCell ⟨w.heap.size, 3, none⟩ (.slice (some ⟨e0, 0, none⟩) k k)).cell? ⟨w.heap.size + 1, 2, none⟩ = some (.slice none 0 0) := Ext.cell hEs (by go_simp)
      have nn3 : (wr.setCell ⟨w.heap.size, 3, none⟩ (.slice (some ⟨e0, 0, none⟩) k k)).cell? ⟨w.heap.size + 1, 3, none⟩ = some (.slice none 0 0) := Ext.cell hEs (by go_simp)
      have nn4 : (wr.setCell ⟨w.heap.size, 3, none⟩ (.slice (some ⟨e0, 0, none⟩) k k)).cell? ⟨w.heap.size + 1, 4, none⟩ = some (.bool false) := Ext.cell hEs (by go_simp)
      have nn5 : (wr.setCell ⟨w.heap.size, 3, none⟩ (.slice (some ⟨e0, 0, none⟩) k k)).cell? ⟨w.heap.size + 1, 5, none⟩ = some (.int .i64 0) := Ext.cell hEs (by go_simp)
      have nn6 : (wr.setCell ⟨w.heap.size, 3, none⟩ (.slice (some ⟨e0, 0, none⟩) k k)).cell? ⟨w.heap.size + 1, 6, none⟩ = some (.int .i64 0) := Ext.cell hEs (by go_simp)
      have nnf : ∀ o, (wr.setCell ⟨w.heap.size, 3, none⟩ (.slice (some ⟨e0, 0, none⟩) k k)).frozen? ⟨w.heap.size + 1, o, none⟩ = false := fun o => (Below.frozen hEs (p := ⟨w.heap.size + 1, o, none⟩) (by first | omega | (simp; omega) | simp)).trans (by go_simp)
      have HGW : Hid (Grew (fun x => x = w.heap.size) wr (wr.setCell ⟨w.heap.size, 3, none⟩ (.slice (some ⟨e0, 0, none⟩) k k))) := Lib.hid (Grew.setCell (S := fun x => x = w.heap.size) (p := ⟨w.heap.size, 3, none⟩) (Grew.refl _ _) rfl _)
      have HG7 : Hid (Grew (fun x => x < w.heap.size + 2 ∨ x = e0) wr (wr.setCell ⟨w.heap.size, 3, none⟩ (.slice (some ⟨e0, 0, none⟩) k k))) := Lib.hid (HGW.out.mono (fun x _ hx => .inl (by rw [hx]; omega)))
      have HXS : Hid (Ext w (wr.setCell ⟨w.heap.size, 3, none⟩ (.slice (some ⟨e0, 0, none⟩) k k))) := Lib.hid (HXR.out.setCell (p := ⟨w.heap.size, 3, none⟩) (Nat.le_refl _) _)
      have lv5 : w.heap.size + 1 < ((wr.setCell ⟨w.heap.size, 3, none⟩ (.slice (some ⟨e0, 0, none⟩) k k))).heap.size := by simp; omega
      have lv7 : e0 < ((wr.setCell ⟨w.heap.size, 3, none⟩ (.slice (some ⟨e0, 0, none⟩) k k))).heap.size := by simp; omega
      have lv6 : w.heap.size < ((wr.setCell ⟨w.heap.size, 3, none⟩ (.slice (some ⟨e0, 0, none⟩) k k))).heap.size := by simp; omega
      generalize hw5 : (wr.setCell ⟨w.heap.size, 3, none⟩ (.slice (some ⟨e0, 0, none⟩) k k)) = w5 at *
      clear hw5 hEs p0 p1 p2 p3 p4 p5 p6 pf zz0 zz1 zz2 zz3 zz4 zz5 zz6 zzf
      go_wp2_with fail
      refine bodyPost_ret (v := .agg #[.slice A1 c.ts.length a1, .int .i64 g, .slice B1 c.dn.length b1, .slice (some ⟨e0, 0, none⟩) k k, .bool c.over, .int .i64 c.st, .int .i64 c.id]) (by simp [results, Try.results52, go_sem]; go_simp) rfl ⟨A1, B1, e0, a1, b1, hs, rfl, ?_, ?_, ?_, ?_, ?_, ?_, ?_⟩
      · omega
      · simp; omega
      · exact fun o => by rw [World.frozen?_setCell, World.frozen?_setCell, World.frozen?_setCell, World.frozen?_setCell, World.frozen?_setCell, World.frozen?_setCell, World.frozen?_setCell]; exact (HGW.out.frozen ler (by omega) o).trans (HC.out.frz o)
      · exact HTR.out.grew (((((((HG7.out.setCell (p := ⟨w.heap.size + 1, 0, none⟩) (.inl (by simp)) _).setCell (p := ⟨w.heap.size + 1, 1, none⟩) (.inl (by simp)) _).setCell (p := ⟨w.heap.size + 1, 2, none⟩) (.inl (by simp)) _).setCell (p := ⟨w.heap.size + 1, 3, none⟩) (.inl (by simp)) _).setCell (p := ⟨w.heap.size + 1, 4, none⟩) (.inl (by simp)) _).setCell (p := ⟨w.heap.size + 1, 5, none⟩) (.inl (by simp)) _).setCell (p := ⟨w.heap.size + 1, 6, none⟩) (.inl (by simp)) _)
      · exact HDR.out.grew (((((((HG7.out.setCell (p := ⟨w.heap.size + 1, 0, none⟩) (.inl (by simp)) _).setCell (p := ⟨w.heap.size + 1, 1, none⟩) (.inl (by simp)) _).setCell (p := ⟨w.heap.size + 1, 2, none⟩) (.inl (by simp)) _).setCell (p := ⟨w.heap.size + 1, 3, none⟩) (.inl (by simp)) _).setCell (p := ⟨w.heap.size + 1, 4, none⟩) (.inl (by simp)) _).setCell (p := ⟨w.heap.size + 1, 5, none⟩) (.inl (by simp)) _).setCell (p := ⟨w.heap.size + 1, 6, none⟩) (.inl (by simp)) _)
      · intro j hj
        obtain ⟨h1, h2, h3, h4⟩ := HC.out.done j hj
        have hG7 := (((((((HG7.out.setCell (p := ⟨w.heap.size + 1, 0, none⟩) (.inl (by simp)) (.slice A1 c.ts.length a1)).setCell (p := ⟨w.heap.size + 1, 1, none⟩) (.inl (by simp)) (.int .i64 g)).setCell (p := ⟨w.heap.size + 1, 2, none⟩) (.inl (by simp)) (.slice B1 c.dn.length b1)).setCell (p := ⟨w.heap.size + 1, 3, none⟩) (.inl (by simp)) (.slice (some ⟨e0, 0, none⟩) k k)).setCell (p := ⟨w.heap.size + 1, 4, none⟩) (.inl (by simp)) (.bool c.over)).setCell (p := ⟨w.heap.size + 1, 5, none⟩) (.inl (by simp)) (.int .i64 c.st)).setCell (p := ⟨w.heap.size + 1, 6, none⟩) (.inl (by simp)) (.int .i64 c.id))
        refine ⟨?_, h2, h3, h4.grew hG7⟩
        exact Grew.cell (S := fun x => x = w.heap.size ∨ x = w.heap.size + 1) ((((((((HGW.out.mono (T := fun x => x = w.heap.size ∨ x = w.heap.size + 1) (fun _ _ hx => .inl hx)).setCell (p := ⟨w.heap.size + 1, 0, none⟩) (.inr rfl) _).setCell (p := ⟨w.heap.size + 1, 1, none⟩) (.inr rfl) _).setCell (p := ⟨w.heap.size + 1, 2, none⟩) (.inr rfl) _).setCell (p := ⟨w.heap.size + 1, 3, none⟩) (.inr rfl) _).setCell (p := ⟨w.heap.size + 1, 4, none⟩) (.inr rfl) _).setCell (p := ⟨w.heap.size + 1, 5, none⟩) (.inr rfl) _).setCell (p := ⟨w.heap.size + 1, 6, none⟩) (.inr rfl) _) h1 (by omega)
      · exact ((((((HXS.out.setCell (by simp) _).setCell (by simp) _).setCell (by simp) _).setCell (by simp) _).setCell (by simp) _).setCell (by simp) _).setCell (by simp) _
end Go.Proofs.Ytkpbanfpnilifaa

/- One that goes steps: a step; the program's Step, Run. -/
namespace Go.Proofs.Ytkpbanfpnilifaa
open Go.BigFrame
open Go.RowKit Go.Proofs.Ytkpbanfpnilifaa.Plain

theorem srcI_none {D : List (List Nat)} {P Q : Nat} (h : srcN D P Q = none) : srcI D P Q = -1 := by unfold srcI; rw [h]
theorem srcI_some {D : List (List Nat)} {P Q F : Nat} (h : srcN D P Q = some F) : srcI D P Q = F := by unfold srcI; rw [h]
set_option maxHeartbeats 1600000 in
set_option maxRecDepth 100000 in
theorem gstep_any {S : Nat → Prop} {V e0 g n m : Nat} {c : Cw} {ev : Ev} {A B : Option Addr} {a b e : Nat} {hs : Nat → Hd} {done : Nat} {G : List Nat} (p q : Int) (w : World) (h : GoAt S w V e0 g m c ev A B a b e hs) (hI : CwI g n m c done G)
    (n1 : 1 ≤ n) (n2 : n ≤ 900) (g1 : 1 ≤ g) (g2 : g ≤ 100) (m1 : 1 ≤ m) (m2 : m ≤ 8) (hst : c.st < 100000) (hid : c.id < 100000) (hp : in64 p) (hq : in64 q) :
    Calls Try.prog 53 #[.pointer (some ⟨V, 0, none⟩), .int .i64 p, .int .i64 q] w (GoSaid S V e0 g m e (stepP g m c p q) w) := by
  have H := Lib.hid h
  have HI := Lib.hid hI
  have hP := cutN_lt m p m1
  have hQ := cutN_lt m q m1
  obtain ⟨P, hPe⟩ : ∃ P, cutN m p = P := ⟨_, rfl⟩
  obtain ⟨Q, hQe⟩ : ∃ Q, cutN m q = Q := ⟨_, rfl⟩
  rw [hPe] at hP
  rw [hQe] at hQ
  have HPE := Lib.hid (And.intro hPe hQe)
  have HPQ := Lib.hid (And.intro hp hq)
  obtain ⟨v0, v1, v2, v3, v4, v5, v6⟩ := And.intro h.v0 (And.intro h.v1 (And.intro h.v2 (And.intro h.v3 (And.intro h.v4 (And.intro h.v5 h.v6)))))
  have s1 : ¬ (c.st : Int) = 100000 := by omega
  have s2 : ¬ (c.id : Int) = 100000 := by omega
  have d1 : ((c.st : Int) == 100000) = false := by rw [beq_eq_false_iff_ne]; exact s1
  have d2 : ((c.id : Int) == 100000) = false := by rw [beq_eq_false_iff_ne]; exact s2
  have lV : V < w.heap.size := h.sl V h.sV
  clear h hI hPe hQe hp hq
  go_enter Try.func53, Try.ntmps53
  go_wp2_with fail
  refine (cright_yes A B e0 0 a b e g n m c _ _ w H.out.at_ HI.out n1 n2 g1 g2 m1 m2 (by omega) (by omega)).mono ?_
  rintro ed w1 ⟨rfl, hE1⟩
  have H1 := Lib.hid (H.out.ext hE1)
  have x3 := hE1.cell v3
  have x5 := hE1.cell v5
  have x6 := hE1.cell v6
  have HE1 := Lib.hid hE1
  clear hE1 v0 v1 v2 v3 v4 v5 v6
  go_wp2_with fail
  refine (ccut_any p m w1 HPQ.out.1 m1 m2).mono ?_
  rw [HPE.out.1]
  rintro ed w2 ⟨rfl, rfl⟩
  go_wp2_with fail
  refine (ccut_any q m w1 HPQ.out.2 m1 m2).mono ?_
  rw [HPE.out.2]
  rintro ed w2 ⟨rfl, rfl⟩
  go_wp2_with fail
  refine (source_any P Q w1 H1.out hP hQ m2).mono ?_
  cases hs' : srcN c.D P Q with
  | none =>
    rw [srcI_none hs']
    have HST : Hid (stepP g m c p q = (⟨c.ts, c.dn, c.D, c.over, c.st + 1, c.id + 1⟩, ⟨P, -1, -1, false⟩)) := Lib.hid (by unfold stepP; rw [HPE.out.1, HPE.out.2, hs'])
    clear hs'
    rintro ed w2 ⟨rfl, rfl⟩
    go_wp2_with fail
    refine (idle_any P w1 H1.out hst hid).mono ?_
    rintro ed w3 ⟨rfl, hG3, hW3⟩
    have HG3 := Lib.hid hG3
    have HW3 := Lib.hid hW3
    clear hG3 hW3
    go_wp2_with fail
    go_ret
    rw [HST.out]
    exact ⟨A, B, a, b, hs, rfl, HG3.out, (Grew.of HE1.out).trans HW3.out⟩
  | some F =>
    obtain ⟨hne, hor⟩ := srcN_some hs'
    have hF : F < m := by rcases hor with rfl | ⟨rfl, _⟩ <;> assumption
    have hFP : F = P ∨ c.D.getD P [] = [] := by rcases hor with h1 | ⟨_, _, h1⟩; exact .inl h1; exact .inr h1
    rw [srcI_some hs']
    have HST : Hid (stepP g m c p q = goP g c P F) := Lib.hid (by unfold stepP; rw [HPE.out.1, HPE.out.2, hs'])
    have HNE := Lib.hid hne
    have HFP := Lib.hid hFP
    have hF0 : ¬ (F : Int) < 0 := by omega
    clear hs' hne hor hFP
    rintro ed w2 ⟨rfl, rfl⟩
    go_wp2_with fail
    refine (goAt_any P F w1 H1.out HI.out hP hF HNE.out HFP.out n1 n2 g1 g2 m2 hst).mono ?_
    rintro ed w3 ⟨A3, B3, a3, b3, hs3, rfl, hG3, hW3⟩
    have HG3 := Lib.hid hG3
    have HW3 := Lib.hid hW3
    clear hG3 hW3
    go_wp2_with fail
    go_ret
    rw [HST.out]
    exact ⟨A3, B3, a3, b3, hs3, rfl, HG3.out, (Grew.of HE1.out).trans HW3.out⟩
end Go.Proofs.Ytkpbanfpnilifaa

/- The program's Step of a crew. -/
namespace Go.Proofs.Ytkpbanfpnilifaa
open Go.BigFrame
open Go.RowKit Go.Proofs.Ytkpbanfpnilifaa.Plain

/-- a crew, and an event, in two boxes -/
structure Boxed (w : World) (R Q : Nat) (A B : Option Addr) (e0 a b e g m : Nat) (c : Cw) (ev : Ev) : Prop where
  v0 : w.cell? ⟨R, 0, none⟩ = some (.slice A c.ts.length a)
  v1 : w.cell? ⟨R, 1, none⟩ = some (.int .i64 g)
  v2 : w.cell? ⟨R, 2, none⟩ = some (.slice B c.dn.length b)
  v3 : w.cell? ⟨R, 3, none⟩ = some (.slice (some ⟨e0, 0, none⟩) m e)
  v4 : w.cell? ⟨R, 4, none⟩ = some (.bool c.over)
  v5 : w.cell? ⟨R, 5, none⟩ = some (.int .i64 c.st)
  v6 : w.cell? ⟨R, 6, none⟩ = some (.int .i64 c.id)
  u0 : w.cell? ⟨Q, 0, none⟩ = some (.int .i64 ev.wk)
  u1 : w.cell? ⟨Q, 1, none⟩ = some (.int .i64 ev.fr)
  u2 : w.cell? ⟨Q, 2, none⟩ = some (.int .i64 ev.tk)
  u3 : w.cell? ⟨Q, 3, none⟩ = some (.bool ev.pt)
/-- the stores of both, in either order -/
theorem Boxed.one {w : World} {R Q : Nat} {A B : Option Addr} {e0 a b e g m : Nat} {c : Cw} {ev : Ev} {p0 p1 p2 p3 p4 p5 p6 o0 o1 o2 o3 : Value} (_h1 : ¬ R = Q) (h2 : ¬ Q = R) (r0 : w.cell? ⟨R, 0, none⟩ = some p0) (r1 : w.cell? ⟨R, 1, none⟩ = some p1) (r2 : w.cell? ⟨R, 2, none⟩ = some p2) (r3 : w.cell? ⟨R, 3, none⟩ = some p3) (r4 : w.cell? ⟨R, 4, none⟩ = some p4) (r5 : w.cell? ⟨R, 5, none⟩ = some p5) (r6 : w.cell? ⟨R, 6, none⟩ = some p6) (q0 : w.cell? ⟨Q, 0, none⟩ = some o0) (q1 : w.cell? ⟨Q, 1, none⟩ = some o1) (q2 : w.cell? ⟨Q, 2, none⟩ = some o2) (q3 : w.cell? ⟨Q, 3, none⟩ = some o3) : Boxed (((((((((((w.setCell ⟨R, 0, none⟩ (.slice A c.ts.length a)).setCell ⟨R, 1, none⟩ (.int .i64 g)).setCell ⟨R, 2, none⟩ (.slice B c.dn.length b)).setCell ⟨R, 3, none⟩ (.slice (some ⟨e0, 0, none⟩) m e)).setCell ⟨R, 4, none⟩ (.bool c.over)).setCell ⟨R, 5, none⟩ (.int .i64 c.st)).setCell ⟨R, 6, none⟩ (.int .i64 c.id)).setCell ⟨Q, 0, none⟩ (.int .i64 ev.wk)).setCell ⟨Q, 1, none⟩ (.int .i64 ev.fr)).setCell ⟨Q, 2, none⟩ (.int .i64 ev.tk)).setCell ⟨Q, 3, none⟩ (.bool ev.pt)) R Q A B e0 a b e g m c ev :=
  ⟨by go_simp, by go_simp, by go_simp, by go_simp, by go_simp, by go_simp, by go_simp, by go_simp, by go_simp, by go_simp, by go_simp⟩
theorem Boxed.two {w : World} {R Q : Nat} {A B : Option Addr} {e0 a b e g m : Nat} {c : Cw} {ev : Ev} {p0 p1 p2 p3 p4 p5 p6 o0 o1 o2 o3 : Value} (_h1 : ¬ R = Q) (h2 : ¬ Q = R) (r0 : w.cell? ⟨R, 0, none⟩ = some p0) (r1 : w.cell? ⟨R, 1, none⟩ = some p1) (r2 : w.cell? ⟨R, 2, none⟩ = some p2) (r3 : w.cell? ⟨R, 3, none⟩ = some p3) (r4 : w.cell? ⟨R, 4, none⟩ = some p4) (r5 : w.cell? ⟨R, 5, none⟩ = some p5) (r6 : w.cell? ⟨R, 6, none⟩ = some p6) (q0 : w.cell? ⟨Q, 0, none⟩ = some o0) (q1 : w.cell? ⟨Q, 1, none⟩ = some o1) (q2 : w.cell? ⟨Q, 2, none⟩ = some o2) (q3 : w.cell? ⟨Q, 3, none⟩ = some o3) : Boxed (((((((((((w.setCell ⟨Q, 0, none⟩ (.int .i64 ev.wk)).setCell ⟨Q, 1, none⟩ (.int .i64 ev.fr)).setCell ⟨Q, 2, none⟩ (.int .i64 ev.tk)).setCell ⟨Q, 3, none⟩ (.bool ev.pt)).setCell ⟨R, 0, none⟩ (.slice A c.ts.length a)).setCell ⟨R, 1, none⟩ (.int .i64 g)).setCell ⟨R, 2, none⟩ (.slice B c.dn.length b)).setCell ⟨R, 3, none⟩ (.slice (some ⟨e0, 0, none⟩) m e)).setCell ⟨R, 4, none⟩ (.bool c.over)).setCell ⟨R, 5, none⟩ (.int .i64 c.st)).setCell ⟨R, 6, none⟩ (.int .i64 c.id)) R Q A B e0 a b e g m c ev :=
  ⟨by go_simp, by go_simp, by go_simp, by go_simp, by go_simp, by go_simp, by go_simp, by go_simp, by go_simp, by go_simp, by go_simp⟩
theorem Boxed.ext {w W : World} {R Q : Nat} {A B : Option Addr} {e0 a b e g m : Nat} {c : Cw} {ev : Ev} (h : Boxed w R Q A B e0 a b e g m c ev) (hE : Ext w W) : Boxed W R Q A B e0 a b e g m c ev :=
  ⟨hE.cell h.v0, hE.cell h.v1, hE.cell h.v2, hE.cell h.v3, hE.cell h.v4, hE.cell h.v5, hE.cell h.v6, hE.cell h.u0, hE.cell h.u1, hE.cell h.u2, hE.cell h.u3⟩
theorem Boxed.one' {w : World} {R Q : Nat} {A B : Option Addr} {e0 a b e g m : Nat} {c : Cw} {ev : Ev} {p0 p1 p2 p3 p4 p5 p6 o0 o1 o2 o3 : Value} (h1 : ¬ R = Q) (h2 : ¬ Q = R) (r0 : w.cell? ⟨R, 0, none⟩ = some p0) (r1 : w.cell? ⟨R, 1, none⟩ = some p1) (r2 : w.cell? ⟨R, 2, none⟩ = some p2) (r3 : w.cell? ⟨R, 3, none⟩ = some p3) (r4 : w.cell? ⟨R, 4, none⟩ = some p4) (r5 : w.cell? ⟨R, 5, none⟩ = some p5) (r6 : w.cell? ⟨R, 6, none⟩ = some p6) (q0 : w.cell? ⟨Q, 0, none⟩ = some o0) (q1 : w.cell? ⟨Q, 1, none⟩ = some o1) (q2 : w.cell? ⟨Q, 2, none⟩ = some o2) (q3 : w.cell? ⟨Q, 3, none⟩ = some o3) : Boxed (World.drew (((((((((((w.setCell ⟨R, 0, none⟩ (.slice A c.ts.length a)).setCell ⟨R, 1, none⟩ (.int .i64 g)).setCell ⟨R, 2, none⟩ (.slice B c.dn.length b)).setCell ⟨R, 3, none⟩ (.slice (some ⟨e0, 0, none⟩) m e)).setCell ⟨R, 4, none⟩ (.bool c.over)).setCell ⟨R, 5, none⟩ (.int .i64 c.st)).setCell ⟨R, 6, none⟩ (.int .i64 c.id)).setCell ⟨Q, 0, none⟩ (.int .i64 ev.wk)).setCell ⟨Q, 1, none⟩ (.int .i64 ev.fr)).setCell ⟨Q, 2, none⟩ (.int .i64 ev.tk)).setCell ⟨Q, 3, none⟩ (.bool ev.pt))) R Q A B e0 a b e g m c ev ∧ Grew (fun x => x = R ∨ x = Q) w (World.drew (((((((((((w.setCell ⟨R, 0, none⟩ (.slice A c.ts.length a)).setCell ⟨R, 1, none⟩ (.int .i64 g)).setCell ⟨R, 2, none⟩ (.slice B c.dn.length b)).setCell ⟨R, 3, none⟩ (.slice (some ⟨e0, 0, none⟩) m e)).setCell ⟨R, 4, none⟩ (.bool c.over)).setCell ⟨R, 5, none⟩ (.int .i64 c.st)).setCell ⟨R, 6, none⟩ (.int .i64 c.id)).setCell ⟨Q, 0, none⟩ (.int .i64 ev.wk)).setCell ⟨Q, 1, none⟩ (.int .i64 ev.fr)).setCell ⟨Q, 2, none⟩ (.int .i64 ev.tk)).setCell ⟨Q, 3, none⟩ (.bool ev.pt))) := by
  refine ⟨(Boxed.one h1 h2 r0 r1 r2 r3 r4 r5 r6 q0 q1 q2 q3).ext ((Ext.refl _).drew), ?_⟩
  refine Grew.drew ?_
  repeat (first | (with_reducible exact Grew.refl _ _) | refine Grew.setCell ?_ (.inl rfl) _ | refine Grew.setCell ?_ (.inr rfl) _)
theorem Boxed.two' {w : World} {R Q : Nat} {A B : Option Addr} {e0 a b e g m : Nat} {c : Cw} {ev : Ev} {p0 p1 p2 p3 p4 p5 p6 o0 o1 o2 o3 : Value} (h1 : ¬ R = Q) (h2 : ¬ Q = R) (r0 : w.cell? ⟨R, 0, none⟩ = some p0) (r1 : w.cell? ⟨R, 1, none⟩ = some p1) (r2 : w.cell? ⟨R, 2, none⟩ = some p2) (r3 : w.cell? ⟨R, 3, none⟩ = some p3) (r4 : w.cell? ⟨R, 4, none⟩ = some p4) (r5 : w.cell? ⟨R, 5, none⟩ = some p5) (r6 : w.cell? ⟨R, 6, none⟩ = some p6) (q0 : w.cell? ⟨Q, 0, none⟩ = some o0) (q1 : w.cell? ⟨Q, 1, none⟩ = some o1) (q2 : w.cell? ⟨Q, 2, none⟩ = some o2) (q3 : w.cell? ⟨Q, 3, none⟩ = some o3) : Boxed (World.drew (((((((((((w.setCell ⟨Q, 0, none⟩ (.int .i64 ev.wk)).setCell ⟨Q, 1, none⟩ (.int .i64 ev.fr)).setCell ⟨Q, 2, none⟩ (.int .i64 ev.tk)).setCell ⟨Q, 3, none⟩ (.bool ev.pt)).setCell ⟨R, 0, none⟩ (.slice A c.ts.length a)).setCell ⟨R, 1, none⟩ (.int .i64 g)).setCell ⟨R, 2, none⟩ (.slice B c.dn.length b)).setCell ⟨R, 3, none⟩ (.slice (some ⟨e0, 0, none⟩) m e)).setCell ⟨R, 4, none⟩ (.bool c.over)).setCell ⟨R, 5, none⟩ (.int .i64 c.st)).setCell ⟨R, 6, none⟩ (.int .i64 c.id))) R Q A B e0 a b e g m c ev ∧ Grew (fun x => x = R ∨ x = Q) w (World.drew (((((((((((w.setCell ⟨Q, 0, none⟩ (.int .i64 ev.wk)).setCell ⟨Q, 1, none⟩ (.int .i64 ev.fr)).setCell ⟨Q, 2, none⟩ (.int .i64 ev.tk)).setCell ⟨Q, 3, none⟩ (.bool ev.pt)).setCell ⟨R, 0, none⟩ (.slice A c.ts.length a)).setCell ⟨R, 1, none⟩ (.int .i64 g)).setCell ⟨R, 2, none⟩ (.slice B c.dn.length b)).setCell ⟨R, 3, none⟩ (.slice (some ⟨e0, 0, none⟩) m e)).setCell ⟨R, 4, none⟩ (.bool c.over)).setCell ⟨R, 5, none⟩ (.int .i64 c.st)).setCell ⟨R, 6, none⟩ (.int .i64 c.id))) := by
  refine ⟨(Boxed.two h1 h2 r0 r1 r2 r3 r4 r5 r6 q0 q1 q2 q3).ext ((Ext.refl _).drew), ?_⟩
  refine Grew.drew ?_
  repeat (first | (with_reducible exact Grew.refl _ _) | refine Grew.setCell ?_ (.inl rfl) _ | refine Grew.setCell ?_ (.inr rfl) _)
/-- what Step leaves -/
def StepSaid (g m : Nat) (r : Cw × Ev) (w : World) (ed : Ending) (w' : World) : Prop :=
  ∃ (A B : Option Addr) (e0 a b : Nat), ed = .returned (.tuple #[crewV A B e0 0 a b m g m r.1, evV r.2, .int .i64 0]) ∧ CrewO (fun x => x < w.heap.size) w' m r.1 A B e0 0 a b ∧ Ext w w'

set_option maxHeartbeats 600000 in
set_option maxRecDepth 100000 in
theorem cstep_any (A B : Option Addr) (eb eo a b e g n m : Nat) (c : Cw) (done : Nat) (G : List Nat) (p q : Int) (w : World) (h : CrewAt w m c A B eb eo a b) (me : m ≤ e) (hI : CwI g n m c done G)
    (n1 : 1 ≤ n) (n2 : n ≤ 900) (g1 : 1 ≤ g) (g2 : g ≤ 100) (m1 : 1 ≤ m) (m2 : m ≤ 8) (hst : c.st < 100000) (hid : c.id < 100000) (hp : in64 p) (hq : in64 q) :
    Calls Try.prog 50 #[crewV A B eb eo a b e g m c, .int .i64 p, .int .i64 q] w (StepSaid g m (stepP g m c p q) w) := by
  have H := Lib.hid h
  have HI := Lib.hid hI
  have HPQ := Lib.hid (And.intro hp hq)
  have hfew := hI.few g1 n1
  have HLT : Hid (c.ts.length ≤ 1000000) := Lib.hid (by omega)
  have HLN : Hid (c.dn.length ≤ 1000000) := Lib.hid (by rw [(CrI.inv hI).dl]; omega)
  have HLH : Hid (∀ j, (c.D.getD j []).length ≤ 1000000) := Lib.hid (by
    intro j
    have h2 := (CrI.fresh hI).2.2.2
    by_cases hj : j < c.D.length
    · have h3 := (held_at c.D j hj).length_eq
      rw [List.length_append] at h3
      omega
    · rw [List.getD_eq_getElem?_getD, List.getElem?_eq_none (by omega)]; simp)
  obtain ⟨r, hr⟩ : ∃ r, stepP g m c p q = r := ⟨_, rfl⟩
  have HR := Lib.hid hr
  rw [hr]
  clear h hI hr hp hq hfew
  go_enter Try.func50, Try.ntmps50
  go_wp2_with fail
  refine (ccopy_any A B eb eo a b e g m c _ (H.out.ext ((((Ext.refl _).alloc _).alloc _).alloc _)) me m1 m2 HLT.out HLN.out HLH.out).mono ?_
  rintro ed w4 ⟨A1, B1, e0, a1, b1, hs, rfl, z1, z2, z3, z4, z5, z6, hE4⟩
  have r0 : w4.cell? ⟨w.heap.size + 1, 0, none⟩ = some (.slice none 0 0) := Ext.cell hE4 (by go_simp)
  have r1 : w4.cell? ⟨w.heap.size + 1, 1, none⟩ = some (.int .i64 0) := Ext.cell hE4 (by go_simp)
  have r2 : w4.cell? ⟨w.heap.size + 1, 2, none⟩ = some (.slice none 0 0) := Ext.cell hE4 (by go_simp)
  have r3 : w4.cell? ⟨w.heap.size + 1, 3, none⟩ = some (.slice none 0 0) := Ext.cell hE4 (by go_simp)
  have r4 : w4.cell? ⟨w.heap.size + 1, 4, none⟩ = some (.bool false) := Ext.cell hE4 (by go_simp)
  have r5 : w4.cell? ⟨w.heap.size + 1, 5, none⟩ = some (.int .i64 0) := Ext.cell hE4 (by go_simp)
  have r6 : w4.cell? ⟨w.heap.size + 1, 6, none⟩ = some (.int .i64 0) := Ext.cell hE4 (by go_simp)
  have rf : ∀ o, w4.frozen? ⟨w.heap.size + 1, o, none⟩ = false := fun o => (Below.frozen hE4 (p := ⟨w.heap.size + 1, o, none⟩) (by first | omega | (simp; omega) | simp)).trans (by go_simp)
  have s0 : w4.cell? ⟨w.heap.size + 1 + 1, 0, none⟩ = some (.int .i64 0) := Ext.cell hE4 (by go_simp)
  have s1 : w4.cell? ⟨w.heap.size + 1 + 1, 1, none⟩ = some (.int .i64 0) := Ext.cell hE4 (by go_simp)
  have s2 : w4.cell? ⟨w.heap.size + 1 + 1, 2, none⟩ = some (.int .i64 0) := Ext.cell hE4 (by go_simp)
  have s3 : w4.cell? ⟨w.heap.size + 1 + 1, 3, none⟩ = some (.bool false) := Ext.cell hE4 (by go_simp)
  have sf : ∀ o, w4.frozen? ⟨w.heap.size + 1 + 1, o, none⟩ = false := fun o => (Below.frozen hE4 (p := ⟨w.heap.size + 1 + 1, o, none⟩) (by first | omega | (simp; omega) | simp)).trans (by go_simp)
  simp only [World.size_alloc] at z1 z4 z5 z6
  have hz4 := hE4.size
  simp at hz4
  have HX4 := Lib.hid (((((Ext.refl w).alloc _).alloc _).alloc _).trans hE4)
  have HZ := Lib.hid (And.intro z3 (And.intro z4 (And.intro z5 z6)))
  clear z3 z4 z5 z6 hE4
  have l1 : w.heap.size + 1 < w4.heap.size := by omega
  have l2 : w.heap.size + 1 + 1 < w4.heap.size := by omega
  have l3 : w.heap.size + 1 < w4.heap.size + 1 := by omega
  have l4 : w.heap.size + 1 + 1 < w4.heap.size + 1 := by omega
  go_wp2_with fail
  obtain ⟨V, hV⟩ : ∃ V, w4.heap.size = V := ⟨_, rfl⟩
  have HGO : Hid (GoAt (fun x => x < w.heap.size + 5 ∨ x = e0 ∨ x = V) (w4.alloc (.cells #[.slice A1 c.ts.length a1, .int .i64 g, .slice B1 c.dn.length b1, .slice (some ⟨e0, 0, none⟩) m m, .bool c.over, .int .i64 c.st, .int .i64 c.id, .int .i64 0, .int .i64 0, .int .i64 0, .bool false] 119)) V e0 g m c ev0 A1 B1 a1 b1 m hs) := Lib.hid (by
    subst hV
    obtain ⟨z3, z4, z5, z6⟩ := HZ.out
    have hla : Grew (fun x => x < w.heap.size + 5 ∨ x = e0) w4 (w4.alloc (.cells #[.slice A1 c.ts.length a1, .int .i64 g, .slice B1 c.dn.length b1, .slice (some ⟨e0, 0, none⟩) m m, .bool c.over, .int .i64 c.st, .int .i64 c.id, .int .i64 0, .int .i64 0, .int .i64 0, .bool false] 119)) := (Grew.refl _ _).alloc _
    have hS : ∀ x, x < w4.heap.size → (x < w.heap.size + 5 ∨ x = e0 ∨ x = w4.heap.size) → (x < w.heap.size + 5 ∨ x = e0) := fun x hx hh => by omega
    have hEa : Ext w4 (w4.alloc (.cells #[.slice A1 c.ts.length a1, .int .i64 g, .slice B1 c.dn.length b1, .slice (some ⟨e0, 0, none⟩) m m, .bool c.over, .int .i64 c.st, .int .i64 c.id, .int .i64 0, .int .i64 0, .int .i64 0, .bool false] 119)) := (Ext.refl w4).alloc _
    refine ⟨.inr (.inr rfl), .inr (.inl rfl), fun x hx => by simp; omega, by omega, by go_simp, by go_simp, by go_simp, by go_simp, by go_simp, by go_simp, by go_simp, by unfold ev0; go_simp, by unfold ev0; go_simp, by unfold ev0; go_simp, by unfold ev0; go_simp, fun o => by go_simp, fun o => (Below.frozen hEa (p := ⟨e0, o, none⟩) z2).trans (z3 o), Nat.le_refl _, z4.later hla hS, z5.later hla hS, ?_, fun j hj => hEa.cell (z6 j hj).1, fun j hj => (z6 j hj).2.1, fun j hj => (z6 j hj).2.2.2.later hla hS, fun j hj => (z6 j hj).2.2.1⟩
    obtain ⟨hs0, hds⟩ := H.out.deq
    exact hds.1)
  have hEa : Ext w4 (w4.alloc (.cells #[.slice A1 c.ts.length a1, .int .i64 g, .slice B1 c.dn.length b1, .slice (some ⟨e0, 0, none⟩) m m, .bool c.over, .int .i64 c.st, .int .i64 c.id, .int .i64 0, .int .i64 0, .int .i64 0, .bool false] 119)) := (Ext.refl w4).alloc _
  have r0' := hEa.cell r0
  have r1' := hEa.cell r1
  have r2' := hEa.cell r2
  have r3' := hEa.cell r3
  have r4' := hEa.cell r4
  have r5' := hEa.cell r5
  have r6' := hEa.cell r6
  have s0' := hEa.cell s0
  have s1' := hEa.cell s1
  have s2' := hEa.cell s2
  have s3' := hEa.cell s3
  have rf' : ∀ o, (w4.alloc (.cells #[.slice A1 c.ts.length a1, .int .i64 g, .slice B1 c.dn.length b1, .slice (some ⟨e0, 0, none⟩) m m, .bool c.over, .int .i64 c.st, .int .i64 c.id, .int .i64 0, .int .i64 0, .int .i64 0, .bool false] 119)).frozen? ⟨w.heap.size + 1, o, none⟩ = false := fun o => (Below.frozen hEa (p := ⟨w.heap.size + 1, o, none⟩) l1).trans (rf o)
  have sf' : ∀ o, (w4.alloc (.cells #[.slice A1 c.ts.length a1, .int .i64 g, .slice B1 c.dn.length b1, .slice (some ⟨e0, 0, none⟩) m m, .bool c.over, .int .i64 c.st, .int .i64 c.id, .int .i64 0, .int .i64 0, .int .i64 0, .bool false] 119)).frozen? ⟨w.heap.size + 1 + 1, o, none⟩ = false := fun o => (Below.frozen hEa (p := ⟨w.heap.size + 1 + 1, o, none⟩) l2).trans (sf o)
  have HX5 := Lib.hid (HX4.out.trans hEa)
  have l5 : w.heap.size + 1 + 1 < (w4.alloc (.cells #[.slice A1 c.ts.length a1, .int .i64 g, .slice B1 c.dn.length b1, .slice (some ⟨e0, 0, none⟩) m m, .bool c.over, .int .i64 c.st, .int .i64 c.id, .int .i64 0, .int .i64 0, .int .i64 0, .bool false] 119)).heap.size := by simp; omega
  rw [hV]
  clear r0 r1 r2 r3 r4 r5 r6 rf s0 s1 s2 s3 sf hEa l3 l4
  generalize hw5 : w4.alloc (.cells #[.slice A1 c.ts.length a1, .int .i64 g, .slice B1 c.dn.length b1, .slice (some ⟨e0, 0, none⟩) m m, .bool c.over, .int .i64 c.st, .int .i64 c.id, .int .i64 0, .int .i64 0, .int .i64 0, .bool false] 119) = w5 at *
  clear hw5
  refine (gstep_any p q w5 HGO.out HI.out n1 n2 g1 g2 m1 m2 hst hid HPQ.out.1 HPQ.out.2).mono ?_
  rw [HR.out]
  rintro ed w6 ⟨A6, B6, a6, b6, hs6, rfl, hG6, hW6⟩
  have HG6 := Lib.hid hG6
  have HW6 := Lib.hid hW6
  have nV : ¬ (w.heap.size + 1 = V ∨ w.heap.size + 1 = e0) := by omega
  have nQ : ¬ (w.heap.size + 1 + 1 = V ∨ w.heap.size + 1 + 1 = e0) := by omega
  have y0 := hW6.cell r0' nV
  have y1 := hW6.cell r1' nV
  have y2 := hW6.cell r2' nV
  have y3 := hW6.cell r3' nV
  have y4 := hW6.cell r4' nV
  have y5 := hW6.cell r5' nV
  have y6 := hW6.cell r6' nV
  have x0 := hW6.cell s0' nQ
  have x1 := hW6.cell s1' nQ
  have x2 := hW6.cell s2' nQ
  have x3 := hW6.cell s3' nQ
  have yf := fun o => (hW6.frozen (by omega) nV o).trans (rf' o)
  have xf := fun o => (hW6.frozen l5 nQ o).trans (sf' o)
  have v0 := hG6.v0
  have v1 := hG6.v1
  have v2 := hG6.v2
  have v3 := hG6.v3
  have v4 := hG6.v4
  have v5 := hG6.v5
  have v6 := hG6.v6
  have v7 := hG6.v7
  have v8 := hG6.v8
  have v9 := hG6.v9
  have v10 := hG6.v10
  have l6 : w.heap.size + 1 + 1 < w6.heap.size := by have := hW6.size; omega
  have l7 : w.heap.size + 1 < w6.heap.size := by omega
  have l8 : V < w6.heap.size := hG6.sl V hG6.sV
  have HNE := Lib.hid (And.intro nV nQ)
  have nV1 : ¬ w.heap.size + 1 = V := by omega
  have nV2 : ¬ w.heap.size + 1 + 1 = V := by omega
  have nV3 : ¬ V = w.heap.size + 1 := by omega
  have nV4 : ¬ V = w.heap.size + 1 + 1 := by omega
  have hV2 : w.heap.size ≤ V := by omega
  clear hG6 hW6 nV nQ r0' r1' r2' r3' r4' r5' r6' rf' s0' s1' s2' s3' sf' hV l1 l2 l5
  go_upto_region 3 with fail
  go_cut [8] (fun z wx => z = .int .i64 0 ∧ Boxed wx (w.heap.size + 1) (w.heap.size + 1 + 1) A6 B6 e0 a6 b6 m g m r.1 r.2 ∧ Grew (fun x => x = w.heap.size + 1 ∨ x = w.heap.size + 1 + 1) w6 wx)
  case first =>
    go_region
    all_goals go_wp2_with fail
    all_goals go_meet
    all_goals first
      | (with_reducible exact ⟨rfl, Boxed.one' (by omega) (by omega) y0 y1 y2 y3 y4 y5 y6 x0 x1 x2 x3⟩)
      | (with_reducible exact ⟨rfl, Boxed.two' (by omega) (by omega) y0 y1 y2 y3 y4 y5 y6 x0 x1 x2 x3⟩)
  case rest =>
  obtain ⟨rfl, hB, hG7⟩ := hcut
  obtain ⟨k0, k1, k2, k3, k4, k5, k6, j0, j1, j2, j3⟩ := hB
  have HG7 := Lib.hid hG7
  clear hG7 y0 y1 y2 y3 y4 y5 y6 x0 x1 x2 x3 yf xf v0 v1 v2 v3 v4 v5 v6 v7 v8 v9 v10 l6 l7 l8
  go_wp2_with fail
  refine bodyPost_ret (v := .tuple #[crewV A6 B6 e0 0 a6 b6 m g m r.1, evV r.2, .int .i64 0]) (by simp [results, Try.results50, go_sem, k0, k1, k2, k3, k4, k5, k6, j0, j1, j2, j3]) rfl ⟨A6, B6, e0, a6, b6, rfl, ?_, ?_⟩
  · refine (HG6.out.crew (T := fun x => x < w.heap.size + 3) (fun x hx => .inl (by omega)) (by omega)).later m1 (hG := HG7.out.mono (fun x _ hx => by rcases hx with rfl | rfl <;> omega)) (fun x _ hx => by omega)
  · exact HG7.out.toExt (HW6.out.toExt HX5.out (fun b hb => by rcases hb with rfl | rfl <;> omega)) (fun b hb => by rcases hb with rfl | rfl <;> omega)
end Go.Proofs.Ytkpbanfpnilifaa

/- The document's Step of a crew (ref05). -/
namespace Go.Proofs.Ytkpbanfpnilifaa
open Go.BigFrame
open Go.RowKit Go.Proofs.Ytkpbanfpnilifaa.Plain

section
variable (w0 : World) (row : Option Nat) (V e0 P m e1 nh ch B : Nat) (Ah : Option Addr) (xs : List Nat) (x y : Int) (w : World) (ds : List Value) (v : Value)
end

end Go.Proofs.Ytkpbanfpnilifaa

/- The program's Run of a crew. -/
namespace Go.Proofs.Ytkpbanfpnilifaa
open Go.BigFrame
open Go.RowKit Go.Proofs.Ytkpbanfpnilifaa.Plain

/-- events -/
def kEv : Kd Ev where
  t := 82
  e := 104
  n := 4
  cells := fun x => [.int .i64 x.wk, .int .i64 x.fr, .int .i64 x.tk, .bool x.pt]
  ok := fun x => in64 x.wk ∧ in64 x.fr ∧ in64 x.tk
  d := ev0
  z := .agg #[.int .i64 0, .int .i64 0, .int .i64 0, .bool false]
  bytes := 32
  ht := Try.underlying82
  info := by kernel_rfl
  hzs := rfl
  pos := by decide
  small := by decide
  len := fun _ => rfl
  one := fun a u hu => by simp at hu; rcases hu with rfl | rfl | rfl | rfl <;> rfl
theorem Plain.CwI.evOk {g n m : Nat} {c : Cw} {done : Nat} {G : List Nat} (h : CwI g n m c done G) (hg : 1 ≤ g) (hn : 1 ≤ n) (n2 : n ≤ 900) (hm : 1 ≤ m) (m2 : m ≤ 8) (p q : Int) : kEv.ok (stepP g m c p q).2 := by
  have hc := cutN_lt m p hm
  have hf := h.few hg hn
  show in64 (stepP g m c p q).2.wk ∧ in64 (stepP g m c p q).2.fr ∧ in64 (stepP g m c p q).2.tk
  rcases h.step hg hm p q with ⟨he, _⟩ | ⟨k, F, hF, _, _, he, _, _, _, hk, _⟩ | ⟨k, F, hF, _, _, he, _, _, _, hk, _⟩
  · rw [he]; exact ⟨by unfold in64; simp only; omega, by unfold in64; simp only; omega, by unfold in64; simp only; omega⟩
  · rw [he]; exact ⟨by unfold in64; simp only; omega, by unfold in64; simp only; omega, by unfold in64; simp only; omega⟩
  · rw [he]; exact ⟨by unfold in64; simp only; omega, by unfold in64; simp only; omega, by unfold in64; simp only; omega⟩
/-- .. behind a run -/
theorem Plain.CwI.run {g n m : Nat} (hg : 1 ≤ g) (hm : 1 ≤ m) : ∀ (l : List (Int × Int)) (c : Cw), (∃ done G, CwI g n m c done G) → ∃ done G, CwI g n m (runP g m c l).1 done G
  | [], _, h => h
  | x :: l, _, ⟨_, _, h⟩ => Plain.CwI.run hg hm l _ (h.stepD hg hm x.1 x.2)
theorem GoAt.later {S T : Nat → Prop} {w W : World} {V e0 g m : Nat} {c : Cw} {ev : Ev} {A B : Option Addr} {a b e : Nat} {hs : Nat → Hd} (h : GoAt S w V e0 g m c ev A B a b e hs) (hG : Grew S w W) (hV : W.heap[V]? = w.heap[V]?) (hE : W.heap[e0]? = w.heap[e0]?) (tV : T V) (tE : T e0) (tl : ∀ x, T x → x < W.heap.size) (hT : ∀ x, x < w.heap.size → T x → S x) : GoAt T W V e0 g m c ev A B a b e hs := by
  have cV : ∀ o, W.cell? ⟨V, o, none⟩ = w.cell? ⟨V, o, none⟩ := fun o => by simp only [World.cell?, hV]
  have cE : ∀ o, W.cell? ⟨e0, o, none⟩ = w.cell? ⟨e0, o, none⟩ := fun o => by simp only [World.cell?, hE]
  have fV : ∀ o, W.frozen? ⟨V, o, none⟩ = w.frozen? ⟨V, o, none⟩ := fun o => by simp only [World.frozen?, hV]
  have fE : ∀ o, W.frozen? ⟨e0, o, none⟩ = w.frozen? ⟨e0, o, none⟩ := fun o => by simp only [World.frozen?, hE]
  exact ⟨tV, tE, tl, h.ne, (cV 0).trans h.v0, (cV 1).trans h.v1, (cV 2).trans h.v2, (cV 3).trans h.v3, (cV 4).trans h.v4, (cV 5).trans h.v5, (cV 6).trans h.v6, (cV 7).trans h.v7, (cV 8).trans h.v8, (cV 9).trans h.v9, (cV 10).trans h.v10,
    fun o => (fV o).trans (h.fV o), fun o => (fE o).trans (h.fE o), h.me, h.tsk.later hG hT, h.dns.later hG hT, h.dl, fun j hj => (cE j).trans (h.hd j hj), h.hn, fun j hj => (h.hr j hj).later hG hT, h.hc⟩

theorem Ow.grew {α : Type} {K : Kd α} {S : Nat → Prop} {B : Nat} {w W : World} {v : Value} {xs : List α} (h : Ow K B w v xs) (hG : Grew S w W) (hS : ∀ k, v.ownBlock = some k → ¬ S k) : Ow K B W v xs := by
  obtain ⟨⟨h1, h2⟩, hb⟩ := h
  refine ⟨⟨h1, ?_⟩, hb⟩
  rcases h2 with h2 | ⟨g, cap, cur, hv, hg, hh, hr⟩
  · exact .inl h2
  · have hlt : g < w.heap.size := by
      rcases Nat.lt_or_ge g w.heap.size with hlt | hge
      · exact hlt
      · rw [Array.getElem?_eq_none hge] at hh; cases hh
    exact .inr ⟨g, cap, cur, hv, hg, (hG.block g hlt (hS g (by rw [hv]; rfl))).trans hh, hr⟩
end Go.Proofs.Ytkpbanfpnilifaa

/- Plain words of a run of steps: which tasks are gone at, each once. No program in it. -/
namespace Go.Proofs.Ytkpbanfpnilifaa.Plain

/-- the tasks that are gone at, as they came -/
def takenL (l : List Ev) : List Nat := l.filterMap fun e => if e.tk < 0 then none else some e.tk.toNat
theorem takenL_app (a b : List Ev) : takenL (a ++ b) = takenL a ++ takenL b := by unfold takenL; rw [List.filterMap_append]
theorem takenL_no (e : Ev) (h : e.tk < 0) : takenL [e] = [] := by unfold takenL; simp [h]
theorem takenL_yes (e : Ev) (k : Nat) (h : e.tk = k) : takenL [e] = [k] := by unfold takenL; simp [h]
theorem CwI.stepG {g n m : Nat} {c : Cw} {done : Nat} {G : List Nat} (h : CwI g n m c done G) (hg : 1 ≤ g) (hm : 1 ≤ m) (p q : Int) : ∃ done', CwI g n m (stepP g m c p q).1 done' (G ++ takenL [(stepP g m c p q).2]) := by
  rcases h.step hg hm p q with ⟨he, _, h'⟩ | ⟨k, F, _, _, _, he, _, _, _, _, h'⟩ | ⟨k, F, _, _, _, he, _, _, _, _, _, h'⟩
  · refine ⟨done, ?_⟩
    rw [takenL_no _ (by rw [he]; simp only; omega), List.append_nil]
    exact h'
  · exact ⟨done, by rw [takenL_yes _ k (by rw [he])]; exact h'⟩
  · exact ⟨_, by rw [takenL_yes _ k (by rw [he])]; exact h'⟩
/-- the end: how many are gone at, held, and over -/
theorem CwI.counts {g n m : Nat} {c : Cw} {done : Nat} {G : List Nat} (h : CwI g n m c done G) (hg : 1 ≤ g) (hn : 1 ≤ n) : G.length + (held c.D).length = c.ts.length ∧ c.ts.length ≤ cntT n g ∧ cntT n g ≤ 2 * n ∧ (c.over = true ↔ G.length = cntT n g) := by
  have h1 := (CrI.fresh h).2.2.2
  have h2 := (CrI.inv h).few hg hn
  refine ⟨h1, h2.1, by omega, ?_⟩
  have hov := CrI.ov h
  constructor
  · intro ho
    rw [ho] at hov
    have he : held c.D = [] := of_decide_eq_true hov.symm
    have hI := CrI.inv h
    rw [he] at hI h1
    have := hI.over.2.1
    simp only [List.length_nil] at h1
    omega
  · intro hl
    rw [hov, decide_eq_true_eq]
    exact List.eq_nil_of_length_eq_zero (by omega)
end Go.Proofs.Ytkpbanfpnilifaa.Plain

/- Plain words of a drain: round by round, until it is over; it ends. No program in it. -/
namespace Go.Proofs.Ytkpbanfpnilifaa.Plain

/-- the t-th pick of a drain: worker by worker, round by round -/
def dpick (m t : Nat) : Int × Int := (((t % m : Nat) : Int), ((t % m + 1 + t / m : Nat) : Int))
/-- .. until it is over; 'f' bounds the steps -/
def drainP (g m : Nat) : Nat → Nat → Cw → Cw × List Ev
  | 0, _, c => (c, [])
  | f + 1, t, c => if c.over = true then (c, []) else
    ((drainP g m f (t + 1) (stepP g m c (dpick m t).1 (dpick m t).2).1).1, (stepP g m c (dpick m t).1 (dpick m t).2).2 :: (drainP g m f (t + 1) (stepP g m c (dpick m t).1 (dpick m t).2).1).2)
theorem cutN_mod (m t : Nat) (hm : 1 ≤ m) : cutN m ((t % m : Nat) : Int) = t % m := by
  have h := Nat.mod_lt t (by omega : m > 0)
  unfold cutN
  rw [Int.emod_eq_of_lt (by omega) (by omega)]; omega
/-- a task waits at most k workers on from p -/
def near (m : Nat) (D : List (List Nat)) (p k : Nat) : Prop := ∃ j, j ≤ k ∧ D.getD ((p + j) % m) [] ≠ []
theorem near_of {m : Nat} {D : List (List Nat)} (hm : D.length = m) (h1 : 1 ≤ m) (h : held D ≠ []) (p : Nat) (hp : p < m) : near m D p (m - 1) := by
  have : ∃ q, q < m ∧ D.getD q [] ≠ [] := by
    apply Classical.byContradiction
    intro hn
    apply h
    unfold held
    rw [List.flatten_eq_nil_iff]
    intro l hl
    obtain ⟨i, hi, rfl⟩ := List.getElem_of_mem hl
    apply Classical.byContradiction
    intro hne
    exact hn ⟨i, by omega, by rw [getDp hi]; exact hne⟩
  obtain ⟨q, hq, hne⟩ := this
  by_cases hle : p ≤ q
  · exact ⟨q - p, by omega, by rw [show p + (q - p) = q by omega, Nat.mod_eq_of_lt hq]; exact hne⟩
  · refine ⟨q + m - p, by omega, ?_⟩
    rw [show p + (q + m - p) = q + m by omega, Nat.add_mod_right, Nat.mod_eq_of_lt hq]; exact hne
theorem mod_succ (m t : Nat) (_hm : 1 ≤ m) (j : Nat) : ((t + 1) % m + j) % m = (t % m + (j + 1)) % m := by
  rw [Nat.add_mod ((t + 1) % m) j, Nat.mod_mod, ← Nat.add_mod, Nat.add_mod (t % m) (j + 1), Nat.mod_mod, ← Nat.add_mod]
  congr 1; omega
/-- it ends -/
theorem drain_ends {g n m : Nat} (hg : 1 ≤ g) (hn : 1 ≤ n) (hm : 1 ≤ m) : ∀ (N t k : Nat) (c : Cw) (done : Nat) (G : List Nat), CwI g n m c done G → (c.over = false → near m c.D (t % m) k) → k < m → (cntT n g - G.length) * m + k + 1 ≤ N + m →
    (drainP g m N t c).1.over = true ∧ (drainP g m N t c).2.length + m ≤ (cntT n g - G.length) * m + k + 1 + m ∧ ∃ done', CwI g n m (drainP g m N t c).1 done' (G ++ takenL (drainP g m N t c).2)
  | 0, t, k, c, done, G, h, hk, hkm, hN => by
    obtain ⟨c1, c2, c3, c4⟩ := h.counts hg hn
    have hU : cntT n g - G.length = 0 := by
      rcases Nat.eq_zero_or_pos (cntT n g - G.length) with h0 | h0
      · exact h0
      · have : 1 * m ≤ (cntT n g - G.length) * m := Nat.mul_le_mul_right _ h0
        omega
    have hGl : G.length = cntT n g := by omega
    refine ⟨c4.2 hGl, by simp [drainP], ⟨done, by simpa [drainP, takenL] using h⟩⟩
  | N + 1, t, k, c, done, G, h, hk, hkm, hN => by
    obtain ⟨c1, c2, c3, c4⟩ := h.counts hg hn
    unfold drainP
    by_cases ho : c.over = true
    · rw [if_pos ho]
      exact ⟨ho, by simp, ⟨done, by simpa [takenL] using h⟩⟩
    · rw [if_neg ho]
      have hof : c.over = false := by simpa using ho
      have hGl : G.length < cntT n g := by
        rcases Nat.lt_or_ge G.length (cntT n g) with h1 | h1
        · exact h1
        · exact absurd (c4.2 (by omega)) ho
      obtain ⟨p, q, hpq⟩ : ∃ p q, dpick m t = (p, q) := ⟨_, _, rfl⟩
      have hp : p = ((t % m : Nat) : Int) := by unfold dpick at hpq; cases hpq; rfl
      rw [hpq]
      simp only
      have hwk : c.D.length = m := CrI.wk h
      have hcut : cutN m p = t % m := by rw [hp]; exact cutN_mod m t hm
      have hpr : ∀ x : Nat, (stepP g m c p q).2.tk = x → takenL [(stepP g m c p q).2] = [x] := fun x hx => takenL_yes _ x hx
      obtain ⟨d1, h1⟩ := h.stepG hg hm p q
      have nextNear : ∀ c' : Cw, ∀ dd GG, CwI g n m c' dd GG → c'.over = false → near m c'.D ((t + 1) % m) (m - 1) := fun c' dd GG hc' hov =>
        near_of (CrI.wk hc') hm (by have := (CrI.over_iff hc').2 hov; exact List.length_pos_iff.1 this) _ (Nat.mod_lt _ (by omega))
      have hmul : (cntT n g - G.length) * m = (cntT n g - (G.length + 1)) * m + m := by
        rw [show cntT n g - G.length = (cntT n g - (G.length + 1)) + 1 by omega, Nat.add_mul, Nat.one_mul]
      rcases h.step hg hm p q with ⟨he, h0, h'⟩ | ⟨x, F, _, _, _, he, _, _, _, _, h'⟩ | ⟨x, F, _, _, _, he, _, _, _, _, _, h'⟩
      · -- idle
        have hD : (stepP g m c p q).1.D = c.D := by rw [he]
        obtain ⟨j, hj, hne⟩ := hk hof
        have hj0 : j ≠ 0 := by
          intro e; subst e
          rw [Nat.add_zero, Nat.mod_mod] at hne
          rw [hcut] at h0
          exact hne h0
        have hne' : near m (stepP g m c p q).1.D ((t + 1) % m) (k - 1) := by
          refine ⟨j - 1, by omega, ?_⟩
          rw [hD, mod_succ m t hm, show j - 1 + 1 = j by omega]; exact hne
        have hl : (G ++ takenL [(stepP g m c p q).2]).length = G.length := by rw [takenL_no _ (by rw [he]; simp only; omega), List.append_nil]
        have ih := drain_ends hg hn hm N (t + 1) (k - 1) _ _ _ h1 (fun _ => hne') (by omega) (by rw [hl]; omega)
        rw [hl] at ih
        refine ⟨ih.1, by simp only [List.length_cons]; omega, ?_⟩
        obtain ⟨d2, h2⟩ := ih.2.2
        refine ⟨d2, ?_⟩
        have e : takenL ((stepP g m c p q).2 :: (drainP g m N (t + 1) (stepP g m c p q).1).2) = takenL [(stepP g m c p q).2] ++ takenL (drainP g m N (t + 1) (stepP g m c p q).1).2 := by rw [← takenL_app]; rfl
        rw [e, ← List.append_assoc]; exact h2
      all_goals
        have hl : (G ++ takenL [(stepP g m c p q).2]).length = G.length + 1 := by rw [hpr x (by rw [he]), List.length_append]; rfl
        have ih := drain_ends hg hn hm N (t + 1) (m - 1) _ _ _ h1 (fun hov => nextNear _ _ _ h1 hov) (by omega) (by rw [hl]; omega)
        rw [hl] at ih
        refine ⟨ih.1, by simp only [List.length_cons]; omega, ?_⟩
        obtain ⟨d2, h2⟩ := ih.2.2
        refine ⟨d2, ?_⟩
        have e : takenL ((stepP g m c p q).2 :: (drainP g m N (t + 1) (stepP g m c p q).1).2) = takenL [(stepP g m c p q).2] ++ takenL (drainP g m N (t + 1) (stepP g m c p q).1).2 := by rw [← takenL_app]; rfl
        rw [e, ← List.append_assoc]; exact h2
end Go.Proofs.Ytkpbanfpnilifaa.Plain

/- Plain words of leaves: the units, as they are done, each once. No program in it. -/
namespace Go.Proofs.Ytkpbanfpnilifaa.Plain

/-- a task's units -/
def unitsOf (t : Tk) : List Nat := List.range' t.lo.toNat (t.hi.toNat - t.lo.toNat)
theorem mem_unitsOf (t : Tk) (u : Nat) : u ∈ unitsOf t ↔ t.lo.toNat ≤ u ∧ u < t.hi.toNat := by unfold unitsOf; rw [List.mem_range'_1]; omega
theorem unitsOf_nodup (t : Tk) : (unitsOf t).Nodup := by unfold unitsOf; exact List.nodup_range'
/-- the units of those that weren't parted, nor idle, as they came -/
def orderL (ts : List Tk) (evs : List Ev) : List Nat := evs.flatMap fun e => if e.tk < 0 ∨ e.pt = true then [] else unitsOf (T ts e.tk.toNat)
theorem orderL_app (ts : List Tk) (a b : List Ev) : orderL ts (a ++ b) = orderL ts a ++ orderL ts b := by unfold orderL; rw [List.flatMap_append]
theorem orderL_nil (ts : List Tk) : orderL ts [] = [] := rfl
/-- tasks that were there are where they were -/
def Keeps (ts us : List Tk) : Prop := ts.length ≤ us.length ∧ ∀ k, k < ts.length → (T us k).lo = (T ts k).lo ∧ (T us k).hi = (T ts k).hi
theorem Keeps.refl (ts : List Tk) : Keeps ts ts := ⟨Nat.le_refl _, fun _ _ => ⟨rfl, rfl⟩⟩
theorem Keeps.trans {a b c : List Tk} (h : Keeps a b) (k : Keeps b c) : Keeps a c := ⟨Nat.le_trans h.1 k.1, fun i hi => ⟨(k.2 i (by have := h.1; omega)).1.trans (h.2 i hi).1, (k.2 i (by have := h.1; omega)).2.trans (h.2 i hi).2⟩⟩
theorem Keeps.same {ts us : List Tk} (h : SameBut ts us) : Keeps ts us := ⟨by rw [h.1]; exact Nat.le_refl _, fun k _ => ⟨(h.2 k).1, (h.2 k).2.1⟩⟩
theorem Keeps.parted (ts : List Tk) (k : Nat) (hk : k < ts.length) : Keeps ts (partedL ts k) := ⟨by rw [partedL_len]; omega, fun j hj => by
  rw [parted_at ts k hk]
  by_cases e : j = k
  · subst e; rw [if_pos rfl]; exact ⟨rfl, rfl⟩
  · rw [if_neg e, if_pos hj]; exact ⟨rfl, rfl⟩⟩
/-- events of tasks that there are -/
def evsIn (n : Nat) (evs : List Ev) : Prop := ∀ e ∈ evs, e.tk < n
theorem orderL_keeps {ts us : List Tk} (h : Keeps ts us) : ∀ (evs : List Ev), evsIn ts.length evs → orderL us evs = orderL ts evs
  | [], _ => rfl
  | e :: l, hi => by
    have ih := orderL_keeps h l (fun x hx => hi x (by simp [hx]))
    have e1 : ∀ vs, orderL vs (e :: l) = orderL vs [e] ++ orderL vs l := fun vs => by rw [← orderL_app]; rfl
    rw [e1, e1, ih]
    congr 1
    unfold orderL
    simp only [List.flatMap_cons, List.flatMap_nil, List.append_nil]
    by_cases hc : e.tk < 0 ∨ e.pt = true
    · rw [if_pos hc, if_pos hc]
    · rw [if_neg hc, if_neg hc]
      have hlt : e.tk < ts.length := hi e (by simp)
      obtain ⟨h1, h2⟩ := h.2 e.tk.toNat (by omega)
      unfold unitsOf; rw [h1, h2]
/-- what is done, as it came -/
def LI (n : Nat) (c : Cw) (L : List Nat) : Prop := L.Nodup ∧ ∀ u, u ∈ L ↔ u < n ∧ c.dn.getD u false = true
theorem LI.begin (n m : Nat) : LI n (beginC n m) [] := ⟨List.nodup_nil, fun u => by
  unfold beginC
  simp only [List.not_mem_nil, false_iff]
  rintro ⟨_, h⟩
  rw [List.getD_eq_getElem?_getD, List.getElem?_replicate] at h
  split at h <;> simp at h⟩
theorem stepP_keeps {g n m : Nat} {c : Cw} {done : Nat} {G : List Nat} (h : CwI g n m c done G) (hg : 1 ≤ g) (hm : 1 ≤ m) (p q : Int) : Keeps c.ts (stepP g m c p q).1.ts ∧ (stepP g m c p q).2.tk < c.ts.length := by
  rcases h.step hg hm p q with ⟨he, _⟩ | ⟨k, F, _, _, _, he, ht, _, _, hk, _⟩ | ⟨k, F, _, _, _, he, hs, _, _, hk, _⟩
  · rw [he]; exact ⟨Keeps.refl _, by simp only; omega⟩
  · rw [ht, he]; exact ⟨Keeps.parted _ _ hk, by simp only; omega⟩
  · rw [he]; exact ⟨Keeps.same hs, by simp only; omega⟩
theorem LI.step {g n m : Nat} {c : Cw} {done : Nat} {G L : List Nat} (hL : LI n c L) (h : CwI g n m c done G) (_hg : 1 ≤ g) (hm : 1 ≤ m) (p q : Int) : LI n (stepP g m c p q).1 (L ++ orderL c.ts [(stepP g m c p q).2]) := by
  have hwk : c.D.length = m := CrI.wk h
  unfold stepP
  cases hs : srcN c.D (cutN m p) (cutN m q) with
  | none =>
    simp only
    have e : orderL c.ts [(⟨cutN m p, -1, -1, false⟩ : Ev)] = [] := by unfold orderL; simp
    rw [e, List.append_nil]
    exact hL
  | some F =>
    obtain ⟨hne, hor⟩ := srcN_some hs
    have hF : F < m := by rcases hor with rfl | ⟨rfl, _⟩ <;> exact cutN_lt m _ hm
    have hE := take_held (P := cutN m p) (by omega : F < c.D.length) hne
    have hmem : (takeN c.D (cutN m p) F).1 ∈ held c.D := hE.mem_iff.2 (by simp)
    have hI := CrI.inv h
    have hlt := hI.lt _ hmem
    simp only
    unfold goP
    obtain ⟨k, hk⟩ : ∃ k, (takeN c.D (cutN m p) F).1 = k := ⟨_, rfl⟩
    rw [hk] at hmem hlt ⊢
    simp only
    by_cases hz : g < sz c.ts k
    · rw [if_pos hz]
      have e : orderL c.ts [(⟨cutN m p, F, k, true⟩ : Ev)] = [] := by unfold orderL; simp
      simp only
      rw [e, List.append_nil]
      exact hL
    · rw [if_neg hz]
      have htk := hI.task k hlt
      have e : orderL c.ts [(⟨cutN m p, F, k, false⟩ : Ev)] = unitsOf (T c.ts k) := by
        unfold orderL
        simp only [List.flatMap_cons, List.flatMap_nil, List.append_nil]
        rw [if_neg (by simp), Int.toNat_natCast]
      simp only
      rw [e]
      have hlo : (T c.ts k).lo.toNat ≤ (T c.ts k).hi.toNat := by omega
      have hhi : (T c.ts k).hi.toNat ≤ c.dn.length := by rw [hI.dl]; omega
      have hcov : ∀ u, (T c.ts k).lo.toNat ≤ u → u < (T c.ts k).hi.toNat → c.dn.getD u false = false := fun u h1 h2 => (hI.cov u (by omega)).2 ⟨k, hmem, by omega, by omega⟩
      refine ⟨?_, fun u => ?_⟩
      · rw [List.nodup_append]
        refine ⟨hL.1, unitsOf_nodup _, fun a ha b hb hab => ?_⟩
        subst hab
        rw [mem_unitsOf] at hb
        have h1 := ((hL.2 a).1 ha).2
        rw [hcov a hb.1 hb.2] at h1
        cases h1
      · rw [List.mem_append, mem_unitsOf, hL.2 u]
        show _ ↔ u < n ∧ (marked c.dn (T c.ts k).lo.toNat (T c.ts k).hi.toNat).getD u false = true
        rw [marked_getD _ _ _ hlo hhi]
        have hdl := hI.dl
        by_cases hu : (T c.ts k).lo.toNat ≤ u ∧ u < (T c.ts k).hi.toNat
        · rw [if_pos hu]
          exact ⟨fun _ => ⟨by omega, rfl⟩, fun _ => .inr hu⟩
        · rw [if_neg hu]
          exact ⟨fun hh => by rcases hh with hh | hh; exact hh; exact absurd hh hu, fun hh => .inl hh⟩
/-- over: each unit once -/
theorem LI.over {g n m : Nat} {c : Cw} {done : Nat} {G L : List Nat} (hL : LI n c L) (h : CwI g n m c done G) (ho : c.over = true) : L.Perm (List.range n) := by
  have hov := CrI.ov h
  rw [ho] at hov
  have he : held c.D = [] := of_decide_eq_true hov.symm
  have hI := CrI.inv h
  rw [he] at hI
  have hall := hI.over.2.2.1
  refine (List.perm_ext_iff_of_nodup hL.1 List.nodup_range).2 fun u => ?_
  rw [hL.2 u, List.mem_range]
  exact ⟨fun hh => hh.1, fun hu => ⟨hu, hall u hu⟩⟩
end Go.Proofs.Ytkpbanfpnilifaa.Plain

/- Plain words of work from its beginning to its end. No program in it. -/
namespace Go.Proofs.Ytkpbanfpnilifaa.Plain

/-- step by step, until it is over -/
def untilP (g m : Nat) : Cw → List (Int × Int) → Cw × List Ev
  | c, [] => (c, [])
  | c, x :: l => if c.over = true then (c, []) else ((untilP g m (stepP g m c x.1 x.2).1 l).1, (stepP g m c x.1 x.2).2 :: (untilP g m (stepP g m c x.1 x.2).1 l).2)
/-- the whole: picks, then round by round -/
def wholeP (g n m : Nat) (picks : List (Int × Int)) : Cw × List Ev :=
  ((drainP g m (m * cntT n g) 0 (untilP g m (beginC n m) picks).1).1, (untilP g m (beginC n m) picks).2 ++ (drainP g m (m * cntT n g) 0 (untilP g m (beginC n m) picks).1).2)

/-- what stands, of a crew behind some events -/
structure Been (g n m : Nat) (c : Cw) (evs : List Ev) : Prop where
  inv : ∃ done, CwI g n m c done (takenL evs)
  li : LI n c (orderL c.ts evs)
  ins : evsIn c.ts.length evs
  st : c.st = evs.length
  id : c.id ≤ evs.length
theorem Been.begin (g n m : Nat) (hn : 1 ≤ n) (hm : 1 ≤ m) : Been g n m (beginC n m) [] :=
  ⟨⟨0, CwI.begin g n m hn hm⟩, LI.begin n m, (fun e he => by cases he), rfl, Nat.le_refl _⟩
theorem Been.step {g n m : Nat} {c : Cw} {evs : List Ev} (h : Been g n m c evs) (hg : 1 ≤ g) (hm : 1 ≤ m) (p q : Int) : Been g n m (stepP g m c p q).1 (evs ++ [(stepP g m c p q).2]) := by
  obtain ⟨⟨done, hI⟩, hL, hi, hs, hd⟩ := h
  obtain ⟨hk, ht⟩ := stepP_keeps hI hg hm p q
  obtain ⟨d1, h1⟩ := hI.stepG hg hm p q
  obtain ⟨s1, s2, s3⟩ := stepP_st g m c p q
  refine ⟨⟨d1, by rw [takenL_app]; exact h1⟩, ?_, fun e he => ?_, by rw [s1, hs, List.length_append]; rfl, by rw [List.length_append]; simp only [List.length_singleton]; omega⟩
  · rw [orderL_app, orderL_keeps hk evs hi, orderL_keeps hk [(stepP g m c p q).2] (fun e he => by rw [List.mem_singleton] at he; rw [he]; exact ht)]
    exact hL.step hI hg hm p q
  · rcases List.mem_append.1 he with h' | h'
    · have := hi e h'; have := hk.1; omega
    · rw [List.mem_singleton] at h'; rw [h']; have := hk.1; omega
theorem Been.until {g n m : Nat} (hg : 1 ≤ g) (hm : 1 ≤ m) : ∀ (l : List (Int × Int)) (c : Cw) (evs : List Ev), Been g n m c evs → Been g n m (untilP g m c l).1 (evs ++ (untilP g m c l).2) ∧ (untilP g m c l).2.length ≤ l.length
  | [], c, evs, h => ⟨by simpa [untilP] using h, Nat.le_refl _⟩
  | x :: l, c, evs, h => by
    unfold untilP
    by_cases ho : c.over = true
    · rw [if_pos ho]; exact ⟨by simpa using h, by simp⟩
    · rw [if_neg ho]
      obtain ⟨h1, h2⟩ := Been.until hg hm l _ _ (h.step hg hm x.1 x.2)
      refine ⟨?_, by simp only [List.length_cons]; omega⟩
      rw [List.append_assoc] at h1
      exact h1
theorem Been.drain {g n m : Nat} (hg : 1 ≤ g) (hm : 1 ≤ m) : ∀ (N t : Nat) (c : Cw) (evs : List Ev), Been g n m c evs → Been g n m (drainP g m N t c).1 (evs ++ (drainP g m N t c).2)
  | 0, t, c, evs, h => by simpa [drainP] using h
  | N + 1, t, c, evs, h => by
    unfold drainP
    by_cases ho : c.over = true
    · rw [if_pos ho]; simpa using h
    · rw [if_neg ho]
      have h1 := Been.drain hg hm N (t + 1) _ _ (h.step hg hm (dpick m t).1 (dpick m t).2)
      rw [List.append_assoc] at h1
      exact h1
/-- the whole ends, each unit once, in so many steps at most -/
theorem whole_ends {g n m : Nat} (hg : 1 ≤ g) (hn : 1 ≤ n) (hm : 1 ≤ m) (picks : List (Int × Int)) :
    (wholeP g n m picks).1.over = true ∧ Been g n m (wholeP g n m picks).1 (wholeP g n m picks).2 ∧ (wholeP g n m picks).2.length ≤ picks.length + m * (cntT n g + 1) ∧ (orderL (wholeP g n m picks).1.ts (wholeP g n m picks).2).Perm (List.range n) := by
  obtain ⟨h1, h2⟩ := Been.until hg hm picks (beginC n m) [] (Been.begin g n m hn hm)
  rw [List.nil_append] at h1
  obtain ⟨d1, hI⟩ := h1.inv
  have hle : (cntT n g - (takenL (untilP g m (beginC n m) picks).2).length) * m + (m - 1) + 1 ≤ m * cntT n g + m := by
    have : (cntT n g - (takenL (untilP g m (beginC n m) picks).2).length) * m ≤ cntT n g * m := Nat.mul_le_mul_right _ (Nat.sub_le _ _)
    rw [Nat.mul_comm m]; omega
  have hnear : (untilP g m (beginC n m) picks).1.over = false → near m (untilP g m (beginC n m) picks).1.D (0 % m) (m - 1) := fun ho =>
    near_of (CrI.wk hI) hm (List.length_pos_iff.1 ((CrI.over_iff hI).2 ho)) _ (Nat.mod_lt _ (by omega))
  obtain ⟨e1, e2, _⟩ := drain_ends hg hn hm (m * cntT n g) 0 (m - 1) _ _ _ hI hnear (by omega) hle
  have h3 := Been.drain hg hm (m * cntT n g) 0 _ _ h1
  refine ⟨e1, h3, ?_, ?_⟩
  · show ((untilP g m (beginC n m) picks).2 ++ (drainP g m (m * cntT n g) 0 (untilP g m (beginC n m) picks).1).2).length ≤ _
    rw [List.length_append, Nat.mul_add, Nat.mul_one]
    omega
  · obtain ⟨_, h4⟩ := h3.inv
    exact h3.li.over h4 e1
end Go.Proofs.Ytkpbanfpnilifaa.Plain

/- The document's Drain of a crew (ref06). -/
namespace Go.Proofs.Ytkpbanfpnilifaa
open Go.BigFrame
open Go.RowKit Go.Proofs.Ytkpbanfpnilifaa.Plain

section
variable (w0 : World) (row : Option Nat) (cv ve vo : Value) (B : Nat) (evs : List Ev) (ev : Ev) (w : World) (ds : List Value) (v : Value)
end

end Go.Proofs.Ytkpbanfpnilifaa

/- The program's Begin of work, in new memory. -/
namespace Go.Proofs.Ytkpbanfpnilifaa
open Go.RowKit Go.Proofs.Ytkpbanfpnilifaa.Plain

def BeginNew (w : World) (n g : Int) (e : Ending) (w' : World) : Prop :=
  ∃ A c B d, e = .returned (.tuple #[.agg #[.slice A 1 c, .int .i64 g, .slice B n.toNat d], .int .i64 0]) ∧
    Rd kTask w' (.slice A 1 c) [⟨0, n, -1, 0⟩] ∧ Rd kBool w' (.slice B n.toNat d) (List.replicate n.toNat false) ∧ From w.heap.size A ∧ From w.heap.size B ∧ Ext w w'
set_option maxHeartbeats 800000 in
set_option maxRecDepth 100000 in
theorem pbegin_new (n g : Int) (w : World) (hn : in64 n) (hg : in64 g) (hc : cOk n g = true) :
    Calls Try.prog 46 #[.int .i64 n, .int .i64 g] w (BeginNew w n g) := by
  have HN := Lib.hid hn
  have HG := Lib.hid hg
  have HC := Lib.hid hc
  obtain ⟨a1, a2, a3, a4⟩ : 1 ≤ n ∧ n ≤ 1000 ∧ 1 ≤ g ∧ g ≤ 100 := by unfold cOk at hc; simp only [Bool.and_eq_true, decide_eq_true_eq] at hc; omega
  obtain ⟨N, rfl⟩ : ∃ N : Nat, n = N := ⟨n.toNat, by omega⟩
  clear hc hn hg
  obtain ⟨C, hmk, hown⟩ := kBool.make false rfl trivial N (by omega)
  have hmk' : ∀ w : World, (Instr.makeSlice 56 (.int .i64 N) (.int .i64 N)).run Try.prog w = .ok (.slice (some ⟨w.heap.size, 0, none⟩) N N) (w.alloc (.cells C 4)) := hmk
  have HO := Lib.hid hown
  clear hmk hown
  go_enter Try.func46, Try.ntmps46
  go_wp2_with fail
  refine (sized_any _ _ _ HN.out HG.out).mono ?_
  rintro e w1 ⟨he, rfl⟩
  rw [HC.out] at he
  subst he
  go_wp2_with fail
  go_region
  all_goals (try go_wp2)
  · refine bodyPost_ret (v := .tuple #[.agg #[.slice (some ⟨w.heap.size + 1 + 1, 0, none⟩) 1 1, .int .i64 g, .slice (some ⟨w.heap.size + 1 + 1 + 1, 0, none⟩) N N], .int .i64 0]) (by simp [results, Try.results46, go_sem]) rfl ⟨_, 1, _, N, rfl, ?_, ?_, fun a ha => by cases ha; simp only; omega, fun a ha => by cases ha; simp only; omega, ?_⟩
    · exact (Ow.lit (K := kTask) (B := 0) (p := w.heap.size + 1 + 1) _ [⟨0, N, -1, 0⟩] #[.int .i64 0, .int .i64 N, .int .i64 (-1), .int .i64 0] rfl rfl (by simp) (Nat.zero_le _) (by simp [maxLen]) (by intro x hx; simp only [List.mem_singleton] at hx; subst hx; exact tk_ok (by unfold in64; omega) (by unfold in64; omega) (by unfold in64; omega) (by unfold in64; omega))).rd.ext ((Ext.refl _).alloc _).drew
    · exact (HO.out _ 0 (w.heap.size + 1 + 1 + 1) (by simp) (Nat.zero_le _)).rd.ext (Ext.refl _).drew
    · exact (((((Ext.refl w).alloc _).alloc _).alloc _).alloc _).drew
  · refine bodyPost_ret (v := .tuple #[.agg #[.slice (some ⟨w.heap.size + 1 + 1 + 1, 0, none⟩) 1 1, .int .i64 g, .slice (some ⟨w.heap.size + 1 + 1, 0, none⟩) N N], .int .i64 0]) (by simp [results, Try.results46, go_sem]) rfl ⟨_, 1, _, N, rfl, ?_, ?_, fun a ha => by cases ha; simp only; omega, fun a ha => by cases ha; simp only; omega, ?_⟩
    · exact (Ow.lit (K := kTask) (B := 0) (p := w.heap.size + 1 + 1 + 1) _ [⟨0, N, -1, 0⟩] #[.int .i64 0, .int .i64 N, .int .i64 (-1), .int .i64 0] rfl rfl (by simp) (Nat.zero_le _) (by simp [maxLen]) (by intro x hx; simp only [List.mem_singleton] at hx; subst hx; exact tk_ok (by unfold in64; omega) (by unfold in64; omega) (by unfold in64; omega) (by unfold in64; omega))).rd.ext (Ext.refl _).drew
    · exact (HO.out _ 0 (w.heap.size + 1 + 1) (by simp) (Nat.zero_le _)).rd.ext ((Ext.refl _).alloc _).drew
    · exact (((((Ext.refl w).alloc _).alloc _).alloc _).alloc _).drew
end Go.Proofs.Ytkpbanfpnilifaa

/- The program's Begin of a crew. -/
namespace Go.Proofs.Ytkpbanfpnilifaa
open Go.BigFrame
open Go.RowKit Go.Proofs.Ytkpbanfpnilifaa.Plain

/-- but for two blocks -/
abbrev GrewTwo (w : World) (X Y : Nat) (W : World) : Prop := Grew (fun x => x = X ∨ x = Y) w W
/-- .. in memory that is new -/
def CBeginOff (n g m : Nat) (w : World) (ed : Ending) (w' : World) : Prop :=
  ∃ (A B : Option Addr) (e0 a b : Nat), ed = .returned (.tuple #[crewV A B e0 0 a b m g m (beginC n m), .int .i64 0]) ∧ CrewO (fun x => x < w.heap.size) w' m (beginC n m) A B e0 0 a b ∧ Ext w w'
set_option maxHeartbeats 800000 in
set_option maxRecDepth 100000 in
theorem cbegin_off (n g m : Nat) (w : World) (n1 : 1 ≤ n) (n2 : n ≤ 1000) (g1 : 1 ≤ g) (g2 : g ≤ 100) (m1 : 1 ≤ m) (m2 : m ≤ 8) :
    Calls Try.prog 40 #[.int .i64 n, .int .i64 g, .int .i64 m] w (CBeginOff n g m w) := by
  have HCK : Hid (cOk (n : Int) (g : Int) = true) := Lib.hid (by unfold cOk; simp; omega)
  have HNI : Hid (in64 (n : Int)) := Lib.hid (in64_nat n (by omega))
  have HGI : Hid (in64 (g : Int)) := Lib.hid (in64_nat g (by omega))
  have m3 : (1 : Int) ≤ m := by omega
  have m4 : (m : Int) ≤ 8 := by omega
  have m5 : (0 : Int) < m := by omega
  have m6 : 0 < m := by omega
  obtain ⟨C, hmk, hmown⟩ := kRow.make hd0 rfl trivial m (by omega)
  have HMK := Lib.hid hmown
  have hmk2 : ∀ w : World, (Instr.makeSlice 79 (.int .i64 m) (.int .i64 m)).run Try.prog w = .ok (.slice (some ⟨w.heap.size, 0, none⟩) m m) (w.alloc (.cells C 30)) := hmk
  clear hmk hmown
  go_enter Try.func40, Try.ntmps40
  go_wp2_with ((go_at_call 45; refine (manned_yes m _ m1 m2).mono ?_; rintro ed w1 ⟨rfl, rfl⟩))
  refine (pbegin_new (n : Int) (g : Int) _ HNI.out HGI.out HCK.out).mono ?_
  rintro ed w2 ⟨A1, a1, B1, b1, rfl, hT, hD, hA, hB, hE⟩
  rw [Int.toNat_natCast] at hD ⊢
  have HAB : Hid ((∀ a, A1 = some a → w.heap.size + 1 ≤ a.block ∧ a.block < w2.heap.size) ∧ (∀ a, B1 = some a → w.heap.size + 1 ≤ a.block ∧ a.block < w2.heap.size)) := Lib.hid ⟨fun a ha => ⟨by have := hA a ha; simpa using this, Rd.lt hT (by simp) a ha⟩, fun a ha => ⟨by have := hB a ha; simpa using this, Rd.lt hD (by simp; omega) a ha⟩⟩
  clear hA hB
  have r0 : w2.cell? ⟨w.heap.size, 0, none⟩ = some (.slice none 0 0) := Ext.cell hE (by go_simp)
  have r1 : w2.cell? ⟨w.heap.size, 1, none⟩ = some (.int .i64 0) := Ext.cell hE (by go_simp)
  have r2 : w2.cell? ⟨w.heap.size, 2, none⟩ = some (.slice none 0 0) := Ext.cell hE (by go_simp)
  have r3 : w2.cell? ⟨w.heap.size, 3, none⟩ = some (.slice none 0 0) := Ext.cell hE (by go_simp)
  have r4 : w2.cell? ⟨w.heap.size, 4, none⟩ = some (.bool false) := Ext.cell hE (by go_simp)
  have r5 : w2.cell? ⟨w.heap.size, 5, none⟩ = some (.int .i64 0) := Ext.cell hE (by go_simp)
  have r6 : w2.cell? ⟨w.heap.size, 6, none⟩ = some (.int .i64 0) := Ext.cell hE (by go_simp)
  have rf : ∀ o, w2.frozen? ⟨w.heap.size, o, none⟩ = false := fun o => (Below.frozen hE (p := ⟨w.heap.size, o, none⟩) (by first | omega | (simp; omega) | simp)).trans (by go_simp)
  have HT := Lib.hid hT
  have HD := Lib.hid hD
  have hz := hE.size
  simp at hz
  have l2 : w.heap.size < w2.heap.size := by omega
  have l3 : w.heap.size < w2.heap.size + 1 := by omega
  have HX2 := Lib.hid (((Ext.refl w).alloc _).trans hE)
  clear hT hD hE
  go_upto_region 7 with fail
  have hEb : Ext (w2.alloc (.cells #[.slice A1 1 a1, .int .i64 g, .slice B1 n b1] 78)) ((w2.alloc (.cells #[.slice A1 1 a1, .int .i64 g, .slice B1 n b1] 78)).alloc (.cells C 30)) := (Ext.refl _).alloc _
  have hEa : Ext w2 ((w2.alloc (.cells #[.slice A1 1 a1, .int .i64 g, .slice B1 n b1] 78)).alloc (.cells C 30)) := ((Ext.refl w2).alloc _).alloc _
  have s0 : ((w2.alloc (.cells #[.slice A1 1 a1, .int .i64 g, .slice B1 n b1] 78)).alloc (.cells C 30)).cell? ⟨w.heap.size, 0, none⟩ = some (.slice none 0 0) := Ext.cell hEa (by go_simp)
  have s1 : ((w2.alloc (.cells #[.slice A1 1 a1, .int .i64 g, .slice B1 n b1] 78)).alloc (.cells C 30)).cell? ⟨w.heap.size, 1, none⟩ = some (.int .i64 0) := Ext.cell hEa (by go_simp)
  have s2 : ((w2.alloc (.cells #[.slice A1 1 a1, .int .i64 g, .slice B1 n b1] 78)).alloc (.cells C 30)).cell? ⟨w.heap.size, 2, none⟩ = some (.slice none 0 0) := Ext.cell hEa (by go_simp)
  have s3 : ((w2.alloc (.cells #[.slice A1 1 a1, .int .i64 g, .slice B1 n b1] 78)).alloc (.cells C 30)).cell? ⟨w.heap.size, 3, none⟩ = some (.slice none 0 0) := Ext.cell hEa (by go_simp)
  have s4 : ((w2.alloc (.cells #[.slice A1 1 a1, .int .i64 g, .slice B1 n b1] 78)).alloc (.cells C 30)).cell? ⟨w.heap.size, 4, none⟩ = some (.bool false) := Ext.cell hEa (by go_simp)
  have s5 : ((w2.alloc (.cells #[.slice A1 1 a1, .int .i64 g, .slice B1 n b1] 78)).alloc (.cells C 30)).cell? ⟨w.heap.size, 5, none⟩ = some (.int .i64 0) := Ext.cell hEa (by go_simp)
  have s6 : ((w2.alloc (.cells #[.slice A1 1 a1, .int .i64 g, .slice B1 n b1] 78)).alloc (.cells C 30)).cell? ⟨w.heap.size, 6, none⟩ = some (.int .i64 0) := Ext.cell hEa (by go_simp)
  have sf : ∀ o, ((w2.alloc (.cells #[.slice A1 1 a1, .int .i64 g, .slice B1 n b1] 78)).alloc (.cells C 30)).frozen? ⟨w.heap.size, o, none⟩ = false := fun o => (Below.frozen hEa (p := ⟨w.heap.size, o, none⟩) (by first | omega | (simp; omega) | simp)).trans (by go_simp)
  have y0 : ((w2.alloc (.cells #[.slice A1 1 a1, .int .i64 g, .slice B1 n b1] 78)).alloc (.cells C 30)).cell? ⟨w2.heap.size, 0, none⟩ = some (.slice A1 1 a1) := Ext.cell hEb (by go_simp)
  have y1 : ((w2.alloc (.cells #[.slice A1 1 a1, .int .i64 g, .slice B1 n b1] 78)).alloc (.cells C 30)).cell? ⟨w2.heap.size, 1, none⟩ = some (.int .i64 g) := Ext.cell hEb (by go_simp)
  have y2 : ((w2.alloc (.cells #[.slice A1 1 a1, .int .i64 g, .slice B1 n b1] 78)).alloc (.cells C 30)).cell? ⟨w2.heap.size, 2, none⟩ = some (.slice B1 n b1) := Ext.cell hEb (by go_simp)
  have yf : ∀ o, ((w2.alloc (.cells #[.slice A1 1 a1, .int .i64 g, .slice B1 n b1] 78)).alloc (.cells C 30)).frozen? ⟨w2.heap.size, o, none⟩ = false := fun o => (Below.frozen hEb (p := ⟨w2.heap.size, o, none⟩) (by first | omega | (simp; omega) | simp)).trans (by go_simp)
  have hm := HMK.out (w2.alloc (.cells #[.slice A1 1 a1, .int .i64 g, .slice B1 n b1] 78)) (w2.heap.size + 1) (w2.heap.size + 1) (by simp) (Nat.le_refl _)
  obtain ⟨g', eg, _, _, h3, hdf⟩ := Ow.pos hm (by rw [List.length_replicate]; omega)
  obtain rfl : g' = w2.heap.size + 1 := by cases eg; rfl
  have hd : ∀ j, j < m → (((w2.alloc (.cells #[.slice A1 1 a1, .int .i64 g, .slice B1 n b1] 78)).alloc (.cells C 30))).cell? ⟨w2.heap.size + 1, j, none⟩ = some (.slice none 0 0) := fun j hj => by
    have := h3 j (by rw [List.length_replicate]; exact hj) 0 (.slice none 0 0) (by rw [List.getD_eq_getElem?_getD, List.getElem?_replicate, if_pos hj]; rfl)
    rw [show j = j * kRow.n + 0 from by show j = j * 1 + 0; omega]
    exact this
  have hd0 := hd 0 (by omega)
  have hdf2 : ∀ o, (((w2.alloc (.cells #[.slice A1 1 a1, .int .i64 g, .slice B1 n b1] 78)).alloc (.cells C 30))).frozen? ⟨w2.heap.size + 1, o, none⟩ = false := hdf
  clear hdf
  have HDD := Lib.hid hd
  have HX3 := Lib.hid (HX2.out.trans hEa)
  have HT3 := Lib.hid (HT.out.ext hEa)
  have HD3 := Lib.hid (HD.out.ext hEa)
  have l4 : w2.heap.size + 1 < (((w2.alloc (.cells #[.slice A1 1 a1, .int .i64 g, .slice B1 n b1] 78)).alloc (.cells C 30))).heap.size := by simp
  have l5 : w2.heap.size < (((w2.alloc (.cells #[.slice A1 1 a1, .int .i64 g, .slice B1 n b1] 78)).alloc (.cells C 30))).heap.size := by simp; omega
  have l6 : w.heap.size < (((w2.alloc (.cells #[.slice A1 1 a1, .int .i64 g, .slice B1 n b1] 78)).alloc (.cells C 30))).heap.size := by simp; omega
  have HZ3 : Hid ((((w2.alloc (.cells #[.slice A1 1 a1, .int .i64 g, .slice B1 n b1] 78)).alloc (.cells C 30))).heap.size = w2.heap.size + 2) := Lib.hid (by simp)
  clear hEa hEb hm h3 eg hd r0 r1 r2 r3 r4 r5 r6 rf hmk2
  generalize hw3 : ((w2.alloc (.cells #[.slice A1 1 a1, .int .i64 g, .slice B1 n b1] 78)).alloc (.cells C 30)) = w3 at *
  clear hw3
  have HG3 : Hid (∀ u0 u1 u2 u3 u4 u5 u6 : Value, GrewTwo w3 (w2.heap.size + 1) w.heap.size ((((((((w3.setCell ⟨w2.heap.size + 1, 0, none⟩ (.slice (some ⟨w3.heap.size, 0, none⟩) 1 1)).setCell ⟨w.heap.size, 0, none⟩ u0).setCell ⟨w.heap.size, 1, none⟩ u1).setCell ⟨w.heap.size, 2, none⟩ u2).setCell ⟨w.heap.size, 3, none⟩ u3).setCell ⟨w.heap.size, 4, none⟩ u4).setCell ⟨w.heap.size, 5, none⟩ u5).setCell ⟨w.heap.size, 6, none⟩ u6)) := Lib.hid (fun u0 u1 u2 u3 u4 u5 u6 => (((((((Grew.setCell (S := fun x => x = w2.heap.size + 1 ∨ x = w.heap.size) (p := ⟨w2.heap.size + 1, 0, none⟩) (Grew.refl _ w3) (.inl rfl) (.slice (some ⟨w3.heap.size, 0, none⟩) 1 1)).setCell (p := ⟨w.heap.size, 0, none⟩) (.inr rfl) _).setCell (p := ⟨w.heap.size, 1, none⟩) (.inr rfl) _).setCell (p := ⟨w.heap.size, 2, none⟩) (.inr rfl) _).setCell (p := ⟨w.heap.size, 3, none⟩) (.inr rfl) _).setCell (p := ⟨w.heap.size, 4, none⟩) (.inr rfl) _).setCell (p := ⟨w.heap.size, 5, none⟩) (.inr rfl) _).setCell (p := ⟨w.heap.size, 6, none⟩) (.inr rfl) _)
  go_wp2_with fail
  refine bodyPost_ret (v := .tuple #[.agg #[.slice A1 1 a1, .int .i64 g, .slice B1 n b1, .slice (some ⟨w2.heap.size + 1, 0, none⟩) m m, .bool false, .int .i64 0, .int .i64 0], .int .i64 0]) (by simp [results, Try.results40, go_sem]; go_simp) rfl ?_
  have hG := HG3.out (.slice A1 1 a1) (.int .i64 g) (.slice B1 n b1) (.slice (some ⟨w2.heap.size + 1, 0, none⟩) m m) (.bool false) (.int .i64 0) (.int .i64 0)
  refine ⟨A1, B1, w2.heap.size + 1, a1, b1, by simp [beginC], ?_, ?_⟩
  · have hGa := hG.alloc (.cells #[.int .i64 0] 3)
    refine ⟨?_, ?_, ⟨fun j => if j = 0 then ⟨some ⟨w3.heap.size, 0, none⟩, 1, 1⟩ else (⟨none, 0, 0⟩ : Hd), by simp [beginC]; omega, fun j hj => ?_⟩, fun hf => by omega⟩
    · have h1 := (Rd.off (S := fun x => (x = w2.heap.size + 1 ∨ x = w.heap.size) ∨ x < w.heap.size) HT3.out (fun a ha hs => by have := HAB.out.1 a ha; omega)).grew (hGa.mono (fun x _ hx => .inl hx))
      exact h1.mono (fun _ _ hf => .inr hf)
    · have h1 := (Rd.off (S := fun x => (x = w2.heap.size + 1 ∨ x = w.heap.size) ∨ x < w.heap.size) HD3.out (fun a ha hs => by have := HAB.out.2 a ha; omega)).grew (hGa.mono (fun x _ hx => .inl hx))
      have e : (beginC n m).dn.length = n := by simp [beginC]
      rw [e]
      exact h1.mono (fun _ _ hf => .inr hf)
    · by_cases e : j = 0
      · subst e
        dsimp only
        rw [if_pos rfl]
        refine ⟨by simp only [Nat.zero_add]; go_simp, rfl, ?_⟩
        refine Rd.off (Ow.rd (K := kInt) (B := 0) (Ow.lit (K := kInt) (p := w3.heap.size) (n := 1) _ [0] #[.int .i64 0] rfl rfl ?_ (Nat.zero_le _) (by simp [maxLen]) ?_)) (fun a ha hs => ?_)
        · simp
        · intro x hx; simp only [List.mem_singleton] at hx; subst hx; exact in64_nat 0 (by omega)
        · cases ha
          have h9 := HZ3.out
          simp only at hs
          omega
      · dsimp only
        rw [if_neg e]
        have e2 : (beginC n m).D.getD j [] = [] := by
          unfold beginC
          obtain ⟨k, rfl⟩ : ∃ k, j = k + 1 := ⟨j - 1, by omega⟩
          simp only [List.getD_cons_succ]
          rw [List.getD_eq_getElem?_getD, List.getElem?_replicate]; split <;> rfl
        rw [e2]
        refine ⟨?_, rfl, RdO.nil _ _ _ _⟩
        rw [Nat.zero_add]
        have h1 := HDD.out j hj
        have n1 : ¬ w2.heap.size + 1 = w.heap.size := by omega
        have h2 : (w3.setCell ⟨w2.heap.size + 1, 0, none⟩ (.slice (some ⟨w3.heap.size, 0, none⟩) 1 1)).cell? ⟨w2.heap.size + 1, j, none⟩ = some (.slice none 0 0) := by
          rw [World.cell?_setCell_other _ _ _ _ (fun e' => e (by cases e'; rfl))]; exact h1
        refine Ext.cell ((Ext.refl _).alloc _) ?_
        refine Grew.cell (S := fun x => x = w.heap.size) (w := w3.setCell ⟨w2.heap.size + 1, 0, none⟩ (.slice (some ⟨w3.heap.size, 0, none⟩) 1 1)) ?_ h2 (by omega)
        exact ((((((Grew.setCell (S := fun x => x = w.heap.size) (p := ⟨w.heap.size, 0, none⟩) (Grew.refl _ _) rfl _).setCell (p := ⟨w.heap.size, 1, none⟩) rfl _).setCell (p := ⟨w.heap.size, 2, none⟩) rfl _).setCell (p := ⟨w.heap.size, 3, none⟩) rfl _).setCell (p := ⟨w.heap.size, 4, none⟩) rfl _).setCell (p := ⟨w.heap.size, 5, none⟩) rfl _).setCell (p := ⟨w.heap.size, 6, none⟩) rfl _
  · exact (hG.toExt HX3.out (fun b hb => by rcases hb with rfl | rfl <;> omega)).alloc _
end Go.Proofs.Ytkpbanfpnilifaa

/- The document's Begin of work in new memory (ref04), and its Begin of a crew (ref05). -/
namespace Go.Proofs.Ytkpbanfpnilifaa
open Go.BigFrame
open Go.RowKit Go.Proofs.Ytkpbanfpnilifaa.Plain

end Go.Proofs.Ytkpbanfpnilifaa

/- The document's Whole (ref06). -/
namespace Go.Proofs.Ytkpbanfpnilifaa
open Go.BigFrame
open Go.RowKit Go.Proofs.Ytkpbanfpnilifaa.Plain

section
variable (w0 : World) (row : Option Nat) (cv ve vo : Value) (B : Nat) (evs : List Ev) (ev : Ev) (w : World) (ds : List Value) (v : Value)
end

end Go.Proofs.Ytkpbanfpnilifaa

/- The document's Leaves (ref06). -/
namespace Go.Proofs.Ytkpbanfpnilifaa
open Go.BigFrame
open Go.RowKit Go.Proofs.Ytkpbanfpnilifaa.Plain

/-- units from .. up to .. -/
def kSpan : Kd (Int × Int) where
  t := 85
  e := 88
  n := 2
  cells := fun x => [.int .i64 x.1, .int .i64 x.2]
  ok := fun x => in64 x.1 ∧ in64 x.2
  d := (0, 0)
  z := .agg #[.int .i64 0, .int .i64 0]
  bytes := 16
  ht := Try.underlying85
  info := by kernel_rfl
  hzs := rfl
  pos := by decide
  small := by decide
  len := fun _ => rfl
  one := fun a u hu => by simp at hu; rcases hu with rfl | rfl <;> rfl
/-- leaves, as they came -/
def Plain.leavesL (ts : List Tk) (evs : List Ev) : List (Int × Int) := evs.flatMap fun e => if e.tk < 0 ∨ e.pt = true then [] else [((T ts e.tk.toNat).lo, (T ts e.tk.toNat).hi)]
theorem Plain.leavesL_app (ts : List Tk) (a b : List Ev) : leavesL ts (a ++ b) = leavesL ts a ++ leavesL ts b := by unfold leavesL; rw [List.flatMap_append]
theorem Plain.order_leaves (ts : List Tk) : ∀ evs : List Ev, orderL ts evs = (leavesL ts evs).flatMap fun s => List.range' s.1.toNat (s.2.toNat - s.1.toNat)
  | [] => rfl
  | e :: r => by
    have h := order_leaves ts r
    unfold orderL leavesL at h ⊢
    rw [List.flatMap_cons, List.flatMap_cons, List.flatMap_append, h]
    congr 1
    split
    · rfl
    · simp [unitsOf]
theorem Plain.leavesL_take (ts : List Tk) (evs : List Ev) (k : Nat) (hk : k < evs.length) : leavesL ts (evs.take (k + 1)) = leavesL ts (evs.take k) ++ (if (evs.getD k ev0).tk < 0 ∨ (evs.getD k ev0).pt = true then [] else [((T ts (evs.getD k ev0).tk.toNat).lo, (T ts (evs.getD k ev0).tk.toNat).hi)]) := by
  rw [List.take_succ_eq_append_getElem hk, leavesL_app, List.getD_eq_getElem?_getD, List.getElem?_eq_getElem hk]
  simp [leavesL]
theorem Plain.leavesL_len (ts : List Tk) (evs : List Ev) : (leavesL ts evs).length ≤ evs.length := by
  induction evs with
  | nil => simp [leavesL]
  | cons e r ih =>
    have h : leavesL ts (e :: r) = leavesL ts [e] ++ leavesL ts r := leavesL_app ts [e] r
    have h2 : (leavesL ts [e]).length ≤ 1 := by unfold leavesL; simp only [List.flatMap_cons, List.flatMap_nil, List.append_nil]; split <;> simp
    rw [h, List.length_append, List.length_cons]; omega
theorem Rd.evs {w : World} {A : Option Addr} {n c : Nat} {xs : List Ev} (h : Rd kEv w (.slice A n c) xs) (hl : 0 < xs.length) : ∃ b off, A = some ⟨b, off, none⟩ ∧ ∀ j, j < xs.length → w.cell? ⟨b, off + j * 4, none⟩ = some (.int .i64 (xs.getD j ev0).wk) ∧ w.cell? ⟨b, off + j * 4 + 1, none⟩ = some (.int .i64 (xs.getD j ev0).fr) ∧ w.cell? ⟨b, off + j * 4 + 2, none⟩ = some (.int .i64 (xs.getD j ev0).tk) ∧ w.cell? ⟨b, off + j * 4 + 3, none⟩ = some (.bool (xs.getD j ev0).pt) := by
  obtain ⟨b, off, rfl, hcc⟩ := h.cells hl
  exact ⟨b, off, rfl, fun j hj => ⟨by have := hcc j hj 0 _ rfl; simpa [kEv] using this, by have := hcc j hj 1 _ rfl; simpa [kEv] using this, by have := hcc j hj 2 _ rfl; simpa [kEv] using this, by have := hcc j hj 3 _ rfl; simpa [kEv] using this⟩⟩

end Go.Proofs.Ytkpbanfpnilifaa

/- The document's Right and Order of a plan (ref07). -/
namespace Go.Proofs.Ytkpbanfpnilifaa
open Go.BigFrame
open Go.RowKit Go.Proofs.Ytkpbanfpnilifaa.Plain

/-- may a plan be? -/
def Plain.planB (g m : Int) (np : Nat) : Bool := decide (1 ≤ g) && decide (g ≤ 100) && decide (1 ≤ m) && decide (m ≤ 8) && decide (np ≤ 4000)
theorem Plain.planB_iff (g m : Int) (np : Nat) : planB g m np = true ↔ (1 ≤ g ∧ g ≤ 100 ∧ 1 ≤ m ∧ m ≤ 8 ∧ np ≤ 4000) := by
  unfold planB; simp only [Bool.and_eq_true, decide_eq_true_eq]; constructor <;> intro h <;> omega
/-- units as they are done, how many steps, an error -/
def Plain.ordP (n : Nat) (g m : Int) (picks : List (Int × Int)) : List Nat × Nat × Int :=
  if planB g m picks.length = false then ([], 0, 1) else if n = 0 then ([], 0, 0) else
    (orderL (wholeP g.toNat n m.toNat picks).1.ts (wholeP g.toNat n m.toNat picks).2, (wholeP g.toNat n m.toNat picks).2.length, 0)
abbrev planV (g m : Int) (Ap : Option Addr) (np cp : Nat) : Value := .agg #[.int .i64 g, .int .i64 m, .slice Ap np cp]

abbrev Plain.rngS (x : Int × Int) : List Nat := List.range' x.1.toNat (x.2.toNat - x.1.toNat)
theorem Plain.leavesL_bd {ts : List Tk} {evs : List Ev} {n : Nat} (h : ∀ k, k < ts.length → 0 ≤ (T ts k).lo ∧ (T ts k).lo ≤ (T ts k).hi ∧ (T ts k).hi ≤ n) (hin : evsIn ts.length evs) : ∀ x ∈ leavesL ts evs, 0 ≤ x.1 ∧ x.1 ≤ x.2 ∧ x.2 ≤ n := by
  intro x hx
  unfold leavesL at hx
  rw [List.mem_flatMap] at hx
  obtain ⟨e, he, hx⟩ := hx
  have h1 := hin e he
  split at hx
  · cases hx
  · rw [List.mem_singleton] at hx
    subst hx
    exact h _ (by omega)
theorem Plain.flat_split (S : List (Int × Int)) (f : Int × Int → List Nat) (j : Nat) (hj : j < S.length) : (S.flatMap f).length = ((S.take j).flatMap f).length + (f (S.getD j (0, 0))).length + ((S.drop (j + 1)).flatMap f).length ∧ (S.take (j + 1)).flatMap f = (S.take j).flatMap f ++ f (S.getD j (0, 0)) := by
  have e : S.getD j (0, 0) = S[j] := by rw [List.getD_eq_getElem?_getD, List.getElem?_eq_getElem hj]; rfl
  constructor
  · conv => lhs; rw [split_at S j hj]
    rw [List.flatMap_append, List.flatMap_cons, List.length_append, List.length_append, e]; omega
  · rw [List.take_succ_eq_append_getElem hj, List.flatMap_append, e]; simp
theorem Rd.spans {w : World} {A : Option Addr} {n c : Nat} {xs : List (Int × Int)} (h : Rd kSpan w (.slice A n c) xs) (hl : 0 < xs.length) : ∃ b off, A = some ⟨b, off, none⟩ ∧ ∀ j, j < xs.length → w.cell? ⟨b, off + j * 2, none⟩ = some (.int .i64 (xs.getD j (0, 0)).1) ∧ w.cell? ⟨b, off + j * 2 + 1, none⟩ = some (.int .i64 (xs.getD j (0, 0)).2) := by
  obtain ⟨b, off, rfl, hcc⟩ := h.cells hl
  exact ⟨b, off, rfl, fun j hj => ⟨by have := hcc j hj 0 _ rfl; simpa [kSpan] using this, by have := hcc j hj 1 _ rfl; simpa [kSpan] using this⟩⟩
/-- what Order leaves -/
def OrdSaid (r : List Nat × Nat × Int) (w : World) (ed : Ending) (w' : World) : Prop :=
  ∃ (L : Option Addr) (l : Nat), ed = .returned (.tuple #[.slice L r.1.length l, .int .i64 r.2.1, .int .i64 r.2.2]) ∧ Ow kInt w.heap.size w' (.slice L r.1.length l) (zs r.1) ∧ Ext w w'

end Go.Proofs.Ytkpbanfpnilifaa

/- The document's One (ref07): what is done to a cell. -/
namespace Go.Proofs.Ytkpbanfpnilifaa
open Go.BigFrame
open Go.RowKit Go.Proofs.Ytkpbanfpnilifaa.Plain

end Go.Proofs.Ytkpbanfpnilifaa

/- The document's Words and Fill (ref07). -/
namespace Go.Proofs.Ytkpbanfpnilifaa
open Go.BigFrame
open Go.RowKit Go.Proofs.Ytkpbanfpnilifaa.Plain

theorem Plain.ordP_err (n : Nat) (g m : Int) (picks : List (Int × Int)) : (ordP n g m picks).2.2 = 0 ∨ (ordP n g m picks).2.2 = 1 := by
  unfold ordP
  split
  · exact .inr rfl
  · split
    · exact .inl rfl
    · exact .inl rfl
/-- words, a number, an error -/
def WordsSaid (r : List Nat × Nat × Int) (w : World) (ed : Ending) (w' : World) : Prop :=
  ∃ (L : Option Addr) (l : Nat), ed = .returned (.tuple #[.slice L r.1.length l, .int .i64 r.2.1, .int .i64 r.2.2]) ∧ Ow kU32 w.heap.size w' (.slice L r.1.length l) (zs r.1) ∧ Ext w w'
end Go.Proofs.Ytkpbanfpnilifaa

/- The document's Zip (ref07). -/
namespace Go.Proofs.Ytkpbanfpnilifaa
open Go.BigFrame
open Go.RowKit Go.Proofs.Ytkpbanfpnilifaa.Plain

end Go.Proofs.Ytkpbanfpnilifaa

/- Plain words of scans: sums of all ahead, the highest, blocks. No program in it. -/
namespace Go.Proofs.Ytkpbanfpnilifaa.Plain

/-- the sum, cut to 32 bits -/
def totW (l : List Nat) : Nat := l.sum % 4294967296
theorem totW_lt (l : List Nat) : totW l < 4294967296 := Nat.mod_lt _ (by decide)
theorem totW_snoc (l : List Nat) (x : Nat) : totW (l ++ [x]) = (totW l + x) % 4294967296 := by unfold totW; rw [List.sum_append]; simp
theorem totW_app (l r : List Nat) : totW (l ++ r) = (totW l + totW r) % 4294967296 := by unfold totW; rw [List.sum_append]; simp
def maxL (l : List Nat) : Nat := l.foldl max 0
theorem maxL_snoc (l : List Nat) (x : Nat) : maxL (l ++ [x]) = max (maxL l) x := by unfold maxL; rw [List.foldl_append]; rfl
def sumsW (l : List Nat) : List Nat := byN l.length (fun i => totW (l.take i))
def highW (l : List Nat) : List Nat := byN l.length (fun i => maxL (l.take (i + 1)))
/-- the next one, cut by this one -/
def backF (s : List Nat) (t : Nat) (i : Nat) : Nat := ((if i + 1 < s.length then s.getD (i + 1) 0 else t) + 4294967296 - s.getD i 0) % 4294967296
def backW (s : List Nat) (t : Nat) : List Nat := byN s.length (backF s t)
def blocksP (n : Nat) (b : Int) : Nat := if n ≤ 1000 ∧ 1 ≤ b ∧ b ≤ 100 then (n + b.toNat - 1) / b.toNat else 0
theorem blocksP_le (n : Nat) (b : Int) : blocksP n b ≤ n := by
  unfold blocksP
  split
  · rename_i h
    obtain ⟨B, rfl⟩ : ∃ B : Nat, b = B := ⟨b.toNat, by omega⟩
    rw [Int.toNat_natCast]
    have hB : 1 ≤ B := by omega
    rcases Nat.eq_zero_or_pos n with h0 | h0
    · subst h0
      rw [Nat.div_eq_of_lt (by omega)]; exact Nat.zero_le _
    · apply Nat.div_le_of_le_mul
      have h1 : 1 * (n - 1) ≤ B * (n - 1) := Nat.mul_le_mul_right _ hB
      have h2 : B * n = B * (n - 1) + B := by
        conv => lhs; rw [show n = (n - 1) + 1 by omega]
        rw [Nat.mul_add, Nat.mul_one]
      omega
  · exact Nat.zero_le _
def totalsW (l : List Nat) (b : Int) : List Nat := byN (blocksP l.length b) (fun i => totW ((l.drop (i * b.toNat)).take b.toNat))
/-- how many steps, an error -/
def stepsP (n : Nat) (b g m : Int) (picks : List (Int × Int)) : Nat × Int :=
  if ¬ (1 ≤ b ∧ b ≤ 100) then (0, 1) else if (ordP n g m picks).2.2 ≠ 0 then (0, (ordP n g m picks).2.2) else (2 * (ordP (blocksP n b) g m picks).2.1, 0)
def sumsP (l : List Nat) (b g m : Int) (picks : List (Int × Int)) : List Nat × Nat × Nat × Int :=
  if (stepsP l.length b g m picks).2 ≠ 0 then ([], 0, 0, (stepsP l.length b g m picks).2) else (sumsW l, totW l, (stepsP l.length b g m picks).1, 0)
def highP (l : List Nat) (b g m : Int) (picks : List (Int × Int)) : List Nat × Nat × Int :=
  if (stepsP l.length b g m picks).2 ≠ 0 then ([], 0, (stepsP l.length b g m picks).2) else (highW l, (stepsP l.length b g m picks).1, 0)
/-- an order's error is the plan's -/
theorem ordP_err_any (n k : Nat) (g m : Int) (picks : List (Int × Int)) (h : (ordP n g m picks).2.2 = 0) : (ordP k g m picks).2.2 = 0 := by
  unfold ordP at h ⊢
  by_cases hb : planB g m picks.length = false
  · rw [if_pos hb] at h; cases h
  · rw [if_neg hb]
    split <;> rfl
theorem ordP_steps (n : Nat) (g m : Int) (picks : List (Int × Int)) (hn : n ≤ 900) : (ordP n g m picks).2.1 ≤ picks.length + 16008 := by
  rcases ordP_err n g m picks with h | h
  · obtain ⟨⟨os, st, er⟩, hr⟩ : ∃ x, ordP n g m picks = x := ⟨_, rfl⟩
    rw [hr] at h ⊢
    simp only at h ⊢
    subst h
    unfold ordP at hr
    split at hr
    · simp at hr
    · rename_i hb
      have hb' : planB g m picks.length = true := by simpa using hb
      obtain ⟨h1, h2, h3, h4, h5⟩ := (planB_iff _ _ _).1 hb'
      split at hr
      · simp at hr; omega
      · rename_i hz
        simp only [Prod.mk.injEq] at hr
        obtain ⟨_, rfl, _⟩ := hr
        obtain ⟨w1, w2, w3, w4⟩ := whole_ends (g := g.toNat) (n := n) (m := m.toNat) (by omega) (by omega) (by omega) picks
        have h9 : cntT n g.toNat ≤ 2000 := (count_ok n g.toNat (by omega) (by omega) (by omega) (by omega)).2.2.1
        have h8 : m.toNat * (cntT n g.toNat + 1) ≤ 8 * 2001 := Nat.mul_le_mul (by omega) (by omega)
        omega
  · unfold ordP at h ⊢
    split
    · exact Nat.zero_le _
    · split
      · exact Nat.zero_le _
      · rename_i h1 h2
        rw [if_neg h1, if_neg h2] at h; cases h
theorem stepsP_err (n : Nat) (b g m : Int) (picks : List (Int × Int)) : (stepsP n b g m picks).2 = 0 ∨ (stepsP n b g m picks).2 = 1 := by
  unfold stepsP
  split
  · exact .inr rfl
  · split
    · exact ordP_err _ _ _ _
    · exact .inl rfl
end Go.Proofs.Ytkpbanfpnilifaa.Plain

/- Plain words of packing: what is kept, where, and spread again. No program in it. -/
namespace Go.Proofs.Ytkpbanfpnilifaa.Plain

/-- places below n that are kept -/
def whereF (keep : List Bool) (n : Nat) : List Nat := (List.range n).filter (kept keep)
def whereL (keep : List Bool) : List Nat := whereF keep keep.length
theorem whereF_succ (keep : List Bool) (n : Nat) : whereF keep (n + 1) = whereF keep n ++ (if kept keep n = true then [n] else []) := by
  unfold whereF
  rw [List.range_succ, List.filter_append]
  congr 1
  by_cases h : kept keep n = true
  · rw [if_pos h, List.filter_cons_of_pos h]; rfl
  · rw [if_neg h, List.filter_cons_of_neg h]; rfl
theorem whereF_len (keep : List Bool) (n : Nat) : (whereF keep n).length ≤ n := by
  unfold whereF
  have := List.length_filter_le (kept keep) (List.range n)
  rw [List.length_range] at this; exact this
theorem whereF_mem (keep : List Bool) (n i : Nat) : i ∈ whereF keep n ↔ i < n ∧ kept keep i = true := by unfold whereF; rw [List.mem_filter, List.mem_range]
def rank (keep : List Bool) (i : Nat) : Nat := (whereF keep i).length
theorem rank_succ (keep : List Bool) (i : Nat) : rank keep (i + 1) = rank keep i + (if kept keep i = true then 1 else 0) := by
  unfold rank
  rw [whereF_succ, List.length_append]
  split <;> rfl
theorem rank_le (keep : List Bool) : ∀ (i j : Nat), i ≤ j → rank keep i ≤ rank keep j := by
  intro i j h
  induction j with
  | zero => obtain rfl : i = 0 := by omega
            exact Nat.le_refl _
  | succ j ih =>
    by_cases e : i = j + 1
    · subst e; exact Nat.le_refl _
    · have := ih (by omega)
      rw [rank_succ]; omega
theorem where_rank (keep : List Bool) : ∀ n, (whereF keep n).map (rank keep) = List.range (rank keep n)
  | 0 => rfl
  | n + 1 => by
    rw [whereF_succ, List.map_append, where_rank keep n, rank_succ]
    by_cases h : kept keep n = true
    · rw [if_pos h, if_pos h, List.range_succ]; rfl
    · rw [if_neg h, if_neg h]; simp
theorem where_at (keep : List Bool) (i : Nat) (hk : kept keep i = true) : ∀ n, i < n → (whereF keep n).getD (rank keep i) 0 = i
  | 0, h => by omega
  | n + 1, h => by
    rw [whereF_succ]
    by_cases e : i = n
    · subst e
      rw [if_pos hk]
      show (whereF keep i ++ [i]).getD (whereF keep i).length 0 = i
      rw [List.getD_eq_getElem?_getD, List.getElem?_append_right (Nat.le_refl _)]
      simp
    · have ih := where_at keep i hk n (by omega)
      have hlt : rank keep i < (whereF keep n).length := by
        have h1 := rank_succ keep i
        rw [if_pos hk] at h1
        have h2 := rank_le keep (i + 1) n (by omega)
        show rank keep i < rank keep n
        omega
      rw [List.getD_eq_getElem?_getD, List.getElem?_append_left hlt, ← List.getD_eq_getElem?_getD]
      exact ih
theorem where_in (keep : List Bool) (n i : Nat) (h : i < (whereF keep n).length) : (whereF keep n).getD i 0 < n ∧ kept keep ((whereF keep n).getD i 0) = true := by
  have hm : (whereF keep n).getD i 0 ∈ whereF keep n := by
    rw [List.getD_eq_getElem?_getD, List.getElem?_eq_getElem h]; exact List.getElem_mem h
  exact (whereF_mem _ _ _).1 hm
/-- places, steps, an error -/
def whereP (keep : List Bool) (b g m : Int) (picks : List (Int × Int)) : List Nat × Nat × Int :=
  if (stepsP keep.length b g m picks).2 ≠ 0 then ([], 0, (stepsP keep.length b g m picks).2) else (whereL keep, (stepsP keep.length b g m picks).1 + (ordP keep.length g m picks).2.1, 0)
/-- without an error: so many steps at most -/
theorem stepsP_bd (n : Nat) (b g m : Int) (picks : List (Int × Int)) (hn : n ≤ 900) (h : (stepsP n b g m picks).2 = 0) : (stepsP n b g m picks).1 ≤ 60000 ∧ (ordP n g m picks).2.2 = 0 ∧ (ordP n g m picks).2.1 ≤ 30000 := by
  unfold stepsP at h ⊢
  split at h
  · cases h
  · rename_i h1
    rw [if_neg h1]
    split at h
    · rename_i h2; exact absurd h h2
    · rename_i h2
      rw [if_neg h2]
      have h3 : (ordP n g m picks).2.2 = 0 := by simpa using h2
      have h4 : picks.length ≤ 4000 := by
        unfold ordP at h3
        by_cases hb : planB g m picks.length = false
        · rw [if_pos hb] at h3; cases h3
        · exact ((planB_iff _ _ _).1 (by simpa using hb)).2.2.2.2
      have h5 := ordP_steps n g m picks hn
      have h6 := ordP_steps (blocksP n b) g m picks (Nat.le_trans (blocksP_le n b) hn)
      refine ⟨?_, h3, by omega⟩
      show 2 * (ordP (blocksP n b) g m picks).2.1 ≤ 60000
      omega
end Go.Proofs.Ytkpbanfpnilifaa.Plain

/- Plain words of sorting: digits, a pass, all passes, the order of the keys. No program in it. -/
namespace Go.Proofs.Ytkpbanfpnilifaa.Plain
/-- how many digits there are -/
def passesP (b : Int) : Nat := if b < 1 ∨ 16 < b then 0 else (31 + b.toNat) / b.toNat
/-- a key's digit -/
def digitP (key : Nat) (p b : Int) : Nat := if p < 0 ∨ (passesP b : Int) ≤ p then 0 else key / 2 ^ (p.toNat * b.toNat) % 2 ^ b.toNat
/-- from the end on back, to behind the first one that isn't more -/
def backTo (f : Nat → Nat) (out : List Nat) (x : Nat) : Nat → Nat
  | 0 => 0
  | k + 1 => if f x < f (out.getD k 0) then backTo f out x k else k + 1
theorem backTo_le (f : Nat → Nat) (out : List Nat) (x : Nat) : ∀ k, backTo f out x k ≤ k
  | 0 => Nat.le_refl _
  | k + 1 => by
    unfold backTo
    split
    · exact Nat.le_succ_of_le (backTo_le f out x k)
    · exact Nat.le_refl _
/-- all behind it are more; the one ahead isn't -/
theorem backTo_more (f : Nat → Nat) (out : List Nat) (x : Nat) : ∀ k j, backTo f out x k ≤ j → j < k → f x < f (out.getD j 0)
  | 0, j, _, h => by omega
  | k + 1, j, h1, h2 => by
    unfold backTo at h1
    split at h1
    · rename_i h
      rcases Nat.lt_or_ge j k with h3 | h3
      · exact backTo_more f out x k j h1 h3
      · obtain rfl : j = k := by omega
        exact h
    · omega
theorem backTo_last (f : Nat → Nat) (out : List Nat) (x : Nat) : ∀ k, 0 < backTo f out x k → f (out.getD (backTo f out x k - 1) 0) ≤ f x
  | 0, h => by simp [backTo] at h
  | k + 1, h => by
    unfold backTo at h ⊢
    split at h
    · rename_i h1
      rw [if_pos h1]
      exact backTo_last f out x k h
    · rename_i h1
      rw [if_neg h1, Nat.add_sub_cancel]
      omega
/-- each behind all that have no more -/
def insP (f : Nat → Nat) (out : List Nat) (x : Nat) : List Nat := out.take (backTo f out x out.length) ++ [x] ++ out.drop (backTo f out x out.length)
def insAll (f : Nat → Nat) (l : List Nat) : List Nat := l.foldl (insP f) []
theorem insP_len (f : Nat → Nat) (out : List Nat) (x : Nat) : (insP f out x).length = out.length + 1 := by
  have := backTo_le f out x out.length
  unfold insP
  simp only [List.length_append, List.length_take, List.length_drop, List.length_singleton]; omega
theorem insP_perm (f : Nat → Nat) (out : List Nat) (x : Nat) : (insP f out x).Perm (out ++ [x]) := by
  unfold insP
  rw [List.append_assoc]
  refine (List.perm_middle (l₁ := out.take (backTo f out x out.length)) (l₂ := out.drop (backTo f out x out.length)) (a := x)).trans ?_
  rw [List.take_append_drop]
  exact (List.perm_append_comm (l₁ := [x]) (l₂ := out))
theorem insAll_snoc (f : Nat → Nat) (l : List Nat) (x : Nat) : insAll f (l ++ [x]) = insP f (insAll f l) x := by unfold insAll; rw [List.foldl_append]; rfl
theorem list_snoc {α : Type} (l : List α) (h : l ≠ []) : ∃ m x, l = m ++ [x] := ⟨l.dropLast, l.getLast h, (List.dropLast_concat_getLast h).symm⟩
/-- what is first by f, then as it stood -/
abbrev byF (f : Nat → Nat) (R : Nat → Nat → Prop) (a b : Nat) : Prop := f a < f b ∨ f a = f b ∧ R a b
theorem insAll_good (f : Nat → Nat) (R : Nat → Nat → Prop) : ∀ (n : Nat) (l : List Nat), l.length = n → l.Pairwise R → (insAll f l).Perm l ∧ (insAll f l).Pairwise (byF f R) := by
  intro n
  induction n with
  | zero =>
    intro l hl _
    obtain rfl : l = [] := List.eq_nil_of_length_eq_zero hl
    exact ⟨List.Perm.refl _, List.Pairwise.nil⟩
  | succ n ih =>
    intro l hl hp
    obtain ⟨m, x, rfl⟩ := list_snoc l (by intro h; subst h; simp at hl)
    rw [List.length_append, List.length_singleton] at hl
    rw [List.pairwise_append] at hp
    obtain ⟨hp1, _, hp3⟩ := hp
    obtain ⟨h1, h2⟩ := ih m (by omega) hp1
    rw [insAll_snoc]
    refine ⟨(insP_perm _ _ _).trans (h1.append_right _), ?_⟩
    obtain ⟨out, ho⟩ : ∃ o, insAll f m = o := ⟨_, rfl⟩
    rw [ho] at h1 h2 ⊢
    obtain ⟨k, hk⟩ : ∃ k, backTo f out x out.length = k := ⟨_, rfl⟩
    have hle := backTo_le f out x out.length
    have hmore := backTo_more f out x out.length
    have hlast := backTo_last f out x out.length
    unfold insP
    rw [hk] at hle hmore hlast ⊢
    have hR : ∀ y ∈ out, R y x := fun y hy => hp3 y (h1.mem_iff.1 hy) x (by simp)
    have h2' := h2
    rw [List.pairwise_iff_getElem] at h2'
    have hbefore : ∀ y ∈ out.take k, byF f R y x := by
      intro y hy
      refine (Nat.lt_or_ge (f y) (f x)).elim .inl fun h9 => .inr ⟨?_, hR y (List.mem_of_mem_take hy)⟩
      obtain ⟨j, hj, rfl⟩ := List.getElem_of_mem hy
      rw [List.length_take] at hj
      rw [List.getElem_take] at h9 ⊢
      have hl2 := hlast (by omega)
      rw [List.getD_eq_getElem?_getD, List.getElem?_eq_getElem (by omega), Option.getD_some] at hl2
      rcases Nat.lt_or_ge j (k - 1) with h8 | h8
      · rcases h2' j (k - 1) (by omega) (by omega) h8 with h7 | h7 <;> omega
      · have e : j = k - 1 := by omega
        subst e; omega
    have hafter : ∀ y ∈ out.drop k, byF f R x y := by
      intro y hy
      obtain ⟨j, hj, rfl⟩ := List.getElem_of_mem hy
      rw [List.length_drop] at hj
      rw [List.getElem_drop]
      have h9 := hmore (k + j) (by omega) (by omega)
      rw [List.getD_eq_getElem?_getD, List.getElem?_eq_getElem (by omega), Option.getD_some] at h9
      exact .inl h9
    have hcross : ∀ a ∈ out.take k, ∀ b ∈ out.drop k, byF f R a b := by
      have := h2
      rw [← List.take_append_drop k out, List.pairwise_append] at this
      exact this.2.2
    rw [List.pairwise_append, List.pairwise_append]
    refine ⟨⟨h2.sublist (List.take_sublist _ _), List.pairwise_singleton _ _, fun a ha b hb => by rw [List.mem_singleton] at hb; subst hb; exact hbefore a ha⟩, h2.sublist (List.drop_sublist _ _), fun a ha b hb => ?_⟩
    rcases List.mem_append.1 ha with h | h
    · exact hcross a h b hb
    · rw [List.mem_singleton] at h; subst h; exact hafter b hb
/-- one list alone is so -/
theorem byF_one {R : Nat → Nat → Prop} (hR : ∀ a b, R a b → ¬ R b a) {l m : List Nat} (h : l.Pairwise R) (k : m.Pairwise R) (hp : l.Perm m) : l = m :=
  hp.eq_of_pairwise (fun a b _ _ h1 h2 => absurd h2 (hR a b h1)) h k
/-- the order of all keys -/
def sortL (keys : List Nat) : List Nat := insAll (fun i => keys.getD i 0) (List.range keys.length)
def passL (keys order : List Nat) (p b : Int) : List Nat := insAll (fun i => digitP (keys.getD i 0) p b) order
def passesL (keys : List Nat) (b : Int) : Nat → List Nat
  | 0 => List.range keys.length
  | p + 1 => passL keys (passesL keys b p) (p : Nat) b
theorem mod_both (x y m d : Nat) (_hd : 0 < d) : x % (m * d) < y % (m * d) ↔ (x / m % d < y / m % d ∨ x / m % d = y / m % d ∧ x % m < y % m) := by
  rcases Nat.eq_zero_or_pos m with h0 | h0
  · subst h0; simp
  have e : ∀ z, z % (m * d) = m * (z / m % d) + z % m := fun z => by rw [Nat.mod_mul]; omega
  rw [e x, e y]
  have h1 := Nat.mod_lt x h0
  have h2 := Nat.mod_lt y h0
  obtain ⟨a, ha⟩ : ∃ a, x / m % d = a := ⟨_, rfl⟩
  obtain ⟨c, hc⟩ : ∃ c, y / m % d = c := ⟨_, rfl⟩
  rw [ha, hc]
  rcases Nat.lt_trichotomy a c with h | h | h
  · have : m * (a + 1) ≤ m * c := Nat.mul_le_mul_left _ h
    rw [Nat.mul_add, Nat.mul_one] at this
    constructor
    · intro _; exact .inl h
    · intro _; omega
  · subst h; constructor
    · intro h9; exact .inr ⟨rfl, by omega⟩
    · rintro (h9 | ⟨_, h9⟩) <;> omega
  · have : m * (c + 1) ≤ m * a := Nat.mul_le_mul_left _ h
    rw [Nat.mul_add, Nat.mul_one] at this
    constructor
    · intro h9; omega
    · rintro (h9 | ⟨h9, _⟩) <;> omega
theorem mod_same (x y m d : Nat) : x % (m * d) = y % (m * d) ↔ (x / m % d = y / m % d ∧ x % m = y % m) := by
  have e : ∀ z, z % (m * d) = m * (z / m % d) + z % m := fun z => by rw [Nat.mod_mul]; omega
  constructor
  · intro h
    refine ⟨?_, ?_⟩
    · have h1 : x % (m * d) / m = y % (m * d) / m := by rw [h]
      rw [Nat.mod_mul_right_div_self, Nat.mod_mul_right_div_self] at h1
      exact h1
    · have h1 : x % (m * d) % m = y % (m * d) % m := by rw [h]
      rw [Nat.mod_mul_right_mod, Nat.mod_mul_right_mod] at h1
      exact h1
  · rintro ⟨h1, h2⟩; rw [e, e, h1, h2]
abbrev byM (keys : List Nat) (M : Nat) (a b : Nat) : Prop := keys.getD a 0 % M < keys.getD b 0 % M ∨ keys.getD a 0 % M = keys.getD b 0 % M ∧ a < b
theorem passesL_good (keys : List Nat) (b : Nat) (h1 : 1 ≤ b) (h2 : b ≤ 16) : ∀ p, p ≤ passesP b → (passesL keys b p).Perm (List.range keys.length) ∧ (passesL keys b p).Pairwise (byM keys (2 ^ (p * b)))
  | 0, _ => by
    refine ⟨List.Perm.refl _, ?_⟩
    show (List.range keys.length).Pairwise _
    refine (List.pairwise_lt_range (n := keys.length)).imp fun {a c} h => .inr ⟨?_, h⟩
    rw [Nat.zero_mul, Nat.pow_zero, Nat.mod_one, Nat.mod_one]
  | p + 1, h => by
    obtain ⟨h3, h4⟩ := passesL_good keys b h1 h2 p (by omega)
    obtain ⟨h5, h6⟩ := insAll_good (fun i => digitP (keys.getD i 0) (p : Nat) b) _ _ _ rfl h4
    refine ⟨h5.trans h3, h6.imp fun {a c} h7 => ?_⟩
    have e : ∀ k, digitP k (p : Nat) b = k / 2 ^ (p * b) % 2 ^ b := fun k => by
      unfold digitP
      rw [if_neg (by omega)]; simp
    have em : 2 ^ ((p + 1) * b) = 2 ^ (p * b) * 2 ^ b := by rw [Nat.add_mul, Nat.one_mul, Nat.pow_add]
    unfold byF at h7
    simp only [e] at h7
    unfold byM
    rw [em, mod_both _ _ _ _ (Nat.two_pow_pos b), mod_same]
    unfold byM at h7
    omega
theorem passesP_enough (b : Nat) (h1 : 1 ≤ b) (h2 : b ≤ 16) : 32 ≤ passesP b * b ∧ (passesP b - 1) * b < 32 ∧ 1 ≤ passesP b ∧ passesP b ≤ 32 := by
  have : b = 1 ∨ b = 2 ∨ b = 3 ∨ b = 4 ∨ b = 5 ∨ b = 6 ∨ b = 7 ∨ b = 8 ∨ b = 9 ∨ b = 10 ∨ b = 11 ∨ b = 12 ∨ b = 13 ∨ b = 14 ∨ b = 15 ∨ b = 16 := by omega
  rcases this with rfl | rfl | rfl | rfl | rfl | rfl | rfl | rfl | rfl | rfl | rfl | rfl | rfl | rfl | rfl | rfl <;> decide
theorem sortL_good (keys : List Nat) : (sortL keys).Perm (List.range keys.length) ∧ (sortL keys).Pairwise (fun a b => keys.getD a 0 < keys.getD b 0 ∨ keys.getD a 0 = keys.getD b 0 ∧ a < b) := by
  exact insAll_good (fun i => keys.getD i 0) (· < ·) _ _ rfl List.pairwise_lt_range
theorem passes_sort (keys : List Nat) (hk : ∀ i, keys.getD i 0 < 4294967296) (b : Nat) (h1 : 1 ≤ b) (h2 : b ≤ 16) : passesL keys b (passesP b) = sortL keys := by
  obtain ⟨h3, h4⟩ := passesL_good keys b h1 h2 _ (Nat.le_refl _)
  obtain ⟨h5, h6⟩ := sortL_good keys
  have he := (passesP_enough b h1 h2).1
  have hM : ∀ i, keys.getD i 0 % 2 ^ (passesP b * b) = keys.getD i 0 := fun i => Nat.mod_eq_of_lt (Nat.lt_of_lt_of_le (hk i) (by
    have : 2 ^ 32 ≤ 2 ^ (passesP b * b) := Nat.pow_le_pow_right (by decide) he
    omega))
  refine byF_one (R := fun a b => keys.getD a 0 < keys.getD b 0 ∨ keys.getD a 0 = keys.getD b 0 ∧ a < b) (fun a b h => by omega) (h4.imp fun {a c} h => ?_) h6 (h3.trans h5.symm)
  unfold byM at h
  rw [hM, hM] at h
  exact h
end Go.Proofs.Ytkpbanfpnilifaa.Plain

/- Plain words of each once: runs of a rising list, and how many there are. No program in it. -/
namespace Go.Proofs.Ytkpbanfpnilifaa.Plain
/-- one more key of a rising list: one more of the last one, or a new one -/
def stepG (r : List Nat × List Nat) (k : Nat) : List Nat × List Nat :=
  if 0 < r.1.length ∧ r.1.getD (r.1.length - 1) 0 = k then (r.1, r.2.set (r.1.length - 1) (r.2.getD (r.1.length - 1) 0 + 1)) else (r.1 ++ [k], r.2 ++ [1])
def grpL (ks : List Nat) : List Nat × List Nat := ks.foldl stepG ([], [])
theorem grpL_snoc (ks : List Nat) (k : Nat) : grpL (ks ++ [k]) = stepG (grpL ks) k := by unfold grpL; rw [List.foldl_append]; rfl
structure Grp (ks : List Nat) (o t : List Nat) : Prop where
  rise : o.Pairwise (· < ·)
  len : t.length = o.length
  mem : ∀ x, x ∈ o ↔ x ∈ ks
  cnt : ∀ i, i < o.length → t.getD i 0 = ks.count (o.getD i 0)
  sum : t.sum = ks.length
theorem sum_set : ∀ (t : List Nat) (i : Nat), i < t.length → (t.set i (t.getD i 0 + 1)).sum = t.sum + 1
  | [], i, h => by simp at h
  | a :: t, 0, _ => by simp; omega
  | a :: t, i + 1, h => by
    have := sum_set t i (by simpa using h)
    rw [List.getD_cons_succ, List.set_cons_succ, List.sum_cons, List.sum_cons, this]; omega
theorem grp_good : ∀ (n : Nat) (ks : List Nat), ks.length = n → ks.Pairwise (· ≤ ·) → Grp ks (grpL ks).1 (grpL ks).2 := by
  intro n
  induction n with
  | zero =>
    intro ks hl _
    obtain rfl : ks = [] := List.eq_nil_of_length_eq_zero hl
    exact ⟨List.Pairwise.nil, rfl, fun x => Iff.rfl, fun i h => by simp [grpL] at h, rfl⟩
  | succ n ih =>
    intro ks hl hp
    obtain ⟨m, k, rfl⟩ := list_snoc ks (by intro h; subst h; simp at hl)
    rw [List.length_append, List.length_singleton] at hl
    rw [List.pairwise_append] at hp
    obtain ⟨hp1, _, hp3⟩ := hp
    have H := ih m (by omega) hp1
    rw [grpL_snoc]
    obtain ⟨⟨o, t⟩, hr⟩ : ∃ r, grpL m = r := ⟨_, rfl⟩
    rw [hr] at H ⊢
    simp only at H
    have hle : ∀ y ∈ o, y ≤ k := fun y hy => hp3 y ((H.mem y).1 hy) k (by simp)
    have hlt := H.rise
    rw [List.pairwise_iff_getElem] at hlt
    unfold stepG
    simp only
    split
    · rename_i hc
      obtain ⟨h1, h2⟩ := hc
      rw [List.getD_eq_getElem?_getD, List.getElem?_eq_getElem (by omega), Option.getD_some] at h2
      have hko : k ∈ o := by rw [← h2]; exact List.getElem_mem _
      refine ⟨H.rise, by simp only [List.length_set]; exact H.len, fun x => ?_, fun i hi => ?_, ?_⟩
      · simp only [List.mem_append, List.mem_singleton]
        rw [H.mem]
        exact ⟨.inl, fun h => h.elim id fun h => by rw [h]; exact (H.mem k).1 hko⟩
      · simp only at hi ⊢
        have hc := H.cnt i hi
        have hoi : o.getD i 0 = o[i] := by rw [List.getD_eq_getElem?_getD, List.getElem?_eq_getElem hi]; rfl
        have hil : i < t.length := by rw [H.len]; exact hi
        rw [hoi] at hc ⊢
        rw [List.count_append, List.getD_eq_getElem?_getD, List.getElem?_set]
        by_cases he : o.length - 1 = i
        · rw [if_pos he, if_pos (by omega)]
          subst he
          rw [Option.getD_some, hc, h2]
          simp
        · rw [if_neg he, ← List.getD_eq_getElem?_getD, hc]
          have hne : o[i] ≠ k := by
            have := hlt i (o.length - 1) hi (by omega) (by omega)
            omega
          rw [List.count_singleton]
          simp [hne.symm]
      · simp only [List.length_append, List.length_singleton]
        rw [sum_set _ _ (by rw [H.len]; omega), H.sum]
    · rename_i hc
      have hkm : k ∉ o := by
        intro hk
        apply hc
        have h0 : 0 < o.length := List.length_pos_of_mem hk
        refine ⟨h0, ?_⟩
        rw [List.getD_eq_getElem?_getD, List.getElem?_eq_getElem (by omega), Option.getD_some]
        obtain ⟨j, hj, hjk⟩ := List.getElem_of_mem hk
        have h9 := hle o[o.length - 1] (List.getElem_mem _)
        rcases Nat.lt_or_ge j (o.length - 1) with h8 | h8
        · have := hlt j (o.length - 1) hj (by omega) h8
          omega
        · have e : j = o.length - 1 := by omega
          subst e; exact hjk
      refine ⟨?_, by simp only [List.length_append, List.length_singleton]; rw [H.len], fun x => ?_, fun i hi => ?_, ?_⟩
      · simp only
        rw [List.pairwise_append]
        refine ⟨H.rise, List.pairwise_singleton _ _, fun a ha b hb => ?_⟩
        rw [List.mem_singleton] at hb
        subst hb
        have := hle a ha
        have : a ≠ b := fun e => hkm (e ▸ ha)
        omega
      · simp only [List.mem_append, List.mem_singleton]
        rw [H.mem]
      · simp only [List.length_append, List.length_singleton] at hi
        simp only
        rw [List.getD_eq_getElem?_getD, List.getD_eq_getElem?_getD (l := o ++ [k]), List.count_append]
        rcases Nat.lt_or_ge i o.length with h | h
        · rw [List.getElem?_append_left (by rw [H.len]; exact h), List.getElem?_append_left h, ← List.getD_eq_getElem?_getD, ← List.getD_eq_getElem?_getD, H.cnt i h]
          have hne : o.getD i 0 ≠ k := fun e => hkm (by rw [← e, List.getD_eq_getElem?_getD, List.getElem?_eq_getElem h]; exact List.getElem_mem _)
          rw [List.count_singleton, if_neg (by rw [beq_iff_eq]; exact hne.symm)]
          rfl
        · have e : i = o.length := by omega
          subst e
          rw [List.getElem?_append_right (Nat.le_refl _), List.getElem?_append_right (by rw [H.len]; exact Nat.le_refl _), H.len]
          simp
          exact List.count_eq_zero_of_not_mem fun h => hkm ((H.mem k).2 h)
      · simp only [List.sum_append, List.length_append, List.length_singleton, List.sum_singleton]
        rw [H.sum]
/-- an edge's key -/
def keyOk (u v : Int) : Bool := decide (0 ≤ u) && decide (0 ≤ v) && decide (u ≤ 65535) && decide (v ≤ 65535)
def keyP (u v : Int) : Nat := if keyOk u v = true then (min u v).toNat * 65536 + (max u v).toNat else 0
end Go.Proofs.Ytkpbanfpnilifaa.Plain

/- The document's Has, Without (ref11). -/
namespace Go.Proofs.Ytkpbanfpnilifaa
open Go.BigFrame
open Go.RowKit Go.Proofs.Ytkpbanfpnilifaa.Plain

/-- those that aren't among others -/
def Plain.withoutL (a b : List Nat) : List Nat := a.filter (fun x => !decide (x ∈ b))
theorem Plain.withoutL_snoc (a b : List Nat) (x : Nat) : withoutL (a ++ [x]) b = withoutL a b ++ (if x ∈ b then [] else [x]) := by
  unfold withoutL
  rw [List.filter_append]
  congr 1
  by_cases h : x ∈ b
  · rw [if_pos h, List.filter_cons_of_neg (by simp [h])]; rfl
  · rw [if_neg h, List.filter_cons_of_pos (by simp [h])]; rfl
end Go.Proofs.Ytkpbanfpnilifaa

/- The document's Blocks, Steps, Sums, Highest, Back, Totals (ref08). -/
namespace Go.Proofs.Ytkpbanfpnilifaa
open Go.BigFrame
open Go.RowKit Go.Proofs.Ytkpbanfpnilifaa.Plain

theorem Plain.ordP_plan {n : Nat} {g m : Int} {picks : List (Int × Int)} (h : (ordP n g m picks).2.2 = 0) : picks.length ≤ 4000 := by
  unfold ordP at h
  by_cases hb : planB g m picks.length = false
  · rw [if_pos hb] at h; cases h
  · exact ((planB_iff _ _ _).1 (by simpa using hb)).2.2.2.2
end Go.Proofs.Ytkpbanfpnilifaa

/- The document's Sums, Highest, Back (ref08). -/
namespace Go.Proofs.Ytkpbanfpnilifaa
open Go.BigFrame
open Go.RowKit Go.Proofs.Ytkpbanfpnilifaa.Plain

/-- words, a sum, steps, an error -/
def SumsSaid (r : List Nat × Nat × Nat × Int) (w : World) (ed : Ending) (w' : World) : Prop :=
  ∃ (L : Option Addr) (l : Nat), ed = .returned (.tuple #[.slice L r.1.length l, .int .u32 r.2.1, .int .i64 r.2.2.1, .int .i64 r.2.2.2]) ∧ Ow kU32 w.heap.size w' (.slice L r.1.length l) (zs r.1) ∧ Ext w w'
/-- a list of words -/
def ListSaid (l : List Nat) (w : World) (ed : Ending) (w' : World) : Prop :=
  ∃ (L : Option Addr) (c : Nat), ed = .returned (.slice L l.length c) ∧ Ow kU32 w.heap.size w' (.slice L l.length c) (zs l) ∧ Ext w w'
end Go.Proofs.Ytkpbanfpnilifaa

/- The document's Totals (ref08). -/
namespace Go.Proofs.Ytkpbanfpnilifaa
open Go.BigFrame
open Go.RowKit Go.Proofs.Ytkpbanfpnilifaa.Plain

end Go.Proofs.Ytkpbanfpnilifaa

/- The document's Key, Edge, Has, Without, Same (ref11). -/
namespace Go.Proofs.Ytkpbanfpnilifaa
open Go.BigFrame
open Go.RowKit Go.Proofs.Ytkpbanfpnilifaa.Plain

/-- edges: pairs of numbers -/
def kEdge : Kd (Int × Int) where
  t := 44
  e := 39
  n := 2
  cells := fun x => [.int .i64 x.1, .int .i64 x.2]
  ok := fun x => in64 x.1 ∧ in64 x.2
  d := (0, 0)
  z := .agg #[.int .i64 0, .int .i64 0]
  bytes := 16
  ht := Try.underlying44
  info := by kernel_rfl
  hzs := rfl
  pos := by decide
  small := by decide
  len := fun _ => rfl
  one := fun a u hu => by simp at hu; rcases hu with rfl | rfl <;> rfl
theorem Rd.edges {w : World} {A : Option Addr} {n c : Nat} {xs : List (Int × Int)} (h : Rd kEdge w (.slice A n c) xs) (hl : 0 < xs.length) : ∃ b off, A = some ⟨b, off, none⟩ ∧ ∀ j, j < xs.length → w.cell? ⟨b, off + j * 2, none⟩ = some (.int .i64 (xs.getD j (0, 0)).1) ∧ w.cell? ⟨b, off + j * 2 + 1, none⟩ = some (.int .i64 (xs.getD j (0, 0)).2) := by
  obtain ⟨b, off, rfl, hcc⟩ := h.cells hl
  exact ⟨b, off, rfl, fun j hj => ⟨by have := hcc j hj 0 _ rfl; simpa [kEdge] using this, by have := hcc j hj 1 _ rfl; simpa [kEdge] using this⟩⟩

theorem Plain.keyP_no {u v : Int} (h : ¬ (0 ≤ u ∧ 0 ≤ v ∧ u ≤ 65535 ∧ v ≤ 65535)) : keyOk u v = false ∧ keyP u v = 0 := by
  have h1 : keyOk u v = false := by
    unfold keyOk
    rw [Bool.eq_false_iff]
    intro h2
    simp only [Bool.and_eq_true, decide_eq_true_eq] at h2
    omega
  exact ⟨h1, by unfold keyP; rw [if_neg (by rw [h1]; decide)]⟩
theorem Plain.keyP_yes {U V : Nat} (h1 : U ≤ 65535) (h2 : V ≤ 65535) : keyOk U V = true ∧ keyP U V = min U V * 65536 + max U V := by
  have h3 : keyOk (U : Int) V = true := by
    unfold keyOk
    simp only [Bool.and_eq_true, decide_eq_true_eq]; omega
  exact ⟨h3, by unfold keyP; rw [if_pos h3, show (min (U : Int) V).toNat = min U V by omega, show (max (U : Int) V).toNat = max U V by omega]⟩
/-- a key's edge -/
def Plain.edgeP (k : Nat) : Int × Int := (((k / 65536 : Nat) : Int), ((k % 65536 : Nat) : Int))
set_option maxHeartbeats 1600000 in
set_option maxRecDepth 100000 in
theorem rsame11_any (l r : List (Int × Int)) (L R : Option Addr) (lc rc : Nat) (w : World) (hL : Rd kEdge w (.slice L l.length lc) l) (hR : Rd kEdge w (.slice R r.length rc) r) (hl : l.length ≤ 900) :
    Calls Try.prog 13 #[.slice L l.length lc, .slice R r.length rc] w fun ed w' => ed = .returned (.bool (decide (l = r))) ∧ Ext w w' := by
  have HL := Lib.hid hL
  have HR := Lib.hid hR
  have hl' : (l.length : Int) ≤ 900 := by omega
  clear hL hR
  go_enter Try.func13, Try.ntmps13
  by_cases hlr : l.length = r.length
  · have hlr' : (r.length : Int) = (l.length : Int) := by omega
    have hne : ((l.length : Int) != (l.length : Int)) = false := by simp
    have HLR := Lib.hid hlr
    rw [← hlr] at HR ⊢
    clear hlr hlr'
    go_wp2_with fail
    go_loopw [5] (fun i wr => ∃ k : Nat, k ≤ l.length ∧ i = .int .i64 k ∧ (∀ j, j < k → l.getD j (0, 0) = r.getD j (0, 0)) ∧ Ext w wr) (fun i _ => l.length - (intOf i).toNat)
    case atStart => exact ⟨0, Nat.zero_le _, rfl, by simp, Ext.refl _⟩
    case round =>
      obtain ⟨k, hk, rfl, hno, hX⟩ := hrel
      have HX := Lib.hid hX
      have HNO := Lib.hid hno
      have hk0 : (0 : Int) ≤ k := by omega
      clear hX hno
      by_cases hlt : k < l.length
      · have hlt' : (k : Int) < l.length := by omega
        obtain ⟨bx, ox, rfl, hcx⟩ := Rd.edges (HL.out.ext HX.out) (by omega)
        obtain ⟨by_, oy, rfl, hcy⟩ := Rd.edges (HR.out.ext HX.out) (by have := HLR.out; omega)
        obtain ⟨x0, x1⟩ := hcx k hlt
        obtain ⟨y0, y1⟩ := hcy k (by have := HLR.out; omega)
        obtain ⟨⟨a, b⟩, hab⟩ : ∃ x, l.getD k (0, 0) = x := ⟨_, rfl⟩
        obtain ⟨⟨c, d⟩, hcd⟩ : ∃ x, r.getD k (0, 0) = x := ⟨_, rfl⟩
        rw [hab] at x0 x1
        rw [hcd] at y0 y1
        simp only at x0 x1 y0 y1
        have HAB := Lib.hid (And.intro hab hcd)
        have KS : Hid (∀ w', Ext wr w' → w'.cell? ⟨bx, ox + k * 2, none⟩ = some (.int .i64 a) ∧ w'.cell? ⟨bx, ox + k * 2 + 1, none⟩ = some (.int .i64 b) ∧ w'.cell? ⟨by_, oy + k * 2, none⟩ = some (.int .i64 c) ∧ w'.cell? ⟨by_, oy + k * 2 + 1, none⟩ = some (.int .i64 d)) := Lib.hid (fun w' hE => ⟨hE.cell x0, hE.cell x1, hE.cell y0, hE.cell y1⟩)
        clear hcx hcy x0 x1 y0 y1 hab hcd
        by_cases hq : a = c ∧ b = d
        · obtain ⟨rfl, rfl⟩ := hq
          go_wp2_with fail
          refine wp_region_class (Ext wr) (by kernel_rfl) (by kernel_rfl) (Ext.refl _).drew ?_
          try simp only [List.append_eq, List.cons_append, List.nil_append]
          repeat (first
            | go_big_quiet_skip
            | (go_big_quiet_want
               first
               | (go_big_quiet_op; go_big_quiet_on)
               | (unfold Oper.quiet
                  apply Exists.intro
                  refine ⟨fun w' hC => ?_, ?_⟩
                  · (obtain ⟨k1, k2, k3, k4⟩ := KS.out w' hC
                     unfold Oper.quietAt
                     go_simp
                     first
                     | exact rfl)
                  go_simp
                  go_big_quiet_on)))
          refine wpQuiet_nil ?_
          intro w9 hC9
          go_wp2_with fail
          go_roundw
          case rel => exact ⟨k + 1, by omega, by go_num, fun j hj => by
            by_cases e : j = k
            · subst e; rw [HAB.out.1, HAB.out.2]
            · exact HNO.out j (by omega), HX.out.trans hC9⟩
          case measure => simp [intOf]; omega
        · have HNE : Hid (l ≠ r) := Lib.hid fun e => hq (by
            have h1 := HAB.out.1
            rw [e, HAB.out.2] at h1
            cases h1
            exact ⟨rfl, rfl⟩)
          by_cases hac : a = c
          · subst hac
            have hbd : b ≠ d := fun e => hq ⟨rfl, e⟩
            have hb1 : (b == d) = false := by simp [hbd]
            have hb2 : decide (b = d) = false := decide_eq_false hbd
            have hb3 : (b != d) = true := by simp [hbd]
            clear hq
            go_wp2_with fail
            refine wp_region_class (Ext wr) (by kernel_rfl) (by kernel_rfl) (Ext.refl _).drew ?_
            try simp only [List.append_eq, List.cons_append, List.nil_append]
            repeat (first
              | go_big_quiet_skip
              | (go_big_quiet_want
                 first
                 | (go_big_quiet_op; go_big_quiet_on)
                 | (unfold Oper.quiet
                    apply Exists.intro
                    refine ⟨fun w' hC => ?_, ?_⟩
                    · (obtain ⟨k1, k2, k3, k4⟩ := KS.out w' hC
                       unfold Oper.quietAt
                       go_simp
                       first
                       | exact rfl)
                    go_simp
                    go_big_quiet_on)))
            refine wpQuiet_nil ?_
            intro w9 hC9
            go_wp2_with fail
            go_ret
            exact ⟨ret_bool (by rw [decide_eq_false HNE.out]), HX.out.trans hC9⟩
          · have hb1 : (a == c) = false := by simp [hac]
            have hb2 : decide (a = c) = false := decide_eq_false hac
            have hb3 : (a != c) = true := by simp [hac]
            clear hq
            go_wp2_with fail
            refine wp_region_class (Ext wr) (by kernel_rfl) (by kernel_rfl) (Ext.refl _).drew ?_
            try simp only [List.append_eq, List.cons_append, List.nil_append]
            repeat (first
              | go_big_quiet_skip
              | (go_big_quiet_want
                 first
                 | (go_big_quiet_op; go_big_quiet_on)
                 | (unfold Oper.quiet
                    apply Exists.intro
                    refine ⟨fun w' hC => ?_, ?_⟩
                    · (obtain ⟨k1, k2, k3, k4⟩ := KS.out w' hC
                       unfold Oper.quietAt
                       go_simp
                       first
                       | exact rfl)
                    go_simp
                    go_big_quiet_on)))
            refine wpQuiet_nil ?_
            intro w9 hC9
            go_wp2_with fail
            go_ret
            exact ⟨ret_bool (by rw [decide_eq_false HNE.out]), HX.out.trans hC9⟩
      · obtain rfl : k = l.length := by omega
        have heq : l = r := by
          apply List.ext_getElem?
          intro i
          by_cases hi : i < l.length
          · have h9 := HNO.out i hi
            rw [List.getD_eq_getElem?_getD, List.getD_eq_getElem?_getD, List.getElem?_eq_getElem hi, List.getElem?_eq_getElem (by rw [← HLR.out]; exact hi)] at h9
            rw [List.getElem?_eq_getElem hi, List.getElem?_eq_getElem (by rw [← HLR.out]; exact hi)]
            exact congrArg some h9
          · rw [List.getElem?_eq_none (by omega), List.getElem?_eq_none (by rw [← HLR.out]; omega)]
        have HEQ := Lib.hid heq
        clear heq
        go_wp2_with fail
        go_ret
        exact ⟨ret_bool (by rw [decide_eq_true HEQ.out]), HX.out⟩
  · have hne : ((l.length : Int) != (r.length : Int)) = true := by simp; omega
    have HN : Hid (l ≠ r) := Lib.hid (fun e => hlr (by rw [e]))
    clear hlr
    go_wp2_with fail
    go_ret
    exact ⟨ret_bool (by rw [decide_eq_false HN.out]), Ext.refl _⟩
end Go.Proofs.Ytkpbanfpnilifaa

/- The document's Count. -/
namespace Go.Proofs.Ytkpbanfpnilifaa
open Go.RowKit Go.Proofs.Ytkpbanfpnilifaa.Plain

end Go.Proofs.Ytkpbanfpnilifaa

/- The document's Bound (ref06) and Once (ref07). -/
namespace Go.Proofs.Ytkpbanfpnilifaa
open Go.BigFrame
open Go.RowKit Go.Proofs.Ytkpbanfpnilifaa.Plain

end Go.Proofs.Ytkpbanfpnilifaa

/- The document's Once (ref07), of whatever list. -/
namespace Go.Proofs.Ytkpbanfpnilifaa
open Go.BigFrame
open Go.RowKit Go.Proofs.Ytkpbanfpnilifaa.Plain

/-- is each number from 0 to below n there once? -/
def Plain.onceB (l : List Int) (n : Nat) : Bool := decide (l.length = n) && l.all (fun x => decide (0 ≤ x) && decide (x < n)) && (List.range n).all (fun k => decide ((k : Int) ∈ l))
theorem Plain.perm_of_all : ∀ (n : Nat) (os : List Nat), os.length = n → (∀ k, k < n → k ∈ os) → os.Perm (List.range n)
  | 0, os, h, _ => by rw [List.eq_nil_of_length_eq_zero h]; exact List.Perm.refl _
  | n + 1, os, h, ha => by
    obtain ⟨a, b, rfl⟩ := List.append_of_mem (ha n (by omega))
    have h1 : (a ++ b).length = n := by rw [List.length_append, List.length_cons] at h; rw [List.length_append]; omega
    have h2 := Plain.perm_of_all n (a ++ b) h1 (fun k hk => by
      have h3 := ha k (by omega)
      rw [List.mem_append, List.mem_cons] at h3
      rw [List.mem_append]
      rcases h3 with h3 | h3 | h3
      · exact .inl h3
      · omega
      · exact .inr h3)
    rw [List.range_succ]
    exact (List.perm_middle (l₁ := a) (l₂ := b) (a := n)).trans ((h2.cons n).trans (List.perm_append_comm (l₁ := [n]) (l₂ := List.range n)))
theorem Plain.onceB_iff (l : List Int) (n : Nat) : onceB l n = true ↔ ∃ os : List Nat, l = zs os ∧ os.Perm (List.range n) := by
  unfold onceB
  rw [Bool.and_eq_true, Bool.and_eq_true, decide_eq_true_eq, List.all_eq_true, List.all_eq_true]
  constructor
  · rintro ⟨⟨h1, h2⟩, h3⟩
    have hz : l = zs (l.map Int.toNat) := by
      unfold zs
      rw [List.map_map]
      conv => lhs; rw [← List.map_id l]
      refine List.map_congr_left fun x hx => ?_
      have := h2 x hx
      rw [Bool.and_eq_true, decide_eq_true_eq] at this
      show x = ((x.toNat : Nat) : Int)
      omega
    refine ⟨l.map Int.toNat, hz, perm_of_all n _ (by rw [List.length_map]; exact h1) fun k hk => ?_⟩
    have h4 := h3 k (List.mem_range.2 hk)
    rw [decide_eq_true_eq] at h4
    exact List.mem_map.2 ⟨_, h4, by simp⟩
  · rintro ⟨os, rfl, hp⟩
    refine ⟨⟨by rw [zs_len, hp.length_eq, List.length_range], fun x hx => ?_⟩, fun k hk => ?_⟩
    · unfold zs at hx
      obtain ⟨k, hk, rfl⟩ := List.mem_map.1 hx
      have := List.mem_range.1 (hp.mem_iff.1 hk)
      rw [Bool.and_eq_true, decide_eq_true_eq, decide_eq_true_eq]
      omega
    · rw [decide_eq_true_eq]
      unfold zs
      exact List.mem_map.2 ⟨k, hp.mem_iff.2 hk, rfl⟩

end Go.Proofs.Ytkpbanfpnilifaa

/- The document's Passes, Digit, Sorted (ref10). -/
namespace Go.Proofs.Ytkpbanfpnilifaa
open Go.BigFrame
open Go.RowKit Go.Proofs.Ytkpbanfpnilifaa.Plain

theorem Plain.passesP_no (b : Int) (h : b < 1 ∨ 16 < b) : passesP b = 0 := by unfold passesP; rw [if_pos h]
theorem Plain.passes_mul (P B : Nat) (h1 : 1 ≤ B) (h2 : B ≤ 16) (hp : P < passesP B) : P * B < 32 := by
  have h := passesP_enough B h1 h2
  have : P * B ≤ (passesP B - 1) * B := Nat.mul_le_mul_right _ (by omega)
  omega
end Go.Proofs.Ytkpbanfpnilifaa

/- The document's Sort (ref10).  -/
namespace Go.Proofs.Ytkpbanfpnilifaa
open Go.BigFrame
open Go.RowKit Go.Proofs.Ytkpbanfpnilifaa.Plain

/-- the order of all keys, how many steps, an error -/
def Plain.sortP (l : List Nat) (b blk g m : Int) (picks : List (Int × Int)) : List Nat × Nat × Int :=
  if passesP b = 0 then ([], 0, 1) else if (stepsP l.length blk g m picks).2 ≠ 0 then ([], 0, (stepsP l.length blk g m picks).2) else (sortL l, (stepsP l.length blk g m picks).1 * passesP b, 0)
theorem Plain.insAll_len (f : Nat → Nat) : ∀ (n : Nat) (l : List Nat), l.length = n → (insAll f l).length = n
  | 0, l, h => by rw [List.eq_nil_of_length_eq_zero h]; rfl
  | n + 1, l, h => by
    obtain ⟨m, x, rfl⟩ := list_snoc l (by intro e; subst e; simp at h)
    rw [List.length_append, List.length_singleton] at h
    rw [insAll_snoc, insP_len, insAll_len f n m (by omega)]
theorem Plain.insAll_mem (f : Nat → Nat) (l : List Nat) : (insAll f l).Perm l := (insAll_good f (fun _ _ => True) _ l rfl (List.pairwise_of_forall fun _ _ => trivial)).1
theorem Plain.passesP_le (b : Int) : passesP b ≤ 32 := by
  by_cases h : b < 1 ∨ 16 < b
  · rw [passesP_no b h]; omega
  · obtain ⟨B, rfl⟩ : ∃ B : Nat, b = B := ⟨b.toNat, by omega⟩
    exact (passesP_enough B (by omega) (by omega)).2.2.2
end Go.Proofs.Ytkpbanfpnilifaa

/- The document's Where, Pack, Part, Spread (ref09). -/
namespace Go.Proofs.Ytkpbanfpnilifaa
open Go.BigFrame
open Go.RowKit Go.Proofs.Ytkpbanfpnilifaa.Plain

end Go.Proofs.Ytkpbanfpnilifaa

/- The document's Groups, Once (ref11). -/
namespace Go.Proofs.Ytkpbanfpnilifaa
open Go.BigFrame
open Go.RowKit Go.Proofs.Ytkpbanfpnilifaa.Plain

/-- the keys, rising -/
def Plain.risingL (l : List Nat) : List Nat := (sortL l).map (fun i => l.getD i 0)
theorem Plain.sortL_length (l : List Nat) : (sortL l).length = l.length := by rw [(sortL_good l).1.length_eq, List.length_range]
theorem Plain.risingL_len (l : List Nat) : (risingL l).length = l.length := by unfold risingL; rw [List.length_map, sortL_length]
theorem Plain.risingL_rises (l : List Nat) : (risingL l).Pairwise (· ≤ ·) := by
  unfold risingL
  rw [List.pairwise_map]
  exact (sortL_good l).2.imp fun {a b} h => by omega
theorem Plain.byN_perm (l : List Nat) (os : List Nat) (h : os.Perm (List.range l.length)) : (os.map (fun i => l.getD i 0)).Perm l := by
  have h1 := h.map (fun i => l.getD i 0)
  have h2 : (List.range l.length).map (fun i => l.getD i 0) = l := byN_id l
  rw [h2] at h1
  exact h1
theorem Plain.risingL_perm (l : List Nat) : (risingL l).Perm l := byN_perm l _ (sortL_good l).1
theorem Plain.grp_take (l : List Nat) (k : Nat) : Grp ((risingL l).take k) (grpL ((risingL l).take k)).1 (grpL ((risingL l).take k)).2 := grp_good _ _ rfl ((risingL_rises l).sublist (List.take_sublist _ _))
theorem Plain.sum_ge : ∀ (t : List Nat), (∀ i, i < t.length → 1 ≤ t.getD i 0) → t.length ≤ t.sum
  | [], _ => Nat.le_refl _
  | a :: t, h => by
    have h1 := h 0 (by simp)
    have h2 := sum_ge t fun i hi => by
      have := h (i + 1) (by simpa using hi)
      rw [List.getD_cons_succ] at this; exact this
    rw [List.getD_cons_zero] at h1
    rw [List.sum_cons, List.length_cons]; omega
theorem Plain.grp_le {ks o t : List Nat} (h : Grp ks o t) : o.length ≤ ks.length := by
  rw [← h.sum, ← h.len]
  refine sum_ge t fun i hi => ?_
  rw [h.cnt i (by rw [← h.len]; exact hi)]
  refine List.count_pos_iff.2 ((h.mem _).1 ?_)
  rw [List.getD_eq_getElem?_getD, List.getElem?_eq_getElem (by rw [← h.len]; exact hi)]
  exact List.getElem_mem _
/-- each once, how many of each, how many steps, an error -/
def Plain.groupsP (l : List Nat) (b blk g m : Int) (picks : List (Int × Int)) : List Nat × List Nat × Nat × Int :=
  if (sortP l b blk g m picks).2.2 ≠ 0 then ([], [], 0, (sortP l b blk g m picks).2.2) else ((grpL (risingL l)).1, (grpL (risingL l)).2, (sortP l b blk g m picks).2.1 + (whereP (List.replicate l.length false) blk g m picks).2.1, 0)
theorem Plain.sortP_err (l : List Nat) (b blk g m : Int) (picks : List (Int × Int)) : ((sortP l b blk g m picks).2.2 = 0 ∧ (sortP l b blk g m picks).1 = sortL l ∧ (stepsP l.length blk g m picks).2 = 0 ∧ (sortP l b blk g m picks).2.1 = (stepsP l.length blk g m picks).1 * passesP b) ∨ (sortP l b blk g m picks).2.2 = 1 := by
  unfold sortP
  split
  · exact .inr rfl
  · rcases stepsP_err l.length blk g m picks with h | h
    · rw [if_neg (by simp [h])]; exact .inl ⟨rfl, rfl, h, rfl⟩
    · rw [if_pos (by simp [h])]; exact .inr h
theorem Plain.whereP_of (keep : List Bool) (b g m : Int) (picks : List (Int × Int)) (h : (stepsP keep.length b g m picks).2 = 0) : whereP keep b g m picks = (whereL keep, (stepsP keep.length b g m picks).1 + (ordP keep.length g m picks).2.1, 0) := by
  unfold whereP
  rw [if_neg (by simp [h])]
def Grp11Said (r : List Nat × List Nat × Nat × Int) (w : World) (ed : Ending) (w' : World) : Prop :=
  ∃ (L T : Option Addr) (l t : Nat), ed = .returned (.tuple #[.slice L r.1.length l, .slice T r.2.1.length t, .int .i64 r.2.2.1, .int .i64 r.2.2.2]) ∧ Ow kU32 w.heap.size w' (.slice L r.1.length l) (zs r.1) ∧ Ow kInt w.heap.size w' (.slice T r.2.1.length t) (zs r.2.1) ∧ Ext w w'
/-- a plan of sorting -/
abbrev wayV (b blk g m : Int) (A : Option Addr) (n c : Nat) : Value := .agg #[.int .i64 b, .int .i64 blk, .int .i64 g, .int .i64 m, .slice A n c]
/-- each once, how many steps, an error -/
def Plain.once11P (l : List Nat) (b blk g m : Int) (picks : List (Int × Int)) : List Nat × Nat × Int := ((groupsP l b blk g m picks).1, (groupsP l b blk g m picks).2.2)
end Go.Proofs.Ytkpbanfpnilifaa

/- The document's Edges (ref11). -/
namespace Go.Proofs.Ytkpbanfpnilifaa
open Go.BigFrame
open Go.RowKit Go.Proofs.Ytkpbanfpnilifaa.Plain

/-- the keys of those that aren't from a vertex to itself -/
def Plain.keysOf (l : List (Int × Int)) : List Nat := (l.filter (fun e => decide (e.1 ≠ e.2))).map (fun e => keyP e.1 e.2)
theorem Plain.keysOf_snoc (l : List (Int × Int)) (e : Int × Int) : keysOf (l ++ [e]) = keysOf l ++ (if e.1 = e.2 then [] else [keyP e.1 e.2]) := by
  unfold keysOf
  rw [List.filter_append, List.map_append]
  congr 1
  by_cases h : e.1 = e.2
  · rw [if_pos h, List.filter_cons_of_neg (by simp [h])]; rfl
  · rw [if_neg h, List.filter_cons_of_pos (by simp [h])]; rfl
theorem Plain.keysOf_len (l : List (Int × Int)) : (keysOf l).length ≤ l.length := by
  unfold keysOf
  rw [List.length_map]
  exact List.length_filter_le _ _
/-- do all have keys? -/
def Plain.allOk (l : List (Int × Int)) : Bool := l.all (fun e => keyOk e.1 e.2)
/-- edges, each once, how many steps, an error -/
def Plain.edgesP (l : List (Int × Int)) (b blk g m : Int) (picks : List (Int × Int)) : List (Int × Int) × Nat × Int :=
  if allOk l = false then ([], 0, 10) else if (once11P (keysOf l) b blk g m picks).2.2 ≠ 0 then ([], 0, (once11P (keysOf l) b blk g m picks).2.2) else ((once11P (keysOf l) b blk g m picks).1.map edgeP, (once11P (keysOf l) b blk g m picks).2.1, 0)
def EdgSaid (r : List (Int × Int) × Nat × Int) (w : World) (ed : Ending) (w' : World) : Prop :=
  ∃ (L : Option Addr) (l : Nat), ed = .returned (.tuple #[.slice L r.1.length l, .int .i64 r.2.1, .int .i64 r.2.2]) ∧ Ow kEdge w.heap.size w' (.slice L r.1.length l) r.1 ∧ Ext w w'
theorem Plain.once11P_err (l : List Nat) (b blk g m : Int) (picks : List (Int × Int)) : (once11P l b blk g m picks).2.2 = 0 ∨ (once11P l b blk g m picks).2.2 = 1 := by
  unfold once11P groupsP
  rcases sortP_err l b blk g m picks with ⟨h, _⟩ | h
  · rw [if_neg (by simp [h])]; exact .inl rfl
  · rw [if_pos (by simp [h])]; exact .inr h
theorem Plain.keyP_lt (u v : Int) : keyP u v < 4294967296 := by
  by_cases h : 0 ≤ u ∧ 0 ≤ v ∧ u ≤ 65535 ∧ v ≤ 65535
  · obtain ⟨U, rfl⟩ : ∃ U : Nat, u = U := ⟨u.toNat, by omega⟩
    obtain ⟨V, rfl⟩ : ∃ V : Nat, v = V := ⟨v.toNat, by omega⟩
    rw [(keyP_yes (U := U) (V := V) (by omega) (by omega)).2]
    have h1 : min U V ≤ 65535 := by omega
    have h2 : max U V ≤ 65535 := by omega
    omega
  · rw [(keyP_no h).2]; decide
theorem Plain.takeD_snoc {α : Type} {l : List α} {k : Nat} (d : α) (h : k < l.length) : l.take (k + 1) = l.take k ++ [l.getD k d] := by
  rw [List.take_succ_eq_append_getElem h, List.getD_eq_getElem?_getD, List.getElem?_eq_getElem h]; rfl
theorem Plain.edgeP_in (k : Nat) (hk : k < 4294967296) : in64 (edgeP k).1 ∧ in64 (edgeP k).2 := by
  unfold edgeP
  exact ⟨in64_nat _ (by omega), in64_nat _ (by omega)⟩
end Go.Proofs.Ytkpbanfpnilifaa
