import Derived.Test.YtebbpkdhdilkcaaJ7
import Derived.Test.YtebbpkdhdilkcaaZCrChain
import Derived.Deep.DeepCutAuto
import Derived.Deep.RegionHeld3
import Derived.Deep.QuietTactic
import Derived.IntWalk
/- The walk of CrewOwn. Written by wip/mk_crlaw.py. -/
namespace Go.Proofs.Ytebbpkdhdilkcaa
open Go.BigFrame
open Go.RowKit Go.Proofs.Ytebbpkdhdilkcaa.Plain

/-- the seven cells of a crew's block -/
structure CBox (w : World) (V : Nat) (A B : Option Addr) (e0 a b g m : Nat) (c : Cw) : Prop where
  v0 : w.cell? ⟨V, 0, none⟩ = some (.slice A c.ts.length a)
  v1 : w.cell? ⟨V, 1, none⟩ = some (.int .i64 g)
  v2 : w.cell? ⟨V, 2, none⟩ = some (.slice B c.dn.length b)
  v3 : w.cell? ⟨V, 3, none⟩ = some (.slice (some ⟨e0, 0, none⟩) m m)
  v4 : w.cell? ⟨V, 4, none⟩ = some (.bool c.over)
  v5 : w.cell? ⟨V, 5, none⟩ = some (.int .i64 c.st)
  v6 : w.cell? ⟨V, 6, none⟩ = some (.int .i64 c.id)
theorem CBox.ext {w W : World} {V : Nat} {A B : Option Addr} {e0 a b g m : Nat} {c : Cw} (h : CBox w V A B e0 a b g m c) (hE : Ext w W) : CBox W V A B e0 a b g m c :=
  ⟨hE.cell h.v0, hE.cell h.v1, hE.cell h.v2, hE.cell h.v3, hE.cell h.v4, hE.cell h.v5, hE.cell h.v6⟩
theorem CBox.set {w : World} {V : Nat} {A B : Option Addr} {e0 a b g m : Nat} {c : Cw} {p0 p1 p2 p3 p4 p5 p6 : Value} (r0 : w.cell? ⟨V, 0, none⟩ = some p0) (r1 : w.cell? ⟨V, 1, none⟩ = some p1) (r2 : w.cell? ⟨V, 2, none⟩ = some p2) (r3 : w.cell? ⟨V, 3, none⟩ = some p3) (r4 : w.cell? ⟨V, 4, none⟩ = some p4) (r5 : w.cell? ⟨V, 5, none⟩ = some p5) (r6 : w.cell? ⟨V, 6, none⟩ = some p6) :
    CBox (((((((w.setCell ⟨V, 0, none⟩ (.slice A c.ts.length a)).setCell ⟨V, 1, none⟩ (.int .i64 g)).setCell ⟨V, 2, none⟩ (.slice B c.dn.length b)).setCell ⟨V, 3, none⟩ (.slice (some ⟨e0, 0, none⟩) m m)).setCell ⟨V, 4, none⟩ (.bool c.over)).setCell ⟨V, 5, none⟩ (.int .i64 c.st)).setCell ⟨V, 6, none⟩ (.int .i64 c.id)) V A B e0 a b g m c :=
  ⟨by go_simp, by go_simp, by go_simp, by go_simp, by go_simp, by go_simp, by go_simp⟩
/-- behind a step: what came, in two boxes -/
def StepCut (w : World) (V g m : Nat) (c' : Cw) (ev' : Ev) (x ev f : Value) (wx : World) : Prop :=
  ∃ (X Y : Nat) (A B : Option Addr) (e0 a b : Nat), x = .pointer (some ⟨X, 0, none⟩) ∧ ev = .pointer (some ⟨Y, 0, none⟩) ∧ f = .int .i64 0 ∧ Boxed wx X Y A B e0 a b m g m c' ev' ∧ CrewO (fun b => b = V) wx m c' A B e0 0 a b ∧ w.heap.size ≤ X ∧ w.heap.size ≤ Y ∧ Ext w wx
/-- what stands, round by round -/
structure OwnAt (w0 : World) (V g n i : Nat) (c : Cw) (at' : Int) (A B : Option Addr) (e0 a b : Nat) (wr : World) : Prop where
  inv : ∃ done G, CwI g n 1 c done G
  chn : chain c.ts (c.D.getD 0 []).reverse at' n
  box : CBox wr V A B e0 a b g 1 c
  frz : ∀ o, wr.frozen? ⟨V, o, none⟩ = false
  mem : CrewO (fun b => b = V) wr 1 c A B e0 0 a b
  ext : Ext w0 wr
  lt : w0.heap.size ≤ V
  st : c.st ≤ i
  id : c.id ≤ i
  lo : 0 ≤ at'

set_option maxRecDepth 100000 in
theorem cown_great (xa xb xc : Int) (picks : List (Int × Int)) (Ap : Option Addr) (cp : Nat) (W : World) (h : Rd kPk W (.slice Ap picks.length cp) picks) (hb : 200 < picks.length) :
    Calls Try.prog 5 #[.agg #[.int .u8 xa, .int .u8 xb, .int .u8 xc], .slice Ap picks.length cp] W fun e w' => e = .returned (.bool true) ∧ Ext W w' := by
  have hm := h.len
  have hb2 : (200 : Int) < picks.length := by omega
  clear h
  go_enter Try.func5, Try.ntmps5
  go_wp2_with fail
  refine (calive_any _).mono ?_
  rintro e w1 ⟨rfl, hE⟩
  have E1 := Lib.hid (((Ext.refl W).alloc _).trans hE)
  clear hE
  go_wp2_with fail
  go_ret
  exact ⟨rfl, E1.out⟩
set_option maxHeartbeats 6400000 in
set_option maxRecDepth 100000 in
theorem cown_walk (xa xb xc : Int) (picks : List (Int × Int)) (Ap : Option Addr) (cp : Nat) (W : World) (h : Rd kPk W (.slice Ap picks.length cp) picks) (ba : 0 ≤ xa ∧ xa ≤ 255) (bb : 0 ≤ xb ∧ xb ≤ 255) (bc : 0 ≤ xc ∧ xc ≤ 255) (hl : picks.length ≤ 200) :
    Calls Try.prog 5 #[.agg #[.int .u8 xa, .int .u8 xb, .int .u8 xc], .slice Ap picks.length cp] W fun e w' => e = .returned (.bool true) ∧ Ext W w' := by
  have HX := Lib.hid h
  obtain ⟨ba1, ba2⟩ := ba
  obtain ⟨bb1, bb2⟩ := bb
  have hl3 : ¬ (200 : Int) < picks.length := by omega
  have hpl : (picks.length : Int) ≤ 200 := by omega
  obtain ⟨n, hn⟩ : ∃ n : Nat, 1 + xa % 40 = (n : Int) := ⟨(1 + xa % 40).toNat, by omega⟩
  obtain ⟨g, hg⟩ : ∃ g : Nat, 1 + xb % 6 = (g : Int) := ⟨(1 + xb % 6).toNat, by omega⟩
  have n1 : 1 ≤ n := by omega
  have n2 : n ≤ 40 := by omega
  have g1 : 1 ≤ g := by omega
  have g2 : g ≤ 6 := by omega
  have n3 : (1 : Int) ≤ n := by omega
  have n4 : (n : Int) ≤ 40 := by omega
  have g3 : (1 : Int) ≤ g := by omega
  have g4 : (g : Int) ≤ 6 := by omega
  have m1 : 1 ≤ 1 := by decide
  have m2 : 1 ≤ 8 := by decide
  clear h
  go_enter Try.func5, Try.ntmps5
  go_wp2_with fail
  refine (calive_any _).mono ?_
  rintro ed w1 ⟨rfl, hE⟩
  have k0 : w1.cell? ⟨W.heap.size, 0, none⟩ = some (.int .u8 xa) := hE.cell (by go_simp)
  have k1 : w1.cell? ⟨W.heap.size, 1, none⟩ = some (.int .u8 xb) := hE.cell (by go_simp)
  have k2 : w1.cell? ⟨W.heap.size, 2, none⟩ = some (.int .u8 xc) := hE.cell (by go_simp)
  have E1 := Lib.hid (((Ext.refl W).alloc _).trans hE)
  clear hE
  go_wp2_with fail
  go_quiet (fail)
  go_wp2_with fail
  refine (cbegin_to n g 1 n g 1 _ n1 (by omega) g1 (by omega) m1 m2 rfl rfl rfl).mono ?_
  rintro ed w2 ⟨A1, B1, e1, a1, b1, rfl, hC, hE⟩
  have E2 := Lib.hid ((E1.out.drewN _).trans hE)
  have C2 := Lib.hid hC
  clear hE hC k0 k1 k2 E1
  go_wp2_with fail
  obtain ⟨V, hVe⟩ : ∃ V, w2.heap.size = V := ⟨_, rfl⟩
  have hV0 : W.heap.size ≤ V := by have := E2.out.size; omega
  have HA0 : Hid (OwnAt W V g n 0 (beginC n 1) 0 A1 B1 e1 a1 b1 (w2.alloc (.cells #[.slice A1 1 a1, .int .i64 g, .slice B1 n b1, .slice (some ⟨e1, 0, none⟩) 1 1, .bool false, .int .i64 0, .int .i64 0] 31))) := Lib.hid (by
    subst hVe
    have hdn : (beginC n 1).dn.length = n := by simp [beginC]
    refine ⟨⟨_, _, CwI.begin g n 1 n1 m1⟩, ⟨rfl, rfl⟩, ?_, fun o => by go_simp, C2.out.later m1 ((Grew.refl _ _).alloc _) (fun x hx hT => by omega), E2.out.alloc _, hV0, Nat.le_refl _, Nat.le_refl _, Int.le_refl _⟩
    refine ⟨by go_simp; rfl, by go_simp, by rw [hdn]; go_simp, by go_simp, by go_simp; rfl, by go_simp; rfl, by go_simp; rfl⟩)
  generalize hw2 : w2.alloc (.cells #[.slice A1 1 a1, .int .i64 g, .slice B1 n b1, .slice (some ⟨e1, 0, none⟩) 1 1, .bool false, .int .i64 0, .int .i64 0] 31) = w3 at *
  rw [hVe]
  clear hw2 C2 E2
  go_loopw [9, 10] (fun u9 u10 wr => ∃ (i : Nat) (c : Cw) (at' : Int) (A B : Option Addr) (e0 a b : Nat), i ≤ picks.length ∧ u9 = .int .i64 at' ∧ u10 = .int .i64 i ∧ OwnAt W V g n i c at' A B e0 a b wr) (fun _ i _ => picks.length - (intOf i).toNat)
  case atStart => exact ⟨0, _, 0, A1, B1, e1, a1, b1, Nat.zero_le _, rfl, rfl, HA0.out⟩
  case round =>
    clear HA0
    obtain ⟨i, c, at', A, B, e0, a, b, hi, rfl, rfl, hAt⟩ := hrel
    obtain ⟨⟨done, G, hI⟩, hch, hbox, hfr, hC, hE, hlt0, hst0, hid0, hlo0⟩ := hAt
    have HI := Lib.hid hI
    have HB := Lib.hid hbox
    have HC := Lib.hid hC
    have HE := Lib.hid hE
    have HF := Lib.hid hfr
    have HCH := Lib.hid hch
    obtain ⟨v0, v1, v2, v3, v4, v5, v6⟩ := hbox
    have lV : V < wr.heap.size := World.block_lt_of_cell? _ _ v0
    have hfw := hI.few g1 n1
    have hend := hI.ownEnd hch
    have HEND := Lib.hid hend.2
    have hatn : at' ≤ n := hend.1
    have hst : c.st < 100000 := by omega
    have hid : c.id < 100000 := by omega
    clear hI hC hE hfr hch hend
    by_cases hlt : i < picks.length
    · have hlt1 : (i : Int) < picks.length := by omega
      have hi0 : (0 : Int) ≤ i := by omega
      obtain ⟨bp, op, rfl, hcp⟩ := Rd.picks (HX.out.ext HE.out) (by omega)
      obtain ⟨z0, z1⟩ := hcp i hlt
      have hok := HX.out.okAt i hlt
      obtain ⟨⟨p, q⟩, hpq⟩ : ∃ x, picks.getD i (0, 0) = x := ⟨_, rfl⟩
      rw [hpq] at z0 z1
      simp only at z0 z1
      have hpq2 : in64 p ∧ in64 q := by have e0 : picks.getD i kPk.d = (p, q) := hpq; rw [e0] at hok; exact hok
      have HPQ := Lib.hid hpq2
      have lbp : bp < wr.heap.size := World.block_lt_of_cell? _ _ z0
      clear hcp hok hpq hpq2
      obtain ⟨⟨c', ev'⟩, hr⟩ : ∃ r, stepP g 1 c p q = r := ⟨_, rfl⟩
      have HR := Lib.hid hr
      have hown := HI.out.own g1 HCH.out p q
      rw [hr] at hown
      have HOWN := Lib.hid hown
      obtain ⟨done1, G1, hI1⟩ := HI.out.stepD g1 m1 p q
      rw [hr] at hI1
      have HI1 := Lib.hid hI1
      have hfw1 := hI1.few g1 n1
      have hstp := stepP_st g 1 c p q
      rw [hr] at hstp
      simp only at hstp hfw1
      have HST := Lib.hid hstp
      have hwk : c.D.length = 1 := CrI.wk HI.out
      obtain ⟨L, hL⟩ : ∃ L, (held c.D).length = L := ⟨_, rfl⟩
      have hLD : L = (c.D.getD 0 []).length := by rw [← hL, held_one hwk]
      have hLt : L ≤ 80 := by have := (CrI.fresh HI.out).2.2.2; omega
      have HL := Lib.hid hL
      have HLD := Lib.hid hLD
      obtain ⟨hsd, hdd⟩ := HC.out.deq
      have HDD := Lib.hid (show Hds (fun _ => False) wr e0 0 1 hsd c.D from ⟨hdd.1, fun j hj => ⟨(hdd.2 j hj).1, (hdd.2 j hj).2.1, (hdd.2 j hj).2.2.mono (fun _ _ hf => hf.elim)⟩⟩)
      clear hr hown hI1 hstp hwk hL hLD hdd
      go_wp2_with fail
      refine (cheld_any A B e0 0 a b 1 g 1 c hsd _ HDD.out m2 (by rw [HL.out]; omega)).mono ?_
      rw [HL.out]
      rintro ed w0 ⟨rfl, hE0⟩
      have hz0 := hE0.size
      have v0 := hE0.cell v0
      have v1 := hE0.cell v1
      have v2 := hE0.cell v2
      have v3 := hE0.cell v3
      have v4 := hE0.cell v4
      have v5 := hE0.cell v5
      have v6 := hE0.cell v6
      have z0 := hE0.cell z0
      have z1 := hE0.cell z1
      have HB := Lib.hid (HB.out.ext hE0)
      have HC := Lib.hid (HC.out.ext hE0)
      have HE := Lib.hid (HE.out.trans hE0)
      have HF : Hid (∀ o, w0.frozen? ⟨V, o, none⟩ = false) := Lib.hid (fun o => (Below.frozen hE0 (p := ⟨V, o, none⟩) lV).trans (HF.out o))
      have lV : V < w0.heap.size := by omega
      have lbp : bp < w0.heap.size := by omega
      clear hE0 hz0 HDD
      obtain ⟨wr, rfl⟩ : ∃ wr, w0 = wr := ⟨_, rfl⟩
      have HCA : Hid (CrewAt w0 1 c A B e0 0 a b) := Lib.hid (HC.out.at_ m1)
      go_upto_region 14 with fail
      go_cut [12, 13, 14] (fun x ev f wx => StepCut w0 V g 1 c' ev' x ev f wx)
      case first =>
        have KS : Hid (∀ w', Ext w0 w' → w'.cell? ⟨V, 0, none⟩ = some (.slice A c.ts.length a) ∧ w'.cell? ⟨V, 1, none⟩ = some (.int .i64 g) ∧ w'.cell? ⟨V, 2, none⟩ = some (.slice B c.dn.length b) ∧ w'.cell? ⟨V, 3, none⟩ = some (.slice (some ⟨e0, 0, none⟩) 1 1) ∧ w'.cell? ⟨V, 4, none⟩ = some (.bool c.over) ∧ w'.cell? ⟨V, 5, none⟩ = some (.int .i64 c.st) ∧ w'.cell? ⟨V, 6, none⟩ = some (.int .i64 c.id) ∧ w'.cell? ⟨bp, op + i * 2, none⟩ = some (.int .i64 p) ∧ w'.cell? ⟨bp, op + i * 2 + 1, none⟩ = some (.int .i64 q)) := Lib.hid fun w' hE => ⟨hE.cell v0, hE.cell v1, hE.cell v2, hE.cell v3, hE.cell v4, hE.cell v5, hE.cell v6, hE.cell z0, hE.cell z1⟩
        go_region_held3 (fun w' => w'.cell? ⟨V, 0, none⟩ = some (.slice A c.ts.length a) ∧ w'.cell? ⟨V, 1, none⟩ = some (.int .i64 g) ∧ w'.cell? ⟨V, 2, none⟩ = some (.slice B c.dn.length b) ∧ w'.cell? ⟨V, 3, none⟩ = some (.slice (some ⟨e0, 0, none⟩) 1 1) ∧ w'.cell? ⟨V, 4, none⟩ = some (.bool c.over) ∧ w'.cell? ⟨V, 5, none⟩ = some (.int .i64 c.st) ∧ w'.cell? ⟨V, 6, none⟩ = some (.int .i64 c.id) ∧ w'.cell? ⟨bp, op + i * 2, none⟩ = some (.int .i64 p) ∧ w'.cell? ⟨bp, op + i * 2 + 1, none⟩ = some (.int .i64 q))
          (first | go_keep | exact KS.out _ (by repeat (first | (with_reducible exact Ext.refl _) | (with_reducible exact hX4) | (with_reducible refine Ext.drew ?_) | (with_reducible refine Ext.alloc ?_ _) | (with_reducible refine Ext.setCell ?_ (by first | (simp; done) | (simp; omega)) _))))
          (first
            | (go_at_call 8
               refine (cstep_to A B e0 0 a b 1 g n 1 _ _ _ _ _ _ _ _ _ _ _ _ _ _ _ c c' done G p q _ (HCA.out.ext (by repeat (first | (with_reducible exact Ext.refl _) | (with_reducible exact hX4) | (with_reducible refine Ext.drew ?_) | (with_reducible refine Ext.alloc ?_ _) | (with_reducible refine Ext.setCell ?_ (by first | (simp; done) | (simp; omega)) _)))) (Nat.le_refl _) HI.out n1 (by omega) g1 (by omega) m1 m2 hst hid HPQ.out.1 HPQ.out.2 rfl rfl rfl rfl rfl rfl HR.out rfl rfl rfl rfl rfl).mono ?_
               rintro ed w4 ⟨A', B', e0', a', b', rfl, hC4, hE4⟩
               obtain ⟨S4, hV4, hS4, hC6⟩ : ∃ S4 : Nat → Prop, (∀ b, b = V → S4 b) ∧ (∀ b, b < _ → S4 b) ∧ CrewO S4 w4 1 c' A' B' e0' 0 a' b' := ⟨_, fun b h => by rw [h]; first | (simp; omega) | omega, fun b h1 => h1, hC4⟩
               have hX4 : Ext w0 w4 := Ext.trans (by repeat (first | (with_reducible exact Ext.refl _) | (with_reducible exact hX4) | (with_reducible refine Ext.drew ?_) | (with_reducible refine Ext.alloc ?_ _) | (with_reducible refine Ext.setCell ?_ (by first | (simp; done) | (simp; omega)) _))) hE4
               have hz4 := hE4.size
               simp at hz4
               have lz4 : w0.heap.size ≤ w4.heap.size := by omega
               try (have yc00 : w4.cell? ⟨w0.heap.size, 0, none⟩ = some (.slice none 0 0) := hE4.cell (by first | (go_simp; done) | fail)
                    have yc01 : w4.cell? ⟨w0.heap.size, 1, none⟩ = some (.int .i64 0) := hE4.cell (by first | (go_simp; done) | fail)
                    have yc02 : w4.cell? ⟨w0.heap.size, 2, none⟩ = some (.slice none 0 0) := hE4.cell (by first | (go_simp; done) | fail)
                    have yc03 : w4.cell? ⟨w0.heap.size, 3, none⟩ = some (.slice none 0 0) := hE4.cell (by first | (go_simp; done) | fail)
                    have yc04 : w4.cell? ⟨w0.heap.size, 4, none⟩ = some (.bool false) := hE4.cell (by first | (go_simp; done) | fail)
                    have yc05 : w4.cell? ⟨w0.heap.size, 5, none⟩ = some (.int .i64 0) := hE4.cell (by first | (go_simp; done) | fail)
                    have yc06 : w4.cell? ⟨w0.heap.size, 6, none⟩ = some (.int .i64 0) := hE4.cell (by first | (go_simp; done) | fail)
                    have yc0f : ∀ o, w4.frozen? ⟨w0.heap.size, o, none⟩ = false := fun o => (Below.frozen hE4 (p := ⟨w0.heap.size, o, none⟩) (by first | (simp; done) | (simp; omega) | fail)).trans (by first | (go_simp; done) | fail)
                    have yc0l : w0.heap.size < w4.heap.size := by omega)
               try (have ye03 : w4.cell? ⟨w0.heap.size, 3, none⟩ = some (.bool false) := hE4.cell (by first | (go_simp; done) | fail)
                    have ye00 : w4.cell? ⟨w0.heap.size, 0, none⟩ = some (.int .i64 0) := hE4.cell (by first | (go_simp; done) | fail)
                    have ye01 : w4.cell? ⟨w0.heap.size, 1, none⟩ = some (.int .i64 0) := hE4.cell (by first | (go_simp; done) | fail)
                    have ye02 : w4.cell? ⟨w0.heap.size, 2, none⟩ = some (.int .i64 0) := hE4.cell (by first | (go_simp; done) | fail)
                    have ye0f : ∀ o, w4.frozen? ⟨w0.heap.size, o, none⟩ = false := fun o => (Below.frozen hE4 (p := ⟨w0.heap.size, o, none⟩) (by first | (simp; done) | (simp; omega) | fail)).trans (by first | (go_simp; done) | fail)
                    have ye0l : w0.heap.size < w4.heap.size := by omega)
               try (have yc10 : w4.cell? ⟨w0.heap.size + 1, 0, none⟩ = some (.slice none 0 0) := hE4.cell (by first | (go_simp; done) | fail)
                    have yc11 : w4.cell? ⟨w0.heap.size + 1, 1, none⟩ = some (.int .i64 0) := hE4.cell (by first | (go_simp; done) | fail)
                    have yc12 : w4.cell? ⟨w0.heap.size + 1, 2, none⟩ = some (.slice none 0 0) := hE4.cell (by first | (go_simp; done) | fail)
                    have yc13 : w4.cell? ⟨w0.heap.size + 1, 3, none⟩ = some (.slice none 0 0) := hE4.cell (by first | (go_simp; done) | fail)
                    have yc14 : w4.cell? ⟨w0.heap.size + 1, 4, none⟩ = some (.bool false) := hE4.cell (by first | (go_simp; done) | fail)
                    have yc15 : w4.cell? ⟨w0.heap.size + 1, 5, none⟩ = some (.int .i64 0) := hE4.cell (by first | (go_simp; done) | fail)
                    have yc16 : w4.cell? ⟨w0.heap.size + 1, 6, none⟩ = some (.int .i64 0) := hE4.cell (by first | (go_simp; done) | fail)
                    have yc1f : ∀ o, w4.frozen? ⟨w0.heap.size + 1, o, none⟩ = false := fun o => (Below.frozen hE4 (p := ⟨w0.heap.size + 1, o, none⟩) (by first | (simp; done) | (simp; omega) | fail)).trans (by first | (go_simp; done) | fail)
                    have yc1l : w0.heap.size + 1 < w4.heap.size := by omega)
               try (have ye13 : w4.cell? ⟨w0.heap.size + 1, 3, none⟩ = some (.bool false) := hE4.cell (by first | (go_simp; done) | fail)
                    have ye10 : w4.cell? ⟨w0.heap.size + 1, 0, none⟩ = some (.int .i64 0) := hE4.cell (by first | (go_simp; done) | fail)
                    have ye11 : w4.cell? ⟨w0.heap.size + 1, 1, none⟩ = some (.int .i64 0) := hE4.cell (by first | (go_simp; done) | fail)
                    have ye12 : w4.cell? ⟨w0.heap.size + 1, 2, none⟩ = some (.int .i64 0) := hE4.cell (by first | (go_simp; done) | fail)
                    have ye1f : ∀ o, w4.frozen? ⟨w0.heap.size + 1, o, none⟩ = false := fun o => (Below.frozen hE4 (p := ⟨w0.heap.size + 1, o, none⟩) (by first | (simp; done) | (simp; omega) | fail)).trans (by first | (go_simp; done) | fail)
                    have ye1l : w0.heap.size + 1 < w4.heap.size := by omega)
              ))
        all_goals
          go_wp2_with fail
          go_meet
          refine ⟨_, _, A', B', e0', a', b', rfl, rfl, rfl, ⟨by go_simp, by go_simp, by go_simp, by go_simp, by go_simp, by go_simp, by go_simp, by go_simp, by go_simp, by go_simp, by go_simp⟩, ?_, (by first | (simp; done) | (simp; omega) | omega), (by first | (simp; done) | (simp; omega) | omega), (by repeat (first | (with_reducible exact Ext.refl _) | (with_reducible exact hX4) | (with_reducible refine Ext.drew ?_) | (with_reducible refine Ext.alloc ?_ _) | (with_reducible refine Ext.setCell ?_ (by first | (simp; done) | (simp; omega)) _)))⟩
          refine CrewO.mono (S := S4) ?_ m1 (fun b hb h => hV4 b h)
          repeat (first | (with_reducible exact hC6) | (with_reducible refine CrewO.setCell ?_ (hS4 _ (by first | (simp; done) | (simp; omega) | omega)) _) | (with_reducible refine CrewO.ext ?_ ((Ext.refl _).alloc _)) | (with_reducible refine CrewO.ext ?_ (Ext.refl _).drew))
      case rest =>
      obtain ⟨X, Y, A', B', e0', a', b', rfl, rfl, rfl, hB', hC', hXl, hYl, hX⟩ := hcut
      obtain ⟨k0, k1, k2, k3, k4, k5, k6, j0, j1, j2, j3⟩ := hB'
      have t0 := hX.cell v0
      have t1 := hX.cell v1
      have t2 := hX.cell v2
      have t3 := hX.cell v3
      have t4 := hX.cell v4
      have t5 := hX.cell v5
      have t6 := hX.cell v6
      have tf : ∀ o, wc.frozen? ⟨V, o, none⟩ = false := fun o => (Below.frozen hX (p := ⟨V, o, none⟩) lV).trans (HF.out o)
      have hzc := hX.size
      have lVc : V < wc.heap.size := by omega
      have lXc : X < wc.heap.size := World.block_lt_of_cell? _ _ k0
      have nXV : ¬ X = V := by omega
      have nVX : ¬ V = X := by omega
      have HC2 := Lib.hid hC'
      have HE2 := Lib.hid (HE.out.trans hX)
      clear v0 v1 v2 v3 v4 v5 v6 z0 z1 hC' hX lV hzc
      rcases HOWN.out with ⟨hD0, rfl, hch'⟩ | ⟨k, hD0, rfl, hch'⟩ | ⟨k, hD0, rfl, hkl, hlo, hch'⟩
      · have HCH2 := Lib.hid hch'
        have hL0 : L = 0 := by rw [HLD.out, hD0]; rfl
        subst hL0
        clear hch' hD0
        go_wp2_with fail
        go_roundw
        case rel => exact ⟨i + 1, c', at', A', B', e0', a', b', by omega, rfl, by go_num, ⟨_, _, HI1.out⟩, HCH2.out, (CBox.set t0 t1 t2 t3 t4 t5 t6), fun o => by first | (rw [World.frozen?_setCell, World.frozen?_setCell, World.frozen?_setCell, World.frozen?_setCell, World.frozen?_setCell, World.frozen?_setCell, World.frozen?_setCell]; exact tf o) | (have := tf o; go_simp), (HC2.out.set7 rfl (.slice A' c'.ts.length a') (.int .i64 g) (.slice B' c'.dn.length b') (.slice (some ⟨e0', 0, none⟩) 1 1) (.bool c'.over) (.int .i64 c'.st) (.int .i64 c'.id)), (HE2.out.set7 hlt0 (.slice A' c'.ts.length a') (.int .i64 g) (.slice B' c'.dn.length b') (.slice (some ⟨e0', 0, none⟩) 1 1) (.bool c'.over) (.int .i64 c'.st) (.int .i64 c'.id)), hlt0, by have := HST.out; omega, by have := HST.out; omega, hlo0⟩
        case measure => simp [intOf]; omega
      · have HCH2 := Lib.hid hch'
        have hL1 : (0 : Int) < L := by have := List.length_pos_iff.2 hD0; rw [← HLD.out] at this; omega
        have hL2 : ((L : Int) == 0) = false := by rw [beq_eq_false_iff_ne]; omega
        have hL3 : 0 < L := by omega
        have hL5 : decide ((0 : Int) < (L : Int)) = true := decide_eq_true hL1
        have hL6 : ¬ L = 0 := by omega
        have hk0 : (0 : Int) ≤ k := by omega
        have hk1 : ¬ (k : Int) < 0 := by omega
        clear hch' hD0
        go_wp2_with fail
        go_roundw
        case rel => exact ⟨i + 1, c', at', A', B', e0', a', b', by omega, rfl, by go_num, ⟨_, _, HI1.out⟩, HCH2.out, (CBox.set t0 t1 t2 t3 t4 t5 t6), fun o => by first | (rw [World.frozen?_setCell, World.frozen?_setCell, World.frozen?_setCell, World.frozen?_setCell, World.frozen?_setCell, World.frozen?_setCell, World.frozen?_setCell]; exact tf o) | (have := tf o; go_simp), (HC2.out.set7 rfl (.slice A' c'.ts.length a') (.int .i64 g) (.slice B' c'.dn.length b') (.slice (some ⟨e0', 0, none⟩) 1 1) (.bool c'.over) (.int .i64 c'.st) (.int .i64 c'.id)), (HE2.out.set7 hlt0 (.slice A' c'.ts.length a') (.int .i64 g) (.slice B' c'.dn.length b') (.slice (some ⟨e0', 0, none⟩) 1 1) (.bool c'.over) (.int .i64 c'.st) (.int .i64 c'.id)), hlt0, by have := HST.out; omega, by have := HST.out; omega, hlo0⟩
        case measure => simp [intOf]; omega
      · have HCH2 := Lib.hid hch'
        have hL1 : (0 : Int) < L := by have := List.length_pos_iff.2 hD0; rw [← HLD.out] at this; omega
        have hL2 : ((L : Int) == 0) = false := by rw [beq_eq_false_iff_ne]; omega
        have hL3 : 0 < L := by omega
        have hL5 : decide ((0 : Int) < (L : Int)) = true := decide_eq_true hL1
        have hL6 : ¬ L = 0 := by omega
        have hk0 : (0 : Int) ≤ k := by omega
        have hk1 : ¬ (k : Int) < 0 := by omega
        obtain ⟨ta, to', rfl, hct⟩ := Rd.tasks HC2.out.tsk.rd (by omega)
        obtain ⟨q0, q1, q2, q3⟩ := hct k hkl
        obtain ⟨⟨lo, hi', up, wt⟩, ht⟩ : ∃ t, c'.ts.getD k ⟨0, 0, 0, 0⟩ = t := ⟨_, rfl⟩
        have htT : T c'.ts k = ⟨lo, hi', up, wt⟩ := ht
        rw [ht] at q0 q1 q2 q3
        simp only at q0 q1 q2 q3
        rw [htT] at hlo
        simp only at hlo
        have hlh := (CrI.inv HI1.out).task k hkl
        rw [htT] at hlh
        simp only at hlh
        subst hlo
        have hch2 := HCH2.out
        rw [htT] at hch2
        simp only at hch2
        have HCH2 := Lib.hid hch2
        have hkl1 : (k : Int) < c'.ts.length := by omega
        have hmin : (k : Int) ≤ (c'.ts.length : Int) - 1 := by omega
        have hN1 : (1 : Int) ≤ c'.ts.length := by omega
        have hN2 : (c'.ts.length : Int) ≤ 80 := by omega
        have hhi0 : 0 ≤ hi' := by omega
        have lta : ta < wc.heap.size := World.block_lt_of_cell? _ _ q0
        clear hch2 hch' hD0 hct ht htT hlh
        rcases Int.lt_or_le (k : Int) ((c'.ts.length : Int) - 1) with hm | hm
        all_goals go_wp2_with fail
        all_goals go_roundw
        all_goals first | (exact ⟨i + 1, c', hi', (some ⟨ta, to', none⟩), B', e0', a', b', by omega, rfl, by go_num, ⟨_, _, HI1.out⟩, HCH2.out, (CBox.set t0 t1 t2 t3 t4 t5 t6).ext ((Ext.refl _).alloc _), fun o => by first | (rw [World.frozen?_setCell, World.frozen?_setCell, World.frozen?_setCell, World.frozen?_setCell, World.frozen?_setCell, World.frozen?_setCell, World.frozen?_setCell]; exact tf o) | (have := tf o; go_simp), (HC2.out.set7 rfl (.slice (some ⟨ta, to', none⟩) c'.ts.length a') (.int .i64 g) (.slice B' c'.dn.length b') (.slice (some ⟨e0', 0, none⟩) 1 1) (.bool c'.over) (.int .i64 c'.st) (.int .i64 c'.id)).ext ((Ext.refl _).alloc _), (HE2.out.set7 hlt0 (.slice (some ⟨ta, to', none⟩) c'.ts.length a') (.int .i64 g) (.slice B' c'.dn.length b') (.slice (some ⟨e0', 0, none⟩) 1 1) (.bool c'.over) (.int .i64 c'.st) (.int .i64 c'.id)).alloc _, hlt0, by have := HST.out; omega, by have := HST.out; omega, hhi0⟩) | (simp [intOf]; omega)
    · obtain rfl : i = picks.length := by omega
      cases hov : c.over with
      | true =>
        rw [hov] at v4
        have hat : at' = (n : Int) := HEND.out.1 hov
        subst hat
        clear hov
        go_wp2_with fail
        go_ret
        exact ⟨by first | rfl | exact ret_bool (by simp), HE.out⟩
      | false =>
        rw [hov] at v4
        have hat : ¬ at' = (n : Int) := fun e => by have := HEND.out.2 e; rw [hov] at this; cases this
        have hat2 : (at' == (n : Int)) = false := beq_eq_false_iff_ne.2 hat
        clear hov
        go_wp2_with fail
        go_ret
        exact ⟨by first | rfl | exact ret_bool (by simp [hat]) | exact ret_bool (by rw [hat2]; rfl), HE.out⟩
theorem cown_any (xa xb xc : Int) (picks : List (Int × Int)) (Ap : Option Addr) (cp : Nat) (W : World) (h : Rd kPk W (.slice Ap picks.length cp) picks) (ba : 0 ≤ xa ∧ xa ≤ 255) (bb : 0 ≤ xb ∧ xb ≤ 255) (bc : 0 ≤ xc ∧ xc ≤ 255) :
    Calls Try.prog 5 #[.agg #[.int .u8 xa, .int .u8 xb, .int .u8 xc], .slice Ap picks.length cp] W fun e w' => e = .returned (.bool true) ∧ Ext W w' := by
  by_cases hl : picks.length ≤ 200
  · exact cown_walk xa xb xc picks Ap cp W h ba bb bc hl
  · exact cown_great xa xb xc picks Ap cp W h (by omega)
end Go.Proofs.Ytebbpkdhdilkcaa
