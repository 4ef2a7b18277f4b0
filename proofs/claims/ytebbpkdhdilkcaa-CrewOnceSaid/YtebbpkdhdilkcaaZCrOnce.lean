import Derived.Test.YtebbpkdhdilkcaaJ7
import Derived.Test.YtebbpkdhdilkcaaZCrOwn
import Derived.Test.YtebbpkdhdilkcaaZCrTk
import Derived.Test.YtebbpkdhdilkcaaZTSame
import Derived.Deep.DeepCutAuto
import Derived.Deep.RegionHeld3
import Derived.Deep.QuietTactic
import Derived.IntWalk
/- The walk of CrewOnce. Written by wip/mk_crlaw.py. -/
namespace Go.Proofs.Ytebbpkdhdilkcaa
open Go.BigFrame
open Go.RowKit Go.Proofs.Ytebbpkdhdilkcaa.Plain

/-- what stands, round by round -/
structure COnceAt (w0 : World) (V g n m i : Nat) (c : Cw) (done : Nat) (parted : Nat) (A B : Option Addr) (e0 a b : Nat) (wr : World) : Prop where
  inv : ∃ G, CwI g n m c done G
  box : CBox wr V A B e0 a b g m c
  frz : ∀ o, wr.frozen? ⟨V, o, none⟩ = false
  mem : CrewO (fun b => b = V) wr m c A B e0 0 a b
  ext : Ext w0 wr
  lt : w0.heap.size ≤ V
  st : c.st = i
  id : c.id ≤ i
  cnt : c.ts.length = 1 + 2 * parted
theorem CBox.setV {w : World} {V : Nat} {A B : Option Addr} {e0 a b g m : Nat} {c : Cw} {ov : Bool} (hov : c.over = ov) {p0 p1 p2 p3 p4 p5 p6 : Value} (r0 : w.cell? ⟨V, 0, none⟩ = some p0) (r1 : w.cell? ⟨V, 1, none⟩ = some p1) (r2 : w.cell? ⟨V, 2, none⟩ = some p2) (r3 : w.cell? ⟨V, 3, none⟩ = some p3) (r4 : w.cell? ⟨V, 4, none⟩ = some p4) (r5 : w.cell? ⟨V, 5, none⟩ = some p5) (r6 : w.cell? ⟨V, 6, none⟩ = some p6) :
    CBox (((((((w.setCell ⟨V, 0, none⟩ (.slice A c.ts.length a)).setCell ⟨V, 1, none⟩ (.int .i64 g)).setCell ⟨V, 2, none⟩ (.slice B c.dn.length b)).setCell ⟨V, 3, none⟩ (.slice (some ⟨e0, 0, none⟩) m m)).setCell ⟨V, 4, none⟩ (.bool ov)).setCell ⟨V, 5, none⟩ (.int .i64 c.st)).setCell ⟨V, 6, none⟩ (.int .i64 c.id)) V A B e0 a b g m c := by
  subst hov; exact CBox.set r0 r1 r2 r3 r4 r5 r6
theorem doneN_take (dn : List Bool) (j : Nat) (hj : j < dn.length) : doneN (dn.take (j + 1)) = doneN (dn.take j) + if dn.getD j false = true then 1 else 0 := by
  unfold doneN
  rw [List.take_succ_eq_append_getElem hj, List.countP_append, List.getD_eq_getElem?_getD, List.getElem?_eq_getElem hj]
  simp [List.countP_cons]
theorem workB_self (g : Int) (ts : List Tk) (dn : List Bool) : workB g g ts ts dn dn = true := by unfold workB; simp

set_option maxRecDepth 100000 in
theorem conce_great (xa xb xc : Int) (picks : List (Int × Int)) (Ap : Option Addr) (cp : Nat) (W : World) (h : Rd kPk W (.slice Ap picks.length cp) picks) (hb : 300 < picks.length) :
    Calls Try.prog 3 #[.agg #[.int .u8 xa, .int .u8 xb, .int .u8 xc], .slice Ap picks.length cp] W fun e w' => e = .returned (.bool true) ∧ Ext W w' := by
  have hm := h.len
  have hb2 : (300 : Int) < picks.length := by omega
  clear h
  go_enter Try.func3, Try.ntmps3
  go_wp2_with fail
  refine (calive_any _).mono ?_
  rintro e w1 ⟨rfl, hE⟩
  have E1 := Lib.hid (((Ext.refl W).alloc _).trans hE)
  clear hE
  go_wp2_with fail
  go_ret
  exact ⟨rfl, E1.out⟩
set_option maxHeartbeats 6400000 in
set_option maxRecDepth 100000 in
theorem conce_walk (xa xb xc : Int) (picks : List (Int × Int)) (Ap : Option Addr) (cp : Nat) (W : World) (h : Rd kPk W (.slice Ap picks.length cp) picks) (ba : 0 ≤ xa ∧ xa ≤ 255) (bb : 0 ≤ xb ∧ xb ≤ 255) (bc : 0 ≤ xc ∧ xc ≤ 255) (hl : picks.length ≤ 300) :
    Calls Try.prog 3 #[.agg #[.int .u8 xa, .int .u8 xb, .int .u8 xc], .slice Ap picks.length cp] W fun e w' => e = .returned (.bool true) ∧ Ext W w' := by
  have HX := Lib.hid h
  obtain ⟨ba1, ba2⟩ := ba
  obtain ⟨bb1, bb2⟩ := bb
  obtain ⟨bc1, bc2⟩ := bc
  have hl3 : ¬ (300 : Int) < picks.length := by omega
  have hpl : (picks.length : Int) ≤ 300 := by omega
  obtain ⟨n, hn⟩ : ∃ n : Nat, 1 + xa % 40 = (n : Int) := ⟨(1 + xa % 40).toNat, by omega⟩
  obtain ⟨g, hg⟩ : ∃ g : Nat, 1 + xb % 6 = (g : Int) := ⟨(1 + xb % 6).toNat, by omega⟩
  obtain ⟨m, hm⟩ : ∃ m : Nat, 1 + xc % 8 = (m : Int) := ⟨(1 + xc % 8).toNat, by omega⟩
  have n1 : 1 ≤ n := by omega
  have n2 : n ≤ 40 := by omega
  have g1 : 1 ≤ g := by omega
  have g2 : g ≤ 6 := by omega
  have n3 : (1 : Int) ≤ n := by omega
  have n4 : (n : Int) ≤ 40 := by omega
  have g3 : (1 : Int) ≤ g := by omega
  have g4 : (g : Int) ≤ 6 := by omega
  have m1 : 1 ≤ m := by omega
  have m2 : m ≤ 8 := by omega
  have m3 : (1 : Int) ≤ m := by omega
  have m4 : (m : Int) ≤ 8 := by omega
  clear h
  go_enter Try.func3, Try.ntmps3
  go_wp2_with fail
  refine (calive_any _).mono ?_
  rintro ed w1 ⟨rfl, hE⟩
  have k0 : w1.cell? ⟨W.heap.size, 0, none⟩ = some (.int .u8 xa) := hE.cell (by go_simp)
  have k1 : w1.cell? ⟨W.heap.size, 1, none⟩ = some (.int .u8 xb) := hE.cell (by go_simp)
  have k2 : w1.cell? ⟨W.heap.size, 2, none⟩ = some (.int .u8 xc) := hE.cell (by go_simp)
  have E1 := Lib.hid (((Ext.refl W).alloc _).trans hE)
  clear hE
  go_wp2_with fail
  go_quiet (fail)
  go_wp2_with fail
  refine (cbegin_to n g m n g m _ n1 (by omega) g1 (by omega) m1 m2 rfl rfl rfl).mono ?_
  rintro ed w2 ⟨A1, B1, e1, a1, b1, rfl, hC, hE⟩
  have E2 := Lib.hid ((E1.out.drewN _).trans hE)
  have C2 := Lib.hid hC
  clear hE hC k0 k1 k2 E1
  go_wp2_with fail
  obtain ⟨V, hVe⟩ : ∃ V, w2.heap.size = V := ⟨_, rfl⟩
  have hV0 : W.heap.size ≤ V := by have := E2.out.size; omega
  have HA0 : Hid (COnceAt W V g n m 0 (beginC n m) 0 0 A1 B1 e1 a1 b1 (w2.alloc (.cells #[.slice A1 1 a1, .int .i64 g, .slice B1 n b1, .slice (some ⟨e1, 0, none⟩) m m, .bool false, .int .i64 0, .int .i64 0] 31))) := Lib.hid (by
    subst hVe
    have hdn : (beginC n m).dn.length = n := by simp [beginC]
    refine ⟨⟨_, CwI.begin g n m n1 m1⟩, ?_, fun o => by go_simp, C2.out.later m1 ((Grew.refl _ _).alloc _) (fun x hx hT => by omega), E2.out.alloc _, hV0, rfl, Nat.le_refl _, rfl⟩
    refine ⟨by go_simp; rfl, by go_simp, by rw [hdn]; go_simp, by go_simp, by go_simp; rfl, by go_simp; rfl, by go_simp; rfl⟩)
  generalize hw2 : w2.alloc (.cells #[.slice A1 1 a1, .int .i64 g, .slice B1 n b1, .slice (some ⟨e1, 0, none⟩) m m, .bool false, .int .i64 0, .int .i64 0] 31) = w3 at *
  rw [hVe]
  clear hw2 C2 E2
  go_loopw [9, 10, 11, 12] (fun u9 u10 u11 u12 wr => ∃ (i : Nat) (c : Cw) (done parted : Nat) (A B : Option Addr) (e0 a b : Nat), i ≤ picks.length ∧ u9 = .int .i64 done ∧ u10 = .int .i64 parted ∧ u11 = .int .i64 c.id ∧ u12 = .int .i64 i ∧ COnceAt W V g n m i c done parted A B e0 a b wr) (fun _ _ _ i _ => picks.length - (intOf i).toNat)
  case atStart => exact ⟨0, _, 0, 0, A1, B1, e1, a1, b1, Nat.zero_le _, rfl, rfl, rfl, rfl, HA0.out⟩
  case round =>
    clear HA0
    obtain ⟨i, c, done, parted, A, B, e0, a, b, hi, rfl, rfl, rfl, rfl, hAt⟩ := hrel
    obtain ⟨⟨G, hI⟩, hbox, hfr, hC, hE, hlt0, hst0, hid0, hcnt⟩ := hAt
    have HI := Lib.hid hI
    have HB := Lib.hid hbox
    have HC := Lib.hid hC
    have HCA : Hid (CrewAt wr m c A B e0 0 a b) := Lib.hid (hC.at_ m1)
    have HE := Lib.hid hE
    have HF := Lib.hid hfr
    have HCNT := Lib.hid hcnt
    have HST0 := Lib.hid hst0
    have HDL : Hid (c.dn.length = n) := Lib.hid (CrI.inv hI).dl
    obtain ⟨v0, v1, v2, v3, v4, v5, v6⟩ := hbox
    have lV : V < wr.heap.size := World.block_lt_of_cell? _ _ v0
    have hfw := hI.few g1 n1
    have hst : c.st < 100000 := by omega
    have hid : c.id < 100000 := by omega
    have hdone : done ≤ n := by have := (CrI.inv hI).uns; omega
    have hdone1 : (done : Int) ≤ 40 := by omega
    have hid1 : (c.id : Int) ≤ 300 := by omega
    have hst1 : (c.st : Int) ≤ 300 := by omega
    have hpar : (parted : Int) ≤ 40 := by omega
    have hts : (c.ts.length : Int) ≤ 80 := by omega
    clear hI hC hE hfr hcnt hst0
    by_cases hlt : i < picks.length
    · have hlt1 : (i : Int) < picks.length := by omega
      have hi0 : (0 : Int) ≤ i := by omega
      obtain ⟨bp, op, rfl, hcp⟩ := Rd.picks (HX.out.ext HE.out) (by omega)
      obtain ⟨z0, z1⟩ := hcp i hlt
      have hok := HX.out.okAt i hlt
      obtain ⟨⟨p, q⟩, hpq⟩ : ∃ x, picks.getD i (0, 0) = x := ⟨_, rfl⟩
      rw [hpq] at z0 z1
      simp only at z0 z1
      have hpq2 : in64 p ∧ in64 q := by have e0 : picks.getD i kPk.d = (p, q) := hpq; rw [e0] at hok; exact hok
      have HPQ := Lib.hid hpq2
      have lbp : bp < wr.heap.size := World.block_lt_of_cell? _ _ z0
      clear hcp hok hpq hpq2
      obtain ⟨⟨c', ev'⟩, hr⟩ : ∃ r, stepP g m c p q = r := ⟨_, rfl⟩
      have HR := Lib.hid hr
      have hstep := HI.out.step g1 m1 p q
      rw [hr] at hstep
      simp only [Prod.mk.injEq] at hstep
      have HSTEP := Lib.hid hstep
      have hstp := stepP_st g m c p q
      rw [hr] at hstp
      simp only at hstp
      have HST := Lib.hid hstp
      obtain ⟨done1, G1, hI1⟩ := HI.out.stepD g1 m1 p q
      rw [hr] at hI1
      have HI1 := Lib.hid hI1
      have hfw1 := hI1.few g1 n1
      simp only at hfw1
      have hL80 : (held c'.D).length ≤ 80 := by have := (CrI.fresh hI1).2.2.2; simp only at this; omega
      have HL80 := Lib.hid hL80
      clear hr hstep hI1 hstp hL80
      go_upto_region 13 with fail
      go_cut [13, 14, 15] (fun x ev f wx => StepCut wr V g m c' ev' x ev f wx)
      case first =>
        have KS : Hid (∀ w', Ext wr w' → w'.cell? ⟨V, 0, none⟩ = some (.slice A c.ts.length a) ∧ w'.cell? ⟨V, 1, none⟩ = some (.int .i64 g) ∧ w'.cell? ⟨V, 2, none⟩ = some (.slice B c.dn.length b) ∧ w'.cell? ⟨V, 3, none⟩ = some (.slice (some ⟨e0, 0, none⟩) m m) ∧ w'.cell? ⟨V, 4, none⟩ = some (.bool c.over) ∧ w'.cell? ⟨V, 5, none⟩ = some (.int .i64 c.st) ∧ w'.cell? ⟨V, 6, none⟩ = some (.int .i64 c.id) ∧ w'.cell? ⟨bp, op + i * 2, none⟩ = some (.int .i64 p) ∧ w'.cell? ⟨bp, op + i * 2 + 1, none⟩ = some (.int .i64 q)) := Lib.hid fun w' hE => ⟨hE.cell v0, hE.cell v1, hE.cell v2, hE.cell v3, hE.cell v4, hE.cell v5, hE.cell v6, hE.cell z0, hE.cell z1⟩
        go_region_held3 (fun w' => w'.cell? ⟨V, 0, none⟩ = some (.slice A c.ts.length a) ∧ w'.cell? ⟨V, 1, none⟩ = some (.int .i64 g) ∧ w'.cell? ⟨V, 2, none⟩ = some (.slice B c.dn.length b) ∧ w'.cell? ⟨V, 3, none⟩ = some (.slice (some ⟨e0, 0, none⟩) m m) ∧ w'.cell? ⟨V, 4, none⟩ = some (.bool c.over) ∧ w'.cell? ⟨V, 5, none⟩ = some (.int .i64 c.st) ∧ w'.cell? ⟨V, 6, none⟩ = some (.int .i64 c.id) ∧ w'.cell? ⟨bp, op + i * 2, none⟩ = some (.int .i64 p) ∧ w'.cell? ⟨bp, op + i * 2 + 1, none⟩ = some (.int .i64 q))
          (first | go_keep | exact KS.out _ (by repeat (first | (with_reducible exact Ext.refl _) | (with_reducible exact hX4) | (with_reducible refine Ext.drew ?_) | (with_reducible refine Ext.alloc ?_ _) | (with_reducible refine Ext.setCell ?_ (by first | (simp; done) | (simp; omega)) _))))
          (first
            | (go_at_call 8
               refine (cstep_to A B e0 0 a b m g n m _ _ _ _ _ _ _ _ _ _ _ _ _ _ _ c c' done G p q _ (HCA.out.ext (by repeat (first | (with_reducible exact Ext.refl _) | (with_reducible exact hX4) | (with_reducible refine Ext.drew ?_) | (with_reducible refine Ext.alloc ?_ _) | (with_reducible refine Ext.setCell ?_ (by first | (simp; done) | (simp; omega)) _)))) (Nat.le_refl _) HI.out n1 (by omega) g1 (by omega) m1 m2 hst hid HPQ.out.1 HPQ.out.2 rfl rfl rfl rfl rfl rfl HR.out rfl rfl rfl rfl rfl).mono ?_
               rintro ed w4 ⟨A', B', e0', a', b', rfl, hC4, hE4⟩
               obtain ⟨S4, hV4, hS4, hC6⟩ : ∃ S4 : Nat → Prop, (∀ b, b = V → S4 b) ∧ (∀ b, b < _ → S4 b) ∧ CrewO S4 w4 m c' A' B' e0' 0 a' b' := ⟨_, fun b h => by rw [h]; first | (simp; omega) | omega, fun b h1 => h1, hC4⟩
               have hX4 : Ext wr w4 := Ext.trans (by repeat (first | (with_reducible exact Ext.refl _) | (with_reducible exact hX4) | (with_reducible refine Ext.drew ?_) | (with_reducible refine Ext.alloc ?_ _) | (with_reducible refine Ext.setCell ?_ (by first | (simp; done) | (simp; omega)) _))) hE4
               have hz4 := hE4.size
               simp at hz4
               have lz4 : wr.heap.size ≤ w4.heap.size := by omega
               try (have yc00 : w4.cell? ⟨wr.heap.size, 0, none⟩ = some (.slice none 0 0) := hE4.cell (by first | (go_simp; done) | fail)
                    have yc01 : w4.cell? ⟨wr.heap.size, 1, none⟩ = some (.int .i64 0) := hE4.cell (by first | (go_simp; done) | fail)
                    have yc02 : w4.cell? ⟨wr.heap.size, 2, none⟩ = some (.slice none 0 0) := hE4.cell (by first | (go_simp; done) | fail)
                    have yc03 : w4.cell? ⟨wr.heap.size, 3, none⟩ = some (.slice none 0 0) := hE4.cell (by first | (go_simp; done) | fail)
                    have yc04 : w4.cell? ⟨wr.heap.size, 4, none⟩ = some (.bool false) := hE4.cell (by first | (go_simp; done) | fail)
                    have yc05 : w4.cell? ⟨wr.heap.size, 5, none⟩ = some (.int .i64 0) := hE4.cell (by first | (go_simp; done) | fail)
                    have yc06 : w4.cell? ⟨wr.heap.size, 6, none⟩ = some (.int .i64 0) := hE4.cell (by first | (go_simp; done) | fail)
                    have yc0f : ∀ o, w4.frozen? ⟨wr.heap.size, o, none⟩ = false := fun o => (Below.frozen hE4 (p := ⟨wr.heap.size, o, none⟩) (by first | (simp; done) | (simp; omega) | fail)).trans (by first | (go_simp; done) | fail)
                    have yc0l : wr.heap.size < w4.heap.size := by omega)
               try (have ye03 : w4.cell? ⟨wr.heap.size, 3, none⟩ = some (.bool false) := hE4.cell (by first | (go_simp; done) | fail)
                    have ye00 : w4.cell? ⟨wr.heap.size, 0, none⟩ = some (.int .i64 0) := hE4.cell (by first | (go_simp; done) | fail)
                    have ye01 : w4.cell? ⟨wr.heap.size, 1, none⟩ = some (.int .i64 0) := hE4.cell (by first | (go_simp; done) | fail)
                    have ye02 : w4.cell? ⟨wr.heap.size, 2, none⟩ = some (.int .i64 0) := hE4.cell (by first | (go_simp; done) | fail)
                    have ye0f : ∀ o, w4.frozen? ⟨wr.heap.size, o, none⟩ = false := fun o => (Below.frozen hE4 (p := ⟨wr.heap.size, o, none⟩) (by first | (simp; done) | (simp; omega) | fail)).trans (by first | (go_simp; done) | fail)
                    have ye0l : wr.heap.size < w4.heap.size := by omega)
               try (have yc10 : w4.cell? ⟨wr.heap.size + 1, 0, none⟩ = some (.slice none 0 0) := hE4.cell (by first | (go_simp; done) | fail)
                    have yc11 : w4.cell? ⟨wr.heap.size + 1, 1, none⟩ = some (.int .i64 0) := hE4.cell (by first | (go_simp; done) | fail)
                    have yc12 : w4.cell? ⟨wr.heap.size + 1, 2, none⟩ = some (.slice none 0 0) := hE4.cell (by first | (go_simp; done) | fail)
                    have yc13 : w4.cell? ⟨wr.heap.size + 1, 3, none⟩ = some (.slice none 0 0) := hE4.cell (by first | (go_simp; done) | fail)
                    have yc14 : w4.cell? ⟨wr.heap.size + 1, 4, none⟩ = some (.bool false) := hE4.cell (by first | (go_simp; done) | fail)
                    have yc15 : w4.cell? ⟨wr.heap.size + 1, 5, none⟩ = some (.int .i64 0) := hE4.cell (by first | (go_simp; done) | fail)
                    have yc16 : w4.cell? ⟨wr.heap.size + 1, 6, none⟩ = some (.int .i64 0) := hE4.cell (by first | (go_simp; done) | fail)
                    have yc1f : ∀ o, w4.frozen? ⟨wr.heap.size + 1, o, none⟩ = false := fun o => (Below.frozen hE4 (p := ⟨wr.heap.size + 1, o, none⟩) (by first | (simp; done) | (simp; omega) | fail)).trans (by first | (go_simp; done) | fail)
                    have yc1l : wr.heap.size + 1 < w4.heap.size := by omega)
               try (have ye13 : w4.cell? ⟨wr.heap.size + 1, 3, none⟩ = some (.bool false) := hE4.cell (by first | (go_simp; done) | fail)
                    have ye10 : w4.cell? ⟨wr.heap.size + 1, 0, none⟩ = some (.int .i64 0) := hE4.cell (by first | (go_simp; done) | fail)
                    have ye11 : w4.cell? ⟨wr.heap.size + 1, 1, none⟩ = some (.int .i64 0) := hE4.cell (by first | (go_simp; done) | fail)
                    have ye12 : w4.cell? ⟨wr.heap.size + 1, 2, none⟩ = some (.int .i64 0) := hE4.cell (by first | (go_simp; done) | fail)
                    have ye1f : ∀ o, w4.frozen? ⟨wr.heap.size + 1, o, none⟩ = false := fun o => (Below.frozen hE4 (p := ⟨wr.heap.size + 1, o, none⟩) (by first | (simp; done) | (simp; omega) | fail)).trans (by first | (go_simp; done) | fail)
                    have ye1l : wr.heap.size + 1 < w4.heap.size := by omega)
              ))
        all_goals
          go_wp2_with fail
          go_meet
          refine ⟨_, _, A', B', e0', a', b', rfl, rfl, rfl, ⟨by go_simp, by go_simp, by go_simp, by go_simp, by go_simp, by go_simp, by go_simp, by go_simp, by go_simp, by go_simp, by go_simp⟩, ?_, (by first | (simp; done) | (simp; omega) | omega), (by first | (simp; done) | (simp; omega) | omega), (by repeat (first | (with_reducible exact Ext.refl _) | (with_reducible exact hX4) | (with_reducible refine Ext.drew ?_) | (with_reducible refine Ext.alloc ?_ _) | (with_reducible refine Ext.setCell ?_ (by first | (simp; done) | (simp; omega)) _)))⟩
          refine CrewO.mono (S := S4) ?_ m1 (fun b hb h => hV4 b h)
          repeat (first | (with_reducible exact hC6) | (with_reducible refine CrewO.setCell ?_ (hS4 _ (by first | (simp; done) | (simp; omega) | omega)) _) | (with_reducible refine CrewO.ext ?_ ((Ext.refl _).alloc _)) | (with_reducible refine CrewO.ext ?_ (Ext.refl _).drew))
      case rest =>
      obtain ⟨X, Y, A', B', e0', a', b', rfl, rfl, rfl, hB', hC', hXl, hYl, hX⟩ := hcut
      have HB2 := Lib.hid hB'
      obtain ⟨k0, k1, k2, k3, k4, k5, k6, j0, j1, j2, j3⟩ := hB'
      have t0 := hX.cell v0
      have t1 := hX.cell v1
      have t2 := hX.cell v2
      have t3 := hX.cell v3
      have t4 := hX.cell v4
      have t5 := hX.cell v5
      have t6 := hX.cell v6
      have TF : Hid (∀ o, wc.frozen? ⟨V, o, none⟩ = false) := Lib.hid fun o => (Below.frozen hX (p := ⟨V, o, none⟩) lV).trans (HF.out o)
      have hzc := hX.size
      have lVc : V < wc.heap.size := by omega
      have lXc : X < wc.heap.size := World.block_lt_of_cell? _ _ k0
      have nXV : ¬ X = V := by omega
      have nVX : ¬ V = X := by omega
      have HC2 := Lib.hid hC'
      have HE2 := Lib.hid (HE.out.trans hX)
      have HO2 := Lib.hid (HC.out.ext hX)
      have HT : Hid (CBox wc V A B e0 a b g m c) := Lib.hid ⟨t0, t1, t2, t3, t4, t5, t6⟩
      have hst2 : (c'.st : Int) = (c.st : Int) + 1 := by have := HST.out.1; omega
      have HS2 := Lib.hid hst2
      have heq : ((c'.st : Int) == (c.st : Int) + 1) = true := by rw [beq_iff_eq]; exact hst2
      have hne : ((c'.st : Int) != (c.st : Int) + 1) = false := by rw [hst2]; simp
      clear v0 v1 v2 v3 v4 v5 v6 z0 z1 hC' hX lV hzc hst2
      go_wp2_with fail
      refine (cright_yes A' B' e0' 0 a' b' m g n m c' done1 G1 _ (HC2.out.at_ m1) HI1.out n1 (by omega) g1 (by omega) m1 m2 (by have := HST.out.1; omega) (by have := HST.out.2.2; omega)).mono ?_
      rintro ed w5 ⟨rfl, hE5⟩
      have HC5 := Lib.hid (HC2.out.ext hE5)
      have HE5 := Lib.hid (HE2.out.trans hE5)
      have HO5 := Lib.hid (HO2.out.ext hE5)
      have HB5 := Lib.hid (HB2.out.ext hE5)
      have HT5 := Lib.hid (HT.out.ext hE5)
      have HF5 : Hid (∀ o, w5.frozen? ⟨V, o, none⟩ = false) := Lib.hid fun o => (Below.frozen hE5 (p := ⟨V, o, none⟩) lVc).trans (TF.out o)
      have hz5 := hE5.size
      have lV5 : V < w5.heap.size := by omega
      have lX5 : X < w5.heap.size := by omega
      clear hE5 k0 k1 k2 k3 k4 k5 k6 j0 j1 j2 j3 t0 t1 t2 t3 t4 t5 t6 HB2 HT TF HC2 HE2 HO2 lVc lXc hz5 heq hne
      obtain ⟨k0, k1, k2, k3, k4, k5, k6, j0, j1, j2, j3⟩ := HB5.out
      obtain ⟨t0, t1, t2, t3, t4, t5, t6⟩ := HT5.out
      have tf := HF5.out
      rcases HSTEP.out with ⟨⟨hc', hev⟩, _, hJ⟩ | ⟨k, F, hF1, hF2, hkt, hev, hts', hid', hkm, hkl, hJ⟩ | ⟨k, F, hF1, hF2, hkt, hev, hsb, hid', hkm, hkl, hks, hJ⟩
      · have HJ := Lib.hid hJ
        have HEV := Lib.hid hev
        have htsE : c'.ts = c.ts ∧ c'.dn = c.dn ∧ c'.id = c.id + 1 := by rw [hc']; exact ⟨rfl, rfl, rfl⟩
        have HTS := Lib.hid htsE
        have HCN : Hid (c'.ts.length = 1 + 2 * parted) := Lib.hid (by rw [htsE.1]; exact HCNT.out)
        have hidb : (c'.id : Int) = (c.id : Int) + 1 := by omega
        have HIDB := Lib.hid hidb
        have hide : ((c'.id : Int) != (c.id : Int) + 1) = false := by rw [hidb]; simp
        have HOV := Lib.hid hJ.over_iff
        rw [hev] at j0 j1 j2 j3
        simp only at j0 j1 j2 j3
        clear hJ hev hc' htsE hidb
        go_wp2_with fail
        refine (rsame_any A' B' A B a' b' a b c'.ts c.ts (g : Int) (g : Int) c'.dn c.dn w5 HC5.out.tsk.rd HC5.out.dns.rd HO5.out.tsk.rd HO5.out.dns.rd).mono ?_
        rw [HTS.out.1, HTS.out.2.1, workB_self]
        rintro ed w6 ⟨rfl, hE6⟩
        have HC6 := Lib.hid (HC5.out.ext hE6)
        have HE6 := Lib.hid (HE5.out.trans hE6)
        replace k0 := hE6.cell k0
        replace t0 := hE6.cell t0
        replace k1 := hE6.cell k1
        replace t1 := hE6.cell t1
        replace k2 := hE6.cell k2
        replace t2 := hE6.cell t2
        replace k3 := hE6.cell k3
        replace t3 := hE6.cell t3
        replace k4 := hE6.cell k4
        replace t4 := hE6.cell t4
        replace k5 := hE6.cell k5
        replace t5 := hE6.cell t5
        replace k6 := hE6.cell k6
        replace t6 := hE6.cell t6
        replace tf : ∀ o, w6.frozen? ⟨V, o, none⟩ = false := fun o => (Below.frozen hE6 (p := ⟨V, o, none⟩) lV5).trans (tf o)
        have hz6 := hE6.size
        have lV6 : V < w6.heap.size := by omega
        have lX6 : X < w6.heap.size := by omega
        clear hE6 hz6 lV5 lX5 j0 j1 j2 j3 hide
        have hidx : (c.id : Int) + 1 = (c'.id : Int) := by rw [HIDB.out]
        have HIDX := Lib.hid hidx
        clear hidx
        cases hoc : c'.over
        · have HC7 := Lib.hid ((HC6.out.set7 rfl (.slice A' c'.ts.length a') (.int .i64 g) (.slice B' c'.dn.length b') (.slice (some ⟨e0', 0, none⟩) m m) (.bool false) (.int .i64 c'.st) (.int .i64 c'.id)))
          have HE7 := Lib.hid ((HE6.out.set7 hlt0 (.slice A' c'.ts.length a') (.int .i64 g) (.slice B' c'.dn.length b') (.slice (some ⟨e0', 0, none⟩) m m) (.bool false) (.int .i64 c'.st) (.int .i64 c'.id)))
          have hdn : ¬ done = n := fun e => by have := HOV.out.1.2 e; rw [hoc] at this; cases this
          have hdn1 : ¬ (done : Int) = n := by omega
          have hdn2 : ((done : Int) == (n : Int)) = false := beq_eq_false_iff_ne.2 hdn1
          obtain ⟨L, hL⟩ : ∃ L, (held c'.D).length = L := ⟨_, rfl⟩
          have hL0 : 0 < L := by rw [← hL]; exact HOV.out.2 hoc
          have hL1 : (0 : Int) < L := by omega
          have hL2 : ((L : Int) == 0) = false := by rw [beq_eq_false_iff_ne]; omega
          have hL3 : ¬ L = 0 := by omega
          have HL := Lib.hid hL
          obtain ⟨hs7, hd7⟩ := (HC7.out.at_ m1).deq
          have HD7 := Lib.hid hd7
          clear hL hd7
          have HOC := Lib.hid hoc
          rw [hoc] at k4
          clear hoc
          go_wp2_with fail
          have hcl := cheld_any A' B' e0' 0 a' b' m g m c' hs7 _ HD7.out m2 (by have := HL80.out; omega)
          unfold crewV at hcl
          rw [HOC.out, HL.out] at hcl
          refine hcl.mono ?_
          clear hcl
          rintro ed w9 ⟨rfl, hE9⟩
          have HBX := Lib.hid (((CBox.setV HOC.out t0 t1 t2 t3 t4 t5 t6)).ext hE9)
          have HFZ : Hid (∀ o, w9.frozen? ⟨V, o, none⟩ = false) := Lib.hid (fun o => (Below.frozen hE9 (p := ⟨V, o, none⟩) (by simp; omega)).trans ((fun o => by first | (rw [World.frozen?_setCell, World.frozen?_setCell, World.frozen?_setCell, World.frozen?_setCell, World.frozen?_setCell, World.frozen?_setCell, World.frozen?_setCell]; exact tf o) | (have := tf o; go_simp)) o))
          have HM9 := Lib.hid (HC7.out.ext hE9)
          have HE9 := Lib.hid (HE7.out.trans hE9)
          clear hE9
          go_wp2_with fail
          go_roundw
          case rel => exact ⟨i + 1, c', done, parted, A', B', e0', a', b', by omega, rfl, rfl, by rw [← HIDX.out], by go_num, ⟨⟨_, HJ.out⟩, HBX.out, HFZ.out, HM9.out, HE9.out, hlt0, by have := HST.out.1; have := HST0.out; omega, by have := HST.out.2.2; omega, HCN.out⟩⟩
          case measure => simp [intOf]; omega
        · have HC7 := Lib.hid ((HC6.out.set7 rfl (.slice A' c'.ts.length a') (.int .i64 g) (.slice B' c'.dn.length b') (.slice (some ⟨e0', 0, none⟩) m m) (.bool true) (.int .i64 c'.st) (.int .i64 c'.id)))
          have HE7 := Lib.hid ((HE6.out.set7 hlt0 (.slice A' c'.ts.length a') (.int .i64 g) (.slice B' c'.dn.length b') (.slice (some ⟨e0', 0, none⟩) m m) (.bool true) (.int .i64 c'.st) (.int .i64 c'.id)))
          have hdn : done = n := HOV.out.1.1 hoc
          subst hdn
          have HOC := Lib.hid hoc
          rw [hoc] at k4
          clear hoc
          go_wp2_with fail
          go_roundw
          case rel => exact ⟨i + 1, c', _, parted, A', B', e0', a', b', by omega, rfl, rfl, by rw [← HIDX.out], by go_num, ⟨⟨_, HJ.out⟩, ((CBox.setV HOC.out t0 t1 t2 t3 t4 t5 t6)), (fun o => by first | (rw [World.frozen?_setCell, World.frozen?_setCell, World.frozen?_setCell, World.frozen?_setCell, World.frozen?_setCell, World.frozen?_setCell, World.frozen?_setCell]; exact tf o) | (have := tf o; go_simp)), HC7.out, HE7.out, hlt0, by have := HST.out.1; have := HST0.out; omega, by have := HST.out.2.2; omega, HCN.out⟩⟩
          case measure => simp [intOf]; omega
      · have HJ := Lib.hid hJ
        have HCN : Hid (c'.ts.length = 1 + 2 * (parted + 1)) := Lib.hid (by rw [hts', partedL_len, HCNT.out]; omega)
        have HIDB : Hid (c'.id = c.id) := Lib.hid hid'
        have HOV := Lib.hid hJ.over_iff
        have HC6 := Lib.hid HC5.out
        have HE6 := Lib.hid HE5.out
        have hk0 : (0 : Int) ≤ k := by omega
        have hk1 : ¬ (k : Int) < 0 := by omega
        rw [hev] at j0 j1 j2 j3
        simp only at j0 j1 j2 j3
        clear hJ hev hts' hid' hkm hF1 hF2 hkt
        cases hoc : c'.over
        · have HC7 := Lib.hid ((HC6.out.set7 rfl (.slice A' c'.ts.length a') (.int .i64 g) (.slice B' c'.dn.length b') (.slice (some ⟨e0', 0, none⟩) m m) (.bool false) (.int .i64 c'.st) (.int .i64 c'.id)))
          have HE7 := Lib.hid ((HE6.out.set7 hlt0 (.slice A' c'.ts.length a') (.int .i64 g) (.slice B' c'.dn.length b') (.slice (some ⟨e0', 0, none⟩) m m) (.bool false) (.int .i64 c'.st) (.int .i64 c'.id)))
          have hdn : ¬ done = n := fun e => by have := HOV.out.1.2 e; rw [hoc] at this; cases this
          have hdn1 : ¬ (done : Int) = n := by omega
          have hdn2 : ((done : Int) == (n : Int)) = false := beq_eq_false_iff_ne.2 hdn1
          obtain ⟨L, hL⟩ : ∃ L, (held c'.D).length = L := ⟨_, rfl⟩
          have hL0 : 0 < L := by rw [← hL]; exact HOV.out.2 hoc
          have hL1 : (0 : Int) < L := by omega
          have hL2 : ((L : Int) == 0) = false := by rw [beq_eq_false_iff_ne]; omega
          have hL3 : ¬ L = 0 := by omega
          have HL := Lib.hid hL
          obtain ⟨hs7, hd7⟩ := (HC7.out.at_ m1).deq
          have HD7 := Lib.hid hd7
          clear hL hd7
          have HOC := Lib.hid hoc
          rw [hoc] at k4
          clear hoc
          go_wp2_with fail
          have hcl := cheld_any A' B' e0' 0 a' b' m g m c' hs7 _ HD7.out m2 (by have := HL80.out; omega)
          unfold crewV at hcl
          rw [HOC.out, HL.out] at hcl
          refine hcl.mono ?_
          clear hcl
          rintro ed w9 ⟨rfl, hE9⟩
          have HBX := Lib.hid (((CBox.setV HOC.out t0 t1 t2 t3 t4 t5 t6)).ext hE9)
          have HFZ : Hid (∀ o, w9.frozen? ⟨V, o, none⟩ = false) := Lib.hid (fun o => (Below.frozen hE9 (p := ⟨V, o, none⟩) (by simp; omega)).trans ((fun o => by first | (rw [World.frozen?_setCell, World.frozen?_setCell, World.frozen?_setCell, World.frozen?_setCell, World.frozen?_setCell, World.frozen?_setCell, World.frozen?_setCell]; exact tf o) | (have := tf o; go_simp)) o))
          have HM9 := Lib.hid (HC7.out.ext hE9)
          have HE9 := Lib.hid (HE7.out.trans hE9)
          clear hE9
          go_wp2_with fail
          go_roundw
          case rel => exact ⟨i + 1, c', done, parted + 1, A', B', e0', a', b', by omega, rfl, by go_num, by rw [HIDB.out], by go_num, ⟨⟨_, HJ.out⟩, HBX.out, HFZ.out, HM9.out, HE9.out, hlt0, by have := HST.out.1; have := HST0.out; omega, by have := HST.out.2.2; omega, HCN.out⟩⟩
          case measure => simp [intOf]; omega
        · have HC7 := Lib.hid ((HC6.out.set7 rfl (.slice A' c'.ts.length a') (.int .i64 g) (.slice B' c'.dn.length b') (.slice (some ⟨e0', 0, none⟩) m m) (.bool true) (.int .i64 c'.st) (.int .i64 c'.id)))
          have HE7 := Lib.hid ((HE6.out.set7 hlt0 (.slice A' c'.ts.length a') (.int .i64 g) (.slice B' c'.dn.length b') (.slice (some ⟨e0', 0, none⟩) m m) (.bool true) (.int .i64 c'.st) (.int .i64 c'.id)))
          have hdn : done = n := HOV.out.1.1 hoc
          subst hdn
          have HOC := Lib.hid hoc
          rw [hoc] at k4
          clear hoc
          go_wp2_with fail
          go_roundw
          case rel => exact ⟨i + 1, c', _, parted + 1, A', B', e0', a', b', by omega, rfl, by go_num, by rw [HIDB.out], by go_num, ⟨⟨_, HJ.out⟩, ((CBox.setV HOC.out t0 t1 t2 t3 t4 t5 t6)), (fun o => by first | (rw [World.frozen?_setCell, World.frozen?_setCell, World.frozen?_setCell, World.frozen?_setCell, World.frozen?_setCell, World.frozen?_setCell, World.frozen?_setCell]; exact tf o) | (have := tf o; go_simp)), HC7.out, HE7.out, hlt0, by have := HST.out.1; have := HST0.out; omega, by have := HST.out.2.2; omega, HCN.out⟩⟩
          case measure => simp [intOf]; omega
      · have HJ := Lib.hid hJ
        have HCN : Hid (c'.ts.length = 1 + 2 * parted) := Lib.hid (by rw [hsb.1]; exact HCNT.out)
        have HIDB : Hid (c'.id = c.id) := Lib.hid hid'
        have HOV' := hJ.over_iff
        have hkl' : k < c'.ts.length := by rw [hsb.1]; exact hkl
        obtain ⟨ta, to', rfl, hct⟩ := Rd.tasks HC5.out.tsk.rd (by omega)
        obtain ⟨q0, q1, q2, q3⟩ := hct k hkl'
        obtain ⟨⟨lo, hi', up, wt⟩, ht⟩ : ∃ t, c'.ts.getD k ⟨0, 0, 0, 0⟩ = t := ⟨_, rfl⟩
        have htT : T c'.ts k = ⟨lo, hi', up, wt⟩ := ht
        rw [ht] at q0 q1 q2 q3
        simp only at q0 q1 q2 q3
        have hlh := (CrI.inv hJ).task k hkl'
        rw [htT] at hlh
        simp only at hlh
        have hsl := (hsb.2 k).1
        have hsh := (hsb.2 k).2.1
        rw [htT] at hsl hsh
        simp only at hsl hsh
        rw [← hsl, ← hsh] at hks
        obtain ⟨d', hd'⟩ : ∃ d', done + sz c.ts k = d' := ⟨_, rfl⟩
        rw [hd'] at HOV' HJ hJ
        have hun := (CrI.inv hJ).uns
        have hdd : (done : Int) + hi' - lo = (d' : Int) := by omega
        have HDD := Lib.hid hdd
        have HOV := Lib.hid HOV'
        have HC6 := Lib.hid HC5.out
        have HE6 := Lib.hid HE5.out
        have hk0 : (0 : Int) ≤ k := by omega
        have hk1 : ¬ (k : Int) < 0 := by omega
        have hkl1 : (k : Int) < c'.ts.length := by omega
        have hN1 : (1 : Int) ≤ c'.ts.length := by omega
        have hN2 : (c'.ts.length : Int) ≤ 80 := by have := hfw1; omega
        have hlo0 : 0 ≤ lo := by omega
        have hlh2 : lo < hi' := by omega
        have hhi4 : hi' ≤ 40 := by omega
        have lta : ta < w5.heap.size := World.block_lt_of_cell? _ _ q0
        rw [hev] at j0 j1 j2 j3
        simp only at j0 j1 j2 j3
        clear hF1 hF2 hkt hJ hev hsb hid' hkm hct ht htT hlh hsl hsh hks hd' hun HOV'
        rcases Int.lt_or_le (k : Int) ((c'.ts.length : Int) - 1) with hm | hm
        all_goals
          cases hoc : c'.over
          · have HC7 := Lib.hid ((HC6.out.set7 rfl (.slice (some ⟨ta, to', none⟩) c'.ts.length a') (.int .i64 g) (.slice B' c'.dn.length b') (.slice (some ⟨e0', 0, none⟩) m m) (.bool false) (.int .i64 c'.st) (.int .i64 c'.id)).ext ((Ext.refl _).alloc (.cells #[.int .i64 lo, .int .i64 hi', .int .i64 up, .int .i64 wt] 43)))
            have HE7 := Lib.hid ((HE6.out.set7 hlt0 (.slice (some ⟨ta, to', none⟩) c'.ts.length a') (.int .i64 g) (.slice B' c'.dn.length b') (.slice (some ⟨e0', 0, none⟩) m m) (.bool false) (.int .i64 c'.st) (.int .i64 c'.id)).alloc (.cells #[.int .i64 lo, .int .i64 hi', .int .i64 up, .int .i64 wt] 43))
            have hdn : ¬ d' = n := fun e => by have := HOV.out.1.2 e; rw [hoc] at this; cases this
            have hdn1 : ¬ (d' : Int) = n := by omega
            have hdn2 : ((d' : Int) == (n : Int)) = false := beq_eq_false_iff_ne.2 hdn1
            obtain ⟨L, hL⟩ : ∃ L, (held c'.D).length = L := ⟨_, rfl⟩
            have hL0 : 0 < L := by rw [← hL]; exact HOV.out.2 hoc
            have hL1 : (0 : Int) < L := by omega
            have hL2 : ((L : Int) == 0) = false := by rw [beq_eq_false_iff_ne]; omega
            have hL3 : ¬ L = 0 := by omega
            have HL := Lib.hid hL
            obtain ⟨hs7, hd7⟩ := (HC7.out.at_ m1).deq
            have HD7 := Lib.hid hd7
            clear hL hd7
            have HOC := Lib.hid hoc
            rw [hoc] at k4
            clear hoc
            go_wp2_with fail
            have hcl := cheld_any (some ⟨ta, to', none⟩) B' e0' 0 a' b' m g m c' hs7 _ HD7.out m2 (by have := HL80.out; omega)
            unfold crewV at hcl
            rw [HOC.out, HL.out] at hcl
            refine hcl.mono ?_
            clear hcl
            rintro ed w9 ⟨rfl, hE9⟩
            have HBX := Lib.hid (((CBox.setV HOC.out t0 t1 t2 t3 t4 t5 t6).ext ((Ext.refl _).alloc (.cells #[.int .i64 lo, .int .i64 hi', .int .i64 up, .int .i64 wt] 43))).ext hE9)
            have HFZ : Hid (∀ o, w9.frozen? ⟨V, o, none⟩ = false) := Lib.hid (fun o => (Below.frozen hE9 (p := ⟨V, o, none⟩) (by simp; omega)).trans ((fun o => by first | (rw [World.frozen?_setCell, World.frozen?_setCell, World.frozen?_setCell, World.frozen?_setCell, World.frozen?_setCell, World.frozen?_setCell, World.frozen?_setCell]; exact tf o) | (have := tf o; go_simp)) o))
            have HM9 := Lib.hid (HC7.out.ext hE9)
            have HE9 := Lib.hid (HE7.out.trans hE9)
            clear hE9
            go_wp2_with fail
            go_roundw
            case rel => exact ⟨i + 1, c', d', parted, (some ⟨ta, to', none⟩), B', e0', a', b', by omega, rfl, rfl, by rw [HIDB.out], by go_num, ⟨⟨_, HJ.out⟩, HBX.out, HFZ.out, HM9.out, HE9.out, hlt0, by have := HST.out.1; have := HST0.out; omega, by have := HST.out.2.2; omega, HCN.out⟩⟩
            case measure => simp [intOf]; omega
          · have HC7 := Lib.hid ((HC6.out.set7 rfl (.slice (some ⟨ta, to', none⟩) c'.ts.length a') (.int .i64 g) (.slice B' c'.dn.length b') (.slice (some ⟨e0', 0, none⟩) m m) (.bool true) (.int .i64 c'.st) (.int .i64 c'.id)).ext ((Ext.refl _).alloc (.cells #[.int .i64 lo, .int .i64 hi', .int .i64 up, .int .i64 wt] 43)))
            have HE7 := Lib.hid ((HE6.out.set7 hlt0 (.slice (some ⟨ta, to', none⟩) c'.ts.length a') (.int .i64 g) (.slice B' c'.dn.length b') (.slice (some ⟨e0', 0, none⟩) m m) (.bool true) (.int .i64 c'.st) (.int .i64 c'.id)).alloc (.cells #[.int .i64 lo, .int .i64 hi', .int .i64 up, .int .i64 wt] 43))
            have hdn : d' = n := HOV.out.1.1 hoc
            subst hdn
            have HOC := Lib.hid hoc
            rw [hoc] at k4
            clear hoc
            go_wp2_with fail
            go_roundw
            case rel => exact ⟨i + 1, c', _, parted, (some ⟨ta, to', none⟩), B', e0', a', b', by omega, rfl, rfl, by rw [HIDB.out], by go_num, ⟨⟨_, HJ.out⟩, ((CBox.setV HOC.out t0 t1 t2 t3 t4 t5 t6).ext ((Ext.refl _).alloc (.cells #[.int .i64 lo, .int .i64 hi', .int .i64 up, .int .i64 wt] 43))), (fun o => by first | (rw [World.frozen?_setCell, World.frozen?_setCell, World.frozen?_setCell, World.frozen?_setCell, World.frozen?_setCell, World.frozen?_setCell, World.frozen?_setCell]; exact tf o) | (have := tf o; go_simp)), HC7.out, HE7.out, hlt0, by have := HST.out.1; have := HST0.out; omega, by have := HST.out.2.2; omega, HCN.out⟩⟩
            case measure => simp [intOf]; omega
    · obtain rfl : i = picks.length := by omega
      have hJ := HI.out
      have hall := CrI.all hJ
      have HALL := Lib.hid hall
      have e1 : ((c.ts.length : Int) == 1 + 2 * (parted : Int)) = true := by rw [beq_iff_eq]; have := HCNT.out; omega
      have e2 : ((c.st : Int) == (picks.length : Int)) = true := by rw [beq_iff_eq]; have := HST0.out; omega
      have hdl1 : (c.dn.length : Int) ≤ 40 := by have := HDL.out; omega
      have E1 := Lib.hid (And.intro e1 e2)
      have HDR := Lib.hid (HC.out.dns.rd)
      clear hJ hall e1 e2
      go_wp2_with fail
      go_loopw [17, 18] (fun u j wx => ∃ k : Nat, k ≤ c.dn.length ∧ j = .int .i64 k ∧ u = .int .i64 (doneN (c.dn.take k) : Nat) ∧ wx = wr) (fun _ j _ => c.dn.length - (intOf j).toNat)
      case atStart => exact ⟨0, Nat.zero_le _, rfl, rfl, rfl⟩
      case round =>
        obtain ⟨k, hk, rfl, rfl, rfl⟩ := hrel
        by_cases hlt2 : k < c.dn.length
        · have hlt3 : (k : Int) < c.dn.length := by omega
          have hk0 : (0 : Int) ≤ k := by omega
          obtain ⟨bd, od, rfl, hcd⟩ := Rd.bools HDR.out (by omega)
          have zb := hcd k hlt2
          have hsn := doneN_take c.dn k hlt2
          obtain ⟨D1, hD1⟩ : ∃ D1, doneN (c.dn.take k) = D1 := ⟨_, rfl⟩
          rw [hD1] at hsn ⊢
          have hD1b : D1 ≤ 40 := by rw [← hD1]; unfold doneN; have h1 := List.countP_le_length (p := id) (l := c.dn.take k); rw [List.length_take] at h1; omega
          cases hbv : c.dn.getD k false with
          | true =>
            rw [hbv] at zb hsn
            have HSN : Hid (doneN (c.dn.take (k + 1)) = D1 + 1) := Lib.hid (by rw [hsn]; rfl)
            clear hsn hD1 hbv hcd
            go_wp2_with fail
            go_roundw
            case rel => exact ⟨k + 1, by omega, by go_num, by rw [HSN.out]; go_num, by first | rfl | trivial⟩
            case measure => simp [intOf]; omega
          | false =>
            rw [hbv] at zb hsn
            have HSN : Hid (doneN (c.dn.take (k + 1)) = D1) := Lib.hid (by rw [hsn]; rfl)
            clear hsn hD1 hbv hcd
            go_wp2_with fail
            go_roundw
            case rel => exact ⟨k + 1, by omega, by go_num, by rw [HSN.out], by first | rfl | trivial⟩
            case measure => simp [intOf]; omega
        · obtain rfl : k = c.dn.length := by omega
          rw [List.take_length, HALL.out]
          obtain ⟨e1, e2⟩ := E1.out
          go_wp2_with fail
          go_ret
          exact ⟨by first | rfl | exact ret_bool (by simp [e1, e2]), HE.out⟩
theorem conce_any (xa xb xc : Int) (picks : List (Int × Int)) (Ap : Option Addr) (cp : Nat) (W : World) (h : Rd kPk W (.slice Ap picks.length cp) picks) (ba : 0 ≤ xa ∧ xa ≤ 255) (bb : 0 ≤ xb ∧ xb ≤ 255) (bc : 0 ≤ xc ∧ xc ≤ 255) :
    Calls Try.prog 3 #[.agg #[.int .u8 xa, .int .u8 xb, .int .u8 xc], .slice Ap picks.length cp] W fun e w' => e = .returned (.bool true) ∧ Ext W w' := by
  by_cases hl : picks.length ≤ 300
  · exact conce_walk xa xb xc picks Ap cp W h ba bb bc hl
  · exact conce_great xa xb xc picks Ap cp W h (by omega)
end Go.Proofs.Ytebbpkdhdilkcaa
