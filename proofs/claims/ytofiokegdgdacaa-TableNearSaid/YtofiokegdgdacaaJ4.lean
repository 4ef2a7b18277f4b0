/- Joined by wip/merge.py: QsZ, QsS, LwA, LwP, LwD, T12B, T12R. -/
import Derived.Test.YtofiokegdgdacaaJ3
import Derived.Sort.LotD3
import Derived.Sort.LotB
import Derived.Lib.SliceRun
import Derived.Deep.QuietTactic
import Derived.BigQuiet
import Derived.Deep.CutBlock
import Derived.Deep.DeepCutAuto
set_option linter.unusedVariables false
set_option linter.unusedSimpArgs false
set_option linter.unnecessarySimpa false
/- Sorting words: the whole. -/
namespace Go.Proofs.Ytofiokegdgdacaa
open Go.BigFrame
open Go.RowKit Go.Proofs.Ytofiokegdgdacaa.Plain
open Go.Sort (PermIn SortedIn)

/-- what a call leaves: a permutation of a part, sorted -/
def PdqSaid (w0 : World) (B G n c a b : Nat) (d : Array Nat) (ed : Ending) (w' : World) : Prop :=
  ∃ d', ed = .returned (.tuple #[]) ∧ PermIn a b d d' ∧ SortedIn ltN a b d' ∧ SA w0 B G n c d' w'
theorem below_perm {a b n : Nat} {d d' : Array Nat} (h : Go.Sort.Below ltN a b d) (hb : b ≤ d.size) (hp : PermIn a b d d') : Go.Sort.Below ltN a b d' := Go.Sort.Below.perm h hb hp
set_option maxHeartbeats 3200000 in
set_option maxRecDepth 100000 in
theorem qpdq_any (w0 : World) (B G n c : Nat) (hn : n ≤ 1000000) : ∀ (m a b lim : Nat) (d : Array Nat) (w : World), b - a ≤ m → a ≤ b → b ≤ n → lim ≤ 64 → SA w0 B G n c d w → Go.Sort.Below ltN a b d →
    Calls Try.prog 48 #[.slice (some ⟨G, 0, none⟩) n c, .int .i64 a, .int .i64 b, .int .i64 lim] w (PdqSaid w0 B G n c a b d) := by
  intro m
  induction m using Nat.strongRecOn with
  | ind m ih =>
  intro a b lim d w hm hab hb hlim h hbel
  have HSw := Lib.hid h
  have HIH : Hid (∀ (a' b' lim' : Nat) (d' : Array Nat) (w' : World), b' - a' < b - a → a' ≤ b' → b' ≤ n → lim' ≤ 64 → SA w0 B G n c d' w' → Go.Sort.Below ltN a' b' d' → Calls Try.prog 48 #[.slice (some ⟨G, 0, none⟩) n c, .int .i64 a', .int .i64 b', .int .i64 lim'] w' (PdqSaid w0 B G n c a' b' d')) := Lib.hid
    (fun a' b' lim' d' w' h1 h2 h3 h4 h5 h6 => ih (b' - a') (by omega) a' b' lim' d' w' (Nat.le_refl _) h2 h3 h4 h5 h6)
  have HBEL := Lib.hid hbel
  have HAB := Lib.hid (And.intro hab (And.intro hb hlim))
  clear ih h hbel hm hab hb hlim
  go_enter Try.func48, Try.ntmps48
  go_wp2_with fail
  go_loopw [1, 2, 3, 8, 9] (fun v1 v2 v3 v8 v9 wr => ∃ (s e l : Nat) (x y : Bool) (dk : Array Nat), v1 = .int .i64 s ∧ v2 = .int .i64 e ∧ v3 = .int .i64 l ∧ v8 = .bool x ∧ v9 = .bool y ∧ (a ≤ s ∧ s ≤ e ∧ e ≤ b ∧ l ≤ 64) ∧ SA w0 B G n c dk wr ∧ Go.Sort.Below ltN s e dk ∧ (∀ R, PermIn s e dk R → SortedIn ltN s e R → PermIn a b d R ∧ SortedIn ltN a b R)) (fun v1 v2 _ _ _ _ => (intOf v2).toNat - (intOf v1).toNat)
  case atStart => exact ⟨a, b, lim, true, true, d, rfl, rfl, rfl, rfl, rfl, by have := HAB.out; omega, HSw.out, HBEL.out, fun R h1 h2 => ⟨h1, h2⟩⟩
  case round =>
    obtain ⟨s, e, l, x, y, dk, rfl, rfl, rfl, rfl, rfl, hse, hS, hB, hR⟩ := hrel
    have HSwr := Lib.hid hS
    have HB := Lib.hid hB
    have HR := Lib.hid hR
    obtain ⟨hse1, hse2, hse3, hl9⟩ := hse
    have hen : e ≤ n := by have := HAB.out; omega
    have hsz : e ≤ dk.size := by rw [HSwr.out.sz]; exact hen
    obtain ⟨k, hk⟩ : ∃ x, e - s = x := ⟨_, rfl⟩
    have hkI : (e : Int) - (s : Int) = (k : Int) := by omega
    have hkw := wrap9 n k (by omega) (by omega)
    have hs0 : (0 : Int) ≤ s := by omega
    have hs9 : (s : Int) ≤ 1000000 := by omega
    have he9 : (e : Int) ≤ 1000000 := by omega
    have hl0 : (0 : Int) ≤ l := by omega
    have hl99 : (l : Int) ≤ 64 := by omega
    have HSZ := Lib.hid hsz
    have HK := Lib.hid hk
    clear hS hB hR HSw HBEL hsz hk
    by_cases h12 : k ≤ 12
    · have hd1 : decide ((k : Int) ≤ 12) = true := decide_eq_true (by omega)
      have hd1N : decide (k ≤ 12) = true := decide_eq_true h12
      have HI := Lib.hid (HR.out _ (Go.Sort.insertionSort_holds swo_ltN dk s e hse2 HSZ.out).1 (Go.Sort.insertionSort_holds swo_ltN dk s e hse2 HSZ.out).2)
      go_wp2_with fail
      refine (qins_any w0 B G n c s e dk _ HSwr.out hse2 hen hn).mono ?_
      rintro ed w5 ⟨rfl, hS5⟩
      have HS5 := Lib.hid hS5
      clear hS5
      go_wp2_with fail
      refine bodyPost_ret (v := .tuple #[]) (by simp [results, Try.results48, go_sem]) rfl ⟨_, rfl, HI.out.1, HI.out.2, HS5.out⟩
    have hd1 : decide ((k : Int) ≤ 12) = false := decide_eq_false (by omega)
    have hd1N : decide (k ≤ 12) = false := decide_eq_false h12
    have hse12 : s + 12 < e := by have := HK.out; omega
    by_cases hl : l = 0
    · subst hl
      have HI := Lib.hid (HR.out _ (Go.Sort.heapSort_holds swo_ltN dk s e hse2 HSZ.out).1 (Go.Sort.heapSort_holds swo_ltN dk s e hse2 HSZ.out).2)
      go_wp2_with fail
      refine (qheap_any w0 B G n c s e dk _ HSwr.out (by omega) hen hn).mono ?_
      rintro ed w5 ⟨rfl, hS5⟩
      have HS5 := Lib.hid hS5
      clear hS5
      go_wp2_with fail
      refine bodyPost_ret (v := .tuple #[]) (by simp [results, Try.results48, go_sem]) rfl ⟨_, rfl, HI.out.1, HI.out.2, HS5.out⟩
    have hd2 : ((l : Int) == 0) = false := by simp; omega
    have hd2N : (l == 0) = false := by simp [hl]
    have hd2M : decide (l = 0) = false := decide_eq_false hl
    go_upto_region 7 with fail
    go_cut [35] from 34 to 34 (fun v wx => v = .bool (!x) ∧ wr = wx)
    case first =>
      go_wp2_with fail
      go_meet
      exact ⟨rfl, rfl⟩
    case rest =>
    obtain ⟨hv35, rfl⟩ := hcut
    have HV35 := Lib.hid hv35
    clear hv35
    go_wp2_with fail
    go_cut [3] from 36 to 41 (fun v wx => ∃ (l2 : Nat) (d1 : Array Nat), v = .int .i64 l2 ∧ l2 ≤ 64 ∧ PermIn s e dk d1 ∧ SA w0 B G n c d1 wx)
    case first =>
      have hv35 := HV35.out
      subst hv35
      clear HV35
      cases x with
      | true =>
        go_wp2_with fail
        go_meet
        exact ⟨l, dk, rfl, hl9, Go.Sort.permIn_refl _ _ _, HSwr.out⟩
      | false =>
        obtain ⟨l1, hl1⟩ : ∃ z, l - 1 = z := ⟨_, rfl⟩
        have hl1I : (l : Int) - 1 = (l1 : Int) := by omega
        have hl1w := wrap9 64 l1 (by omega) (by omega)
        go_wp2_with fail
        refine (qbrk_any w0 B G n c s e dk _ HSwr.out hse12 hen hn).mono ?_
        rintro ed w5 ⟨d1, rfl, hp1, hS5⟩
        have HS5 := Lib.hid (And.intro hp1 hS5)
        clear hp1 hS5
        go_wp2_with fail
        go_meet
        exact ⟨l1, d1, rfl, by omega, HS5.out.1, HS5.out.2⟩
    case rest =>
    obtain ⟨l2, d1, rfl, hl2, hp1, hS1⟩ := hcut
    generalize wc = w1 at *
    have HS1 := Lib.hid hS1
    have HP1 := Lib.hid hp1
    have hl20 : (0 : Int) ≤ l2 := by omega
    clear hS1 hp1 HSwr hl hl0 hl99 hl9 hd2 hd2N hd2M hd1 hd1N
    go_wp2_with fail
    refine (qpiv_any w0 B G n c s e d1 _ HS1.out hse12 hen hn).mono ?_
    rintro ed w2 ⟨p, hint, rfl, hp, hS2⟩
    have HS2 := Lib.hid hS2
    clear hS2 HS1
    obtain ⟨hp1', hp2'⟩ := hp
    have hp0 : (0 : Int) ≤ p := by omega
    have hp9 : (p : Int) ≤ 1000000 := by omega
    go_upto_region 11 with fail
    go_cut [50] from 49 to 49 (fun v wx => (∃ r : Bool, v = .bool r) ∧ w2 = wx)
    case first =>
      go_wp2_with fail
      go_meet
      exact ⟨⟨_, rfl⟩, rfl⟩
    case rest =>
    obtain ⟨hr, rfl⟩ := hcut
    have HRB := Lib.hid hr
    clear hr
    go_wp2_with fail
    go_cut [11, 12] from 51 to 60 (fun v11 v12 wx => ∃ (p2 : Nat) (h2 : Int) (d2 : Array Nat), v11 = .int .i64 p2 ∧ v12 = .int .i64 h2 ∧ (s ≤ p2 ∧ p2 < e) ∧ PermIn s e d1 d2 ∧ SA w0 B G n c d2 wx)
    case first =>
      obtain ⟨r, hr⟩ := HRB.out
      subst hr
      clear HRB
      cases r with
      | false =>
        go_wp2_with fail
        go_meet
        exact ⟨p, hint, d1, rfl, rfl, ⟨hp1', hp2'⟩, Go.Sort.permIn_refl _ _ _, HS2.out⟩
      | true =>
        obtain ⟨e1, he1⟩ : ∃ z, e - 1 = z := ⟨_, rfl⟩
        obtain ⟨ps, hps⟩ : ∃ z, p - s = z := ⟨_, rfl⟩
        obtain ⟨p2, hp2⟩ : ∃ z, e1 - ps = z := ⟨_, rfl⟩
        have he1I : (e : Int) - 1 = (e1 : Int) := by omega
        have hpsI : (p : Int) - (s : Int) = (ps : Int) := by omega
        have hp2I : (e1 : Int) - (ps : Int) = (p2 : Int) := by omega
        have he1w := wrap9 n e1 (by omega) (by omega)
        have hpsw := wrap9 n ps (by omega) (by omega)
        have hp2w := wrap9 n p2 (by omega) (by omega)
        have HP2 : Hid (s ≤ p2 ∧ p2 < e) := Lib.hid (by omega)
        have HPR := Lib.hid (Go.Sort.reverseRange_holds d1 s e hse2 (by rw [HS2.out.sz]; exact hen))
        clear he1 hps hp2
        go_wp2_with fail
        refine (qrev_any w0 B G n c s e d1 _ HS2.out (by omega) hen hn).mono ?_
        rintro ed w5 ⟨rfl, hS5⟩
        have HS5 := Lib.hid hS5
        clear hS5
        go_wp2_with fail
        go_meet
        exact ⟨p2, 1, _, rfl, rfl, HP2.out, HPR.out, HS5.out⟩
    case rest =>
    obtain ⟨p2, h2, d2, rfl, rfl, hp3, hpm2, hS3⟩ := hcut
    generalize wc = w3 at *
    have HS3 := Lib.hid hS3
    have HPM2 := Lib.hid (Go.Sort.permIn_trans _ _ _ _ _ HP1.out hpm2)
    obtain ⟨hp21, hp22⟩ := hp3
    clear hS3 hpm2 HRB HS2 hp1' hp2' hp0 hp9
    have hp0 : (0 : Int) ≤ p2 := by omega
    have hp9 : (p2 : Int) ≤ 1000000 := by omega
    go_upto_region 15 with fail
    go_cut [68] from 61 to 67 (fun v wx => (∃ r : Bool, v = .bool r) ∧ w3 = wx)
    case first =>
      cases x with
      | false =>
        go_wp2_with fail
        go_meet
        exact ⟨⟨_, rfl⟩, rfl⟩
      | true =>
        cases y with
        | false =>
          go_wp2_with fail
          go_meet
          exact ⟨⟨_, rfl⟩, rfl⟩
        | true =>
          go_wp2_with fail
          go_meet
          exact ⟨⟨_, rfl⟩, rfl⟩
    case rest =>
    obtain ⟨hr, rfl⟩ := hcut
    have HRB := Lib.hid hr
    clear hr
    go_wp2_with fail
    go_cut [69] from 70 to 72 (fun _ wx => ∃ d3 : Array Nat, PermIn s e dk d3 ∧ SA w0 B G n c d3 wx)
    case first =>
      obtain ⟨r, hr⟩ := HRB.out
      subst hr
      clear HRB
      cases r with
      | false =>
        go_wp2_with fail
        go_meet
        exact ⟨d2, HPM2.out, HS3.out⟩
      | true =>
        have HPI := Lib.hid (Go.Sort.partialInsertionSort_holds swo_ltN d2 s e (by omega) (by rw [HS3.out.sz]; exact hen) (below_perm (n := n) HB.out HSZ.out HPM2.out))
        go_wp2_with fail
        refine (qpis_any w0 B G n c s e d2 _ HS3.out (by omega) hen hn).mono ?_
        rintro ed w5 ⟨rfl, hS5⟩
        have HS5 := Lib.hid hS5
        have HP5 := Lib.hid (Go.Sort.permIn_trans _ _ _ _ _ HPM2.out HPI.out.1)
        clear hS5
        obtain ⟨d3, hd3⟩ : ∃ z, (Go.Sort.partialInsertionSort ltN d2 s e).1 = z := ⟨_, rfl⟩
        obtain ⟨pb, hpb⟩ : ∃ z, (Go.Sort.partialInsertionSort ltN d2 s e).2 = z := ⟨_, rfl⟩
        rw [hd3] at HPI HS5 HP5
        rw [hpb] at HPI ⊢
        clear hd3 hpb
        cases pb with
        | true =>
          have HI := Lib.hid (HR.out d3 HP5.out (HPI.out.2 rfl))
          go_wp2_with fail
          refine bodyPost_ret (v := .tuple #[]) (by simp [results, Try.results48, go_sem]) rfl ⟨_, rfl, HI.out.1, HI.out.2, HS5.out⟩
        | false =>
          go_wp2_with fail
          go_meet
          exact ⟨d3, HP5.out, HS5.out⟩
    case rest =>
    obtain ⟨d3, hpm3, hS4⟩ := hcut
    generalize wc = w4 at *
    have HSw4 := Lib.hid hS4
    have HB3 := Lib.hid (below_perm (n := n) HB.out HSZ.out hpm3)
    have HPM3 := Lib.hid hpm3
    have HSZ3 : Hid (e ≤ d3.size) := Lib.hid (by rw [HSw4.out.sz]; exact hen)
    clear hS4 hpm3 HRB HS3 HPM2 HP1
    go_wp2_with fail
    go_cut [87] from 73 to 86 (fun v wx => ∃ r : Bool, v = .bool r ∧ (r = true → 0 < s ∧ ltN d3[s - 1]! d3[p2]! = false) ∧ SA w0 B G n c d3 wx)
    case first =>
      by_cases hs1 : 0 < s
      · have hd3 : decide ((0 : Int) < (s : Int)) = true := decide_eq_true (by omega)
        have hd3N : decide (0 < s) = true := decide_eq_true hs1
        obtain ⟨q, hq⟩ : ∃ z, s - 1 = z := ⟨_, rfl⟩
        have hqI : (s : Int) - 1 = (q : Int) := by omega
        have hqw := wrap9 n q (by omega) (by omega)
        have hq0 : (0 : Int) ≤ q := by omega
        have hqn : q < n := by omega
        have hqn9 : (q : Int) < n := by omega
        have hpn : p2 < n := by omega
        have hpn9 : (p2 : Int) < n := by omega
        obtain ⟨xq, hxq⟩ : ∃ x, d3[q]! = x := ⟨_, rfl⟩
        have Hxq := Lib.hid hxq
        obtain ⟨xp, hxp⟩ : ∃ x, d3[p2]! = x := ⟨_, rfl⟩
        have Hxp := Lib.hid hxp
        have HQ := Lib.hid hq
        clear hq hxq hxp
        cases hl : ltN xq xp with
        | true =>
          have KSw4 := Lib.hid (HSw4.out.reads (i := q) (j := p2) (by omega) (by omega) Hxq.out Hxp.out)
          have HFw4 := Lib.hid (qless_cls xq xp true hl w4)
          go_wp2_with fail
          refine wp_region_class (Ext w4) (by kernel_rfl) (by kernel_rfl) (Ext.refl _).drew ?_
          try simp only [List.append_eq, List.cons_append, List.nil_append]
          repeat (first
            | go_big_quiet_skip
            | (go_big_quiet_want
               first
               | (go_big_quiet_op; go_big_quiet_on)
               | (unfold Oper.quiet
                  apply Exists.intro
                  refine ⟨fun w' hC => ?_, ?_⟩
                  · (obtain ⟨k1, k2⟩ := KSw4.out w' hC
                     unfold Oper.quietAt
                     go_simp
                     first
                     | exact rfl
                     | (with_reducible exact HFw4.out w' hC))
                  go_simp
                  go_big_quiet_on)
               | (go_big_quiet_op
                  apply Exists.intro
                  refine ⟨fun w' hC => ?_, ?_⟩
                  · exact HFw4.out w' hC
                  go_big_quiet_on)))
          refine wpQuiet_nil ?_
          intro w9 hCw9
          have HSw9 := Lib.hid (HSw4.out.ext hCw9)
          clear KSw4 HFw4 HSw4 hCw9 hl
          go_wp2_with fail
          go_meet
          exact ⟨false, rfl, (fun h => by cases h), HSw9.out⟩
        | false =>
          have HLL : Hid (ltN d3[s - 1]! d3[p2]! = false) := Lib.hid (by rw [HQ.out, Hxq.out, Hxp.out]; exact hl)
          have KSw4 := Lib.hid (HSw4.out.reads (i := q) (j := p2) (by omega) (by omega) Hxq.out Hxp.out)
          have HFw4 := Lib.hid (qless_cls xq xp false hl w4)
          go_wp2_with fail
          refine wp_region_class (Ext w4) (by kernel_rfl) (by kernel_rfl) (Ext.refl _).drew ?_
          try simp only [List.append_eq, List.cons_append, List.nil_append]
          repeat (first
            | go_big_quiet_skip
            | (go_big_quiet_want
               first
               | (go_big_quiet_op; go_big_quiet_on)
               | (unfold Oper.quiet
                  apply Exists.intro
                  refine ⟨fun w' hC => ?_, ?_⟩
                  · (obtain ⟨k1, k2⟩ := KSw4.out w' hC
                     unfold Oper.quietAt
                     go_simp
                     first
                     | exact rfl
                     | (with_reducible exact HFw4.out w' hC))
                  go_simp
                  go_big_quiet_on)
               | (go_big_quiet_op
                  apply Exists.intro
                  refine ⟨fun w' hC => ?_, ?_⟩
                  · exact HFw4.out w' hC
                  go_big_quiet_on)))
          refine wpQuiet_nil ?_
          intro w9 hCw9
          have HSw9 := Lib.hid (HSw4.out.ext hCw9)
          clear KSw4 HFw4 HSw4 hCw9 hl
          go_wp2_with fail
          go_meet
          exact ⟨true, rfl, fun _ => ⟨hs1, HLL.out⟩, HSw9.out⟩
      · have hd3 : decide ((0 : Int) < (s : Int)) = false := decide_eq_false (by omega)
        have hd3N : decide (0 < s) = false := decide_eq_false hs1
        go_wp2_with fail
        refine wp_region_class (Ext w4) (by kernel_rfl) (by kernel_rfl) (Ext.refl _).drew ?_
        try simp only [List.append_eq, List.cons_append, List.nil_append]
        repeat (first
          | go_big_quiet_skip
          | (go_big_quiet_want
             first
             | (go_big_quiet_op; go_big_quiet_on)
             | (unfold Oper.quiet
                apply Exists.intro
                refine ⟨fun w' hC => ?_, ?_⟩
                · (skip
                   unfold Oper.quietAt
                   go_simp
                   first
                   | exact rfl)
                go_simp
                go_big_quiet_on)))
        refine wpQuiet_nil ?_
        intro w9 hC9
        go_wp2_with fail
        go_meet
        exact ⟨false, rfl, (fun h => by cases h), HSw4.out.ext hC9⟩
    case rest =>
    obtain ⟨r, rfl, hr, hS5⟩ := hcut
    generalize wc = w5 at *
    have HS5 := Lib.hid hS5
    have HRR := Lib.hid hr
    clear hS5 hr HSw4
    cases r with
    | true =>
      obtain ⟨hs1, hnl⟩ := HRR.out rfl
      have hre := Go.Sort.round_eq swo_ltN (Go.Sort.partitionEqual_holds ltN) hs1 hp21 hp22 HSZ3.out HB3.out hnl (mid := (Go.Sort.partitionEqual ltN d3 s e p2).1) (d4 := (Go.Sort.partitionEqual ltN d3 s e p2).2) rfl
      have hcall := qeq_any w0 B G n c s e p2 d3 w5 HS5.out hp21 hp22 hen hn
      obtain ⟨mid, hmid⟩ : ∃ z, (Go.Sort.partitionEqual ltN d3 s e p2).1 = z := ⟨_, rfl⟩
      obtain ⟨d4, hd4⟩ : ∃ z, (Go.Sort.partitionEqual ltN d3 s e p2).2 = z := ⟨_, rfl⟩
      rw [hmid, hd4] at hre hcall
      have HRE := Lib.hid hre
      have HCALL := Lib.hid hcall
      clear hre hcall hmid hd4 hs1 hnl HRR
      go_wp2_with fail
      refine HCALL.out.mono ?_
      rintro ed w6 ⟨rfl, hS6⟩
      have HS6 := Lib.hid hS6
      clear hS6
      go_wp2_with fail
      go_roundw
      case rel => exact ⟨mid, e, l2, x, y, d4, rfl, rfl, rfl, rfl, rfl, by have := HRE.out; omega, HS6.out, HRE.out.2.2.2.1, fun R h1 h2 => HR.out R (Go.Sort.permIn_trans _ _ _ _ _ HPM3.out (HRE.out.2.2.2.2 R h1 h2).1) (HRE.out.2.2.2.2 R h1 h2).2⟩
      case measure => simp [intOf]; have := HRE.out; omega
    | false =>
      have hre := fun m ap dd hx => Go.Sort.round_part swo_ltN (Go.Sort.partition_holds ltN) (ap := ap) (mid := m) (d4 := dd) hp21 hp22 HSZ3.out HB3.out hx
      have hcall := qpart_any w0 B G n c s e p2 d3 w5 HS5.out hp21 hp22 hen hn
      obtain ⟨⟨mid, ap, d4⟩, hmid⟩ : ∃ z, Go.Sort.partition ltN d3 s e p2 = z := ⟨_, rfl⟩
      have HRE := Lib.hid (hre mid ap d4 hmid)
      rw [hmid] at hcall
      have HCALL := Lib.hid hcall
      clear hre hcall hmid HRR
      obtain ⟨hm1, hm2, _⟩ := HRE.out
      obtain ⟨L, hL⟩ : ∃ z, mid - s = z := ⟨_, rfl⟩
      obtain ⟨Q, hQ⟩ : ∃ z, e - mid = z := ⟨_, rfl⟩
      obtain ⟨k8, hk8⟩ : ∃ z, k / 8 = z := ⟨_, rfl⟩
      obtain ⟨m1, hm1'⟩ : ∃ z, mid + 1 = z := ⟨_, rfl⟩
      have hLI : (mid : Int) - (s : Int) = (L : Int) := by omega
      have hQI : (e : Int) - (mid : Int) = (Q : Int) := by omega
      have hkT : (k : Int).tdiv 8 = (k8 : Int) := by rw [Int.tdiv_eq_ediv_of_nonneg (by omega)]; omega
      have hkE : (k : Int) / 8 = (k8 : Int) := by omega
      have hm1I : (mid : Int) + 1 = (m1 : Int) := by omega
      have hLw := wrap9 n L (by omega) (by omega)
      have hQw := wrap9 n Q (by omega) (by omega)
      have hkw8 := wrap9 n k8 (by omega) (by omega)
      have hm1w := wrap9 n m1 (by omega) (by omega)
      have HM : Hid (s ≤ mid ∧ mid < e ∧ m1 = mid + 1 ∧ e ≤ b ∧ a ≤ s ∧ b ≤ n) := Lib.hid (by have := HAB.out; omega)
      have hL0 : (0 : Int) ≤ L := by omega
      have hQ0 : (0 : Int) ≤ Q := by omega
      have hmid0 : (0 : Int) ≤ mid := by omega
      have hmid9 : (mid : Int) ≤ 1000000 := by omega
      clear hm1 hm2 hL hQ hk8
      by_cases hlr : L < Q
      · have hd4 : decide ((L : Int) < (Q : Int)) = true := decide_eq_true (by omega)
        have hd4N : decide (L < Q) = true := decide_eq_true hlr
        clear hm1'
        go_wp2_with fail
        refine HCALL.out.mono ?_
        rintro ed w6 ⟨rfl, hS6⟩
        have HS6 := Lib.hid hS6
        clear hS6
        go_wp2_with fail
        refine (HIH.out s mid l2 d4 w6 (by have := HM.out; omega) (by have := HM.out; omega) (by have := HM.out; omega) hl2 HS6.out HRE.out.2.2.2.1).mono ?_
        rintro ed w7 ⟨d5, rfl, hp5, hs5, hS7⟩
        have HS7 := Lib.hid hS7
        have HX := Lib.hid (HRE.out.2.2.2.2.2.1 d5 hp5 hs5)
        have hm1N := HM.out.2.2.1
        rw [← hm1N] at HX
        clear hS7 hp5 hs5 hm1N
        go_wp2_with fail
        go_roundw
        case rel => exact ⟨m1, e, l2, _, ap, d5, rfl, rfl, rfl, rfl, rfl, by have := HM.out; omega, HS7.out, HX.out.1, fun R h1 h2 => HR.out R (Go.Sort.permIn_trans _ _ _ _ _ HPM3.out (HX.out.2 R h1 h2).1) (HX.out.2 R h1 h2).2⟩
        case measure => simp [intOf]; have := HM.out; omega
      · have hd4 : decide ((L : Int) < (Q : Int)) = false := decide_eq_false (by omega)
        have hd4N : decide (L < Q) = false := decide_eq_false hlr
        clear hm1'
        go_wp2_with fail
        refine HCALL.out.mono ?_
        rintro ed w6 ⟨rfl, hS6⟩
        have HS6 := Lib.hid hS6
        clear hS6
        go_wp2_with fail
        have hm1N := HM.out.2.2.1
        refine (HIH.out m1 e l2 d4 w6 (by have := HM.out; omega) (by have := HM.out; omega) (by have := HM.out; omega) hl2 HS6.out (by rw [hm1N]; exact HRE.out.2.2.2.2.1)).mono ?_
        rintro ed w7 ⟨d5, rfl, hp5, hs5, hS7⟩
        have HS7 := Lib.hid hS7
        rw [hm1N] at hp5 hs5
        have HX := Lib.hid (HRE.out.2.2.2.2.2.2 d5 hp5 hs5)
        clear hS7 hp5 hs5 hm1N
        go_wp2_with fail
        go_roundw
        case rel => exact ⟨s, mid, l2, _, ap, d5, rfl, rfl, rfl, rfl, rfl, by have := HM.out; omega, HS7.out, HX.out.1, fun R h1 h2 => HR.out R (Go.Sort.permIn_trans _ _ _ _ _ HPM3.out (HX.out.2 R h1 h2).1) (HX.out.2 R h1 h2).2⟩
        case measure => simp [intOf]; have := HM.out; omega
end Go.Proofs.Ytofiokegdgdacaa

/- Sorting words: slices.Sort. -/
namespace Go.Proofs.Ytofiokegdgdacaa
open Go.BigFrame
open Go.RowKit Go.Proofs.Ytofiokegdgdacaa.Plain
open Go.Sort (PermIn SortedIn)

theorem Plain.perm_of_in {l : List Nat} {d' : Array Nat} (h : PermIn 0 l.length l.toArray d') : d'.toList.Perm l := by
  obtain ⟨h1, _, h3⟩ := h
  have h1' : d'.size = l.length := by rw [h1]; simp
  have e1 : d'.extract 0 l.length = d' := by rw [← h1']; simp
  have e2 : l.toArray.extract 0 l.length = l.toArray := by simp
  rw [e1, e2] at h3
  exact h3
theorem Plain.pair_of_in {n : Nat} {d' : Array Nat} (hn : d'.size = n) (h : SortedIn ltN 0 n d') : d'.toList.Pairwise (· ≤ ·) := by
  rw [List.pairwise_iff_getElem]
  intro i j hi hj hij
  have h1 := h i j (Nat.zero_le _) hij (by rw [← hn]; simpa using hj)
  have e : ∀ k, (hk : k < d'.toList.length) → d'[k]! = d'.toList[k] := fun k hk => by
    rw [← arr_getD, List.getD_eq_getElem?_getD, List.getElem?_eq_getElem hk]; rfl
  rw [e i hi, e j hj] at h1
  simp only [ltN, decide_eq_false_iff_not] at h1
  omega
set_option maxHeartbeats 3200000 in
set_option maxRecDepth 100000 in
theorem qlen0_any (w : World) :
    Calls Try.prog 49 #[.int .u64 0] w fun ed w' => ed = .returned (.int .i64 0) ∧ w' = w := by
  have H : Hid (Calls Try.prog 60 #[.int .u64 0] w fun ed w' => ed = .returned (.int .i64 0) ∧ w' = w) := Lib.hid (by
    go_enter Try.func60, Try.ntmps60
    go_wp2_with fail
    generalize hr : UInt8.toNat _ = r
    have hr0 : r = 0 := by rw [← hr]; rfl
    subst hr0
    go_ret
    refine ⟨?_, rfl⟩
    show Ending.returned (Value.int .i64 (wrap64 (wrap64 ((0 : Nat) : Int)))) = _
    rw [show wrap64 (wrap64 ((0 : Nat) : Int)) = 0 by unfold wrap64; omega])
  go_enter Try.func49, Try.ntmps49
  go_wp2_with fail
  refine H.out.mono ?_
  rintro ed w1 ⟨rfl, rfl⟩
  go_wp2_with fail
  go_ret
  exact ⟨rfl, rfl⟩
set_option maxHeartbeats 3200000 in
set_option maxRecDepth 100000 in
theorem qins0_any (A : Option Addr) (c : Nat) (w : World) :
    Calls Try.prog 51 #[.slice A 0 c, .int .i64 0, .int .i64 0] w fun ed w' => ed = .returned (.tuple #[]) ∧ w' = w := by
  go_enter Try.func51, Try.ntmps51
  go_wp2_with fail
  go_loopw [6] (fun v wr => v = .int .i64 1 ∧ wr = w) (fun _ _ => 0)
  case atStart => exact ⟨rfl, rfl⟩
  case round =>
    obtain ⟨rfl, rfl⟩ := hrel
    go_wp2_with fail
    go_end0
    exact ⟨rfl, rfl⟩
set_option maxHeartbeats 3200000 in
set_option maxRecDepth 100000 in
theorem qpdq0_any (A : Option Addr) (c : Nat) (w : World) :
    Calls Try.prog 48 #[.slice A 0 c, .int .i64 0, .int .i64 0, .int .i64 0] w fun ed w' => ed = .returned (.tuple #[]) ∧ w' = w := by
  have H := Lib.hid (qins0_any A c w)
  go_enter Try.func48, Try.ntmps48
  go_wp2_with fail
  go_loopw [1, 2, 3, 8, 9] (fun v1 v2 v3 v8 v9 wr => v1 = .int .i64 0 ∧ v2 = .int .i64 0 ∧ v3 = .int .i64 0 ∧ v8 = .bool true ∧ v9 = .bool true ∧ wr = w) (fun _ _ _ _ _ _ => 0)
  case atStart => exact ⟨rfl, rfl, rfl, rfl, rfl, rfl⟩
  case round =>
    obtain ⟨rfl, rfl, rfl, rfl, rfl, rfl⟩ := hrel
    go_wp2_with fail
    refine H.out.mono ?_
    rintro ed w5 ⟨rfl, rfl⟩
    go_wp2_with fail
    refine bodyPost_ret (v := .tuple #[]) (by simp [results, Try.results48, go_sem]) rfl ⟨rfl, rfl⟩
set_option maxHeartbeats 3200000 in
set_option maxRecDepth 100000 in
theorem qsort0_any (A : Option Addr) (c : Nat) (w : World) :
    Calls Try.prog 42 #[.slice A 0 c] w fun ed w' => ed = .returned (.tuple #[]) ∧ w' = w := by
  have H := Lib.hid (qpdq0_any A c w)
  go_enter Try.func42, Try.ntmps42
  go_wp2_with fail
  refine (qlen0_any _).mono ?_
  rintro ed w1 ⟨rfl, rfl⟩
  go_wp2_with fail
  refine H.out.mono ?_
  rintro ed w1 ⟨rfl, rfl⟩
  go_wp2_with fail
  go_end0
  exact ⟨rfl, rfl⟩
set_option maxHeartbeats 3200000 in
set_option maxRecDepth 100000 in
theorem qsort_any (l : List Nat) (G B c : Nat) (w0 w : World) (h : Ow kU32 B w (.slice (some ⟨G, 0, none⟩) l.length c) (zs l)) (hE : Ext w0 w) (hB : w0.heap.size ≤ B) (h1 : 1 ≤ l.length) (hn : l.length ≤ 1000000) :
    Calls Try.prog 42 #[.slice (some ⟨G, 0, none⟩) l.length c] w fun ed w' => ∃ l' : List Nat, ed = .returned (.tuple #[]) ∧ l'.Perm l ∧ l'.Pairwise (· ≤ ·) ∧ Ow kU32 B w' (.slice (some ⟨G, 0, none⟩) l.length c) (zs l') ∧ Ext w0 w' := by
  obtain ⟨n, hln⟩ : ∃ n, l.length = n := ⟨_, rfl⟩
  have hS : SA w0 B G n c l.toArray w := ⟨by rw [← hln]; exact h, hE, by simpa using hln, hB⟩
  have HS := Lib.hid hS
  have HCALL := Lib.hid (fun r (hr : r ≤ 64) => qpdq_any w0 B G n c (by omega) n 0 n r l.toArray w (Nat.le_refl _) (Nat.zero_le _) (Nat.le_refl _) hr hS (.inl rfl))
  have HLEN := Lib.hid (qlen_any n w (by omega) (by omega))
  have hw : IntKind.u64.wrap (n : Int) = (n : Int) := by rw [IntKind.wrap_u64]; omega
  have HPL : Hid (∀ d', PermIn 0 n l.toArray d' → d'.toList.Perm l) := Lib.hid (fun d' hp => Plain.perm_of_in (by rw [hln]; exact hp))
  rw [hln]
  clear h hE hB h1 hn hS hln
  go_enter Try.func42, Try.ntmps42
  go_wp2_with fail
  refine HLEN.out.mono ?_
  rintro ed w1 ⟨r, rfl, _, hr, rfl⟩
  have HR := Lib.hid hr
  clear hr
  go_wp2_with fail
  refine (HCALL.out r HR.out).mono ?_
  rintro ed w2 ⟨d', rfl, hp, hs, hS2⟩
  have HS2 := Lib.hid hS2
  have HP := Lib.hid (HPL.out d' hp)
  have HQ := Lib.hid (Plain.pair_of_in HS2.out.sz hs)
  clear hp hs hS2
  go_wp2_with fail
  go_end0
  exact ⟨d'.toList, rfl, HP.out, HQ.out, HS2.out.o, HS2.out.e⟩
end Go.Proofs.Ytofiokegdgdacaa

/- The library at words, at bools: Clone. -/
namespace Go.Proofs.Ytofiokegdgdacaa
open Go.BigFrame
open Go.RowKit Go.Proofs.Ytofiokegdgdacaa.Plain

set_option maxHeartbeats 3200000 in
set_option maxRecDepth 100000 in
theorem clone32 (v : Value) (xs : List Int) (w : World) (h : Rd kU32 w v xs) (hl : xs.length ≤ 1048576) :
    Calls Try.prog 39 #[v] w fun e w' => ∃ A c, e = .returned (.slice A xs.length c) ∧ Ow kU32 w.heap.size w' (.slice A xs.length c) xs ∧ Ext w w' := by
  have hi := Lib.hid h
  obtain ⟨hm, hb, A, cap, rfl, hcap, hc⟩ := h
  have HC := Lib.hid hc
  clear hc hb hm
  have hnil := fun (w : World) (a : Option Addr) (n c : Nat) => Lib.run_eql_slice_nil w 22 34 a n c 0 0 Try.underlying22
  cases A with
  | none =>
    have h0 : xs = [] := by
      cases xs with
      | nil => rfl
      | cons a l => obtain ⟨b, off, h, _⟩ := HC.out (by simp); cases h
    subst h0
    go_enter Try.func39, Try.ntmps39
    go_wp2_with fail
    go_ret
    exact ⟨_, _, rfl, Ow.nil _ _, Ext.refl _⟩
  | some ad =>
    go_enter Try.func39, Try.ntmps39
    go_wp2_with (at_builtin; refine kU32.wpList_app (by rfl) _ _ (by rfl) (by rfl) w.heap.size _ [] (by rfl) (empty_at (heap_alloc_new _ _) (Nat.le_refl _)) _ xs (by rfl) (hi.out.ext ((Ext.refl w).alloc _)) (by simpa using hl) (by simp) ?_; intro u w1 hown hgrow hat1)
    go_ret
    obtain ⟨A1, c1, rfl, _⟩ := hown.slice
    refine ⟨A1, c1, by simp, by simpa using hown, ((Ext.refl w).alloc _).grown hgrow (fun k hk => ?_)⟩
    cases hk; exact Nat.le_refl _
set_option maxHeartbeats 3200000 in
set_option maxRecDepth 100000 in
theorem cloneB (v : Value) (xs : List Bool) (w : World) (h : Rd kBool w v xs) (hl : xs.length ≤ 1048576) :
    Calls Try.prog 40 #[v] w fun e w' => ∃ A c, e = .returned (.slice A xs.length c) ∧ Ow kBool w.heap.size w' (.slice A xs.length c) xs ∧ Ext w w' := by
  have hi := Lib.hid h
  obtain ⟨hm, hb, A, cap, rfl, hcap, hc⟩ := h
  have HC := Lib.hid hc
  clear hc hb hm
  have hnil := fun (w : World) (a : Option Addr) (n c : Nat) => Lib.run_eql_slice_nil w 23 4 a n c 0 0 Try.underlying23
  cases A with
  | none =>
    have h0 : xs = [] := by
      cases xs with
      | nil => rfl
      | cons a l => obtain ⟨b, off, h, _⟩ := HC.out (by simp); cases h
    subst h0
    go_enter Try.func40, Try.ntmps40
    go_wp2_with fail
    go_ret
    exact ⟨_, _, rfl, Ow.nil _ _, Ext.refl _⟩
  | some ad =>
    go_enter Try.func40, Try.ntmps40
    go_wp2_with (at_builtin; refine kBool.wpList_app (by rfl) _ _ (by rfl) (by rfl) w.heap.size _ [] (by rfl) (empty_at (heap_alloc_new _ _) (Nat.le_refl _)) _ xs (by rfl) (hi.out.ext ((Ext.refl w).alloc _)) (by simpa using hl) (by simp) ?_; intro u w1 hown hgrow hat1)
    go_ret
    obtain ⟨A1, c1, rfl, _⟩ := hown.slice
    refine ⟨A1, c1, by simp, by simpa using hown, ((Ext.refl w).alloc _).grown hgrow (fun k hk => ?_)⟩
    cases hk; exact Nat.le_refl _
end Go.Proofs.Ytofiokegdgdacaa

/- Plain words: of those that follow one another and are the same one stays. No program in it. -/
namespace Go.Proofs.Ytofiokegdgdacaa.Plain
def compS (out : List Nat) (x : Nat) : List Nat := if out.getLast? = some x then out else out ++ [x]
def compL (l : List Nat) : List Nat := l.foldl compS []
theorem compL_snoc (l : List Nat) (x : Nat) : compL (l ++ [x]) = compS (compL l) x := by unfold compL; rw [List.foldl_append]; rfl
theorem compS_last (out : List Nat) (x : Nat) : (compS out x).getLast? = some x := by
  unfold compS
  split
  · assumption
  · simp
theorem compL_last (l : List Nat) (x : Nat) : (compL (l ++ [x])).getLast? = some x := by rw [compL_snoc, compS_last]
theorem take_snoc9 (l : List Nat) (p : Nat) (hp : p < l.length) : l.take (p + 1) = l.take p ++ [l.getD p 0] := by
  rw [List.take_succ_eq_append_getElem hp, List.getD_eq_getElem?_getD, List.getElem?_eq_getElem hp]; rfl
/-- one more place is looked at -/
theorem compL_step (l : List Nat) (p q : Nat) (hq : p = q + 1) (hp : p < l.length) :
    (l.getD p 0 = l.getD q 0 → compL (l.take (p + 1)) = compL (l.take p)) ∧ (l.getD p 0 ≠ l.getD q 0 → compL (l.take (p + 1)) = compL (l.take p) ++ [l.getD p 0]) := by
  have hl : (compL (l.take p)).getLast? = some (l.getD q 0) := by
    subst hq
    rw [take_snoc9 l q (by omega), compL_last]
  rw [take_snoc9 l p hp, compL_snoc]
  unfold compS
  rw [hl]
  constructor
  · intro h; rw [if_pos (by rw [h])]
  · intro h; rw [if_neg (fun e => h (by injection e with e; exact e.symm))]
theorem compL_one (l : List Nat) (h : 0 < l.length) : compL (l.take 1) = l.take 1 := by
  cases l with
  | nil => cases h
  | cons a l => rfl
theorem compL_len : ∀ (n : Nat) (l : List Nat), l.length = n → (compL l).length ≤ n
  | 0, l, h => by obtain rfl : l = [] := List.eq_nil_of_length_eq_zero h; exact Nat.le_refl _
  | n + 1, l, h => by
    obtain ⟨m, x, rfl⟩ : ∃ m x, l = m ++ [x] := ⟨l.dropLast, l.getLast (by intro e; subst e; simp at h), (List.dropLast_concat_getLast _).symm⟩
    rw [List.length_append, List.length_singleton] at h
    have := compL_len n m (by omega)
    rw [compL_snoc]
    unfold compS
    split
    · omega
    · rw [List.length_append, List.length_singleton]; omega
theorem compL_mem : ∀ (n : Nat) (l : List Nat), l.length = n → ∀ y, y ∈ compL l ↔ y ∈ l
  | 0, l, h, y => by obtain rfl : l = [] := List.eq_nil_of_length_eq_zero h; exact Iff.rfl
  | n + 1, l, h, y => by
    obtain ⟨m, x, rfl⟩ : ∃ m x, l = m ++ [x] := ⟨l.dropLast, l.getLast (by intro e; subst e; simp at h), (List.dropLast_concat_getLast _).symm⟩
    rw [List.length_append, List.length_singleton] at h
    have := compL_mem n m (by omega) y
    rw [compL_snoc, List.mem_append, List.mem_singleton, ← this]
    unfold compS
    split
    · rename_i hl
      constructor
      · exact .inl
      · rintro (h9 | rfl)
        · exact h9
        · exact List.mem_of_getLast? hl
    · rw [List.mem_append, List.mem_singleton]
theorem compL_rise : ∀ (n : Nat) (l : List Nat), l.length = n → l.Pairwise (· ≤ ·) → (compL l).Pairwise (· < ·)
  | 0, l, h, _ => by obtain rfl : l = [] := List.eq_nil_of_length_eq_zero h; exact List.Pairwise.nil
  | n + 1, l, h, hp => by
    obtain ⟨m, x, rfl⟩ : ∃ m x, l = m ++ [x] := ⟨l.dropLast, l.getLast (by intro e; subst e; simp at h), (List.dropLast_concat_getLast _).symm⟩
    rw [List.length_append, List.length_singleton] at h
    rw [List.pairwise_append] at hp
    obtain ⟨h1, _, h3⟩ := hp
    have ih := compL_rise n m (by omega) h1
    rw [compL_snoc]
    unfold compS
    split
    · exact ih
    · rename_i hl
      rw [List.pairwise_append]
      refine ⟨ih, List.pairwise_singleton _ _, fun a ha b hb => ?_⟩
      rw [List.mem_singleton] at hb
      subst hb
      have ha' := (compL_mem _ m rfl a).1 ha
      have hle := h3 a ha' b (by simp)
      rcases Nat.lt_or_ge a b with h9 | h9
      · exact h9
      · exfalso
        obtain rfl : a = b := by omega
        -- the last one of m is at least each of m, and at most a
        cases hm : m.getLast? with
        | none => rw [List.getLast?_eq_none_iff] at hm; subst hm; cases ha'
        | some z =>
          obtain ⟨m', rfl⟩ : ∃ m', m = m' ++ [z] := List.getLast?_eq_some_iff.1 hm
          rw [compL_last] at hl
          have hz1 := h3 z (by simp) a (by simp)
          have hz2 : a ≤ z := by
            rw [List.pairwise_append] at h1
            rcases List.mem_append.1 ha' with h9 | h9
            · exact h1.2.2 a h9 z (by simp)
            · rw [List.mem_singleton] at h9; omega
          exact hl (by rw [show z = a by omega])
/-- what sorting and striking out leaves is the rising list -/
theorem rising_of_sorted {l l' : List Nat} (hp : l'.Perm l) (hs : l'.Pairwise (· ≤ ·)) : compL l' = risingR l :=
  rising_one (compL_rise _ _ rfl hs) (risingR_good _ _ rfl).1 fun y => by rw [compL_mem _ _ rfl, (risingR_good _ _ rfl).2.1, hp.mem_iff]
/-- the cells while it is under way -/
def compM (l : List Nat) (p : Nat) : List Nat := compL (l.take p) ++ l.drop (compL (l.take p)).length
theorem compM_len (l : List Nat) (p : Nat) (hp : p ≤ l.length) : (compM l p).length = l.length := by
  unfold compM
  have := compL_len _ (l.take p) rfl
  rw [List.length_take] at this
  rw [List.length_append, List.length_drop]; omega
theorem compM_at (l : List Nat) (p j : Nat) (h : (compL (l.take p)).length ≤ j) : (compM l p).getD j 0 = l.getD j 0 := by
  unfold compM
  rw [List.getD_eq_getElem?_getD, List.getElem?_append_right h, List.getElem?_drop, List.getD_eq_getElem?_getD]
  congr 2; omega
theorem compM_same (l : List Nat) (p q : Nat) (hq : p = q + 1) (hp : p < l.length) (h : l.getD p 0 = l.getD q 0) : compM l (p + 1) = compM l p := by
  unfold compM
  rw [(compL_step l p q hq hp).1 h]
theorem compM_more (l : List Nat) (p q : Nat) (hq : p = q + 1) (hp : p < l.length) (h : l.getD p 0 ≠ l.getD q 0) (hk : (compL (l.take p)).length < l.length) : compM l (p + 1) = (compM l p).set (compL (l.take p)).length (l.getD p 0) := by
  unfold compM
  rw [(compL_step l p q hq hp).2 h]
  obtain ⟨k, hk'⟩ : ∃ k, (compL (l.take p)).length = k := ⟨_, rfl⟩
  rw [List.length_append, List.length_singleton, hk', List.set_append, if_neg (by omega), hk', Nat.sub_self]
  rw [hk'] at hk
  rw [List.drop_eq_getElem_cons hk, List.set_cons_zero, List.append_assoc]
  rfl
end Go.Proofs.Ytofiokegdgdacaa.Plain

/- The library at words: Compact. -/
namespace Go.Proofs.Ytofiokegdgdacaa
open Go.BigFrame
open Go.RowKit Go.Proofs.Ytofiokegdgdacaa.Plain

theorem zeros_at (M : List Nat) (k m : Nat) (hk : k ≤ M.length) (hm : m = M.length - k) : ∀ (B G c : Nat) (w : World), Ow kU32 B w (.slice (some ⟨G, 0, none⟩) M.length c) (zs M) →
    Ow kU32 B (w.setCells G k (List.replicate m (.int .u32 0))) (.slice (some ⟨G, 0, none⟩) M.length c) (zs (M.take k ++ List.replicate m 0)) ∧ (∀ w0 : World, Ext w0 w → w0.heap.size ≤ G → Ext w0 (w.setCells G k (List.replicate m (.int .u32 0)))) := by
  induction m generalizing M k with
  | zero =>
    intro B G c w h
    have e : M.take k ++ List.replicate 0 0 = M := by rw [List.replicate_zero, List.append_nil, List.take_of_length_le (by omega)]
    rw [e]
    exact ⟨h, fun w0 hE _ => hE⟩
  | succ m ih =>
    intro B G c w h
    have h1 := h.setN (u := k) (v := 0) (by omega) (by omega)
    have h2 := ih (M.set k 0) (k + 1) (by rw [List.length_set]; omega) (by rw [List.length_set]; omega) B G c _ (by rw [List.length_set]; exact h1)
    rw [List.length_set] at h2
    have e : (M.set k 0).take (k + 1) ++ List.replicate m 0 = M.take k ++ List.replicate (m + 1) 0 := by
      rw [List.replicate_succ, take_snoc9 _ k (by rw [List.length_set]; omega), List.take_set_of_le (Nat.le_refl _), List.append_assoc]
      congr 1
      rw [List.getD_eq_getElem?_getD, List.getElem?_set, if_pos rfl, if_pos (by omega)]; rfl
    rw [e] at h2
    exact ⟨h2.1, fun w0 hE hG => h2.2 w0 (hE.setCell (p := ⟨G, k, none⟩) hG _) hG⟩
set_option maxHeartbeats 3200000 in
set_option maxRecDepth 100000 in
theorem compact0_any (A : Option Addr) (c : Nat) (w : World) :
    Calls Try.prog 43 #[.slice A 0 c] w fun ed w' => ed = .returned (.slice A 0 c) ∧ w' = w := by
  go_enter Try.func43, Try.ntmps43
  go_wp2_with fail
  go_ret
  exact ⟨rfl, rfl⟩
set_option maxHeartbeats 3200000 in
set_option maxRecDepth 100000 in
theorem compact32 (l : List Nat) (G B c : Nat) (w0 w : World) (h : Ow kU32 B w (.slice (some ⟨G, 0, none⟩) l.length c) (zs l)) (hE : Ext w0 w) (hB : w0.heap.size ≤ B) (h1 : 1 ≤ l.length) (hn : l.length ≤ 1000000) :
    Calls Try.prog 43 #[.slice (some ⟨G, 0, none⟩) l.length c] w fun ed w' => ed = .returned (.slice (some ⟨G, 0, none⟩) (compL l).length c) ∧ Ow kU32 B w' (.slice (some ⟨G, 0, none⟩) (compL l).length c) (zs (compL l)) ∧ Ext w0 w' := by
  have hnc : l.length ≤ c := by
    obtain ⟨A, c', e, hc⟩ := h.slice
    rw [zs_len] at e hc
    cases e
    exact hc
  obtain ⟨n, hln⟩ : ∃ n, l.length = n := ⟨_, rfl⟩
  have hBG : B ≤ G := (h.atN (u := 0) (by omega)).2.2.2.1
  have HN := Lib.hid hln
  rw [hln] at h hnc h1 hn ⊢
  have HO := Lib.hid h
  have HE := Lib.hid hE
  have HG : Hid (w0.heap.size ≤ G) := Lib.hid (Nat.le_trans hB hBG)
  have hn9 : (n : Int) ≤ 1000000 := by omega
  have hnc9 : (n : Int) ≤ c := by omega
  clear h hE hln hB hBG
  go_enter Try.func43, Try.ntmps43
  by_cases h2 : n < 2
  · obtain rfl : n = 1 := by omega
    have HC : Hid (compL l = l) := Lib.hid (by
      have := compL_one l (by rw [HN.out]; omega)
      rw [List.take_of_length_le (by rw [HN.out]; omega)] at this; exact this)
    go_wp2_with fail
    go_ret
    rw [HC.out, HN.out]
    exact ⟨rfl, HO.out, HE.out⟩
  have hd0 : decide ((n : Int) < 2) = false := decide_eq_false (by omega)
  have hd0N : decide (n < 2) = false := decide_eq_false h2
  go_wp2_with fail
  go_loopw [3] (fun v wr => ∃ k : Nat, v = .int .i64 k ∧ (1 ≤ k ∧ k ≤ n) ∧ compL (l.take k) = l.take k ∧ Ow kU32 B wr (.slice (some ⟨G, 0, none⟩) n c) (zs l) ∧ Ext w0 wr) (fun v _ => n - (intOf v).toNat)
  case atStart => exact ⟨1, rfl, by omega, compL_one l (by rw [HN.out]; omega), HO.out, HE.out⟩
  case round =>
    obtain ⟨k, rfl, hk, hcl, hO, hX⟩ := hrel
    have HO1 := Lib.hid hO
    have HX1 := Lib.hid hX
    have HCL := Lib.hid hcl
    obtain ⟨hk1, hk2⟩ := hk
    have hk0 : (0 : Int) ≤ k := by omega
    clear hO hX hcl HO HE
    by_cases hlt : k < n
    · have hlt' : (k : Int) < n := by omega
      have hd1 : decide (k < n) = true := decide_eq_true hlt
      obtain ⟨q, hq⟩ : ∃ q, k = q + 1 := ⟨k - 1, by omega⟩
      have hqI : (k : Int) - 1 = (q : Int) := by omega
      have hqw : IntKind.i64.wrap (q : Int) = (q : Int) := IntWalk.i64_in _ (by omega)
      have hq0 : (0 : Int) ≤ q := by omega
      have hqn : (q : Int) < n := by omega
      obtain ⟨zk, fk, _, _, lbG⟩ := HO1.out.atN (u := k) (by rw [HN.out]; exact hlt)
      obtain ⟨zq, _, _, _, _⟩ := HO1.out.atN (u := q) (by rw [HN.out]; omega)
      have hst := compL_step l k q hq (by rw [HN.out]; exact hlt)
      obtain ⟨x, hx⟩ : ∃ x, l.getD k 0 = x := ⟨_, rfl⟩
      obtain ⟨y, hy⟩ : ∃ y, l.getD q 0 = y := ⟨_, rfl⟩
      rw [hx] at zk
      rw [hy] at zq
      rw [hx, hy] at hst
      have HXY := Lib.hid (And.intro hx hy)
      have KS := Lib.hid (fun w' (hE : Ext wr w') => And.intro (hE.cell zk) (hE.cell zq))
      have HST := Lib.hid hst
      have HQ := Lib.hid hq
      clear hx hy zk zq fk hst hq
      by_cases hxy : x = y
      · -- one is there twice: from here on it is written
        subst hxy
        have hb : ((x : Int) == (x : Int)) = true := by simp
        have hbN : (x == x) = true := by simp
        have hkc : ¬ (c = k) := by omega
        have hkc9 : (k : Int) ≤ c := by omega
        go_wp2_with fail
        refine wp_region_class (Ext wr) (by kernel_rfl) (by kernel_rfl) (Ext.refl _).drew ?_
        try simp only [List.append_eq, List.cons_append, List.nil_append]
        repeat (first
          | go_big_quiet_skip
          | (go_big_quiet_want
             first
             | (go_big_quiet_op; go_big_quiet_on)
             | (unfold Oper.quiet
                apply Exists.intro
                refine ⟨fun w' hC => ?_, ?_⟩
                · (obtain ⟨k1, k2⟩ := KS.out w' hC
                   unfold Oper.quietAt
                   go_simp
                   first
                   | exact rfl)
                go_simp
                go_big_quiet_on)))
        refine wpQuiet_nil ?_
        intro w9 hC9
        have HO9 := Lib.hid (HO1.out.ext hC9)
        have HX9 := Lib.hid (HX1.out.trans hC9)
        clear KS HX1 hC9
        go_wp2_with fail
        obtain ⟨m, hm⟩ : ∃ m, n - k = m := ⟨_, rfl⟩
        have HM : Hid (k + m = n ∧ 1 ≤ m) := Lib.hid (by omega)
        have hm9 : (m : Int) ≤ 1000000 := by omega
        have HS0 : Hid ((compL (l.take (k + 1))).length = k ∧ compM l (k + 1) = l) := Lib.hid (by
          have e1 : compL (l.take (k + 1)) = l.take k := (by first | exact HST.out.1 rfl | exact HST.out.1 trivial : compL (l.take (k + 1)) = compL (l.take k)).trans HCL.out
          have e2 : (l.take k).length = k := by rw [List.length_take, HN.out]; omega
          unfold compM
          rw [e1, e2]
          exact ⟨rfl, List.take_append_drop k l⟩)
        rw [hm]
        clear HST HCL HXY HQ hqI hqw hq0 hqn hd1
        go_loopw [3, 5] (fun v3 v5 wq => ∃ (t kk : Nat), v3 = .int .i64 kk ∧ v5 = .int .i64 t ∧ (1 ≤ t ∧ t ≤ m) ∧ ((compL (l.take (k + t))).length = kk ∧ kk < k + t) ∧ Ow kU32 B wq (.slice (some ⟨G, 0, none⟩) n c) (zs (compM l (k + t))) ∧ Ext w0 wq) (fun _ v5 _ => m - (intOf v5).toNat)
        case atStart => exact ⟨1, k, rfl, rfl, by have := HM.out; omega, ⟨HS0.out.1, by omega⟩, by rw [HS0.out.2]; exact HO9.out, HX9.out⟩
        case round =>
          obtain ⟨t, kk, rfl, rfl, ht, hkk, hO, hX⟩ := hrel
          rename World => wq
          have HOq := Lib.hid hO
          have HXq := Lib.hid hX
          obtain ⟨ht1, ht2⟩ := ht
          have ht0 : (0 : Int) ≤ t := by omega
          have hkk0 : (0 : Int) ≤ kk := by omega
          have HKK := Lib.hid hkk
          have hkt : k + t ≤ n := by have := HM.out; omega
          have hkn : kk < n := by have := HKK.out.2; omega
          have hkn9 : (kk : Int) < n := by omega
          have hML : (compM l (k + t)).length = n := (compM_len l (k + t) (by rw [HN.out]; exact hkt)).trans HN.out
          have HML := Lib.hid hML
          clear hO hX HO9 HX9 hML hkk
          by_cases hlt2 : t < m
          · have hlt3 : (t : Int) < m := by omega
            have hd2 : decide (t < m) = true := decide_eq_true hlt2
            obtain ⟨r, hr⟩ : ∃ r, t = r + 1 := ⟨t - 1, by omega⟩
            have hrI : (t : Int) - 1 = (r : Int) := by omega
            have hrw : IntKind.i64.wrap (r : Int) = (r : Int) := IntWalk.i64_in _ (by omega)
            have hr0 : (0 : Int) ≤ r := by omega
            have hrm : (r : Int) < m := by omega
            obtain ⟨zt, ft, _, _, lbG2⟩ := HOq.out.atN (u := k + t) (by have := HML.out; have := HM.out; omega)
            obtain ⟨zr, _, _, _, _⟩ := HOq.out.atN (u := k + r) (by have := HML.out; have := HM.out; omega)
            obtain ⟨zk, fk, _, _, _⟩ := HOq.out.atN (u := kk) (by have := HML.out; omega)
            rw [compM_at l _ _ (by have := HKK.out; omega)] at zt
            rw [compM_at l _ _ (by have := HKK.out; omega)] at zr
            have hst := compL_step l (k + t) (k + r) (by omega) (by rw [HN.out]; have := HM.out; omega)
            have hsm := compM_same l (k + t) (k + r) (by omega) (by rw [HN.out]; have := HM.out; omega)
            have hmo := fun hne => compM_more l (k + t) (k + r) (by omega) (by rw [HN.out]; have := HM.out; omega) hne (by have := HKK.out; rw [HN.out]; omega)
            obtain ⟨x1, hx1⟩ : ∃ x, l.getD (k + t) 0 = x := ⟨_, rfl⟩
            obtain ⟨y1, hy1⟩ : ∃ y, l.getD (k + r) 0 = y := ⟨_, rfl⟩
            rw [hx1] at zt
            rw [hy1] at zr
            rw [hx1, hy1] at hst hsm hmo
            rw [HKK.out.1] at hmo
            have hx9 : x1 < 4294967296 := by rw [← hx1, List.getD_eq_getElem?_getD]; cases ho : l[k + t]? with
              | none => simp
              | some z => exact (zs_lt HO1.out.rd z (List.mem_of_getElem? ho))
            have HST := Lib.hid (And.intro hst (And.intro hsm hmo))
            have KS2 := Lib.hid (fun w' (hE : Ext wq w') => And.intro (hE.cell zt) (hE.cell zr))
            have HR := Lib.hid hr
            have HX9 := Lib.hid hx9
            have HSET := Lib.hid (HOq.out.setN (u := kk) (v := x1) (by have := HML.out; omega) hx9)
            clear hx1 hy1 zr hst hsm hmo hr hx9 zk ft
            by_cases hxy2 : x1 = y1
            · have hb1 : ((x1 : Int) != (y1 : Int)) = false := by simp [hxy2]
              have hb1N : (x1 != y1) = false := by simp [hxy2]
              have HXY2 := Lib.hid hxy2
              clear hxy2
              go_wp2_with fail
              refine wp_region_class (Ext wq) (by kernel_rfl) (by kernel_rfl) (Ext.refl _).drew ?_
              try simp only [List.append_eq, List.cons_append, List.nil_append]
              repeat (first
                | go_big_quiet_skip
                | (go_big_quiet_want
                   first
                   | (go_big_quiet_op; go_big_quiet_on)
                   | (unfold Oper.quiet
                      apply Exists.intro
                      refine ⟨fun w' hC => ?_, ?_⟩
                      · (obtain ⟨k1, k2⟩ := KS2.out w' hC
                         unfold Oper.quietAt
                         go_simp
                         first
                         | exact rfl)
                      go_simp
                      go_big_quiet_on)))
              refine wpQuiet_nil ?_
              intro w9 hC9
              go_wp2_with fail
              go_roundw
              case rel =>
                refine ⟨t + 1, kk, by first | rfl | go_num, by go_num, by omega, ⟨?_, by have := HKK.out; omega⟩, ?_, HXq.out.trans hC9⟩
                · rw [← Nat.add_assoc, HST.out.1.1 HXY2.out]; exact HKK.out.1
                · rw [← Nat.add_assoc, HST.out.2.1 HXY2.out]; exact HOq.out.ext hC9
              case measure => first | (simp [intOf]; done) | (simp [intOf]; omega)
            · have hb1 : ((x1 : Int) != (y1 : Int)) = true := by simp; omega
              have hb1N : (x1 != y1) = true := by simp [hxy2]
              have HXY2 := Lib.hid hxy2
              clear hxy2
              go_wp2_with fail
              refine wp_region_class (Ext wq) (by kernel_rfl) (by kernel_rfl) (Ext.refl _).drew ?_
              try simp only [List.append_eq, List.cons_append, List.nil_append]
              repeat (first
                | go_big_quiet_skip
                | (go_big_quiet_want
                   first
                   | (go_big_quiet_op; go_big_quiet_on)
                   | (unfold Oper.quiet
                      apply Exists.intro
                      refine ⟨fun w' hC => ?_, ?_⟩
                      · (obtain ⟨k1, k2⟩ := KS2.out w' hC
                         unfold Oper.quietAt
                         go_simp
                         first
                         | exact rfl)
                      go_simp
                      go_big_quiet_on)))
              refine wpQuiet_nil ?_
              intro w9 hC9
              replace zt := hC9.cell zt
              have zk9 : ∃ v, w9.cell? ⟨G, kk, none⟩ = some v := ⟨_, (HOq.out.ext hC9).atN (u := kk) (by have := HML.out; omega) |>.1⟩
              obtain ⟨vk, zk9⟩ := zk9
              have fk9 : w9.frozen? ⟨G, kk, none⟩ = false := (Below.frozen hC9 (p := ⟨G, kk, none⟩) lbG2).trans (fk kk)
              have lb9 : G < w9.heap.size := Nat.lt_of_lt_of_le lbG2 hC9.size
              have HSET9 := Lib.hid ((HOq.out.ext hC9).setN (u := kk) (v := x1) (by have := HML.out; omega) HX9.out)
              have HXS := Lib.hid ((HXq.out.trans hC9).setCell (p := ⟨G, kk, none⟩) HG.out (.int .u32 (x1 : Nat)))
              clear hC9 fk lbG2 HOq HXq KS2
              go_wp2_with fail
              go_roundw
              case rel =>
                refine ⟨t + 1, kk + 1, by go_num, by go_num, by omega, ⟨?_, by have := HKK.out; omega⟩, ?_, HXS.out⟩
                · rw [← Nat.add_assoc, HST.out.1.2 HXY2.out, List.length_append, HKK.out.1]; rfl
                · rw [← Nat.add_assoc, HST.out.2.2 HXY2.out]; exact HSET9.out
              case measure => first | (simp [intOf]; done) | (simp [intOf]; omega)
          · obtain rfl : t = m := by omega
            have hkm : k + t = n := HM.out.1
            have hfull : l.take (k + t) = l := List.take_of_length_le (by rw [HN.out]; omega)
            have hcm : compM l (k + t) = compL l ++ l.drop kk := by unfold compM; rw [HKK.out.1, hfull]
            have hcl : (compL l).length = kk := by rw [← hfull]; exact HKK.out.1
            obtain ⟨m2, hm2⟩ : ∃ m2, n - kk = m2 := ⟨_, rfl⟩
            have hML := HML.out
            have hbz := zeros_at (compM l (k + t)) kk m2 (by rw [hML]; omega) (by rw [hML]; omega) B G c wq (by rw [hML]; exact HOq.out)
            rw [hML] at hbz
            have htk : (compM l (k + t)).take kk = compL l := by rw [hcm, ← hcl]; exact List.take_left' rfl
            rw [htk] at hbz
            have hall := fun j (hj : j < n) => HOq.out.atN (u := j) (by rw [hML]; exact hj)
            have hclr : ∀ ty, (Builtin.clear_ #[22] ty #[.slice (some ⟨G, kk, none⟩) m2 (c - kk)]).run Try.prog wq = .ok (.tuple #[]) (wq.setCells G kk (List.replicate m2 (.int .u32 0))) := fun ty =>
              Lib.run_clear_slice wq 22 34 ty (.int .u32 0) Try.underlying22 (fun w => by kernel_rfl) rfl rfl G kk m2 (c - kk) (by omega) (fun j hj => by rw [(hall (kk + j) (by omega)).1]; rfl) (fun j hj => (hall (kk + j) (by omega)).2.1 _)
            have HBZ := Lib.hid hbz
            have hkc2 : ¬ (c = kk) := by omega
            have hkc3 : (kk : Int) ≤ c := by omega
            have HCLL := Lib.hid hcl
            have HM2 := Lib.hid hm2
            have hkk9 : kk ≤ n := by omega
            clear hbz hall hcl hcm hfull hkm hML htk HOq
            go_wp2_with fail
            have hfin : Ow kU32 B (wq.setCells G kk (List.replicate m2 (.int .u32 0))) (.slice (some ⟨G, 0, none⟩) kk c) (zs (compL l)) := by
              have h9 := HBZ.out.1.take kk (by rw [zs_len, List.length_append, HCLL.out]; omega) (by rw [zs_len, List.length_append, List.length_replicate]; have := HM2.out; omega)
              have e9 : (zs (compL l ++ List.replicate m2 0)).take kk = zs (compL l) := by rw [← zs_take9, List.take_left' HCLL.out]
              rw [e9] at h9
              exact h9
            have HFIN := Lib.hid hfin
            clear hfin
            refine bodyPost_ret (v := .slice (some ⟨G, 0, none⟩) kk c) (by simp [results, Try.results43, go_sem]) rfl ⟨by rw [HCLL.out], by rw [HCLL.out]; exact HFIN.out, HBZ.out.2 w0 HXq.out HG.out⟩
      · have hb : ((x : Int) == (y : Int)) = false := by simp; omega
        have hbN : (x == y) = false := by simp [hxy]
        have hbM : decide (x = y) = false := decide_eq_false hxy
        go_wp2_with fail
        refine wp_region_class (Ext wr) (by kernel_rfl) (by kernel_rfl) (Ext.refl _).drew ?_
        try simp only [List.append_eq, List.cons_append, List.nil_append]
        repeat (first
          | go_big_quiet_skip
          | (go_big_quiet_want
             first
             | (go_big_quiet_op; go_big_quiet_on)
             | (unfold Oper.quiet
                apply Exists.intro
                refine ⟨fun w' hC => ?_, ?_⟩
                · (obtain ⟨k1, k2⟩ := KS.out w' hC
                   unfold Oper.quietAt
                   go_simp
                   first
                   | exact rfl)
                go_simp
                go_big_quiet_on)))
        refine wpQuiet_nil ?_
        intro w9 hC9
        go_wp2_with fail
        go_roundw
        case rel =>
          refine ⟨k + 1, by go_num, by omega, ?_, HO1.out.ext hC9, HX1.out.trans hC9⟩
          rw [HST.out.2 hxy, HCL.out, ← HXY.out.1, ← take_snoc9 l k (by rw [HN.out]; exact hlt)]
        case measure => first | (simp [intOf]; done) | (simp [intOf]; omega)
    · obtain rfl : k = n := by omega
      have HC : Hid (compL l = l) := Lib.hid (by
        have := HCL.out
        rw [List.take_of_length_le (by rw [HN.out]; omega)] at this; exact this)
      go_wp2_with fail
      go_ret
      rw [HC.out, HN.out]
      exact ⟨rfl, HO1.out, HX1.out⟩
end Go.Proofs.Ytofiokegdgdacaa

/- The program's small functions of tables: sized, places, room, Home, rising. -/
namespace Go.Proofs.Ytofiokegdgdacaa
open Go.BigFrame
open Go.RowKit Go.Proofs.Ytofiokegdgdacaa.Plain

set_option maxHeartbeats 3200000 in
set_option maxRecDepth 100000 in
theorem psized_any (b : Int) (w : World) :
    Calls Try.prog 33 #[.int .i64 b] w fun ed w' => ed = .returned (.bool (decide (1 ≤ b ∧ b ≤ 10))) ∧ w' = w := by
  by_cases h1 : 1 ≤ b
  · have hd1 : decide (1 ≤ b) = true := decide_eq_true h1
    by_cases h2 : b ≤ 10
    · have hd2 : decide (b ≤ 10) = true := decide_eq_true h2
      have HR : Hid (decide (1 ≤ b ∧ b ≤ 10) = true) := Lib.hid (decide_eq_true ⟨h1, h2⟩)
      clear h1 h2
      go_enter Try.func33, Try.ntmps33
      go_wp2_with fail
      go_ret
      exact ⟨ret_bool HR.out.symm, rfl⟩
    · have hd2 : decide (b ≤ 10) = false := decide_eq_false h2
      have HR : Hid (decide (1 ≤ b ∧ b ≤ 10) = false) := Lib.hid (decide_eq_false fun h => h2 h.2)
      clear h1 h2
      go_enter Try.func33, Try.ntmps33
      go_wp2_with fail
      go_ret
      exact ⟨ret_bool HR.out.symm, rfl⟩
  · have hd1 : decide (1 ≤ b) = false := decide_eq_false h1
    have HR : Hid (decide (1 ≤ b ∧ b ≤ 10) = false) := Lib.hid (decide_eq_false fun h => h1 h.1)
    clear h1
    go_enter Try.func33, Try.ntmps33
    go_wp2_with fail
    go_ret
    exact ⟨ret_bool HR.out.symm, rfl⟩
set_option maxHeartbeats 3200000 in
set_option maxRecDepth 100000 in
theorem pplaces_any (B : Nat) (w : World) (hB : B ≤ 10) :
    Calls Try.prog 47 #[.int .i64 B] w fun ed w' => ed = .returned (.int .i64 ((2 ^ B : Nat) : Int)) ∧ w' = w := by
  have hns : 2 ^ B ≤ 1024 := Nat.pow_le_pow_right (n := 2) (by decide) hB
  obtain ⟨n, hn⟩ : ∃ n, 2 ^ B = n := ⟨_, rfl⟩
  have hnI : (2 : Int) ^ B = (n : Int) := by rw [← hn]; simp
  rw [hn] at hns ⊢
  have hw1 : IntKind.i64.wrap (n : Int) = (n : Int) := IntWalk.i64_in _ (by omega)
  have hB0 : (0 : Int) ≤ B := by omega
  have hB9 : (B : Int) ≤ 10 := by omega
  clear hn
  go_enter Try.func47, Try.ntmps47
  go_wp2_with fail
  go_ret
  exact ⟨rfl, rfl⟩
set_option maxHeartbeats 3200000 in
set_option maxRecDepth 100000 in
theorem proom_any (B : Nat) (w : World) (hB : B ≤ 10) :
    Calls Try.prog 34 #[.int .i64 B] w fun ed w' => ed = .returned (.int .i64 ((2 ^ B * 3 / 4 : Nat) : Int)) ∧ w' = w := by
  have hns : 2 ^ B ≤ 1024 := Nat.pow_le_pow_right (n := 2) (by decide) hB
  have HC := Lib.hid (pplaces_any B w hB)
  obtain ⟨n, hn⟩ : ∃ n, 2 ^ B = n := ⟨_, rfl⟩
  rw [hn] at hns HC ⊢
  obtain ⟨n3, hn3⟩ : ∃ x, n * 3 = x := ⟨_, rfl⟩
  obtain ⟨q, hq⟩ : ∃ x, n3 / 4 = x := ⟨_, rfl⟩
  rw [hn3, hq]
  have hnI2 : (n : Int) * 3 = (n3 : Int) := by omega
  have hnI3 : (n3 : Int) / 4 = (q : Int) := by omega
  have hnI4 : (n3 : Int).tdiv 4 = (q : Int) := by rw [Int.tdiv_eq_ediv_of_nonneg (by omega)]; exact hnI3
  have hw2 : IntKind.i64.wrap (n3 : Int) = (n3 : Int) := IntWalk.i64_in _ (by omega)
  have hw3 : IntKind.i64.wrap (q : Int) = (q : Int) := IntWalk.i64_in _ (by omega)
  clear hn hn3 hq
  go_enter Try.func34, Try.ntmps34
  go_wp2_with fail
  refine HC.out.mono ?_
  rintro ed w1 ⟨rfl, rfl⟩
  go_wp2_with fail
  go_ret
  exact ⟨rfl, rfl⟩
set_option maxHeartbeats 3200000 in
set_option maxRecDepth 100000 in
theorem phome12_any (b : Int) (key : Nat) (w : World) (hb : in64 b) (hk : key < 4294967296) :
    Calls Try.prog 16 #[.int .i64 b, .int .u32 key] w fun ed w' => ed = .returned (.int .i64 (homeP b key)) ∧ Ext w w' := by
  have HS := Lib.hid (psized_any b w)
  by_cases h : b < 1 ∨ 10 < b
  · have HR : Hid (homeP b key = -1) := Lib.hid (by unfold homeP; rw [if_pos h])
    have hd : decide (1 ≤ b ∧ b ≤ 10) = false := decide_eq_false (by omega)
    rw [hd] at HS
    clear h hd hb hk
    go_enter Try.func16, Try.ntmps16
    go_wp2_with fail
    refine HS.out.mono ?_
    rintro ed w1 ⟨rfl, rfl⟩
    go_wp2_with fail
    go_ret
    exact ⟨by rw [HR.out]; rfl, Ext.refl _⟩
  · obtain ⟨B, rfl⟩ : ∃ B : Nat, b = B := ⟨b.toNat, by omega⟩
    have hd : decide (1 ≤ (B : Int) ∧ (B : Int) ≤ 10) = true := decide_eq_true (by omega)
    rw [hd] at HS
    have HR : Hid (homeP B key = ((homeN B key : Nat) : Int)) := Lib.hid (by unfold homeP; rw [if_neg h, Int.toNat_natCast])
    obtain ⟨s, hs⟩ : ∃ s, 32 - B = s := ⟨_, rfl⟩
    have hsI : (32 : Int) - (B : Int) = (s : Int) := by omega
    have hsw := wrap9 100 s (by omega) (by omega)
    have hs0 : (0 : Int) ≤ s := by omega
    have hs9 : (s : Int) ≤ 31 := by omega
    obtain ⟨m, hm⟩ : ∃ m, key * 2654435761 % 4294967296 = m := ⟨_, rfl⟩
    have hmI : IntKind.u32.wrap ((key : Int) * 2654435761) = (m : Int) := by rw [IntKind.wrap_u32]; omega
    have hm9 : m < 4294967296 := by omega
    obtain ⟨P, hP⟩ : ∃ P, 2 ^ s = P := ⟨_, rfl⟩
    have hPI : (2 : Int) ^ s = (P : Int) := by rw [← hP]; simp
    obtain ⟨r, hr⟩ : ∃ r, m / P = r := ⟨_, rfl⟩
    have hrI : (m : Int) / (P : Int) = (r : Int) := by rw [← hr]; simp
    have hrm : r ≤ m := by rw [← hr]; exact Nat.div_le_self _ _
    have hrw : IntKind.i64.wrap (r : Int) = (r : Int) := IntWalk.i64_in _ (by omega)
    have hru : IntKind.u32.wrap (r : Int) = (r : Int) := by rw [IntKind.wrap_u32]; omega
    have HH : Hid (homeN B key = r) := Lib.hid (by unfold homeN; rw [hm, hs, hP, hr])
    clear h hd hb hk hs hm hP hr hrm hm9
    go_enter Try.func16, Try.ntmps16
    go_wp2_with fail
    refine HS.out.mono ?_
    rintro ed w1 ⟨rfl, rfl⟩
    go_wp2_with fail
    go_ret
    exact ⟨by rw [HR.out, HH.out]; rfl, Ext.refl _⟩
set_option maxHeartbeats 3200000 in
set_option maxRecDepth 100000 in
theorem prising_any (l : List Nat) (L : Option Addr) (lc : Nat) (w : World) (hL : Rd kU32 w (.slice L l.length lc) (zs l)) (hl : l.length ≤ 1000000) :
    Calls Try.prog 28 #[.slice L l.length lc] w fun ed w' => ∃ (A : Option Addr) (c : Nat), ed = .returned (.slice A (risingR l).length c) ∧ Ow kU32 w.heap.size w' (.slice A (risingR l).length c) (zs (risingR l)) ∧ Ext w w' := by
  have hcl := clone32 _ _ w hL (by rw [zs_len]; omega)
  rw [zs_len] at hcl
  have HCL := Lib.hid hcl
  have HLL := Lib.hid hl
  clear hL hcl hl
  go_enter Try.func28, Try.ntmps28
  go_wp2_with fail
  refine HCL.out.mono ?_
  rintro ed w1 ⟨A, c, rfl, hO1, hE1⟩
  have HO1 := Lib.hid hO1
  have HE1 := Lib.hid hE1
  clear hO1 hE1 HCL
  by_cases h0 : l.length = 0
  · obtain rfl : l = [] := List.eq_nil_of_length_eq_zero h0
    have HR : Hid (risingR [] = []) := Lib.hid rfl
    rw [h0] at HO1 ⊢
    go_wp2_with fail
    refine (qsort0_any A c _).mono ?_
    rintro ed w2 ⟨rfl, rfl⟩
    go_wp2_with fail
    refine (compact0_any A c _).mono ?_
    rintro ed w3 ⟨rfl, rfl⟩
    go_wp2_with fail
    go_ret
    exact ⟨A, c, rfl, HO1.out, HE1.out⟩
  · obtain ⟨g, hg, hO⟩ : ∃ g, A = some ⟨g, 0, none⟩ ∧ Ow kU32 w.heap.size w1 (.slice (some ⟨g, 0, none⟩) l.length c) (zs l) := by
      obtain ⟨g, e, _⟩ := HO1.out.pos (by rw [zs_len]; omega)
      cases e
      exact ⟨g, rfl, HO1.out⟩
    subst hg
    have HS := Lib.hid (qsort_any l g w.heap.size c w w1 hO HE1.out (Nat.le_refl _) (by omega) HLL.out)
    have HPOS : Hid (1 ≤ l.length) := Lib.hid (by omega)
    clear hO h0
    go_wp2_with fail
    refine HS.out.mono ?_
    rintro ed w2 ⟨l', rfl, hp, hs, hO2, hE2⟩
    have hlen : l'.length = l.length := hp.length_eq
    have HR : Hid (compL l' = risingR l) := Lib.hid (rising_of_sorted hp hs)
    have HC := Lib.hid (compact32 l' g w.heap.size c w w2 (by rw [hlen]; exact hO2) hE2 (Nat.le_refl _) (by rw [hlen]; exact HPOS.out) (by rw [hlen]; exact HLL.out))
    rw [hlen] at HC
    rw [HR.out] at HC
    clear hp hs hO2 hE2 hlen
    go_wp2_with fail
    refine HC.out.mono ?_
    rintro ed w3 ⟨rfl, hO3, hE3⟩
    have HO3 := Lib.hid hO3
    have HE3 := Lib.hid hE3
    clear hO3 hE3
    go_wp2_with fail
    go_ret
    exact ⟨_, _, rfl, HO3.out, HE3.out⟩
end Go.Proofs.Ytofiokegdgdacaa

/- The document's Home, Rising (ref12). Written by wip/mk_t12.py. -/
namespace Go.Proofs.Ytofiokegdgdacaa
open Go.BigFrame
open Go.RowKit Go.Proofs.Ytofiokegdgdacaa.Plain

set_option maxHeartbeats 1600000 in
set_option maxRecDepth 100000 in
theorem rhome_any (b : Int) (key : Nat) (w : World) (hk : key < 4294967296) (hb : in64 b) :
    Calls Try.prog 17 #[.int .i64 b, .int .u32 key] w fun ed w' => ed = .returned (.int .i64 (homeP b key)) ∧ w = w' := by
  by_cases h : b < 1 ∨ 10 < b
  · have HR : Hid (homeP b key = -1) := Lib.hid (by unfold homeP; rw [if_pos h])
    rw [HR.out]
    go_enter Try.func17, Try.ntmps17
    by_cases h1 : b < 1
    · have hd1 : decide (b < 1) = true := decide_eq_true h1
      clear hk
      go_wp2_with fail
      go_ret
      exact ⟨rfl, rfl⟩
    · have hd1 : decide (b < 1) = false := decide_eq_false h1
      have hd2 : decide (10 < b) = true := decide_eq_true (by omega)
      clear hk
      go_wp2_with fail
      go_ret
      exact ⟨rfl, rfl⟩
  · obtain ⟨B, rfl⟩ : ∃ B : Nat, b = B := ⟨b.toNat, by omega⟩
    have hd1 : decide ((B : Int) < 1) = false := decide_eq_false (by omega)
    have hd2 : decide ((10 : Int) < (B : Int)) = false := decide_eq_false (by omega)
    have hd3 : decide (10 < B) = false := decide_eq_false (by omega)
    have hB1 : (1 : Int) ≤ B := by omega
    have hB2 : (B : Int) ≤ 10 := by omega
    obtain ⟨S, hS⟩ : ∃ S : Nat, 32 - B = S := ⟨_, rfl⟩
    have hSI : (32 : Int) - (B : Int) = (S : Int) := by omega
    have hS9 : IntKind.i64.wrap (S : Int) = (S : Int) := IntWalk.i64_in _ (by omega)
    obtain ⟨R, hR⟩ : ∃ R, key * 2654435761 % 4294967296 = R := ⟨_, rfl⟩
    have HR : Hid (homeP B key = ((R / 2 ^ S : Nat) : Int)) := Lib.hid (by unfold homeP homeN; rw [if_neg h, Int.toNat_natCast, hR, hS])
    obtain ⟨M, hM⟩ : ∃ M, key * 2654435761 = M := ⟨_, rfl⟩
    have hM2 : (key : Int) * 2654435761 = (M : Int) := by omega
    have hM9 : IntKind.u64.wrap (M : Int) = (M : Int) := by rw [IntKind.wrap_u64]; omega
    have hR2 : (M : Int) % 4294967296 = (R : Int) := by omega
    have hR3 : (M : Int).tmod 4294967296 = (R : Int) := by rw [Int.tmod_eq_emod_of_nonneg (by omega)]; exact hR2
    have hR9 : IntKind.u64.wrap (R : Int) = (R : Int) := by rw [IntKind.wrap_u64]; omega
    have hK9 : IntKind.u64.wrap (key : Int) = (key : Int) := by rw [IntKind.wrap_u64]; omega
    have HRL : Hid (R < 4294967296) := Lib.hid (by omega)
    have hSl : (S : Int) < 32 := by omega
    rw [HR.out]
    clear h hk hb hR hM hS
    go_enter Try.func17, Try.ntmps17
    go_wp2_with fail
    go_loopw [5, 6] (fun x i wr => ∃ k : Nat, k ≤ S ∧ i = .int .i64 k ∧ x = .int .u64 ((R / 2 ^ k : Nat) : Int) ∧ w = wr) (fun _ i _ => S - (intOf i).toNat)
    case atStart => exact ⟨0, Nat.zero_le _, rfl, by simp, rfl⟩
    case round =>
      obtain ⟨k, hk, rfl, rfl, rfl⟩ := hrel
      obtain ⟨z, hz⟩ : ∃ z, R / 2 ^ k = z := ⟨_, rfl⟩
      have hzl : z < 4294967296 := by rw [← hz]; exact Nat.lt_of_le_of_lt (Nat.div_le_self _ _) HRL.out
      have hz9 : IntKind.u64.wrap (z : Int) = (z : Int) := by rw [IntKind.wrap_u64]; omega
      have hk0 : (0 : Int) ≤ k := by omega
      have hn : R / 2 ^ (k + 1) = z / 2 := by rw [Nat.pow_succ, ← Nat.div_div_eq_div_mul, hz]
      obtain ⟨z2, hz2⟩ : ∃ y, z / 2 = y := ⟨_, rfl⟩
      have hzI : (z : Int) / 2 = (z2 : Int) := by omega
      have hzT : (z : Int).tdiv 2 = (z2 : Int) := by rw [Int.tdiv_eq_ediv_of_nonneg (by omega)]; exact hzI
      have hz8 : IntKind.u64.wrap (z2 : Int) = (z2 : Int) := by rw [IntKind.wrap_u64]; omega
      have hz7 : IntKind.i64.wrap (z : Int) = (z : Int) := IntWalk.i64_in _ (by omega)
      rw [hz2] at hn
      have HN2 := Lib.hid hn
      have HZ := Lib.hid hz
      rw [hz]
      clear hz hn hzl hz2
      by_cases hlt : k < S
      · have hlt' : (k : Int) < S := by omega
        go_wp2_with fail
        go_roundw
        case rel => exact ⟨k + 1, by omega, by go_num, by rw [HN2.out], by first | rfl | trivial⟩
        case measure => simp [intOf]; omega
      · obtain rfl : k = S := by omega
        have hnl : ¬ (k : Int) < k := by omega
        go_wp2_with fail
        go_ret
        exact ⟨ret_int (by rw [← HZ.out]; simp), rfl⟩
set_option maxHeartbeats 3200000 in
set_option maxRecDepth 100000 in
theorem rrising_any (l : List Nat) (L : Option Addr) (lc : Nat) (w : World) (hL : Rd kU32 w (.slice L l.length lc) (zs l)) (hl : l.length ≤ 5000) :
    Calls Try.prog 35 #[.slice L l.length lc] w fun ed w' => ∃ (A : Option Addr) (c : Nat), ed = .returned (.slice A (risingR l).length c) ∧ Ow kU32 w.heap.size w' (.slice A (risingR l).length c) (zs (risingR l)) ∧ Ext w w' := by
  have HL := Lib.hid hL
  have hl' : (l.length : Int) ≤ 5000 := by omega
  clear hL
  go_enter Try.func35, Try.ntmps35
  go_wp2_with fail
  go_loopw [3, 4] (fun v i wr => ∃ k : Nat, k ≤ l.length ∧ i = .int .i64 k ∧ Ow kU32 w.heap.size wr v (zs (risingR (l.take k))) ∧ Ext w wr) (fun _ i _ => l.length - (intOf i).toNat)
  case atStart => exact ⟨0, Nat.zero_le _, rfl, Ow.nil _ _, Ext.refl _⟩
  case round =>
    obtain ⟨k, hk, rfl, hO, hX⟩ := hrel
    have HO := Lib.hid hO
    have HX := Lib.hid hX
    have hk0 : (0 : Int) ≤ k := by omega
    clear hO hX
    by_cases hlt : k < l.length
    · have hlt' : (k : Int) < l.length := by omega
      obtain ⟨bx, ox, rfl, z0, hxl⟩ := u32_at (HL.out.ext HX.out) k hlt
      have htk := takeN_snoc hlt
      obtain ⟨x, hx⟩ : ∃ x, l.getD k 0 = x := ⟨_, rfl⟩
      rw [hx] at z0 hxl htk
      have hins := risingR_snoc (l.take k) x
      rw [← htk] at hins
      have hlen := (risingR_good k (l.take k) (by rw [List.length_take]; omega)).2.2
      obtain ⟨out, hout⟩ : ∃ out, risingR (l.take k) = out := ⟨_, rfl⟩
      rw [hout] at hins hlen HO
      obtain ⟨A, c, hv, hc⟩ := HO.out.slice
      rw [zs_len] at hv hc
      subst hv
      obtain ⟨n, hn⟩ : ∃ n, out.length = n := ⟨_, rfl⟩
      rw [hn] at HO hc hlen ⊢
      have HLEN : Hid (out.length = n ∧ n ≤ 5000) := Lib.hid ⟨hn, by omega⟩
      have HZ0 := Lib.hid z0
      have HXL := Lib.hid hxl
      unfold insR at hins
      rw [hn] at hins
      have HINS := Lib.hid hins
      have hzx := HX.out.size
      have hn9 : (n : Int) ≤ 5000 := by omega
      have hnc : (n : Int) ≤ c := by omega
      have lbx : bx < wr.heap.size := World.block_lt_of_cell? _ _ z0
      clear hins hlen hout hx htk hn hxl
      go_upto_block 2 with fail
      go_cut [5] from 12 to 28 (fun c wx => ∃ q : Nat, q ≤ n ∧ c = .int .i64 q ∧ upTo out x = q ∧ Ext wr wx)
      case first =>
        go_wp2_with fail
        go_loopw [5] (fun c wq => ∃ q : Nat, q ≤ n ∧ c = .int .i64 q ∧ (∀ j, j < q → out.getD j 0 < x) ∧ Ext wr wq) (fun c _ => n - (intOf c).toNat)
        case atStart => exact ⟨0, Nat.zero_le _, rfl, by omega, Ext.refl _⟩
        case round =>
          obtain ⟨q, hq, rfl, hbk, hXq⟩ := hrel
          have HXq := Lib.hid hXq
          have HBK := Lib.hid hbk
          have hq0 : (0 : Int) ≤ q := by omega
          clear hXq hbk
          rename World => wq
          by_cases hqn : q < n
          · have hqn' : (q : Int) < n := by omega
            have hRo : Rd kU32 wq (.slice A out.length c) (zs out) := by rw [HLEN.out.1]; exact HO.out.rd.ext HXq.out
            obtain ⟨bo, oo, rfl, y0, hyl⟩ := u32_at hRo q (by rw [HLEN.out.1]; exact hqn)
            obtain ⟨y, hy⟩ : ∃ y, out.getD q 0 = y := ⟨_, rfl⟩
            rw [hy] at y0
            have HY := Lib.hid hy
            have y2 := HXq.out.cell HZ0.out
            have KS : Hid (∀ w', Ext wq w' → w'.cell? ⟨bo, oo + q, none⟩ = some (.int .u32 y) ∧ w'.cell? ⟨bx, ox + k, none⟩ = some (.int .u32 x)) := Lib.hid (fun w' hE => ⟨hE.cell y0, hE.cell y2⟩)
            have hd1 : decide (q < n) = true := decide_eq_true hqn
            have hd2 : decide ((q : Int) < (n : Int)) = true := decide_eq_true hqn'
            clear hRo y0 y2 hyl hy
            by_cases hyx : y < x
            · have hd3 : decide (y < x) = true := decide_eq_true hyx
              have hd4 : decide ((y : Int) < (x : Int)) = true := decide_eq_true (by omega)
              go_wp2_with fail
              refine wp_region_class (Ext wq) (by kernel_rfl) (by kernel_rfl) (Ext.refl _).drew ?_
              try simp only [List.append_eq, List.cons_append, List.nil_append]
              repeat (first
                | go_big_quiet_skip
                | (go_big_quiet_want
                   first
                   | (go_big_quiet_op; go_big_quiet_on)
                   | (unfold Oper.quiet
                      apply Exists.intro
                      refine ⟨fun w' hC => ?_, ?_⟩
                      · (obtain ⟨k1, k2⟩ := KS.out w' hC
                         unfold Oper.quietAt
                         go_simp
                         first
                         | exact rfl)
                      go_simp
                      go_big_quiet_on)))
              refine wpQuiet_nil ?_
              intro w9 hC9
              go_wp2_with fail
              go_roundw
              case rel => exact ⟨q + 1, by omega, by first | rfl | go_num, fun j hj => by
                by_cases e : j = q
                · subst e; rw [HY.out]; exact hyx
                · exact HBK.out j (by omega), HXq.out.trans hC9⟩
              case measure => simp [intOf]; omega
            · have hd3 : decide (y < x) = false := decide_eq_false hyx
              have hd4 : decide ((y : Int) < (x : Int)) = false := decide_eq_false (by omega)
              go_wp2_with fail
              refine wp_region_class (Ext wq) (by kernel_rfl) (by kernel_rfl) (Ext.refl _).drew ?_
              try simp only [List.append_eq, List.cons_append, List.nil_append]
              repeat (first
                | go_big_quiet_skip
                | (go_big_quiet_want
                   first
                   | (go_big_quiet_op; go_big_quiet_on)
                   | (unfold Oper.quiet
                      apply Exists.intro
                      refine ⟨fun w' hC => ?_, ?_⟩
                      · (obtain ⟨k1, k2⟩ := KS.out w' hC
                         unfold Oper.quietAt
                         go_simp
                         first
                         | exact rfl)
                      go_simp
                      go_big_quiet_on)))
              refine wpQuiet_nil ?_
              intro w9 hC9
              go_wp2_with fail
              go_meet
              exact ⟨q, by omega, rfl, upTo_of out x q (by rw [HLEN.out.1]; exact hq) HBK.out (fun _ => by rw [HY.out]; exact hyx), HXq.out.trans hC9⟩
          · obtain rfl : q = n := by omega
            have hd1 : decide (q < q) = false := decide_eq_false hqn
            have hd2 : decide ((q : Int) < (q : Int)) = false := decide_eq_false (by omega)
            go_wp2_with fail
            refine wp_region_class (Ext wq) (by kernel_rfl) (by kernel_rfl) (Ext.refl _).drew ?_
            try simp only [List.append_eq, List.cons_append, List.nil_append]
            repeat (first
              | go_big_quiet_skip
              | (go_big_quiet_want
                 first
                 | (go_big_quiet_op; go_big_quiet_on)
                 | (unfold Oper.quiet
                    apply Exists.intro
                    refine ⟨fun w' hC => ?_, ?_⟩
                    · (skip
                       unfold Oper.quietAt
                       go_simp
                       first
                       | exact rfl)
                    go_simp
                    go_big_quiet_on)))
            refine wpQuiet_nil ?_
            intro w9 hC9
            go_wp2_with fail
            go_meet
            exact ⟨q, by omega, rfl, upTo_of out x q (by rw [HLEN.out.1]; exact hq) HBK.out (fun h => absurd h (by rw [HLEN.out.1]; omega)), HXq.out.trans hC9⟩
      case rest =>
        obtain ⟨q, hq, rfl, hbq, hXq⟩ := hcut
        generalize wc = wq at *
        have HXQ := Lib.hid hXq
        have hins := HINS.out
        rw [hbq] at hins
        have hqn : (q : Int) ≤ n := by omega
        have hqc : (q : Int) ≤ c := by omega
        have hq1 : (0 : Int) ≤ q := by omega
        have v0 := hXq.cell HZ0.out
        clear hXq hbq HINS
        by_cases hfound : q < n ∧ out.getD q 0 = x
        · obtain ⟨hqn2, hqx⟩ := hfound
          rw [if_pos ⟨hqn2, hqx⟩] at hins
          have HINS := Lib.hid hins
          have hRo : Rd kU32 wq (.slice A out.length c) (zs out) := by rw [HLEN.out.1]; exact HO.out.rd.ext HXQ.out
          obtain ⟨bo, oo, rfl, y0, _⟩ := u32_at hRo q (by rw [HLEN.out.1]; exact hqn2)
          rw [hqx] at y0
          have KS : Hid (∀ w', Ext wq w' → w'.cell? ⟨bo, oo + q, none⟩ = some (.int .u32 x) ∧ w'.cell? ⟨bx, ox + k, none⟩ = some (.int .u32 x)) := Lib.hid (fun w' hE => ⟨hE.cell y0, hE.cell v0⟩)
          have hd1 : decide (q < n) = true := decide_eq_true hqn2
          have hd2 : decide ((q : Int) < (n : Int)) = true := decide_eq_true (by omega)
          have hd3 : (x == x) = true := by simp
          have hd4 : ((x : Int) == (x : Int)) = true := by simp
          have hqn3 : (q : Int) < n := by omega
          clear hRo y0 v0 hqx hins
          go_wp2_with fail
          refine wp_region_class (Ext wq) (by kernel_rfl) (by kernel_rfl) (Ext.refl _).drew ?_
          try simp only [List.append_eq, List.cons_append, List.nil_append]
          repeat (first
            | go_big_quiet_skip
            | (go_big_quiet_want
               first
               | (go_big_quiet_op; go_big_quiet_on)
               | (unfold Oper.quiet
                  apply Exists.intro
                  refine ⟨fun w' hC => ?_, ?_⟩
                  · (obtain ⟨k1, k2⟩ := KS.out w' hC
                     unfold Oper.quietAt
                     go_simp
                     first
                     | exact rfl)
                  go_simp
                  go_big_quiet_on)))
          refine wpQuiet_nil ?_
          intro w9 hC9
          go_wp2_with fail
          go_roundw
          case rel => exact ⟨k + 1, by omega, by go_num, by rw [HINS.out]; exact HO.out.ext (HXQ.out.trans hC9), HX.out.trans (HXQ.out.trans hC9)⟩
          case measure => simp [intOf]; omega
        · rw [if_neg hfound] at hins
          have HINS := Lib.hid hins
          go_upto_region 8 with fail
          go_cut [43] from 29 to 43 (fun r wx => r = .bool false ∧ Ext wq wx)
          case first =>
            by_cases hqn2 : q < n
            · have hRo : Rd kU32 wq (.slice A out.length c) (zs out) := by rw [HLEN.out.1]; exact HO.out.rd.ext HXQ.out
              obtain ⟨bo, oo, rfl, y0, _⟩ := u32_at hRo q (by rw [HLEN.out.1]; exact hqn2)
              obtain ⟨y, hy⟩ : ∃ y, out.getD q 0 = y := ⟨_, rfl⟩
              rw [hy] at y0
              have hyx : y ≠ x := fun e => hfound ⟨hqn2, hy.trans e⟩
              have KS : Hid (∀ w', Ext wq w' → w'.cell? ⟨bo, oo + q, none⟩ = some (.int .u32 y) ∧ w'.cell? ⟨bx, ox + k, none⟩ = some (.int .u32 x)) := Lib.hid (fun w' hE => ⟨hE.cell y0, hE.cell v0⟩)
              have hd1 : decide (q < n) = true := decide_eq_true hqn2
              have hd2 : decide ((q : Int) < (n : Int)) = true := decide_eq_true (by omega)
              have hd3 : (y == x) = false := by simp [hyx]
              have hd4 : ((y : Int) == (x : Int)) = false := by simp; omega
              have hqn3 : (q : Int) < n := by omega
              clear hRo y0 v0 hy hins hfound
              go_wp2_with fail
              refine wp_region_class (Ext wq) (by kernel_rfl) (by kernel_rfl) (Ext.refl _).drew ?_
              try simp only [List.append_eq, List.cons_append, List.nil_append]
              repeat (first
                | go_big_quiet_skip
                | (go_big_quiet_want
                   first
                   | (go_big_quiet_op; go_big_quiet_on)
                   | (unfold Oper.quiet
                      apply Exists.intro
                      refine ⟨fun w' hC => ?_, ?_⟩
                      · (obtain ⟨k1, k2⟩ := KS.out w' hC
                         unfold Oper.quietAt
                         go_simp
                         first
                         | exact rfl)
                      go_simp
                      go_big_quiet_on)))
              refine wpQuiet_nil ?_
              intro w9 hC9
              go_wp2_with fail
              go_meet
              exact ⟨rfl, hC9⟩
            · obtain rfl : q = n := by omega
              have hd1 : decide (q < q) = false := decide_eq_false hqn2
              have hd2 : decide ((q : Int) < (q : Int)) = false := decide_eq_false (by omega)
              clear hins hfound
              go_wp2_with fail
              refine wp_region_class (Ext wq) (by kernel_rfl) (by kernel_rfl) (Ext.refl _).drew ?_
              try simp only [List.append_eq, List.cons_append, List.nil_append]
              repeat (first
                | go_big_quiet_skip
                | (go_big_quiet_want
                   first
                   | (go_big_quiet_op; go_big_quiet_on)
                   | (unfold Oper.quiet
                      apply Exists.intro
                      refine ⟨fun w' hC => ?_, ?_⟩
                      · (skip
                         unfold Oper.quietAt
                         go_simp
                         first
                         | exact rfl)
                      go_simp
                      go_big_quiet_on)))
              refine wpQuiet_nil ?_
              intro w9 hC9
              go_wp2_with fail
              go_meet
              exact ⟨rfl, hC9⟩
          case rest =>
          obtain ⟨rfl, hXc⟩ := hcut
          generalize wc = w9 at *
          have HXW := Lib.hid (HXQ.out.trans hXc)
          have v9 := hXc.cell v0
          have lw9 : bx < w9.heap.size := World.block_lt_of_cell? _ _ v9
          have HT : Hid (Rd kU32 w9 (.slice A q c) (zs (out.take q))) := Lib.hid (by rw [zs_take9]; exact Rd.take (HO.out.rd.ext HXW.out) q c (by rw [zs_len]; have := HLEN.out; omega) (by omega))
          have HD : Hid (Rd kU32 w9 (.slice (if c = q then A else Option.map (fun x => x.add q) A) (n - q) (c - q)) (zs (out.drop q))) := Lib.hid (by rw [zs_drop9]; exact Rd.sliced (HO.out.rd.ext HXW.out) rfl q (by rw [zs_len]; have := HLEN.out; omega))
          have HFIN : Hid (zs (out.take q) ++ [(x : Int)] ++ zs (out.drop q) = zs (risingR (l.take (k + 1)))) := Lib.hid (by rw [HINS.out, zs_app, zs_app]; rfl)
          have HZ9 : Hid (w.heap.size ≤ w9.heap.size) := Lib.hid (by have h8 := HX.out.size; have h9 := Ext.size HXW.out; omega)
          have HXX := Lib.hid (HX.out.trans HXW.out)
          clear hins hfound hXc v0
          go_upto_region 9 with fail
          go_region_law (first
            | (refine kU32.step_app (by rfl) (.tmp 44) (.tmp 47) (by rfl) (by rfl) w9.heap.size _ [] (by rfl) (empty_at (by first | exact heap_alloc_new _ _ | exact (heap_alloc_old _ _ (by first | (simp; done) | (simp; omega) | omega)).trans (heap_alloc_new _ _) | exact heap_alloc_at (by first | (simp; done) | (simp; omega) | omega) | exact (heap_alloc_old _ _ (by first | (simp; done) | (simp; omega) | omega)).trans (heap_alloc_at (by first | (simp; done) | (simp; omega) | omega))) (by first | omega | (simp; done) | (simp; omega))) _ (zs (out.take q)) (by rfl) (Rd.ext HT.out (by repeat (first | (with_reducible exact Ext.refl _) | (with_reducible assumption) | refine Ext.alloc ?_ _ | refine Ext.drew ?_ | refine Ext.drewN ?_ _))) (by rw [zs_len, List.length_take, List.length_nil]; have := HLEN.out; omega) (by first | omega | (simp; done) | (simp; omega)) ?_
               intro v5 w5 hown5 hgrow5 hat5
               have hx5 : Ext w9 w5 := Ext.grown (by repeat (first | (with_reducible exact Ext.refl _) | (with_reducible assumption) | refine Ext.alloc ?_ _ | refine Ext.drew ?_ | refine Ext.drewN ?_ _)) hgrow5 (fun b hb => by cases hb; simp)
               rw [List.nil_append] at hown5
               have hs5 := hx5.size
               have v5c := Ext.cell hx5 v9)
            | (refine kU32.step_app (by rfl) (.tmp 48) (.tmp 53) (by rfl) (by rfl) w9.heap.size _ (zs (out.take q)) (by rfl) (Ow.ext hown5 (by repeat (first | (with_reducible exact Ext.refl _) | (with_reducible assumption) | refine Ext.alloc ?_ _ | refine Ext.drew ?_ | refine Ext.drewN ?_ _))) _ [(x : Int)] (by rfl) (one_atU (by first | exact heap_alloc_new _ _ | exact (hgrow5.block _ (by first | (simp; done) | (simp; omega) | omega) (by simp [Value.ownBlock])).trans (by first | exact heap_alloc_new _ _ | exact (heap_alloc_old _ _ (by first | (simp; done) | (simp; omega) | omega)).trans (heap_alloc_new _ _) | exact heap_alloc_at (by first | (simp; done) | (simp; omega) | omega) | exact (heap_alloc_old _ _ (by first | (simp; done) | (simp; omega) | omega)).trans (heap_alloc_at (by first | (simp; done) | (simp; omega) | omega)))) HXL.out) (by rw [zs_len, List.length_take, List.length_singleton]; have := HLEN.out; omega) (by first | omega | (simp; omega)) ?_
               intro v6 w6 hown6 hgrow6 hat6
               have hx6 : Ext w9 w6 := Ext.grown (by repeat (first | (with_reducible exact Ext.refl _) | (with_reducible assumption) | refine Ext.alloc ?_ _ | refine Ext.drew ?_ | refine Ext.drewN ?_ _)) hgrow6 (fun b hb => (hown5.lt b hb).1)
               have hs6 := hx6.size)
            | (refine kU32.step_app (by rfl) (.tmp 54) (.tmp 57) (by rfl) (by rfl) w9.heap.size _ (zs (out.take q) ++ [(x : Int)]) (by rfl) (Ow.ext hown6 (by repeat (first | (with_reducible exact Ext.refl _) | (with_reducible assumption) | refine Ext.alloc ?_ _ | refine Ext.drew ?_ | refine Ext.drewN ?_ _))) _ (zs (out.drop q)) (by rfl) (Rd.ext HD.out (by repeat (first | (with_reducible exact Ext.refl _) | (with_reducible assumption) | refine Ext.alloc ?_ _ | refine Ext.drew ?_ | refine Ext.drewN ?_ _))) (by rw [List.length_append, zs_len, zs_len, List.length_take, List.length_drop, List.length_singleton]; have := HLEN.out; omega) (by first | omega | (simp; omega)) ?_
               intro v7 w7 hown7 hgrow7 hat7
               have hx7 : Ext w9 w7 := Ext.grown (by repeat (first | (with_reducible exact Ext.refl _) | (with_reducible assumption) | refine Ext.alloc ?_ _ | refine Ext.drew ?_ | refine Ext.drewN ?_ _)) hgrow7 (fun b hb => (hown6.lt b hb).1))
            | fail)
          all_goals go_wp2_with fail
          all_goals go_roundw
          all_goals first
            | exact ⟨k + 1, by omega, by go_num, by rw [HFIN.out] at hown7; exact hown7.mono HZ9.out, HXX.out.trans hx7⟩
            | (simp [intOf]; omega)
    · obtain rfl : k = l.length := by omega
      rw [List.take_length] at HO
      obtain ⟨Lz, lz, hv, hlz⟩ := HO.out.slice
      subst hv
      go_wp2_with fail
      refine bodyPost_ret (v := .slice Lz (zs (risingR l)).length lz) (by simp [results, Try.results35, go_sem]) rfl ⟨Lz, lz, by rw [zs_len], by have := HO.out; rw [zs_len] at this; exact this, HX.out⟩
end Go.Proofs.Ytofiokegdgdacaa
