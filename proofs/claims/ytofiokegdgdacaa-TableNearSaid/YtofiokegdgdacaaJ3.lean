/- Joined by wip/merge.py: QsE, QsQ, QsJ. -/
import Derived.Test.YtofiokegdgdacaaJ2
import Derived.Sort.LotC
set_option linter.unusedVariables false
set_option linter.unusedSimpArgs false
set_option linter.unnecessarySimpa false
/- Sorting words: equals on one side. -/
namespace Go.Proofs.Ytofiokegdgdacaa
open Go.BigFrame
open Go.RowKit Go.Proofs.Ytofiokegdgdacaa.Plain

open Go.Sort (swp scanUp scanDown partEqLoop partitionEqual)
theorem scan_up_go {p : Nat → Bool} {d : Array Nat} {j t : Nat} (h : t ≤ j) (hp : p d[t]! = true) : scanUp p d j t = scanUp p d j (t + 1) := by
  rw [scanUp, if_pos (by rw [hp]; simp [h])]
theorem scan_up_stop {p : Nat → Bool} {d : Array Nat} {j t : Nat} (_ : t ≤ j) (hp : p d[t]! = false) : scanUp p d j t = t := by
  rw [scanUp, if_neg (by rw [hp]; simp)]
theorem scan_up_end {p : Nat → Bool} {d : Array Nat} {j t : Nat} (h : ¬ t ≤ j) : scanUp p d j t = t := by
  rw [scanUp, if_neg (by simp; omega)]
theorem scan_dn_go {p : Nat → Bool} {d : Array Nat} {i t s : Nat} (hs : t = s + 1) (h : i ≤ t) (hp : p d[t]! = true) : scanDown p d i t = scanDown p d i s := by
  subst hs
  rw [scanDown, if_pos (by rw [hp]; simp [h])]
theorem scan_dn_stop {p : Nat → Bool} {d : Array Nat} {i t : Nat} (_ : i ≤ t) (hp : p d[t]! = false) : scanDown p d i t = t := by
  cases t with
  | zero => rfl
  | succ s => rw [scanDown, if_neg (by rw [hp]; simp)]
theorem scan_dn_end {p : Nat → Bool} {d : Array Nat} {i t : Nat} (h : ¬ i ≤ t) : scanDown p d i t = t := by
  cases t with
  | zero => rfl
  | succ s => rw [scanDown, if_neg (by simp; omega)]
/-- both scans, what they find -/
theorem scans {p q : Nat → Bool} (hq : ∀ x, q x = !p x) (d : Array Nat) (a i j : Nat) (hi : a < i) (hij : i ≤ j + 1) :
    (i ≤ scanUp p d j i ∧ scanUp p d j i ≤ j + 1) ∧ (scanDown q d (scanUp p d j i) j ≤ j ∧ scanUp p d j i ≤ scanDown q d (scanUp p d j i) j + 1) ∧ (scanUp p d j i ≤ scanDown q d (scanUp p d j i) j → scanUp p d j i < scanDown q d (scanUp p d j i) j) := by
  obtain ⟨h1, h2, _, h4⟩ := Go.Sort.scanUp_spec p d j _ i rfl
  obtain ⟨u, hu⟩ : ∃ u, scanUp p d j i = u := ⟨_, rfl⟩
  rw [hu] at h1 h2 h4 ⊢
  obtain ⟨g1, g2, _, g4⟩ := Go.Sort.scanDown_spec q d u j
  obtain ⟨v, hv⟩ : ∃ v, scanDown q d u j = v := ⟨_, rfl⟩
  rw [hv] at g1 g2 g4 ⊢
  refine ⟨⟨h1, h2 hij⟩, ⟨g1, g2 (h2 hij)⟩, fun h => ?_⟩
  rcases Nat.lt_or_ge u v with h9 | h9
  · exact h9
  · have e : u = v := by omega
    subst e
    have h5 := h4 (by omega)
    have h6 := g4 (Nat.le_refl _) (by omega)
    rw [hq, h5] at h6
    cases h6
set_option maxHeartbeats 3200000 in
set_option maxRecDepth 100000 in
theorem qeq_any (w0 : World) (B G n c a b p : Nat) (d : Array Nat) (w : World) (h : SA w0 B G n c d w) (hap : a ≤ p) (hpb : p < b) (hb : b ≤ n) (hn : n ≤ 1000000) :
    Calls Try.prog 57 #[.slice (some ⟨G, 0, none⟩) n c, .int .i64 a, .int .i64 b, .int .i64 p] w fun ed w' => ed = .returned (.int .i64 ((partitionEqual ltN d a b p).1 : Nat)) ∧ SA w0 B G n c (partitionEqual ltN d a b p).2 w' := by
  have HSw := Lib.hid h
  have hpn : p < n ∧ a < n := by omega
  have ha0 : (0 : Int) ≤ a := by omega
  have hp0 : (0 : Int) ≤ p := by omega
  have han : (a : Int) < n := by omega
  have hpn9 : (p : Int) < n := by omega
  obtain ⟨m, hm⟩ : ∃ x, b - 1 = x := ⟨_, rfl⟩
  have hmI : (b : Int) - 1 = (m : Int) := by omega
  have hmw := wrap9 n m (by omega) (by omega)
  have HH : Hid (partitionEqual ltN d a b p = partEqLoop ltN a (a + 1) m (swp d a p)) := Lib.hid (by unfold partitionEqual; rw [hm])
  have hmb : m < b ∧ a ≤ m := by omega
  clear h hm
  go_enter Try.func57, Try.ntmps57
  go_wp2_with fail
  go_cut [8] from 11 to 83 (fun v wx => v = .int .i64 0 ∧ SA w0 B G n c (swp d a p) wx)
  case first =>
    obtain ⟨xa, hxa⟩ : ∃ x, d[a]! = x := ⟨_, rfl⟩
    have Hxa := Lib.hid hxa
    obtain ⟨xp, hxp⟩ : ∃ x, d[p]! = x := ⟨_, rfl⟩
    have Hxp := Lib.hid hxp
    by_cases hpa : p = a
    · subst hpa
      obtain rfl : xa = xp := hxa.symm.trans hxp
      clear hxa hxp
      have HSW := Lib.hid (HSw.out.swp' (i := p) (j := p) (by omega) (by omega) Hxa.out Hxa.out)
      obtain ⟨zi9, zj9, fi9, fj9, lb9⟩ := HSw.out.two (i := p) (j := p) (by omega) (by omega) Hxa.out Hxa.out
      go_wp2_with fail
      go_region_law (fail)
      all_goals go_wp2_with fail
      all_goals go_meet
      all_goals exact ⟨rfl, HSW.out.drew⟩
    · have hpa2 : a < p := by omega
      clear hxa hxp hpa
      have HSW := Lib.hid (HSw.out.swp' (i := a) (j := p) (by omega) (by omega) Hxa.out Hxp.out)
      obtain ⟨zi9, zj9, fi9, fj9, lb9⟩ := HSw.out.two (i := a) (j := p) (by omega) (by omega) Hxa.out Hxp.out
      go_wp2_with fail
      go_region_law (fail)
      all_goals go_wp2_with fail
      all_goals go_meet
      all_goals exact ⟨rfl, HSW.out.drew⟩
  case rest =>
  obtain ⟨rfl, hS1⟩ := hcut
  generalize wc = w1 at *
  have HSw1 := Lib.hid hS1
  clear hS1 HSw
  go_wp2_with fail
  go_loopw [9, 10] (fun vi vj wr => ∃ (i j : Nat) (dk : Array Nat), vi = .int .i64 i ∧ vj = .int .i64 j ∧ (a < i ∧ i ≤ j + 1 ∧ j < b) ∧ SA w0 B G n c dk wr ∧ partEqLoop ltN a i j dk = partEqLoop ltN a (a + 1) m (swp d a p)) (fun vi vj _ => (intOf vj).toNat + 1 - (intOf vi).toNat)
  case atStart => exact ⟨a + 1, m, _, by go_num, rfl, by omega, HSw1.out, rfl⟩
  case round =>
    obtain ⟨i, j, dk, rfl, rfl, hij, hS, hO⟩ := hrel
    have HSwr := Lib.hid hS
    have HO := Lib.hid hO
    obtain ⟨hij1, hij2, hij3⟩ := hij
    clear hS hO HSw1
    obtain ⟨xa, hxa⟩ : ∃ x, dk[a]! = x := ⟨_, rfl⟩
    have Hxa := Lib.hid hxa
    have hPE := Go.Sort.partEqLoop_eq ltN a i j dk
    have hSC := scans (p := fun x => !ltN xa x) (q := fun x => ltN xa x) (fun x => by simp) dk a i j hij1 hij2
    rw [hxa] at hPE
    have HPE := Lib.hid hPE
    clear hPE hxa
    go_upto_block 2 with fail
    go_cut [9] from 29 to 45 (fun v wx => v = .int .i64 ((Go.Sort.scanUp (fun x => !ltN xa x) dk j i : Nat) : Int) ∧ SA w0 B G n c dk wx)
    case first =>
      go_wp2_with fail
      go_loopw [9] (fun v wq => ∃ t : Nat, v = .int .i64 t ∧ (i ≤ t ∧ t ≤ j + 1) ∧ SA w0 B G n c dk wq ∧ Go.Sort.scanUp (fun x => !ltN xa x) dk j t = Go.Sort.scanUp (fun x => !ltN xa x) dk j i) (fun v _ => j + 1 - (intOf v).toNat)
      case atStart => exact ⟨i, rfl, by omega, HSwr.out, rfl⟩
      case round =>
        obtain ⟨t, rfl, ht, hS, hU⟩ := hrel
        rename World => wq
        have HSwq := Lib.hid hS
        have HU := Lib.hid hU
        have ht0 : (0 : Int) ≤ t := by omega
        have ht9 : (t : Int) ≤ 1000000 := by omega
        have hi0 : (0 : Int) ≤ (i : Int) := by omega
        clear hS hU HSwr
        by_cases hlt : t ≤ j
        · have hd1 : decide ((t : Int) ≤ (j : Int)) = true := decide_eq_true (by omega)
          have hd1N : decide (t ≤ j) = true := decide_eq_true hlt
          have htn : t < n := by omega
          have htn9 : (t : Int) < n := by omega
          obtain ⟨xt, hxt⟩ : ∃ x, dk[t]! = x := ⟨_, rfl⟩
          have Hxt := Lib.hid hxt
          cases hl : ltN xa xt with
          | true =>
            have HP : Hid ((fun x => !ltN xa x) dk[t]! = false) := Lib.hid (by rw [hxt]; show (!ltN xa xt) = _; first | (rw [hl]; done) | (rw [hl]; rfl))
            have HL : Hid (Go.Sort.scanUp (fun x => !ltN xa x) dk j t = t) := Lib.hid (scan_up_stop hlt HP.out)
            clear hxt
            have KSwq := Lib.hid (HSwq.out.reads (i := a) (j := t) (by omega) (by omega) Hxa.out Hxt.out)
            have HFwq := Lib.hid (qless_cls xa xt true hl wq)
            go_wp2_with fail
            refine wp_region_class (Ext wq) (by kernel_rfl) (by kernel_rfl) (Ext.refl _).drew ?_
            try simp only [List.append_eq, List.cons_append, List.nil_append]
            repeat (first
              | go_big_quiet_skip
              | (go_big_quiet_want
                 first
                 | (go_big_quiet_op; go_big_quiet_on)
                 | (unfold Oper.quiet
                    apply Exists.intro
                    refine ⟨fun w' hC => ?_, ?_⟩
                    · (obtain ⟨k1, k2⟩ := KSwq.out w' hC
                       unfold Oper.quietAt
                       go_simp
                       first
                       | exact rfl
                       | (with_reducible exact HFwq.out w' hC))
                    go_simp
                    go_big_quiet_on)
                 | (go_big_quiet_op
                    apply Exists.intro
                    refine ⟨fun w' hC => ?_, ?_⟩
                    · exact HFwq.out w' hC
                    go_big_quiet_on)))
            refine wpQuiet_nil ?_
            intro w9 hCw9
            have HSw9 := Lib.hid (HSwq.out.ext hCw9)
            clear KSwq HFwq HSwq hCw9 hl
            go_wp2_with fail
            go_meet
            exact ⟨by rw [← HU.out, HL.out], HSw9.out⟩
          | false =>
            have HP : Hid ((fun x => !ltN xa x) dk[t]! = true) := Lib.hid (by rw [hxt]; show (!ltN xa xt) = _; first | (rw [hl]; done) | (rw [hl]; rfl))
            have HL : Hid (Go.Sort.scanUp (fun x => !ltN xa x) dk j t = Go.Sort.scanUp (fun x => !ltN xa x) dk j (t + 1)) := Lib.hid (scan_up_go hlt HP.out)
            clear hxt
            have KSwq := Lib.hid (HSwq.out.reads (i := a) (j := t) (by omega) (by omega) Hxa.out Hxt.out)
            have HFwq := Lib.hid (qless_cls xa xt false hl wq)
            go_wp2_with fail
            refine wp_region_class (Ext wq) (by kernel_rfl) (by kernel_rfl) (Ext.refl _).drew ?_
            try simp only [List.append_eq, List.cons_append, List.nil_append]
            repeat (first
              | go_big_quiet_skip
              | (go_big_quiet_want
                 first
                 | (go_big_quiet_op; go_big_quiet_on)
                 | (unfold Oper.quiet
                    apply Exists.intro
                    refine ⟨fun w' hC => ?_, ?_⟩
                    · (obtain ⟨k1, k2⟩ := KSwq.out w' hC
                       unfold Oper.quietAt
                       go_simp
                       first
                       | exact rfl
                       | (with_reducible exact HFwq.out w' hC))
                    go_simp
                    go_big_quiet_on)
                 | (go_big_quiet_op
                    apply Exists.intro
                    refine ⟨fun w' hC => ?_, ?_⟩
                    · exact HFwq.out w' hC
                    go_big_quiet_on)))
            refine wpQuiet_nil ?_
            intro w9 hCw9
            have HSw9 := Lib.hid (HSwq.out.ext hCw9)
            clear KSwq HFwq HSwq hCw9 hl
            go_wp2_with fail
            go_roundw
            case rel => exact ⟨t + 1, by first | rfl | go_num, by omega, HSw9.out, by rw [← HU.out, HL.out]⟩
            case measure => first | (simp [intOf]; done) | (simp [intOf]; omega)
        · have hd1 : decide ((t : Int) ≤ (j : Int)) = false := decide_eq_false (by omega)
          have hd1N : decide (t ≤ j) = false := decide_eq_false hlt
          have HL : Hid (Go.Sort.scanUp (fun x => !ltN xa x) dk j t = t) := Lib.hid (scan_up_end hlt)
          go_wp2_with fail
          refine wp_region_class (Ext wq) (by kernel_rfl) (by kernel_rfl) (Ext.refl _).drew ?_
          try simp only [List.append_eq, List.cons_append, List.nil_append]
          repeat (first
            | go_big_quiet_skip
            | (go_big_quiet_want
               first
               | (go_big_quiet_op; go_big_quiet_on)
               | (unfold Oper.quiet
                  apply Exists.intro
                  refine ⟨fun w' hC => ?_, ?_⟩
                  · (skip
                     unfold Oper.quietAt
                     go_simp
                     first
                     | exact rfl)
                  go_simp
                  go_big_quiet_on)))
          refine wpQuiet_nil ?_
          intro w9 hC9
          go_wp2_with fail
          go_meet
          exact ⟨by rw [← HU.out, HL.out], HSwq.out.ext hC9⟩
    case rest =>
    obtain ⟨rfl, hS2⟩ := hcut
    generalize wc = w2 at *
    have HSw2 := Lib.hid hS2
    clear hS2 HSwr
    obtain ⟨u, hu⟩ : ∃ u, scanUp (fun x => !ltN xa x) dk j i = u := ⟨_, rfl⟩
    rw [hu] at HPE hSC
    simp only [hu]
    obtain ⟨⟨hu1, hu2⟩, hv1, hv2⟩ := hSC
    have HV := Lib.hid (And.intro hv1 hv2)
    clear hu hv1 hv2
    go_upto_block 4 with fail
    go_cut [10] from 46 to 61 (fun v wx => v = .int .i64 ((Go.Sort.scanDown (fun x => ltN xa x) dk u j : Nat) : Int) ∧ SA w0 B G n c dk wx)
    case first =>
      go_wp2_with fail
      go_loopw [10] (fun v wq => ∃ t : Nat, v = .int .i64 t ∧ (u ≤ t + 1 ∧ t ≤ j) ∧ SA w0 B G n c dk wq ∧ Go.Sort.scanDown (fun x => ltN xa x) dk u t = Go.Sort.scanDown (fun x => ltN xa x) dk u j) (fun v _ => (intOf v).toNat)
      case atStart => exact ⟨j, rfl, by omega, HSw2.out, rfl⟩
      case round =>
        obtain ⟨t, rfl, ht, hS, hU⟩ := hrel
        rename World => wq
        have HSwq := Lib.hid hS
        have HU := Lib.hid hU
        have ht0 : (0 : Int) ≤ t := by omega
        have ht9 : (t : Int) ≤ 1000000 := by omega
        have hi0 : (0 : Int) ≤ (u : Int) := by omega
        clear hS hU HSw2
        by_cases hlt : u ≤ t
        · have hd1 : decide ((u : Int) ≤ (t : Int)) = true := decide_eq_true (by omega)
          have hd1N : decide (u ≤ t) = true := decide_eq_true hlt
          have htn : t < n := by omega
          have htn9 : (t : Int) < n := by omega
          obtain ⟨s, hs⟩ : ∃ s, t = s + 1 := ⟨t - 1, by omega⟩
          have hsI : (t : Int) - 1 = (s : Int) := by omega
          have hsw := wrap9 n s (by omega) (by omega)
          have HSS := Lib.hid hs
          obtain ⟨xt, hxt⟩ : ∃ x, dk[t]! = x := ⟨_, rfl⟩
          have Hxt := Lib.hid hxt
          cases hl : ltN xa xt with
          | true =>
            have HP : Hid ((fun x => ltN xa x) dk[t]! = true) := Lib.hid (by rw [hxt]; show ltN xa xt = _; first | (rw [hl]; done) | (rw [hl]; rfl))
            have HL : Hid (Go.Sort.scanDown (fun x => ltN xa x) dk u t = Go.Sort.scanDown (fun x => ltN xa x) dk u s) := Lib.hid (scan_dn_go hs hlt HP.out)
            clear hxt hs
            have KSwq := Lib.hid (HSwq.out.reads (i := a) (j := t) (by omega) (by omega) Hxa.out Hxt.out)
            have HFwq := Lib.hid (qless_cls xa xt true hl wq)
            go_wp2_with fail
            refine wp_region_class (Ext wq) (by kernel_rfl) (by kernel_rfl) (Ext.refl _).drew ?_
            try simp only [List.append_eq, List.cons_append, List.nil_append]
            repeat (first
              | go_big_quiet_skip
              | (go_big_quiet_want
                 first
                 | (go_big_quiet_op; go_big_quiet_on)
                 | (unfold Oper.quiet
                    apply Exists.intro
                    refine ⟨fun w' hC => ?_, ?_⟩
                    · (obtain ⟨k1, k2⟩ := KSwq.out w' hC
                       unfold Oper.quietAt
                       go_simp
                       first
                       | exact rfl
                       | (with_reducible exact HFwq.out w' hC))
                    go_simp
                    go_big_quiet_on)
                 | (go_big_quiet_op
                    apply Exists.intro
                    refine ⟨fun w' hC => ?_, ?_⟩
                    · exact HFwq.out w' hC
                    go_big_quiet_on)))
            refine wpQuiet_nil ?_
            intro w9 hCw9
            have HSw9 := Lib.hid (HSwq.out.ext hCw9)
            clear KSwq HFwq HSwq hCw9 hl
            go_wp2_with fail
            go_roundw
            case rel => exact ⟨s, by first | rfl | go_num, by have := HSS.out; omega, HSw9.out, by rw [← HU.out, HL.out]⟩
            case measure => first | (simp [intOf]; done) | (simp [intOf]; have := HSS.out; omega)
          | false =>
            have HP : Hid ((fun x => ltN xa x) dk[t]! = false) := Lib.hid (by rw [hxt]; show ltN xa xt = _; first | (rw [hl]; done) | (rw [hl]; rfl))
            have HL : Hid (Go.Sort.scanDown (fun x => ltN xa x) dk u t = t) := Lib.hid (scan_dn_stop hlt HP.out)
            clear hxt hs
            have KSwq := Lib.hid (HSwq.out.reads (i := a) (j := t) (by omega) (by omega) Hxa.out Hxt.out)
            have HFwq := Lib.hid (qless_cls xa xt false hl wq)
            go_wp2_with fail
            refine wp_region_class (Ext wq) (by kernel_rfl) (by kernel_rfl) (Ext.refl _).drew ?_
            try simp only [List.append_eq, List.cons_append, List.nil_append]
            repeat (first
              | go_big_quiet_skip
              | (go_big_quiet_want
                 first
                 | (go_big_quiet_op; go_big_quiet_on)
                 | (unfold Oper.quiet
                    apply Exists.intro
                    refine ⟨fun w' hC => ?_, ?_⟩
                    · (obtain ⟨k1, k2⟩ := KSwq.out w' hC
                       unfold Oper.quietAt
                       go_simp
                       first
                       | exact rfl
                       | (with_reducible exact HFwq.out w' hC))
                    go_simp
                    go_big_quiet_on)
                 | (go_big_quiet_op
                    apply Exists.intro
                    refine ⟨fun w' hC => ?_, ?_⟩
                    · exact HFwq.out w' hC
                    go_big_quiet_on)))
            refine wpQuiet_nil ?_
            intro w9 hCw9
            have HSw9 := Lib.hid (HSwq.out.ext hCw9)
            clear KSwq HFwq HSwq hCw9 hl
            go_wp2_with fail
            go_meet
            exact ⟨by rw [← HU.out, HL.out], HSw9.out⟩
        · have hd1 : decide ((u : Int) ≤ (t : Int)) = false := decide_eq_false (by omega)
          have hd1N : decide (u ≤ t) = false := decide_eq_false hlt
          have HL : Hid (Go.Sort.scanDown (fun x => ltN xa x) dk u t = t) := Lib.hid (scan_dn_end hlt)
          go_wp2_with fail
          refine wp_region_class (Ext wq) (by kernel_rfl) (by kernel_rfl) (Ext.refl _).drew ?_
          try simp only [List.append_eq, List.cons_append, List.nil_append]
          repeat (first
            | go_big_quiet_skip
            | (go_big_quiet_want
               first
               | (go_big_quiet_op; go_big_quiet_on)
               | (unfold Oper.quiet
                  apply Exists.intro
                  refine ⟨fun w' hC => ?_, ?_⟩
                  · (skip
                     unfold Oper.quietAt
                     go_simp
                     first
                     | exact rfl)
                  go_simp
                  go_big_quiet_on)))
          refine wpQuiet_nil ?_
          intro w9 hC9
          go_wp2_with fail
          go_meet
          exact ⟨by rw [← HU.out, HL.out], HSwq.out.ext hC9⟩
    case rest =>
    obtain ⟨rfl, hS2⟩ := hcut
    generalize wc = w3 at *
    have HSw3 := Lib.hid hS2
    clear hS2 HSw2
    obtain ⟨v, hv⟩ : ∃ v, scanDown (fun x => ltN xa x) dk u j = v := ⟨_, rfl⟩
    rw [hv] at HPE HV
    simp only [hv]
    clear hv
    by_cases hgt : v < u
    · have hd1 : decide ((v : Int) < (u : Int)) = true := decide_eq_true (by omega)
      have hd1N : decide (v < u) = true := decide_eq_true hgt
      have HE : Hid (partEqLoop ltN a i j dk = (u, dk)) := Lib.hid (by rw [HPE.out, if_pos hgt])
      go_wp2_with fail
      go_ret
      rw [HH.out, ← HO.out, HE.out]
      exact ⟨rfl, HSw3.out⟩
    · have hd1 : decide ((v : Int) < (u : Int)) = false := decide_eq_false (by omega)
      have hd1N : decide (v < u) = false := decide_eq_false hgt
      have HE : Hid (partEqLoop ltN a i j dk = partEqLoop ltN a (u + 1) (v - 1) (swp dk u v)) := Lib.hid (by rw [HPE.out, if_neg hgt])
      have huv : u < v := HV.out.2 (by omega)
      have hvj : v ≤ j := HV.out.1.1
      have hun : u < n ∧ v < n := by omega
      have hun9 : (u : Int) < n := by omega
      have hvn9 : (v : Int) < n := by omega
      have hu0 : (0 : Int) ≤ u := by omega
      have hv0 : (0 : Int) ≤ v := by omega
      obtain ⟨v1, hv1⟩ : ∃ x, v - 1 = x := ⟨_, rfl⟩
      rw [hv1] at HE
      have hv1I : (v : Int) - 1 = (v1 : Int) := by omega
      have hv1w := wrap9 n v1 (by omega) (by omega)
      have HV1 : Hid (v1 + 1 = v) := Lib.hid (by omega)
      obtain ⟨xu, hxu⟩ : ∃ x, dk[u]! = x := ⟨_, rfl⟩
      have Hxu := Lib.hid hxu
      obtain ⟨xv, hxv⟩ : ∃ x, dk[v]! = x := ⟨_, rfl⟩
      have Hxv := Lib.hid hxv
      clear hxu hxv hv1 hgt
      have HSW := Lib.hid (HSw3.out.swp' (i := u) (j := v) (by omega) (by omega) Hxu.out Hxv.out)
      obtain ⟨zi9, zj9, fi9, fj9, lb9⟩ := HSw3.out.two (i := u) (j := v) (by omega) (by omega) Hxu.out Hxv.out
      go_wp2_with fail
      go_region_law (fail)
      all_goals go_wp2_with fail
      all_goals go_roundw
      all_goals first
        | exact ⟨u + 1, v1, _, by go_num, rfl, by have := HV1.out; omega, HSW.out.drew, by rw [← HO.out, HE.out]⟩
        | (simp [intOf]; have := HV1.out; omega)
        | fail
end Go.Proofs.Ytofiokegdgdacaa

/- Sorting words: parted at a pivot. -/
namespace Go.Proofs.Ytofiokegdgdacaa
open Go.BigFrame
open Go.RowKit Go.Proofs.Ytofiokegdgdacaa.Plain

open Go.Sort (swp scanUp scanDown partLoop partition)
set_option maxHeartbeats 3200000 in
set_option maxRecDepth 100000 in
theorem qpart_any (w0 : World) (B G n c a b p : Nat) (d : Array Nat) (w : World) (h : SA w0 B G n c d w) (hap : a ≤ p) (hpb : p < b) (hb : b ≤ n) (hn : n ≤ 1000000) :
    Calls Try.prog 58 #[.slice (some ⟨G, 0, none⟩) n c, .int .i64 a, .int .i64 b, .int .i64 p] w fun ed w' => ed = .returned (.tuple #[.int .i64 ((partition ltN d a b p).1 : Nat), .bool (partition ltN d a b p).2.1]) ∧ SA w0 B G n c (partition ltN d a b p).2.2 w' := by
  have HSw := Lib.hid h
  have hpn : p < n ∧ a < n := by omega
  have ha0 : (0 : Int) ≤ a := by omega
  have hp0 : (0 : Int) ≤ p := by omega
  have han : (a : Int) < n := by omega
  have hpn9 : (p : Int) < n := by omega
  obtain ⟨m, hm⟩ : ∃ x, b - 1 = x := ⟨_, rfl⟩
  have hmI : (b : Int) - 1 = (m : Int) := by omega
  have hmw := wrap9 n m (by omega) (by omega)
  have hmb : m < b ∧ a ≤ m := by omega
  obtain ⟨d1, hd1⟩ : ∃ x, swp d a p = x := ⟨_, rfl⟩
  have HH : Hid (partition ltN d a b p = (if scanUp (fun x => ltN x d1[a]!) d1 m (a + 1) > scanDown (fun x => !ltN x d1[a]!) d1 (scanUp (fun x => ltN x d1[a]!) d1 m (a + 1)) m then (scanDown (fun x => !ltN x d1[a]!) d1 (scanUp (fun x => ltN x d1[a]!) d1 m (a + 1)) m, true, swp d1 (scanDown (fun x => !ltN x d1[a]!) d1 (scanUp (fun x => ltN x d1[a]!) d1 m (a + 1)) m) a)
      else ((partLoop ltN a (scanUp (fun x => ltN x d1[a]!) d1 m (a + 1) + 1) (scanDown (fun x => !ltN x d1[a]!) d1 (scanUp (fun x => ltN x d1[a]!) d1 m (a + 1)) m - 1) (swp d1 (scanUp (fun x => ltN x d1[a]!) d1 m (a + 1)) (scanDown (fun x => !ltN x d1[a]!) d1 (scanUp (fun x => ltN x d1[a]!) d1 m (a + 1)) m))).1, false,
        swp (partLoop ltN a (scanUp (fun x => ltN x d1[a]!) d1 m (a + 1) + 1) (scanDown (fun x => !ltN x d1[a]!) d1 (scanUp (fun x => ltN x d1[a]!) d1 m (a + 1)) m - 1) (swp d1 (scanUp (fun x => ltN x d1[a]!) d1 m (a + 1)) (scanDown (fun x => !ltN x d1[a]!) d1 (scanUp (fun x => ltN x d1[a]!) d1 m (a + 1)) m))).2 (partLoop ltN a (scanUp (fun x => ltN x d1[a]!) d1 m (a + 1) + 1) (scanDown (fun x => !ltN x d1[a]!) d1 (scanUp (fun x => ltN x d1[a]!) d1 m (a + 1)) m - 1) (swp d1 (scanUp (fun x => ltN x d1[a]!) d1 m (a + 1)) (scanDown (fun x => !ltN x d1[a]!) d1 (scanUp (fun x => ltN x d1[a]!) d1 m (a + 1)) m))).1 a))) := Lib.hid (by unfold partition; rw [hm]; simp only [hd1])
  clear h hm
  go_enter Try.func58, Try.ntmps58
  go_wp2_with fail
  go_cut [8] from 12 to 150 (fun v wx => v = .int .i64 0 ∧ SA w0 B G n c d1 wx)
  case first =>
    obtain ⟨xa, hxa⟩ : ∃ x, d[a]! = x := ⟨_, rfl⟩
    have Hxa := Lib.hid hxa
    obtain ⟨xp, hxp⟩ : ∃ x, d[p]! = x := ⟨_, rfl⟩
    have Hxp := Lib.hid hxp
    have HD1 := Lib.hid hd1
    clear hd1 hxa hxp
    rcases Nat.lt_or_ge a p with heq | heq
    · have hne : a ≠ p := by omega
      have HSW := Lib.hid (HSw.out.swp' (i := a) (j := p) (by omega) (by omega) Hxa.out Hxp.out)
      obtain ⟨zi9, zj9, fi9, fj9, lb9⟩ := HSw.out.two (i := a) (j := p) (by omega) (by omega) Hxa.out Hxp.out
      go_wp2_with fail
      go_region_law (fail)
      all_goals go_wp2_with fail
      all_goals go_meet
      all_goals (rw [← HD1.out]; exact ⟨rfl, HSW.out.drew⟩)
    · obtain rfl : a = p := by omega
      obtain rfl : xa = xp := Hxa.out.symm.trans Hxp.out
      have HSW := Lib.hid (HSw.out.swp' (i := a) (j := a) (by omega) (by omega) Hxa.out Hxa.out)
      obtain ⟨zi9, zj9, fi9, fj9, lb9⟩ := HSw.out.two (i := a) (j := a) (by omega) (by omega) Hxa.out Hxa.out
      go_wp2_with fail
      go_region_law (fail)
      all_goals go_wp2_with fail
      all_goals go_meet
      all_goals (rw [← HD1.out]; exact ⟨rfl, HSW.out.drew⟩)
  case rest =>
  obtain ⟨rfl, hS1⟩ := hcut
  generalize wc = w1 at *
  have HSw1 := Lib.hid hS1
  clear hS1 HSw hd1
  obtain ⟨i, hi⟩ : ∃ x, a + 1 = x := ⟨_, rfl⟩
  have hiI : (a : Int) + 1 = (i : Int) := by omega
  have hiw := wrap9 n i (by omega) (by omega)
  obtain ⟨hij1, hij2, hij3⟩ : a < i ∧ i ≤ m + 1 ∧ m < b := by omega
  rw [hi] at HH
  obtain ⟨xa, hxa⟩ : ∃ x, d1[a]! = x := ⟨_, rfl⟩
  have Hxa := Lib.hid hxa
  rw [hxa] at HH
  have hSC := scans (p := fun x => ltN x xa) (q := fun x => !ltN x xa) (fun x => by simp) d1 a i m hij1 hij2
  clear hxa hi
  go_upto_block 0 with fail
  go_cut [10] from 30 to 45 (fun v wx => v = .int .i64 ((Go.Sort.scanUp (fun x => ltN x xa) d1 m i : Nat) : Int) ∧ SA w0 B G n c d1 wx)
  case first =>
    go_wp2_with fail
    go_loopw [10] (fun v wq => ∃ t : Nat, v = .int .i64 t ∧ (i ≤ t ∧ t ≤ m + 1) ∧ SA w0 B G n c d1 wq ∧ Go.Sort.scanUp (fun x => ltN x xa) d1 m t = Go.Sort.scanUp (fun x => ltN x xa) d1 m i) (fun v _ => m + 1 - (intOf v).toNat)
    case atStart => exact ⟨i, rfl, by omega, HSw1.out, rfl⟩
    case round =>
      obtain ⟨t, rfl, ht, hS, hU⟩ := hrel
      rename World => wq
      have HSwq := Lib.hid hS
      have HU := Lib.hid hU
      have ht0 : (0 : Int) ≤ t := by omega
      have ht9 : (t : Int) ≤ 1000000 := by omega
      have hi0 : (0 : Int) ≤ (i : Int) := by omega
      clear hS hU HSw1
      by_cases hlt : t ≤ m
      · have hd1 : decide ((t : Int) ≤ (m : Int)) = true := decide_eq_true (by omega)
        have hd1N : decide (t ≤ m) = true := decide_eq_true hlt
        have htn : t < n := by omega
        have htn9 : (t : Int) < n := by omega
        obtain ⟨xt, hxt⟩ : ∃ x, d1[t]! = x := ⟨_, rfl⟩
        have Hxt := Lib.hid hxt
        cases hl : ltN xt xa with
        | true =>
          have HP : Hid ((fun x => ltN x xa) d1[t]! = true) := Lib.hid (by rw [hxt]; show ltN xt xa = _; first | (rw [hl]; done) | (rw [hl]; rfl))
          have HL : Hid (Go.Sort.scanUp (fun x => ltN x xa) d1 m t = Go.Sort.scanUp (fun x => ltN x xa) d1 m (t + 1)) := Lib.hid (scan_up_go hlt HP.out)
          clear hxt
          have KSwq := Lib.hid (HSwq.out.reads (i := t) (j := a) (by omega) (by omega) Hxt.out Hxa.out)
          have HFwq := Lib.hid (qless_cls xt xa true hl wq)
          go_wp2_with fail
          refine wp_region_class (Ext wq) (by kernel_rfl) (by kernel_rfl) (Ext.refl _).drew ?_
          try simp only [List.append_eq, List.cons_append, List.nil_append]
          repeat (first
            | go_big_quiet_skip
            | (go_big_quiet_want
               first
               | (go_big_quiet_op; go_big_quiet_on)
               | (unfold Oper.quiet
                  apply Exists.intro
                  refine ⟨fun w' hC => ?_, ?_⟩
                  · (obtain ⟨k1, k2⟩ := KSwq.out w' hC
                     unfold Oper.quietAt
                     go_simp
                     first
                     | exact rfl
                     | (with_reducible exact HFwq.out w' hC))
                  go_simp
                  go_big_quiet_on)
               | (go_big_quiet_op
                  apply Exists.intro
                  refine ⟨fun w' hC => ?_, ?_⟩
                  · exact HFwq.out w' hC
                  go_big_quiet_on)))
          refine wpQuiet_nil ?_
          intro w9 hCw9
          have HSw9 := Lib.hid (HSwq.out.ext hCw9)
          clear KSwq HFwq HSwq hCw9 hl
          go_wp2_with fail
          go_roundw
          case rel => exact ⟨t + 1, by first | rfl | go_num, by omega, HSw9.out, by rw [← HU.out, HL.out]⟩
          case measure => first | (simp [intOf]; done) | (simp [intOf]; omega)
        | false =>
          have HP : Hid ((fun x => ltN x xa) d1[t]! = false) := Lib.hid (by rw [hxt]; show ltN xt xa = _; first | (rw [hl]; done) | (rw [hl]; rfl))
          have HL : Hid (Go.Sort.scanUp (fun x => ltN x xa) d1 m t = t) := Lib.hid (scan_up_stop hlt HP.out)
          clear hxt
          have KSwq := Lib.hid (HSwq.out.reads (i := t) (j := a) (by omega) (by omega) Hxt.out Hxa.out)
          have HFwq := Lib.hid (qless_cls xt xa false hl wq)
          go_wp2_with fail
          refine wp_region_class (Ext wq) (by kernel_rfl) (by kernel_rfl) (Ext.refl _).drew ?_
          try simp only [List.append_eq, List.cons_append, List.nil_append]
          repeat (first
            | go_big_quiet_skip
            | (go_big_quiet_want
               first
               | (go_big_quiet_op; go_big_quiet_on)
               | (unfold Oper.quiet
                  apply Exists.intro
                  refine ⟨fun w' hC => ?_, ?_⟩
                  · (obtain ⟨k1, k2⟩ := KSwq.out w' hC
                     unfold Oper.quietAt
                     go_simp
                     first
                     | exact rfl
                     | (with_reducible exact HFwq.out w' hC))
                  go_simp
                  go_big_quiet_on)
               | (go_big_quiet_op
                  apply Exists.intro
                  refine ⟨fun w' hC => ?_, ?_⟩
                  · exact HFwq.out w' hC
                  go_big_quiet_on)))
          refine wpQuiet_nil ?_
          intro w9 hCw9
          have HSw9 := Lib.hid (HSwq.out.ext hCw9)
          clear KSwq HFwq HSwq hCw9 hl
          go_wp2_with fail
          go_meet
          exact ⟨by rw [← HU.out, HL.out], HSw9.out⟩
      · have hd1 : decide ((t : Int) ≤ (m : Int)) = false := decide_eq_false (by omega)
        have hd1N : decide (t ≤ m) = false := decide_eq_false hlt
        have HL : Hid (Go.Sort.scanUp (fun x => ltN x xa) d1 m t = t) := Lib.hid (scan_up_end hlt)
        go_wp2_with fail
        refine wp_region_class (Ext wq) (by kernel_rfl) (by kernel_rfl) (Ext.refl _).drew ?_
        try simp only [List.append_eq, List.cons_append, List.nil_append]
        repeat (first
          | go_big_quiet_skip
          | (go_big_quiet_want
             first
             | (go_big_quiet_op; go_big_quiet_on)
             | (unfold Oper.quiet
                apply Exists.intro
                refine ⟨fun w' hC => ?_, ?_⟩
                · (skip
                   unfold Oper.quietAt
                   go_simp
                   first
                   | exact rfl)
                go_simp
                go_big_quiet_on)))
        refine wpQuiet_nil ?_
        intro w9 hC9
        go_wp2_with fail
        go_meet
        exact ⟨by rw [← HU.out, HL.out], HSwq.out.ext hC9⟩
  case rest =>
  obtain ⟨rfl, hS2⟩ := hcut
  generalize wc = w2 at *
  have HSw2 := Lib.hid hS2
  clear hS2 HSw1
  obtain ⟨u, hu⟩ : ∃ u, scanUp (fun x => ltN x xa) d1 m i = u := ⟨_, rfl⟩
  rw [hu] at HH hSC
  simp only [hu]
  obtain ⟨⟨hu1, hu2⟩, hv1, hv2⟩ := hSC
  have HV := Lib.hid (And.intro hv1 hv2)
  clear hu hv1 hv2
  go_upto_block 2 with fail
  go_cut [11] from 46 to 62 (fun v wx => v = .int .i64 ((Go.Sort.scanDown (fun x => !ltN x xa) d1 u m : Nat) : Int) ∧ SA w0 B G n c d1 wx)
  case first =>
    go_wp2_with fail
    go_loopw [11] (fun v wq => ∃ t : Nat, v = .int .i64 t ∧ (u ≤ t + 1 ∧ t ≤ m) ∧ SA w0 B G n c d1 wq ∧ Go.Sort.scanDown (fun x => !ltN x xa) d1 u t = Go.Sort.scanDown (fun x => !ltN x xa) d1 u m) (fun v _ => (intOf v).toNat)
    case atStart => exact ⟨m, rfl, by omega, HSw2.out, rfl⟩
    case round =>
      obtain ⟨t, rfl, ht, hS, hU⟩ := hrel
      rename World => wq
      have HSwq := Lib.hid hS
      have HU := Lib.hid hU
      have ht0 : (0 : Int) ≤ t := by omega
      have ht9 : (t : Int) ≤ 1000000 := by omega
      have hi0 : (0 : Int) ≤ (u : Int) := by omega
      clear hS hU HSw2
      by_cases hlt : u ≤ t
      · have hd1 : decide ((u : Int) ≤ (t : Int)) = true := decide_eq_true (by omega)
        have hd1N : decide (u ≤ t) = true := decide_eq_true hlt
        have htn : t < n := by omega
        have htn9 : (t : Int) < n := by omega
        obtain ⟨s, hs⟩ : ∃ s, t = s + 1 := ⟨t - 1, by omega⟩
        have hsI : (t : Int) - 1 = (s : Int) := by omega
        have hsw := wrap9 n s (by omega) (by omega)
        have HSS := Lib.hid hs
        obtain ⟨xt, hxt⟩ : ∃ x, d1[t]! = x := ⟨_, rfl⟩
        have Hxt := Lib.hid hxt
        cases hl : ltN xt xa with
        | true =>
          have HP : Hid ((fun x => !ltN x xa) d1[t]! = false) := Lib.hid (by rw [hxt]; show (!ltN xt xa) = _; first | (rw [hl]; done) | (rw [hl]; rfl))
          have HL : Hid (Go.Sort.scanDown (fun x => !ltN x xa) d1 u t = t) := Lib.hid (scan_dn_stop hlt HP.out)
          clear hxt hs
          have KSwq := Lib.hid (HSwq.out.reads (i := t) (j := a) (by omega) (by omega) Hxt.out Hxa.out)
          have HFwq := Lib.hid (qless_cls xt xa true hl wq)
          go_wp2_with fail
          refine wp_region_class (Ext wq) (by kernel_rfl) (by kernel_rfl) (Ext.refl _).drew ?_
          try simp only [List.append_eq, List.cons_append, List.nil_append]
          repeat (first
            | go_big_quiet_skip
            | (go_big_quiet_want
               first
               | (go_big_quiet_op; go_big_quiet_on)
               | (unfold Oper.quiet
                  apply Exists.intro
                  refine ⟨fun w' hC => ?_, ?_⟩
                  · (obtain ⟨k1, k2⟩ := KSwq.out w' hC
                     unfold Oper.quietAt
                     go_simp
                     first
                     | exact rfl
                     | (with_reducible exact HFwq.out w' hC))
                  go_simp
                  go_big_quiet_on)
               | (go_big_quiet_op
                  apply Exists.intro
                  refine ⟨fun w' hC => ?_, ?_⟩
                  · exact HFwq.out w' hC
                  go_big_quiet_on)))
          refine wpQuiet_nil ?_
          intro w9 hCw9
          have HSw9 := Lib.hid (HSwq.out.ext hCw9)
          clear KSwq HFwq HSwq hCw9 hl
          go_wp2_with fail
          go_meet
          exact ⟨by rw [← HU.out, HL.out], HSw9.out⟩
        | false =>
          have HP : Hid ((fun x => !ltN x xa) d1[t]! = true) := Lib.hid (by rw [hxt]; show (!ltN xt xa) = _; first | (rw [hl]; done) | (rw [hl]; rfl))
          have HL : Hid (Go.Sort.scanDown (fun x => !ltN x xa) d1 u t = Go.Sort.scanDown (fun x => !ltN x xa) d1 u s) := Lib.hid (scan_dn_go hs hlt HP.out)
          clear hxt hs
          have KSwq := Lib.hid (HSwq.out.reads (i := t) (j := a) (by omega) (by omega) Hxt.out Hxa.out)
          have HFwq := Lib.hid (qless_cls xt xa false hl wq)
          go_wp2_with fail
          refine wp_region_class (Ext wq) (by kernel_rfl) (by kernel_rfl) (Ext.refl _).drew ?_
          try simp only [List.append_eq, List.cons_append, List.nil_append]
          repeat (first
            | go_big_quiet_skip
            | (go_big_quiet_want
               first
               | (go_big_quiet_op; go_big_quiet_on)
               | (unfold Oper.quiet
                  apply Exists.intro
                  refine ⟨fun w' hC => ?_, ?_⟩
                  · (obtain ⟨k1, k2⟩ := KSwq.out w' hC
                     unfold Oper.quietAt
                     go_simp
                     first
                     | exact rfl
                     | (with_reducible exact HFwq.out w' hC))
                  go_simp
                  go_big_quiet_on)
               | (go_big_quiet_op
                  apply Exists.intro
                  refine ⟨fun w' hC => ?_, ?_⟩
                  · exact HFwq.out w' hC
                  go_big_quiet_on)))
          refine wpQuiet_nil ?_
          intro w9 hCw9
          have HSw9 := Lib.hid (HSwq.out.ext hCw9)
          clear KSwq HFwq HSwq hCw9 hl
          go_wp2_with fail
          go_roundw
          case rel => exact ⟨s, by first | rfl | go_num, by have := HSS.out; omega, HSw9.out, by rw [← HU.out, HL.out]⟩
          case measure => first | (simp [intOf]; done) | (simp [intOf]; have := HSS.out; omega)
      · have hd1 : decide ((u : Int) ≤ (t : Int)) = false := decide_eq_false (by omega)
        have hd1N : decide (u ≤ t) = false := decide_eq_false hlt
        have HL : Hid (Go.Sort.scanDown (fun x => !ltN x xa) d1 u t = t) := Lib.hid (scan_dn_end hlt)
        go_wp2_with fail
        refine wp_region_class (Ext wq) (by kernel_rfl) (by kernel_rfl) (Ext.refl _).drew ?_
        try simp only [List.append_eq, List.cons_append, List.nil_append]
        repeat (first
          | go_big_quiet_skip
          | (go_big_quiet_want
             first
             | (go_big_quiet_op; go_big_quiet_on)
             | (unfold Oper.quiet
                apply Exists.intro
                refine ⟨fun w' hC => ?_, ?_⟩
                · (skip
                   unfold Oper.quietAt
                   go_simp
                   first
                   | exact rfl)
                go_simp
                go_big_quiet_on)))
        refine wpQuiet_nil ?_
        intro w9 hC9
        go_wp2_with fail
        go_meet
        exact ⟨by rw [← HU.out, HL.out], HSwq.out.ext hC9⟩
  case rest =>
  obtain ⟨rfl, hS2⟩ := hcut
  generalize wc = w3 at *
  have HSw3 := Lib.hid hS2
  clear hS2 HSw2
  obtain ⟨v, hv⟩ : ∃ v, scanDown (fun x => !ltN x xa) d1 u m = v := ⟨_, rfl⟩
  rw [hv] at HH HV
  simp only [hv]
  clear hv
  have hva : a ≤ v ∧ v < n := by have := HV.out; omega
  obtain ⟨hva1, hva2⟩ := hva
  have hv0 : (0 : Int) ≤ v := by omega
  have hvn9 : (v : Int) < n := by omega
  have hu0 : (0 : Int) ≤ u := by omega
  obtain ⟨ya, hya⟩ : ∃ x, d1[a]! = x := ⟨_, rfl⟩
  have Hya := Lib.hid hya
  obtain ⟨yv, hyv⟩ : ∃ x, d1[v]! = x := ⟨_, rfl⟩
  have Hyv := Lib.hid hyv
  clear hya hyv
  by_cases hgt : v < u
  · have hd1 : decide ((v : Int) < (u : Int)) = true := decide_eq_true (by omega)
    have hd1N : decide (v < u) = true := decide_eq_true hgt
    rw [if_pos hgt] at HH
    clear HV hgt
    rcases Nat.lt_or_ge a v with heq | heq
    · have hne : v ≠ a := by omega
      have HSW := Lib.hid (HSw3.out.swp' (i := v) (j := a) (by omega) (by omega) Hyv.out Hya.out)
      obtain ⟨zi9, zj9, fi9, fj9, lb9⟩ := HSw3.out.two (i := v) (j := a) (by omega) (by omega) Hyv.out Hya.out
      go_wp2_with fail
      go_region_law (fail)
      all_goals go_wp2_with fail
      all_goals refine bodyPost_ret (v := .tuple #[.int .i64 (v : Nat), .bool true]) (by simp [results, Try.results58, go_sem]) rfl ⟨by rw [HH.out], by rw [HH.out]; exact HSW.out.drew⟩
    · obtain rfl : v = a := by omega
      obtain rfl : ya = yv := Hya.out.symm.trans Hyv.out
      have HSW := Lib.hid (HSw3.out.swp' (i := v) (j := v) (by omega) (by omega) Hya.out Hya.out)
      obtain ⟨zi9, zj9, fi9, fj9, lb9⟩ := HSw3.out.two (i := v) (j := v) (by omega) (by omega) Hya.out Hya.out
      go_wp2_with fail
      go_region_law (fail)
      all_goals go_wp2_with fail
      all_goals refine bodyPost_ret (v := .tuple #[.int .i64 (v : Nat), .bool true]) (by simp [results, Try.results58, go_sem]) rfl ⟨by rw [HH.out], by rw [HH.out]; exact HSW.out.drew⟩
  have hd1 : decide ((v : Int) < (u : Int)) = false := decide_eq_false (by omega)
  have hd1N : decide (v < u) = false := decide_eq_false hgt
  rw [if_neg hgt] at HH
  have huv : u < v := HV.out.2 (by omega)
  have hvj : v ≤ m := HV.out.1.1
  have hun : u < n := by omega
  have hun9 : (u : Int) < n := by omega
  obtain ⟨v1, hv1⟩ : ∃ x, v - 1 = x := ⟨_, rfl⟩
  rw [hv1] at HH
  have hv1I : (v : Int) - 1 = (v1 : Int) := by omega
  have hv1w := wrap9 n v1 (by omega) (by omega)
  have hv1N : v1 + 1 = v := by omega
  obtain ⟨yu, hyu⟩ : ∃ x, d1[u]! = x := ⟨_, rfl⟩
  have Hyu := Lib.hid hyu
  clear hyu hv1 hgt
  obtain ⟨d2, hd2⟩ : ∃ x, swp d1 u v = x := ⟨_, rfl⟩
  rw [hd2] at HH
  have HSW := Lib.hid (HSw3.out.swp' (i := u) (j := v) (by omega) (by omega) Hyu.out Hyv.out)
  obtain ⟨zi9, zj9, fi9, fj9, lb9⟩ := HSw3.out.two (i := u) (j := v) (by omega) (by omega) Hyu.out Hyv.out
  go_wp2_with fail
  go_region_law (fail)
  all_goals go_wp2_with fail
  all_goals (
    have HSw4 := HSW.out.drew
    rw [hd2] at HSw4
    generalize ((w3.setCell ⟨G, u, none⟩ (.int .u32 (yv : Nat))).setCell ⟨G, v, none⟩ (.int .u32 (yu : Nat))).drew = w4 at HSw4 ⊢
    replace HSw4 := Lib.hid HSw4
    clear zi9 zj9 fi9 fj9 lb9 HSW HSw3 hd2
    go_wp2_with fail
    go_loopw [10, 11] (fun vi vj wr => ∃ (i j : Nat) (dk : Array Nat), vi = .int .i64 i ∧ vj = .int .i64 j ∧ (a < i ∧ i ≤ j + 1 ∧ j < b) ∧ SA w0 B G n c dk wr ∧ partLoop ltN a i j dk = partLoop ltN a (u + 1) v1 d2) (fun vi vj _ => (intOf vj).toNat + 1 - (intOf vi).toNat)
    case atStart => exact ⟨u + 1, v1, _, by go_num, rfl, by omega, HSw4.out, rfl⟩
    case round =>
      obtain ⟨i2, j2, dk, rfl, rfl, hij, hS, hO⟩ := hrel
      rename World => wr
      have HSwr := Lib.hid hS
      have HO := Lib.hid hO
      clear hij1 hij2 hij3
      obtain ⟨hij1, hij2, hij3⟩ := hij
      clear hS hO HSw4 hu1 hu2 hiI hiw hva1 hva2 hvn9 hun hun9 huv hvj hv1I hv1w hv1N HV hmI hmw hmb hpn9 Hxa Hya Hyv Hyu
      obtain ⟨xa, hxa⟩ : ∃ x, dk[a]! = x := ⟨_, rfl⟩
      have Hxa := Lib.hid hxa
      have hPE := Go.Sort.partLoop_eq ltN a i2 j2 dk
      have hSC := scans (p := fun x => ltN x xa) (q := fun x => !ltN x xa) (fun x => by simp) dk a i2 j2 hij1 hij2
      rw [hxa] at hPE
      have HPE := Lib.hid hPE
      clear hPE hxa
      go_upto_block 6 with fail
      go_cut [10] from 99 to 114 (fun v wx => v = .int .i64 ((Go.Sort.scanUp (fun x => ltN x xa) dk j2 i2 : Nat) : Int) ∧ SA w0 B G n c dk wx)
      case first =>
        go_wp2_with fail
        go_loopw [10] (fun v wq => ∃ t : Nat, v = .int .i64 t ∧ (i2 ≤ t ∧ t ≤ j2 + 1) ∧ SA w0 B G n c dk wq ∧ Go.Sort.scanUp (fun x => ltN x xa) dk j2 t = Go.Sort.scanUp (fun x => ltN x xa) dk j2 i2) (fun v _ => j2 + 1 - (intOf v).toNat)
        case atStart => exact ⟨i2, rfl, by omega, HSwr.out, rfl⟩
        case round =>
          obtain ⟨t, rfl, ht, hS, hU⟩ := hrel
          rename World => wq
          have HSwq := Lib.hid hS
          have HU := Lib.hid hU
          have ht0 : (0 : Int) ≤ t := by omega
          have ht9 : (t : Int) ≤ 1000000 := by omega
          have hi0 : (0 : Int) ≤ (i2 : Int) := by omega
          clear hS hU HSwr
          by_cases hlt : t ≤ j2
          · have hd1 : decide ((t : Int) ≤ (j2 : Int)) = true := decide_eq_true (by omega)
            have hd1N : decide (t ≤ j2) = true := decide_eq_true hlt
            have htn : t < n := by omega
            have htn9 : (t : Int) < n := by omega
            obtain ⟨xt, hxt⟩ : ∃ x, dk[t]! = x := ⟨_, rfl⟩
            have Hxt := Lib.hid hxt
            cases hl : ltN xt xa with
            | true =>
              have HP : Hid ((fun x => ltN x xa) dk[t]! = true) := Lib.hid (by rw [hxt]; show ltN xt xa = _; first | (rw [hl]; done) | (rw [hl]; rfl))
              have HL : Hid (Go.Sort.scanUp (fun x => ltN x xa) dk j2 t = Go.Sort.scanUp (fun x => ltN x xa) dk j2 (t + 1)) := Lib.hid (scan_up_go hlt HP.out)
              clear hxt
              have KSwq := Lib.hid (HSwq.out.reads (i := t) (j := a) (by omega) (by omega) Hxt.out Hxa.out)
              have HFwq := Lib.hid (qless_cls xt xa true hl wq)
              go_wp2_with fail
              refine wp_region_class (Ext wq) (by kernel_rfl) (by kernel_rfl) (Ext.refl _).drew ?_
              try simp only [List.append_eq, List.cons_append, List.nil_append]
              repeat (first
                | go_big_quiet_skip
                | (go_big_quiet_want
                   first
                   | (go_big_quiet_op; go_big_quiet_on)
                   | (unfold Oper.quiet
                      apply Exists.intro
                      refine ⟨fun w' hC => ?_, ?_⟩
                      · (obtain ⟨k1, k2⟩ := KSwq.out w' hC
                         unfold Oper.quietAt
                         go_simp
                         first
                         | exact rfl
                         | (with_reducible exact HFwq.out w' hC))
                      go_simp
                      go_big_quiet_on)
                   | (go_big_quiet_op
                      apply Exists.intro
                      refine ⟨fun w' hC => ?_, ?_⟩
                      · exact HFwq.out w' hC
                      go_big_quiet_on)))
              refine wpQuiet_nil ?_
              intro w9 hCw9
              have HSw9 := Lib.hid (HSwq.out.ext hCw9)
              clear KSwq HFwq HSwq hCw9 hl
              go_wp2_with fail
              go_roundw
              case rel => exact ⟨t + 1, by first | rfl | go_num, by omega, HSw9.out, by rw [← HU.out, HL.out]⟩
              case measure => first | (simp [intOf]; done) | (simp [intOf]; omega)
            | false =>
              have HP : Hid ((fun x => ltN x xa) dk[t]! = false) := Lib.hid (by rw [hxt]; show ltN xt xa = _; first | (rw [hl]; done) | (rw [hl]; rfl))
              have HL : Hid (Go.Sort.scanUp (fun x => ltN x xa) dk j2 t = t) := Lib.hid (scan_up_stop hlt HP.out)
              clear hxt
              have KSwq := Lib.hid (HSwq.out.reads (i := t) (j := a) (by omega) (by omega) Hxt.out Hxa.out)
              have HFwq := Lib.hid (qless_cls xt xa false hl wq)
              go_wp2_with fail
              refine wp_region_class (Ext wq) (by kernel_rfl) (by kernel_rfl) (Ext.refl _).drew ?_
              try simp only [List.append_eq, List.cons_append, List.nil_append]
              repeat (first
                | go_big_quiet_skip
                | (go_big_quiet_want
                   first
                   | (go_big_quiet_op; go_big_quiet_on)
                   | (unfold Oper.quiet
                      apply Exists.intro
                      refine ⟨fun w' hC => ?_, ?_⟩
                      · (obtain ⟨k1, k2⟩ := KSwq.out w' hC
                         unfold Oper.quietAt
                         go_simp
                         first
                         | exact rfl
                         | (with_reducible exact HFwq.out w' hC))
                      go_simp
                      go_big_quiet_on)
                   | (go_big_quiet_op
                      apply Exists.intro
                      refine ⟨fun w' hC => ?_, ?_⟩
                      · exact HFwq.out w' hC
                      go_big_quiet_on)))
              refine wpQuiet_nil ?_
              intro w9 hCw9
              have HSw9 := Lib.hid (HSwq.out.ext hCw9)
              clear KSwq HFwq HSwq hCw9 hl
              go_wp2_with fail
              go_meet
              exact ⟨by rw [← HU.out, HL.out], HSw9.out⟩
          · have hd1 : decide ((t : Int) ≤ (j2 : Int)) = false := decide_eq_false (by omega)
            have hd1N : decide (t ≤ j2) = false := decide_eq_false hlt
            have HL : Hid (Go.Sort.scanUp (fun x => ltN x xa) dk j2 t = t) := Lib.hid (scan_up_end hlt)
            go_wp2_with fail
            refine wp_region_class (Ext wq) (by kernel_rfl) (by kernel_rfl) (Ext.refl _).drew ?_
            try simp only [List.append_eq, List.cons_append, List.nil_append]
            repeat (first
              | go_big_quiet_skip
              | (go_big_quiet_want
                 first
                 | (go_big_quiet_op; go_big_quiet_on)
                 | (unfold Oper.quiet
                    apply Exists.intro
                    refine ⟨fun w' hC => ?_, ?_⟩
                    · (skip
                       unfold Oper.quietAt
                       go_simp
                       first
                       | exact rfl)
                    go_simp
                    go_big_quiet_on)))
            refine wpQuiet_nil ?_
            intro w9 hC9
            go_wp2_with fail
            go_meet
            exact ⟨by rw [← HU.out, HL.out], HSwq.out.ext hC9⟩
      case rest =>
      obtain ⟨rfl, hS2⟩ := hcut
      generalize wc = w5 at *
      have HSw5 := Lib.hid hS2
      clear hS2 HSwr
      obtain ⟨s1, hs1⟩ : ∃ x, scanUp (fun x => ltN x xa) dk j2 i2 = x := ⟨_, rfl⟩
      rw [hs1] at HPE hSC
      simp only [hs1]
      obtain ⟨⟨hu1, hu2⟩, hv1, hv2⟩ := hSC
      have HV := Lib.hid (And.intro hv1 hv2)
      clear hs1 hv1 hv2
      go_upto_block 8 with fail
      go_cut [11] from 115 to 131 (fun v wx => v = .int .i64 ((Go.Sort.scanDown (fun x => !ltN x xa) dk s1 j2 : Nat) : Int) ∧ SA w0 B G n c dk wx)
      case first =>
        go_wp2_with fail
        go_loopw [11] (fun v wq => ∃ t : Nat, v = .int .i64 t ∧ (s1 ≤ t + 1 ∧ t ≤ j2) ∧ SA w0 B G n c dk wq ∧ Go.Sort.scanDown (fun x => !ltN x xa) dk s1 t = Go.Sort.scanDown (fun x => !ltN x xa) dk s1 j2) (fun v _ => (intOf v).toNat)
        case atStart => exact ⟨j2, rfl, by omega, HSw5.out, rfl⟩
        case round =>
          obtain ⟨t, rfl, ht, hS, hU⟩ := hrel
          rename World => wq
          have HSwq := Lib.hid hS
          have HU := Lib.hid hU
          have ht0 : (0 : Int) ≤ t := by omega
          have ht9 : (t : Int) ≤ 1000000 := by omega
          have hi0 : (0 : Int) ≤ (s1 : Int) := by omega
          clear hS hU HSw5
          by_cases hlt : s1 ≤ t
          · have hd1 : decide ((s1 : Int) ≤ (t : Int)) = true := decide_eq_true (by omega)
            have hd1N : decide (s1 ≤ t) = true := decide_eq_true hlt
            have htn : t < n := by omega
            have htn9 : (t : Int) < n := by omega
            obtain ⟨s, hs⟩ : ∃ s, t = s + 1 := ⟨t - 1, by omega⟩
            have hsI : (t : Int) - 1 = (s : Int) := by omega
            have hsw := wrap9 n s (by omega) (by omega)
            have HSS := Lib.hid hs
            obtain ⟨xt, hxt⟩ : ∃ x, dk[t]! = x := ⟨_, rfl⟩
            have Hxt := Lib.hid hxt
            cases hl : ltN xt xa with
            | true =>
              have HP : Hid ((fun x => !ltN x xa) dk[t]! = false) := Lib.hid (by rw [hxt]; show (!ltN xt xa) = _; first | (rw [hl]; done) | (rw [hl]; rfl))
              have HL : Hid (Go.Sort.scanDown (fun x => !ltN x xa) dk s1 t = t) := Lib.hid (scan_dn_stop hlt HP.out)
              clear hxt hs
              have KSwq := Lib.hid (HSwq.out.reads (i := t) (j := a) (by omega) (by omega) Hxt.out Hxa.out)
              have HFwq := Lib.hid (qless_cls xt xa true hl wq)
              go_wp2_with fail
              refine wp_region_class (Ext wq) (by kernel_rfl) (by kernel_rfl) (Ext.refl _).drew ?_
              try simp only [List.append_eq, List.cons_append, List.nil_append]
              repeat (first
                | go_big_quiet_skip
                | (go_big_quiet_want
                   first
                   | (go_big_quiet_op; go_big_quiet_on)
                   | (unfold Oper.quiet
                      apply Exists.intro
                      refine ⟨fun w' hC => ?_, ?_⟩
                      · (obtain ⟨k1, k2⟩ := KSwq.out w' hC
                         unfold Oper.quietAt
                         go_simp
                         first
                         | exact rfl
                         | (with_reducible exact HFwq.out w' hC))
                      go_simp
                      go_big_quiet_on)
                   | (go_big_quiet_op
                      apply Exists.intro
                      refine ⟨fun w' hC => ?_, ?_⟩
                      · exact HFwq.out w' hC
                      go_big_quiet_on)))
              refine wpQuiet_nil ?_
              intro w9 hCw9
              have HSw9 := Lib.hid (HSwq.out.ext hCw9)
              clear KSwq HFwq HSwq hCw9 hl
              go_wp2_with fail
              go_meet
              exact ⟨by rw [← HU.out, HL.out], HSw9.out⟩
            | false =>
              have HP : Hid ((fun x => !ltN x xa) dk[t]! = true) := Lib.hid (by rw [hxt]; show (!ltN xt xa) = _; first | (rw [hl]; done) | (rw [hl]; rfl))
              have HL : Hid (Go.Sort.scanDown (fun x => !ltN x xa) dk s1 t = Go.Sort.scanDown (fun x => !ltN x xa) dk s1 s) := Lib.hid (scan_dn_go hs hlt HP.out)
              clear hxt hs
              have KSwq := Lib.hid (HSwq.out.reads (i := t) (j := a) (by omega) (by omega) Hxt.out Hxa.out)
              have HFwq := Lib.hid (qless_cls xt xa false hl wq)
              go_wp2_with fail
              refine wp_region_class (Ext wq) (by kernel_rfl) (by kernel_rfl) (Ext.refl _).drew ?_
              try simp only [List.append_eq, List.cons_append, List.nil_append]
              repeat (first
                | go_big_quiet_skip
                | (go_big_quiet_want
                   first
                   | (go_big_quiet_op; go_big_quiet_on)
                   | (unfold Oper.quiet
                      apply Exists.intro
                      refine ⟨fun w' hC => ?_, ?_⟩
                      · (obtain ⟨k1, k2⟩ := KSwq.out w' hC
                         unfold Oper.quietAt
                         go_simp
                         first
                         | exact rfl
                         | (with_reducible exact HFwq.out w' hC))
                      go_simp
                      go_big_quiet_on)
                   | (go_big_quiet_op
                      apply Exists.intro
                      refine ⟨fun w' hC => ?_, ?_⟩
                      · exact HFwq.out w' hC
                      go_big_quiet_on)))
              refine wpQuiet_nil ?_
              intro w9 hCw9
              have HSw9 := Lib.hid (HSwq.out.ext hCw9)
              clear KSwq HFwq HSwq hCw9 hl
              go_wp2_with fail
              go_roundw
              case rel => exact ⟨s, by first | rfl | go_num, by have := HSS.out; omega, HSw9.out, by rw [← HU.out, HL.out]⟩
              case measure => first | (simp [intOf]; done) | (simp [intOf]; have := HSS.out; omega)
          · have hd1 : decide ((s1 : Int) ≤ (t : Int)) = false := decide_eq_false (by omega)
            have hd1N : decide (s1 ≤ t) = false := decide_eq_false hlt
            have HL : Hid (Go.Sort.scanDown (fun x => !ltN x xa) dk s1 t = t) := Lib.hid (scan_dn_end hlt)
            go_wp2_with fail
            refine wp_region_class (Ext wq) (by kernel_rfl) (by kernel_rfl) (Ext.refl _).drew ?_
            try simp only [List.append_eq, List.cons_append, List.nil_append]
            repeat (first
              | go_big_quiet_skip
              | (go_big_quiet_want
                 first
                 | (go_big_quiet_op; go_big_quiet_on)
                 | (unfold Oper.quiet
                    apply Exists.intro
                    refine ⟨fun w' hC => ?_, ?_⟩
                    · (skip
                       unfold Oper.quietAt
                       go_simp
                       first
                       | exact rfl)
                    go_simp
                    go_big_quiet_on)))
            refine wpQuiet_nil ?_
            intro w9 hC9
            go_wp2_with fail
            go_meet
            exact ⟨by rw [← HU.out, HL.out], HSwq.out.ext hC9⟩
      case rest =>
      obtain ⟨rfl, hS2⟩ := hcut
      generalize wc = w6 at *
      have HSw6 := Lib.hid hS2
      clear hS2 HSw5
      obtain ⟨s2, hs2⟩ : ∃ x, scanDown (fun x => !ltN x xa) dk s1 j2 = x := ⟨_, rfl⟩
      rw [hs2] at HPE HV
      simp only [hs2]
      clear hs2
      have hva : a ≤ s2 ∧ s2 < n := by have := HV.out; omega
      obtain ⟨hva1, hva2⟩ := hva
      have hs0 : (0 : Int) ≤ s2 := by omega
      have hsn9 : (s2 : Int) < n := by omega
      have hs10 : (0 : Int) ≤ s1 := by omega
      obtain ⟨ya, hya⟩ : ∃ x, dk[a]! = x := ⟨_, rfl⟩
      have Hya := Lib.hid hya
      obtain ⟨yv, hyv⟩ : ∃ x, dk[s2]! = x := ⟨_, rfl⟩
      have Hyv := Lib.hid hyv
      clear hya hyv
      by_cases hgt : s2 < s1
      · have hd3 : decide ((s2 : Int) < (s1 : Int)) = true := decide_eq_true (by omega)
        have hd3N : decide (s2 < s1) = true := decide_eq_true hgt
        have HE : Hid (partLoop ltN a i2 j2 dk = (s2, dk)) := Lib.hid (by rw [HPE.out, if_pos hgt])
        have hHO := HO.out
        rw [HE.out] at hHO
        rw [← hHO] at HH
        clear HV hgt hHO
        rcases Nat.lt_or_ge a s2 with heq | heq
        · have hne : s2 ≠ a := by omega
          have HSW := Lib.hid (HSw6.out.swp' (i := s2) (j := a) (by omega) (by omega) Hyv.out Hya.out)
          obtain ⟨zi9, zj9, fi9, fj9, lb9⟩ := HSw6.out.two (i := s2) (j := a) (by omega) (by omega) Hyv.out Hya.out
          go_wp2_with fail
          go_region_law (fail)
          all_goals go_wp2_with fail
          all_goals refine bodyPost_ret (v := .tuple #[.int .i64 (s2 : Nat), .bool false]) (by simp [results, Try.results58, go_sem]) rfl ⟨by rw [HH.out], by rw [HH.out]; exact HSW.out.drew⟩
        · obtain rfl : s2 = a := by omega
          obtain rfl : ya = yv := Hya.out.symm.trans Hyv.out
          have HSW := Lib.hid (HSw6.out.swp' (i := s2) (j := s2) (by omega) (by omega) Hya.out Hya.out)
          obtain ⟨zi9, zj9, fi9, fj9, lb9⟩ := HSw6.out.two (i := s2) (j := s2) (by omega) (by omega) Hya.out Hya.out
          go_wp2_with fail
          go_region_law (fail)
          all_goals go_wp2_with fail
          all_goals refine bodyPost_ret (v := .tuple #[.int .i64 (s2 : Nat), .bool false]) (by simp [results, Try.results58, go_sem]) rfl ⟨by rw [HH.out], by rw [HH.out]; exact HSW.out.drew⟩
      have hd3 : decide ((s2 : Int) < (s1 : Int)) = false := decide_eq_false (by omega)
      have hd3N : decide (s2 < s1) = false := decide_eq_false hgt
      have HE : Hid (partLoop ltN a i2 j2 dk = partLoop ltN a (s1 + 1) (s2 - 1) (swp dk s1 s2)) := Lib.hid (by rw [HPE.out, if_neg hgt])
      have huv : s1 < s2 := HV.out.2 (by omega)
      have hvj : s2 ≤ j2 := HV.out.1.1
      have hun : s1 < n := by omega
      have hun9 : (s1 : Int) < n := by omega
      obtain ⟨t1, ht1⟩ : ∃ x, s2 - 1 = x := ⟨_, rfl⟩
      rw [ht1] at HE
      have ht1I : (s2 : Int) - 1 = (t1 : Int) := by omega
      have ht1w := wrap9 n t1 (by omega) (by omega)
      have HT1 : Hid (t1 + 1 = s2) := Lib.hid (by omega)
      obtain ⟨yu, hyu⟩ : ∃ x, dk[s1]! = x := ⟨_, rfl⟩
      have Hyu := Lib.hid hyu
      clear hyu ht1 hgt
      have HSW := Lib.hid (HSw6.out.swp' (i := s1) (j := s2) (by omega) (by omega) Hyu.out Hyv.out)
      obtain ⟨zi9, zj9, fi9, fj9, lb9⟩ := HSw6.out.two (i := s1) (j := s2) (by omega) (by omega) Hyu.out Hyv.out
      go_wp2_with fail
      go_region_law (fail)
      all_goals go_wp2_with fail
      all_goals go_roundw
      all_goals first
        | exact ⟨s1 + 1, t1, _, by go_num, rfl, by have := HT1.out; omega, HSW.out.drew, by rw [← HO.out, HE.out]⟩
        | (simp [intOf]; have := HT1.out; omega)
        | fail)
end Go.Proofs.Ytofiokegdgdacaa

/- Sorting words: what is nearly sorted. -/
namespace Go.Proofs.Ytofiokegdgdacaa
open Go.BigFrame
open Go.RowKit Go.Proofs.Ytofiokegdgdacaa.Plain

open Go.Sort (swp scanSorted shiftDown shiftUp partialIns partialInsertionSort)
theorem scan_so_go {d : Array Nat} {b t s : Nat} (hs : t = s + 1) (h : t < b) (hp : ltN d[t]! d[s]! = false) : scanSorted ltN d b t = scanSorted ltN d b (t + 1) := by
  subst hs
  rw [scanSorted, if_pos (by rw [Nat.add_sub_cancel, hp]; simp [h])]
theorem scan_so_stop {d : Array Nat} {b t s : Nat} (hs : t = s + 1) (h : t < b) (hp : ltN d[t]! d[s]! = true) : scanSorted ltN d b t = t := by
  subst hs
  rw [scanSorted, if_neg (by rw [Nat.add_sub_cancel, hp]; simp)]
theorem scan_so_end {d : Array Nat} {b t : Nat} (h : ¬ t < b) : scanSorted ltN d b t = t := by
  rw [scanSorted, if_neg (by simp; omega)]
theorem scan_so_bd (d : Array Nat) (b : Nat) : ∀ (m t : Nat), b - t = m → t ≤ b → t ≤ scanSorted ltN d b t ∧ scanSorted ltN d b t ≤ b := by
  intro m
  induction m with
  | zero => intro t h ht; rw [scan_so_end (by omega)]; omega
  | succ m ih =>
    intro t h ht
    rw [scanSorted]
    split
    · have := ih (t + 1) (by omega) (by omega); omega
    · omega
theorem shift_dn_go {d : Array Nat} {t s : Nat} (hs : t = s + 1) (hp : ltN d[t]! d[s]! = true) : shiftDown ltN t d = shiftDown ltN s (swp d t s) := by
  subst hs
  rw [shiftDown, if_neg (by rw [hp]; simp)]
theorem shift_dn_stop {d : Array Nat} {t s : Nat} (hs : t = s + 1) (hp : ltN d[t]! d[s]! = false) : shiftDown ltN t d = d := by
  subst hs
  rw [shiftDown, if_pos (by rw [hp]; rfl)]
theorem shift_dn_end {d : Array Nat} {t : Nat} (h : ¬ 1 ≤ t) : shiftDown ltN t d = d := by
  obtain rfl : t = 0 := by omega
  rfl
theorem shift_up_go {d : Array Nat} {b t s : Nat} (hs : t = s + 1) (h : t < b) (hp : ltN d[t]! d[s]! = true) : shiftUp ltN b t d = shiftUp ltN b (t + 1) (swp d t s) := by
  subst hs
  rw [shiftUp, if_pos h, Nat.add_sub_cancel, if_neg (by rw [hp]; simp)]
theorem shift_up_stop {d : Array Nat} {b t s : Nat} (hs : t = s + 1) (h : t < b) (hp : ltN d[t]! d[s]! = false) : shiftUp ltN b t d = d := by
  subst hs
  rw [shiftUp, if_pos h, Nat.add_sub_cancel, if_pos (by rw [hp]; rfl)]
theorem shift_up_end {d : Array Nat} {b t : Nat} (h : ¬ t < b) : shiftUp ltN b t d = d := by
  rw [shiftUp, if_neg h]
set_option maxHeartbeats 3200000 in
set_option maxRecDepth 100000 in
theorem qpis_any (w0 : World) (B G n c a b : Nat) (d : Array Nat) (w : World) (h : SA w0 B G n c d w) (hab : a < b) (hb : b ≤ n) (hn : n ≤ 1000000) :
    Calls Try.prog 56 #[.slice (some ⟨G, 0, none⟩) n c, .int .i64 a, .int .i64 b] w fun ed w' => ed = .returned (.bool (partialInsertionSort ltN d a b).2) ∧ SA w0 B G n c (partialInsertionSort ltN d a b).1 w' := by
  have HSw := Lib.hid h
  have ha9 : (a : Int) ≤ 1000000 := by omega
  have ha0 : (0 : Int) ≤ a := by omega
  obtain ⟨l, hl⟩ : ∃ x, b - a = x := ⟨_, rfl⟩
  have hlI : (b : Int) - (a : Int) = (l : Int) := by omega
  have hlw := wrap9 n l (by omega) (by omega)
  have HH : Hid (partialInsertionSort ltN d a b = partialIns ltN a b 5 (a + 1) d) := Lib.hid rfl
  clear h
  go_enter Try.func56, Try.ntmps56
  go_wp2_with fail
  go_loopw [7, 8] (fun vi vj wr => ∃ (k s i : Nat) (dk : Array Nat), vj = .int .i64 k ∧ vi = .int .i64 i ∧ k + s = 5 ∧ (a < i ∧ i ≤ b) ∧ SA w0 B G n c dk wr ∧ partialIns ltN a b s i dk = partialIns ltN a b 5 (a + 1) d) (fun _ vj _ => 5 - (intOf vj).toNat)
  case atStart => exact ⟨0, 5, a + 1, d, rfl, by go_num, rfl, by omega, HSw.out, rfl⟩
  case round =>
    obtain ⟨k, s0, i, dk, rfl, rfl, hk, hi, hS, hO⟩ := hrel
    have HSwr := Lib.hid hS
    have HO := Lib.hid hO
    have hk0 : (0 : Int) ≤ k := by omega
    have hk9 : (k : Int) ≤ 5 := by omega
    clear hS hO HSw
    cases s0 with
    | zero =>
      obtain rfl : k = 5 := by omega
      have HE : Hid (partialIns ltN a b 0 i dk = (dk, false)) := Lib.hid rfl
      go_wp2_with fail
      go_ret
      rw [HH.out, ← HO.out, HE.out]
      exact ⟨rfl, HSwr.out⟩
    | succ rr =>
      have hd1 : decide ((k : Int) < 5) = true := decide_eq_true (by omega)
      have hd1N : decide (k < 5) = true := decide_eq_true (by omega)
      obtain ⟨hi1, hi2⟩ := hi
      go_upto_block 2 with fail
      go_cut [7] from 17 to 34 (fun v wx => v = .int .i64 ((scanSorted ltN dk b i : Nat) : Int) ∧ SA w0 B G n c dk wx)
      case first =>
        go_wp2_with fail
        go_loopw [7] (fun v wq => ∃ t : Nat, v = .int .i64 t ∧ (i ≤ t ∧ t ≤ b) ∧ SA w0 B G n c dk wq ∧ scanSorted ltN dk b t = scanSorted ltN dk b i) (fun v _ => b - (intOf v).toNat)
        case atStart => exact ⟨i, rfl, by omega, HSwr.out, rfl⟩
        case round =>
          obtain ⟨t, rfl, ht, hS, hU⟩ := hrel
          rename World => wq
          have HSwq := Lib.hid hS
          have HU := Lib.hid hU
          have ht0 : (0 : Int) ≤ t := by omega
          have ht9 : (t : Int) ≤ 1000000 := by omega
          clear hS hU HSwr
          by_cases hlt : t < b
          · have hd2 : decide ((t : Int) < (b : Int)) = true := decide_eq_true (by omega)
            have hd2N : decide (t < b) = true := decide_eq_true hlt
            have htn : t < n := by omega
            have htn9 : (t : Int) < n := by omega
            obtain ⟨q, hq⟩ : ∃ q, t = q + 1 := ⟨t - 1, by omega⟩
            have hqI : (t : Int) - 1 = (q : Int) := by omega
            have hqw := wrap9 n q (by omega) (by omega)
            have hq0 : (0 : Int) ≤ q := by omega
            have hqn : q < n := by omega
            have hqn9 : (q : Int) < n := by omega
            obtain ⟨xt, hxt⟩ : ∃ x, dk[t]! = x := ⟨_, rfl⟩
            have Hxt := Lib.hid hxt
            obtain ⟨xq, hxq⟩ : ∃ x, dk[q]! = x := ⟨_, rfl⟩
            have Hxq := Lib.hid hxq
            cases hl2 : ltN xt xq with
            | true =>
              have HL : Hid (scanSorted ltN dk b t = t) := Lib.hid (scan_so_stop hq hlt (by rw [hxt, hxq]; exact hl2))
              clear hxt hxq hq
              have KSwq := Lib.hid (HSwq.out.reads (i := t) (j := q) (by omega) (by omega) Hxt.out Hxq.out)
              have HFwq := Lib.hid (qless_cls xt xq true hl2 wq)
              go_wp2_with fail
              refine wp_region_class (Ext wq) (by kernel_rfl) (by kernel_rfl) (Ext.refl _).drew ?_
              try simp only [List.append_eq, List.cons_append, List.nil_append]
              repeat (first
                | go_big_quiet_skip
                | (go_big_quiet_want
                   first
                   | (go_big_quiet_op; go_big_quiet_on)
                   | (unfold Oper.quiet
                      apply Exists.intro
                      refine ⟨fun w' hC => ?_, ?_⟩
                      · (obtain ⟨k1, k2⟩ := KSwq.out w' hC
                         unfold Oper.quietAt
                         go_simp
                         first
                         | exact rfl
                         | (with_reducible exact HFwq.out w' hC))
                      go_simp
                      go_big_quiet_on)
                   | (go_big_quiet_op
                      apply Exists.intro
                      refine ⟨fun w' hC => ?_, ?_⟩
                      · exact HFwq.out w' hC
                      go_big_quiet_on)))
              refine wpQuiet_nil ?_
              intro w9 hCw9
              have HSw9 := Lib.hid (HSwq.out.ext hCw9)
              clear KSwq HFwq HSwq hCw9 hl2
              go_wp2_with fail
              go_meet
              exact ⟨by rw [← HU.out, HL.out], HSw9.out⟩
            | false =>
              have HL : Hid (scanSorted ltN dk b t = scanSorted ltN dk b (t + 1)) := Lib.hid (scan_so_go hq hlt (by rw [hxt, hxq]; exact hl2))
              clear hxt hxq hq
              have KSwq := Lib.hid (HSwq.out.reads (i := t) (j := q) (by omega) (by omega) Hxt.out Hxq.out)
              have HFwq := Lib.hid (qless_cls xt xq false hl2 wq)
              go_wp2_with fail
              refine wp_region_class (Ext wq) (by kernel_rfl) (by kernel_rfl) (Ext.refl _).drew ?_
              try simp only [List.append_eq, List.cons_append, List.nil_append]
              repeat (first
                | go_big_quiet_skip
                | (go_big_quiet_want
                   first
                   | (go_big_quiet_op; go_big_quiet_on)
                   | (unfold Oper.quiet
                      apply Exists.intro
                      refine ⟨fun w' hC => ?_, ?_⟩
                      · (obtain ⟨k1, k2⟩ := KSwq.out w' hC
                         unfold Oper.quietAt
                         go_simp
                         first
                         | exact rfl
                         | (with_reducible exact HFwq.out w' hC))
                      go_simp
                      go_big_quiet_on)
                   | (go_big_quiet_op
                      apply Exists.intro
                      refine ⟨fun w' hC => ?_, ?_⟩
                      · exact HFwq.out w' hC
                      go_big_quiet_on)))
              refine wpQuiet_nil ?_
              intro w9 hCw9
              have HSw9 := Lib.hid (HSwq.out.ext hCw9)
              clear KSwq HFwq HSwq hCw9 hl2
              go_wp2_with fail
              go_roundw
              case rel => exact ⟨t + 1, by go_num, by omega, HSw9.out, by rw [← HU.out, HL.out]⟩
              case measure => first | (simp [intOf]; done) | (simp [intOf]; omega)
          · have hd2 : decide ((t : Int) < (b : Int)) = false := decide_eq_false (by omega)
            have hd2N : decide (t < b) = false := decide_eq_false hlt
            have HL : Hid (scanSorted ltN dk b t = t) := Lib.hid (scan_so_end hlt)
            go_wp2_with fail
            refine wp_region_class (Ext wq) (by kernel_rfl) (by kernel_rfl) (Ext.refl _).drew ?_
            try simp only [List.append_eq, List.cons_append, List.nil_append]
            repeat (first
              | go_big_quiet_skip
              | (go_big_quiet_want
                 first
                 | (go_big_quiet_op; go_big_quiet_on)
                 | (unfold Oper.quiet
                    apply Exists.intro
                    refine ⟨fun w' hC => ?_, ?_⟩
                    · (skip
                       unfold Oper.quietAt
                       go_simp
                       first
                       | exact rfl)
                    go_simp
                    go_big_quiet_on)))
            refine wpQuiet_nil ?_
            intro w9 hC9
            go_wp2_with fail
            go_meet
            exact ⟨by rw [← HU.out, HL.out], HSwq.out.ext hC9⟩
      case rest =>
      obtain ⟨rfl, hS2⟩ := hcut
      generalize wc = w2 at *
      have HSw2 := Lib.hid hS2
      clear hS2 HSwr
      have hSP := Go.Sort.partialIns_succ (lt := ltN) a b rr i dk
      have hbd := scan_so_bd dk b _ i rfl hi2
      obtain ⟨u, hu⟩ : ∃ x, scanSorted ltN dk b i = x := ⟨_, rfl⟩
      rw [hu] at hSP hbd
      simp only [hu]
      have HSP := Lib.hid hSP
      clear hSP hu
      by_cases hub : u = b
      · subst hub
        have HE : Hid (partialIns ltN a u (rr + 1) i dk = (dk, true)) := Lib.hid (by rw [HSP.out, if_pos rfl])
        have hd2 : ((u : Int) == (u : Int)) = true := by simp
        go_wp2_with fail
        go_ret
        rw [HH.out, ← HO.out, HE.out]
        exact ⟨rfl, HSw2.out⟩
      have hd2 : ((u : Int) == (b : Int)) = false := by simp; omega
      have hd2N : (u == b) = false := by simp [hub]
      have hd2M : decide (u = b) = false := decide_eq_false hub
      by_cases h50 : l < 50
      · have hd3 : decide ((l : Int) < 50) = true := decide_eq_true (by omega)
        have hd3N : decide (l < 50) = true := decide_eq_true h50
        have HE : Hid (partialIns ltN a b (rr + 1) i dk = (dk, false)) := Lib.hid (by rw [HSP.out, if_neg hub, if_pos (by omega)])
        go_wp2_with fail
        go_ret
        rw [HH.out, ← HO.out, HE.out]
        exact ⟨rfl, HSw2.out⟩
      have hd3 : decide ((l : Int) < 50) = false := decide_eq_false (by omega)
      have hd3N : decide (l < 50) = false := decide_eq_false h50
      obtain ⟨u1, hu1⟩ : ∃ x, u - 1 = x := ⟨_, rfl⟩
      obtain ⟨u2, hu2⟩ : ∃ x, u + 1 = x := ⟨_, rfl⟩
      obtain ⟨ua, hua⟩ : ∃ x, u - a = x := ⟨_, rfl⟩
      obtain ⟨bu, hbu⟩ : ∃ x, b - u = x := ⟨_, rfl⟩
      have hu1I : (u : Int) - 1 = (u1 : Int) := by omega
      have hu2I : (u : Int) + 1 = (u2 : Int) := by omega
      have huaI : (u : Int) - (a : Int) = (ua : Int) := by omega
      have hbuI : (b : Int) - (u : Int) = (bu : Int) := by omega
      have hu1w := wrap9 n u1 (by omega) (by omega)
      have hu2w := wrap9 n u2 (by omega) (by omega)
      have huaw := wrap9 n ua (by omega) (by omega)
      have hbuw := wrap9 n bu (by omega) (by omega)
      have hne : u ≠ u1 := by omega
      have hun : u < n := by omega
      have hu1n : u1 < n := by omega
      have hun9 : (u : Int) < n := by omega
      have hu1n9 : (u1 : Int) < n := by omega
      have hu0 : (0 : Int) ≤ u := by omega
      have hu10 : (0 : Int) ≤ u1 := by omega
      rw [if_neg hub, if_neg (by omega), hu1] at HSP
      obtain ⟨d2, hd2'⟩ : ∃ x, swp dk u u1 = x := ⟨_, rfl⟩
      rw [hd2'] at HSP
      obtain ⟨xu, hxu⟩ : ∃ x, dk[u]! = x := ⟨_, rfl⟩
      have Hxu := Lib.hid hxu
      obtain ⟨xv, hxv⟩ : ∃ x, dk[u1]! = x := ⟨_, rfl⟩
      have Hxv := Lib.hid hxv
      clear hxu hxv
      go_wp2_with fail
      go_cut [6] from 42 to 57 (fun _ wx => SA w0 B G n c d2 wx)
      case first =>
        have HSW := Lib.hid (HSw2.out.swp' (i := u) (j := u1) (by omega) (by omega) Hxu.out Hxv.out)
        obtain ⟨zi9, zj9, fi9, fj9, lb9⟩ := HSw2.out.two (i := u) (j := u1) (by omega) (by omega) Hxu.out Hxv.out
        go_wp2_with fail
        go_region_law (fail)
        all_goals go_wp2_with fail
        all_goals go_meet
        all_goals (rw [← hd2']; exact HSW.out.drew)
      case rest =>
      generalize wc = w3 at *
      have HSw3 := Lib.hid hcut
      clear hcut HSw2 hd2' Hxu Hxv hd2 hd2N hd2M hd3 hd3N hub h50
      by_cases h2 : 2 ≤ u - a
      · have hd5 : decide ((2 : Int) ≤ (ua : Int)) = true := decide_eq_true (by omega)
        have hd5N : decide (2 ≤ ua) = true := decide_eq_true (by omega)
        have HP : Hid (partialIns ltN a b (rr + 1) i dk = partialIns ltN a b rr u (Go.Sort.fixUp ltN b u (shiftDown ltN u1 d2))) := Lib.hid (by rw [HSP.out]; unfold Go.Sort.fixDown; rw [if_pos h2, hu1])
        go_upto_block 4 with fail
        go_cut [9] from 64 to 94 (fun _ wx => SA w0 B G n c (Go.Sort.shiftDown ltN u1 d2) wx)
        case first =>
          go_wp2_with fail
          go_loopw [9] (fun v wq => ∃ (t : Nat) (dj : Array Nat), v = .int .i64 t ∧ (t < n) ∧ SA w0 B G n c dj wq ∧ Go.Sort.shiftDown ltN t dj = Go.Sort.shiftDown ltN u1 d2) (fun v _ => (intOf v).toNat)
          case atStart => exact ⟨u1, _, rfl, by omega, HSw3.out, rfl⟩
          case round =>
            obtain ⟨t, dj, rfl, ht, hS, hU⟩ := hrel
            rename World => wq
            have HSwq := Lib.hid hS
            have HU := Lib.hid hU
            have ht0 : (0 : Int) ≤ t := by omega
            have ht9 : (t : Int) ≤ 1000000 := by omega
            clear hS hU HSw3
            by_cases hlt : 1 ≤ t
            · have hd1 : decide ((1 : Int) ≤ (t : Int)) = true := decide_eq_true (by omega)
              have hd1N : decide (1 ≤ t) = true := decide_eq_true hlt
              have htn : t < n := by omega
              have htn9 : (t : Int) < n := by omega
              obtain ⟨s, hs⟩ : ∃ s, t = s + 1 := ⟨t - 1, by omega⟩
              have hsI : (t : Int) - 1 = (s : Int) := by omega
              have hsw := wrap9 n s (by omega) (by omega)
              have hs0 : (0 : Int) ≤ s := by omega
              have hsn : s < n := by omega
              have hsn9 : (s : Int) < n := by omega
              have hne : t ≠ s := by omega
              have HSS := Lib.hid hs
              obtain ⟨xt, hxt⟩ : ∃ x, dj[t]! = x := ⟨_, rfl⟩
              have Hxt := Lib.hid hxt
              obtain ⟨xs, hxs⟩ : ∃ x, dj[s]! = x := ⟨_, rfl⟩
              have Hxs := Lib.hid hxs
              cases hl : ltN xt xs with
              | true =>
                have HL : Hid (Go.Sort.shiftDown ltN t dj = Go.Sort.shiftDown ltN s (Go.Sort.swp dj t s)) := Lib.hid (shift_dn_go hs  (by rw [hxt, hxs]; exact hl))
                clear hxt hxs hs
                have KSwq := Lib.hid (HSwq.out.reads (i := t) (j := s) (by omega) (by omega) Hxt.out Hxs.out)
                have HFwq := Lib.hid (qless_cls xt xs true hl wq)
                go_wp2_with fail
                refine wp_region_class (Ext wq) (by kernel_rfl) (by kernel_rfl) (Ext.refl _).drew ?_
                try simp only [List.append_eq, List.cons_append, List.nil_append]
                repeat (first
                  | go_big_quiet_skip
                  | (go_big_quiet_want
                     first
                     | (go_big_quiet_op; go_big_quiet_on)
                     | (unfold Oper.quiet
                        apply Exists.intro
                        refine ⟨fun w' hC => ?_, ?_⟩
                        · (obtain ⟨k1, k2⟩ := KSwq.out w' hC
                           unfold Oper.quietAt
                           go_simp
                           first
                           | exact rfl
                           | (with_reducible exact HFwq.out w' hC))
                        go_simp
                        go_big_quiet_on)
                     | (go_big_quiet_op
                        apply Exists.intro
                        refine ⟨fun w' hC => ?_, ?_⟩
                        · exact HFwq.out w' hC
                        go_big_quiet_on)))
                refine wpQuiet_nil ?_
                intro w9 hCw9
                have HSw9 := Lib.hid (HSwq.out.ext hCw9)
                clear KSwq HFwq HSwq hCw9 hl
                have HSW := Lib.hid (HSw9.out.swp' (i := t) (j := s) (by omega) (by omega) Hxt.out Hxs.out)
                obtain ⟨zi9, zj9, fi9, fj9, lb9⟩ := HSw9.out.two (i := t) (j := s) (by omega) (by omega) Hxt.out Hxs.out
                go_wp2_with fail
                go_region_law (fail)
                all_goals go_wp2_with fail
                all_goals go_roundw
                all_goals first
                  | exact ⟨s, _, by first | rfl | go_num, by have := HSS.out; omega, HSW.out.drew, by rw [← HU.out, HL.out]⟩
                  | (simp [intOf]; have := HSS.out; omega)
                  | fail
              | false =>
                have HL : Hid (Go.Sort.shiftDown ltN t dj = dj) := Lib.hid (shift_dn_stop hs  (by rw [hxt, hxs]; exact hl))
                clear hxt hxs hs
                have KSwq := Lib.hid (HSwq.out.reads (i := t) (j := s) (by omega) (by omega) Hxt.out Hxs.out)
                have HFwq := Lib.hid (qless_cls xt xs false hl wq)
                go_wp2_with fail
                refine wp_region_class (Ext wq) (by kernel_rfl) (by kernel_rfl) (Ext.refl _).drew ?_
                try simp only [List.append_eq, List.cons_append, List.nil_append]
                repeat (first
                  | go_big_quiet_skip
                  | (go_big_quiet_want
                     first
                     | (go_big_quiet_op; go_big_quiet_on)
                     | (unfold Oper.quiet
                        apply Exists.intro
                        refine ⟨fun w' hC => ?_, ?_⟩
                        · (obtain ⟨k1, k2⟩ := KSwq.out w' hC
                           unfold Oper.quietAt
                           go_simp
                           first
                           | exact rfl
                           | (with_reducible exact HFwq.out w' hC))
                        go_simp
                        go_big_quiet_on)
                     | (go_big_quiet_op
                        apply Exists.intro
                        refine ⟨fun w' hC => ?_, ?_⟩
                        · exact HFwq.out w' hC
                        go_big_quiet_on)))
                refine wpQuiet_nil ?_
                intro w9 hCw9
                have HSw9 := Lib.hid (HSwq.out.ext hCw9)
                clear KSwq HFwq HSwq hCw9 hl
                go_wp2_with fail
                go_meet
                rw [← HU.out, HL.out]; exact HSw9.out
            · have hd1 : decide ((1 : Int) ≤ (t : Int)) = false := decide_eq_false (by omega)
              have hd1N : decide (1 ≤ t) = false := decide_eq_false hlt
              have HL : Hid (Go.Sort.shiftDown ltN t dj = dj) := Lib.hid (shift_dn_end hlt)
              go_wp2_with fail
              go_meet
              rw [← HU.out, HL.out]; exact HSwq.out
        case rest =>
        generalize wc = w4 at *
        have HSw4 := Lib.hid hcut
        clear hcut HSw3
        by_cases h3 : 2 ≤ b - u
        · have hd6 : decide ((2 : Int) ≤ (bu : Int)) = true := decide_eq_true (by omega)
          have hd6N : decide (2 ≤ bu) = true := decide_eq_true (by omega)
          have HU2 : Hid (Go.Sort.fixUp ltN b u (shiftDown ltN u1 d2) = Go.Sort.shiftUp ltN b u2 (shiftDown ltN u1 d2)) := Lib.hid (by unfold Go.Sort.fixUp; rw [if_pos h3, hu2])
          go_wp2_with fail
          go_loopw [10] (fun v wq => ∃ (t : Nat) (dj : Array Nat), v = .int .i64 t ∧ (u < t ∧ t ≤ b) ∧ SA w0 B G n c dj wq ∧ Go.Sort.shiftUp ltN b t dj = Go.Sort.shiftUp ltN b u2 (shiftDown ltN u1 d2)) (fun v _ => b - (intOf v).toNat)
          case atStart => exact ⟨u2, _, rfl, by omega, HSw4.out, rfl⟩
          case round =>
            obtain ⟨t, dj, rfl, ht, hS, hU⟩ := hrel
            rename World => wq
            have HSwq := Lib.hid hS
            have HU := Lib.hid hU
            have ht0 : (0 : Int) ≤ t := by omega
            have ht9 : (t : Int) ≤ 1000000 := by omega
            clear hS hU HSw4
            by_cases hlt : t < b
            · have hd1 : decide ((t : Int) < (b : Int)) = true := decide_eq_true (by omega)
              have hd1N : decide (t < b) = true := decide_eq_true hlt
              have htn : t < n := by omega
              have htn9 : (t : Int) < n := by omega
              obtain ⟨s, hs⟩ : ∃ s, t = s + 1 := ⟨t - 1, by omega⟩
              have hsI : (t : Int) - 1 = (s : Int) := by omega
              have hsw := wrap9 n s (by omega) (by omega)
              have hs0 : (0 : Int) ≤ s := by omega
              have hsn : s < n := by omega
              have hsn9 : (s : Int) < n := by omega
              have hne : t ≠ s := by omega
              have HSS := Lib.hid hs
              obtain ⟨xt, hxt⟩ : ∃ x, dj[t]! = x := ⟨_, rfl⟩
              have Hxt := Lib.hid hxt
              obtain ⟨xs, hxs⟩ : ∃ x, dj[s]! = x := ⟨_, rfl⟩
              have Hxs := Lib.hid hxs
              cases hl : ltN xt xs with
              | true =>
                have HL : Hid (Go.Sort.shiftUp ltN b t dj = Go.Sort.shiftUp ltN b (t + 1) (Go.Sort.swp dj t s)) := Lib.hid (shift_up_go hs hlt (by rw [hxt, hxs]; exact hl))
                clear hxt hxs hs
                have KSwq := Lib.hid (HSwq.out.reads (i := t) (j := s) (by omega) (by omega) Hxt.out Hxs.out)
                have HFwq := Lib.hid (qless_cls xt xs true hl wq)
                go_wp2_with fail
                refine wp_region_class (Ext wq) (by kernel_rfl) (by kernel_rfl) (Ext.refl _).drew ?_
                try simp only [List.append_eq, List.cons_append, List.nil_append]
                repeat (first
                  | go_big_quiet_skip
                  | (go_big_quiet_want
                     first
                     | (go_big_quiet_op; go_big_quiet_on)
                     | (unfold Oper.quiet
                        apply Exists.intro
                        refine ⟨fun w' hC => ?_, ?_⟩
                        · (obtain ⟨k1, k2⟩ := KSwq.out w' hC
                           unfold Oper.quietAt
                           go_simp
                           first
                           | exact rfl
                           | (with_reducible exact HFwq.out w' hC))
                        go_simp
                        go_big_quiet_on)
                     | (go_big_quiet_op
                        apply Exists.intro
                        refine ⟨fun w' hC => ?_, ?_⟩
                        · exact HFwq.out w' hC
                        go_big_quiet_on)))
                refine wpQuiet_nil ?_
                intro w9 hCw9
                have HSw9 := Lib.hid (HSwq.out.ext hCw9)
                clear KSwq HFwq HSwq hCw9 hl
                have HSW := Lib.hid (HSw9.out.swp' (i := t) (j := s) (by omega) (by omega) Hxt.out Hxs.out)
                obtain ⟨zi9, zj9, fi9, fj9, lb9⟩ := HSw9.out.two (i := t) (j := s) (by omega) (by omega) Hxt.out Hxs.out
                go_wp2_with fail
                go_region_law (fail)
                all_goals go_wp2_with fail
                all_goals go_roundw
                all_goals first
                  | exact ⟨t + 1, _, by first | rfl | go_num, by have := HSS.out; omega, HSW.out.drew, by rw [← HU.out, HL.out]⟩
                  | (simp [intOf]; have := HSS.out; omega)
                  | fail
              | false =>
                have HL : Hid (Go.Sort.shiftUp ltN b t dj = dj) := Lib.hid (shift_up_stop hs hlt (by rw [hxt, hxs]; exact hl))
                clear hxt hxs hs
                have KSwq := Lib.hid (HSwq.out.reads (i := t) (j := s) (by omega) (by omega) Hxt.out Hxs.out)
                have HFwq := Lib.hid (qless_cls xt xs false hl wq)
                go_wp2_with fail
                refine wp_region_class (Ext wq) (by kernel_rfl) (by kernel_rfl) (Ext.refl _).drew ?_
                try simp only [List.append_eq, List.cons_append, List.nil_append]
                repeat (first
                  | go_big_quiet_skip
                  | (go_big_quiet_want
                     first
                     | (go_big_quiet_op; go_big_quiet_on)
                     | (unfold Oper.quiet
                        apply Exists.intro
                        refine ⟨fun w' hC => ?_, ?_⟩
                        · (obtain ⟨k1, k2⟩ := KSwq.out w' hC
                           unfold Oper.quietAt
                           go_simp
                           first
                           | exact rfl
                           | (with_reducible exact HFwq.out w' hC))
                        go_simp
                        go_big_quiet_on)
                     | (go_big_quiet_op
                        apply Exists.intro
                        refine ⟨fun w' hC => ?_, ?_⟩
                        · exact HFwq.out w' hC
                        go_big_quiet_on)))
                refine wpQuiet_nil ?_
                intro w9 hCw9
                have HSw9 := Lib.hid (HSwq.out.ext hCw9)
                clear KSwq HFwq HSwq hCw9 hl
                go_wp2_with fail
                go_roundw
                case rel => exact ⟨k + 1, rr, u, dj, by go_num, rfl, by omega, by omega, HSw9.out, by rw [← HO.out, HP.out, HU2.out, ← HU.out, HL.out]⟩
                case measure => first | (simp [intOf]; done) | (simp [intOf]; omega)
            · have hd1 : decide ((t : Int) < (b : Int)) = false := decide_eq_false (by omega)
              have hd1N : decide (t < b) = false := decide_eq_false hlt
              have HL : Hid (Go.Sort.shiftUp ltN b t dj = dj) := Lib.hid (shift_up_end hlt)
              go_wp2_with fail
              go_roundw
              case rel => exact ⟨k + 1, rr, u, dj, by go_num, rfl, by omega, by omega, HSwq.out, by rw [← HO.out, HP.out, HU2.out, ← HU.out, HL.out]⟩
              case measure => first | (simp [intOf]; done) | (simp [intOf]; omega)
        · have hd6 : decide ((2 : Int) ≤ (bu : Int)) = false := decide_eq_false (by omega)
          have hd6N : decide (2 ≤ bu) = false := decide_eq_false (by omega)
          have HU2 : Hid (Go.Sort.fixUp ltN b u (shiftDown ltN u1 d2) = shiftDown ltN u1 d2) := Lib.hid (by unfold Go.Sort.fixUp; rw [if_neg h3])
          go_wp2_with fail
          go_roundw
          case rel => exact ⟨k + 1, rr, u, _, by go_num, rfl, by omega, by omega, HSw4.out, by rw [← HO.out, HP.out, HU2.out]⟩
          case measure => first | (simp [intOf]; done) | (simp [intOf]; omega)
      · have hd5 : decide ((2 : Int) ≤ (ua : Int)) = false := decide_eq_false (by omega)
        have hd5N : decide (2 ≤ ua) = false := decide_eq_false (by omega)
        have HP : Hid (partialIns ltN a b (rr + 1) i dk = partialIns ltN a b rr u (Go.Sort.fixUp ltN b u d2)) := Lib.hid (by rw [HSP.out]; unfold Go.Sort.fixDown; rw [if_neg h2])
        by_cases h3 : 2 ≤ b - u
        · have hd6 : decide ((2 : Int) ≤ (bu : Int)) = true := decide_eq_true (by omega)
          have hd6N : decide (2 ≤ bu) = true := decide_eq_true (by omega)
          have HU2 : Hid (Go.Sort.fixUp ltN b u (d2) = Go.Sort.shiftUp ltN b u2 (d2)) := Lib.hid (by unfold Go.Sort.fixUp; rw [if_pos h3, hu2])
          go_wp2_with fail
          go_loopw [10] (fun v wq => ∃ (t : Nat) (dj : Array Nat), v = .int .i64 t ∧ (u < t ∧ t ≤ b) ∧ SA w0 B G n c dj wq ∧ Go.Sort.shiftUp ltN b t dj = Go.Sort.shiftUp ltN b u2 (d2)) (fun v _ => b - (intOf v).toNat)
          case atStart => exact ⟨u2, _, rfl, by omega, HSw3.out, rfl⟩
          case round =>
            obtain ⟨t, dj, rfl, ht, hS, hU⟩ := hrel
            rename World => wq
            have HSwq := Lib.hid hS
            have HU := Lib.hid hU
            have ht0 : (0 : Int) ≤ t := by omega
            have ht9 : (t : Int) ≤ 1000000 := by omega
            clear hS hU HSw3
            by_cases hlt : t < b
            · have hd1 : decide ((t : Int) < (b : Int)) = true := decide_eq_true (by omega)
              have hd1N : decide (t < b) = true := decide_eq_true hlt
              have htn : t < n := by omega
              have htn9 : (t : Int) < n := by omega
              obtain ⟨s, hs⟩ : ∃ s, t = s + 1 := ⟨t - 1, by omega⟩
              have hsI : (t : Int) - 1 = (s : Int) := by omega
              have hsw := wrap9 n s (by omega) (by omega)
              have hs0 : (0 : Int) ≤ s := by omega
              have hsn : s < n := by omega
              have hsn9 : (s : Int) < n := by omega
              have hne : t ≠ s := by omega
              have HSS := Lib.hid hs
              obtain ⟨xt, hxt⟩ : ∃ x, dj[t]! = x := ⟨_, rfl⟩
              have Hxt := Lib.hid hxt
              obtain ⟨xs, hxs⟩ : ∃ x, dj[s]! = x := ⟨_, rfl⟩
              have Hxs := Lib.hid hxs
              cases hl : ltN xt xs with
              | true =>
                have HL : Hid (Go.Sort.shiftUp ltN b t dj = Go.Sort.shiftUp ltN b (t + 1) (Go.Sort.swp dj t s)) := Lib.hid (shift_up_go hs hlt (by rw [hxt, hxs]; exact hl))
                clear hxt hxs hs
                have KSwq := Lib.hid (HSwq.out.reads (i := t) (j := s) (by omega) (by omega) Hxt.out Hxs.out)
                have HFwq := Lib.hid (qless_cls xt xs true hl wq)
                go_wp2_with fail
                refine wp_region_class (Ext wq) (by kernel_rfl) (by kernel_rfl) (Ext.refl _).drew ?_
                try simp only [List.append_eq, List.cons_append, List.nil_append]
                repeat (first
                  | go_big_quiet_skip
                  | (go_big_quiet_want
                     first
                     | (go_big_quiet_op; go_big_quiet_on)
                     | (unfold Oper.quiet
                        apply Exists.intro
                        refine ⟨fun w' hC => ?_, ?_⟩
                        · (obtain ⟨k1, k2⟩ := KSwq.out w' hC
                           unfold Oper.quietAt
                           go_simp
                           first
                           | exact rfl
                           | (with_reducible exact HFwq.out w' hC))
                        go_simp
                        go_big_quiet_on)
                     | (go_big_quiet_op
                        apply Exists.intro
                        refine ⟨fun w' hC => ?_, ?_⟩
                        · exact HFwq.out w' hC
                        go_big_quiet_on)))
                refine wpQuiet_nil ?_
                intro w9 hCw9
                have HSw9 := Lib.hid (HSwq.out.ext hCw9)
                clear KSwq HFwq HSwq hCw9 hl
                have HSW := Lib.hid (HSw9.out.swp' (i := t) (j := s) (by omega) (by omega) Hxt.out Hxs.out)
                obtain ⟨zi9, zj9, fi9, fj9, lb9⟩ := HSw9.out.two (i := t) (j := s) (by omega) (by omega) Hxt.out Hxs.out
                go_wp2_with fail
                go_region_law (fail)
                all_goals go_wp2_with fail
                all_goals go_roundw
                all_goals first
                  | exact ⟨t + 1, _, by first | rfl | go_num, by have := HSS.out; omega, HSW.out.drew, by rw [← HU.out, HL.out]⟩
                  | (simp [intOf]; have := HSS.out; omega)
                  | fail
              | false =>
                have HL : Hid (Go.Sort.shiftUp ltN b t dj = dj) := Lib.hid (shift_up_stop hs hlt (by rw [hxt, hxs]; exact hl))
                clear hxt hxs hs
                have KSwq := Lib.hid (HSwq.out.reads (i := t) (j := s) (by omega) (by omega) Hxt.out Hxs.out)
                have HFwq := Lib.hid (qless_cls xt xs false hl wq)
                go_wp2_with fail
                refine wp_region_class (Ext wq) (by kernel_rfl) (by kernel_rfl) (Ext.refl _).drew ?_
                try simp only [List.append_eq, List.cons_append, List.nil_append]
                repeat (first
                  | go_big_quiet_skip
                  | (go_big_quiet_want
                     first
                     | (go_big_quiet_op; go_big_quiet_on)
                     | (unfold Oper.quiet
                        apply Exists.intro
                        refine ⟨fun w' hC => ?_, ?_⟩
                        · (obtain ⟨k1, k2⟩ := KSwq.out w' hC
                           unfold Oper.quietAt
                           go_simp
                           first
                           | exact rfl
                           | (with_reducible exact HFwq.out w' hC))
                        go_simp
                        go_big_quiet_on)
                     | (go_big_quiet_op
                        apply Exists.intro
                        refine ⟨fun w' hC => ?_, ?_⟩
                        · exact HFwq.out w' hC
                        go_big_quiet_on)))
                refine wpQuiet_nil ?_
                intro w9 hCw9
                have HSw9 := Lib.hid (HSwq.out.ext hCw9)
                clear KSwq HFwq HSwq hCw9 hl
                go_wp2_with fail
                go_roundw
                case rel => exact ⟨k + 1, rr, u, dj, by go_num, rfl, by omega, by omega, HSw9.out, by rw [← HO.out, HP.out, HU2.out, ← HU.out, HL.out]⟩
                case measure => first | (simp [intOf]; done) | (simp [intOf]; omega)
            · have hd1 : decide ((t : Int) < (b : Int)) = false := decide_eq_false (by omega)
              have hd1N : decide (t < b) = false := decide_eq_false hlt
              have HL : Hid (Go.Sort.shiftUp ltN b t dj = dj) := Lib.hid (shift_up_end hlt)
              go_wp2_with fail
              go_roundw
              case rel => exact ⟨k + 1, rr, u, dj, by go_num, rfl, by omega, by omega, HSwq.out, by rw [← HO.out, HP.out, HU2.out, ← HU.out, HL.out]⟩
              case measure => first | (simp [intOf]; done) | (simp [intOf]; omega)
        · have hd6 : decide ((2 : Int) ≤ (bu : Int)) = false := decide_eq_false (by omega)
          have hd6N : decide (2 ≤ bu) = false := decide_eq_false (by omega)
          have HU2 : Hid (Go.Sort.fixUp ltN b u (d2) = d2) := Lib.hid (by unfold Go.Sort.fixUp; rw [if_neg h3])
          go_wp2_with fail
          go_roundw
          case rel => exact ⟨k + 1, rr, u, _, by go_num, rfl, by omega, by omega, HSw3.out, by rw [← HO.out, HP.out, HU2.out]⟩
          case measure => first | (simp [intOf]; done) | (simp [intOf]; omega)
end Go.Proofs.Ytofiokegdgdacaa
