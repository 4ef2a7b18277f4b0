/- The document's own answers: is a handle good? -/
import Derived.Test.YtpmibjjplclkeaaRRight
namespace Go.Proofs.Ytpmibjjplclkeaa
open Go.BigFrame
open Go.RowKit Go.Proofs.Ytpmibjjplclkeaa.Plain

set_option maxHeartbeats 1600000 in
theorem rgood_no (A B : Option Addr) (c d : Nat) (gs xs : List Int) (hc hg : Int) (w : World) (h : Ints w (.slice A gs.length c) gs) (h' : Ints w (.slice B xs.length d) xs)
    (bc : -9223372036854775808 ≤ hc ∧ hc ≤ 9223372036854775807) (bg : -9223372036854775808 ≤ hg ∧ hg ≤ 9223372036854775807) (hr : rightB gs xs = false) :
    Calls Try.prog 19 #[.agg #[.slice A gs.length c, .slice B xs.length d], .agg #[.int .i64 hc, .int .i64 hg]] w fun e w' => e = .returned (.bool (rightB gs xs && goodB gs xs hc hg)) ∧ Ext w w' := by
  have HG := Lib.hid h
  have HX := Lib.hid h'
  have hm1 := h.1
  have hm2 := h'.1
  unfold maxLen at hm1 hm2
  have HR := Lib.hid hr
  clear h h' hr
  go_enter Try.func19, Try.ntmps19
  go_wp2_with fail
  have hall : ∀ w', Ext ((w.alloc (.cells #[.slice A gs.length c, .slice B xs.length d] 24)).alloc (.cells #[.int .i64 hc, .int .i64 hg] 26)) w' → (w'.cell? ⟨w.heap.size, 0, none⟩ = some (.slice A gs.length c) ∧ w'.cell? ⟨w.heap.size, 1, none⟩ = some (.slice B xs.length d) ∧ w'.cell? ⟨w.heap.size + 1, 0, none⟩ = some (.int .i64 hc) ∧ w'.cell? ⟨w.heap.size + 1, 1, none⟩ = some (.int .i64 hg)) :=
    fun w' hE => ⟨hE.cell (by go_simp), hE.cell (by go_simp), hE.cell (by go_simp), hE.cell (by go_simp)⟩
  have HALL := Lib.hid hall
  clear hall
  refine wp_region_class (fun w' => Ext ((w.alloc (.cells #[.slice A gs.length c, .slice B xs.length d] 24)).alloc (.cells #[.int .i64 hc, .int .i64 hg] 26)) w') (by kernel_rfl) (by kernel_rfl) (Ext.refl _).drew ?_
  repeat (first
    | go_big_quiet_skip
    | (go_big_quiet_want
       first
       | (go_big_quiet_op; go_big_quiet_on)
       | (unfold Oper.quiet
          apply Exists.intro
          refine ⟨fun w' hC => ?_, ?_⟩
          · (obtain ⟨k1, k2, k3, k4⟩ := HALL.out w' hC
             unfold Oper.quietAt
             go_simp
             exact rfl)
          go_simp
          go_big_quiet_on)
       | (go_big_quiet_op
          apply Exists.intro
          refine ⟨fun w' hC => ?_, ?_⟩
          · exact (rright_any _ _ _ _ _ _ _ (HG.out.ext ((((Ext.refl w).alloc _).alloc _).trans hC)) (HX.out.ext ((((Ext.refl w).alloc _).alloc _).trans hC))).mono fun e w'' h => ⟨h.1.trans (ret_bool HR.out), hC.trans h.2⟩
          go_big_quiet_on)))
  refine wpQuiet_nil ?_
  intro w3 hC3
  go_wp2
  go_ret
  exact ⟨ret_bool (by rw [HR.out]; rfl), (((Ext.refl w).alloc _).alloc _).trans hC3⟩

set_option maxHeartbeats 1600000 in
theorem rgood_neg (A B : Option Addr) (c d : Nat) (gs xs : List Int) (hc hg : Int) (w : World) (h : Ints w (.slice A gs.length c) gs) (h' : Ints w (.slice B xs.length d) xs)
    (bc : -9223372036854775808 ≤ hc ∧ hc ≤ 9223372036854775807) (bg : -9223372036854775808 ≤ hg ∧ hg ≤ 9223372036854775807) (hr : rightB gs xs = true) (h1 : hc < 0) :
    Calls Try.prog 19 #[.agg #[.slice A gs.length c, .slice B xs.length d], .agg #[.int .i64 hc, .int .i64 hg]] w fun e w' => e = .returned (.bool (rightB gs xs && goodB gs xs hc hg)) ∧ Ext w w' := by
  have HG := Lib.hid h
  have HX := Lib.hid h'
  have hm1 := h.1
  have hm2 := h'.1
  unfold maxLen at hm1 hm2
  have HR := Lib.hid hr
  clear h h' hr
  have HD : Hid (goodB gs xs hc hg = false) := Lib.hid (by unfold goodB; rw [decide_eq_false (show ¬ 0 ≤ hc by omega)]; rfl)
  go_enter Try.func19, Try.ntmps19
  go_wp2_with fail
  have hall : ∀ w', Ext ((w.alloc (.cells #[.slice A gs.length c, .slice B xs.length d] 24)).alloc (.cells #[.int .i64 hc, .int .i64 hg] 26)) w' → (w'.cell? ⟨w.heap.size, 0, none⟩ = some (.slice A gs.length c) ∧ w'.cell? ⟨w.heap.size, 1, none⟩ = some (.slice B xs.length d) ∧ w'.cell? ⟨w.heap.size + 1, 0, none⟩ = some (.int .i64 hc) ∧ w'.cell? ⟨w.heap.size + 1, 1, none⟩ = some (.int .i64 hg)) :=
    fun w' hE => ⟨hE.cell (by go_simp), hE.cell (by go_simp), hE.cell (by go_simp), hE.cell (by go_simp)⟩
  have HALL := Lib.hid hall
  clear hall
  refine wp_region_class (fun w' => Ext ((w.alloc (.cells #[.slice A gs.length c, .slice B xs.length d] 24)).alloc (.cells #[.int .i64 hc, .int .i64 hg] 26)) w') (by kernel_rfl) (by kernel_rfl) (Ext.refl _).drew ?_
  repeat (first
    | go_big_quiet_skip
    | (go_big_quiet_want
       first
       | (go_big_quiet_op; go_big_quiet_on)
       | (unfold Oper.quiet
          apply Exists.intro
          refine ⟨fun w' hC => ?_, ?_⟩
          · (obtain ⟨k1, k2, k3, k4⟩ := HALL.out w' hC
             unfold Oper.quietAt
             go_simp
             exact rfl)
          go_simp
          go_big_quiet_on)
       | (go_big_quiet_op
          apply Exists.intro
          refine ⟨fun w' hC => ?_, ?_⟩
          · exact (rright_any _ _ _ _ _ _ _ (HG.out.ext ((((Ext.refl w).alloc _).alloc _).trans hC)) (HX.out.ext ((((Ext.refl w).alloc _).alloc _).trans hC))).mono fun e w'' h => ⟨h.1.trans (ret_bool HR.out), hC.trans h.2⟩
          go_big_quiet_on)))
  refine wpQuiet_nil ?_
  intro w3 hC3
  go_wp2
  go_ret
  exact ⟨ret_bool (by rw [HR.out, HD.out]; rfl), (((Ext.refl w).alloc _).alloc _).trans hC3⟩

set_option maxHeartbeats 1600000 in
theorem rgood_far (A B : Option Addr) (c d : Nat) (gs xs : List Int) (hc hg : Int) (w : World) (h : Ints w (.slice A gs.length c) gs) (h' : Ints w (.slice B xs.length d) xs)
    (bc : -9223372036854775808 ≤ hc ∧ hc ≤ 9223372036854775807) (bg : -9223372036854775808 ≤ hg ∧ hg ≤ 9223372036854775807) (hr : rightB gs xs = true) (h1 : (gs.length : Int) ≤ hc) :
    Calls Try.prog 19 #[.agg #[.slice A gs.length c, .slice B xs.length d], .agg #[.int .i64 hc, .int .i64 hg]] w fun e w' => e = .returned (.bool (rightB gs xs && goodB gs xs hc hg)) ∧ Ext w w' := by
  have HG := Lib.hid h
  have HX := Lib.hid h'
  have hm1 := h.1
  have hm2 := h'.1
  unfold maxLen at hm1 hm2
  have HR := Lib.hid hr
  clear h h' hr
  have HD : Hid (goodB gs xs hc hg = false) := Lib.hid (by unfold goodB; rw [decide_eq_false (show ¬ hc < (gs.length : Int) by omega)]; simp)
  have h0 : decide (hc < 0) = false := decide_eq_false (by omega)
  have h4 : decide ((gs.length : Int) ≤ hc) = true := decide_eq_true h1
  go_enter Try.func19, Try.ntmps19
  go_wp2_with fail
  have hall : ∀ w', Ext ((w.alloc (.cells #[.slice A gs.length c, .slice B xs.length d] 24)).alloc (.cells #[.int .i64 hc, .int .i64 hg] 26)) w' → (w'.cell? ⟨w.heap.size, 0, none⟩ = some (.slice A gs.length c) ∧ w'.cell? ⟨w.heap.size, 1, none⟩ = some (.slice B xs.length d) ∧ w'.cell? ⟨w.heap.size + 1, 0, none⟩ = some (.int .i64 hc) ∧ w'.cell? ⟨w.heap.size + 1, 1, none⟩ = some (.int .i64 hg)) :=
    fun w' hE => ⟨hE.cell (by go_simp), hE.cell (by go_simp), hE.cell (by go_simp), hE.cell (by go_simp)⟩
  have HALL := Lib.hid hall
  clear hall
  refine wp_region_class (fun w' => Ext ((w.alloc (.cells #[.slice A gs.length c, .slice B xs.length d] 24)).alloc (.cells #[.int .i64 hc, .int .i64 hg] 26)) w') (by kernel_rfl) (by kernel_rfl) (Ext.refl _).drew ?_
  repeat (first
    | go_big_quiet_skip
    | (go_big_quiet_want
       first
       | (go_big_quiet_op; go_big_quiet_on)
       | (unfold Oper.quiet
          apply Exists.intro
          refine ⟨fun w' hC => ?_, ?_⟩
          · (obtain ⟨k1, k2, k3, k4⟩ := HALL.out w' hC
             unfold Oper.quietAt
             go_simp
             exact rfl)
          go_simp
          go_big_quiet_on)
       | (go_big_quiet_op
          apply Exists.intro
          refine ⟨fun w' hC => ?_, ?_⟩
          · exact (rright_any _ _ _ _ _ _ _ (HG.out.ext ((((Ext.refl w).alloc _).alloc _).trans hC)) (HX.out.ext ((((Ext.refl w).alloc _).alloc _).trans hC))).mono fun e w'' h => ⟨h.1.trans (ret_bool HR.out), hC.trans h.2⟩
          go_big_quiet_on)))
  refine wpQuiet_nil ?_
  intro w3 hC3
  go_wp2
  go_ret
  exact ⟨ret_bool (by rw [HR.out, HD.out]; rfl), (((Ext.refl w).alloc _).alloc _).trans hC3⟩

set_option maxHeartbeats 1600000 in
theorem rgood_other (A B : Option Addr) (c d : Nat) (gs xs : List Int) (k : Nat) (hg : Int) (w : World) (h : Ints w (.slice A gs.length c) gs) (h' : Ints w (.slice B xs.length d) xs)
    (bg : -9223372036854775808 ≤ hg ∧ hg ≤ 9223372036854775807) (hr : rightB gs xs = true) (h1 : k < gs.length) (hne : gs.getD k 0 ≠ hg) :
    Calls Try.prog 19 #[.agg #[.slice A gs.length c, .slice B xs.length d], .agg #[.int .i64 k, .int .i64 hg]] w fun e w' => e = .returned (.bool (rightB gs xs && goodB gs xs k hg)) ∧ Ext w w' := by
  have HG := Lib.hid h
  have HX := Lib.hid h'
  have hm1 := h.1
  have hm2 := h'.1
  unfold maxLen at hm1 hm2
  have HR := Lib.hid hr
  clear h h' hr
  have HD : Hid (goodB gs xs k hg = false) := Lib.hid (by unfold goodB; rw [Int.toNat_natCast, decide_eq_false hne]; simp)
  have e1 : (gs.getD k 0 != hg) = true := by simpa using hne
  have h2 : decide ((k : Int) < 0) = false := decide_eq_false (by omega)
  have h3 : decide ((gs.length : Int) ≤ (k : Int)) = false := decide_eq_false (by omega)
  have h4 : decide (gs.length ≤ k) = false := decide_eq_false (by omega)
  obtain ⟨b, off, rfl, hcc⟩ := HG.out.cells (by omega)
  have hcell := hcc k h1
  have hblt : b < w.heap.size := World.block_lt_of_cell? _ _ hcell
  have hblt1 : b < w.heap.size + 1 := by omega
  clear hcc
  obtain ⟨y, hy⟩ : ∃ y, gs.getD k 0 = y := ⟨_, rfl⟩
  rw [hy] at hcell e1
  clear hy hne
  go_enter Try.func19, Try.ntmps19
  go_wp2_with fail
  have hall : ∀ w', Ext ((w.alloc (.cells #[.slice (some ⟨b, off, none⟩) gs.length c, .slice B xs.length d] 24)).alloc (.cells #[.int .i64 k, .int .i64 hg] 26)) w' → (w'.cell? ⟨w.heap.size, 0, none⟩ = some (.slice (some ⟨b, off, none⟩) gs.length c) ∧ w'.cell? ⟨w.heap.size, 1, none⟩ = some (.slice B xs.length d) ∧ w'.cell? ⟨w.heap.size + 1, 0, none⟩ = some (.int .i64 (k : Int)) ∧ w'.cell? ⟨w.heap.size + 1, 1, none⟩ = some (.int .i64 hg) ∧ w'.cell? ⟨b, off + k, none⟩ = some (.int .i64 (y))) :=
    fun w' hE => ⟨hE.cell (by go_simp), hE.cell (by go_simp), hE.cell (by go_simp), hE.cell (by go_simp), hE.cell (by go_simp)⟩
  have HALL := Lib.hid hall
  clear hall
  refine wp_region_class (fun w' => Ext ((w.alloc (.cells #[.slice (some ⟨b, off, none⟩) gs.length c, .slice B xs.length d] 24)).alloc (.cells #[.int .i64 k, .int .i64 hg] 26)) w') (by kernel_rfl) (by kernel_rfl) (Ext.refl _).drew ?_
  repeat (first
    | go_big_quiet_skip
    | (go_big_quiet_want
       first
       | (go_big_quiet_op; go_big_quiet_on)
       | (unfold Oper.quiet
          apply Exists.intro
          refine ⟨fun w' hC => ?_, ?_⟩
          · (obtain ⟨k1, k2, k3, k4, k5⟩ := HALL.out w' hC
             unfold Oper.quietAt
             go_simp
             exact rfl)
          go_simp
          go_big_quiet_on)
       | (go_big_quiet_op
          apply Exists.intro
          refine ⟨fun w' hC => ?_, ?_⟩
          · exact (rright_any _ _ _ _ _ _ _ (HG.out.ext ((((Ext.refl w).alloc _).alloc _).trans hC)) (HX.out.ext ((((Ext.refl w).alloc _).alloc _).trans hC))).mono fun e w'' h => ⟨h.1.trans (ret_bool HR.out), hC.trans h.2⟩
          go_big_quiet_on)))
  refine wpQuiet_nil ?_
  intro w3 hC3
  go_wp2
  go_ret
  exact ⟨ret_bool (by rw [HR.out, HD.out]; rfl), (((Ext.refl w).alloc _).alloc _).trans hC3⟩

set_option maxHeartbeats 1600000 in
theorem rgood_same (A B : Option Addr) (c d : Nat) (gs xs : List Int) (k : Nat) (hg : Int) (w : World) (h : Ints w (.slice A gs.length c) gs) (h' : Ints w (.slice B xs.length d) xs)
    (bg : -9223372036854775808 ≤ hg ∧ hg ≤ 9223372036854775807) (hr : rightB gs xs = true) (h1 : k < gs.length) (heq : gs.getD k 0 = hg) (hl : gs.length ≤ 1048576) :
    Calls Try.prog 19 #[.agg #[.slice A gs.length c, .slice B xs.length d], .agg #[.int .i64 k, .int .i64 hg]] w fun e w' => e = .returned (.bool (rightB gs xs && goodB gs xs k hg)) ∧ Ext w w' := by
  have HG := Lib.hid h
  have HX := Lib.hid h'
  have hm1 := h.1
  have hm2 := h'.1
  unfold maxLen at hm1 hm2
  have HR := Lib.hid hr
  clear h h' hr
  have HD : Hid (goodB gs xs k hg = !(decide ((k : Int) ∈ xs))) := Lib.hid (by unfold goodB; rw [Int.toNat_natCast, decide_eq_true heq, decide_eq_true (show 0 ≤ (k : Int) by omega), decide_eq_true (show (k : Int) < (gs.length : Int) by omega)]; simp)
  have e1 : (gs.getD k 0 != hg) = false := by simpa using heq
  have h2 : decide ((k : Int) < 0) = false := decide_eq_false (by omega)
  have h3 : decide ((gs.length : Int) ≤ (k : Int)) = false := decide_eq_false (by omega)
  have h4 : decide (gs.length ≤ k) = false := decide_eq_false (by omega)
  obtain ⟨b, off, rfl, hcc⟩ := HG.out.cells (by omega)
  have hcell := hcc k h1
  have hblt : b < w.heap.size := World.block_lt_of_cell? _ _ hcell
  have hblt1 : b < w.heap.size + 1 := by omega
  clear hcc
  obtain ⟨y, hy⟩ : ∃ y, gs.getD k 0 = y := ⟨_, rfl⟩
  rw [hy] at hcell e1
  clear hy heq
  go_enter Try.func19, Try.ntmps19
  go_wp2_with fail
  have hall : ∀ w', Ext ((w.alloc (.cells #[.slice (some ⟨b, off, none⟩) gs.length c, .slice B xs.length d] 24)).alloc (.cells #[.int .i64 k, .int .i64 hg] 26)) w' → (w'.cell? ⟨w.heap.size, 0, none⟩ = some (.slice (some ⟨b, off, none⟩) gs.length c) ∧ w'.cell? ⟨w.heap.size, 1, none⟩ = some (.slice B xs.length d) ∧ w'.cell? ⟨w.heap.size + 1, 0, none⟩ = some (.int .i64 (k : Int)) ∧ w'.cell? ⟨w.heap.size + 1, 1, none⟩ = some (.int .i64 hg) ∧ w'.cell? ⟨b, off + k, none⟩ = some (.int .i64 (y))) :=
    fun w' hE => ⟨hE.cell (by go_simp), hE.cell (by go_simp), hE.cell (by go_simp), hE.cell (by go_simp), hE.cell (by go_simp)⟩
  have HALL := Lib.hid hall
  clear hall
  refine wp_region_class (fun w' => Ext ((w.alloc (.cells #[.slice (some ⟨b, off, none⟩) gs.length c, .slice B xs.length d] 24)).alloc (.cells #[.int .i64 k, .int .i64 hg] 26)) w') (by kernel_rfl) (by kernel_rfl) (Ext.refl _).drew ?_
  repeat (first
    | go_big_quiet_skip
    | (go_big_quiet_want
       first
       | (go_big_quiet_op; go_big_quiet_on)
       | (unfold Oper.quiet
          apply Exists.intro
          refine ⟨fun w' hC => ?_, ?_⟩
          · (obtain ⟨k1, k2, k3, k4, k5⟩ := HALL.out w' hC
             unfold Oper.quietAt
             go_simp
             exact rfl)
          go_simp
          go_big_quiet_on)
       | (go_big_quiet_op
          apply Exists.intro
          refine ⟨fun w' hC => ?_, ?_⟩
          · exact (rright_any _ _ _ _ _ _ _ (HG.out.ext ((((Ext.refl w).alloc _).alloc _).trans hC)) (HX.out.ext ((((Ext.refl w).alloc _).alloc _).trans hC))).mono fun e w'' h => ⟨h.1.trans (ret_bool HR.out), hC.trans h.2⟩
          go_big_quiet_on)))
  refine wpQuiet_nil ?_
  intro w3 hC3
  have HC3 := Lib.hid hC3
  clear hC3
  go_wp2
  go_loopw [5] (fun i wr => ∃ m : Nat, m ≤ xs.length ∧ i = .int .i64 m ∧ (∀ j, j < m → xs.getD j 0 ≠ (k : Int)) ∧ Ext w3 wr) (fun i _ => xs.length - (intOf i).toNat)
  case atStart => exact ⟨0, Nat.zero_le _, rfl, by omega, Ext.refl _⟩
  case round =>
    obtain ⟨m, hm, rfl, hno, hE⟩ := hrel
    obtain ⟨k1, k2, k3, k4, k5⟩ := HALL.out _ (HC3.out.trans hE)
    have HNO := Lib.hid hno
    have HE := Lib.hid hE
    clear hno hE
    by_cases hlt : m < xs.length
    · obtain ⟨b', off', rfl, hcc⟩ := HX.out.cells (by omega)
      have hcell' := HE.out.cell (HC3.out.cell ((((Ext.refl w).alloc (.cells #[.slice (some ⟨b, off, none⟩) gs.length c, .slice (some ⟨b', off', none⟩) xs.length d] 24)).alloc (.cells #[.int .i64 k, .int .i64 hg] 26)).cell (hcc m hlt)))
      clear hcc
      have hmm := getD_mem xs m hlt
      by_cases hq : xs.getD m 0 = (k : Int)
      · have HR2 : Hid (goodB gs xs k hg = false) := Lib.hid (by rw [HD.out, decide_eq_true (by rw [← hq]; exact hmm)]; rfl)
        have e2 : (xs.getD m 0 == (k : Int)) = true := by simpa using hq
        obtain ⟨x, hx⟩ : ∃ x, xs.getD m 0 = x := ⟨_, rfl⟩
        rw [hx] at hcell' e2
        clear hx hmm hq
        go_wp2
        go_quiet (fail)
        go_wp2
        go_ret
        exact ⟨ret_bool (by rw [HR.out, HR2.out]; rfl), ((((Ext.refl w).alloc _).alloc _).trans (HC3.out.trans HE.out)).drewN _⟩
      · have HQ := Lib.hid hq
        have e2 : (xs.getD m 0 == (k : Int)) = false := by simpa using hq
        obtain ⟨x, hx⟩ : ∃ x, xs.getD m 0 = x := ⟨_, rfl⟩
        rw [hx] at hcell' e2
        clear hx hmm hq
        go_wp2
        go_quiet (fail)
        go_wp2
        go_roundw
        case rel => exact ⟨m + 1, by omega, by go_num, fun j hj => by
          rcases Nat.lt_or_ge j m with h | h
          · exact HNO.out j h
          · obtain rfl : j = m := by omega
            exact HQ.out, HE.out.drewN _⟩
        case measure => simp [intOf]; omega
    · have HR2 : Hid (goodB gs xs k hg = true) := Lib.hid (by
        rw [HD.out, decide_eq_false (fun hmem => by
          obtain ⟨j, hj, he⟩ := List.getElem_of_mem hmem
          refine HNO.out j (by omega) ?_
          rw [List.getD_eq_getElem?_getD, List.getElem?_eq_getElem hj]; exact he)]; rfl)
      go_wp2
      go_ret
      exact ⟨ret_bool (by rw [HR.out, HR2.out]; rfl), (((Ext.refl w).alloc _).alloc _).trans (HC3.out.trans HE.out)⟩

theorem rgood_any (A B : Option Addr) (c d : Nat) (gs xs : List Int) (hc hg : Int) (w : World) (h : Ints w (.slice A gs.length c) gs) (h' : Ints w (.slice B xs.length d) xs) (hl : gs.length ≤ 1048576)
    (bc : -9223372036854775808 ≤ hc ∧ hc ≤ 9223372036854775807) (bg : -9223372036854775808 ≤ hg ∧ hg ≤ 9223372036854775807) :
    Calls Try.prog 19 #[.agg #[.slice A gs.length c, .slice B xs.length d], .agg #[.int .i64 hc, .int .i64 hg]] w fun e w' => e = .returned (.bool (rightB gs xs && goodB gs xs hc hg)) ∧ Ext w w' := by
  cases hr : rightB gs xs with
  | false => simpa only [hr] using rgood_no A B c d gs xs hc hg w h h' bc bg hr
  | true =>
    by_cases h1 : hc < 0
    · simpa only [hr] using rgood_neg A B c d gs xs hc hg w h h' bc bg hr h1
    · by_cases h2 : (gs.length : Int) ≤ hc
      · simpa only [hr] using rgood_far A B c d gs xs hc hg w h h' bc bg hr h2
      · obtain ⟨k, rfl⟩ : ∃ k : Nat, hc = k := ⟨hc.toNat, by omega⟩
        by_cases h3 : gs.getD k 0 = hg
        · simpa only [hr] using rgood_same A B c d gs xs k hg w h h' bg hr (by omega) h3 hl
        · simpa only [hr] using rgood_other A B c d gs xs k hg w h h' bg hr (by omega) h3
end Go.Proofs.Ytpmibjjplclkeaa
