/- The small functions of a pool: sized, aged, whether two lists are the same, a clone, a copy. -/
import Derived.Test.YtbkheglogmkbgaaMem
import Derived.Test.YtbkheglogmkbgaaPlain
import Derived.Outline
import Derived.LoopTactic
import Derived.WalkSpells
import Derived.BigQuiet
import Derived.Deep.QuietTactic
import Derived.Lib.SliceRun
import Derived.Deep.RegionHeld3
namespace Go.Proofs.Ytbkheglogmkbgaa
open Go.RowKit Go.Proofs.Ytbkheglogmkbgaa.Plain

theorem sized_any (n : Int) (w : World) (h : -9223372036854775808 ≤ n ∧ n ≤ 9223372036854775807) :
    Calls Try.prog 13 #[.int .i64 n] w fun e w' => e = .returned (.bool (sizedB n)) ∧ w = w' := by
  unfold sizedB
  go_enter Try.func13, Try.ntmps13
  go_wp2
  all_goals go_ret
  all_goals exact ⟨ret_bool (by simp; try omega), rfl⟩

set_option maxHeartbeats 400000 in
theorem aged_any (v : Value) (gs : List Int) (w : World) (h : Ints w v gs) :
    Calls Try.prog 18 #[v] w fun e w' => e = .returned (.bool (agedB gs)) ∧ w = w' := by
  obtain ⟨hm, hb, A, cap, rfl, hcap, hc⟩ := h
  unfold maxLen at hm
  go_enter Try.func18, Try.ntmps18
  go_wp2
  go_loop [7] (fun i => ∃ k : Nat, k ≤ gs.length ∧ i = .int .i64 k ∧ agedB (gs.take k) = true) (fun i => gs.length - (intOf i).toNat)
  case atStart => exact ⟨0, Nat.zero_le _, rfl, by simp [agedB]⟩
  case round =>
    obtain ⟨k, hk, rfl, ha⟩ := hrel
    by_cases hlt : k < gs.length
    · obtain ⟨b, off, rfl, hcc⟩ := hc (by omega)
      have hcell := hcc k hlt
      have hsn := aged_snoc gs k hlt ha
      have hno := aged_false gs k hlt
      have HC := Lib.hid hc
      have HS := Lib.hid hsn
      have HN := Lib.hid hno
      clear hc hcc hsn hno ha
      generalize hg : gs.getD k 0 = g at *
      clear hg
      by_cases h1 : g < 0
      · have H0 := Lib.hid (HN.out (by unfold gOk; simp; omega))
        clear HS HN
        go_wp2
        go_ret
        exact ⟨ret_bool (by rw [H0.out]), rfl⟩
      · by_cases h2 : 1073741824 < g
        · have H0 := Lib.hid (HN.out (by unfold gOk; simp; omega))
          clear HS HN
          go_wp2
          go_ret
          exact ⟨ret_bool (by rw [H0.out]), rfl⟩
        · have H0 := Lib.hid (HS.out (by unfold gOk; simp; omega))
          clear HS HN
          go_wp2
          go_round
          case rel => exact ⟨k + 1, by omega, by go_num, H0.out⟩
          case measure => simp [intOf]; omega
    · have HA := Lib.hid ha
      clear ha hc
      go_wp2
      go_ret
      exact ⟨ret_bool (by rw [← HA.out, List.take_of_length_le (by omega)]), rfl⟩


def sameB (xs ys : List Int) : Bool := decide (xs = ys)

set_option maxHeartbeats 400000 in
theorem ints_any (v u : Value) (xs ys : List Int) (w : World) (h : Ints w v xs) (h' : Ints w u ys) :
    Calls Try.prog 12 #[v, u] w fun e w' => e = .returned (.bool (sameB xs ys)) ∧ ∃ n, w' = w.drewN n := by
  obtain ⟨hm, hb, A, cap, rfl, hcap, hc⟩ := h
  obtain ⟨hm', hb', A', cap', rfl, hcap', hc'⟩ := h'
  unfold maxLen at hm hm'
  by_cases hl : xs.length = ys.length
  · have H := Lib.hid hl
    have e : decide ((xs.length : Int) = (ys.length : Int)) = true := by simp [hl]
    have e2 : ((xs.length : Int) != (ys.length : Int)) = false := by simp [hl]
    clear hl
    go_enter Try.func12, Try.ntmps12
    go_wp2
    clear e e2
    go_loopw [5] (fun i wr => ∃ k n : Nat, k ≤ xs.length ∧ i = .int .i64 k ∧ wr = w.drewN n ∧ ∀ j, j < k → xs.getD j 0 = ys.getD j 0) (fun i _ => xs.length - (intOf i).toNat)
    case atStart => exact ⟨0, 0, Nat.zero_le _, rfl, rfl, by omega⟩
    case round =>
      obtain ⟨k, n, hk, rfl, rfl, ha⟩ := hrel
      have HA := Lib.hid ha
      clear ha
      by_cases hlt : k < xs.length
      · obtain ⟨b, off, rfl, hcc⟩ := hc (by omega)
        obtain ⟨b', off', rfl, hcc'⟩ := hc' (by have := H.out; omega)
        have hcell := hcc k hlt
        have hcell' := hcc' k (by have := H.out; omega)
        have hlt' : k < ys.length := by have := H.out; omega
        have HC := Lib.hid hc
        have HC' := Lib.hid hc'
        clear hc hcc hc' hcc'
        by_cases he : xs.getD k 0 = ys.getD k 0
        · have HE := Lib.hid he
          have e1 : ((xs.getD k 0) != (ys.getD k 0)) = false := by rw [he]; simp
          generalize hg : xs.getD k 0 = g at *
          generalize hg' : ys.getD k 0 = g' at *
          clear he
          go_wp2
          go_quiet (fail)
          go_wp2
          go_roundw
          case rel => exact ⟨k + 1, _, by omega, by go_num, rfl, fun j hj => by
            rcases Nat.lt_or_ge j k with h1 | h1
            · exact HA.out j h1
            · obtain rfl : j = k := by omega
              rw [hg, hg', HE.out]⟩
          case measure => simp [intOf]; omega
        · have HE := Lib.hid he
          have e1 : ((xs.getD k 0) != (ys.getD k 0)) = true := by simpa using he
          have HR : Hid (sameB xs ys = false) := Lib.hid (by unfold sameB; rw [decide_eq_false_iff_not]; intro h; exact he (by rw [h]))
          generalize hg : xs.getD k 0 = g at *
          generalize hg' : ys.getD k 0 = g' at *
          clear he
          go_wp2
          go_quiet (fail)
          go_wp2
          go_ret
          exact ⟨ret_bool HR.out.symm, n + nq, by simp⟩
      · have HR : Hid (sameB xs ys = true) := Lib.hid (by unfold sameB; rw [decide_eq_true_eq]; exact eq_of_all _ _ H.out (fun j hj => HA.out j (by omega)))
        clear hc hc'
        go_wp2
        go_ret
        exact ⟨ret_bool HR.out.symm, _, rfl⟩
  · have e2 : ((xs.length : Int) != (ys.length : Int)) = true := by simp; omega
    have HR : Hid (sameB xs ys = false) := Lib.hid (by unfold sameB; rw [decide_eq_false_iff_not]; intro h; exact hl (by rw [h]))
    clear hl hc hc'
    go_enter Try.func12, Try.ntmps12
    go_wp2
    go_ret
    exact ⟨ret_bool HR.out.symm, 0, rfl⟩

set_option maxHeartbeats 400000 in
theorem clone_any (v : Value) (xs : List Int) (w : World) (h : Ints w v xs) (hl : xs.length ≤ 1048576) :
    Calls Try.prog 17 #[v] w fun e w' => ∃ A c, e = .returned (.slice A xs.length c) ∧ Own w.heap.size w' (.slice A xs.length c) xs ∧ Ext w w' := by
  have hi := h
  obtain ⟨hm, hb, A, cap, rfl, hcap, hc⟩ := h
  have HC := Lib.hid hc
  clear hc
  have hnil := fun (w : World) (a : Option Addr) (n c : Nat) => Lib.run_eql_slice_nil w 24 3 a n c 0 0 Try.underlying24
  cases A with
  | none =>
    have h0 : xs = [] := by
      cases xs with
      | nil => rfl
      | cons a l => obtain ⟨b, off, h, _⟩ := HC.out (by simp); cases h
    subst h0
    go_enter Try.func17, Try.ntmps17
    go_wp2
    go_ret
    exact ⟨_, _, rfl, Own.nil _ _, Ext.refl _⟩
  | some ad =>
    go_enter Try.func17, Try.ntmps17
    go_wp2_with (at_builtin; refine wpList_app rfl _ _ rfl rfl w.heap.size _ [] rfl (Own.made w #[] 0 (Nat.le_refl _) (by simp) rfl) _ xs rfl (hi.ext ((Ext.refl w).alloc _)) (by simpa using hl) (by simp) ?_; intro u w1 hown hgrow hat)
    go_ret
    obtain ⟨A1, c1, rfl, _⟩ := hown.shape
    refine ⟨A1, c1, rfl, hown, ((Ext.refl w).alloc _).grown hgrow (fun k hk => ?_)⟩
    cases hk; exact Nat.le_refl _

set_option maxHeartbeats 800000 in
theorem copied_any (v u : Value) (gs xs : List Int) (w : World) (h : Ints w v gs) (h' : Ints w u xs) (hl : gs.length ≤ 1048576) (hl' : xs.length ≤ 1048576) :
    Calls Try.prog 14 #[.agg #[v, u]] w fun e w' => ∃ A c B d, e = .returned (.agg #[.slice A gs.length c, .slice B xs.length d]) ∧ Own w.heap.size w' (.slice A gs.length c) gs ∧ Own w.heap.size w' (.slice B xs.length d) xs ∧ Ext w w' ∧ (∀ g, Value.ownBlock (.slice A gs.length c) = some g → Value.ownBlock (.slice B xs.length d) ≠ some g) := by
  have HG := Lib.hid h
  have HX := Lib.hid h'
  obtain ⟨hm, hb, A, cap, rfl, hcap, hc⟩ := h
  obtain ⟨hm', hb', A', cap', rfl, hcap', hc'⟩ := h'
  clear hc hc'
  go_enter Try.func14, Try.ntmps14
  go_wp2
  go_region_held3 (fun w' => w'.cell? ⟨w.heap.size, 0, none⟩ = some (.slice A gs.length cap) ∧ w'.cell? ⟨w.heap.size, 1, none⟩ = some (.slice A' xs.length cap'))
    (first | go_keep | exact ⟨c21, c22⟩ | exact ⟨c11, c12⟩)
    (first
      | (go_at_call_of 17 (Value.slice A gs.length cap)
         refine (clone_any _ _ _ (HG.out.ext (((Ext.refl w).alloc _).alloc _).drew) hl).mono ?_
         rintro e w1 ⟨A1, c1, rfl, ho1, hE1⟩
         have c11 : w1.cell? ⟨w.heap.size, 0, none⟩ = some (.slice A gs.length cap) := hE1.cell (by go_simp)
         have c12 : w1.cell? ⟨w.heap.size, 1, none⟩ = some (.slice A' xs.length cap') := hE1.cell (by go_simp))
      | (go_at_call_of 17 (Value.slice A' xs.length cap')
         refine (clone_any _ _ _ (HX.out.ext ((((Ext.refl w).alloc _).alloc _).drew.trans hE1)) hl').mono ?_
         rintro e w2 ⟨A2, c2, rfl, ho2, hE2⟩
         have c21 : w2.cell? ⟨w.heap.size, 0, none⟩ = some (.slice A gs.length cap) := hE2.cell c11
         have c22 : w2.cell? ⟨w.heap.size, 1, none⟩ = some (.slice A' xs.length cap') := hE2.cell c12
         have hE12 := hE1.trans hE2
         obtain ⟨hc2, hf2⟩ := bcell hE12))
  go_wp2
  refine bodyPost_ret (v := .agg #[.slice A1 gs.length c1, .slice A2 xs.length c2]) (by simp [results, Try.results14, go_sem, hc2]) rfl ⟨A1, c1, A2, c2, rfl, ?_, ?_, ?_, ?_⟩
  · exact ((((ho1.ext hE2).setBelow (by simp) _).setBelow (by simp) _).mono (by simp; omega))
  · have := hE1.size
    simp at this
    exact (((ho2.setBelow (by simp; omega) _).setBelow (by simp; omega) _).mono (by omega))
  · exact (((((Ext.refl w).alloc _).alloc _).drew.trans hE12).setCell (by simp) _).setCell (by simp) _
  · intro g h1 h2
    have := (ho1.lt g h1).2
    have := (ho2.lt g h2).1
    omega
end Go.Proofs.Ytbkheglogmkbgaa
