/- Whether two lists are the same; a clone. -/
import Derived.Test.YtfigfndabokepaaMem
import Derived.Test.YtfigfndabokepaaCPlain
import Derived.Outline
import Derived.LoopTactic
import Derived.WalkSpells
import Derived.BigQuiet
import Derived.Deep.QuietTactic
import Derived.Lib.SliceRun
import Derived.Deep.RegionHeld3
namespace Go.Proofs.Ytfigfndabokepaa
open Go.RowKit Go.Proofs.Ytfigfndabokepaa.Plain

def sameB (xs ys : List Int) : Bool := decide (xs = ys)

set_option maxHeartbeats 400000 in
theorem ints_any (v u : Value) (xs ys : List Int) (w : World) (h : Ints w v xs) (h' : Ints w u ys) :
    Calls Try.prog 21 #[v, u] w fun e w' => e = .returned (.bool (sameB xs ys)) ∧ ∃ n, w' = w.drewN n := by
  obtain ⟨hm, hb, A, cap, rfl, hcap, hc⟩ := h
  obtain ⟨hm', hb', A', cap', rfl, hcap', hc'⟩ := h'
  unfold maxLen at hm hm'
  by_cases hl : xs.length = ys.length
  · have H := Lib.hid hl
    have e : decide ((xs.length : Int) = (ys.length : Int)) = true := by simp [hl]
    have e2 : ((xs.length : Int) != (ys.length : Int)) = false := by simp [hl]
    clear hl
    go_enter Try.func21, Try.ntmps21
    go_wp2
    clear e e2
    go_loopw [5] (fun i wr => ∃ k n : Nat, k ≤ xs.length ∧ i = .int .i64 k ∧ wr = w.drewN n ∧ ∀ j, j < k → xs.getD j 0 = ys.getD j 0) (fun i _ => xs.length - (intOf i).toNat)
    case atStart => exact ⟨0, 0, Nat.zero_le _, rfl, rfl, by omega⟩
    case round =>
      obtain ⟨k, n, hk, rfl, rfl, ha⟩ := hrel
      have HA := Lib.hid ha
      clear ha
      by_cases hlt : k < xs.length
      · obtain ⟨b, off, rfl, hcc⟩ := hc (by omega)
        obtain ⟨b', off', rfl, hcc'⟩ := hc' (by have := H.out; omega)
        have hcell := hcc k hlt
        have hcell' := hcc' k (by have := H.out; omega)
        have hlt' : k < ys.length := by have := H.out; omega
        have HC := Lib.hid hc
        have HC' := Lib.hid hc'
        clear hc hcc hc' hcc'
        by_cases he : xs.getD k 0 = ys.getD k 0
        · have HE := Lib.hid he
          have e1 : ((xs.getD k 0) != (ys.getD k 0)) = false := by rw [he]; simp
          generalize hg : xs.getD k 0 = g at *
          generalize hg' : ys.getD k 0 = g' at *
          clear he
          go_wp2
          go_quiet (fail)
          go_wp2
          go_roundw
          case rel => exact ⟨k + 1, _, by omega, by go_num, rfl, fun j hj => by
            rcases Nat.lt_or_ge j k with h1 | h1
            · exact HA.out j h1
            · obtain rfl : j = k := by omega
              rw [hg, hg', HE.out]⟩
          case measure => simp [intOf]; omega
        · have HE := Lib.hid he
          have e1 : ((xs.getD k 0) != (ys.getD k 0)) = true := by simpa using he
          have HR : Hid (sameB xs ys = false) := Lib.hid (by unfold sameB; rw [decide_eq_false_iff_not]; intro h; exact he (by rw [h]))
          generalize hg : xs.getD k 0 = g at *
          generalize hg' : ys.getD k 0 = g' at *
          clear he
          go_wp2
          go_quiet (fail)
          go_wp2
          go_ret
          exact ⟨ret_bool HR.out.symm, n + nq, by simp⟩
      · have HR : Hid (sameB xs ys = true) := Lib.hid (by unfold sameB; rw [decide_eq_true_eq]; exact eq_of_all _ _ H.out (fun j hj => HA.out j (by omega)))
        clear hc hc'
        go_wp2
        go_ret
        exact ⟨ret_bool HR.out.symm, _, rfl⟩
  · have e2 : ((xs.length : Int) != (ys.length : Int)) = true := by simp; omega
    have HR : Hid (sameB xs ys = false) := Lib.hid (by unfold sameB; rw [decide_eq_false_iff_not]; intro h; exact hl (by rw [h]))
    clear hl hc hc'
    go_enter Try.func21, Try.ntmps21
    go_wp2
    go_ret
    exact ⟨ret_bool HR.out.symm, 0, rfl⟩


end Go.Proofs.Ytfigfndabokepaa
