/- The document's own answers: the cells that are taken. -/
import Derived.Test.YtpmibjjplclkeaaTaken
import Derived.Test.YtpmibjjplclkeaaRRight
namespace Go.Proofs.Ytpmibjjplclkeaa
open Go.RowKit Go.Proofs.Ytpmibjjplclkeaa.Plain

set_option maxHeartbeats 800000 in
theorem rtaken_no (A B : Option Addr) (c d : Nat) (gs xs : List Int) (w : World) (h : Ints w (.slice A gs.length c) gs) (h' : Ints w (.slice B xs.length d) xs) (hr : rightB gs xs = false) :
    Calls Try.prog 22 #[.agg #[.slice A gs.length c, .slice B xs.length d]] w (TakenSaid w gs xs) := by
  have HG := Lib.hid h
  have HX := Lib.hid h'
  have HR := Lib.hid hr
  clear h h' hr
  go_enter Try.func22, Try.ntmps22
  go_wp2_with (go_at_call 17; refine (rright_any _ _ _ _ _ _ _ (HG.out.ext ((Ext.refl w).alloc _)) (HX.out.ext ((Ext.refl w).alloc _))).mono ?_; rw [HR.out]; rintro e w1 ⟨rfl, hE⟩)
  go_ret
  have e1 : takenL gs xs = [] := by unfold takenL; rw [HR.out]; rfl
  refine ⟨none, 0, ?_, ?_, ((Ext.refl w).alloc _).trans hE⟩
  · rw [e1]; rfl
  · rw [e1]; exact Ints.nil _ _ _

set_option maxHeartbeats 3200000 in
theorem rtaken_yes (A B : Option Addr) (c d : Nat) (gs xs : List Int) (w : World) (h : Ints w (.slice A gs.length c) gs) (h' : Ints w (.slice B xs.length d) xs) (hr : rightB gs xs = true) :
    Calls Try.prog 22 #[.agg #[.slice A gs.length c, .slice B xs.length d]] w (TakenSaid w gs xs) := by
  have HG := Lib.hid h
  have HX := Lib.hid h'
  have HR := Lib.hid hr
  obtain ⟨h1g, h2g, _, _, _, hxl⟩ := right_parts gs xs hr
  clear h h' hr
  go_enter Try.func22, Try.ntmps22
  go_wp2_with (go_at_call 17; refine (rright_any _ _ _ _ _ _ _ (HG.out.ext ((Ext.refl w).alloc _)) (HX.out.ext ((Ext.refl w).alloc _))).mono ?_; rw [HR.out]; rintro e w1 ⟨rfl, hE⟩; have c0 : w1.cell? ⟨w.heap.size, 0, none⟩ = some (.slice A gs.length c) := hE.cell (by go_simp); have c1 : w1.cell? ⟨w.heap.size, 1, none⟩ = some (.slice B xs.length d) := hE.cell (by go_simp); have HE := Lib.hid hE; clear hE)
  have HE1 := Lib.hid (((Ext.refl w).alloc (.cells #[.slice A gs.length c, .slice B xs.length d] 24)).trans HE.out)
  have C0 := Lib.hid c0
  have C1 := Lib.hid c1
  clear c0 c1
  go_loopw [3, 4] (fun v i wr => ∃ k : Nat, k ≤ gs.length ∧ i = .int .i64 k ∧ Own w1.heap.size wr v (takenUpTo xs k) ∧ Ext w1 wr) (fun _ i _ => gs.length - (intOf i).toNat)
  case atStart => exact ⟨0, Nat.zero_le _, rfl, Own.nil _ _, Ext.refl _⟩
  case round =>
    obtain ⟨k, hk, rfl, hown, hE⟩ := hrel
    have k0 := hE.cell C0.out
    have k1 := hE.cell C1.out
    have HO := Lib.hid hown
    have HEE := Lib.hid hE
    clear hown hE
    by_cases hlt : k < gs.length
    · have HT := Lib.hid (takenUpTo_succ xs k)
      have hlen := takenUpTo_len xs k
      go_wp2
      go_loop [5, 6] (fun f i => ∃ m : Nat, m ≤ xs.length ∧ i = .int .i64 m ∧ f = .bool (decide ((k : Int) ∈ xs.take m))) (fun _ i => xs.length - (intOf i).toNat)
      case atStart => exact ⟨0, Nat.zero_le _, rfl, by simp⟩
      case round =>
        obtain ⟨m, hm, rfl, rfl⟩ := hrel
        by_cases hlm : m < xs.length
        · obtain ⟨b', off', rfl, hcc⟩ := HX.out.cells (by omega)
          have hcell := HEE.out.cell (HE1.out.cell (hcc m hlm))
          have hTT := Lib.hid (take_snoc xs m hlm)
          clear hcc
          by_cases hin : (k : Int) ∈ xs.take m
          · have e1 : decide ((k : Int) ∈ xs.take m) = true := decide_eq_true hin
            have HI := Lib.hid hin
            clear hin
            go_wp2
            go_round
            case rel => exact ⟨m + 1, by omega, by go_num, by rw [decide_eq_true (show (k : Int) ∈ xs.take (m + 1) from by rw [hTT.out]; exact List.mem_append_left _ HI.out)]⟩
            case measure => simp [intOf]; omega
          · have e1 : decide ((k : Int) ∈ xs.take m) = false := decide_eq_false hin
            have HI := Lib.hid hin
            clear hin
            have e3 : Hid (decide ((k : Int) ∈ xs.take (m + 1)) = (xs.getD m 0 == (k : Int))) := Lib.hid (by
              rw [Bool.eq_iff_iff, decide_eq_true_eq, beq_iff_eq, hTT.out, List.mem_append]
              constructor
              · rintro (h | h)
                · exact absurd h HI.out
                · simp only [List.mem_singleton] at h; exact h.symm
              · intro h; right; rw [h]; simp)
            obtain ⟨g, hgg⟩ : ∃ g, xs.getD m 0 = g := ⟨_, rfl⟩
            rw [hgg] at hcell
            have HG2 := Lib.hid hgg
            clear hgg
            go_wp2
            go_round
            case rel => exact ⟨m + 1, by omega, by go_num, by rw [e3.out, HG2.out]⟩
            case measure => simp [intOf]; omega
        · obtain rfl : xs.length = m := by omega
          have hTk : xs.take xs.length = xs := List.take_length
          rw [hTk]
          clear hTk
          by_cases hin : (k : Int) ∈ xs
          · have e1 : decide ((k : Int) ∈ xs) = true := decide_eq_true hin
            have HI := Lib.hid hin
            clear hin
            go_wp2
            go_roundw
            case rel => exact ⟨k + 1, by omega, by go_num, by rw [HT.out, if_pos HI.out]; exact HO.out, HEE.out⟩
            case measure => simp [intOf]; omega
          · have e1 : decide ((k : Int) ∈ xs) = false := decide_eq_false hin
            have HI := Lib.hid hin
            clear hin
            have hO2 := Lib.hid (HO.out.ext ((Ext.refl wr).alloc (.cells #[.int .i64 k] 3)))
            have hszz := HEE.out.size
            go_wp2_with (at_builtin; refine wpList_app rfl _ _ rfl rfl _ _ _ rfl hO2.out _ [(k : Int)] rfl (Ints.one' _ _ k 1 (by simp) (Nat.le_refl _) (by omega)) (by simp; omega) (by simp; omega) ?_; intro u w4 hown hgrow hat)
            go_roundw
            case rel =>
              refine ⟨k + 1, by omega, by go_num, by rw [HT.out, if_neg HI.out]; exact hown, (HEE.out.alloc _).grown hgrow (fun j hj => (hO2.out.lt j hj).1)⟩
            case measure => simp [intOf]; omega
    · obtain rfl : gs.length = k := by omega
      go_wp2
      go_ret
      have e1 : takenL gs xs = takenUpTo xs gs.length := by unfold takenL; rw [if_pos HR.out]
      obtain ⟨A5, c5, rfl, _⟩ := HO.out.shape
      refine ⟨A5, c5, ?_, ?_, HE1.out.trans HEE.out⟩
      · show Ending.returned (Value.slice A5 (takenUpTo xs gs.length).length c5) = _
        rw [e1]
      · rw [e1]; exact HO.out.ints

theorem rtaken_any (A B : Option Addr) (c d : Nat) (gs xs : List Int) (w : World) (h : Ints w (.slice A gs.length c) gs) (h' : Ints w (.slice B xs.length d) xs) :
    Calls Try.prog 22 #[.agg #[.slice A gs.length c, .slice B xs.length d]] w (TakenSaid w gs xs) := by
  cases hr : rightB gs xs with
  | false => exact rtaken_no A B c d gs xs w h h' hr
  | true => exact rtaken_yes A B c d gs xs w h h' hr
end Go.Proofs.Ytpmibjjplclkeaa
