/- The cells that are taken. -/
import Derived.Test.YtbkheglogmkbgaaFree
namespace Go.Proofs.Ytbkheglogmkbgaa
open Go.RowKit Go.Proofs.Ytbkheglogmkbgaa.Plain

def TakenSaid (w : World) (gs xs : List Int) (e : Ending) (w' : World) : Prop :=
  ∃ A c, e = .returned (.slice A (takenL gs xs).length c) ∧ Ints w' (.slice A (takenL gs xs).length c) (takenL gs xs) ∧ Ext w w'

set_option maxHeartbeats 800000 in
theorem taken_no (A B : Option Addr) (c d : Nat) (gs xs : List Int) (w : World) (h : Ints w (.slice A gs.length c) gs) (h' : Ints w (.slice B xs.length d) xs) (hr : rightB gs xs = false) :
    Calls Try.prog 10 #[.agg #[.slice A gs.length c, .slice B xs.length d]] w (TakenSaid w gs xs) := by
  have HG := Lib.hid h
  have HX := Lib.hid h'
  have HR := Lib.hid hr
  clear h h' hr
  go_enter Try.func10, Try.ntmps10
  go_wp2_with (go_at_call 15; refine (free_no _ _ _ _ _ _ _ (HG.out.ext ((Ext.refl w).alloc _)) (HX.out.ext ((Ext.refl w).alloc _)) HR.out).mono ?_; rintro e w1 ⟨rfl, hE⟩)
  go_ret
  have e1 : takenL gs xs = [] := by unfold takenL; rw [HR.out]; rfl
  refine ⟨none, 0, ?_, ?_, ((Ext.refl w).alloc _).trans hE⟩
  · rw [e1]; rfl
  · rw [e1]; exact Ints.nil _ _ _

set_option maxHeartbeats 1600000 in
theorem taken_yes (A B : Option Addr) (c d : Nat) (gs xs : List Int) (w : World) (h : Ints w (.slice A gs.length c) gs) (h' : Ints w (.slice B xs.length d) xs) (hr : rightB gs xs = true) :
    Calls Try.prog 10 #[.agg #[.slice A gs.length c, .slice B xs.length d]] w (TakenSaid w gs xs) := by
  have HG := Lib.hid h
  have HX := Lib.hid h'
  have HR := Lib.hid hr
  obtain ⟨h1g, h2g, _⟩ := right_parts gs xs hr
  clear h h' hr
  go_enter Try.func10, Try.ntmps10
  go_wp2_with (go_at_call 15; refine (free_yes _ _ _ _ _ _ _ (HG.out.ext ((Ext.refl w).alloc _)) (HX.out.ext ((Ext.refl w).alloc _)) HR.out).mono ?_; rintro e w1 ⟨b, rfl, hS, hE⟩; obtain ⟨hc1, hf1⟩ := bcell hE; have HS := Lib.hid hS; have HE := Lib.hid hE; clear hS hE)
  have hE1 := ((Ext.refl w).alloc (.cells #[.slice A gs.length c, .slice B xs.length d] 26)).trans HE.out
  have hz1 := HE.out.size
  simp at hz1
  have HE1 := Lib.hid hE1
  clear hE1 hc1 hf1
  go_loopw [5, 19] (fun v i wr => ∃ k : Nat, k ≤ gs.length ∧ i = .int .i64 k ∧ Own w1.heap.size wr v (takenUpTo xs k) ∧ Ext w1 wr) (fun _ i _ => gs.length - (intOf i).toNat)
  case atStart => exact ⟨0, Nat.zero_le _, rfl, Own.nil _ _, Ext.refl _⟩
  case round =>
    obtain ⟨k, hk, rfl, hown, hE⟩ := hrel
    by_cases hlt : k < gs.length
    · obtain ⟨bb, n, D, hb, hmap, hD⟩ := HS.out.ext hE
      cases hb
      have hh := hD k
      have HD := Lib.hid hD
      have hkey : keyOf Try.prog 3 (.int .i64 k) = some (.int .i64 k) := Maps.keyOf_int_mk Try.underlying3 (by simp [Lit.wf, IntKind.min, IntKind.max, IntKind.signed, IntKind.bits]; omega)
      have HT := Lib.hid (takenUpTo_succ xs k)
      have hlen := takenUpTo_len xs k
      have HO := Lib.hid hown
      have HEE := Lib.hid hE
      clear hD hown hE
      by_cases hmem : (k : Int) ∈ xs
      · have hh1 : Maps.has D (.int .i64 k) = true := by rw [hh]; simpa using hmem
        have HM := Lib.hid hmem
        clear hh hmem
        go_wp2_with (at_lookup; refine wpList_lookup_own_unit _ rfl _ _ 43 rfl 3 47 keyedInt Try.underlying43 (zeroUnit _) b n _ rfl hmap _ _ rfl hkey ?_)
        go_roundw
        case rel => exact ⟨k + 1, by omega, by go_num, by rw [HT.out, if_pos HM.out]; exact HO.out.ext ((Ext.refl _).alloc _), HEE.out.alloc _⟩
        case measure => simp [intOf]; omega
      · have hh1 : Maps.has D (.int .i64 k) = false := by rw [hh]; simpa using hmem
        have HM := Lib.hid hmem
        clear hh hmem
        have hO2 := Lib.hid ((HO.out.ext ((Ext.refl wr).alloc (.cells #[] 47))).ext ((Ext.refl _).alloc (.cells #[.int .i64 k] 3)))
        have hszz := HEE.out.size
        go_wp2_with (first
          | (at_lookup; refine wpList_lookup_own_unit _ rfl _ _ 43 rfl 3 47 keyedInt Try.underlying43 (zeroUnit _) b n _ rfl hmap _ _ rfl hkey ?_)
          | (at_builtin; refine wpList_app rfl _ _ rfl rfl _ _ _ rfl hO2.out _ [(k : Int)] rfl (Ints.one' _ _ k 1 (by simp) (Nat.le_refl _) (by omega)) (by simp; omega) (by simp; omega) ?_; intro u w4 hown hgrow hat))
        go_roundw
        case rel =>
          refine ⟨k + 1, by omega, by go_num, by rw [HT.out, if_neg HM.out]; exact hown, ((HEE.out.alloc _).alloc _).grown hgrow (fun j hj => (hO2.out.lt j hj).1)⟩
        case measure => simp [intOf]; omega
    · obtain rfl : gs.length = k := by omega
      have HO := Lib.hid hown
      have HEE := Lib.hid hE
      clear hown hE
      go_wp2
      go_ret
      have e1 : takenL gs xs = takenUpTo xs gs.length := by unfold takenL; rw [if_pos HR.out]
      obtain ⟨A5, c5, rfl, _⟩ := HO.out.shape
      refine ⟨A5, c5, ?_, ?_, HE1.out.trans HEE.out⟩
      · show Ending.returned (Value.slice A5 (takenUpTo xs gs.length).length c5) = _
        rw [e1]
      · rw [e1]; exact HO.out.ints
end Go.Proofs.Ytbkheglogmkbgaa
