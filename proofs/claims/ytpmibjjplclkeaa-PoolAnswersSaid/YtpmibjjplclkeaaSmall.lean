/- Whether a pool is great, and whether two are the same. -/
import Derived.Test.YtpmibjjplclkeaaBase
namespace Go.Proofs.Ytpmibjjplclkeaa
open Go.RowKit Go.Proofs.Ytpmibjjplclkeaa.Plain

def greatB (gs xs : List Int) : Bool := decide (300 < gs.length) || decide (300 < xs.length)

theorem great_any (A B : Option Addr) (c d n m : Nat) (w : World) (hn : n ≤ 9223372036854775807) (hm : m ≤ 9223372036854775807) :
    Calls Try.prog 8 #[.agg #[.slice A n c, .slice B m d]] w fun e w' => e = .returned (.bool (decide (300 < n) || decide (300 < m))) ∧ Ext w w' := by
  by_cases h1 : 300 < n
  · go_enter Try.func8, Try.ntmps8
    go_wp2
    go_ret
    exact ⟨by first | rfl | (simp only [decide_eq_true h1]; rfl), (Ext.refl w).alloc _⟩
  · by_cases h2 : 300 < m
    · go_enter Try.func8, Try.ntmps8
      go_wp2
      go_ret
      exact ⟨ret_bool (by rw [Bool.eq_iff_iff]; simp only [Bool.or_eq_true, decide_eq_true_eq]; omega), (Ext.refl w).alloc _⟩
    · go_enter Try.func8, Try.ntmps8
      go_wp2
      go_ret
      exact ⟨ret_bool (by rw [Bool.eq_iff_iff]; simp only [Bool.or_eq_true, decide_eq_true_eq]; omega), (Ext.refl w).alloc _⟩

def same2B (gs xs hs ys : List Int) : Bool := sameB gs hs && sameB xs ys

set_option maxHeartbeats 800000 in
theorem same_any (A B A' B' : Option Addr) (c d c' d' : Nat) (gs xs hs ys : List Int) (w : World) (h1 : Ints w (.slice A gs.length c) gs) (h2 : Ints w (.slice B xs.length d) xs)
    (h3 : Ints w (.slice A' hs.length c') hs) (h4 : Ints w (.slice B' ys.length d') ys) :
    Calls Try.prog 15 #[.agg #[.slice A gs.length c, .slice B xs.length d], .agg #[.slice A' hs.length c', .slice B' ys.length d']] w fun e w' => e = .returned (.bool (same2B gs xs hs ys)) ∧ Ext w w' := by
  have H1 := Lib.hid h1
  have H2 := Lib.hid h2
  have H3 := Lib.hid h3
  have H4 := Lib.hid h4
  clear h1 h2 h3 h4
  cases hs1 : sameB gs hs with
  | false =>
    have HR : Hid (same2B gs xs hs ys = false) := Lib.hid (by unfold same2B; rw [hs1]; rfl)
    have HS := Lib.hid hs1
    clear hs1
    go_enter Try.func15, Try.ntmps15
    go_wp2_with (go_at_call 20; refine (ints_any _ _ _ _ _ (H1.out.ext (((Ext.refl w).alloc _).alloc _)) (H3.out.ext (((Ext.refl w).alloc _).alloc _))).mono ?_; rw [HS.out]; rintro e w1 ⟨rfl, n, rfl⟩)
    go_ret
    exact ⟨ret_bool HR.out.symm, (((Ext.refl w).alloc _).alloc _).drewN _⟩
  | true =>
    have HR : Hid (same2B gs xs hs ys = sameB xs ys) := Lib.hid (by unfold same2B; rw [hs1]; rfl)
    have HS := Lib.hid hs1
    clear hs1
    go_enter Try.func15, Try.ntmps15
    go_wp2_with fail
    refine (ints_any _ _ _ _ _ (H1.out.ext (((Ext.refl w).alloc _).alloc _)) (H3.out.ext (((Ext.refl w).alloc _).alloc _))).mono ?_; rw [HS.out]; rintro e w1 ⟨rfl, n, rfl⟩
    go_wp2_with fail
    refine (ints_any _ _ _ _ _ (H2.out.ext ((((Ext.refl w).alloc _).alloc _).drewN _)) (H4.out.ext ((((Ext.refl w).alloc _).alloc _).drewN _))).mono ?_; rintro e w2 ⟨rfl, m, rfl⟩
    go_wp2
    all_goals go_ret
    all_goals exact ⟨ret_bool (by rw [HR.out]), (((Ext.refl w).alloc _).alloc _).drewN _⟩
end Go.Proofs.Ytpmibjjplclkeaa
