/- PoolAnswers of a great pool. -/
import Derived.Test.YtpmibjjplclkeaaAlive
namespace Go.Proofs.Ytpmibjjplclkeaa
open Go.RowKit Go.Proofs.Ytpmibjjplclkeaa.Plain
set_option maxHeartbeats 800000 in
theorem answers_great (A B : Option Addr) (c d : Nat) (gs xs : List Int) (hc hg n : Int) (w : World) (h : Ints w (.slice A gs.length c) gs) (h' : Ints w (.slice B xs.length d) xs) (hgr : 300 < gs.length ∨ 300 < xs.length) :
    Calls Try.prog 3 #[.agg #[.slice A gs.length c, .slice B xs.length d], .agg #[.int .i64 hc, .int .i64 hg], .int .i64 n] w fun e w' => e = .returned (.bool true) ∧ Ext w w' := by
  have hm1 := h.1
  have hm2 := h'.1
  unfold maxLen at hm1 hm2
  have GR : Hid ((decide (300 < gs.length) || decide (300 < xs.length)) = true) := Lib.hid (by rw [Bool.or_eq_true, decide_eq_true_eq, decide_eq_true_eq]; exact hgr)
  clear h h' hgr
  go_enter Try.func3, Try.ntmps3
  go_wp2_with fail
  refine (alive_any _).mono ?_
  rintro e w1 ⟨rfl, hE⟩
  obtain ⟨hc1, hf1⟩ := bcell hE
  have HE := Lib.hid hE
  clear hE
  go_wp2_with fail
  refine (great_any _ _ _ _ _ _ _ (by omega) (by omega)).mono ?_
  rw [GR.out]
  rintro e w2 ⟨rfl, hE2⟩
  go_wp2
  go_ret
  exact ⟨rfl, ((((Ext.refl w).alloc _).alloc _).trans HE.out).trans hE2⟩
end Go.Proofs.Ytpmibjjplclkeaa
