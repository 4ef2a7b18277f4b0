/- SpliceChanged: the law returns true. Written by wip/mk_t15law.py. -/
import Derived.Test.YtllpfegnpakadaaJ6
set_option linter.unusedVariables false
set_option linter.unusedSimpArgs false
set_option linter.unnecessarySimpa false
namespace Go.Proofs.Ytllpfegnpakadaa
open Go.BigFrame
open Go.RowKit Go.Proofs.Ytllpfegnpakadaa.Plain

set_option maxHeartbeats 6400000 in
set_option maxRecDepth 100000 in
theorem splicechanged_any (a b : List Lk) (L : Option Addr) (lc : Nat) (M : Option Addr) (mc : Nat) (W : World) (hL : Rd kLink W (.slice L a.length lc) a) (hM : Rd kLink W (.slice M b.length mc) b) :
    Calls Try.prog 4 #[.slice L a.length lc, .slice M b.length mc] W fun ed w' => ed = .returned (.bool true) ∧ Ext W w' := by
  have HL := Lib.hid hL
  have HM := Lib.hid hM
  clear hL hM
  go_enter Try.func4, Try.ntmps4
  go_wp2_with fail
  refine (splicealive_any _).mono ?_
  rintro ed w1 ⟨rfl, hE1⟩
  have HX1 := Lib.hid hE1
  clear hE1
  by_cases h1 : (60 : Int) < a.length
  · go_wp2_with fail
    go_ret
    exact ⟨rfl, HX1.out⟩
  by_cases h2 : (60 : Int) < b.length
  · have h1' : (a.length : Int) ≤ 60 := by omega
    go_wp2_with fail
    go_ret
    exact ⟨rfl, HX1.out⟩
  have h1' : (a.length : Int) ≤ 60 := by omega
  have h2' : (b.length : Int) ≤ 60 := by omega
  have hle := changed_le a b
  have hsy := changed_symm b a
  have hse := changed_self a
  obtain ⟨n, hn⟩ : ∃ n, changedP a b = n := ⟨_, rfl⟩
  rw [hn] at hle hsy
  have H1 := Lib.hid hn
  have H2 := Lib.hid hsy
  have H3 := Lib.hid hse
  have hs1 : (a.length : Int) + (b.length : Int) = ((a.length + b.length : Nat) : Int) := by omega
  obtain ⟨s, hs⟩ : ∃ s, a.length + b.length = s := ⟨_, rfl⟩
  rw [hs] at hs1 hle
  have hsw : IntKind.i64.wrap (s : Int) = (s : Int) := IntWalk.i64_in _ (by omega)
  have d1 : decide ((n : Int) ≤ s) = true := decide_eq_true (by omega)
  have d1' : decide (n ≤ s) = true := decide_eq_true hle
  have e1 : ((n : Int) == (n : Int)) = true := by simp
  clear h1 h2 hn hsy hse hs
  go_wp2_with fail
  refine (pchanged15_any a b L M lc mc _ (HL.out.ext HX1.out) (HM.out.ext HX1.out) (by omega) (by omega)).mono ?_
  rw [H1.out]
  rintro ed w2 ⟨rfl, hE2⟩
  have HX2 := Lib.hid (HX1.out.trans hE2)
  clear hE2 HX1
  go_wp2_with fail
  refine (rchanged15_any a b L M lc mc _ (HL.out.ext HX2.out) (HM.out.ext HX2.out) (by omega) (by omega)).mono ?_
  rw [H1.out]
  rintro ed w3 ⟨rfl, hE3⟩
  have HX3 := Lib.hid (HX2.out.trans hE3)
  clear hE3 HX2
  go_wp2_with fail
  refine (pchanged15_any b a M L mc lc _ (HM.out.ext HX3.out) (HL.out.ext HX3.out) (by omega) (by omega)).mono ?_
  rw [H2.out]
  rintro ed w4 ⟨rfl, hE4⟩
  have HX4 := Lib.hid (HX3.out.trans hE4)
  clear hE4 HX3
  go_wp2_with fail
  refine (pchanged15_any a a L L lc lc _ (HL.out.ext HX4.out) (HL.out.ext HX4.out) (by omega) (by omega)).mono ?_
  rw [H3.out]
  rintro ed w5 ⟨rfl, hE5⟩
  have HX5 := Lib.hid (HX4.out.trans hE5)
  clear hE5 HX4
  go_wp2_with fail
  go_ret
  exact ⟨ret_bool (by first | rfl | simp | (simp; omega)), HX5.out⟩
end Go.Proofs.Ytllpfegnpakadaa
