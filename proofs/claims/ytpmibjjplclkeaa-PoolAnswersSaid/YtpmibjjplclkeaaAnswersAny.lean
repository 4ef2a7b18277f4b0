/- PoolAnswers, whatever the input. -/
import Derived.Test.YtpmibjjplclkeaaAnswers
import Derived.Test.YtpmibjjplclkeaaAnswersG
namespace Go.Proofs.Ytpmibjjplclkeaa
open Go.RowKit
theorem answers_any (A B : Option Addr) (c d : Nat) (gs xs : List Int) (hc hg n : Int) (w : World) (h : Ints w (.slice A gs.length c) gs) (h' : Ints w (.slice B xs.length d) xs)
    (bc : -9223372036854775808 ≤ hc ∧ hc ≤ 9223372036854775807) (bg : -9223372036854775808 ≤ hg ∧ hg ≤ 9223372036854775807) (bn : -9223372036854775808 ≤ n ∧ n ≤ 9223372036854775807) :
    Calls Try.prog 3 #[.agg #[.slice A gs.length c, .slice B xs.length d], .agg #[.int .i64 hc, .int .i64 hg], .int .i64 n] w fun e w' => e = .returned (.bool true) ∧ Ext w w' := by
  by_cases hgr : 300 < gs.length ∨ 300 < xs.length
  · exact answers_great A B c d gs xs hc hg n w h h' hgr
  · exact answers_walk A B c d gs xs hc hg n w h h' bc bg bn (by omega)
end Go.Proofs.Ytpmibjjplclkeaa
