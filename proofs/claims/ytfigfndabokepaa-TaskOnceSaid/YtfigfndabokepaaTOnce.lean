/- TaskOnce, whatever the order. Written by wip/mk_tonce.py. -/
import Derived.Test.YtfigfndabokepaaTOnceS
import Derived.Test.YtfigfndabokepaaTOnceZ
namespace Go.Proofs.Ytfigfndabokepaa
open Go.BigFrame
open Go.RowKit Go.Proofs.Ytfigfndabokepaa.Plain

theorem tonce_any (x0 x1 : Int) (xs : List Int) (Aq : Option Addr) (cq : Nat) (W : World) (b0 : 0 ≤ x0 ∧ x0 ≤ 65535) (b1 : 0 ≤ x1 ∧ x1 ≤ 255) (h : Rd kU16 W (.slice Aq xs.length cq) xs) :
    Calls Try.prog 4 #[.int .u16 x0, .int .u8 x1, .slice Aq xs.length cq] W fun e w' => e = .returned (.bool true) ∧ Ext W w' := by
  by_cases hb : 500 < xs.length
  · exact tonce_great x0 x1 xs Aq cq W h hb
  · by_cases h0 : xs.length = 0
    · exact tonce_zero x0 x1 xs Aq cq W h b0 b1 (by omega) h0
    · exact tonce_some x0 x1 xs Aq cq W h b0 b1 (by omega) (by omega)
end Go.Proofs.Ytfigfndabokepaa
