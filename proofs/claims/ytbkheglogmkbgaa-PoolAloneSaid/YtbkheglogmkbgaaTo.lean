/- The pool's functions, with their answers named. -/
import Derived.Test.YtbkheglogmkbgaaTake
import Derived.Test.YtbkheglogmkbgaaGive
import Derived.Test.YtbkheglogmkbgaaMake
import Derived.Test.YtbkheglogmkbgaaTaken
namespace Go.Proofs.Ytbkheglogmkbgaa
open Go.RowKit Go.Proofs.Ytbkheglogmkbgaa.Plain

theorem make_to (n : Int) (gs' xs' : List Int) (E : Int) (n' m' : Nat) (w : World) (hn : -9223372036854775808 ≤ n ∧ n ≤ 9223372036854775807)
    (e1 : makeG n = gs') (e2 : makeX n = xs') (e3 : makeE n = E) (e4 : gs'.length = n') (e5 : xs'.length = m') :
    Calls Try.prog 6 #[.int .i64 n] w fun e w' => ∃ A c B d, e = .returned (.tuple #[.agg #[.slice A n' c, .slice B m' d], .int .i64 E]) ∧
      Ints w' (.slice A n' c) gs' ∧ Ints w' (.slice B m' d) xs' ∧ Ext w w' := by
  subst e1 e2 e3 e4 e5
  exact make_any n w hn

theorem take_to (A B : Option Addr) (n m c d : Nat) (gs xs gs' xs' : List Int) (C G E : Int) (n' m' : Nat) (w : World) (h : Ints w (.slice A n c) gs) (h' : Ints w (.slice B m d) xs) (hn : gs.length = n) (hm : xs.length = m) (hl : n ≤ 300) (hl' : m ≤ 300)
    (e1 : takeG gs xs = gs') (e2 : takeX gs xs = xs') (e3 : takeC gs xs = C) (e4 : takeN gs xs = G) (e5 : takeE gs xs = E) (e6 : gs'.length = n') (e7 : xs'.length = m') :
    Calls Try.prog 7 #[.agg #[.slice A n c, .slice B m d]] w fun e w' => ∃ A c B d, e = .returned (.tuple #[.agg #[.slice A n' c, .slice B m' d], .agg #[.int .i64 C, .int .i64 G], .int .i64 E]) ∧
      Ints w' (.slice A n' c) gs' ∧ Ints w' (.slice B m' d) xs' ∧ Ext w w' := by
  subst e1 e2 e3 e4 e5 e6 e7 hn hm
  exact take_any A B c d gs xs w h h' hl hl'

theorem give_to (A B : Option Addr) (n m c d : Nat) (gs xs xs' : List Int) (hc hg E : Int) (m' : Nat) (w : World) (h : Ints w (.slice A n c) gs) (h' : Ints w (.slice B m d) xs) (hn : gs.length = n) (hm : xs.length = m) (hl : n ≤ 300) (hl' : m ≤ 300)
    (bc : -9223372036854775808 ≤ hc ∧ hc ≤ 9223372036854775807) (e2 : giveX gs xs hc hg = xs') (e3 : giveE gs xs hc hg = E) (e7 : xs'.length = m') :
    Calls Try.prog 8 #[.agg #[.slice A n c, .slice B m d], .agg #[.int .i64 hc, .int .i64 hg]] w fun e w' => ∃ A c B d, e = .returned (.tuple #[.agg #[.slice A n c, .slice B m' d], .int .i64 E]) ∧
      Ints w' (.slice A n c) gs ∧ Ints w' (.slice B m' d) xs' ∧ Ext w w' := by
  subst e2 e3 e7 hn hm
  exact give_any A B c d gs xs hc hg w h h' hl hl' bc

/-- .. in memory of its own -/
theorem take_fresh (A B : Option Addr) (n m c d : Nat) (gs xs gs' xs' : List Int) (C G E : Int) (n' m' : Nat) (w : World) (h : Ints w (.slice A n c) gs) (h' : Ints w (.slice B m d) xs) (hn : gs.length = n) (hm : xs.length = m) (hl : n ≤ 300) (hl' : m ≤ 300)
    (e1 : takeG gs xs = gs') (e2 : takeX gs xs = xs') (e3 : takeC gs xs = C) (e4 : takeN gs xs = G) (e5 : takeE gs xs = E) (e6 : gs'.length = n') (e7 : xs'.length = m') :
    Calls Try.prog 7 #[.agg #[.slice A n c, .slice B m d]] w fun e w' => ∃ A c B d, e = .returned (.tuple #[.agg #[.slice A n' c, .slice B m' d], .agg #[.int .i64 C, .int .i64 G], .int .i64 E]) ∧
      Ints w' (.slice A n' c) gs' ∧ Ints w' (.slice B m' d) xs' ∧ Ext w w' ∧ From w.heap.size A ∧ From w.heap.size B := by
  subst e1 e2 e3 e4 e5 e6 e7 hn hm
  exact take_far A B c d gs xs w h h' hl hl'
theorem give_fresh (A B : Option Addr) (n m c d : Nat) (gs xs xs' : List Int) (hc hg E : Int) (m' : Nat) (w : World) (h : Ints w (.slice A n c) gs) (h' : Ints w (.slice B m d) xs) (hn : gs.length = n) (hm : xs.length = m) (hl : n ≤ 300) (hl' : m ≤ 300)
    (bc : -9223372036854775808 ≤ hc ∧ hc ≤ 9223372036854775807) (e2 : giveX gs xs hc hg = xs') (e3 : giveE gs xs hc hg = E) (e7 : xs'.length = m') :
    Calls Try.prog 8 #[.agg #[.slice A n c, .slice B m d], .agg #[.int .i64 hc, .int .i64 hg]] w fun e w' => ∃ A c B d, e = .returned (.tuple #[.agg #[.slice A n c, .slice B m' d], .int .i64 E]) ∧
      Ints w' (.slice A n c) gs ∧ Ints w' (.slice B m' d) xs' ∧ Ext w w' ∧ From w.heap.size A ∧ From w.heap.size B := by
  subst e2 e3 e7 hn hm
  exact give_far A B c d gs xs hc hg w h h' hl hl' bc

theorem right_to (A B : Option Addr) (n m c d : Nat) (gs xs : List Int) (b : Bool) (w : World) (h : Ints w (.slice A n c) gs) (h' : Ints w (.slice B m d) xs) (hn : gs.length = n) (hm : xs.length = m) (e1 : rightB gs xs = b) :
    Calls Try.prog 11 #[.agg #[.slice A n c, .slice B m d]] w fun e w' => e = .returned (.bool b) ∧ Ext w w' := by
  subst e1 hn hm
  exact right_any A B c d gs xs w h h'

theorem good_to (A B : Option Addr) (n m c d : Nat) (gs xs : List Int) (hc hg : Int) (b : Bool) (w : World) (h : Ints w (.slice A n c) gs) (h' : Ints w (.slice B m d) xs) (hn : gs.length = n) (hm : xs.length = m)
    (bc : -9223372036854775808 ≤ hc ∧ hc ≤ 9223372036854775807) (e1 : (rightB gs xs && goodB gs xs hc hg) = b) :
    Calls Try.prog 9 #[.agg #[.slice A n c, .slice B m d], .agg #[.int .i64 hc, .int .i64 hg]] w fun e w' => e = .returned (.bool b) ∧ Ext w w' := by
  subst e1 hn hm
  exact Good_any A B c d gs xs hc hg w h h' bc

theorem taken_any (A B : Option Addr) (c d : Nat) (gs xs : List Int) (w : World) (h : Ints w (.slice A gs.length c) gs) (h' : Ints w (.slice B xs.length d) xs) :
    Calls Try.prog 10 #[.agg #[.slice A gs.length c, .slice B xs.length d]] w (TakenSaid w gs xs) := by
  cases hr : rightB gs xs with
  | false => exact taken_no A B c d gs xs w h h' hr
  | true => exact taken_yes A B c d gs xs w h h' hr
theorem taken_to (A B : Option Addr) (n m c d : Nat) (gs xs ys : List Int) (k : Nat) (w : World) (h : Ints w (.slice A n c) gs) (h' : Ints w (.slice B m d) xs) (hn : gs.length = n) (hm : xs.length = m)
    (e1 : takenL gs xs = ys) (e2 : ys.length = k) :
    Calls Try.prog 10 #[.agg #[.slice A n c, .slice B m d]] w fun e w' => ∃ A c, e = .returned (.slice A k c) ∧ Ints w' (.slice A k c) ys ∧ Ext w w' := by
  subst e1 e2 hn hm
  exact taken_any A B c d gs xs w h h'
theorem ints_to (u v : Value) (xs ys : List Int) (b : Bool) (w : World) (h : Ints w u xs) (h' : Ints w v ys) (e : sameB xs ys = b) :
    Calls Try.prog 12 #[u, v] w fun e w' => e = .returned (.bool b) ∧ Ext w w' := by
  subst e
  refine (ints_any u v xs ys w h h').mono fun e w' hh => ?_
  obtain ⟨he, n, rfl⟩ := hh
  exact ⟨he, (Ext.refl w).drewN n⟩
end Go.Proofs.Ytbkheglogmkbgaa
