/- The deque's functions, with their answers named; and the document's. -/
import Derived.Test.YtfhkmaikilgolaaDMove
namespace Go.Proofs.Ytfhkmaikilgolaa
open Go.RowKit Go.Proofs.Ytfhkmaikilgolaa.Plain

theorem push_to (A : Option Addr) (n c : Nat) (l l' : List Int) (x E : Int) (k : Nat) (w : World) (h : Ints w (.slice A n c) l) (hn : l.length = n) (hl : n ≤ 4000) (hx : -9223372036854775808 ≤ x ∧ x ≤ 9223372036854775807)
    (e1 : pushL l x = l') (e2 : pushE l = E) (e3 : l'.length = k) :
    Calls Try.prog 17 #[.slice A n c, .int .i64 x] w fun e w' => ∃ A c, e = .returned (.tuple #[.slice A k c, .int .i64 E]) ∧ Ints w' (.slice A k c) l' ∧ Ext w w' := by
  subst hn e1 e2 e3
  exact push_any A c l x w h hl hx
theorem pop_to (A : Option Addr) (n c : Nat) (l l' : List Int) (x E : Int) (k : Nat) (w : World) (h : Ints w (.slice A n c) l) (hn : l.length = n) (hl : n ≤ 4000)
    (e1 : popL l = l') (e2 : lastD l = x) (e3 : popE l = E) (e4 : l'.length = k) :
    Calls Try.prog 19 #[.slice A n c] w fun e w' => ∃ A c, e = .returned (.tuple #[.slice A k c, .int .i64 x, .int .i64 E]) ∧ Ints w' (.slice A k c) l' ∧ Ext w w' := by
  subst hn e1 e2 e3 e4
  exact pop_any A c l w h hl
theorem steal_to (A : Option Addr) (n c : Nat) (l l' : List Int) (x E : Int) (k : Nat) (w : World) (h : Ints w (.slice A n c) l) (hn : l.length = n) (hl : n ≤ 4000)
    (e1 : stealL l = l') (e2 : topD l = x) (e3 : popE l = E) (e4 : l'.length = k) :
    Calls Try.prog 21 #[.slice A n c] w fun e w' => ∃ A c, e = .returned (.tuple #[.slice A k c, .int .i64 x, .int .i64 E]) ∧ Ints w' (.slice A k c) l' ∧ Ext w w' := by
  subst hn e1 e2 e3 e4
  exact steal_any A c l w h hl
theorem look_to (A : Option Addr) (n c : Nat) (l : List Int) (x y : Int) (b : Bool) (w : World) (h : Ints w (.slice A n c) l) (hn : l.length = n) (hl : n ≤ 4000)
    (e1 : lastD l = x) (e2 : topD l = y) (e3 : lookB l = b) :
    Calls Try.prog 23 #[.slice A n c] w fun e w' => e = .returned (.tuple #[.int .i64 x, .int .i64 y, .bool b]) ∧ Ext w w' := by
  subst hn e1 e2 e3
  exact look_any A c l w h hl
theorem move_to (A B : Option Addr) (n o c d : Nat) (f t f' t' : List Int) (m : Int) (k r : Nat) (w : World) (h : Ints w (.slice A n c) f) (h' : Ints w (.slice B o d) t) (hn : f.length = n) (ho : t.length = o) (hf : n ≤ 4000) (ht : o ≤ 4000)
    (hm : -9223372036854775808 ≤ m ∧ m ≤ 9223372036854775807) (e1 : moveF f t m = f') (e2 : moveT f t m = t') (e3 : f'.length = k) (e4 : t'.length = r) :
    Calls Try.prog 26 #[.slice A n c, .slice B o d, .int .i64 m] w fun e w' => ∃ A c B d, e = .returned (.tuple #[.slice A k c, .slice B r d]) ∧ Ints w' (.slice A k c) f' ∧ Ints w' (.slice B r d) t' ∧ Ext w w' := by
  subst hn ho e1 e2 e3 e4
  exact move_any A B c d f t m w h h' hf ht hm
/-- two lists are compared: they are the same, or not -/
theorem same_to (u v : Value) (xs ys : List Int) (b : Bool) (w : World) (h : Ints w u xs) (h' : Ints w v ys) (e : sameB xs ys = b) :
    Calls Try.prog 25 #[u, v] w fun e w' => e = .returned (.bool b) ∧ Ext w w' := by
  subst e
  refine (ints_any u v xs ys w h h').mono fun e w' hh => ?_
  obtain ⟨he, n, rfl⟩ := hh
  exact ⟨he, (Ext.refl w).drewN n⟩
theorem sameB_refl (xs : List Int) : sameB xs xs = true := by unfold sameB; simp

/-- a literal of integers, in a block of its own -/
theorem Ints.lit (w : World) (xs : List Int) (n : Nat) (hn : xs.length = n) (hm : xs.length ≤ maxLen) (hb : ∀ x ∈ xs, -9223372036854775808 ≤ x ∧ x ≤ 9223372036854775807) :
    Ints (w.alloc (.cells (xs.map (Value.int .i64)).toArray 3)) (.slice (some ⟨w.heap.size, 0, none⟩) n n) xs := by
  subst hn
  exact (Own.lit w xs (Nat.le_refl _) hm hb).ints
theorem Ints.lit2 (w : World) (x y : Int) (hx : -9223372036854775808 ≤ x ∧ x ≤ 9223372036854775807) (hy : -9223372036854775808 ≤ y ∧ y ≤ 9223372036854775807) :
    Ints (w.alloc (.cells #[.int .i64 x, .int .i64 y] 3)) (.slice (some ⟨w.heap.size, 0, none⟩) 2 2) [x, y] :=
  Ints.lit w [x, y] 2 rfl (by simp [maxLen]) (by intro z hz; simp at hz; omega)
theorem Ints.lit3 (w : World) (x y z : Int) (hx : -9223372036854775808 ≤ x ∧ x ≤ 9223372036854775807) (hy : -9223372036854775808 ≤ y ∧ y ≤ 9223372036854775807) (hz : -9223372036854775808 ≤ z ∧ z ≤ 9223372036854775807) :
    Ints (w.alloc (.cells #[.int .i64 x, .int .i64 y, .int .i64 z] 3)) (.slice (some ⟨w.heap.size, 0, none⟩) 3 3) [x, y, z] :=
  Ints.lit w [x, y, z] 3 rfl (by simp [maxLen]) (by intro a ha; simp at ha; omega)
end Go.Proofs.Ytfhkmaikilgolaa
