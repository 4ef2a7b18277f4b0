/- The program's small words of work: sized, half, great, fits; clones of tasks, of units. -/
import Derived.Test.YtfigfndabokepaaTRight
import Derived.Outline
import Derived.LoopTactic
import Derived.WalkSpells
import Derived.BigQuiet
import Derived.Deep.QuietTactic
import Derived.Lib.SliceRun
import Derived.Deep.RegionHeld3
namespace Go.Proofs.Ytfigfndabokepaa
open Go.RowKit Go.Proofs.Ytfigfndabokepaa.Plain

theorem sized_any (n g : Int) (w : World) (hn : in64 n) (hg : in64 g) :
    Calls Try.prog 28 #[.int .i64 n, .int .i64 g] w fun e w' => e = .returned (.bool (cOk n g)) ∧ w = w' := by
  unfold in64 at hn hg
  unfold cOk
  go_enter Try.func28, Try.ntmps28
  go_wp2
  all_goals go_ret
  all_goals exact ⟨ret_bool (by simp; try omega), rfl⟩

theorem half_any (n : Int) (w : World) (hn : in64 n) (h0 : 0 ≤ n) :
    Calls Try.prog 25 #[.int .i64 n] w fun e w' => e = .returned (.int .i64 (n / 2)) ∧ w = w' := by
  unfold in64 at hn
  obtain ⟨m, rfl⟩ : ∃ m : Nat, n = m := ⟨n.toNat, by omega⟩
  go_enter Try.func25, Try.ntmps25
  go_wp2
  go_ret
  exact ⟨rfl, rfl⟩

theorem great_any (lo hi up wt g : Int) (w : World) (hd : in64 (hi - lo)) (hg : in64 g) :
    Calls Try.prog 24 #[.agg #[.int .i64 lo, .int .i64 hi, .int .i64 up, .int .i64 wt], .int .i64 g] w fun e w' => e = .returned (.bool (decide (g < hi - lo))) ∧ Ext w w' := by
  unfold in64 at hd hg
  obtain ⟨d1, d2⟩ := hd
  obtain ⟨g1, g2⟩ := hg
  go_enter Try.func24, Try.ntmps24
  go_wp2
  go_ret
  exact ⟨ret_bool (by first | rfl | (simp; done) | (simp; omega)), (Ext.refl w).alloc _⟩

set_option maxHeartbeats 400000 in
theorem fits_any (lo hi up wt : Int) (i n : Nat) (w : World) (h1 : in64 lo) (_h2 : in64 hi) (h3 : in64 up) (h4 : in64 wt) (_hi : i ≤ 9223372036854775807) (_hn : n ≤ 9223372036854775807) :
    Calls Try.prog 30 #[.agg #[.int .i64 lo, .int .i64 hi, .int .i64 up, .int .i64 wt], .int .i64 i, .int .i64 n] w fun e w' => e = .returned (.bool (tkOk n i ⟨lo, hi, up, wt⟩)) ∧ Ext w w' := by
  unfold in64 at h1 _h2 h3 h4
  unfold tkOk
  go_enter Try.func30, Try.ntmps30
  go_wp2
  all_goals go_ret
  all_goals exact ⟨ret_bool (by simp; try omega), (Ext.refl w).alloc _⟩

set_option maxHeartbeats 400000 in
theorem clone_t (v : Value) (xs : List Tk) (w : World) (h : Rd kTask w v xs) (hl : xs.length ≤ 1048576) :
    Calls Try.prog 31 #[v] w fun e w' => ∃ A c, e = .returned (.slice A xs.length c) ∧ Ow kTask w.heap.size w' (.slice A xs.length c) xs ∧ Ext w w' := by
  have HI := Lib.hid h
  obtain ⟨A, cap, rfl, hcap⟩ := h.slice
  have hlen := h.len
  have hnil := fun (w : World) (a : Option Addr) (n c : Nat) => Lib.run_eql_slice_nil w 22 46 a n c 0 0 Try.underlying22
  cases A with
  | none =>
    have h0 : xs = [] := by
      cases xs with
      | nil => rfl
      | cons a l => obtain ⟨b, off, h', _⟩ := h.cells (by simp); cases h'
    clear h
    subst h0
    go_enter Try.func31, Try.ntmps31
    go_wp2
    go_ret
    exact ⟨_, _, rfl, Ow.nil _ _, Ext.refl _⟩
  | some ad =>
    clear h
    go_enter Try.func31, Try.ntmps31
    go_wp2_with (at_builtin; refine kTask.wpList_app (by rfl) _ _ rfl rfl w.heap.size _ [] rfl (Ow.emptyAt w rfl (Nat.le_refl _)) _ xs rfl (HI.out.ext ((Ext.refl w).alloc _)) (by simpa using hl) (by simp) ?_; intro u w1 hown hgrow hat)
    go_ret
    obtain ⟨A1, c1, rfl, _⟩ := hown.slice
    refine ⟨A1, c1, rfl, hown, ((Ext.refl w).alloc _).grown hgrow (fun k hk => ?_)⟩
    cases hk; exact Nat.le_refl _

set_option maxHeartbeats 400000 in
theorem clone_b (v : Value) (xs : List Bool) (w : World) (h : Rd kBool w v xs) (hl : xs.length ≤ 1048576) :
    Calls Try.prog 32 #[v] w fun e w' => ∃ A c, e = .returned (.slice A xs.length c) ∧ Ow kBool w.heap.size w' (.slice A xs.length c) xs ∧ Ext w w' := by
  have HI := Lib.hid h
  obtain ⟨A, cap, rfl, hcap⟩ := h.slice
  have hlen := h.len
  have hnil := fun (w : World) (a : Option Addr) (n c : Nat) => Lib.run_eql_slice_nil w 23 4 a n c 0 0 Try.underlying23
  cases A with
  | none =>
    have h0 : xs = [] := by
      cases xs with
      | nil => rfl
      | cons a l => obtain ⟨b, off, h', _⟩ := h.cells (by simp); cases h'
    clear h
    subst h0
    go_enter Try.func32, Try.ntmps32
    go_wp2
    go_ret
    exact ⟨_, _, rfl, Ow.nil _ _, Ext.refl _⟩
  | some ad =>
    clear h
    go_enter Try.func32, Try.ntmps32
    go_wp2_with (at_builtin; refine kBool.wpList_app (by rfl) _ _ rfl rfl w.heap.size _ [] rfl (Ow.emptyAt w rfl (Nat.le_refl _)) _ xs rfl (HI.out.ext ((Ext.refl w).alloc _)) (by simpa using hl) (by simp) ?_; intro u w1 hown hgrow hat)
    go_ret
    obtain ⟨A1, c1, rfl, _⟩ := hown.slice
    refine ⟨A1, c1, rfl, hown, ((Ext.refl w).alloc _).grown hgrow (fun k hk => ?_)⟩
    cases hk; exact Nat.le_refl _

end Go.Proofs.Ytfigfndabokepaa
