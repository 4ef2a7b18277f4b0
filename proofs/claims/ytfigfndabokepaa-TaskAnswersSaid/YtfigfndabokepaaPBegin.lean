/- The program's Begin of work. -/
import Derived.Test.YtfigfndabokepaaPDo
import Derived.Test.YtfigfndabokepaaTBegin
namespace Go.Proofs.Ytfigfndabokepaa
open Go.BigFrame
open Go.RowKit Go.Proofs.Ytfigfndabokepaa.Plain

set_option maxHeartbeats 1600000 in
set_option maxRecDepth 100000 in
theorem pbegin_any (n g : Int) (w : World) (hn : in64 n) (hg : in64 g) :
    Calls Try.prog 12 #[.int .i64 n, .int .i64 g] w (BeginSaid w n g) := by
  have HN := Lib.hid hn
  have HG := Lib.hid hg
  cases hc : cOk n g with
  | false =>
    have HC := Lib.hid hc
    clear hc hn hg
    go_enter Try.func12, Try.ntmps12
    go_wp2_with fail
    refine (sized_any _ _ _ HN.out HG.out).mono ?_
    rintro e w1 ⟨he, rfl⟩
    rw [HC.out] at he
    subst he
    go_wp2_with fail
    refine bodyPost_ret (v := .tuple #[.agg #[.slice none 0 0, .int .i64 0, .slice none 0 0], .int .i64 1]) (by simp [results, Try.results12, go_sem]) rfl (.inl ⟨HC.out, rfl, ?_⟩)
    first
    | exact (Ext.refl w).alloc _
    | exact ((((Ext.refl w).alloc _).setCell (by simp) _).setCell (by simp) _).setCell (by simp) _
  | true =>
    have HC := Lib.hid hc
    obtain ⟨a1, a2, a3, a4⟩ : 1 ≤ n ∧ n ≤ 1000 ∧ 1 ≤ g ∧ g ≤ 100 := by unfold cOk at hc; simp only [Bool.and_eq_true, decide_eq_true_eq] at hc; omega
    obtain ⟨N, rfl⟩ : ∃ N : Nat, n = N := ⟨n.toNat, by omega⟩
    clear hc hn hg
    obtain ⟨C, hmk, hown⟩ := kBool.make false rfl trivial N (by omega)
    have hmk' : ∀ w : World, (Instr.makeSlice 23 (.int .i64 N) (.int .i64 N)).run Try.prog w = .ok (.slice (some ⟨w.heap.size, 0, none⟩) N N) (w.alloc (.cells C 4)) := hmk
    have HO := Lib.hid hown
    clear hmk hown
    go_enter Try.func12, Try.ntmps12
    go_wp2_with fail
    refine (sized_any _ _ _ HN.out HG.out).mono ?_
    rintro e w1 ⟨he, rfl⟩
    rw [HC.out] at he
    subst he
    go_wp2_with fail
    go_region
    all_goals (try go_wp2)
    · refine bodyPost_ret (v := .tuple #[.agg #[.slice (some ⟨w.heap.size + 1 + 1, 0, none⟩) 1 1, .int .i64 g, .slice (some ⟨w.heap.size + 1 + 1 + 1, 0, none⟩) N N], .int .i64 0]) (by simp [results, Try.results12, go_sem]) rfl (.inr ⟨HC.out, _, 1, _, N, rfl, ?_, ?_, ?_⟩)
      · exact (Ow.lit (K := kTask) (B := 0) (p := w.heap.size + 1 + 1) _ [⟨0, N, -1, 0⟩] #[.int .i64 0, .int .i64 N, .int .i64 (-1), .int .i64 0] rfl rfl (by simp) (Nat.zero_le _) (by simp [maxLen]) (by intro x hx; simp only [List.mem_singleton] at hx; subst hx; exact tk_ok (by unfold in64; omega) (by unfold in64; omega) (by unfold in64; omega) (by unfold in64; omega))).rd.ext ((Ext.refl _).alloc _).drew
      · exact (HO.out _ 0 (w.heap.size + 1 + 1 + 1) (by simp) (Nat.zero_le _)).rd.ext (Ext.refl _).drew
      · exact (((((Ext.refl w).alloc _).alloc _).alloc _).alloc _).drew
    · refine bodyPost_ret (v := .tuple #[.agg #[.slice (some ⟨w.heap.size + 1 + 1 + 1, 0, none⟩) 1 1, .int .i64 g, .slice (some ⟨w.heap.size + 1 + 1, 0, none⟩) N N], .int .i64 0]) (by simp [results, Try.results12, go_sem]) rfl (.inr ⟨HC.out, _, 1, _, N, rfl, ?_, ?_, ?_⟩)
      · exact (Ow.lit (K := kTask) (B := 0) (p := w.heap.size + 1 + 1 + 1) _ [⟨0, N, -1, 0⟩] #[.int .i64 0, .int .i64 N, .int .i64 (-1), .int .i64 0] rfl rfl (by simp) (Nat.zero_le _) (by simp [maxLen]) (by intro x hx; simp only [List.mem_singleton] at hx; subst hx; exact tk_ok (by unfold in64; omega) (by unfold in64; omega) (by unfold in64; omega) (by unfold in64; omega))).rd.ext (Ext.refl _).drew
      · exact (HO.out _ 0 (w.heap.size + 1 + 1) (by simp) (Nat.zero_le _)).rd.ext ((Ext.refl _).alloc _).drew
      · exact (((((Ext.refl w).alloc _).alloc _).alloc _).alloc _).drew
end Go.Proofs.Ytfigfndabokepaa
