/- The document's Begin of work. -/
import Derived.Test.YtfigfndabokepaaTRight
import Derived.Outline
namespace Go.Proofs.Ytfigfndabokepaa
open Go.RowKit Go.Proofs.Ytfigfndabokepaa.Plain

/-- what Begin leaves -/
def BeginSaid (w : World) (n g : Int) (e : Ending) (w' : World) : Prop :=
  (cOk n g = false ∧ e = .returned (.tuple #[.agg #[.slice none 0 0, .int .i64 0, .slice none 0 0], .int .i64 1]) ∧ Ext w w') ∨
  (cOk n g = true ∧ ∃ A c B d, e = .returned (.tuple #[.agg #[.slice A 1 c, .int .i64 g, .slice B n.toNat d], .int .i64 0]) ∧
    Rd kTask w' (.slice A 1 c) [⟨0, n, -1, 0⟩] ∧ Rd kBool w' (.slice B n.toNat d) (List.replicate n.toNat false) ∧ Ext w w')

set_option maxHeartbeats 800000 in
set_option maxRecDepth 100000 in
theorem rbegin_any (n g : Int) (w : World) (hn : in64 n) (hg : in64 g) :
    Calls Try.prog 13 #[.int .i64 n, .int .i64 g] w (BeginSaid w n g) := by
  unfold in64 at hn hg
  cases hc : cOk n g with
  | false =>
    have HC := Lib.hid hc
    have h : n < 1 ∨ 1000 < n ∨ g < 1 ∨ 100 < g := by
      have : ¬ (1 ≤ n ∧ n ≤ 1000 ∧ 1 ≤ g ∧ g ≤ 100) := fun hh => by
        have : cOk n g = true := by unfold cOk; simp; omega
        rw [this] at hc; cases hc
      omega
    clear hc
    go_enter Try.func13, Try.ntmps13
    go_wp2
    all_goals first
      | (exfalso; omega)
      | (refine bodyPost_ret (v := .tuple #[.agg #[.slice none 0 0, .int .i64 0, .slice none 0 0], .int .i64 1]) (by simp [results, Try.results13, go_sem]) rfl (.inl ⟨HC.out, rfl, ?_⟩); exact (Ext.refl w).alloc _)
  | true =>
    have HC := Lib.hid hc
    obtain ⟨a1, a2, a3, a4⟩ : 1 ≤ n ∧ n ≤ 1000 ∧ 1 ≤ g ∧ g ≤ 100 := by unfold cOk at hc; simp only [Bool.and_eq_true, decide_eq_true_eq] at hc; omega
    obtain ⟨N, rfl⟩ : ∃ N : Nat, n = N := ⟨n.toNat, by omega⟩
    clear hc
    obtain ⟨C, hmk, hown⟩ := kBool.make false rfl trivial N (by omega)
    have hmk' : ∀ w : World, (Instr.makeSlice 23 (.int .i64 N) (.int .i64 N)).run Try.prog w = .ok (.slice (some ⟨w.heap.size, 0, none⟩) N N) (w.alloc (.cells C 4)) := hmk
    have HO := Lib.hid hown
    clear hmk hown
    go_enter Try.func13, Try.ntmps13
    go_wp2
    refine bodyPost_ret (v := .tuple #[.agg #[.slice (some ⟨w.heap.size + 1, 0, none⟩) 1 1, .int .i64 g, .slice (some ⟨w.heap.size + 1 + 1, 0, none⟩) N N], .int .i64 0]) (by simp [results, Try.results13, go_sem]) rfl (.inr ⟨HC.out, _, 1, _, N, rfl, ?_, ?_, ?_⟩)
    · exact (Ow.lit (K := kTask) (B := 0) (p := w.heap.size + 1) _ [⟨0, N, -1, 0⟩] #[.int .i64 0, .int .i64 N, .int .i64 (-1), .int .i64 0] rfl rfl (by simp) (Nat.zero_le _) (by simp [maxLen]) (by intro x hx; simp only [List.mem_singleton] at hx; subst hx; exact tk_ok (by unfold in64; omega) (by unfold in64; omega) (by unfold in64; omega) (by unfold in64; omega))).rd.ext ((Ext.refl _).alloc _)
    · exact (HO.out _ 0 (w.heap.size + 1 + 1) (by simp) (Nat.zero_le _)).rd
    · exact (((Ext.refl w).alloc _).alloc _).alloc _
end Go.Proofs.Ytfigfndabokepaa
