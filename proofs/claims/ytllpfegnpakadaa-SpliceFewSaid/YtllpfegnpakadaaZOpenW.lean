/- What comes in: lists of any kind of elements, and work, opened. -/
import Derived.Test.YtllpfegnpakadaaJ6
import Derived.Test.YtllpfegnpakadaaZLaw
import Derived.Lib.SmallJoins
import Derived.OpenShut
import Derived.Deep.Slices
set_option linter.unusedVariables false
set_option linter.unusedSimpArgs false
set_option linter.unnecessarySimpa false
namespace Go.Proofs.Ytllpfegnpakadaa
open Go.RowKit Go.ChangeShapes Go.WideShapes Go.Joins Go.Deep

theorem wf64 {n : Int} (h : (Lit.int .i64 n).wf = true) : in64 n := by unfold in64; simpa [Lit.wf, IntKind.min, IntKind.max, IntKind.signed, IntKind.bits] using h

theorem list_two {α : Type} : ∀ l : List α, l.length = 2 → ∃ a b, l = [a, b]
  | [a, b], _ => ⟨a, b, rfl⟩
theorem list_four {α : Type} : ∀ l : List α, l.length = 4 → ∃ a b c d, l = [a, b, c, d]
  | [a, b, c, d], _ => ⟨a, b, c, d, rfl⟩
section
variable {α : Type} [Inhabited α]
/-- what reads as an element is one -/
def Kd.Reads (K : Kd α) : Prop := ∀ (H : Type) (enc : TypeId × Value → H) (w : World) (base : Nat) (spare : Nat → Bool) (held : Bool) (n : Nat) (cs : List Value) (y : DataW H × List MemPlace),
  DataW.trod enc Try.prog w base spare held n K.e cs = some y → ∃ x, cs = K.cells x ∧ K.ok x

theorem Rd.of_trod {K : Kd α} (hK : K.Reads) (hc : Try.prog.cellsOf K.e = K.n) {H : Type} {enc : TypeId × Value → H} {w : World} {base : Nat} {spare : Nat → Bool} {held : Bool} {v : Value} {n : Nat} {y : DataW H × List MemPlace} (h : DataW.trod enc Try.prog w base spare held n K.t [v] = some y) :
    ∃ (xs : List α) (A : Option Addr) (c : Nat), v = .slice A xs.length c ∧ Rd K w (.slice A xs.length c) xs := by
  rcases open_slice K.ht h with ⟨hcs, _⟩ | ⟨a, len, cap, m, n', D, Pl, hcs, hb, hl, hm, hmm, _, hx⟩
  · simp only [List.cons.injEq, and_true] at hcs
    exact ⟨[], none, 0, hcs, Rd.nil _ _ _⟩
  · simp only [List.cons.injEq, and_true] at hcs
    have hml : len ≤ m := by rw [hmm]; split <;> omega
    obtain ⟨X, hX⟩ := choose_lt (α := α) (n := len) (p := fun i x => K.ok x ∧ ∀ j u, (K.cells x)[j]? = some u → w.cell? ((a.add (i * K.n)).add j) = some u) (fun i hi => by
      obtain ⟨cs', h1, h2⟩ := hx i (by omega)
      obtain ⟨x, rfl, hok⟩ := hK _ _ _ _ _ _ _ _ _ h2
      obtain ⟨_, _, h5⟩ := World.cells?_some h1
      rw [hc] at h5
      refine ⟨x, hok, fun j u hu => ?_⟩
      have hj : j < K.n := by rw [← K.len x]; exact (List.getElem?_eq_some_iff.1 hu).1
      rw [← hu]
      exact h5 j hj)
    have hlen : ((List.range len).map X).length = len := by simp
    have hg : ∀ j, j < len → ((List.range len).map X).getD j K.d = X j := fun j hj => by
      rw [List.getD_eq_getElem?_getD, List.getElem?_map, List.getElem?_range hj]; rfl
    refine ⟨(List.range len).map X, some a, cap, by rw [hlen]; exact hcs, by rw [hlen]; omega, fun x hx' => ?_, some a, cap, by rw [hlen], by rw [hlen]; exact hl, fun h0 => ?_⟩
    · obtain ⟨i, hi, rfl⟩ := List.mem_map.1 hx'
      exact (hX i (List.mem_range.1 hi)).1
    · rw [hlen] at h0
      have hz : 0 < (K.cells (X 0)).length := by rw [K.len]; exact K.pos
      have c0 := (hX 0 h0).2 0 _ (List.getElem?_eq_getElem hz)
      obtain ⟨b, off, spot⟩ := a
      have hspot : spot = none := by
        have := World.cell?_spot c0
        simpa [Addr.add] using this
      subst hspot
      refine ⟨b, off, rfl, fun j hj i u hu => ?_⟩
      rw [hlen] at hj
      rw [hg j hj] at hu
      have := (hX j hj).2 i u hu
      rw [add_atk, add_atk] at this
      exact this
end
instance : Inhabited Tk := ⟨⟨0, 0, 0, 0⟩⟩
section
variable {H : Type} {enc : TypeId × Value → H} {w : World}
end
end Go.Proofs.Ytllpfegnpakadaa
