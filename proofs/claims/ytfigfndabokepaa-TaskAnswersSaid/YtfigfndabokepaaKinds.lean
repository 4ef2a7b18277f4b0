/- The kinds of elements of this program, and their cells as the walk spells them. -/
import Derived.Test.YtfigfndabokepaaRow
import Derived.Test.YtfigfndabokepaaData
namespace Go.Proofs.Ytfigfndabokepaa
open Go.RowKit

def in64 (x : Int) : Prop := -9223372036854775808 ≤ x ∧ x ≤ 9223372036854775807
/-- integers -/
def kInt : Kd Int where
  t := 44
  e := 3
  n := 1
  cells := fun x => [.int .i64 x]
  ok := in64
  d := 0
  z := .int .i64 0
  bytes := 8
  ht := Try.underlying44
  info := intInfo
  hzs := rfl
  pos := by decide
  small := by decide
  len := fun _ => rfl
  one := fun a u hu => by simp at hu; subst hu; rfl
theorem rd_of_ints {w : World} {v : Value} {xs : List Int} (h : Ints w v xs) : Rd kInt w v xs := by
  obtain ⟨h1, h2, A, cap, rfl, hc, h3⟩ := h
  refine ⟨h1, h2, A, cap, rfl, hc, fun hl => ?_⟩
  obtain ⟨b, off, rfl, hcc⟩ := h3 hl
  refine ⟨b, off, rfl, fun j hj i u hu => ?_⟩
  have hi : i = 0 := by
    have : i < [Value.int IntKind.i64 (xs.getD j 0)].length := by
      rcases Nat.lt_or_ge i [Value.int IntKind.i64 (xs.getD j 0)].length with h | h
      · exact h
      · rw [show kInt.cells (xs.getD j kInt.d) = [Value.int IntKind.i64 (xs.getD j 0)] from rfl, List.getElem?_eq_none h] at hu; cases hu
    simpa using this
  subst hi
  have hu' : some (Value.int IntKind.i64 (xs.getD j 0)) = some u := hu
  cases hu'
  simpa [kInt] using hcc j hj
/-- bools -/
def kBool : Kd Bool where
  t := 23
  e := 4
  n := 1
  cells := fun x => [.bool x]
  ok := fun _ => True
  d := false
  z := .bool false
  bytes := 1
  ht := Try.underlying23
  info := by kernel_rfl
  hzs := rfl
  pos := by decide
  small := by decide
  len := fun _ => rfl
  one := fun a u hu => by simp at hu; subst hu; rfl
theorem Rd.bools {w : World} {A : Option Addr} {n c : Nat} {xs : List Bool} (h : Rd kBool w (.slice A n c) xs) (hl : 0 < xs.length) : ∃ b off, A = some ⟨b, off, none⟩ ∧ ∀ j, j < xs.length → w.cell? ⟨b, off + j, none⟩ = some (.bool (xs.getD j false)) := by
  obtain ⟨b, off, rfl, hcc⟩ := h.cells hl
  exact ⟨b, off, rfl, fun j hj => by have := hcc j hj 0 _ rfl; simpa [kBool] using this⟩
/-- numbers of 16 bits -/
def kU16 : Kd Int where
  t := 43
  e := 42
  n := 1
  cells := fun x => [.int .u16 x]
  ok := fun x => 0 ≤ x ∧ x ≤ 65535
  d := 0
  z := .int .u16 0
  bytes := 2
  ht := Try.underlying43
  info := by kernel_rfl
  hzs := rfl
  pos := by decide
  small := by decide
  len := fun _ => rfl
  one := fun a u hu => by simp at hu; subst hu; rfl
theorem Rd.u16s {w : World} {A : Option Addr} {n c : Nat} {xs : List Int} (h : Rd kU16 w (.slice A n c) xs) (hl : 0 < xs.length) : ∃ b off, A = some ⟨b, off, none⟩ ∧ ∀ j, j < xs.length → w.cell? ⟨b, off + j, none⟩ = some (.int .u16 (xs.getD j 0)) := by
  obtain ⟨b, off, rfl, hcc⟩ := h.cells hl
  exact ⟨b, off, rfl, fun j hj => by have := hcc j hj 0 _ rfl; simpa [kU16] using this⟩
def kTask : Kd Tk where
  t := 22
  e := 46
  n := 4
  cells := fun x => [.int .i64 x.lo, .int .i64 x.hi, .int .i64 x.up, .int .i64 x.wt]
  ok := fun x => in64 x.lo ∧ in64 x.hi ∧ in64 x.up ∧ in64 x.wt
  d := ⟨0, 0, 0, 0⟩
  z := .agg #[.int .i64 0, .int .i64 0, .int .i64 0, .int .i64 0]
  bytes := 32
  ht := Try.underlying22
  info := by kernel_rfl
  hzs := rfl
  pos := by decide
  small := by decide
  len := fun _ => rfl
  one := fun a u hu => by simp at hu; rcases hu with rfl | rfl | rfl | rfl <;> rfl
theorem tk_ok {a b c d : Int} (h1 : in64 a) (h2 : in64 b) (h3 : in64 c) (h4 : in64 d) : kTask.ok ⟨a, b, c, d⟩ := ⟨h1, h2, h3, h4⟩
theorem Rd.tasks {w : World} {A : Option Addr} {n c : Nat} {xs : List Tk} (h : Rd kTask w (.slice A n c) xs) (hl : 0 < xs.length) : ∃ b off, A = some ⟨b, off, none⟩ ∧ ∀ j, j < xs.length → w.cell? ⟨b, off + j * 4, none⟩ = some (.int .i64 (xs.getD j ⟨0, 0, 0, 0⟩).lo) ∧ w.cell? ⟨b, off + j * 4 + 1, none⟩ = some (.int .i64 (xs.getD j ⟨0, 0, 0, 0⟩).hi) ∧ w.cell? ⟨b, off + j * 4 + 2, none⟩ = some (.int .i64 (xs.getD j ⟨0, 0, 0, 0⟩).up) ∧ w.cell? ⟨b, off + j * 4 + 3, none⟩ = some (.int .i64 (xs.getD j ⟨0, 0, 0, 0⟩).wt) := by
  obtain ⟨b, off, rfl, hcc⟩ := h.cells hl
  exact ⟨b, off, rfl, fun j hj => ⟨by have := hcc j hj 0 _ rfl; simpa [kTask] using this, by have := hcc j hj 1 _ rfl; simpa [kTask] using this, by have := hcc j hj 2 _ rfl; simpa [kTask] using this, by have := hcc j hj 3 _ rfl; simpa [kTask] using this⟩⟩
end Go.Proofs.Ytfigfndabokepaa
