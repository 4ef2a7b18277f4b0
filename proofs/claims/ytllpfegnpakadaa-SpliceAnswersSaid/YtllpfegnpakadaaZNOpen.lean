/- What comes in, crew-free: lists of numbers, words, booleans; two and three numbers; a table. -/
import Derived.Test.YtllpfegnpakadaaJ6
import Derived.Test.YtllpfegnpakadaaZOpenW
set_option linter.unusedVariables false
set_option linter.unusedSimpArgs false
set_option linter.unnecessarySimpa false
namespace Go.Proofs.Ytllpfegnpakadaa
open Go.RowKit Go.ChangeShapes Go.WideShapes Go.Joins Go.Deep Go.Proofs.Ytllpfegnpakadaa.Plain

section
variable {H : Type} {enc : TypeId × Value → H} {w : World}
theorem kInt_reads : kInt.Reads := by
  intro H enc w base spare held n cs y h
  obtain ⟨a, ha, _, wa⟩ := DataW.trod_int Try.underlying3 h
  exact ⟨a, ha, wf64 wa⟩
set_option maxRecDepth 100000 in
theorem open_listR {r : Reach} {b0 : Nat} {v : Value} {d : DataW H} {ps : List MemPlace} (hval : Value.okWide Try.prog w r b0 22 v) (h : DataW.Trod enc Try.prog w 0 (fun _ => true) true 22 v d ps) :
    ∃ (xs : List Int) (A : Option Addr) (c : Nat), v = .slice A xs.length c ∧ Rd kInt w (.slice A xs.length c) xs := by
  obtain ⟨a0, len, cap, rfl⟩ := okWide_slice Try.underlying22 hval
  obtain ⟨n, hn⟩ := field_of_Trod h rfl
  exact Rd.of_trod kInt_reads (by kernel_rfl) hn
set_option maxRecDepth 100000 in
theorem open_two {r : Reach} {b0 : Nat} {v : Value} {d : DataW H} {ps : List MemPlace} (hval : Value.okWide Try.prog w r b0 26 v) (hd : DataW.Trod enc Try.prog w 0 (fun _ => true) true 26 v d ps) :
    ∃ a b : Int, v = .agg #[.int .i64 a, .int .i64 b] ∧ in64 a ∧ in64 b := by
  obtain ⟨a, b, hv, _, _, wa, wb⟩ := Law.open_arr2 Try.underlying26 Try.underlying3 (by kernel_rfl) (by kernel_rfl) hval hd
  exact ⟨a, b, hv, wf64 wa, wf64 wb⟩
end
end Go.Proofs.Ytllpfegnpakadaa
