/- What comes in: lists of booleans; a number with a plan (stage 9's Case). -/
import Derived.Test.YtbedfjbnafflfaaJ7
import Derived.Test.YtbedfjbnafflfaaZF7O
set_option linter.unusedVariables false
set_option linter.unusedSimpArgs false
set_option linter.unnecessarySimpa false
namespace Go.Proofs.Ytbedfjbnafflfaa
open Go.RowKit Go.ChangeShapes Go.WideShapes Go.Joins Go.Deep Go.Proofs.Ytbedfjbnafflfaa.Plain

section
variable {H : Type} {enc : TypeId × Value → H} {w : World}
set_option maxRecDepth 100000 in
theorem open_bools {r : Reach} {b0 : Nat} {v : Value} {d : DataW H} {ps : List MemPlace} (hval : Value.okWide Try.prog w r b0 23 v) (h : DataW.Trod enc Try.prog w 0 (fun _ => true) true 23 v d ps) :
    ∃ (xs : List Bool) (A : Option Addr) (c : Nat), v = .slice A xs.length c ∧ Rd kBool w (.slice A xs.length c) xs := by
  obtain ⟨a0, len, cap, rfl⟩ := okWide_slice Try.underlying23 hval
  obtain ⟨n, hn⟩ := field_of_Trod h rfl
  exact Rd.of_trod kBool_reads (by kernel_rfl) hn
set_option maxRecDepth 100000 in
theorem open_case9 {r : Reach} {b0 : Nat} {v : Value} {d : DataW H} {p : List MemPlace} (hval : Value.okWide Try.prog w r b0 28 v) (h : DataW.Trod enc Try.prog w 0 (fun _ => true) true 28 v d p) :
    ∃ (op g m : Int) (ps : List (Int × Int)) (A : Option Addr) (c : Nat), v = .agg #[.int .i64 op, .int .i64 g, .int .i64 m, .slice A ps.length c] ∧ in64 op ∧ in64 g ∧ in64 m ∧ Rd kPk w (.slice A ps.length c) ps := by
  obtain ⟨cs, rfl, hsz⟩ := okWide_struct Try.underlying28 hval
  obtain ⟨c0, c1, c2, c3, rfl⟩ := array4 (hsz.trans (by kernel_rfl : Try.prog.cellsOf 28 = 4))
  obtain ⟨fuel, hf⟩ := h
  obtain ⟨y0, y1, n, _, _, h0, h1⟩ := trod_struct2 Try.underlying28 hf
  have hC1 : Try.prog.cellsOf 3 = 1 := by kernel_rfl
  have hC2 : Try.prog.cellsOf 26 = 3 := by kernel_rfl
  simp only [hC1, hC2] at h0 h1
  obtain ⟨op, ho, _, wo⟩ := DataW.trod_int Try.underlying3 h0
  simp [Value.cells] at ho
  obtain ⟨g, m, ps, A, c, rfl, rfl, rfl, k1, k2, k3⟩ := open_planC h1
  subst ho
  exact ⟨op, g, m, ps, A, c, rfl, wf64 wo, k1, k2, k3⟩
end
end Go.Proofs.Ytbedfjbnafflfaa
