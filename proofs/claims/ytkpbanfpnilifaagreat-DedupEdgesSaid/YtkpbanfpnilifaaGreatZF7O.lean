/- What comes in: numbers of 32 bits, a plan, an op with a plan, two numbers. -/
import Derived.Test.YtkpbanfpnilifaaGreatJ6
import Derived.Test.YtkpbanfpnilifaaGreatZCrOpen
import Derived.Test.YtkpbanfpnilifaaGreatZNOpen
set_option linter.unusedVariables false
set_option linter.unusedSimpArgs false
set_option linter.unnecessarySimpa false
namespace Go.Proofs.YtkpbanfpnilifaaGreat
open Go.RowKit Go.ChangeShapes Go.WideShapes Go.Joins Go.Deep Go.Proofs.YtkpbanfpnilifaaGreat.Plain

section
variable {H : Type} {enc : TypeId × Value → H} {w : World}
set_option maxRecDepth 100000 in
theorem open_planC {n : Nat} {c0 c1 c2 : Value} {y : DataW H × List MemPlace} (h : DataW.trod enc Tryz.prog w 0 (fun _ => true) true n 25 [c0, c1, c2] = some y) :
    ∃ (g m : Int) (ps : List (Int × Int)) (A : Option Addr) (c : Nat), c0 = .int .i64 g ∧ c1 = .int .i64 m ∧ c2 = .slice A ps.length c ∧ in64 g ∧ in64 m ∧ Rd kPk w (.slice A ps.length c) ps := by
  obtain ⟨y0, y1, y2, n', _, _, h0, h1, h2⟩ := trod_struct3 Tryz.underlying25 h
  have hC1 : Tryz.prog.cellsOf 3 = 1 := by kernel_rfl
  have hC2 : Tryz.prog.cellsOf 23 = 1 := by kernel_rfl
  simp only [hC1, hC2] at h0 h1 h2
  obtain ⟨a, ha, _, wa⟩ := DataW.trod_int Tryz.underlying3 h0
  obtain ⟨b, hb, _, wb⟩ := DataW.trod_int Tryz.underlying3 h1
  simp at ha hb
  obtain ⟨ps, A, c, hv, hp⟩ := Rd.of_trod kPk_reads (by kernel_rfl) h2
  exact ⟨a, b, ps, A, c, ha, hb, hv, wf64 wa, wf64 wb, hp⟩
set_option maxRecDepth 100000 in
theorem open_plan {r : Reach} {b0 : Nat} {v : Value} {d : DataW H} {p : List MemPlace} (hval : Value.okWide Tryz.prog w r b0 25 v) (h : DataW.Trod enc Tryz.prog w 0 (fun _ => true) true 25 v d p) :
    ∃ (g m : Int) (ps : List (Int × Int)) (A : Option Addr) (c : Nat), v = planV g m A ps.length c ∧ in64 g ∧ in64 m ∧ Rd kPk w (.slice A ps.length c) ps := by
  obtain ⟨cs, rfl, hsz⟩ := okWide_struct Tryz.underlying25 hval
  obtain ⟨c0, c1, c2, rfl⟩ := array3 (hsz.trans (by kernel_rfl : Tryz.prog.cellsOf 25 = 3))
  obtain ⟨fuel, hf⟩ := h
  obtain ⟨g, m, ps, A, c, rfl, rfl, rfl, h1, h2, h3⟩ := open_planC hf
  exact ⟨g, m, ps, A, c, rfl, h1, h2, h3⟩
end
end Go.Proofs.YtkpbanfpnilifaaGreat
