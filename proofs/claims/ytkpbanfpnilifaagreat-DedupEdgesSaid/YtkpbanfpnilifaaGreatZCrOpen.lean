/- What comes in: three bytes by value, picks. -/
import Derived.Test.YtkpbanfpnilifaaGreatJ6
import Derived.Test.YtkpbanfpnilifaaGreatZOpenW
set_option linter.unusedVariables false
set_option linter.unusedSimpArgs false
set_option linter.unnecessarySimpa false
namespace Go.Proofs.YtkpbanfpnilifaaGreat
open Go.RowKit Go.ChangeShapes Go.WideShapes Go.Joins Go.Deep

section
variable {H : Type} {enc : TypeId × Value → H} {w : World}
set_option maxRecDepth 100000 in
theorem kPk_reads : kPk.Reads := by
  intro H enc w base spare held n cs y h
  have hC : Tryz.prog.cellsOf 112 = 2 := by kernel_rfl
  have hc : Tryz.prog.cellsOf 3 = 1 := by kernel_rfl
  obtain ⟨xs, m, _, _, hl', hl, hel⟩ := DataW.trod_array Tryz.underlying112 h
  have hl2 : cs.length = 2 := hl'.trans hC
  obtain ⟨c0, c1, rfl⟩ := list_two cs hl2
  have e0 := hel 0 (by omega)
  have e1 := hel 1 (by omega)
  rw [hc] at e0 e1
  obtain ⟨y0, hy0⟩ : ∃ y, xs[0]? = some y := ⟨xs[0], by simp⟩
  obtain ⟨y1, hy1⟩ : ∃ y, xs[1]? = some y := ⟨xs[1], by simp⟩
  rw [hy0] at e0
  rw [hy1] at e1
  obtain ⟨a, ha, _, wa⟩ := DataW.trod_int Tryz.underlying3 e0
  obtain ⟨b, hb, _, wb⟩ := DataW.trod_int Tryz.underlying3 e1
  simp at ha hb
  subst ha hb
  exact ⟨(a, b), rfl, wf64 wa, wf64 wb⟩
set_option maxRecDepth 100000 in
theorem open_picks {r : Reach} {b0 : Nat} {v : Value} {d : DataW H} {ps : List MemPlace} (hval : Value.okWide Tryz.prog w r b0 23 v) (h : DataW.Trod enc Tryz.prog w 0 (fun _ => true) true 23 v d ps) :
    ∃ (xs : List (Int × Int)) (A : Option Addr) (c : Nat), v = .slice A xs.length c ∧ Rd kPk w (.slice A xs.length c) xs := by
  obtain ⟨a0, len, cap, rfl⟩ := okWide_slice Tryz.underlying23 hval
  obtain ⟨n, hn⟩ := field_of_Trod h rfl
  exact Rd.of_trod kPk_reads (by kernel_rfl) hn
end
end Go.Proofs.YtkpbanfpnilifaaGreat
