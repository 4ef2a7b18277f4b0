/- What comes in: three numbers; a list of numbers as 'reads'. -/
import Derived.Test.YtggjjjfdkgfoiaaJ6
import Derived.Test.YtggjjjfdkgfoiaaZF7O
set_option linter.unusedVariables false
set_option linter.unusedSimpArgs false
set_option linter.unnecessarySimpa false
namespace Go.Proofs.Ytggjjjfdkgfoiaa
open Go.RowKit Go.ChangeShapes Go.WideShapes Go.Joins Go.Deep Go.Proofs.Ytggjjjfdkgfoiaa.Plain

section
variable {H : Type} {enc : TypeId × Value → H} {w : World}
theorem kInt_reads : kInt.Reads := by
  intro H enc w base spare held n cs y h
  obtain ⟨a, ha, _, wa⟩ := DataW.trod_int Try.underlying3 h
  exact ⟨a, ha, wf64 wa⟩
set_option maxRecDepth 100000 in
theorem open_listR {r : Reach} {b0 : Nat} {v : Value} {d : DataW H} {ps : List MemPlace} (hval : Value.okWide Try.prog w r b0 23 v) (h : DataW.Trod enc Try.prog w 0 (fun _ => true) true 23 v d ps) :
    ∃ (xs : List Int) (A : Option Addr) (c : Nat), v = .slice A xs.length c ∧ Rd kInt w (.slice A xs.length c) xs := by
  obtain ⟨a0, len, cap, rfl⟩ := okWide_slice Try.underlying23 hval
  obtain ⟨n, hn⟩ := field_of_Trod h rfl
  exact Rd.of_trod kInt_reads (by kernel_rfl) hn
set_option maxRecDepth 100000 in
theorem open_three {r : Reach} {b0 : Nat} {v : Value} {d : DataW H} {ps : List MemPlace} (hval : Value.okWide Try.prog w r b0 24 v) (hd : DataW.Trod enc Try.prog w 0 (fun _ => true) true 24 v d ps) :
    ∃ a b c : Int, v = .agg #[.int .i64 a, .int .i64 b, .int .i64 c] ∧ in64 a ∧ in64 b ∧ in64 c := by
  have ht := Try.underlying24
  obtain ⟨cs, rfl, hsz⟩ : ∃ cs, v = .agg cs ∧ cs.size = Try.prog.cellsOf 24 := by
    simp only [Value.okWide, ht] at hval
    obtain ⟨cs, h1, h2, _⟩ := hval
    exact ⟨cs, h1, h2⟩
  obtain ⟨c0, c1, c2, rfl⟩ := array3 (hsz.trans (by kernel_rfl : Try.prog.cellsOf 24 = 3))
  obtain ⟨fuel, hf⟩ := hd
  obtain ⟨xs, m, _, hx, _, hl, hel⟩ := DataW.trod_array ht hf
  have hC : Try.prog.cellsOf 3 = 1 := by kernel_rfl
  have e0 := hel 0 (by omega)
  have e1 := hel 1 (by omega)
  have e2 := hel 2 (by omega)
  rw [hC] at e0 e1 e2
  obtain ⟨y0, hy0⟩ : ∃ y, xs[0]? = some y := ⟨xs[0], by simp⟩
  obtain ⟨y1, hy1⟩ : ∃ y, xs[1]? = some y := ⟨xs[1], by simp⟩
  obtain ⟨y2, hy2⟩ : ∃ y, xs[2]? = some y := ⟨xs[2], by simp⟩
  rw [hy0] at e0
  rw [hy1] at e1
  rw [hy2] at e2
  obtain ⟨a, ha, _, wa⟩ := DataW.trod_int Try.underlying3 e0
  obtain ⟨b, hb, _, wb⟩ := DataW.trod_int Try.underlying3 e1
  obtain ⟨c, hc, _, wc⟩ := DataW.trod_int Try.underlying3 e2
  simp [Value.cells] at ha hb hc
  subst ha hb hc
  exact ⟨a, b, c, rfl, wf64 wa, wf64 wb, wf64 wc⟩
end
end Go.Proofs.Ytggjjjfdkgfoiaa
