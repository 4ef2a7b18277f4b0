/- What comes in: a list of links. -/
import Derived.Test.YtllpfegnpakadaaJ6
import Derived.Test.YtllpfegnpakadaaZT14O
set_option linter.unusedVariables false
set_option linter.unusedSimpArgs false
set_option linter.unnecessarySimpa false
namespace Go.Proofs.Ytllpfegnpakadaa
open Go.RowKit Go.ChangeShapes Go.WideShapes Go.Joins Go.Deep Go.Proofs.Ytllpfegnpakadaa.Plain

section
variable {H : Type} {enc : TypeId × Value → H} {w : World}
theorem list_three {α : Type} (l : List α) (h : l.length = 3) : ∃ a b c, l = [a, b, c] := by
  match l, h with
  | [a, b, c], _ => exact ⟨a, b, c, rfl⟩
set_option maxRecDepth 100000 in
theorem kLink_reads : kLink.Reads := by
  intro H enc w base spare held n cs y h
  obtain ⟨y0, y1, y2, m, _, hl, h0, h1, h2⟩ := trod_struct3 Try.underlying51 h
  have hC : Try.prog.cellsOf 51 = 3 := by kernel_rfl
  have hl' : cs.length = 3 := hl.trans hC
  obtain ⟨c0, c1, c2, rfl⟩ := list_three cs hl'
  have hC1 : Try.prog.cellsOf 3 = 1 := by kernel_rfl
  simp only [hC1] at h0 h1 h2
  obtain ⟨a, ha, _, wa⟩ := DataW.trod_int Try.underlying3 h0
  obtain ⟨b, hb, _, wb⟩ := DataW.trod_int Try.underlying3 h1
  obtain ⟨c, hc, _, wc⟩ := DataW.trod_int Try.underlying3 h2
  simp at ha hb hc
  subst ha hb hc
  exact ⟨(a, b, c), rfl, wf64 wa, wf64 wb, wf64 wc⟩
set_option maxRecDepth 100000 in
theorem open_links {r : Reach} {b0 : Nat} {v : Value} {d : DataW H} {ps : List MemPlace} (hval : Value.okWide Try.prog w r b0 36 v) (h : DataW.Trod enc Try.prog w 0 (fun _ => true) true 36 v d ps) :
    ∃ (xs : List Lk) (A : Option Addr) (c : Nat), v = .slice A xs.length c ∧ Rd kLink w (.slice A xs.length c) xs := by
  obtain ⟨a0, len, cap, rfl⟩ := okWide_slice Try.underlying36 hval
  obtain ⟨n, hn⟩ := field_of_Trod h rfl
  exact Rd.of_trod kLink_reads (by kernel_rfl) hn
end
end Go.Proofs.Ytllpfegnpakadaa
