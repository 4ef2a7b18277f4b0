import Derived.Test.YtebbpkdhdilkcaaJ7
import Derived.Test.YtebbpkdhdilkcaaZOpenW
/- What comes in: three bytes by value, picks. -/
namespace Go.Proofs.Ytebbpkdhdilkcaa
open Go.RowKit Go.ChangeShapes Go.WideShapes Go.Joins Go.Deep

section
variable {H : Type} {enc : TypeId × Value → H} {w : World}
theorem open_three {r : Reach} {b0 : Nat} {v : Value} {d : DataW H} {ps : List MemPlace} (hval : Value.okWide Try.prog w r b0 22 v) (hd : DataW.Trod enc Try.prog w 0 (fun _ => true) true 22 v d ps) :
    ∃ a b c : Int, v = .agg #[.int .u8 a, .int .u8 b, .int .u8 c] ∧ (0 ≤ a ∧ a ≤ 255) ∧ (0 ≤ b ∧ b ≤ 255) ∧ (0 ≤ c ∧ c ≤ 255) := by
  have ht := Try.underlying22
  have he := Try.underlying5
  have hc : Try.prog.cellsOf 5 = 1 := by kernel_rfl
  have hC : Try.prog.cellsOf 22 = 3 := by kernel_rfl
  obtain ⟨cs, rfl, hsz⟩ : ∃ cs, v = .agg cs ∧ cs.size = Try.prog.cellsOf 22 := by
    simp only [Value.okWide, ht] at hval
    obtain ⟨cs, h1, h2, _⟩ := hval
    exact ⟨cs, h1, h2⟩
  have hsz3 : cs.toList.length = 3 := by rw [Array.length_toList]; exact hsz.trans hC
  obtain ⟨c0, c1, c2, hcs⟩ : ∃ c0 c1 c2, cs.toList = [c0, c1, c2] := by
    match cs.toList, hsz3 with
    | [a, b, c], _ => exact ⟨a, b, c, rfl⟩
  obtain rfl : cs = #[c0, c1, c2] := by rw [← Array.toList_inj, hcs]
  obtain ⟨fuel, hf⟩ := hd
  obtain ⟨xs, m, _, hx, _, hl, hel⟩ := DataW.trod_array ht hf
  have e0 := hel 0 (by omega)
  have e1 := hel 1 (by omega)
  have e2 := hel 2 (by omega)
  rw [hc] at e0 e1 e2
  obtain ⟨y0, hy0⟩ : ∃ y, xs[0]? = some y := ⟨xs[0], by simp⟩
  obtain ⟨y1, hy1⟩ : ∃ y, xs[1]? = some y := ⟨xs[1], by simp⟩
  obtain ⟨y2, hy2⟩ : ∃ y, xs[2]? = some y := ⟨xs[2], by simp⟩
  rw [hy0] at e0
  rw [hy1] at e1
  rw [hy2] at e2
  obtain ⟨a, ha, _, wa⟩ := DataW.trod_int he e0
  obtain ⟨b, hb, _, wb⟩ := DataW.trod_int he e1
  obtain ⟨c, hc', _, wc⟩ := DataW.trod_int he e2
  simp [Value.cells] at ha hb hc'
  subst ha hb hc'
  exact ⟨a, b, c, rfl, Law.bd_u8 wa, Law.bd_u8 wb, Law.bd_u8 wc⟩
theorem kPk_reads : kPk.Reads := by
  intro H enc w base spare held n cs y h
  have hC : Try.prog.cellsOf 39 = 2 := by kernel_rfl
  have hc : Try.prog.cellsOf 3 = 1 := by kernel_rfl
  obtain ⟨xs, m, _, _, hl', hl, hel⟩ := DataW.trod_array Try.underlying39 h
  have hl2 : cs.length = 2 := hl'.trans hC
  obtain ⟨c0, c1, rfl⟩ : ∃ c0 c1, cs = [c0, c1] := by
    match cs, hl2 with
    | [a, b], _ => exact ⟨a, b, rfl⟩
  have e0 := hel 0 (by omega)
  have e1 := hel 1 (by omega)
  rw [hc] at e0 e1
  obtain ⟨y0, hy0⟩ : ∃ y, xs[0]? = some y := ⟨xs[0], by simp⟩
  obtain ⟨y1, hy1⟩ : ∃ y, xs[1]? = some y := ⟨xs[1], by simp⟩
  rw [hy0] at e0
  rw [hy1] at e1
  obtain ⟨a, ha, _, wa⟩ := DataW.trod_int Try.underlying3 e0
  obtain ⟨b, hb, _, wb⟩ := DataW.trod_int Try.underlying3 e1
  simp at ha hb
  subst ha hb
  exact ⟨(a, b), rfl, wf64 wa, wf64 wb⟩
theorem open_picks {r : Reach} {b0 : Nat} {v : Value} {d : DataW H} {ps : List MemPlace} (hval : Value.okWide Try.prog w r b0 23 v) (h : DataW.Trod enc Try.prog w 0 (fun _ => true) true 23 v d ps) :
    ∃ (xs : List (Int × Int)) (A : Option Addr) (c : Nat), v = .slice A xs.length c ∧ Rd kPk w (.slice A xs.length c) xs := by
  obtain ⟨a0, len, cap, rfl⟩ := okWide_slice Try.underlying23 hval
  obtain ⟨n, hn⟩ := field_of_Trod h rfl
  exact Rd.of_trod kPk_reads (by kernel_rfl) hn
end
end Go.Proofs.Ytebbpkdhdilkcaa
