/- What comes in: edges, a list of edges, a plan of sorting. -/
import Derived.Test.YtkpbanfpnilifaaGreatJ6
import Derived.Test.YtkpbanfpnilifaaGreatZF7O
set_option linter.unusedVariables false
set_option linter.unusedSimpArgs false
set_option linter.unnecessarySimpa false
namespace Go.Proofs.YtkpbanfpnilifaaGreat
open Go.RowKit Go.ChangeShapes Go.WideShapes Go.Joins Go.Deep Go.Proofs.YtkpbanfpnilifaaGreat.Plain

theorem array_five {α : Type} {a : Array α} (h : a.size = 5) : ∃ c0 c1 c2 c3 c4, a = #[c0, c1, c2, c3, c4] := by
  obtain ⟨l⟩ := a
  have hl : l.length = 5 := h
  obtain ⟨c0, c1, c2, c3, c4, rfl⟩ : ∃ c0 c1 c2 c3 c4, l = [c0, c1, c2, c3, c4] := by
    match l, hl with
    | [c0, c1, c2, c3, c4], _ => exact ⟨c0, c1, c2, c3, c4, rfl⟩
  exact ⟨c0, c1, c2, c3, c4, rfl⟩
section
variable {H : Type} {enc : TypeId × Value → H} {w : World}
set_option maxRecDepth 100000 in
theorem kEdge_reads : kEdge.Reads := by
  intro H enc w base spare held n cs y h
  obtain ⟨y0, y1, m, _, hl, h0, h1⟩ := trod_struct2 Tryz.underlying46 h
  have hC : Tryz.prog.cellsOf 46 = 2 := by kernel_rfl
  have hl' : cs.length = 2 := hl.trans hC
  obtain ⟨c0, c1, rfl⟩ := list_two cs hl'
  have hC1 : Tryz.prog.cellsOf 3 = 1 := by kernel_rfl
  simp only [hC1] at h0 h1
  obtain ⟨a, ha, _, wa⟩ := DataW.trod_int Tryz.underlying3 h0
  obtain ⟨b, hb, _, wb⟩ := DataW.trod_int Tryz.underlying3 h1
  simp at ha hb
  subst ha hb
  exact ⟨(a, b), rfl, wf64 wa, wf64 wb⟩
set_option maxRecDepth 100000 in
theorem open_edges {r : Reach} {b0 : Nat} {v : Value} {d : DataW H} {ps : List MemPlace} (hval : Value.okWide Tryz.prog w r b0 39 v) (h : DataW.Trod enc Tryz.prog w 0 (fun _ => true) true 39 v d ps) :
    ∃ (xs : List (Int × Int)) (A : Option Addr) (c : Nat), v = .slice A xs.length c ∧ Rd kEdge w (.slice A xs.length c) xs := by
  obtain ⟨a0, len, cap, rfl⟩ := okWide_slice Tryz.underlying39 hval
  obtain ⟨n, hn⟩ := field_of_Trod h rfl
  exact Rd.of_trod kEdge_reads (by kernel_rfl) hn
set_option maxRecDepth 100000 in
theorem open_edge {r : Reach} {b0 : Nat} {v : Value} {d : DataW H} {p : List MemPlace} (hval : Value.okWide Tryz.prog w r b0 46 v) (h : DataW.Trod enc Tryz.prog w 0 (fun _ => true) true 46 v d p) :
    ∃ a b : Int, v = .agg #[.int .i64 a, .int .i64 b] ∧ in64 a ∧ in64 b := by
  obtain ⟨cs, rfl, hsz⟩ := okWide_struct Tryz.underlying46 hval
  obtain ⟨c0, c1, rfl⟩ := array2 (hsz.trans (by kernel_rfl : Tryz.prog.cellsOf 46 = 2))
  obtain ⟨fuel, hf⟩ := h
  obtain ⟨y0, y1, n, _, _, h0, h1⟩ := trod_struct2 Tryz.underlying46 hf
  have hC1 : Tryz.prog.cellsOf 3 = 1 := by kernel_rfl
  simp only [hC1] at h0 h1
  obtain ⟨a, ha, _, wa⟩ := DataW.trod_int Tryz.underlying3 h0
  obtain ⟨b, hb, _, wb⟩ := DataW.trod_int Tryz.underlying3 h1
  simp [Value.cells] at ha hb
  subst ha hb
  exact ⟨a, b, rfl, wf64 wa, wf64 wb⟩
set_option maxRecDepth 100000 in
theorem open_way {r : Reach} {b0 : Nat} {v : Value} {d : DataW H} {p : List MemPlace} (hval : Value.okWide Tryz.prog w r b0 27 v) (h : DataW.Trod enc Tryz.prog w 0 (fun _ => true) true 27 v d p) :
    ∃ (b k g m : Int) (ps : List (Int × Int)) (A : Option Addr) (c : Nat), v = .agg #[.int .i64 b, .int .i64 k, .int .i64 g, .int .i64 m, .slice A ps.length c] ∧ in64 b ∧ in64 k ∧ in64 g ∧ in64 m ∧ Rd kPk w (.slice A ps.length c) ps := by
  obtain ⟨cs, rfl, hsz⟩ := okWide_struct Tryz.underlying27 hval
  obtain ⟨c0, c1, c2, c3, c4, rfl⟩ := array_five (hsz.trans (by kernel_rfl : Tryz.prog.cellsOf 27 = 5))
  obtain ⟨fuel, hf⟩ := h
  obtain ⟨y0, y1, y2, n, _, _, h0, h1, h2⟩ := trod_struct3 Tryz.underlying27 hf
  have hC1 : Tryz.prog.cellsOf 3 = 1 := by kernel_rfl
  have hC2 : Tryz.prog.cellsOf 25 = 3 := by kernel_rfl
  simp only [hC1, hC2] at h0 h1 h2
  obtain ⟨b, hb, _, wb⟩ := DataW.trod_int Tryz.underlying3 h0
  obtain ⟨k, hk, _, wk⟩ := DataW.trod_int Tryz.underlying3 h1
  simp [Value.cells] at hb hk
  obtain ⟨g, m, ps, A, c, rfl, rfl, rfl, k1, k2, k3⟩ := open_planC h2
  subst hb hk
  exact ⟨b, k, g, m, ps, A, c, rfl, wf64 wb, wf64 wk, k1, k2, k3⟩
end
end Go.Proofs.YtkpbanfpnilifaaGreat
