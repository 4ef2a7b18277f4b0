/- What comes in: numbers of 32 bits, a plan, an op with a plan, two numbers. -/
import Derived.Test.YtggjjjfdkgfoiaaJ6
import Derived.Test.YtggjjjfdkgfoiaaZCrOpen
set_option linter.unusedVariables false
set_option linter.unusedSimpArgs false
set_option linter.unnecessarySimpa false
namespace Go.Proofs.Ytggjjjfdkgfoiaa
open Go.RowKit Go.ChangeShapes Go.WideShapes Go.Joins Go.Deep Go.Proofs.Ytggjjjfdkgfoiaa.Plain

section
variable {H : Type} {enc : TypeId × Value → H} {w : World}
theorem kU32_reads : kU32.Reads := by
  intro H enc w base spare held n cs y h
  obtain ⟨a, ha, _, wa⟩ := DataW.trod_int Try.underlying30 h
  exact ⟨a, ha, Law.bd_u32 wa⟩
set_option maxRecDepth 100000 in
theorem open_u32s {r : Reach} {b0 : Nat} {v : Value} {d : DataW H} {ps : List MemPlace} (hval : Value.okWide Try.prog w r b0 22 v) (h : DataW.Trod enc Try.prog w 0 (fun _ => true) true 22 v d ps) :
    ∃ (xs : List Nat) (A : Option Addr) (c : Nat), v = .slice A xs.length c ∧ Rd kU32 w (.slice A xs.length c) (zs xs) := by
  obtain ⟨a0, len, cap, rfl⟩ := okWide_slice Try.underlying22 hval
  obtain ⟨n, hn⟩ := field_of_Trod h rfl
  obtain ⟨xs, A, c, hv, hx⟩ := Rd.of_trod kU32_reads (by kernel_rfl) hn
  have e : zs (xs.map Int.toNat) = xs := by
    unfold zs
    rw [List.map_map]
    conv => rhs; rw [← List.map_id xs]
    refine List.map_congr_left fun x hx' => ?_
    have h1 : (0 : Int) ≤ x ∧ x ≤ 4294967295 := hx.2.1 x hx'
    show ((x.toNat : Nat) : Int) = id x
    simp only [id]; omega
  exact ⟨xs.map Int.toNat, A, c, by rw [List.length_map]; exact hv, by rw [e, List.length_map]; exact hx⟩
set_option maxRecDepth 100000 in
theorem open_planC {n : Nat} {c0 c1 c2 : Value} {y : DataW H × List MemPlace} (h : DataW.trod enc Try.prog w 0 (fun _ => true) true n 39 [c0, c1, c2] = some y) :
    ∃ (g m : Int) (ps : List (Int × Int)) (A : Option Addr) (c : Nat), c0 = .int .i64 g ∧ c1 = .int .i64 m ∧ c2 = .slice A ps.length c ∧ in64 g ∧ in64 m ∧ Rd kPk w (.slice A ps.length c) ps := by
  obtain ⟨y0, y1, y2, n', _, _, h0, h1, h2⟩ := trod_struct3 Try.underlying39 h
  have hC1 : Try.prog.cellsOf 3 = 1 := by kernel_rfl
  have hC2 : Try.prog.cellsOf 37 = 1 := by kernel_rfl
  simp only [hC1, hC2] at h0 h1 h2
  obtain ⟨a, ha, _, wa⟩ := DataW.trod_int Try.underlying3 h0
  obtain ⟨b, hb, _, wb⟩ := DataW.trod_int Try.underlying3 h1
  simp at ha hb
  obtain ⟨ps, A, c, hv, hp⟩ := Rd.of_trod kPk_reads (by kernel_rfl) h2
  exact ⟨a, b, ps, A, c, ha, hb, hv, wf64 wa, wf64 wb, hp⟩
set_option maxRecDepth 100000 in
theorem open_plan {r : Reach} {b0 : Nat} {v : Value} {d : DataW H} {p : List MemPlace} (hval : Value.okWide Try.prog w r b0 39 v) (h : DataW.Trod enc Try.prog w 0 (fun _ => true) true 39 v d p) :
    ∃ (g m : Int) (ps : List (Int × Int)) (A : Option Addr) (c : Nat), v = planV g m A ps.length c ∧ in64 g ∧ in64 m ∧ Rd kPk w (.slice A ps.length c) ps := by
  obtain ⟨cs, rfl, hsz⟩ := okWide_struct Try.underlying39 hval
  obtain ⟨c0, c1, c2, rfl⟩ := array3 (hsz.trans (by kernel_rfl : Try.prog.cellsOf 39 = 3))
  obtain ⟨fuel, hf⟩ := h
  obtain ⟨g, m, ps, A, c, rfl, rfl, rfl, h1, h2, h3⟩ := open_planC hf
  exact ⟨g, m, ps, A, c, rfl, h1, h2, h3⟩
set_option maxRecDepth 100000 in
theorem open_two {r : Reach} {b0 : Nat} {v : Value} {d : DataW H} {ps : List MemPlace} (hval : Value.okWide Try.prog w r b0 36 v) (hd : DataW.Trod enc Try.prog w 0 (fun _ => true) true 36 v d ps) :
    ∃ a b : Int, v = .agg #[.int .i64 a, .int .i64 b] ∧ in64 a ∧ in64 b := by
  obtain ⟨a, b, hv, _, _, wa, wb⟩ := Law.open_arr2 Try.underlying36 Try.underlying3 (by kernel_rfl) (by kernel_rfl) hval hd
  exact ⟨a, b, hv, wf64 wa, wf64 wb⟩
end
end Go.Proofs.Ytggjjjfdkgfoiaa
