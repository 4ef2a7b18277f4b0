/- What comes in, crew-free: lists of numbers, words, booleans; two and three numbers; a table. -/
import Derived.Test.YtofiokegdgdacaaJ6
import Derived.Test.YtofiokegdgdacaaZOpenW
set_option linter.unusedVariables false
set_option linter.unusedSimpArgs false
set_option linter.unnecessarySimpa false
namespace Go.Proofs.Ytofiokegdgdacaa
open Go.RowKit Go.ChangeShapes Go.WideShapes Go.Joins Go.Deep Go.Proofs.Ytofiokegdgdacaa.Plain

section
variable {H : Type} {enc : TypeId × Value → H} {w : World}
theorem kU32_reads : kU32.Reads := by
  intro H enc w base spare held n cs y h
  obtain ⟨a, ha, _, wa⟩ := DataW.trod_int Try.underlying34 h
  exact ⟨a, ha, Law.bd_u32 wa⟩
set_option maxRecDepth 100000 in
theorem open_u32s {r : Reach} {b0 : Nat} {v : Value} {d : DataW H} {ps : List MemPlace} (hval : Value.okWide Try.prog w r b0 22 v) (h : DataW.Trod enc Try.prog w 0 (fun _ => true) true 22 v d ps) :
    ∃ (xs : List Nat) (A : Option Addr) (c : Nat), v = .slice A xs.length c ∧ Rd kU32 w (.slice A xs.length c) (zs xs) := by
  obtain ⟨a0, len, cap, rfl⟩ := okWide_slice Try.underlying22 hval
  obtain ⟨n, hn⟩ := field_of_Trod h rfl
  obtain ⟨xs, A, c, hv, hx⟩ := Rd.of_trod kU32_reads (by kernel_rfl) hn
  have e : zs (xs.map Int.toNat) = xs := by
    unfold zs
    rw [List.map_map]
    conv => rhs; rw [← List.map_id xs]
    refine List.map_congr_left fun x hx' => ?_
    have h1 : (0 : Int) ≤ x ∧ x ≤ 4294967295 := hx.2.1 x hx'
    show ((x.toNat : Nat) : Int) = id x
    simp only [id]; omega
  exact ⟨xs.map Int.toNat, A, c, by rw [List.length_map]; exact hv, by rw [e, List.length_map]; exact hx⟩
/-- words as numbers -/
theorem u32_names {v : Value} {xs : List Int} (h : Rd kU32 w v xs) : ∃ l : List Nat, xs = zs l := by
  refine ⟨xs.map Int.toNat, ?_⟩
  unfold zs
  rw [List.map_map]
  conv => lhs; rw [← List.map_id xs]
  refine List.map_congr_left fun x hx' => ?_
  have h1 : (0 : Int) ≤ x ∧ x ≤ 4294967295 := h.2.1 x hx'
  show id x = ((x.toNat : Nat) : Int)
  simp only [id]; omega
set_option maxRecDepth 100000 in
theorem open_bools {r : Reach} {b0 : Nat} {v : Value} {d : DataW H} {ps : List MemPlace} (hval : Value.okWide Try.prog w r b0 23 v) (h : DataW.Trod enc Try.prog w 0 (fun _ => true) true 23 v d ps) :
    ∃ (xs : List Bool) (A : Option Addr) (c : Nat), v = .slice A xs.length c ∧ Rd kBool w (.slice A xs.length c) xs := by
  obtain ⟨a0, len, cap, rfl⟩ := okWide_slice Try.underlying23 hval
  obtain ⟨n, hn⟩ := field_of_Trod h rfl
  exact Rd.of_trod kBool_reads (by kernel_rfl) hn
set_option maxRecDepth 100000 in
theorem open_tab {r : Reach} {b0 : Nat} {v : Value} {d : DataW H} {p : List MemPlace} (hval : Value.okWide Try.prog w r b0 25 v) (h : DataW.Trod enc Try.prog w 0 (fun _ => true) true 25 v d p) :
    ∃ (b : Int) (cs : List Nat) (fs : List Bool) (C F : Option Addr) (c f : Nat), v = .agg #[.int .i64 b, .slice C cs.length c, .slice F fs.length f] ∧ in64 b ∧ Rd kU32 w (.slice C cs.length c) (zs cs) ∧ Rd kBool w (.slice F fs.length f) fs := by
  obtain ⟨cs, rfl, hsz⟩ := okWide_struct Try.underlying25 hval
  obtain ⟨c0, c1, c2, rfl⟩ := array3 (hsz.trans (by kernel_rfl : Try.prog.cellsOf 25 = 3))
  obtain ⟨fuel, hf⟩ := h
  obtain ⟨y0, y1, y2, n', _, _, h0, h1, h2⟩ := trod_struct3 Try.underlying25 hf
  have hC1 : Try.prog.cellsOf 3 = 1 := by kernel_rfl
  have hC2 : Try.prog.cellsOf 22 = 1 := by kernel_rfl
  have hC3 : Try.prog.cellsOf 23 = 1 := by kernel_rfl
  simp only [hC1, hC2, hC3] at h0 h1 h2
  obtain ⟨a, ha, _, wa⟩ := DataW.trod_int Try.underlying3 h0
  simp [Value.cells] at ha
  obtain ⟨xs, A, c, hv, hx⟩ := Rd.of_trod kU32_reads (by kernel_rfl) h1
  obtain ⟨fs, F, f, hv2, hy⟩ := Rd.of_trod kBool_reads (by kernel_rfl) h2
  obtain ⟨l, rfl⟩ := u32_names hx
  subst ha hv hv2
  rw [zs_len] at hx ⊢
  exact ⟨a, l, fs, A, F, c, f, rfl, wf64 wa, hx, hy⟩
end
end Go.Proofs.Ytofiokegdgdacaa
