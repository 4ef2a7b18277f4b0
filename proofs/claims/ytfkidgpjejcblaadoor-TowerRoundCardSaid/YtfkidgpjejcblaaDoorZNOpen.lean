/- What comes in, crew-free: lists of numbers, words, booleans; two and three numbers; a table. -/
import Derived.Test.YtfkidgpjejcblaaDoorJ6
import Derived.Test.YtfkidgpjejcblaaDoorZOpenW
set_option linter.unusedVariables false
set_option linter.unusedSimpArgs false
set_option linter.unnecessarySimpa false
namespace Go.Proofs.YtfkidgpjejcblaaDoor
open Go.RowKit Go.ChangeShapes Go.WideShapes Go.Joins Go.Deep Go.Proofs.YtfkidgpjejcblaaDoor.Plain

section
variable {H : Type} {enc : TypeId × Value → H} {w : World}
theorem kU32_reads : kU32.Reads := by
  intro H enc w base spare held n cs y h
  obtain ⟨a, ha, _, wa⟩ := DataW.trod_int Tryd.underlying38 h
  exact ⟨a, ha, Law.bd_u32 wa⟩
set_option maxRecDepth 100000 in
theorem open_u32s {r : Reach} {b0 : Nat} {v : Value} {d : DataW H} {ps : List MemPlace} (hval : Value.okWide Tryd.prog w r b0 23 v) (h : DataW.Trod enc Tryd.prog w 0 (fun _ => true) true 23 v d ps) :
    ∃ (xs : List Nat) (A : Option Addr) (c : Nat), v = .slice A xs.length c ∧ Rd kU32 w (.slice A xs.length c) (zs xs) := by
  obtain ⟨a0, len, cap, rfl⟩ := okWide_slice Tryd.underlying23 hval
  obtain ⟨n, hn⟩ := field_of_Trod h rfl
  obtain ⟨xs, A, c, hv, hx⟩ := Rd.of_trod kU32_reads (by kernel_rfl) hn
  have e : zs (xs.map Int.toNat) = xs := by
    unfold zs
    rw [List.map_map]
    conv => rhs; rw [← List.map_id xs]
    refine List.map_congr_left fun x hx' => ?_
    have h1 : (0 : Int) ≤ x ∧ x ≤ 4294967295 := hx.2.1 x hx'
    show ((x.toNat : Nat) : Int) = id x
    simp only [id]; omega
  exact ⟨xs.map Int.toNat, A, c, by rw [List.length_map]; exact hv, by rw [e, List.length_map]; exact hx⟩
/-- words as numbers -/
theorem u32_names {v : Value} {xs : List Int} (h : Rd kU32 w v xs) : ∃ l : List Nat, xs = zs l := by
  refine ⟨xs.map Int.toNat, ?_⟩
  unfold zs
  rw [List.map_map]
  conv => lhs; rw [← List.map_id xs]
  refine List.map_congr_left fun x hx' => ?_
  have h1 : (0 : Int) ≤ x ∧ x ≤ 4294967295 := h.2.1 x hx'
  show id x = ((x.toNat : Nat) : Int)
  simp only [id]; omega
theorem kInt_reads : kInt.Reads := by
  intro H enc w base spare held n cs y h
  obtain ⟨a, ha, _, wa⟩ := DataW.trod_int Tryd.underlying3 h
  exact ⟨a, ha, wf64 wa⟩
set_option maxRecDepth 100000 in
theorem open_listR {r : Reach} {b0 : Nat} {v : Value} {d : DataW H} {ps : List MemPlace} (hval : Value.okWide Tryd.prog w r b0 22 v) (h : DataW.Trod enc Tryd.prog w 0 (fun _ => true) true 22 v d ps) :
    ∃ (xs : List Int) (A : Option Addr) (c : Nat), v = .slice A xs.length c ∧ Rd kInt w (.slice A xs.length c) xs := by
  obtain ⟨a0, len, cap, rfl⟩ := okWide_slice Tryd.underlying22 hval
  obtain ⟨n, hn⟩ := field_of_Trod h rfl
  exact Rd.of_trod kInt_reads (by kernel_rfl) hn
end
end Go.Proofs.YtfkidgpjejcblaaDoor
