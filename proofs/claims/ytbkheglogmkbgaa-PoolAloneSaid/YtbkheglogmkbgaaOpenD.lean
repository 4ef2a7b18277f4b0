/- What comes in: a list of integers, of bytes, opened. -/
import Derived.Test.YtbkheglogmkbgaaLaw
import Derived.Test.YtbkheglogmkbgaaMem
namespace Go.Proofs.Ytbkheglogmkbgaa
open Go.RowKit Go.ChangeShapes Go.WideShapes Go.Joins

theorem bd_wf64 {n : Int} (h : (Lit.int .i64 n).wf = true) : -9223372036854775808 ≤ n ∧ n ≤ 9223372036854775807 := by simpa [Lit.wf, IntKind.min, IntKind.max, IntKind.signed, IntKind.bits] using h

/-- a slice value that reads as these bytes -/
def Bytes (w : World) (v : Value) (xs : List Int) : Prop :=
  xs.length ≤ maxLen ∧ (∀ n ∈ xs, 0 ≤ n ∧ n ≤ 255) ∧
  ∃ A cap, v = .slice A xs.length cap ∧
    (0 < xs.length → ∃ b off, A = some ⟨b, off, none⟩ ∧ ∀ j, j < xs.length → w.cell? ⟨b, off + j, none⟩ = some (.int .u8 (xs.getD j 0)))
theorem Bytes.ext {w W : World} {v : Value} {xs : List Int} (h : Bytes w v xs) (hE : Ext w W) : Bytes W v xs := by
  obtain ⟨h1, h2, A, cap, rfl, h3⟩ := h
  refine ⟨h1, h2, A, cap, rfl, fun hl => ?_⟩
  obtain ⟨b, off, rfl, hc⟩ := h3 hl
  exact ⟨b, off, rfl, fun j hj => hE.cell (hc j hj)⟩
theorem Bytes.cells {w : World} {A : Option Addr} {n c : Nat} {xs : List Int} (h : Bytes w (.slice A n c) xs) (hl : 0 < xs.length) :
    ∃ b off, A = some ⟨b, off, none⟩ ∧ ∀ j, j < xs.length → w.cell? ⟨b, off + j, none⟩ = some (.int .u8 (xs.getD j 0)) := by
  obtain ⟨_, _, A', c', hv, h3⟩ := h
  cases hv
  exact h3 hl
theorem Bytes.getD_bd {w : World} {v : Value} {xs : List Int} (h : Bytes w v xs) (j : Nat) : 0 ≤ xs.getD j 0 ∧ xs.getD j 0 ≤ 255 := by
  rw [List.getD_eq_getElem?_getD]
  by_cases hj : j < xs.length
  · rw [List.getElem?_eq_getElem hj]; exact h.2.1 _ (List.getElem_mem _)
  · rw [List.getElem?_eq_none (by omega)]; simp

section
variable {H : Type} {enc : TypeId × Value → H} {w : World}
theorem open_list {r : Reach} {b0 : Nat} {v : Value} {d : DataW H} {ps : List MemPlace} (hval : Value.okWide Try.prog w r b0 24 v) (hd : DataW.Trod enc Try.prog w 0 (fun _ => true) true 24 v d ps) :
    ∃ (xs : List Int) (A : Option Addr) (c : Nat), v = .slice A xs.length c ∧ Ints w (.slice A xs.length c) xs := by
  obtain ⟨a0, len, cap, rfl⟩ := okWide_slice Try.underlying24 hval
  obtain ⟨fuel, hf⟩ := hd
  rcases open_ints Try.underlying24 Try.underlying3 (by kernel_rfl) hf with ⟨hcs, hx⟩ | ⟨a, len', cap', zs, hcs, _, hl, hm, hz, hx, hcell, hw⟩
  · simp only [Value.cells, List.cons.injEq, and_true] at hcs
    cases hcs
    exact ⟨[], none, 0, rfl, Ints.nil _ _ _⟩
  · simp only [Value.cells, List.cons.injEq, and_true] at hcs
    cases hcs
    simp only [if_true] at hz
    have hlen : (zs.take len).length = len := by simp; omega
    refine ⟨zs.take len, some a, cap, by rw [hlen], by rw [hlen]; omega, fun x hx => bd_wf64 (hw x (List.mem_of_mem_take hx)), some a, cap, rfl, by rw [hlen]; exact hl, fun h0 => ?_⟩
    rw [hlen] at h0
    obtain ⟨b, off, rfl, hcc⟩ := ints_at hcell (by omega)
    refine ⟨b, off, rfl, fun j hj => ?_⟩
    rw [hlen] at hj
    rw [hcc j (by omega)]
    congr 2
    simp only [List.getD_eq_getElem?_getD]
    rw [List.getElem?_take_of_lt (by omega)]
theorem open_bytes {r : Reach} {b0 : Nat} {v : Value} {d : DataW H} {ps : List MemPlace} (hval : Value.okWide Try.prog w r b0 22 v) (hd : DataW.Trod enc Try.prog w 0 (fun _ => true) true 22 v d ps) : ∃ (xs : List Int) (A : Option Addr) (c : Nat), v = .slice A xs.length c ∧ Bytes w (.slice A xs.length c) xs := by
  obtain ⟨xs, h, hw⟩ := Law.open_slice_ints Try.underlying22 Try.underlying5 (by kernel_rfl) hval hd
  obtain ⟨hm, h⟩ := h
  have hb : ∀ n ∈ xs, 0 ≤ n ∧ n ≤ 255 := fun n hn => Law.bd_u8 (hw n hn)
  rcases h with ⟨rfl, a, cap, rfl⟩ | ⟨b, off, cap, rfl, h0, hc⟩
  · exact ⟨[], a, cap, rfl, by simp, by simp, a, cap, rfl, by simp⟩
  · exact ⟨xs, _, cap, rfl, hm, hb, _, cap, rfl, fun _ => ⟨b, off, rfl, hc⟩⟩
end
end Go.Proofs.Ytbkheglogmkbgaa
