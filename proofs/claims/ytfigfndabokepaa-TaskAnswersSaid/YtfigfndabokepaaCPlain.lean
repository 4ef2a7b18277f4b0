/- Plain words on lists of integers: no program in it. -/
namespace Go.Proofs.Ytfigfndabokepaa.Plain
theorem take_snoc (xs : List Int) (k : Nat) (h : k < xs.length) : xs.take (k + 1) = xs.take k ++ [xs.getD k 0] := by
  rw [List.take_succ_eq_append_getElem h, List.getD_eq_getElem?_getD, List.getElem?_eq_getElem h]; rfl
theorem getD_mem (xs : List Int) (k : Nat) (h : k < xs.length) : xs.getD k 0 ∈ xs := by
  rw [List.getD_eq_getElem?_getD, List.getElem?_eq_getElem h]; exact List.getElem_mem _
theorem eq_of_all (xs ys : List Int) (hl : xs.length = ys.length) (h : ∀ j, j < xs.length → xs.getD j 0 = ys.getD j 0) : xs = ys := by
  apply List.ext_getElem hl
  intro i h1 h2
  have := h i h1
  simpa [List.getD_eq_getElem?_getD, List.getElem?_eq_getElem h1, List.getElem?_eq_getElem h2] using this
def lastD (xs : List Int) : Int := xs.getD (xs.length - 1) 0
theorem last_mem (xs : List Int) (h : 0 < xs.length) : lastD xs ∈ xs := getD_mem xs _ (by omega)
end Go.Proofs.Ytfigfndabokepaa.Plain
