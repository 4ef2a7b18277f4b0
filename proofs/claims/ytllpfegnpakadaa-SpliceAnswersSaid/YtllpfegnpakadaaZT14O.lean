/- What comes in: a tower (lists of lists of numbers within). -/
import Derived.Test.YtllpfegnpakadaaJ6
import Derived.Test.YtllpfegnpakadaaZNOpen
set_option linter.unusedVariables false
set_option linter.unusedSimpArgs false
set_option linter.unnecessarySimpa false
namespace Go.Proofs.Ytllpfegnpakadaa
open Go.RowKit Go.ChangeShapes Go.WideShapes Go.Joins Go.Deep Go.Proofs.Ytllpfegnpakadaa.Plain

instance : Inhabited Hd := ⟨hd0⟩
section
variable {H : Type} {enc : TypeId × Value → H} {w : World}
set_option maxRecDepth 100000 in
theorem Rdd.of_trod {base : Nat} {spare : Nat → Bool} {held : Bool} {v : Value} {n : Nat} {y : DataW H × List MemPlace} (h : DataW.trod enc Try.prog w base spare held n 23 [v] = some y) :
    ∃ (D : List (List Int)) (A : Option Addr) (c : Nat), v = .slice A D.length c ∧ Rdd w (.slice A D.length c) D := by
  rcases open_slice kRow.ht h with ⟨hcs, _⟩ | ⟨a, len, cap, m, n', D, Pl, hcs, hb, hl, hm, hmm, _, hx⟩
  · simp only [List.cons.injEq, and_true] at hcs
    exact ⟨[], none, 0, hcs, Rdd.nil _ _ _⟩
  · simp only [List.cons.injEq, and_true] at hcs
    have hml : len ≤ m := by rw [hmm]; split <;> omega
    have hc : Try.prog.cellsOf kRow.e = 1 := by kernel_rfl
    obtain ⟨X, hX⟩ := choose_lt (α := List Int × Hd) (n := len) (p := fun i x => Rd kInt w x.2.v x.1 ∧ ∀ j u, (kRow.cells x.2)[j]? = some u → w.cell? ((a.add (i * kRow.n)).add j) = some u) (fun i hi => by
      obtain ⟨cs', h1, h2⟩ := hx i (by omega)
      obtain ⟨v', rfl⟩ : ∃ v', cs' = [v'] := by
        rcases open_slice kInt.ht h2 with ⟨hcs, _⟩ | ⟨_, _, _, _, _, _, _, hcs, _⟩
        · exact ⟨_, hcs⟩
        · exact ⟨_, hcs⟩
      obtain ⟨xs, A', c', rfl, hr⟩ := Rd.of_trod kInt_reads (by kernel_rfl) h2
      obtain ⟨_, _, h5⟩ := World.cells?_some h1
      rw [hc] at h5
      refine ⟨(xs, ⟨A', xs.length, c'⟩), hr, fun j u hu => ?_⟩
      have hj : j < kRow.n := by rw [← kRow.len ⟨A', xs.length, c'⟩]; exact (List.getElem?_eq_some_iff.1 hu).1
      rw [← hu]
      exact h5 j hj)
    have hlen : ((List.range len).map (fun i => (X i).1)).length = len := by simp
    have hlen2 : ((List.range len).map (fun i => (X i).2)).length = len := by simp
    have hg : ∀ j, j < len → ((List.range len).map (fun i => (X i).2)).getD j kRow.d = (X j).2 := fun j hj => by
      rw [List.getD_eq_getElem?_getD, List.getElem?_map, List.getElem?_range hj]; rfl
    refine ⟨(List.range len).map (fun i => (X i).1), some a, cap, by rw [hlen]; exact hcs, (List.range len).map (fun i => (X i).2), ⟨by rw [hlen2]; omega, fun x _ => trivial, some a, cap, by rw [hlen, hlen2], by rw [hlen2]; exact hl, fun h0 => ?_⟩, by rw [hlen, hlen2], fun j hj => ?_⟩
    · rw [hlen2] at h0
      have hz : 0 < (kRow.cells (X 0).2).length := by rw [kRow.len]; exact kRow.pos
      have c0 := (hX 0 h0).2 0 _ (List.getElem?_eq_getElem hz)
      obtain ⟨b, off, spot⟩ := a
      have hspot : spot = none := by
        have := World.cell?_spot c0
        simpa [Addr.add] using this
      subst hspot
      refine ⟨b, off, rfl, fun j hj i u hu => ?_⟩
      rw [hlen2] at hj
      rw [hg j hj] at hu
      have := (hX j hj).2 i u hu
      rw [add_atk, add_atk] at this
      exact this
    · rw [hlen] at hj
      have e1 : ((List.range len).map (fun i => (X i).2)).getD j hd0 = (X j).2 := hg j hj
      have e2 : ((List.range len).map (fun i => (X i).1)).getD j [] = (X j).1 := by
        rw [List.getD_eq_getElem?_getD, List.getElem?_map, List.getElem?_range hj]; rfl
      rw [e1, e2]
      exact (hX j hj).1
set_option maxRecDepth 100000 in
theorem open_tower {r : Reach} {b0 : Nat} {v : Value} {d : DataW H} {p : List MemPlace} (hval : Value.okWide Try.prog w r b0 25 v) (h : DataW.Trod enc Try.prog w 0 (fun _ => true) true 25 v d p) :
    ∃ (t : Tw) (A B N : Option Addr) (c d e : Nat), v = towV A t.tokens.length c B t.heights.length d N t.next.length e ∧ TwR w t A B N c d e := by
  obtain ⟨cs, rfl, hsz⟩ := okWide_struct Try.underlying25 hval
  obtain ⟨c0, c1, c2, rfl⟩ := array3 (hsz.trans (by kernel_rfl : Try.prog.cellsOf 25 = 3))
  obtain ⟨fuel, hf⟩ := h
  obtain ⟨y0, y1, y2, n', _, _, h0, h1, h2⟩ := trod_struct3 Try.underlying25 hf
  have hC1 : Try.prog.cellsOf 22 = 1 := by kernel_rfl
  have hC3 : Try.prog.cellsOf 23 = 1 := by kernel_rfl
  simp only [hC1, hC3] at h0 h1 h2
  obtain ⟨xs, A, c, hv, hx⟩ := Rd.of_trod kInt_reads (by kernel_rfl) h0
  obtain ⟨ys, B, d', hv1, hy⟩ := Rd.of_trod kInt_reads (by kernel_rfl) h1
  obtain ⟨D, N, e, hv2, hD⟩ := Rdd.of_trod h2
  subst hv hv1 hv2
  exact ⟨⟨xs, ys, D⟩, A, B, N, c, d', e, rfl, hx, hy, hD⟩
end
end Go.Proofs.Ytllpfegnpakadaa
