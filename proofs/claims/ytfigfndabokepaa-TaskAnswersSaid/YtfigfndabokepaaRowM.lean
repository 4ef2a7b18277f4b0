/- Appends to a new empty list, in a region whose order is open (for wp_region_mono): lists of any kind. -/
import Derived.Test.YtfigfndabokepaaRow
import Derived.Test.YtfigfndabokepaaMono
import Derived.Deep.AppendSrc
namespace Go.Proofs.Ytfigfndabokepaa
open Go.RowKit
section
variable {α : Type} (K : Kd α)
/-- an empty list of the call's own -/
def NewAt (B : Nat) (w : World) (v : Value) : Prop := ∃ x, v = .slice (some ⟨x, 0, none⟩) 0 0 ∧ B ≤ x ∧ w.heap[x]? = some (.cells #[] K.e (0, 0))
/-- a list of the call's own -/
def OwAt (B : Nat) (w : World) (v : Value) (xs : List α) : Prop := ∃ A c, v = .slice A xs.length c ∧ Ow K B w (.slice A xs.length c) xs
variable {K}
theorem block_keep {w w' : World} {x : Nat} {o : Obj} (h : w.heap[x]? = some o) (hE : Ext w w') : w'.heap[x]? = some o := by
  have hlt : x < w.heap.size := by
    rcases Nat.lt_or_ge x w.heap.size with h' | h'
    · exact h'
    · rw [Array.getElem?_eq_none h'] at h; cases h
  exact (Below.block hE x hlt).trans h
theorem NewAt.ext {B : Nat} {w w' : World} {v : Value} (h : NewAt K B w v) (hE : Ext w w') : NewAt K B w' v := by
  obtain ⟨x, rfl, hB, hx⟩ := h
  exact ⟨x, rfl, hB, block_keep hx hE⟩
theorem NewAt.made (w : World) {B : Nat} (hB : B ≤ w.heap.size) : NewAt K B (w.alloc (.cells #[] K.e)) (.slice (some ⟨w.heap.size, 0, none⟩) 0 0) := ⟨w.heap.size, rfl, hB, heap_alloc_new w _⟩
theorem OwAt.ext {B : Nat} {w w' : World} {v : Value} {xs : List α} (h : OwAt K B w v xs) (hE : Ext w w') : OwAt K B w' v xs := by
  obtain ⟨A, c, rfl, h⟩ := h
  exact ⟨A, c, rfl, h.ext hE⟩
theorem NewAt.ow {B : Nat} {w : World} {v : Value} (h : NewAt K B w v) : OwAt K B w v [] := by
  obtain ⟨x, rfl, hB, hx⟩ := h
  exact ⟨_, 0, rfl, ⟨by simp [Kd.flat], .inr ⟨x, 0, #[], rfl, hB, hx, Nat.le_refl _, by simp [maxLen], by simp, by simp [Kd.flat]⟩⟩, by simp⟩

/-- 'append([]T{}, ys...)': a list of its own; all that was stays; a block that is new, where it isn't empty -/
theorem Kd.app_new (K : Kd α) {B : Nat} {w : World} {v : Value} {y : Value} {ys : List α} (hv : NewAt K B w v) (hy : Rd K w y ys) (hl : ys.length ≤ 1048576) (hBw : B ≤ w.heap.size) :
    ∃ v' w', (Builtin.append_ #[K.t, K.t] K.t #[v, y]).run Try.prog w = .ok v' w' ∧ Ext w w' ∧ OwAt K B w' v' ys ∧ (0 < ys.length → v'.ownBlock = some w.heap.size) := by
  have hown := hv.ow
  obtain ⟨x, rfl, hB, hx⟩ := hv
  obtain ⟨i0, hi, hz0, hz1, hz2⟩ := info_parts K.info
  have hsm := K.small
  by_cases h0 : 0 < ys.length
  · obtain ⟨A, c, rfl, hc'⟩ := hy.slice
    obtain ⟨b, off, rfl, _⟩ := hy.cells h0
    have hr := run_append_grow (P := Try.prog) w K.t K.t K.e i0 K.z K.ht hi hz0 ⟨x, 0, none⟩ 0 0 [] (by simp) (by simp) ⟨b, off, none⟩ ys.length c (K.flat ys) (by rw [K.flat_len, hz1]) hy.at_ (by omega) (by omega)
      (growslice_fits (by omega) (by rw [hz2]; exact Nat.le_trans (Nat.mul_le_mul (by omega : 0 + ys.length ≤ 1048576) hsm) (by omega)))
    simp only [Nat.zero_add] at hr
    refine ⟨_, _, hr, (Ext.refl w).drew.alloc _, ⟨some ⟨w.heap.size, 0, none⟩, _, rfl, ⟨K.flat_len ys, .inr ⟨w.heap.size, _, _, rfl, hBw, heap_alloc_new w.drew _, grownCap_ge w _ _ _, grownCap_le_maxLen w _ _ _ (by unfold maxLen; omega), ?_, ?_⟩⟩, hy.2.1⟩, fun _ => rfl⟩
    · have := grownCap_ge w ys.length 0 K.e
      simp only [Array.size_append, List.size_toArray, size_zeroCells, K.hzs, K.flat_len, List.length_nil, Nat.zero_add, ← Nat.add_mul]
      congr 1
      omega
    · simp only [Array.toList_append, List.nil_append]
      exact List.take_left' (by rw [K.flat_len])
  · obtain rfl : ys = [] := List.eq_nil_of_length_eq_zero (by omega)
    obtain ⟨A, c, rfl, _⟩ := hy.slice
    rcases A with _ | ad
    · refine ⟨_, w, ?_, Ext.refl _, hown, by simp⟩
      simp [Builtin.append_, run_underlying K.ht, sizeOf, typeInfo, hi, Builtin.lenOf, Builtin.firstCells, storeCells]
    · have hr := run_append_room (P := Try.prog) w K.t K.t K.e i0 K.ht hi x 0 0 #[] hx ad 0 c [] (by simp) (by simp) (by simp) (by omega) (by simp)
      have hE : Ext w (w.setRow x #[]) := ⟨rfl, rfl, rfl, by simp [World.setRow], fun k hk => by
        by_cases e : k = x
        · subst e; rw [setRow_heap w k _ _ _ _ hx, hx]
        · exact setRow_other w x k _ e⟩
      exact ⟨_, _, by simpa using hr, hE, hown.ext hE, by simp⟩
theorem Kd.yields_app (K : Kd α) {o : Oper} {a : Act} {w w' : World} {R : Value → World → Prop} (s x : Operand) {v y v' : Value}
    (ho : o.op = .call { callee := .builtin .append, args := #[s, x], argTypes := #[K.t, K.t] }) (hty : o.type = K.t) (hs : a.eval s = v) (hx : a.eval x = y)
    (hr : (Builtin.append_ #[K.t, K.t] K.t #[v, y]).run Try.prog w = .ok v' w') (hR : R v' w') : Mono.Yields Try.prog R ((execOp a.eval o).run Try.prog w) := by
  unfold execOp
  simp only [ho, hty, resolve, invoke, builtin, Sem.run_bind, Sem.run_pure, Result.andThen_ok, List.map_toArray, List.map_cons, List.map_nil, hs, hx, hr]
  exact ⟨hR⟩
end
end Go.Proofs.Ytfigfndabokepaa
