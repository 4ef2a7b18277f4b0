/- Parts of lists of handles; a pool that a call has made, boxed. -/
import Derived.Test.YtbkheglogmkbgaaPoolAt
namespace Go.Proofs.Ytbkheglogmkbgaa
open Go.RowKit Go.Proofs.Ytbkheglogmkbgaa.Plain

theorem getDh_take (l : List (Int × Int)) (k j : Nat) (h : j < k) : (l.take k).getD j (0, 0) = l.getD j (0, 0) := by
  simp [List.getD_eq_getElem?_getD, List.getElem?_take_of_lt h]
theorem getDh_drop (l : List (Int × Int)) (k j : Nat) : (l.drop k).getD j (0, 0) = l.getD (k + j) (0, 0) := by
  simp [List.getD_eq_getElem?_getD, List.getElem?_drop]
theorem HR.take {w : World} {A : Option Addr} {n c : Nat} {hs : List (Int × Int)} (h : HR w (.slice A n c) hs) (k c' : Nat) (hk : k ≤ hs.length) (hc : k ≤ c') : HR w (.slice A k c') (hs.take k) := by
  obtain ⟨h1, h2, A', cap, hv, hcap, h3⟩ := h
  cases hv
  have hl : (hs.take k).length = k := by rw [List.length_take]; omega
  refine ⟨by rw [hl]; omega, fun n hn => h2 n (List.mem_of_mem_take hn), A, c', by rw [hl], by omega, fun hp => ?_⟩
  rw [hl] at hp
  obtain ⟨b, off, rfl, hcc⟩ := h3 (by omega)
  refine ⟨b, off, rfl, fun j hj => ?_⟩
  rw [hl] at hj
  rw [getDh_take _ _ _ hj]
  exact hcc j (by omega)
theorem HR.drop {w : World} {b off n c : Nat} {hs : List (Int × Int)} (h : HR w (.slice (some ⟨b, off, none⟩) n c) hs) (k m c' : Nat) (hm : m = hs.length - k) (hc : m ≤ c') : HR w (.slice (some ⟨b, off + k * 2, none⟩) m c') (hs.drop k) := by
  obtain ⟨h1, h2, A', cap, hv, hcap, h3⟩ := h
  cases hv
  have hl : (hs.drop k).length = m := by rw [List.length_drop]; omega
  refine ⟨by rw [hl]; omega, fun n hn => h2 n (List.mem_of_mem_drop hn), _, c', by rw [hl], by omega, fun hp => ?_⟩
  obtain ⟨b', off', he, hcc⟩ := h3 (by omega)
  cases he
  refine ⟨b, off + k * 2, rfl, fun j hj => ?_⟩
  rw [hl] at hj
  rw [getDh_drop]
  have := hcc (k + j) (by omega)
  rw [show off + k * 2 + j * 2 = off + (k + j) * 2 by omega]
  exact this
theorem Hs.mono {B B' : Nat} {w : World} {v : Value} {hs : List (Int × Int)} (h : Hs B w v hs) (hB : B' ≤ B) : Hs B' w v hs := by
  obtain ⟨⟨h1, h2⟩, hb⟩ := h
  refine ⟨⟨h1, ?_⟩, hb⟩
  rcases h2 with h2 | ⟨g, cap, cur, hv, hg, hr⟩
  · exact .inl h2
  · exact .inr ⟨g, cap, cur, hv, by omega, hr⟩
theorem hs_emptyAt (w : World) {B p : Nat} (hp : p = w.heap.size) (hB : B ≤ p) : Hs B (w.alloc (.cells #[] 32)) (.slice (some ⟨p, 0, none⟩) 0 0) [] := by
  subst hp
  exact ⟨World.ownsRow_made w #[] 0 hB (by simp) rfl, by simp⟩
/-- a pool that Give has made, boxed -/
def GiveCut (w : World) (k m : Nat) (gs xs : List Int) (s : Value) (wx : World) : Prop :=
  ∃ Q A c B d, s = .pointer (some ⟨Q, 0, none⟩) ∧ w.heap.size ≤ Q ∧ wx.cell? ⟨Q, 0, none⟩ = some (.slice A k c) ∧ wx.cell? ⟨Q, 1, none⟩ = some (.slice B m d) ∧ Ints wx (.slice A k c) gs ∧ Ints wx (.slice B m d) xs ∧ Ext w wx ∧ From w.heap.size A ∧ From w.heap.size B
theorem gc_after {w w3 : World} {k m c d : Nat} {gs xs : List Int} {A B : Option Addr} (hE : Ext w w3) (hg : Ints w3 (.slice A k c) gs) (hx : Ints w3 (.slice B m d) xs) (fA : From w.heap.size A) (fB : From w.heap.size B) :
    GiveCut w k m gs xs (.pointer (some ⟨w3.heap.size, 0, none⟩)) (w3.alloc (.cells #[.slice A k c, .slice B m d] 26)) :=
  ⟨w3.heap.size, A, c, B, d, rfl, hE.size, by simp, by simp, hg.ext ((Ext.refl _).alloc _), hx.ext ((Ext.refl _).alloc _), hE.alloc _, fA, fB⟩
theorem gc_before {w w3 : World} {k m c d Q : Nat} {gs xs : List Int} {A B : Option Addr} (hQ : w.heap.size ≤ Q) (h0 : w3.cell? ⟨Q, 0, none⟩ = some (.slice none 0 0)) (h1 : w3.cell? ⟨Q, 1, none⟩ = some (.slice none 0 0)) (hE : Ext w w3) (hg : Ints w3 (.slice A k c) gs) (hx : Ints w3 (.slice B m d) xs) (fA : From w.heap.size A) (fB : From w.heap.size B) :
    GiveCut w k m gs xs (.pointer (some ⟨Q, 0, none⟩)) ((w3.setCell ⟨Q, 0, none⟩ (.slice A k c)).setCell ⟨Q, 1, none⟩ (.slice B m d)) := by
  have hne : (⟨Q, 1, none⟩ : Addr) ≠ ⟨Q, 0, none⟩ := by intro h; cases h
  have hne' : (⟨Q, 0, none⟩ : Addr) ≠ ⟨Q, 1, none⟩ := by intro h; cases h
  have k1 : (w3.setCell ⟨Q, 0, none⟩ (.slice A k c)).cell? ⟨Q, 1, none⟩ = some (.slice none 0 0) := (World.cell?_setCell_other _ _ _ _ hne').trans h1
  refine ⟨Q, A, c, B, d, rfl, hQ, ?_, ?_, ?_, ?_, (hE.setCell (p := ⟨Q, 0, none⟩) hQ _).setCell (p := ⟨Q, 1, none⟩) hQ _, fA, fB⟩
  · rw [World.cell?_setCell_other _ _ _ _ hne, World.cell?_setCell_same _ _ _ h0]
  · rw [World.cell?_setCell_same _ _ _ k1]
  · exact (hg.setNot h0 (by intro k n; simp) _).setNot k1 (by intro k n; simp) _
  · exact (hx.setNot h0 (by intro k n; simp) _).setNot k1 (by intro k n; simp) _
end Go.Proofs.Ytbkheglogmkbgaa
