/- A pool in a block of its own. -/
import Derived.Test.YtbkheglogmkbgaaHands
import Derived.Test.YtbkheglogmkbgaaAlive
namespace Go.Proofs.Ytbkheglogmkbgaa
open Go.RowKit Go.Proofs.Ytbkheglogmkbgaa.Plain

/-- block P holds a pool -/
def PoolAt (w : World) (P : Nat) (gs xs : List Int) : Prop :=
  ∃ A c B d, w.cell? ⟨P, 0, none⟩ = some (.slice A gs.length c) ∧ w.cell? ⟨P, 1, none⟩ = some (.slice B xs.length d) ∧ (∀ o, w.frozen? ⟨P, o, none⟩ = false) ∧ Ints w (.slice A gs.length c) gs ∧ Ints w (.slice B xs.length d) xs
theorem PoolAt.ext {w W : World} {P : Nat} {gs xs : List Int} (h : PoolAt w P gs xs) (hE : Ext w W) : PoolAt W P gs xs := by
  obtain ⟨A, c, B, d, h0, h1, hf, hg, hx⟩ := h
  have hlt : P < w.heap.size := World.block_lt_of_cell? _ _ h0
  exact ⟨A, c, B, d, hE.cell h0, hE.cell h1, fun o => (Below.frozen hE (p := ⟨P, o, none⟩) hlt).trans (hf o), hg.ext hE, hx.ext hE⟩
theorem PoolAt.lt {w : World} {P : Nat} {gs xs : List Int} (h : PoolAt w P gs xs) : P < w.heap.size := by
  obtain ⟨A, c, B, d, h0, _⟩ := h
  exact World.block_lt_of_cell? _ _ h0
/-- a new pool, boxed -/
theorem PoolAt.box {w : World} {A B : Option Addr} {n m c d P : Nat} {gs xs : List Int} (hP : P = w.heap.size) (hn : gs.length = n) (hm : xs.length = m) (hg : Ints w (.slice A n c) gs) (hx : Ints w (.slice B m d) xs) :
    PoolAt (w.alloc (.cells #[.slice A n c, .slice B m d] 26)) P gs xs := by
  subst hP hn hm
  exact ⟨A, c, B, d, by simp, by simp, fun o => frozen_of_row _ _ o _ _ (heap_alloc_new _ _), hg.ext ((Ext.refl _).alloc _), hx.ext ((Ext.refl _).alloc _)⟩
theorem PoolAt.box' {w : World} {A B : Option Addr} {n m c d P : Nat} {gs xs : List Int} (hn : gs.length = n) (hm : xs.length = m) (h0 : w.cell? ⟨P, 0, none⟩ = some (.slice A n c)) (h1 : w.cell? ⟨P, 1, none⟩ = some (.slice B m d)) (hf : ∀ o, w.frozen? ⟨P, o, none⟩ = false)
    (hg : Ints w (.slice A n c) gs) (hx : Ints w (.slice B m d) xs) : PoolAt w P gs xs := by
  subst hn hm
  exact ⟨A, c, B, d, h0, h1, hf, hg, hx⟩
/-- another pool is stored -/
theorem PoolAt.put {w : World} {P : Nat} {gs' xs' : List Int} {A0 B0 : Option Addr} {n0 m0 c0 d0 : Nat} (h0 : w.cell? ⟨P, 0, none⟩ = some (.slice A0 n0 c0)) (h1 : w.cell? ⟨P, 1, none⟩ = some (.slice B0 m0 d0)) (hf : ∀ o, w.frozen? ⟨P, o, none⟩ = false)
    {A B : Option Addr} {n m c d : Nat} (hn : gs'.length = n) (hm : xs'.length = m) (hg : Ints w (.slice A n c) gs') (hx : Ints w (.slice B m d) xs') :
    PoolAt ((w.setCell ⟨P, 0, none⟩ (.slice A n c)).setCell ⟨P, 1, none⟩ (.slice B m d)) P gs' xs' := by
  subst hn hm
  have hne : (⟨P, 1, none⟩ : Addr) ≠ ⟨P, 0, none⟩ := by intro h; cases h
  have hne' : (⟨P, 0, none⟩ : Addr) ≠ ⟨P, 1, none⟩ := by intro h; cases h
  have k1 : (w.setCell ⟨P, 0, none⟩ (.slice A gs'.length c)).cell? ⟨P, 1, none⟩ = some (.slice B0 m0 d0) := (World.cell?_setCell_other _ _ _ _ hne').trans h1
  refine ⟨A, c, B, d, ?_, ?_, fun o => ?_, ?_, ?_⟩
  · rw [World.cell?_setCell_other _ _ _ _ hne, World.cell?_setCell_same _ _ _ h0]
  · rw [World.cell?_setCell_same _ _ _ k1]
  · rw [World.frozen?_setCell, World.frozen?_setCell]; exact hf o
  · exact (hg.setNot h0 (by intro k n; simp) _).setNot k1 (by intro k n; simp) _
  · exact (hx.setNot h0 (by intro k n; simp) _).setNot k1 (by intro k n; simp) _
/-- a list of handles stays when another pool is stored -/
theorem PoolAt.hands {w : World} {P B : Nat} {v : Value} {hs : List (Int × Int)} (hv : Hs B w v hs) (hB : P < B) (x y : Value) : Hs B ((w.setCell ⟨P, 0, none⟩ x).setCell ⟨P, 1, none⟩ y) v hs :=
  (hv.setBelow (p := ⟨P, 0, none⟩) hB x).setBelow (p := ⟨P, 1, none⟩) hB y
/-- integers of a call's own, and handles of its own: not one block -/
theorem own_hs_far {B B' : Nat} {w : World} {v u : Value} {xs : List Int} {hs : List (Int × Int)} (h : Own B w v xs) (h' : Hs B' w u hs) : ∀ k, v.ownBlock = some k → u.ownBlock ≠ some k := by
  intro k hk hk'
  rcases h.1.2 with ⟨rfl, _⟩ | ⟨g, cap, cur, rfl, _, hh, _⟩
  · simp [Value.ownBlock] at hk
  · rcases h'.1.2 with ⟨rfl, _⟩ | ⟨g', cap', cur', rfl, _, hh', _⟩
    · simp [Value.ownBlock] at hk'
    · simp only [Value.ownBlock, Option.some.injEq] at hk hk'
      subst hk
      subst hk'
      rw [hh] at hh'
      simp at hh'
theorem Hs.kept {B : Nat} {w w' : World} {v : Value} {hs : List (Int × Int)} {row : Option Nat} (h : Hs B w v hs) (hg : w.grownBy w' row) (hne : v.ownBlock = none ∨ v.ownBlock ≠ row) : Hs B w' v hs := ⟨h.1.kept hg hne, h.2⟩
theorem far2 {w : World} {P b o : Nat} (h : b ≠ P) (x y : Value) : ((w.setCell ⟨P, 0, none⟩ x).setCell ⟨P, 1, none⟩ y).cell? ⟨b, o, none⟩ = w.cell? ⟨b, o, none⟩ :=
  (World.cell?_setCell_other _ _ _ _ (by intro e; injection e with e1; omega)).trans (World.cell?_setCell_other _ _ _ _ (by intro e; injection e with e1; omega))
theorem bd_small (j g : Int) (h0 : 0 ≤ j) (h1 : j ≤ 1000) (h2 : 0 ≤ g) (h3 : g ≤ 1000) : bd64 (j, g) := ⟨⟨by show _ ≤ j; omega, by show j ≤ _; omega⟩, by show _ ≤ g; omega, by show g ≤ _; omega⟩
end Go.Proofs.Ytbkheglogmkbgaa
