/- A list of bools that a call has made. -/
import Derived.Test.YtfhkmaikilgolaaMem
import Derived.Laws.MakeOwn
namespace Go.Proofs.Ytfhkmaikilgolaa
open Go.RowKit

theorem boolInfo : (Try.prog.info? 4).map (fun i => (i.zero, i.size, i.bytes)) = some (some (.bool false), 1, 1) := by kernel_rfl
/-- a list of bools that a call has made: it lies in blocks from B on -/
def Flags (B : Nat) (w : World) (g : Nat) (n : Nat) (bs : List Bool) : Prop :=
  bs.length = n ∧ w.ownsRow B 4 1 (.slice (some ⟨g, 0, none⟩) n n) n (bs.map Value.bool)
theorem Flags.ge {B g n : Nat} {w : World} {bs : List Bool} (h : Flags B w g n bs) : B ≤ g ∧ g < w.heap.size := h.2.lt g rfl
theorem Flags.cell {B g n : Nat} {w : World} {bs : List Bool} (h : Flags B w g n bs) (j : Nat) (hj : j < n) : w.cell? ⟨g, j, none⟩ = some (.bool (bs.getD j false)) := by
  rw [World.ownsRow.cellAt h.2 j (by omega), List.getElem?_map, List.getD_eq_getElem?_getD, List.getElem?_eq_getElem (by rw [h.1]; exact hj)]; rfl
theorem Flags.frozen {B g n : Nat} {w : World} {bs : List Bool} (h : Flags B w g n bs) (j : Nat) : w.frozen? ⟨g, j, none⟩ = false := World.ownsRow.frozenAt h.2 j
theorem Flags.set {B g n : Nat} {w : World} {bs : List Bool} (h : Flags B w g n bs) (j : Nat) (b : Bool) : Flags B (w.setCell ⟨g, j, none⟩ (.bool b)) g n (bs.set j b) := by
  refine ⟨by rw [List.length_set]; exact h.1, ?_⟩
  rw [List.map_set]
  exact (World.ownsRow.stored h.2 j (.bool b)).1
theorem Flags.ext {B g n : Nat} {w W : World} {bs : List Bool} (h : Flags B w g n bs) (hE : Ext w W) : Flags B W g n bs := by
  obtain ⟨h0, h1, h2⟩ := h
  refine ⟨h0, h1, ?_⟩
  rcases h2 with h2 | ⟨g', cap, cur, hv, hg, hh, hr⟩
  · exact .inl h2
  · have hlt : g' < w.heap.size := by
      rcases Nat.lt_or_ge g' w.heap.size with hlt | hge
      · exact hlt
      · rw [Array.getElem?_eq_none hge] at hh; cases hh
    exact .inr ⟨g', cap, cur, hv, hg, (Below.block hE g' hlt).trans hh, hr⟩
/-- make([]bool, n) -/
theorem run_mkb (n : Nat) (hn : n ≤ 1048576) (w : World) : (Instr.makeSlice 50 (.int .i64 n) (.int .i64 n)).run Try.prog w = .ok (.slice (some ⟨w.heap.size, 0, none⟩) n n) (w.alloc (.cells ((List.replicate n false).map Value.bool).toArray 4)) := by
  obtain ⟨i0, hi, hz0, hz1, hz2⟩ := info_parts boolInfo
  have h := run_make (P := Try.prog) w 50 4 i0 (.bool false) Try.underlying50 hi hz0 .i64 .i64 n n (by omega) (by omega) (by rw [hz2]; omega) (by omega)
  simp only [Int.toNat_natCast] at h
  rw [h, hz1, Nat.mul_one]
  congr 3
  apply Array.toList_inj.1
  rw [show (Value.bool false).cells = #[Value.bool false] from rfl, toList_madeCells_one]
  simp
theorem Flags.made (w : World) (n : Nat) (hn : n ≤ 1048576) {B : Nat} (hB : B ≤ w.heap.size) : Flags B (w.alloc (.cells ((List.replicate n false).map Value.bool).toArray 4)) w.heap.size n (List.replicate n false) := by
  have h := World.ownsRow_lit (e := 4) (size := 1) w ((List.replicate n false).map Value.bool).toArray n hB (by unfold maxLen; omega) (by simp)
  exact ⟨by simp, by simpa using h⟩
theorem made_flags (n : Nat) (hn : n ≤ 1048576) : ∃ C : Array Value, (∀ w : World, (Instr.makeSlice 50 (.int .i64 n) (.int .i64 n)).run Try.prog w = .ok (.slice (some ⟨w.heap.size, 0, none⟩) n n) (w.alloc (.cells C 4))) ∧
    ∀ (w : World) (B : Nat), B ≤ w.heap.size → Flags B (w.alloc (.cells C 4)) w.heap.size n (List.replicate n false) :=
  ⟨_, run_mkb n hn, fun w _ hB => Flags.made w n hn hB⟩
theorem own_emptyAt (w : World) {B p : Nat} (hp : p = w.heap.size) (hB : B ≤ p) : Own B (w.alloc (.cells #[] 3)) (.slice (some ⟨p, 0, none⟩) 0 0) [] := by subst hp; exact Own.made w #[] 0 hB (by simp) rfl
/-- a list of integers elsewhere stays -/
theorem Ints.setFar {w : World} {A : Option Addr} {n c : Nat} {xs : List Int} (h : Ints w (.slice A n c) xs) {p : Addr} (hp : ∀ a, A = some a → a.block ≠ p.block) (x : Value) : Ints (w.setCell p x) (.slice A n c) xs := by
  obtain ⟨h1, h2, A', cap, hv, hcap, h3⟩ := h
  cases hv
  refine ⟨h1, h2, A, c, rfl, hcap, fun hl => ?_⟩
  obtain ⟨b, off, rfl, hcc⟩ := h3 hl
  refine ⟨b, off, rfl, fun j hj => ?_⟩
  rw [World.cell?_setCell_other _ _ _ _ (fun e => hp ⟨b, off, none⟩ rfl (by rw [e]))]
  exact hcc j hj
theorem Ints.grown {w w' : World} {A : Option Addr} {n c : Nat} {xs : List Int} {row : Option Nat} (h : Ints w (.slice A n c) xs) (hg : w.grownBy w' row) (hne : ∀ a, A = some a → some a.block ≠ row) : Ints w' (.slice A n c) xs := by
  obtain ⟨h1, h2, A', cap, hv, hcap, h3⟩ := h
  cases hv
  refine ⟨h1, h2, A, c, rfl, hcap, fun hl => ?_⟩
  obtain ⟨b, off, rfl, hcc⟩ := h3 hl
  exact ⟨b, off, rfl, fun j hj => hg.cell (hcc j hj) (hne ⟨b, off, none⟩ rfl)⟩
end Go.Proofs.Ytfhkmaikilgolaa
