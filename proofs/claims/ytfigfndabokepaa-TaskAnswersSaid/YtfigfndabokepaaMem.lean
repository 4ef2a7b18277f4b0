/- Words for memory: a slice value that reads as a list of integers; what stays of it. -/
import Derived.Test.YtfigfndabokepaaRows
import Derived.WalkKit
import Derived.Below
import Derived.Laws.OwnMore
import Derived.Deep.Draws
import Derived.Lib.Hide
import Derived.Maps.OwnSet
import Derived.Maps.AppendAt
import Derived.Deep.AppendLies
import Derived.OwnWalk
import Derived.BigQuiet
namespace Go.Proofs.Ytfigfndabokepaa
open Go.RowKit

/-- all blocks of the one world are in the other as they were -/
def Ext (w W : World) : Prop := Below w.heap.size w W
theorem Ext.refl (w : World) : Ext w w := Below.refl _ _
theorem Ext.trans {a b c : World} (h : Ext a b) (k : Ext b c) : Ext a c := Below.trans h (Below.mono k h.size)
theorem Ext.alloc {w W : World} (h : Ext w W) (o : Obj) : Ext w (W.alloc o) := Below.alloc h h.size o
theorem Ext.drewN {w W : World} (h : Ext w W) (n : Nat) : Ext w (W.drewN n) := ⟨h.os, h.tape, h.output, h.size, h.block⟩
theorem Ext.drew {w W : World} (h : Ext w W) : Ext w W.drew := Below.drew h
theorem Ext.setCell {w W : World} (h : Ext w W) {p : Addr} (hp : w.heap.size ≤ p.block) (u : Value) : Ext w (W.setCell p u) := Below.setCell h hp u
theorem Ext.cell {w W : World} (h : Ext w W) {a : Addr} {v : Value} (hv : w.cell? a = some v) : W.cell? a = some v := (Below.cell h (World.block_lt_of_cell? _ _ hv)).trans hv
theorem Ext.grown {w W W' : World} (h : Ext w W) {row : Option Nat} (hg : W.grownBy W' row) (hr : ∀ k, row = some k → w.heap.size ≤ k) : Ext w W' := Below.grown h hg h.size hr
theorem Ext.size {w W : World} (h : Ext w W) : w.heap.size ≤ W.heap.size := Below.size h

/-- a slice value that reads as these integers -/
def Ints (w : World) (v : Value) (xs : List Int) : Prop :=
  xs.length ≤ maxLen ∧ (∀ n ∈ xs, -9223372036854775808 ≤ n ∧ n ≤ 9223372036854775807) ∧
  ∃ A cap, v = .slice A xs.length cap ∧ xs.length ≤ cap ∧
    (0 < xs.length → ∃ b off, A = some ⟨b, off, none⟩ ∧ ∀ j, j < xs.length → w.cell? ⟨b, off + j, none⟩ = some (.int .i64 (xs.getD j 0)))

theorem Ints.ext {w W : World} {v : Value} {xs : List Int} (h : Ints w v xs) (hE : Ext w W) : Ints W v xs := by
  obtain ⟨h1, h2, A, cap, rfl, hc, h3⟩ := h
  refine ⟨h1, h2, A, cap, rfl, hc, fun hl => ?_⟩
  obtain ⟨b, off, rfl, hc⟩ := h3 hl
  exact ⟨b, off, rfl, fun j hj => hE.cell (hc j hj)⟩
theorem Ints.cells {w : World} {A : Option Addr} {n c : Nat} {xs : List Int} (h : Ints w (.slice A n c) xs) (hl : 0 < xs.length) :
    ∃ b off, A = some ⟨b, off, none⟩ ∧ ∀ j, j < xs.length → w.cell? ⟨b, off + j, none⟩ = some (.int .i64 (xs.getD j 0)) := by
  obtain ⟨_, _, A', c', hv, _, h3⟩ := h
  cases hv
  exact h3 hl
theorem Ints.getD_bd {w : World} {v : Value} {xs : List Int} (h : Ints w v xs) (j : Nat) : -9223372036854775808 ≤ xs.getD j 0 ∧ xs.getD j 0 ≤ 9223372036854775807 := by
  rw [List.getD_eq_getElem?_getD]
  by_cases hj : j < xs.length
  · rw [List.getElem?_eq_getElem hj]; exact h.2.1 _ (List.getElem_mem _)
  · rw [List.getElem?_eq_none (by omega)]; simp
theorem Ints.nil (w : World) (A : Option Addr) (c : Nat) : Ints w (.slice A 0 c) [] := ⟨by simp, by simp, A, c, rfl, by simp, by simp⟩

/-- a store where no integer lies -/
theorem Ints.setNot {w : World} {v : Value} {xs : List Int} (h : Ints w v xs) {p : Addr} {u : Value} (hc : w.cell? p = some u) (hu : ∀ k n, u ≠ .int k n) (x : Value) : Ints (w.setCell p x) v xs := by
  obtain ⟨h1, h2, A, cap, rfl, hcap, h3⟩ := h
  refine ⟨h1, h2, A, cap, rfl, hcap, fun hl => ?_⟩
  obtain ⟨b, off, rfl, hcc⟩ := h3 hl
  refine ⟨b, off, rfl, fun j hj => ?_⟩
  rw [World.cell?_setCell_other _ _ _ _ (fun e => by subst e; rw [hcc j hj] at hc; cases hc; exact hu _ _ rfl)]
  exact hcc j hj
/-- integers that a call's own row holds -/
theorem Ints.own {w : World} {base : Nat} {e : TypeId} {v : Value} {xs : List Int} (h : w.ownsRow base e 1 v xs.length (xs.map (Value.int .i64))) (hm : xs.length ≤ maxLen)
    (hb : ∀ n ∈ xs, -9223372036854775808 ≤ n ∧ n ≤ 9223372036854775807) : Ints w v xs := by
  rcases h.2 with ⟨rfl, hx⟩ | ⟨g, cap, cur, hv, hg, hh, hnc, h4⟩
  · obtain rfl : xs = [] := by simpa using hx
    exact Ints.nil w _ _
  · refine ⟨hm, hb, some ⟨g, 0, none⟩, cap, hv, hnc, fun hl => ⟨g, 0, rfl, fun j hj => ?_⟩⟩
    have hx := h.cells (g := g) (by rw [hv]; rfl) j (.int .i64 (xs.getD j 0)) (by
      rw [List.getElem?_map, List.getD_eq_getElem?_getD, List.getElem?_eq_getElem hj]; rfl)
    have e : (⟨g, 0, none⟩ : Addr).add j = ⟨g, 0 + j, none⟩ := by
      by_cases h0 : j = 0
      · subst h0; rfl
      · simp [Addr.add, h0]
    rw [e] at hx
    exact hx

/-- a region whose order is open, over a class of worlds -/
theorem wp_region_class {P : Program} {id : Nat} {Q : Exit → Act → World → Prop} {a : Act} {w : World} {l : List Oper} (C : World → Prop) (hm : P.follows .mixedOrders = true) (hB : Region.lexB .any l.toArray = true) (hC : C w.drew)
    (h : wpQuiet P l.toArray C (fun a' => ∀ w', C w' → Q .normal a' w') l a) : (Code.region id l.toArray true).wp P Q a w :=
  wp_region_quiet (C := C) hm hB hC (by simpa using h)
theorem ret_bool {a b : Bool} (h : a = b) : Ending.returned (.bool a) = .returned (.bool b) := by rw [h]
theorem ret_int {k : IntKind} {a b : Int} (h : a = b) : Ending.returned (.int k a) = .returned (.int k b) := by rw [h]
theorem bcell {W w1 : World} (hb : Below W.heap.size W w1) : (∀ b o, b < W.heap.size → w1.cell? ⟨b, o, none⟩ = W.cell? ⟨b, o, none⟩) ∧ (∀ b o, b < W.heap.size → w1.frozen? ⟨b, o, none⟩ = W.frozen? ⟨b, o, none⟩) :=
  ⟨fun b o h => hb.cell (p := ⟨b, o, none⟩) h, fun b o h => hb.frozen (p := ⟨b, o, none⟩) h⟩
theorem below_drewN {B : Nat} {a w : World} (h : Below B a w) (n : Nat) : Below B a (w.drewN n) := ⟨h.os, h.tape, h.output, h.size, h.block⟩

/-- a slice of integers that a call has made: it lies in blocks from B on -/
def Own (B : Nat) (w : World) (v : Value) (xs : List Int) : Prop :=
  w.ownsRow B 3 1 v xs.length (xs.map (Value.int .i64)) ∧ ∀ n ∈ xs, -9223372036854775808 ≤ n ∧ n ≤ 9223372036854775807
theorem Own.len {B : Nat} {w : World} {v : Value} {xs : List Int} (h : Own B w v xs) : xs.length ≤ maxLen := by
  rcases h.1.2 with ⟨_, hx⟩ | ⟨g, cap, cur, hv, hg, hh, hnc, h4, _⟩ <;> omega
theorem Own.ints {B : Nat} {w : World} {v : Value} {xs : List Int} (h : Own B w v xs) : Ints w v xs := Ints.own h.1 h.len h.2
theorem Own.lt {B : Nat} {w : World} {v : Value} {xs : List Int} (h : Own B w v xs) : ∀ k, v.ownBlock = some k → B ≤ k ∧ k < w.heap.size := h.1.lt
theorem Own.shape {B : Nat} {w : World} {v : Value} {xs : List Int} (h : Own B w v xs) : ∃ A c, v = .slice A xs.length c ∧ xs.length ≤ c := by
  obtain ⟨_, _, A, c, rfl, hc, _⟩ := h.ints
  exact ⟨A, c, rfl, hc⟩
theorem Own.ext {B : Nat} {w W : World} {v : Value} {xs : List Int} (h : Own B w v xs) (hE : Ext w W) : Own B W v xs := by
  obtain ⟨⟨h1, h2⟩, hb⟩ := h
  refine ⟨⟨h1, ?_⟩, hb⟩
  rcases h2 with h2 | ⟨g, cap, cur, hv, hg, hh, hr⟩
  · exact .inl h2
  · have hlt : g < w.heap.size := by
      rcases Nat.lt_or_ge g w.heap.size with hlt | hge
      · exact hlt
      · rw [Array.getElem?_eq_none hge] at hh; cases hh
    exact .inr ⟨g, cap, cur, hv, hg, (Below.block hE g hlt).trans hh, hr⟩
theorem Own.nil (B : Nat) (w : World) : Own B w (.slice none 0 0) [] := ⟨World.ownsRow_nil _ _ _ _, by simp⟩
theorem Own.made (w : World) (cur : Array Value) (cap : Nat) {B : Nat} (hb : B ≤ w.heap.size) (hm : cap ≤ maxLen) (hs : cur.size = cap) :
    Own B (w.alloc (.cells cur 3)) (.slice (some ⟨w.heap.size, 0, none⟩) 0 cap) [] := ⟨World.ownsRow_made w cur cap hb hm (by omega), by simp⟩
theorem Own.lit (w : World) (xs : List Int) {B : Nat} (hb : B ≤ w.heap.size) (hm : xs.length ≤ maxLen) (hx : ∀ n ∈ xs, -9223372036854775808 ≤ n ∧ n ≤ 9223372036854775807) :
    Own B (w.alloc (.cells (xs.map (Value.int .i64)).toArray 3)) (.slice (some ⟨w.heap.size, 0, none⟩) xs.length xs.length) xs := by
  have h := World.ownsRow_lit (e := 3) (size := 1) w (xs.map (Value.int .i64)).toArray xs.length hb hm (by simp)
  exact ⟨by simpa using h, hx⟩
/-- a row that isn't empty, with its block -/
theorem Own.pos {B : Nat} {w : World} {A : Option Addr} {n c : Nat} {xs : List Int} (h : Own B w (.slice A n c) xs) (hl : 0 < xs.length) :
    ∃ g, A = some ⟨g, 0, none⟩ ∧ B ≤ g ∧ g < w.heap.size ∧ (∀ j, j < xs.length → w.cell? ⟨g, j, none⟩ = some (.int .i64 (xs.getD j 0))) ∧ (∀ j, w.frozen? ⟨g, j, none⟩ = false) ∧
      (∀ j u, j < xs.length → (-9223372036854775808 ≤ u ∧ u ≤ 9223372036854775807) → Own B (w.setCell ⟨g, j, none⟩ (.int .i64 u)) (.slice A n c) (xs.set j u)) := by
  obtain ⟨h1, hb⟩ := h
  have hh := h1
  rcases h1.2 with ⟨_, hx⟩ | ⟨g, cap, cur, hv, hg, hh', hnc, h4, h5, h6⟩
  · omega
  · cases hv
    refine ⟨g, rfl, hg, (hh.lt g rfl).2, fun j hj => ?_, fun j => World.ownsRow.frozenAt hh j, fun j u hj hu => ?_⟩
    · rw [World.ownsRow.cellAt hh j (by omega), List.getElem?_map, List.getD_eq_getElem?_getD, List.getElem?_eq_getElem hj]; rfl
    · have hs := World.ownsRow.stored hh j (.int .i64 u)
      refine ⟨?_, ?_⟩
      · rw [List.map_set, List.length_set]; exact hs.1
      · intro n hn
        rcases List.mem_or_eq_of_mem_set hn with h | h
        · exact hb n h
        · subst h; exact hu
theorem Own.set {B g n c : Nat} {w : World} {xs : List Int} (h : Own B w (.slice (some ⟨g, 0, none⟩) n c) xs) {j : Nat} (hj : j < xs.length) {u : Int} (hu : -9223372036854775808 ≤ u ∧ u ≤ 9223372036854775807) :
    Own B (w.setCell ⟨g, j, none⟩ (.int .i64 u)) (.slice (some ⟨g, 0, none⟩) n c) (xs.set j u) := by
  obtain ⟨g', he, _, _, _, _, hs⟩ := h.pos (by omega)
  cases he
  exact hs j u hj hu
theorem Own.setOther {B : Nat} {w : World} {v : Value} {xs : List Int} (h : Own B w v xs) {p : Addr} (hp : v.ownBlock ≠ some p.block) (u : Value) : Own B (w.setCell p u) v xs := by
  obtain ⟨⟨h1, h2⟩, hb⟩ := h
  refine ⟨⟨h1, ?_⟩, hb⟩
  rcases h2 with h2 | ⟨g, cap, cur, rfl, hg, hh, hr⟩
  · exact .inl h2
  · exact .inr ⟨g, cap, cur, rfl, hg, (Below.heap_setCell _ _ _ _ (fun e => hp (by simp [Value.ownBlock, e]))).trans hh, hr⟩
theorem Own.take {B : Nat} {w : World} {A : Option Addr} {n c : Nat} {xs : List Int} (h : Own B w (.slice A n c) xs) (k : Nat) (hk : k ≤ xs.length) (h0 : 0 < xs.length) : Own B w (.slice A k c) (xs.take k) := by
  obtain ⟨⟨h1, h2⟩, hb⟩ := h
  have hl : (xs.take k).length = k := by simp; omega
  refine ⟨⟨by simp, ?_⟩, fun n hn => hb n (List.mem_of_mem_take hn)⟩
  rw [hl]
  rcases h2 with ⟨_, h2⟩ | ⟨g, cap, cur, hv, hg, hh, hnc, hcm, hcs, ht⟩
  · omega
  · cases hv
    refine .inr ⟨g, _, cur, rfl, hg, hh, by omega, hcm, hcs, ?_⟩
    rw [List.map_take, ← ht, List.take_take, Nat.min_eq_left (by omega), Nat.mul_one]
theorem Own.mono {B B' : Nat} {w : World} {v : Value} {xs : List Int} (h : Own B w v xs) (hB : B' ≤ B) : Own B' w v xs := by
  obtain ⟨⟨h1, h2⟩, hb⟩ := h
  refine ⟨⟨h1, ?_⟩, hb⟩
  rcases h2 with h2 | ⟨g, cap, cur, hv, hg, hr⟩
  · exact .inl h2
  · exact .inr ⟨g, cap, cur, hv, by omega, hr⟩
theorem Own.setBelow {B : Nat} {w : World} {v : Value} {xs : List Int} (h : Own B w v xs) {p : Addr} (hp : p.block < B) (u : Value) : Own B (w.setCell p u) v xs :=
  ⟨ownsRow_setCell_below h.1 hp u, h.2⟩
/-- a step that writes nothing of it leaves it -/
theorem Own.kept {B : Nat} {w w' : World} {v : Value} {xs : List Int} {row : Option Nat} (h : Own B w v xs) (hg : w.grownBy w' row) (hne : v.ownBlock = none ∨ v.ownBlock ≠ row) : Own B w' v xs := ⟨h.1.kept hg hne, h.2⟩

/-- a slice of a block from B on -/
def From (B : Nat) (A : Option Addr) : Prop := ∀ a, A = some a → B ≤ a.block
theorem From.none (B : Nat) : From B none := fun a h => by cases h
theorem Own.from {B n c : Nat} {A : Option Addr} {w : World} {xs : List Int} (h : Own B w (.slice A n c) xs) : From B A := fun a ha => by
  subst ha
  rcases h.1.2 with ⟨h0, _⟩ | ⟨g, cap, cur, hv, hg, _⟩
  · cases h0
  · cases hv; exact hg
theorem From.mono {B B' : Nat} {A : Option Addr} (h : From B A) (hB : B' ≤ B) : From B' A := fun a ha => Nat.le_trans hB (h a ha)

/-- a list of integers elsewhere stays -/
theorem Ints.setFar {w : World} {A : Option Addr} {n c : Nat} {xs : List Int} (h : Ints w (.slice A n c) xs) {p : Addr} (hp : ∀ a, A = some a → a.block ≠ p.block) (x : Value) : Ints (w.setCell p x) (.slice A n c) xs := by
  obtain ⟨h1, h2, A', cap, hv, hcap, h3⟩ := h
  cases hv
  refine ⟨h1, h2, A, c, rfl, hcap, fun hl => ?_⟩
  obtain ⟨b, off, rfl, hcc⟩ := h3 hl
  refine ⟨b, off, rfl, fun j hj => ?_⟩
  rw [World.cell?_setCell_other _ _ _ _ (fun e => hp ⟨b, off, none⟩ rfl (by rw [e]))]
  exact hcc j hj
theorem Ints.grown {w w' : World} {A : Option Addr} {n c : Nat} {xs : List Int} {row : Option Nat} (h : Ints w (.slice A n c) xs) (hg : w.grownBy w' row) (hne : ∀ a, A = some a → some a.block ≠ row) : Ints w' (.slice A n c) xs := by
  obtain ⟨h1, h2, A', cap, hv, hcap, h3⟩ := h
  cases hv
  refine ⟨h1, h2, A, c, rfl, hcap, fun hl => ?_⟩
  obtain ⟨b, off, rfl, hcc⟩ := h3 hl
  exact ⟨b, off, rfl, fun j hj => hg.cell (hcc j hj) (hne ⟨b, off, none⟩ rfl)⟩

theorem intInfo : (Try.prog.info? 3).map (fun i => (i.zero, i.size, i.bytes)) = some (some (.int .i64 0), 1, 8) := by kernel_rfl

theorem run_app (w : World) (B : Nat) (v : Value) (xs : List Int) (hown : Own B w v xs) (y : Value) (ys : List Int) (hy : Ints w y ys) (hl : xs.length + ys.length ≤ 1048576) (hB : B ≤ w.heap.size) :
    ∃ v' w', (Builtin.append_ #[44, 44] 44 #[v, y]).run Try.prog w = .ok v' w' ∧ Own B w' v' (xs ++ ys) ∧ w.grownBy w' v.ownBlock ∧ (v'.ownBlock = v.ownBlock ∨ v'.ownBlock = some w.heap.size) := by
  obtain ⟨hm, hb, A, cap, rfl, hcap, hc⟩ := hy
  obtain ⟨i0, hi, hz0, hz1, hz2⟩ := info_parts intInfo
  rcases A with _ | ad
  · have h0 : ys = [] := by
      cases ys with
      | nil => rfl
      | cons a l => obtain ⟨b, off, h, _⟩ := hc (by simp); cases h
    subst h0
    have hr : (Builtin.append_ #[44, 44] 44 #[v, .slice none 0 cap]).run Try.prog w = .ok v w := by
      rcases hown.1.2 with ⟨rfl, _⟩ | ⟨g, cap', cur, rfl, _, _, hnc, _⟩
      · simp [Builtin.append_, run_underlying Try.underlying44, sizeOf, typeInfo, hi, Builtin.lenOf, Builtin.firstCells]
      · simp [Builtin.append_, run_underlying Try.underlying44, sizeOf, typeInfo, hi, Builtin.lenOf, Builtin.firstCells, hnc, storeCells]
    exact ⟨v, w, hr, by simpa using hown, World.grownBy.refl w _, .inl rfl⟩
  · have hcells : ∀ j u, (ys.map (Value.int .i64))[j]? = some u → w.cell? (ad.add j) = some u := by
      intro j u hu
      rw [List.getElem?_map] at hu
      cases h : ys[j]? with
      | none => rw [h] at hu; cases hu
      | some z =>
        rw [h] at hu
        cases hu
        have hj : j < ys.length := by
          rcases Nat.lt_or_ge j ys.length with hlt | hge
          · exact hlt
          · rw [List.getElem?_eq_none hge] at h; cases h
        obtain ⟨b, off, he, hcc⟩ := hc (by omega)
        cases he
        have := hcc j hj
        rw [List.getD_eq_getElem?_getD, h] at this
        have e : (⟨b, off, none⟩ : Addr).add j = ⟨b, off + j, none⟩ := by
          by_cases h0 : j = 0
          · subst h0; rfl
          · simp [Addr.add, h0]
        rw [e]; exact this
    obtain ⟨v', w', hr, h2, h3, _, h5⟩ := run_append_own_at (P := Try.prog) w B 44 44 3 i0 (.int .i64 0) 1 8 Try.underlying44 hi hz0 hz1 hz2 rfl (by decide) v xs.length _ hown.1 ad ys.length cap (ys.map (Value.int .i64)) (by simp) hcells
      (by intro u hu; obtain ⟨z, _, rfl⟩ := List.mem_map.1 hu; rfl) (by unfold maxLen; omega) (by omega) hB
    exact ⟨v', w', hr, ⟨by simpa using h2, by
      intro n hn
      rcases List.mem_append.1 hn with h | h
      · exact hown.2 n h
      · exact hb n h⟩, h3, h5⟩

theorem wp_app {o : Oper} {a : Act} {w : World} {K : Act → World → Prop} {Q : Exit → Act → World → Prop} (s x : Operand)
    (ho : o.op = .call { callee := .builtin .append, args := #[s, x], argTypes := #[44, 44] }) (hty : o.type = 44)
    (B : Nat) (v : Value) (xs : List Int) (hs : a.eval s = v) (hown : Own B w v xs) (y : Value) (ys : List Int) (hx : a.eval x = y) (hy : Ints w y ys) (hl : xs.length + ys.length ≤ 1048576) (hB : B ≤ w.heap.size)
    (h : ∀ v' w', Own B w' v' (xs ++ ys) → w.grownBy w' v.ownBlock → (v'.ownBlock = v.ownBlock ∨ v'.ownBlock = some w.heap.size) → K (a.put o.dst v') w') : o.wp Try.prog a w K Q := by
  obtain ⟨v', w', hr, h2, h3, h4⟩ := run_app w B v xs hown y ys hy hl hB
  unfold Oper.wp execOp
  simp only [ho, hty, resolve, invoke, builtin, Sem.run_bind, Sem.run_pure, Result.andThen_ok, List.map_toArray, List.map_cons, List.map_nil, hs, hx, hr]
  exact h v' w' h2 h3 h4

theorem wpList_app {ops : Array Oper} {rest : List Oper} {o : Oper} {a : Act} {w : World} {Q : Exit → Act → World → Prop} (hgd : o.guard = none) (s x : Operand)
    (ho : o.op = .call { callee := .builtin .append, args := #[s, x], argTypes := #[44, 44] }) (hty : o.type = 44)
    (B : Nat) (v : Value) (xs : List Int) (hs : a.eval s = v) (hown : Own B w v xs) (y : Value) (ys : List Int) (hx : a.eval x = y) (hy : Ints w y ys) (hl : xs.length + ys.length ≤ 1048576) (hB : B ≤ w.heap.size)
    (h : ∀ v' w', Own B w' v' (xs ++ ys) → w.grownBy w' v.ownBlock → (v'.ownBlock = v.ownBlock ∨ v'.ownBlock = some w.heap.size) → wpList Try.prog ops Q rest (a.put o.dst v') w') : wpList Try.prog ops Q (o :: rest) a w :=
  wpList_plain hgd fun _ hK => wp_app s x ho hty B v xs hs hown y ys hx hy hl hB fun v' w' h2 h3 h4 => hK _ _ (h v' w' h2 h3 h4)

/-- .. of an operation that is guarded -/
theorem wpList_appg {ops : Array Oper} {rest : List Oper} {o : Oper} {a : Act} {w : World} {Q : Exit → Act → World → Prop} (hgd : Region.wanted o (yielded ops a.tmps) = true) (s x : Operand)
    (ho : o.op = .call { callee := .builtin .append, args := #[s, x], argTypes := #[44, 44] }) (hty : o.type = 44)
    (B : Nat) (v : Value) (xs : List Int) (hs : a.eval s = v) (hown : Own B w v xs) (y : Value) (ys : List Int) (hx : a.eval x = y) (hy : Ints w y ys) (hl : xs.length + ys.length ≤ 1048576) (hB : B ≤ w.heap.size)
    (h : ∀ v' w', Own B w' v' (xs ++ ys) → w.grownBy w' v.ownBlock → (v'.ownBlock = v.ownBlock ∨ v'.ownBlock = some w.heap.size) → wpList Try.prog ops Q rest (a.put o.dst v') w') : wpList Try.prog ops Q (o :: rest) a w :=
  wpList_step fun _ hK => by
    rw [if_pos hgd]
    exact wp_app s x ho hty B v xs hs hown y ys hx hy hl hB fun v' w' h2 h3 h4 => hK _ _ (h v' w' h2 h3 h4)

theorem step_appg {ops : Array Oper} {o : Oper} {a : Act} {w : World} {K : Act → World → Prop} {Q : Exit → Act → World → Prop} {E : Prop} (hw : Region.wanted o (yielded ops a.tmps) = true) (s x : Operand)
    (ho : o.op = .call { callee := .builtin .append, args := #[s, x], argTypes := #[44, 44] }) (hty : o.type = 44)
    (B : Nat) (v : Value) (xs : List Int) (hs : a.eval s = v) (hown : Own B w v xs) (y : Value) (ys : List Int) (hx : a.eval x = y) (hy : Ints w y ys) (hl : xs.length + ys.length ≤ 1048576) (hB : B ≤ w.heap.size)
    (h : ∀ v' w', Own B w' v' (xs ++ ys) → w.grownBy w' v.ownBlock → (v'.ownBlock = v.ownBlock ∨ v'.ownBlock = some w.heap.size) → K (a.put o.dst v') w') :
    if Region.wanted o (yielded ops a.tmps) = true then Oper.wp Try.prog o a w K Q else E := by
  rw [if_pos hw]
  exact wp_app s x ho hty B v xs hs hown y ys hx hy hl hB h

theorem step_app {ops : Array Oper} {o : Oper} {a : Act} {w : World} {K : Act → World → Prop} {Q : Exit → Act → World → Prop} {E : Prop} (hgd : o.guard = none) (s x : Operand)
    (ho : o.op = .call { callee := .builtin .append, args := #[s, x], argTypes := #[44, 44] }) (hty : o.type = 44)
    (B : Nat) (v : Value) (xs : List Int) (hs : a.eval s = v) (hown : Own B w v xs) (y : Value) (ys : List Int) (hx : a.eval x = y) (hy : Ints w y ys) (hl : xs.length + ys.length ≤ 1048576) (hB : B ≤ w.heap.size)
    (h : ∀ v' w', Own B w' v' (xs ++ ys) → w.grownBy w' v.ownBlock → (v'.ownBlock = v.ownBlock ∨ v'.ownBlock = some w.heap.size) → K (a.put o.dst v') w') :
    if Region.wanted o (yielded ops a.tmps) = true then Oper.wp Try.prog o a w K Q else E := by
  have hw : Region.wanted o (yielded ops a.tmps) = true := by simp [Region.wanted, hgd]
  rw [if_pos hw]
  exact wp_app s x ho hty B v xs hs hown y ys hx hy hl hB h

/-- one integer, laid in a block of its own -/
theorem Ints.one (w : World) (x : Int) (c : Nat) (hc : 1 ≤ c) (hx : -9223372036854775808 ≤ x ∧ x ≤ 9223372036854775807) :
    Ints (w.alloc (.cells #[.int .i64 x] 3)) (.slice (some ⟨w.heap.size, 0, none⟩) 1 c) [x] := by
  refine ⟨by simp [maxLen], by simpa using hx, _, c, rfl, hc, fun _ => ⟨w.heap.size, 0, rfl, fun j hj => ?_⟩⟩
  obtain rfl : j = 0 := by simp at hj; omega
  simp

theorem Ints.one' (w : World) (p : Nat) (x : Int) (c : Nat) (hp : p = w.heap.size) (hc : 1 ≤ c) (hx : -9223372036854775808 ≤ x ∧ x ≤ 9223372036854775807) :
    Ints (w.alloc (.cells #[.int .i64 x] 3)) (.slice (some ⟨p, 0, none⟩) 1 c) [x] := by subst hp; exact Ints.one w x c hc hx
/-- a map value that is the set of these integers -/
def SetIs (w : World) (v : Value) (xs : List Int) : Prop :=
  ∃ (b n : Nat) (D : DataW Unit), v = .map (some b) ∧ w.ownsMap Try.prog 3 unitElem b n D ∧ ∀ c : Int, Maps.has D (.int .i64 c) = decide (c ∈ xs)
theorem SetIs.ext {w W : World} {v : Value} {xs : List Int} (h : SetIs w v xs) (hE : Ext w W) : SetIs W v xs := by
  obtain ⟨b, n, D, rfl, ⟨es, clock, hb, hr⟩, hD⟩ := h
  have hlt : b < w.heap.size := by
    rcases Nat.lt_or_ge b w.heap.size with hlt | hge
    · exact hlt
    · rw [Array.getElem?_eq_none hge] at hb; cases hb
  exact ⟨b, n, D, rfl, ⟨es, clock, (Below.block hE b hlt).trans hb, hr⟩, hD⟩
/-- the numbers of a list as keys of a set -/
def setD (xs : List Int) : DataW Unit := Maps.setOf (.agg []) (xs.map (Lit.int .i64))
theorem setD_nil : setD [] = .map [] := rfl
theorem setD_snoc (xs : List Int) (x : Int) : setD (xs ++ [x]) = (setD xs).put (.int .i64 x) (.agg []) := by simp [setD, Maps.setOf_snoc]
theorem has_setD (xs : List Int) (c : Int) : Maps.has (setD xs) (.int .i64 c) = decide (c ∈ xs) := by
  rw [setD, Maps.has_setOf _ _ _ (by intro x hx; obtain ⟨y, _, rfl⟩ := List.mem_map.1 hx; exact trivial)]
  rw [Bool.eq_iff_iff]
  simp [List.any_map, List.any_eq_true, Lit.sameKey]
theorem keyedInt : Maps.Keyed Try.prog 3 := Maps.int_keyed Try.underlying3
end Go.Proofs.Ytfigfndabokepaa
