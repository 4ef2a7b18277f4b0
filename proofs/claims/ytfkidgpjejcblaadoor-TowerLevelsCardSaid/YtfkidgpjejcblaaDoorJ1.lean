/- Joined by wip/merge.py: Mem, CPlain, CBase, Row, Data, Kinds, Grew. -/
import Derived.Test.YtfkidgpjejcblaaDoorRows
import Derived.WalkKit
import Derived.Below
import Derived.Laws.OwnMore
import Derived.Deep.Draws
import Derived.Lib.Hide
import Derived.Maps.OwnSet
import Derived.Maps.AppendAt
import Derived.Deep.AppendLies
import Derived.OwnWalk
import Derived.BigQuiet
import Derived.Outline
import Derived.LoopTactic
import Derived.WalkSpells
import Derived.Deep.QuietTactic
import Derived.Lib.SliceRun
import Derived.Deep.RegionHeld3
import Derived.Laws.MakeOwn
set_option linter.unusedVariables false
set_option linter.unusedSimpArgs false
set_option linter.unnecessarySimpa false
/- Words for memory: a slice value that reads as a list of integers; what stays of it. -/
namespace Go.Proofs.YtfkidgpjejcblaaDoor
open Go.RowKit

/-- all blocks of the one world are in the other as they were -/
def Ext (w W : World) : Prop := Below w.heap.size w W
theorem Ext.refl (w : World) : Ext w w := Below.refl _ _
theorem Ext.trans {a b c : World} (h : Ext a b) (k : Ext b c) : Ext a c := Below.trans h (Below.mono k h.size)
theorem Ext.alloc {w W : World} (h : Ext w W) (o : Obj) : Ext w (W.alloc o) := Below.alloc h h.size o
theorem Ext.drewN {w W : World} (h : Ext w W) (n : Nat) : Ext w (W.drewN n) := ⟨h.os, h.tape, h.output, h.size, h.block⟩
theorem Ext.drew {w W : World} (h : Ext w W) : Ext w W.drew := Below.drew h
theorem Ext.setCell {w W : World} (h : Ext w W) {p : Addr} (hp : w.heap.size ≤ p.block) (u : Value) : Ext w (W.setCell p u) := Below.setCell h hp u
theorem Ext.cell {w W : World} (h : Ext w W) {a : Addr} {v : Value} (hv : w.cell? a = some v) : W.cell? a = some v := (Below.cell h (World.block_lt_of_cell? _ _ hv)).trans hv
theorem Ext.grown {w W W' : World} (h : Ext w W) {row : Option Nat} (hg : W.grownBy W' row) (hr : ∀ k, row = some k → w.heap.size ≤ k) : Ext w W' := Below.grown h hg h.size hr
theorem Ext.size {w W : World} (h : Ext w W) : w.heap.size ≤ W.heap.size := Below.size h

/-- a slice value that reads as these integers -/
def Ints (w : World) (v : Value) (xs : List Int) : Prop :=
  xs.length ≤ maxLen ∧ (∀ n ∈ xs, -9223372036854775808 ≤ n ∧ n ≤ 9223372036854775807) ∧
  ∃ A cap, v = .slice A xs.length cap ∧ xs.length ≤ cap ∧
    (0 < xs.length → ∃ b off, A = some ⟨b, off, none⟩ ∧ ∀ j, j < xs.length → w.cell? ⟨b, off + j, none⟩ = some (.int .i64 (xs.getD j 0)))

theorem Ints.ext {w W : World} {v : Value} {xs : List Int} (h : Ints w v xs) (hE : Ext w W) : Ints W v xs := by
  obtain ⟨h1, h2, A, cap, rfl, hc, h3⟩ := h
  refine ⟨h1, h2, A, cap, rfl, hc, fun hl => ?_⟩
  obtain ⟨b, off, rfl, hc⟩ := h3 hl
  exact ⟨b, off, rfl, fun j hj => hE.cell (hc j hj)⟩
theorem Ints.cells {w : World} {A : Option Addr} {n c : Nat} {xs : List Int} (h : Ints w (.slice A n c) xs) (hl : 0 < xs.length) :
    ∃ b off, A = some ⟨b, off, none⟩ ∧ ∀ j, j < xs.length → w.cell? ⟨b, off + j, none⟩ = some (.int .i64 (xs.getD j 0)) := by
  obtain ⟨_, _, A', c', hv, _, h3⟩ := h
  cases hv
  exact h3 hl
theorem Ints.nil (w : World) (A : Option Addr) (c : Nat) : Ints w (.slice A 0 c) [] := ⟨by simp, by simp, A, c, rfl, by simp, by simp⟩

/-- integers that a call's own row holds -/
theorem Ints.own {w : World} {base : Nat} {e : TypeId} {v : Value} {xs : List Int} (h : w.ownsRow base e 1 v xs.length (xs.map (Value.int .i64))) (hm : xs.length ≤ maxLen)
    (hb : ∀ n ∈ xs, -9223372036854775808 ≤ n ∧ n ≤ 9223372036854775807) : Ints w v xs := by
  rcases h.2 with ⟨rfl, hx⟩ | ⟨g, cap, cur, hv, hg, hh, hnc, h4⟩
  · obtain rfl : xs = [] := by simpa using hx
    exact Ints.nil w _ _
  · refine ⟨hm, hb, some ⟨g, 0, none⟩, cap, hv, hnc, fun hl => ⟨g, 0, rfl, fun j hj => ?_⟩⟩
    have hx := h.cells (g := g) (by rw [hv]; rfl) j (.int .i64 (xs.getD j 0)) (by
      rw [List.getElem?_map, List.getD_eq_getElem?_getD, List.getElem?_eq_getElem hj]; rfl)
    have e : (⟨g, 0, none⟩ : Addr).add j = ⟨g, 0 + j, none⟩ := by
      by_cases h0 : j = 0
      · subst h0; rfl
      · simp [Addr.add, h0]
    rw [e] at hx
    exact hx

/-- a region whose order is open, over a class of worlds -/
theorem wp_region_class {P : Program} {id : Nat} {Q : Exit → Act → World → Prop} {a : Act} {w : World} {l : List Oper} (C : World → Prop) (hm : P.follows .mixedOrders = true) (hB : Region.lexB .any l.toArray = true) (hC : C w.drew)
    (h : wpQuiet P l.toArray C (fun a' => ∀ w', C w' → Q .normal a' w') l a) : (Code.region id l.toArray true).wp P Q a w :=
  wp_region_quiet (C := C) hm hB hC (by simpa using h)
theorem ret_bool {a b : Bool} (h : a = b) : Ending.returned (.bool a) = .returned (.bool b) := by rw [h]
theorem ret_int {k : IntKind} {a b : Int} (h : a = b) : Ending.returned (.int k a) = .returned (.int k b) := by rw [h]
/-- a slice of integers that a call has made: it lies in blocks from B on -/
def Own (B : Nat) (w : World) (v : Value) (xs : List Int) : Prop :=
  w.ownsRow B 3 1 v xs.length (xs.map (Value.int .i64)) ∧ ∀ n ∈ xs, -9223372036854775808 ≤ n ∧ n ≤ 9223372036854775807
theorem Own.len {B : Nat} {w : World} {v : Value} {xs : List Int} (h : Own B w v xs) : xs.length ≤ maxLen := by
  rcases h.1.2 with ⟨_, hx⟩ | ⟨g, cap, cur, hv, hg, hh, hnc, h4, _⟩ <;> omega
theorem Own.lt {B : Nat} {w : World} {v : Value} {xs : List Int} (h : Own B w v xs) : ∀ k, v.ownBlock = some k → B ≤ k ∧ k < w.heap.size := h.1.lt
theorem Own.ext {B : Nat} {w W : World} {v : Value} {xs : List Int} (h : Own B w v xs) (hE : Ext w W) : Own B W v xs := by
  obtain ⟨⟨h1, h2⟩, hb⟩ := h
  refine ⟨⟨h1, ?_⟩, hb⟩
  rcases h2 with h2 | ⟨g, cap, cur, hv, hg, hh, hr⟩
  · exact .inl h2
  · have hlt : g < w.heap.size := by
      rcases Nat.lt_or_ge g w.heap.size with hlt | hge
      · exact hlt
      · rw [Array.getElem?_eq_none hge] at hh; cases hh
    exact .inr ⟨g, cap, cur, hv, hg, (Below.block hE g hlt).trans hh, hr⟩
theorem Own.nil (B : Nat) (w : World) : Own B w (.slice none 0 0) [] := ⟨World.ownsRow_nil _ _ _ _, by simp⟩
theorem Own.made (w : World) (cur : Array Value) (cap : Nat) {B : Nat} (hb : B ≤ w.heap.size) (hm : cap ≤ maxLen) (hs : cur.size = cap) :
    Own B (w.alloc (.cells cur 3)) (.slice (some ⟨w.heap.size, 0, none⟩) 0 cap) [] := ⟨World.ownsRow_made w cur cap hb hm (by omega), by simp⟩
theorem Own.lit (w : World) (xs : List Int) {B : Nat} (hb : B ≤ w.heap.size) (hm : xs.length ≤ maxLen) (hx : ∀ n ∈ xs, -9223372036854775808 ≤ n ∧ n ≤ 9223372036854775807) :
    Own B (w.alloc (.cells (xs.map (Value.int .i64)).toArray 3)) (.slice (some ⟨w.heap.size, 0, none⟩) xs.length xs.length) xs := by
  have h := World.ownsRow_lit (e := 3) (size := 1) w (xs.map (Value.int .i64)).toArray xs.length hb hm (by simp)
  exact ⟨by simpa using h, hx⟩
/-- a row that isn't empty, with its block -/
theorem Own.pos {B : Nat} {w : World} {A : Option Addr} {n c : Nat} {xs : List Int} (h : Own B w (.slice A n c) xs) (hl : 0 < xs.length) :
    ∃ g, A = some ⟨g, 0, none⟩ ∧ B ≤ g ∧ g < w.heap.size ∧ (∀ j, j < xs.length → w.cell? ⟨g, j, none⟩ = some (.int .i64 (xs.getD j 0))) ∧ (∀ j, w.frozen? ⟨g, j, none⟩ = false) ∧
      (∀ j u, j < xs.length → (-9223372036854775808 ≤ u ∧ u ≤ 9223372036854775807) → Own B (w.setCell ⟨g, j, none⟩ (.int .i64 u)) (.slice A n c) (xs.set j u)) := by
  obtain ⟨h1, hb⟩ := h
  have hh := h1
  rcases h1.2 with ⟨_, hx⟩ | ⟨g, cap, cur, hv, hg, hh', hnc, h4, h5, h6⟩
  · omega
  · cases hv
    refine ⟨g, rfl, hg, (hh.lt g rfl).2, fun j hj => ?_, fun j => World.ownsRow.frozenAt hh j, fun j u hj hu => ?_⟩
    · rw [World.ownsRow.cellAt hh j (by omega), List.getElem?_map, List.getD_eq_getElem?_getD, List.getElem?_eq_getElem hj]; rfl
    · have hs := World.ownsRow.stored hh j (.int .i64 u)
      refine ⟨?_, ?_⟩
      · rw [List.map_set, List.length_set]; exact hs.1
      · intro n hn
        rcases List.mem_or_eq_of_mem_set hn with h | h
        · exact hb n h
        · subst h; exact hu
theorem Own.set {B g n c : Nat} {w : World} {xs : List Int} (h : Own B w (.slice (some ⟨g, 0, none⟩) n c) xs) {j : Nat} (hj : j < xs.length) {u : Int} (hu : -9223372036854775808 ≤ u ∧ u ≤ 9223372036854775807) :
    Own B (w.setCell ⟨g, j, none⟩ (.int .i64 u)) (.slice (some ⟨g, 0, none⟩) n c) (xs.set j u) := by
  obtain ⟨g', he, _, _, _, _, hs⟩ := h.pos (by omega)
  cases he
  exact hs j u hj hu
theorem Own.setOther {B : Nat} {w : World} {v : Value} {xs : List Int} (h : Own B w v xs) {p : Addr} (hp : v.ownBlock ≠ some p.block) (u : Value) : Own B (w.setCell p u) v xs := by
  obtain ⟨⟨h1, h2⟩, hb⟩ := h
  refine ⟨⟨h1, ?_⟩, hb⟩
  rcases h2 with h2 | ⟨g, cap, cur, rfl, hg, hh, hr⟩
  · exact .inl h2
  · exact .inr ⟨g, cap, cur, rfl, hg, (Below.heap_setCell _ _ _ _ (fun e => hp (by simp [Value.ownBlock, e]))).trans hh, hr⟩
theorem Own.take {B : Nat} {w : World} {A : Option Addr} {n c : Nat} {xs : List Int} (h : Own B w (.slice A n c) xs) (k : Nat) (hk : k ≤ xs.length) (h0 : 0 < xs.length) : Own B w (.slice A k c) (xs.take k) := by
  obtain ⟨⟨h1, h2⟩, hb⟩ := h
  have hl : (xs.take k).length = k := by simp; omega
  refine ⟨⟨by simp, ?_⟩, fun n hn => hb n (List.mem_of_mem_take hn)⟩
  rw [hl]
  rcases h2 with ⟨_, h2⟩ | ⟨g, cap, cur, hv, hg, hh, hnc, hcm, hcs, ht⟩
  · omega
  · cases hv
    refine .inr ⟨g, _, cur, rfl, hg, hh, by omega, hcm, hcs, ?_⟩
    rw [List.map_take, ← ht, List.take_take, Nat.min_eq_left (by omega), Nat.mul_one]
theorem Own.mono {B B' : Nat} {w : World} {v : Value} {xs : List Int} (h : Own B w v xs) (hB : B' ≤ B) : Own B' w v xs := by
  obtain ⟨⟨h1, h2⟩, hb⟩ := h
  refine ⟨⟨h1, ?_⟩, hb⟩
  rcases h2 with h2 | ⟨g, cap, cur, hv, hg, hr⟩
  · exact .inl h2
  · exact .inr ⟨g, cap, cur, hv, by omega, hr⟩
theorem Own.setBelow {B : Nat} {w : World} {v : Value} {xs : List Int} (h : Own B w v xs) {p : Addr} (hp : p.block < B) (u : Value) : Own B (w.setCell p u) v xs :=
  ⟨ownsRow_setCell_below h.1 hp u, h.2⟩
/-- a step that writes nothing of it leaves it -/
theorem Own.kept {B : Nat} {w w' : World} {v : Value} {xs : List Int} {row : Option Nat} (h : Own B w v xs) (hg : w.grownBy w' row) (hne : v.ownBlock = none ∨ v.ownBlock ≠ row) : Own B w' v xs := ⟨h.1.kept hg hne, h.2⟩

/-- a slice of a block from B on -/
def From (B : Nat) (A : Option Addr) : Prop := ∀ a, A = some a → B ≤ a.block
theorem From.none (B : Nat) : From B none := fun a h => by cases h
theorem Own.from {B n c : Nat} {A : Option Addr} {w : World} {xs : List Int} (h : Own B w (.slice A n c) xs) : From B A := fun a ha => by
  subst ha
  rcases h.1.2 with ⟨h0, _⟩ | ⟨g, cap, cur, hv, hg, _⟩
  · cases h0
  · cases hv; exact hg
theorem From.mono {B B' : Nat} {A : Option Addr} (h : From B A) (hB : B' ≤ B) : From B' A := fun a ha => Nat.le_trans hB (h a ha)

theorem Ints.grown {w w' : World} {A : Option Addr} {n c : Nat} {xs : List Int} {row : Option Nat} (h : Ints w (.slice A n c) xs) (hg : w.grownBy w' row) (hne : ∀ a, A = some a → some a.block ≠ row) : Ints w' (.slice A n c) xs := by
  obtain ⟨h1, h2, A', cap, hv, hcap, h3⟩ := h
  cases hv
  refine ⟨h1, h2, A, c, rfl, hcap, fun hl => ?_⟩
  obtain ⟨b, off, rfl, hcc⟩ := h3 hl
  exact ⟨b, off, rfl, fun j hj => hg.cell (hcc j hj) (hne ⟨b, off, none⟩ rfl)⟩

theorem intInfo : (Tryd.prog.info? 3).map (fun i => (i.zero, i.size, i.bytes)) = some (some (.int .i64 0), 1, 8) := by kernel_rfl

theorem run_app (w : World) (B : Nat) (v : Value) (xs : List Int) (hown : Own B w v xs) (y : Value) (ys : List Int) (hy : Ints w y ys) (hl : xs.length + ys.length ≤ 1048576) (hB : B ≤ w.heap.size) :
    ∃ v' w', (Builtin.append_ #[22, 22] 22 #[v, y]).run Tryd.prog w = .ok v' w' ∧ Own B w' v' (xs ++ ys) ∧ w.grownBy w' v.ownBlock ∧ (v'.ownBlock = v.ownBlock ∨ v'.ownBlock = some w.heap.size) := by
  obtain ⟨hm, hb, A, cap, rfl, hcap, hc⟩ := hy
  obtain ⟨i0, hi, hz0, hz1, hz2⟩ := info_parts intInfo
  rcases A with _ | ad
  · have h0 : ys = [] := by
      cases ys with
      | nil => rfl
      | cons a l => obtain ⟨b, off, h, _⟩ := hc (by simp); cases h
    subst h0
    have hr : (Builtin.append_ #[22, 22] 22 #[v, .slice none 0 cap]).run Tryd.prog w = .ok v w := by
      rcases hown.1.2 with ⟨rfl, _⟩ | ⟨g, cap', cur, rfl, _, _, hnc, _⟩
      · simp [Builtin.append_, run_underlying Tryd.underlying22, sizeOf, typeInfo, hi, Builtin.lenOf, Builtin.firstCells]
      · simp [Builtin.append_, run_underlying Tryd.underlying22, sizeOf, typeInfo, hi, Builtin.lenOf, Builtin.firstCells, hnc, storeCells]
    exact ⟨v, w, hr, by simpa using hown, World.grownBy.refl w _, .inl rfl⟩
  · have hcells : ∀ j u, (ys.map (Value.int .i64))[j]? = some u → w.cell? (ad.add j) = some u := by
      intro j u hu
      rw [List.getElem?_map] at hu
      cases h : ys[j]? with
      | none => rw [h] at hu; cases hu
      | some z =>
        rw [h] at hu
        cases hu
        have hj : j < ys.length := by
          rcases Nat.lt_or_ge j ys.length with hlt | hge
          · exact hlt
          · rw [List.getElem?_eq_none hge] at h; cases h
        obtain ⟨b, off, he, hcc⟩ := hc (by omega)
        cases he
        have := hcc j hj
        rw [List.getD_eq_getElem?_getD, h] at this
        have e : (⟨b, off, none⟩ : Addr).add j = ⟨b, off + j, none⟩ := by
          by_cases h0 : j = 0
          · subst h0; rfl
          · simp [Addr.add, h0]
        rw [e]; exact this
    obtain ⟨v', w', hr, h2, h3, _, h5⟩ := run_append_own_at (P := Tryd.prog) w B 22 22 3 i0 (.int .i64 0) 1 8 Tryd.underlying22 hi hz0 hz1 hz2 rfl (by decide) v xs.length _ hown.1 ad ys.length cap (ys.map (Value.int .i64)) (by simp) hcells
      (by intro u hu; obtain ⟨z, _, rfl⟩ := List.mem_map.1 hu; rfl) (by unfold maxLen; omega) (by omega) hB
    exact ⟨v', w', hr, ⟨by simpa using h2, by
      intro n hn
      rcases List.mem_append.1 hn with h | h
      · exact hown.2 n h
      · exact hb n h⟩, h3, h5⟩

theorem wp_app {o : Oper} {a : Act} {w : World} {K : Act → World → Prop} {Q : Exit → Act → World → Prop} (s x : Operand)
    (ho : o.op = .call { callee := .builtin .append, args := #[s, x], argTypes := #[22, 22] }) (hty : o.type = 22)
    (B : Nat) (v : Value) (xs : List Int) (hs : a.eval s = v) (hown : Own B w v xs) (y : Value) (ys : List Int) (hx : a.eval x = y) (hy : Ints w y ys) (hl : xs.length + ys.length ≤ 1048576) (hB : B ≤ w.heap.size)
    (h : ∀ v' w', Own B w' v' (xs ++ ys) → w.grownBy w' v.ownBlock → (v'.ownBlock = v.ownBlock ∨ v'.ownBlock = some w.heap.size) → K (a.put o.dst v') w') : o.wp Tryd.prog a w K Q := by
  obtain ⟨v', w', hr, h2, h3, h4⟩ := run_app w B v xs hown y ys hy hl hB
  unfold Oper.wp execOp
  simp only [ho, hty, resolve, invoke, builtin, Sem.run_bind, Sem.run_pure, Result.andThen_ok, List.map_toArray, List.map_cons, List.map_nil, hs, hx, hr]
  exact h v' w' h2 h3 h4

theorem wpList_app {ops : Array Oper} {rest : List Oper} {o : Oper} {a : Act} {w : World} {Q : Exit → Act → World → Prop} (hgd : o.guard = none) (s x : Operand)
    (ho : o.op = .call { callee := .builtin .append, args := #[s, x], argTypes := #[22, 22] }) (hty : o.type = 22)
    (B : Nat) (v : Value) (xs : List Int) (hs : a.eval s = v) (hown : Own B w v xs) (y : Value) (ys : List Int) (hx : a.eval x = y) (hy : Ints w y ys) (hl : xs.length + ys.length ≤ 1048576) (hB : B ≤ w.heap.size)
    (h : ∀ v' w', Own B w' v' (xs ++ ys) → w.grownBy w' v.ownBlock → (v'.ownBlock = v.ownBlock ∨ v'.ownBlock = some w.heap.size) → wpList Tryd.prog ops Q rest (a.put o.dst v') w') : wpList Tryd.prog ops Q (o :: rest) a w :=
  wpList_plain hgd fun _ hK => wp_app s x ho hty B v xs hs hown y ys hx hy hl hB fun v' w' h2 h3 h4 => hK _ _ (h v' w' h2 h3 h4)

/-- one integer, laid in a block of its own -/
theorem Ints.one (w : World) (x : Int) (c : Nat) (hc : 1 ≤ c) (hx : -9223372036854775808 ≤ x ∧ x ≤ 9223372036854775807) :
    Ints (w.alloc (.cells #[.int .i64 x] 3)) (.slice (some ⟨w.heap.size, 0, none⟩) 1 c) [x] := by
  refine ⟨by simp [maxLen], by simpa using hx, _, c, rfl, hc, fun _ => ⟨w.heap.size, 0, rfl, fun j hj => ?_⟩⟩
  obtain rfl : j = 0 := by simp at hj; omega
  simp

/-- a map value that is the set of these integers -/
def SetIs (w : World) (v : Value) (xs : List Int) : Prop :=
  ∃ (b n : Nat) (D : DataW Unit), v = .map (some b) ∧ w.ownsMap Tryd.prog 3 unitElem b n D ∧ ∀ c : Int, Maps.has D (.int .i64 c) = decide (c ∈ xs)
theorem SetIs.ext {w W : World} {v : Value} {xs : List Int} (h : SetIs w v xs) (hE : Ext w W) : SetIs W v xs := by
  obtain ⟨b, n, D, rfl, ⟨es, clock, hb, hr⟩, hD⟩ := h
  have hlt : b < w.heap.size := by
    rcases Nat.lt_or_ge b w.heap.size with hlt | hge
    · exact hlt
    · rw [Array.getElem?_eq_none hge] at hb; cases hb
  exact ⟨b, n, D, rfl, ⟨es, clock, (Below.block hE b hlt).trans hb, hr⟩, hD⟩
end Go.Proofs.YtfkidgpjejcblaaDoor

/- Plain words on lists of integers: no program in it. -/
namespace Go.Proofs.YtfkidgpjejcblaaDoor.Plain
theorem eq_of_all (xs ys : List Int) (hl : xs.length = ys.length) (h : ∀ j, j < xs.length → xs.getD j 0 = ys.getD j 0) : xs = ys := by
  apply List.ext_getElem hl
  intro i h1 h2
  have := h i h1
  simpa [List.getD_eq_getElem?_getD, List.getElem?_eq_getElem h1, List.getElem?_eq_getElem h2] using this
end Go.Proofs.YtfkidgpjejcblaaDoor.Plain

/- Whether two lists are the same; a clone. -/
namespace Go.Proofs.YtfkidgpjejcblaaDoor
open Go.RowKit Go.Proofs.YtfkidgpjejcblaaDoor.Plain

def sameB (xs ys : List Int) : Bool := decide (xs = ys)

set_option maxHeartbeats 400000 in
theorem ints_any (v u : Value) (xs ys : List Int) (w : World) (h : Ints w v xs) (h' : Ints w u ys) :
    Calls Tryd.prog 11 #[v, u] w fun e w' => e = .returned (.bool (sameB xs ys)) ∧ ∃ n, w' = w.drewN n := by
  obtain ⟨hm, hb, A, cap, rfl, hcap, hc⟩ := h
  obtain ⟨hm', hb', A', cap', rfl, hcap', hc'⟩ := h'
  unfold maxLen at hm hm'
  by_cases hl : xs.length = ys.length
  · have H := Lib.hid hl
    have e : decide ((xs.length : Int) = (ys.length : Int)) = true := by simp [hl]
    have e2 : ((xs.length : Int) != (ys.length : Int)) = false := by simp [hl]
    clear hl
    go_enter Tryd.func11, Tryd.ntmps11
    go_wp2
    clear e e2
    go_loopw [5] (fun i wr => ∃ k n : Nat, k ≤ xs.length ∧ i = .int .i64 k ∧ wr = w.drewN n ∧ ∀ j, j < k → xs.getD j 0 = ys.getD j 0) (fun i _ => xs.length - (intOf i).toNat)
    case atStart => exact ⟨0, 0, Nat.zero_le _, rfl, rfl, by omega⟩
    case round =>
      obtain ⟨k, n, hk, rfl, rfl, ha⟩ := hrel
      have HA := Lib.hid ha
      clear ha
      by_cases hlt : k < xs.length
      · obtain ⟨b, off, rfl, hcc⟩ := hc (by omega)
        obtain ⟨b', off', rfl, hcc'⟩ := hc' (by have := H.out; omega)
        have hcell := hcc k hlt
        have hcell' := hcc' k (by have := H.out; omega)
        have hlt' : k < ys.length := by have := H.out; omega
        have HC := Lib.hid hc
        have HC' := Lib.hid hc'
        clear hc hcc hc' hcc'
        by_cases he : xs.getD k 0 = ys.getD k 0
        · have HE := Lib.hid he
          have e1 : ((xs.getD k 0) != (ys.getD k 0)) = false := by rw [he]; simp
          generalize hg : xs.getD k 0 = g at *
          generalize hg' : ys.getD k 0 = g' at *
          clear he
          go_wp2
          go_quiet (fail)
          go_wp2
          go_roundw
          case rel => exact ⟨k + 1, _, by omega, by go_num, rfl, fun j hj => by
            rcases Nat.lt_or_ge j k with h1 | h1
            · exact HA.out j h1
            · obtain rfl : j = k := by omega
              rw [hg, hg', HE.out]⟩
          case measure => simp [intOf]; omega
        · have HE := Lib.hid he
          have e1 : ((xs.getD k 0) != (ys.getD k 0)) = true := by simpa using he
          have HR : Hid (sameB xs ys = false) := Lib.hid (by unfold sameB; rw [decide_eq_false_iff_not]; intro h; exact he (by rw [h]))
          generalize hg : xs.getD k 0 = g at *
          generalize hg' : ys.getD k 0 = g' at *
          clear he
          go_wp2
          go_quiet (fail)
          go_wp2
          go_ret
          exact ⟨ret_bool HR.out.symm, n + nq, by simp⟩
      · have HR : Hid (sameB xs ys = true) := Lib.hid (by unfold sameB; rw [decide_eq_true_eq]; exact eq_of_all _ _ H.out (fun j hj => HA.out j (by omega)))
        clear hc hc'
        go_wp2
        go_ret
        exact ⟨ret_bool HR.out.symm, _, rfl⟩
  · have e2 : ((xs.length : Int) != (ys.length : Int)) = true := by simp; omega
    have HR : Hid (sameB xs ys = false) := Lib.hid (by unfold sameB; rw [decide_eq_false_iff_not]; intro h; exact hl (by rw [h]))
    clear hl hc hc'
    go_enter Tryd.func11, Tryd.ntmps11
    go_wp2
    go_ret
    exact ⟨ret_bool HR.out.symm, 0, rfl⟩

end Go.Proofs.YtfkidgpjejcblaaDoor

/- Lists of elements of any kind (integers of a kind, bools, structs of one-cell fields): what reads as one, and what a call has made; append, for any of them. -/
namespace Go.Proofs.YtfkidgpjejcblaaDoor
open Go.RowKit

/-- a kind of elements: their types, cells, bounds -/
structure Kd (α : Type) where
  t : TypeId
  e : TypeId
  n : Nat
  cells : α → List Value
  ok : α → Prop
  d : α
  z : Value
  bytes : Nat
  ht : Tryd.prog.underlying t = some (.slice e)
  info : (Tryd.prog.info? e).map (fun i => (i.zero, i.size, i.bytes)) = some (some z, n, bytes)
  hzs : z.cells.size = n
  pos : 0 < n
  small : bytes ≤ 256
  len : ∀ a, (cells a).length = n
  one : ∀ a, ∀ u ∈ cells a, u.oneCell' = true

section
variable {α : Type} (K : Kd α)

def Kd.flat (xs : List α) : List Value := xs.flatMap K.cells
theorem Kd.flat_len (xs : List α) : (K.flat xs).length = xs.length * K.n := by
  unfold Kd.flat
  induction xs with
  | nil => simp
  | cons h t ih => rw [List.flatMap_cons, List.length_append, ih, K.len, List.length_cons, Nat.add_mul, Nat.one_mul, Nat.add_comm]
theorem Kd.flat_app (xs ys : List α) : K.flat (xs ++ ys) = K.flat xs ++ K.flat ys := by simp [Kd.flat]
theorem Kd.flat_at (xs : List α) (j i : Nat) (hj : j < xs.length) (hi : i < K.n) : (K.flat xs)[j * K.n + i]? = (K.cells (xs.getD j K.d))[i]? := by
  induction xs generalizing j with
  | nil => simp at hj
  | cons h t ih =>
    have e : K.flat (h :: t) = K.cells h ++ K.flat t := by simp [Kd.flat]
    cases j with
    | zero => rw [e, Nat.zero_mul, Nat.zero_add, List.getElem?_append_left (by rw [K.len]; exact hi)]; rfl
    | succ j =>
      have := ih j (by simpa using hj)
      rw [e, List.getElem?_append_right (by rw [K.len, Nat.add_mul, Nat.one_mul]; omega), K.len, show (j + 1) * K.n + i - K.n = j * K.n + i by rw [Nat.add_mul, Nat.one_mul]; omega, this]
      rfl
theorem Kd.flat_mem {xs : List α} {u : Value} (h : u ∈ K.flat xs) : u.oneCell' = true := by
  obtain ⟨a, _, ha⟩ := List.mem_flatMap.1 h
  exact K.one a u ha
/-- a place in the cells: of which element, which cell of it -/
theorem Kd.split (j m : Nat) (h : j < m * K.n) : j / K.n < m ∧ j % K.n < K.n ∧ j = j / K.n * K.n + j % K.n := by
  have hp := K.pos
  refine ⟨Nat.div_lt_of_lt_mul (by rw [Nat.mul_comm]; exact h), Nat.mod_lt _ hp, ?_⟩
  rw [Nat.mul_comm]
  exact (Nat.div_add_mod j K.n).symm

/-- a slice value that reads as these -/
def Rd (w : World) (v : Value) (xs : List α) : Prop :=
  xs.length ≤ maxLen ∧ (∀ x ∈ xs, K.ok x) ∧ ∃ A cap, v = .slice A xs.length cap ∧ xs.length ≤ cap ∧
    (0 < xs.length → ∃ b off, A = some ⟨b, off, none⟩ ∧ ∀ j, j < xs.length → ∀ i u, (K.cells (xs.getD j K.d))[i]? = some u → w.cell? ⟨b, off + j * K.n + i, none⟩ = some u)
/-- a list that a call has made: it lies in blocks from B on -/
def Ow (B : Nat) (w : World) (v : Value) (xs : List α) : Prop := w.ownsRow B K.e K.n v xs.length (K.flat xs) ∧ ∀ x ∈ xs, K.ok x

variable {K}
theorem Rd.ext {w W : World} {v : Value} {xs : List α} (h : Rd K w v xs) (hE : Ext w W) : Rd K W v xs := by
  obtain ⟨h1, h2, A, cap, rfl, hc, h3⟩ := h
  refine ⟨h1, h2, A, cap, rfl, hc, fun hl => ?_⟩
  obtain ⟨b, off, rfl, hcc⟩ := h3 hl
  exact ⟨b, off, rfl, fun j hj i u hu => hE.cell (hcc j hj i u hu)⟩
theorem Rd.cells {w : World} {A : Option Addr} {n c : Nat} {xs : List α} (h : Rd K w (.slice A n c) xs) (hl : 0 < xs.length) :
    ∃ b off, A = some ⟨b, off, none⟩ ∧ ∀ j, j < xs.length → ∀ i u, (K.cells (xs.getD j K.d))[i]? = some u → w.cell? ⟨b, off + j * K.n + i, none⟩ = some u := by
  obtain ⟨_, _, A', c', hv, _, h3⟩ := h
  cases hv
  exact h3 hl
theorem Rd.nil (w : World) (A : Option Addr) (c : Nat) : Rd K w (.slice A 0 c) [] := ⟨by simp, by simp, A, c, rfl, by simp, by simp⟩
theorem Rd.slice {w : World} {v : Value} {xs : List α} (h : Rd K w v xs) : ∃ A c, v = .slice A xs.length c ∧ xs.length ≤ c := by
  obtain ⟨_, _, A, c, rfl, hc, _⟩ := h
  exact ⟨A, c, rfl, hc⟩
theorem Rd.okAt {w : World} {v : Value} {xs : List α} (h : Rd K w v xs) (j : Nat) (hj : j < xs.length) : K.ok (xs.getD j K.d) := by
  rw [List.getD_eq_getElem?_getD, List.getElem?_eq_getElem hj]; exact h.2.1 _ (List.getElem_mem _)
theorem Rd.len {w : World} {v : Value} {xs : List α} (h : Rd K w v xs) : xs.length ≤ 9223372036854775807 := by have := h.1; unfold maxLen at this; omega
theorem getDk_take (d : α) (l : List α) (k j : Nat) (h : j < k) : (l.take k).getD j d = l.getD j d := by
  simp [List.getD_eq_getElem?_getD, List.getElem?_take_of_lt h]
theorem getDk_drop (d : α) (l : List α) (k j : Nat) : (l.drop k).getD j d = l.getD (k + j) d := by
  simp [List.getD_eq_getElem?_getD, List.getElem?_drop]
theorem Rd.take {w : World} {A : Option Addr} {n c : Nat} {xs : List α} (h : Rd K w (.slice A n c) xs) (k c' : Nat) (hk : k ≤ xs.length) (hc : k ≤ c') : Rd K w (.slice A k c') (xs.take k) := by
  obtain ⟨h1, h2, A', cap, hv, hcap, h3⟩ := h
  cases hv
  have hl : (xs.take k).length = k := by rw [List.length_take]; omega
  refine ⟨by rw [hl]; omega, fun n hn => h2 n (List.mem_of_mem_take hn), A, c', by rw [hl], by omega, fun hp => ?_⟩
  rw [hl] at hp
  obtain ⟨b, off, rfl, hcc⟩ := h3 (by omega)
  refine ⟨b, off, rfl, fun j hj i u hu => ?_⟩
  rw [hl] at hj
  rw [getDk_take _ _ _ _ hj] at hu
  exact hcc j (by omega) i u hu
theorem Rd.drop {w : World} {b off n c : Nat} {xs : List α} (h : Rd K w (.slice (some ⟨b, off, none⟩) n c) xs) (k m c' : Nat) (hm : m = xs.length - k) (hc : m ≤ c') : Rd K w (.slice (some ⟨b, off + k * K.n, none⟩) m c') (xs.drop k) := by
  obtain ⟨h1, h2, A', cap, hv, hcap, h3⟩ := h
  cases hv
  have hl : (xs.drop k).length = m := by rw [List.length_drop]; omega
  refine ⟨by rw [hl]; omega, fun n hn => h2 n (List.mem_of_mem_drop hn), _, c', by rw [hl], by omega, fun hp => ?_⟩
  obtain ⟨b', off', he, hcc⟩ := h3 (by omega)
  cases he
  refine ⟨b, off + k * K.n, rfl, fun j hj i u hu => ?_⟩
  rw [hl] at hj
  rw [getDk_drop] at hu
  have := hcc (k + j) (by omega) i u hu
  rw [Nat.add_mul] at this
  rw [show off + k * K.n + j * K.n + i = off + (k * K.n + j * K.n) + i by omega]
  exact this
theorem add_atk (b off j : Nat) : (⟨b, off, none⟩ : Addr).add j = ⟨b, off + j, none⟩ := by
  by_cases h0 : j = 0
  · subst h0; rfl
  · simp [Addr.add, h0]
/-- the cells, at their address -/
theorem Rd.at_ {w : World} {ad : Addr} {n c : Nat} {xs : List α} (h : Rd K w (.slice (some ad) n c) xs) : ∀ j u, (K.flat xs)[j]? = some u → w.cell? (ad.add j) = some u := by
  intro j u hu
  have hj : j < xs.length * K.n := by
    rw [← K.flat_len]
    rcases Nat.lt_or_ge j (K.flat xs).length with hlt | hge
    · exact hlt
    · rw [List.getElem?_eq_none hge] at hu; cases hu
  obtain ⟨h1, h2, h3⟩ := K.split j xs.length hj
  obtain ⟨b, off, he, hcc⟩ := h.cells (Nat.lt_of_le_of_lt (Nat.zero_le _) h1)
  cases he
  rw [add_atk]
  rw [h3, K.flat_at xs _ _ h1 h2] at hu
  have := hcc _ h1 _ u hu
  rw [show off + j = off + j / K.n * K.n + j % K.n by omega]
  exact this
theorem Rd.grown {w w' : World} {A : Option Addr} {n c : Nat} {xs : List α} {row : Option Nat} (h : Rd K w (.slice A n c) xs) (hg : w.grownBy w' row) (hne : ∀ a, A = some a → some a.block ≠ row) : Rd K w' (.slice A n c) xs := by
  obtain ⟨h1, h2, A', cap, hv, hcap, h3⟩ := h
  cases hv
  refine ⟨h1, h2, A, c, rfl, hcap, fun hl => ?_⟩
  obtain ⟨b, off, rfl, hcc⟩ := h3 hl
  exact ⟨b, off, rfl, fun j hj i u hu => hg.cell (hcc j hj i u hu) (hne ⟨b, off, none⟩ rfl)⟩

theorem Ow.len {B : Nat} {w : World} {v : Value} {xs : List α} (h : Ow K B w v xs) : xs.length ≤ maxLen := by
  rcases h.1.2 with ⟨_, hx⟩ | ⟨g, cap, cur, hv, hg, hh, hnc, h4, _⟩ <;> omega
theorem Ow.lt {B : Nat} {w : World} {v : Value} {xs : List α} (h : Ow K B w v xs) : ∀ k, v.ownBlock = some k → B ≤ k ∧ k < w.heap.size := h.1.lt
theorem mul_at {n m j i : Nat} (hj : j < m) (hi : i < n) : j * n + i < m * n := by
  have : (j + 1) * n ≤ m * n := Nat.mul_le_mul_right _ hj
  rw [Nat.add_mul, Nat.one_mul] at this
  omega
theorem Ow.rd {B : Nat} {w : World} {v : Value} {xs : List α} (h : Ow K B w v xs) : Rd K w v xs := by
  have hm := h.len
  obtain ⟨h1, hb⟩ := h
  have hh := h1
  rcases h1.2 with ⟨rfl, hx⟩ | ⟨g, cap, cur, hv, hg, hh', hnc, h4, h5, h6⟩
  · obtain rfl : xs = [] := List.eq_nil_of_length_eq_zero hx
    exact Rd.nil w _ _
  · subst hv
    refine ⟨hm, hb, some ⟨g, 0, none⟩, cap, rfl, hnc, fun hl => ⟨g, 0, rfl, fun j hj i u hu => ?_⟩⟩
    have hi : i < K.n := by
      rw [← K.len (xs.getD j K.d)]
      rcases Nat.lt_or_ge i (K.cells (xs.getD j K.d)).length with hlt | hge
      · exact hlt
      · rw [List.getElem?_eq_none hge] at hu; cases hu
    rw [Nat.zero_add, World.ownsRow.cellAt hh _ (mul_at hj hi), K.flat_at xs j i hj hi]
    exact hu
theorem Ow.slice {B : Nat} {w : World} {v : Value} {xs : List α} (h : Ow K B w v xs) : ∃ A c, v = .slice A xs.length c ∧ xs.length ≤ c := h.rd.slice
theorem Ow.ext {B : Nat} {w W : World} {v : Value} {xs : List α} (h : Ow K B w v xs) (hE : Ext w W) : Ow K B W v xs := by
  obtain ⟨⟨h1, h2⟩, hb⟩ := h
  refine ⟨⟨h1, ?_⟩, hb⟩
  rcases h2 with h2 | ⟨g, cap, cur, hv, hg, hh, hr⟩
  · exact .inl h2
  · have hlt : g < w.heap.size := by
      rcases Nat.lt_or_ge g w.heap.size with hlt | hge
      · exact hlt
      · rw [Array.getElem?_eq_none hge] at hh; cases hh
    exact .inr ⟨g, cap, cur, hv, hg, (Below.block hE g hlt).trans hh, hr⟩
theorem Ow.nil (B : Nat) (w : World) : Ow K B w (.slice none 0 0) [] := ⟨World.ownsRow_nil _ _ _ _, by simp⟩
/-- a literal, in a block of its own -/
theorem Ow.lit (w : World) (xs : List α) {B p n : Nat} (cs : Array Value) (hcs : cs.toList = K.flat xs) (hn : xs.length = n) (hp : p = w.heap.size) (hB : B ≤ p) (hm : n ≤ maxLen) (hok : ∀ x ∈ xs, K.ok x) :
    Ow K B (w.alloc (.cells cs K.e)) (.slice (some ⟨p, 0, none⟩) n n) xs := by
  subst hp hn
  have h := World.ownsRow_lit (e := K.e) (size := K.n) w cs xs.length hB hm (by rw [← Array.length_toList, hcs, K.flat_len])
  rw [hcs] at h
  exact ⟨h, hok⟩
theorem Ow.mono {B B' : Nat} {w : World} {v : Value} {xs : List α} (h : Ow K B w v xs) (hB : B' ≤ B) : Ow K B' w v xs := by
  obtain ⟨⟨h1, h2⟩, hb⟩ := h
  refine ⟨⟨h1, ?_⟩, hb⟩
  rcases h2 with h2 | ⟨g, cap, cur, hv, hg, hr⟩
  · exact .inl h2
  · exact .inr ⟨g, cap, cur, hv, by omega, hr⟩
theorem Ow.kept {B : Nat} {w w' : World} {v : Value} {xs : List α} {row : Option Nat} (h : Ow K B w v xs) (hg : w.grownBy w' row) (hne : v.ownBlock = none ∨ v.ownBlock ≠ row) : Ow K B w' v xs := ⟨h.1.kept hg hne, h.2⟩
theorem Ow.setOther {B : Nat} {w : World} {v : Value} {xs : List α} (h : Ow K B w v xs) {p : Addr} (hp : v.ownBlock ≠ some p.block) (u : Value) : Ow K B (w.setCell p u) v xs := by
  obtain ⟨⟨h1, h2⟩, hb⟩ := h
  refine ⟨⟨h1, ?_⟩, hb⟩
  rcases h2 with h2 | ⟨g, cap, cur, rfl, hg, hh, hr⟩
  · exact .inl h2
  · exact .inr ⟨g, cap, cur, rfl, hg, (Below.heap_setCell _ _ _ _ (fun e => hp (by simp [Value.ownBlock, e]))).trans hh, hr⟩
theorem Ow.setBelow {B : Nat} {w : World} {v : Value} {xs : List α} (h : Ow K B w v xs) {p : Addr} (hp : p.block < B) (u : Value) : Ow K B (w.setCell p u) v xs :=
  h.setOther (fun e => by have := (h.lt _ e).1; omega) u
theorem Ow.from {B n c : Nat} {A : Option Addr} {w : World} {xs : List α} (h : Ow K B w (.slice A n c) xs) : From B A := fun a ha => by
  subst ha
  rcases h.1.2 with ⟨h0, _⟩ | ⟨g, cap, cur, hv, hg, _⟩
  · cases h0
  · cases hv; exact hg
/-- one that isn't empty, with its block -/
theorem Ow.pos {B : Nat} {w : World} {A : Option Addr} {n c : Nat} {xs : List α} (h : Ow K B w (.slice A n c) xs) (hl : 0 < xs.length) :
    ∃ g, A = some ⟨g, 0, none⟩ ∧ B ≤ g ∧ g < w.heap.size ∧ (∀ j, j < xs.length → ∀ i u, (K.cells (xs.getD j K.d))[i]? = some u → w.cell? ⟨g, j * K.n + i, none⟩ = some u) ∧ ∀ j, w.frozen? ⟨g, j, none⟩ = false := by
  have hr := h.rd
  obtain ⟨h1, hb⟩ := h
  have hh := h1
  rcases h1.2 with ⟨_, hx⟩ | ⟨g, cap, cur, hv, hg, hh', hnc, h4, h5, h6⟩
  · omega
  · cases hv
    obtain ⟨b, off, he, hcc⟩ := hr.cells hl
    cases he
    exact ⟨g, rfl, hg, (hh.lt g rfl).2, fun j hj i u hu => by have := hcc j hj i u hu; rw [Nat.zero_add] at this; exact this, fun j => World.ownsRow.frozenAt hh j⟩
theorem Kd.flat_set (K : Kd α) (xs : List α) (j i : Nat) (hj : j < xs.length) (hi : i < K.n) (x : α) (u : Value) (hx : K.cells x = (K.cells (xs.getD j K.d)).set i u) : (K.flat xs).set (j * K.n + i) u = K.flat (xs.set j x) := by
  induction xs generalizing j with
  | nil => simp at hj
  | cons h t ih =>
    have e : ∀ a, K.flat (a :: t) = K.cells a ++ K.flat t := fun a => by simp [Kd.flat]
    cases j with
    | zero =>
      rw [Nat.zero_mul, Nat.zero_add, List.set_cons_zero, e, e, hx, List.set_append_left _ _ (by rw [K.len]; exact hi)]
      rfl
    | succ j =>
      have := ih j (by simpa using hj) (by simpa using hx)
      have e2 : K.flat (h :: t.set j x) = K.cells h ++ K.flat (t.set j x) := by simp [Kd.flat]
      rw [List.set_cons_succ, e, e2, List.set_append_right _ _ (by rw [K.len, Nat.add_mul, Nat.one_mul]; omega), K.len, show (j + 1) * K.n + i - K.n = j * K.n + i by rw [Nat.add_mul, Nat.one_mul]; omega, this]
/-- a cell of an element is stored -/
theorem Ow.set {B g n c : Nat} {w : World} {xs : List α} (h : Ow K B w (.slice (some ⟨g, 0, none⟩) n c) xs) {j i : Nat} (hj : j < xs.length) (hi : i < K.n) {x : α} {u : Value} (hx : K.cells x = (K.cells (xs.getD j K.d)).set i u) (hok : K.ok x) :
    Ow K B (w.setCell ⟨g, j * K.n + i, none⟩ u) (.slice (some ⟨g, 0, none⟩) n c) (xs.set j x) := by
  have hh := h.1
  have hn : n = xs.length := by
    rcases hh.2 with ⟨h0, _⟩ | ⟨g', cap, cur, hv, _⟩
    · cases h0
    · cases hv; rfl
  subst hn
  refine ⟨?_, fun y hy => ?_⟩
  · rw [List.length_set, ← K.flat_set xs j i hj hi x u hx]
    exact (World.ownsRow.stored hh (j * K.n + i) u).1
  · rcases List.mem_or_eq_of_mem_set hy with h' | h'
    · exact h.2 y h'
    · subst h'; exact hok
theorem Ow.take {B : Nat} {w : World} {A : Option Addr} {n c : Nat} {xs : List α} (h : Ow K B w (.slice A n c) xs) (k : Nat) (hk : k ≤ xs.length) (h0 : 0 < xs.length) : Ow K B w (.slice A k c) (xs.take k) := by
  obtain ⟨⟨h1, h2⟩, hb⟩ := h
  have hl : (xs.take k).length = k := by simp; omega
  have hf : K.flat (xs.take k) = (K.flat xs).take (k * K.n) := by
    have e : K.flat xs = K.flat (xs.take k) ++ K.flat (xs.drop k) := by rw [← K.flat_app, List.take_append_drop]
    rw [e, List.take_left' (by rw [K.flat_len, hl])]
  refine ⟨⟨by rw [K.flat_len], ?_⟩, fun n hn => hb n (List.mem_of_mem_take hn)⟩
  rw [hl]
  rcases h2 with ⟨_, h2⟩ | ⟨g, cap, cur, hv, hg, hh, hnc, hcm, hcs, ht⟩
  · omega
  · cases hv
    refine .inr ⟨g, _, cur, rfl, hg, hh, by omega, hcm, hcs, ?_⟩
    rw [hf, ← ht, List.take_take, Nat.min_eq_left (Nat.mul_le_mul_right _ hk)]
/-- two lists of a call's own, of two kinds: not one block -/
theorem Ow.far {β : Type} {K' : Kd β} (hne : K.e ≠ K'.e) {B B' : Nat} {w : World} {v u : Value} {xs : List α} {ys : List β} (h : Ow K B w v xs) (h' : Ow K' B' w u ys) : ∀ k, v.ownBlock = some k → u.ownBlock ≠ some k := by
  intro k hk hk'
  rcases h.1.2 with ⟨rfl, _⟩ | ⟨g, cap, cur, rfl, _, hh, _⟩
  · simp [Value.ownBlock] at hk
  · rcases h'.1.2 with ⟨rfl, _⟩ | ⟨g', cap', cur', rfl, _, hh', _⟩
    · simp [Value.ownBlock] at hk'
    · simp only [Value.ownBlock, Option.some.injEq] at hk hk'
      subst hk
      subst hk'
      rw [hh] at hh'
      simp at hh'
      exact hne hh'.2

theorem Kd.run_app (K : Kd α) (w : World) (B : Nat) (v : Value) (xs : List α) (hown : Ow K B w v xs) (y : Value) (ys : List α) (hy : Rd K w y ys) (hl : xs.length + ys.length ≤ 1048576) (hB : B ≤ w.heap.size) :
    ∃ v' w', (Builtin.append_ #[K.t, K.t] K.t #[v, y]).run Tryd.prog w = .ok v' w' ∧ Ow K B w' v' (xs ++ ys) ∧ w.grownBy w' v.ownBlock ∧ (v'.ownBlock = v.ownBlock ∨ v'.ownBlock = some w.heap.size) := by
  have hy' := hy
  obtain ⟨i0, hi, hz0, hz1, hz2⟩ := info_parts K.info
  obtain ⟨hm, hb, A, cap, rfl, hcap, hc⟩ := hy
  rcases A with _ | ad
  · have h0 : ys = [] := by
      cases ys with
      | nil => rfl
      | cons a l => obtain ⟨b, off, h, _⟩ := hc (by simp); cases h
    subst h0
    have hr : (Builtin.append_ #[K.t, K.t] K.t #[v, .slice none 0 cap]).run Tryd.prog w = .ok v w := by
      rcases hown.1.2 with ⟨rfl, _⟩ | ⟨g, cap', cur, rfl, _, _, hnc, _⟩
      · simp [Builtin.append_, run_underlying K.ht, sizeOf, typeInfo, hi, Builtin.lenOf, Builtin.firstCells]
      · simp [Builtin.append_, run_underlying K.ht, sizeOf, typeInfo, hi, Builtin.lenOf, Builtin.firstCells, hnc, storeCells]
    exact ⟨v, w, hr, by simpa using hown, World.grownBy.refl w _, .inl rfl⟩
  · have hsm := K.small
    obtain ⟨v', w', hr, h2, h3, _, h5⟩ := run_append_own_at (P := Tryd.prog) w B K.t K.t K.e i0 K.z K.n K.bytes K.ht hi hz0 hz1 hz2 K.hzs K.pos v xs.length _ hown.1 ad ys.length cap (K.flat ys) (K.flat_len ys) hy'.at_
      (fun u hu => K.flat_mem hu) (by unfold maxLen; omega) (Nat.le_trans (Nat.mul_le_mul hl hsm) (by omega)) hB
    exact ⟨v', w', hr, ⟨by rw [List.length_append, K.flat_app]; exact h2, by
      intro n hn
      rcases List.mem_append.1 hn with h | h
      · exact hown.2 n h
      · exact hb n h⟩, h3, h5⟩
theorem Kd.wp_app (K : Kd α) {o : Oper} {a : Act} {w : World} {C : Act → World → Prop} {Q : Exit → Act → World → Prop} (s x : Operand)
    (ho : o.op = .call { callee := .builtin .append, args := #[s, x], argTypes := #[K.t, K.t] }) (hty : o.type = K.t)
    (B : Nat) (v : Value) (xs : List α) (h1 : a.eval s = v) (hown : Ow K B w v xs) (y : Value) (ys : List α) (hx : a.eval x = y) (hy : Rd K w y ys) (hl : xs.length + ys.length ≤ 1048576) (hB : B ≤ w.heap.size)
    (h : ∀ v' w', Ow K B w' v' (xs ++ ys) → w.grownBy w' v.ownBlock → (v'.ownBlock = v.ownBlock ∨ v'.ownBlock = some w.heap.size) → C (a.put o.dst v') w') : o.wp Tryd.prog a w C Q := by
  obtain ⟨v', w', hr, h2, h3, h4⟩ := K.run_app w B v xs hown y ys hy hl hB
  unfold Oper.wp execOp
  simp only [ho, hty, resolve, invoke, builtin, Sem.run_bind, Sem.run_pure, Result.andThen_ok, List.map_toArray, List.map_cons, List.map_nil, h1, hx, hr]
  exact h v' w' h2 h3 h4
/-- append, as the walk meets it: 'at_builtin; refine K.wpList_app (by rfl) (.tmp _) (.tmp _) (by rfl) (by rfl) BASE _ xs (by rfl) hown _ ys (by rfl) hy hl hB ?_; intro v' w' hown' hgrow' hat'' -/
theorem Kd.wpList_app (K : Kd α) {ops : Array Oper} {rest : List Oper} {o : Oper} {a : Act} {w : World} {Q : Exit → Act → World → Prop} (hw : Region.wanted o (yielded ops a.tmps) = true) (s x : Operand)
    (ho : o.op = .call { callee := .builtin .append, args := #[s, x], argTypes := #[K.t, K.t] }) (hty : o.type = K.t)
    (B : Nat) (v : Value) (xs : List α) (h1 : a.eval s = v) (hown : Ow K B w v xs) (y : Value) (ys : List α) (hx : a.eval x = y) (hy : Rd K w y ys) (hl : xs.length + ys.length ≤ 1048576) (hB : B ≤ w.heap.size)
    (h : ∀ v' w', Ow K B w' v' (xs ++ ys) → w.grownBy w' v.ownBlock → (v'.ownBlock = v.ownBlock ∨ v'.ownBlock = some w.heap.size) → wpList Tryd.prog ops Q rest (a.put o.dst v') w') : wpList Tryd.prog ops Q (o :: rest) a w :=
  wpList_step fun _ hK => by
    rw [if_pos hw]
    exact K.wp_app s x ho hty B v xs h1 hown y ys hx hy hl hB fun v' w' h2 h3 h4 => hK _ _ (h v' w' h2 h3 h4)
theorem Kd.made (K : Kd α) (o : α) (ho : K.cells o = K.z.cells.toList) (n : Nat) : (madeCells K.z.cells (n * K.n)).toList = K.flat (List.replicate n o) := by
  apply List.ext_getElem?
  intro m
  by_cases hm : m < n * K.n
  · obtain ⟨h1, h2, h3⟩ := K.split m n hm
    have h4 := K.flat_at (List.replicate n o) (m / K.n) (m % K.n) (by rw [List.length_replicate]; exact h1) h2
    rw [← h3] at h4
    rw [h4, List.getD_eq_getElem?_getD, List.getElem?_replicate, if_pos h1, Option.getD_some, ho]
    have hz := K.hzs
    unfold madeCells
    rw [Array.toList_map, Array.toList_range, List.getElem?_map, List.getElem?_range hm, Option.map_some, hz, Array.getElem?_toList]
    rw [getElem!_pos K.z.cells (m % K.n) (by rw [hz]; exact h2), Array.getElem?_eq_getElem (by rw [hz]; exact h2)]
  · rw [List.getElem?_eq_none (by rw [Array.length_toList, size_madeCells]; omega), List.getElem?_eq_none (by rw [K.flat_len, List.length_replicate]; omega)]
/-- make([]T, n): lay what it gives ahead of the walk ('obtain ⟨C, hmk, hown⟩ := K.make ..') -/
theorem Kd.make (K : Kd α) (o : α) (ho : K.cells o = K.z.cells.toList) (hok : K.ok o) (n : Nat) (hn : n ≤ 1048576) :
    ∃ C : Array Value, (∀ w : World, (Instr.makeSlice K.t (.int .i64 n) (.int .i64 n)).run Tryd.prog w = .ok (.slice (some ⟨w.heap.size, 0, none⟩) n n) (w.alloc (.cells C K.e))) ∧
      ∀ (w : World) (B p : Nat), p = w.heap.size → B ≤ p → Ow K B (w.alloc (.cells C K.e)) (.slice (some ⟨p, 0, none⟩) n n) (List.replicate n o) := by
  refine ⟨madeCells K.z.cells (n * K.n), fun w => ?_, fun w B p hp hB => Ow.lit w _ _ (K.made o ho n) (by simp) hp hB (by unfold maxLen; omega) (fun x hx => by rw [List.mem_replicate] at hx; rw [hx.2]; exact hok)⟩
  obtain ⟨i0, hi, hz0, hz1, hz2⟩ := info_parts K.info
  have hsm := K.small
  have hb : K.bytes * n ≤ 256 * 1048576 := Nat.mul_le_mul hsm hn
  have h := run_make (P := Tryd.prog) w K.t K.e i0 K.z K.ht hi hz0 .i64 .i64 n n (by omega) (by omega) (by rw [hz2, ← Int.natCast_mul]; omega) (by omega)
  simp only [Int.toNat_natCast, hz1] at h
  exact h
end
end Go.Proofs.YtfkidgpjejcblaaDoor

/- The plain data of the layers. No program in it. -/
namespace Go.Proofs.YtfkidgpjejcblaaDoor
/-- a task: from where, up to where, whom it belongs to, for how many it waits -/
structure Tk where
  lo : Int
  hi : Int
  up : Int
  wt : Int
instance : DecidableEq Tk := fun a b => decidable_of_iff (a.lo = b.lo ∧ a.hi = b.hi ∧ a.up = b.up ∧ a.wt = b.wt) (by cases a; cases b; simp)
end Go.Proofs.YtfkidgpjejcblaaDoor

/- The kinds of elements of this program, and their cells as the walk spells them. -/
namespace Go.Proofs.YtfkidgpjejcblaaDoor
open Go.RowKit

def in64 (x : Int) : Prop := -9223372036854775808 ≤ x ∧ x ≤ 9223372036854775807
/-- integers -/
def kInt : Kd Int where
  t := 22
  e := 3
  n := 1
  cells := fun x => [.int .i64 x]
  ok := in64
  d := 0
  z := .int .i64 0
  bytes := 8
  ht := Tryd.underlying22
  info := intInfo
  hzs := rfl
  pos := by decide
  small := by decide
  len := fun _ => rfl
  one := fun a u hu => by simp at hu; subst hu; rfl
end Go.Proofs.YtfkidgpjejcblaaDoor

/- Worlds that grew, but for the blocks of a set; lists that read the same whatever becomes of these blocks. -/
namespace Go.Proofs.YtfkidgpjejcblaaDoor
open Go.RowKit

/-- the other world has all blocks as they were, but those of S -/
structure Grew (S : Nat → Prop) (w W : World) : Prop where
  os : W.os = w.os
  tape : W.tape = w.tape
  output : W.output = w.output
  size : w.heap.size ≤ W.heap.size
  block : ∀ b, b < w.heap.size → ¬ S b → W.heap[b]? = w.heap[b]?
theorem Grew.refl (S : Nat → Prop) (w : World) : Grew S w w := ⟨rfl, rfl, rfl, Nat.le_refl _, fun _ _ _ => rfl⟩
theorem Grew.of {S : Nat → Prop} {w W : World} (h : Ext w W) : Grew S w W := ⟨h.os, h.tape, h.output, h.size, fun b hb _ => h.block b hb⟩
theorem Grew.trans {S : Nat → Prop} {a b c : World} (h : Grew S a b) (k : Grew S b c) : Grew S a c :=
  ⟨k.os.trans h.os, k.tape.trans h.tape, k.output.trans h.output, Nat.le_trans h.size k.size, fun i hi hS => (k.block i (Nat.lt_of_lt_of_le hi h.size) hS).trans (h.block i hi hS)⟩
theorem Grew.ext {S : Nat → Prop} {a b c : World} (h : Grew S a b) (k : Ext b c) : Grew S a c := h.trans (Grew.of k)
theorem Grew.alloc {S : Nat → Prop} {w W : World} (h : Grew S w W) (o : Obj) : Grew S w (W.alloc o) := h.ext ((Ext.refl _).alloc _)
theorem Grew.drew {S : Nat → Prop} {w W : World} (h : Grew S w W) : Grew S w W.drew := h.ext (Ext.refl _).drew
theorem Grew.drewN {S : Nat → Prop} {w W : World} (h : Grew S w W) (n : Nat) : Grew S w (W.drewN n) := h.ext ((Ext.refl _).drewN n)
theorem Grew.setCell {S : Nat → Prop} {w W : World} (h : Grew S w W) {p : Addr} (hp : S p.block) (u : Value) : Grew S w (W.setCell p u) :=
  ⟨h.os, h.tape, h.output, by rw [World.size_setCell]; exact h.size, fun b hb hS => (Below.heap_setCell _ _ _ _ (fun e => hS (by first | exact e ▸ hp | (rw [e]; exact hp) | (rw [← e]; exact hp)))).trans (h.block b hb hS)⟩
theorem Grew.mono {S T : Nat → Prop} {w W : World} (h : Grew S w W) (hS : ∀ b, b < w.heap.size → S b → T b) : Grew T w W :=
  ⟨h.os, h.tape, h.output, h.size, fun b hb hT => h.block b hb (fun hs => hT (hS b hb hs))⟩
theorem Grew.cell {S : Nat → Prop} {w W : World} (h : Grew S w W) {b o : Nat} {v : Value} (hc : w.cell? ⟨b, o, none⟩ = some v) (hS : ¬ S b) : W.cell? ⟨b, o, none⟩ = some v := by
  have hb := h.block b (World.block_lt_of_cell? _ _ hc) hS
  rw [← hc]
  simp only [World.cell?, hb]
theorem Grew.frozen {S : Nat → Prop} {w W : World} (h : Grew S w W) {b : Nat} (hb : b < w.heap.size) (hS : ¬ S b) (o : Nat) : W.frozen? ⟨b, o, none⟩ = w.frozen? ⟨b, o, none⟩ := by
  have hb := h.block b hb hS
  simp only [World.frozen?, hb]
/-- a list that reads as these whatever becomes of the blocks of S -/
def RdO {α : Type} (K : Kd α) (S : Nat → Prop) (w : World) (v : Value) (xs : List α) : Prop := ∀ W, Grew S w W → Rd K W v xs
theorem RdO.rd {α : Type} {K : Kd α} {S : Nat → Prop} {w : World} {v : Value} {xs : List α} (h : RdO K S w v xs) : Rd K w v xs := h w (Grew.refl S w)
theorem RdO.grew {α : Type} {K : Kd α} {S : Nat → Prop} {w W : World} {v : Value} {xs : List α} (h : RdO K S w v xs) (hG : Grew S w W) : RdO K S W v xs := fun W' hW => h W' (hG.trans hW)
theorem RdO.ext {α : Type} {K : Kd α} {S : Nat → Prop} {w W : World} {v : Value} {xs : List α} (h : RdO K S w v xs) (hE : Ext w W) : RdO K S W v xs := h.grew (Grew.of hE)
theorem RdO.setCell {α : Type} {K : Kd α} {S : Nat → Prop} {w : World} {v : Value} {xs : List α} (h : RdO K S w v xs) {p : Addr} (hp : S p.block) (u : Value) : RdO K S (w.setCell p u) v xs := h.grew ((Grew.refl S w).setCell hp u)
/-- of fewer blocks -/
theorem RdO.mono {α : Type} {K : Kd α} {S T : Nat → Prop} {w : World} {v : Value} {xs : List α} (h : RdO K S w v xs) (hT : ∀ b, b < w.heap.size → T b → S b) : RdO K T w v xs := fun W hW => h W (hW.mono hT)
/-- .. and later, of blocks that aren't older than the list -/
theorem RdO.later {α : Type} {K : Kd α} {S T : Nat → Prop} {w w' : World} {v : Value} {xs : List α} (h : RdO K S w v xs) (hG : Grew S w w') (hT : ∀ b, b < w.heap.size → T b → S b) : RdO K T w' v xs := fun W hW => h W
  ⟨hW.os.trans hG.os, hW.tape.trans hG.tape, hW.output.trans hG.output, Nat.le_trans hG.size hW.size, fun b hb hS => (hW.block b (Nat.lt_of_lt_of_le hb hG.size) (fun ht => hS (hT b hb ht))).trans (hG.block b hb hS)⟩
theorem Rd.off {α : Type} {K : Kd α} {S : Nat → Prop} {w : World} {A : Option Addr} {n c : Nat} {xs : List α} (h : Rd K w (.slice A n c) xs) (hS : ∀ a, A = some a → ¬ S a.block) : RdO K S w (.slice A n c) xs := by
  intro W hW
  obtain ⟨h1, h2, A', cap, hv, hcap, h3⟩ := h
  cases hv
  refine ⟨h1, h2, A, c, rfl, hcap, fun hl => ?_⟩
  obtain ⟨b, off, rfl, hcc⟩ := h3 hl
  exact ⟨b, off, rfl, fun j hj i u hu => hW.cell (hcc j hj i u hu) (hS _ rfl)⟩
theorem RdO.nil {α : Type} {K : Kd α} (S : Nat → Prop) (w : World) (A : Option Addr) (c : Nat) : RdO K S w (.slice A 0 c) [] := fun W _ => Rd.nil W A c
theorem ints_of_rd {w : World} {v : Value} {xs : List Int} (h : Rd kInt w v xs) : Ints w v xs := by
  obtain ⟨h1, h2, A, cap, rfl, hc, h3⟩ := h
  refine ⟨h1, h2, A, cap, rfl, hc, fun hl => ?_⟩
  obtain ⟨b, off, rfl, hcc⟩ := h3 hl
  exact ⟨b, off, rfl, fun j hj => by have := hcc j hj 0 _ rfl; simpa [kInt] using this⟩
end Go.Proofs.YtfkidgpjejcblaaDoor
