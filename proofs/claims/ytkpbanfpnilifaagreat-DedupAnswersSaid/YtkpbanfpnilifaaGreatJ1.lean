/- Joined by wip/merge.py: NPlain, Mem, CPlain, CBase, Row, Data, Kinds, Grew, Mono, RowM, Num, TPlain, TDPlain, TOPlain, CrPlain, CrFun, TRight, TSmall, TAsk, TCopy, TGreat, TPart. -/
import Derived.Test.YtkpbanfpnilifaaGreatRows
import Derived.WalkKit
import Derived.Below
import Derived.Laws.OwnMore
import Derived.Deep.Draws
import Derived.Lib.Hide
import Derived.Maps.OwnSet
import Derived.Maps.AppendAt
import Derived.Deep.AppendLies
import Derived.OwnWalk
import Derived.BigQuiet
import Derived.Outline
import Derived.LoopTactic
import Derived.WalkSpells
import Derived.Deep.QuietTactic
import Derived.Lib.SliceRun
import Derived.Deep.RegionHeld3
import Derived.Laws.MakeOwn
import Derived.Deep.AppendSrc
import Derived.Deep.RegionLaw
import Derived.IntWalk
import Derived.Deep.DeepCutAuto
set_option linter.unusedVariables false
set_option linter.unusedSimpArgs false
set_option linter.unnecessarySimpa false
/- Plain words of lists by a rule. No program in it. -/
namespace Go.Proofs.YtkpbanfpnilifaaGreat.Plain
abbrev kept (keep : List Bool) (i : Nat) : Bool := keep.getD i false
theorem takeN_snoc {l : List Nat} {k : Nat} (h : k < l.length) : l.take (k + 1) = l.take k ++ [l.getD k 0] := by
  rw [List.take_succ_eq_append_getElem h, List.getD_eq_getElem?_getD, List.getElem?_eq_getElem h]; rfl
/-- of each place what a rule says -/
def byN (n : Nat) (f : Nat → Nat) : List Nat := (List.range n).map f
theorem byN_len (n : Nat) (f : Nat → Nat) : (byN n f).length = n := by simp [byN]
theorem byN_snoc (n : Nat) (f : Nat → Nat) : byN (n + 1) f = byN n f ++ [f n] := by unfold byN; rw [List.range_succ, List.map_append]; rfl
theorem byN_getD (n : Nat) (f : Nat → Nat) (j : Nat) (hj : j < n) : (byN n f).getD j 0 = f j := by
  unfold byN
  rw [List.getD_eq_getElem?_getD, List.getElem?_map, List.getElem?_range hj]; rfl
theorem byN_congr (n : Nat) (f h : Nat → Nat) (e : ∀ u, u < n → f u = h u) : byN n f = byN n h := List.map_congr_left fun u hu => e u (List.mem_range.1 hu)
theorem byN_take (n : Nat) (f : Nat → Nat) (k : Nat) (hk : k ≤ n) : (byN n f).take k = byN k f := by unfold byN; rw [← List.map_take, List.take_range, Nat.min_eq_left hk]
theorem byN_id (l : List Nat) : byN l.length (fun i => l.getD i 0) = l := by
  apply List.ext_getElem?
  intro i
  unfold byN
  rw [List.getElem?_map]
  by_cases hi : i < l.length
  · rw [List.getElem?_range hi, List.getElem?_eq_getElem hi]
    simp [List.getD_eq_getElem?_getD, List.getElem?_eq_getElem hi]
  · rw [List.getElem?_eq_none (by simpa using hi), List.getElem?_eq_none (by omega)]; rfl
end Go.Proofs.YtkpbanfpnilifaaGreat.Plain

/- Words for memory: a slice value that reads as a list of integers; what stays of it. -/
namespace Go.Proofs.YtkpbanfpnilifaaGreat
open Go.RowKit

/-- all blocks of the one world are in the other as they were -/
def Ext (w W : World) : Prop := Below w.heap.size w W
theorem Ext.refl (w : World) : Ext w w := Below.refl _ _
theorem Ext.trans {a b c : World} (h : Ext a b) (k : Ext b c) : Ext a c := Below.trans h (Below.mono k h.size)
theorem Ext.alloc {w W : World} (h : Ext w W) (o : Obj) : Ext w (W.alloc o) := Below.alloc h h.size o
theorem Ext.drewN {w W : World} (h : Ext w W) (n : Nat) : Ext w (W.drewN n) := ⟨h.os, h.tape, h.output, h.size, h.block⟩
theorem Ext.drew {w W : World} (h : Ext w W) : Ext w W.drew := Below.drew h
theorem Ext.setCell {w W : World} (h : Ext w W) {p : Addr} (hp : w.heap.size ≤ p.block) (u : Value) : Ext w (W.setCell p u) := Below.setCell h hp u
theorem Ext.cell {w W : World} (h : Ext w W) {a : Addr} {v : Value} (hv : w.cell? a = some v) : W.cell? a = some v := (Below.cell h (World.block_lt_of_cell? _ _ hv)).trans hv
theorem Ext.grown {w W W' : World} (h : Ext w W) {row : Option Nat} (hg : W.grownBy W' row) (hr : ∀ k, row = some k → w.heap.size ≤ k) : Ext w W' := Below.grown h hg h.size hr
theorem Ext.size {w W : World} (h : Ext w W) : w.heap.size ≤ W.heap.size := Below.size h

/-- a slice value that reads as these integers -/
def Ints (w : World) (v : Value) (xs : List Int) : Prop :=
  xs.length ≤ maxLen ∧ (∀ n ∈ xs, -9223372036854775808 ≤ n ∧ n ≤ 9223372036854775807) ∧
  ∃ A cap, v = .slice A xs.length cap ∧ xs.length ≤ cap ∧
    (0 < xs.length → ∃ b off, A = some ⟨b, off, none⟩ ∧ ∀ j, j < xs.length → w.cell? ⟨b, off + j, none⟩ = some (.int .i64 (xs.getD j 0)))

theorem Ints.ext {w W : World} {v : Value} {xs : List Int} (h : Ints w v xs) (hE : Ext w W) : Ints W v xs := by
  obtain ⟨h1, h2, A, cap, rfl, hc, h3⟩ := h
  refine ⟨h1, h2, A, cap, rfl, hc, fun hl => ?_⟩
  obtain ⟨b, off, rfl, hc⟩ := h3 hl
  exact ⟨b, off, rfl, fun j hj => hE.cell (hc j hj)⟩
theorem Ints.cells {w : World} {A : Option Addr} {n c : Nat} {xs : List Int} (h : Ints w (.slice A n c) xs) (hl : 0 < xs.length) :
    ∃ b off, A = some ⟨b, off, none⟩ ∧ ∀ j, j < xs.length → w.cell? ⟨b, off + j, none⟩ = some (.int .i64 (xs.getD j 0)) := by
  obtain ⟨_, _, A', c', hv, _, h3⟩ := h
  cases hv
  exact h3 hl
theorem Ints.nil (w : World) (A : Option Addr) (c : Nat) : Ints w (.slice A 0 c) [] := ⟨by simp, by simp, A, c, rfl, by simp, by simp⟩

/-- integers that a call's own row holds -/
theorem Ints.own {w : World} {base : Nat} {e : TypeId} {v : Value} {xs : List Int} (h : w.ownsRow base e 1 v xs.length (xs.map (Value.int .i64))) (hm : xs.length ≤ maxLen)
    (hb : ∀ n ∈ xs, -9223372036854775808 ≤ n ∧ n ≤ 9223372036854775807) : Ints w v xs := by
  rcases h.2 with ⟨rfl, hx⟩ | ⟨g, cap, cur, hv, hg, hh, hnc, h4⟩
  · obtain rfl : xs = [] := by simpa using hx
    exact Ints.nil w _ _
  · refine ⟨hm, hb, some ⟨g, 0, none⟩, cap, hv, hnc, fun hl => ⟨g, 0, rfl, fun j hj => ?_⟩⟩
    have hx := h.cells (g := g) (by rw [hv]; rfl) j (.int .i64 (xs.getD j 0)) (by
      rw [List.getElem?_map, List.getD_eq_getElem?_getD, List.getElem?_eq_getElem hj]; rfl)
    have e : (⟨g, 0, none⟩ : Addr).add j = ⟨g, 0 + j, none⟩ := by
      by_cases h0 : j = 0
      · subst h0; rfl
      · simp [Addr.add, h0]
    rw [e] at hx
    exact hx

/-- a region whose order is open, over a class of worlds -/
theorem wp_region_class {P : Program} {id : Nat} {Q : Exit → Act → World → Prop} {a : Act} {w : World} {l : List Oper} (C : World → Prop) (hm : P.follows .mixedOrders = true) (hB : Region.lexB .any l.toArray = true) (hC : C w.drew)
    (h : wpQuiet P l.toArray C (fun a' => ∀ w', C w' → Q .normal a' w') l a) : (Code.region id l.toArray true).wp P Q a w :=
  wp_region_quiet (C := C) hm hB hC (by simpa using h)
theorem ret_bool {a b : Bool} (h : a = b) : Ending.returned (.bool a) = .returned (.bool b) := by rw [h]
theorem ret_int {k : IntKind} {a b : Int} (h : a = b) : Ending.returned (.int k a) = .returned (.int k b) := by rw [h]
theorem bcell {W w1 : World} (hb : Below W.heap.size W w1) : (∀ b o, b < W.heap.size → w1.cell? ⟨b, o, none⟩ = W.cell? ⟨b, o, none⟩) ∧ (∀ b o, b < W.heap.size → w1.frozen? ⟨b, o, none⟩ = W.frozen? ⟨b, o, none⟩) :=
  ⟨fun b o h => hb.cell (p := ⟨b, o, none⟩) h, fun b o h => hb.frozen (p := ⟨b, o, none⟩) h⟩
/-- a slice of integers that a call has made: it lies in blocks from B on -/
def Own (B : Nat) (w : World) (v : Value) (xs : List Int) : Prop :=
  w.ownsRow B 3 1 v xs.length (xs.map (Value.int .i64)) ∧ ∀ n ∈ xs, -9223372036854775808 ≤ n ∧ n ≤ 9223372036854775807
theorem Own.len {B : Nat} {w : World} {v : Value} {xs : List Int} (h : Own B w v xs) : xs.length ≤ maxLen := by
  rcases h.1.2 with ⟨_, hx⟩ | ⟨g, cap, cur, hv, hg, hh, hnc, h4, _⟩ <;> omega
theorem Own.ints {B : Nat} {w : World} {v : Value} {xs : List Int} (h : Own B w v xs) : Ints w v xs := Ints.own h.1 h.len h.2
theorem Own.lt {B : Nat} {w : World} {v : Value} {xs : List Int} (h : Own B w v xs) : ∀ k, v.ownBlock = some k → B ≤ k ∧ k < w.heap.size := h.1.lt
theorem Own.shape {B : Nat} {w : World} {v : Value} {xs : List Int} (h : Own B w v xs) : ∃ A c, v = .slice A xs.length c ∧ xs.length ≤ c := by
  obtain ⟨_, _, A, c, rfl, hc, _⟩ := h.ints
  exact ⟨A, c, rfl, hc⟩
theorem Own.ext {B : Nat} {w W : World} {v : Value} {xs : List Int} (h : Own B w v xs) (hE : Ext w W) : Own B W v xs := by
  obtain ⟨⟨h1, h2⟩, hb⟩ := h
  refine ⟨⟨h1, ?_⟩, hb⟩
  rcases h2 with h2 | ⟨g, cap, cur, hv, hg, hh, hr⟩
  · exact .inl h2
  · have hlt : g < w.heap.size := by
      rcases Nat.lt_or_ge g w.heap.size with hlt | hge
      · exact hlt
      · rw [Array.getElem?_eq_none hge] at hh; cases hh
    exact .inr ⟨g, cap, cur, hv, hg, (Below.block hE g hlt).trans hh, hr⟩
theorem Own.nil (B : Nat) (w : World) : Own B w (.slice none 0 0) [] := ⟨World.ownsRow_nil _ _ _ _, by simp⟩
theorem Own.made (w : World) (cur : Array Value) (cap : Nat) {B : Nat} (hb : B ≤ w.heap.size) (hm : cap ≤ maxLen) (hs : cur.size = cap) :
    Own B (w.alloc (.cells cur 3)) (.slice (some ⟨w.heap.size, 0, none⟩) 0 cap) [] := ⟨World.ownsRow_made w cur cap hb hm (by omega), by simp⟩
theorem Own.lit (w : World) (xs : List Int) {B : Nat} (hb : B ≤ w.heap.size) (hm : xs.length ≤ maxLen) (hx : ∀ n ∈ xs, -9223372036854775808 ≤ n ∧ n ≤ 9223372036854775807) :
    Own B (w.alloc (.cells (xs.map (Value.int .i64)).toArray 3)) (.slice (some ⟨w.heap.size, 0, none⟩) xs.length xs.length) xs := by
  have h := World.ownsRow_lit (e := 3) (size := 1) w (xs.map (Value.int .i64)).toArray xs.length hb hm (by simp)
  exact ⟨by simpa using h, hx⟩
/-- a row that isn't empty, with its block -/
theorem Own.pos {B : Nat} {w : World} {A : Option Addr} {n c : Nat} {xs : List Int} (h : Own B w (.slice A n c) xs) (hl : 0 < xs.length) :
    ∃ g, A = some ⟨g, 0, none⟩ ∧ B ≤ g ∧ g < w.heap.size ∧ (∀ j, j < xs.length → w.cell? ⟨g, j, none⟩ = some (.int .i64 (xs.getD j 0))) ∧ (∀ j, w.frozen? ⟨g, j, none⟩ = false) ∧
      (∀ j u, j < xs.length → (-9223372036854775808 ≤ u ∧ u ≤ 9223372036854775807) → Own B (w.setCell ⟨g, j, none⟩ (.int .i64 u)) (.slice A n c) (xs.set j u)) := by
  obtain ⟨h1, hb⟩ := h
  have hh := h1
  rcases h1.2 with ⟨_, hx⟩ | ⟨g, cap, cur, hv, hg, hh', hnc, h4, h5, h6⟩
  · omega
  · cases hv
    refine ⟨g, rfl, hg, (hh.lt g rfl).2, fun j hj => ?_, fun j => World.ownsRow.frozenAt hh j, fun j u hj hu => ?_⟩
    · rw [World.ownsRow.cellAt hh j (by omega), List.getElem?_map, List.getD_eq_getElem?_getD, List.getElem?_eq_getElem hj]; rfl
    · have hs := World.ownsRow.stored hh j (.int .i64 u)
      refine ⟨?_, ?_⟩
      · rw [List.map_set, List.length_set]; exact hs.1
      · intro n hn
        rcases List.mem_or_eq_of_mem_set hn with h | h
        · exact hb n h
        · subst h; exact hu
theorem Own.set {B g n c : Nat} {w : World} {xs : List Int} (h : Own B w (.slice (some ⟨g, 0, none⟩) n c) xs) {j : Nat} (hj : j < xs.length) {u : Int} (hu : -9223372036854775808 ≤ u ∧ u ≤ 9223372036854775807) :
    Own B (w.setCell ⟨g, j, none⟩ (.int .i64 u)) (.slice (some ⟨g, 0, none⟩) n c) (xs.set j u) := by
  obtain ⟨g', he, _, _, _, _, hs⟩ := h.pos (by omega)
  cases he
  exact hs j u hj hu
theorem Own.setOther {B : Nat} {w : World} {v : Value} {xs : List Int} (h : Own B w v xs) {p : Addr} (hp : v.ownBlock ≠ some p.block) (u : Value) : Own B (w.setCell p u) v xs := by
  obtain ⟨⟨h1, h2⟩, hb⟩ := h
  refine ⟨⟨h1, ?_⟩, hb⟩
  rcases h2 with h2 | ⟨g, cap, cur, rfl, hg, hh, hr⟩
  · exact .inl h2
  · exact .inr ⟨g, cap, cur, rfl, hg, (Below.heap_setCell _ _ _ _ (fun e => hp (by simp [Value.ownBlock, e]))).trans hh, hr⟩
theorem Own.take {B : Nat} {w : World} {A : Option Addr} {n c : Nat} {xs : List Int} (h : Own B w (.slice A n c) xs) (k : Nat) (hk : k ≤ xs.length) (h0 : 0 < xs.length) : Own B w (.slice A k c) (xs.take k) := by
  obtain ⟨⟨h1, h2⟩, hb⟩ := h
  have hl : (xs.take k).length = k := by simp; omega
  refine ⟨⟨by simp, ?_⟩, fun n hn => hb n (List.mem_of_mem_take hn)⟩
  rw [hl]
  rcases h2 with ⟨_, h2⟩ | ⟨g, cap, cur, hv, hg, hh, hnc, hcm, hcs, ht⟩
  · omega
  · cases hv
    refine .inr ⟨g, _, cur, rfl, hg, hh, by omega, hcm, hcs, ?_⟩
    rw [List.map_take, ← ht, List.take_take, Nat.min_eq_left (by omega), Nat.mul_one]
theorem Own.mono {B B' : Nat} {w : World} {v : Value} {xs : List Int} (h : Own B w v xs) (hB : B' ≤ B) : Own B' w v xs := by
  obtain ⟨⟨h1, h2⟩, hb⟩ := h
  refine ⟨⟨h1, ?_⟩, hb⟩
  rcases h2 with h2 | ⟨g, cap, cur, hv, hg, hr⟩
  · exact .inl h2
  · exact .inr ⟨g, cap, cur, hv, by omega, hr⟩
theorem Own.setBelow {B : Nat} {w : World} {v : Value} {xs : List Int} (h : Own B w v xs) {p : Addr} (hp : p.block < B) (u : Value) : Own B (w.setCell p u) v xs :=
  ⟨ownsRow_setCell_below h.1 hp u, h.2⟩
/-- a step that writes nothing of it leaves it -/
theorem Own.kept {B : Nat} {w w' : World} {v : Value} {xs : List Int} {row : Option Nat} (h : Own B w v xs) (hg : w.grownBy w' row) (hne : v.ownBlock = none ∨ v.ownBlock ≠ row) : Own B w' v xs := ⟨h.1.kept hg hne, h.2⟩

/-- a slice of a block from B on -/
def From (B : Nat) (A : Option Addr) : Prop := ∀ a, A = some a → B ≤ a.block
theorem From.none (B : Nat) : From B none := fun a h => by cases h
theorem Own.from {B n c : Nat} {A : Option Addr} {w : World} {xs : List Int} (h : Own B w (.slice A n c) xs) : From B A := fun a ha => by
  subst ha
  rcases h.1.2 with ⟨h0, _⟩ | ⟨g, cap, cur, hv, hg, _⟩
  · cases h0
  · cases hv; exact hg
theorem From.mono {B B' : Nat} {A : Option Addr} (h : From B A) (hB : B' ≤ B) : From B' A := fun a ha => Nat.le_trans hB (h a ha)

theorem Ints.grown {w w' : World} {A : Option Addr} {n c : Nat} {xs : List Int} {row : Option Nat} (h : Ints w (.slice A n c) xs) (hg : w.grownBy w' row) (hne : ∀ a, A = some a → some a.block ≠ row) : Ints w' (.slice A n c) xs := by
  obtain ⟨h1, h2, A', cap, hv, hcap, h3⟩ := h
  cases hv
  refine ⟨h1, h2, A, c, rfl, hcap, fun hl => ?_⟩
  obtain ⟨b, off, rfl, hcc⟩ := h3 hl
  exact ⟨b, off, rfl, fun j hj => hg.cell (hcc j hj) (hne ⟨b, off, none⟩ rfl)⟩

theorem intInfo : (Tryz.prog.info? 3).map (fun i => (i.zero, i.size, i.bytes)) = some (some (.int .i64 0), 1, 8) := by kernel_rfl

theorem run_app (w : World) (B : Nat) (v : Value) (xs : List Int) (hown : Own B w v xs) (y : Value) (ys : List Int) (hy : Ints w y ys) (hl : xs.length + ys.length ≤ 1048576) (hB : B ≤ w.heap.size) :
    ∃ v' w', (Builtin.append_ #[29, 29] 29 #[v, y]).run Tryz.prog w = .ok v' w' ∧ Own B w' v' (xs ++ ys) ∧ w.grownBy w' v.ownBlock ∧ (v'.ownBlock = v.ownBlock ∨ v'.ownBlock = some w.heap.size) := by
  obtain ⟨hm, hb, A, cap, rfl, hcap, hc⟩ := hy
  obtain ⟨i0, hi, hz0, hz1, hz2⟩ := info_parts intInfo
  rcases A with _ | ad
  · have h0 : ys = [] := by
      cases ys with
      | nil => rfl
      | cons a l => obtain ⟨b, off, h, _⟩ := hc (by simp); cases h
    subst h0
    have hr : (Builtin.append_ #[29, 29] 29 #[v, .slice none 0 cap]).run Tryz.prog w = .ok v w := by
      rcases hown.1.2 with ⟨rfl, _⟩ | ⟨g, cap', cur, rfl, _, _, hnc, _⟩
      · simp [Builtin.append_, run_underlying Tryz.underlying29, sizeOf, typeInfo, hi, Builtin.lenOf, Builtin.firstCells]
      · simp [Builtin.append_, run_underlying Tryz.underlying29, sizeOf, typeInfo, hi, Builtin.lenOf, Builtin.firstCells, hnc, storeCells]
    exact ⟨v, w, hr, by simpa using hown, World.grownBy.refl w _, .inl rfl⟩
  · have hcells : ∀ j u, (ys.map (Value.int .i64))[j]? = some u → w.cell? (ad.add j) = some u := by
      intro j u hu
      rw [List.getElem?_map] at hu
      cases h : ys[j]? with
      | none => rw [h] at hu; cases hu
      | some z =>
        rw [h] at hu
        cases hu
        have hj : j < ys.length := by
          rcases Nat.lt_or_ge j ys.length with hlt | hge
          · exact hlt
          · rw [List.getElem?_eq_none hge] at h; cases h
        obtain ⟨b, off, he, hcc⟩ := hc (by omega)
        cases he
        have := hcc j hj
        rw [List.getD_eq_getElem?_getD, h] at this
        have e : (⟨b, off, none⟩ : Addr).add j = ⟨b, off + j, none⟩ := by
          by_cases h0 : j = 0
          · subst h0; rfl
          · simp [Addr.add, h0]
        rw [e]; exact this
    obtain ⟨v', w', hr, h2, h3, _, h5⟩ := run_append_own_at (P := Tryz.prog) w B 29 29 3 i0 (.int .i64 0) 1 8 Tryz.underlying29 hi hz0 hz1 hz2 rfl (by decide) v xs.length _ hown.1 ad ys.length cap (ys.map (Value.int .i64)) (by simp) hcells
      (by intro u hu; obtain ⟨z, _, rfl⟩ := List.mem_map.1 hu; rfl) (by unfold maxLen; omega) (by omega) hB
    exact ⟨v', w', hr, ⟨by simpa using h2, by
      intro n hn
      rcases List.mem_append.1 hn with h | h
      · exact hown.2 n h
      · exact hb n h⟩, h3, h5⟩

theorem wp_app {o : Oper} {a : Act} {w : World} {K : Act → World → Prop} {Q : Exit → Act → World → Prop} (s x : Operand)
    (ho : o.op = .call { callee := .builtin .append, args := #[s, x], argTypes := #[29, 29] }) (hty : o.type = 29)
    (B : Nat) (v : Value) (xs : List Int) (hs : a.eval s = v) (hown : Own B w v xs) (y : Value) (ys : List Int) (hx : a.eval x = y) (hy : Ints w y ys) (hl : xs.length + ys.length ≤ 1048576) (hB : B ≤ w.heap.size)
    (h : ∀ v' w', Own B w' v' (xs ++ ys) → w.grownBy w' v.ownBlock → (v'.ownBlock = v.ownBlock ∨ v'.ownBlock = some w.heap.size) → K (a.put o.dst v') w') : o.wp Tryz.prog a w K Q := by
  obtain ⟨v', w', hr, h2, h3, h4⟩ := run_app w B v xs hown y ys hy hl hB
  unfold Oper.wp execOp
  simp only [ho, hty, resolve, invoke, builtin, Sem.run_bind, Sem.run_pure, Result.andThen_ok, List.map_toArray, List.map_cons, List.map_nil, hs, hx, hr]
  exact h v' w' h2 h3 h4

theorem wpList_app {ops : Array Oper} {rest : List Oper} {o : Oper} {a : Act} {w : World} {Q : Exit → Act → World → Prop} (hgd : o.guard = none) (s x : Operand)
    (ho : o.op = .call { callee := .builtin .append, args := #[s, x], argTypes := #[29, 29] }) (hty : o.type = 29)
    (B : Nat) (v : Value) (xs : List Int) (hs : a.eval s = v) (hown : Own B w v xs) (y : Value) (ys : List Int) (hx : a.eval x = y) (hy : Ints w y ys) (hl : xs.length + ys.length ≤ 1048576) (hB : B ≤ w.heap.size)
    (h : ∀ v' w', Own B w' v' (xs ++ ys) → w.grownBy w' v.ownBlock → (v'.ownBlock = v.ownBlock ∨ v'.ownBlock = some w.heap.size) → wpList Tryz.prog ops Q rest (a.put o.dst v') w') : wpList Tryz.prog ops Q (o :: rest) a w :=
  wpList_plain hgd fun _ hK => wp_app s x ho hty B v xs hs hown y ys hx hy hl hB fun v' w' h2 h3 h4 => hK _ _ (h v' w' h2 h3 h4)

theorem step_app {ops : Array Oper} {o : Oper} {a : Act} {w : World} {K : Act → World → Prop} {Q : Exit → Act → World → Prop} {E : Prop} (hgd : o.guard = none) (s x : Operand)
    (ho : o.op = .call { callee := .builtin .append, args := #[s, x], argTypes := #[29, 29] }) (hty : o.type = 29)
    (B : Nat) (v : Value) (xs : List Int) (hs : a.eval s = v) (hown : Own B w v xs) (y : Value) (ys : List Int) (hx : a.eval x = y) (hy : Ints w y ys) (hl : xs.length + ys.length ≤ 1048576) (hB : B ≤ w.heap.size)
    (h : ∀ v' w', Own B w' v' (xs ++ ys) → w.grownBy w' v.ownBlock → (v'.ownBlock = v.ownBlock ∨ v'.ownBlock = some w.heap.size) → K (a.put o.dst v') w') :
    if Region.wanted o (yielded ops a.tmps) = true then Oper.wp Tryz.prog o a w K Q else E := by
  have hw : Region.wanted o (yielded ops a.tmps) = true := by simp [Region.wanted, hgd]
  rw [if_pos hw]
  exact wp_app s x ho hty B v xs hs hown y ys hx hy hl hB h

/-- one integer, laid in a block of its own -/
theorem Ints.one (w : World) (x : Int) (c : Nat) (hc : 1 ≤ c) (hx : -9223372036854775808 ≤ x ∧ x ≤ 9223372036854775807) :
    Ints (w.alloc (.cells #[.int .i64 x] 3)) (.slice (some ⟨w.heap.size, 0, none⟩) 1 c) [x] := by
  refine ⟨by simp [maxLen], by simpa using hx, _, c, rfl, hc, fun _ => ⟨w.heap.size, 0, rfl, fun j hj => ?_⟩⟩
  obtain rfl : j = 0 := by simp at hj; omega
  simp

theorem Ints.one' (w : World) (p : Nat) (x : Int) (c : Nat) (hp : p = w.heap.size) (hc : 1 ≤ c) (hx : -9223372036854775808 ≤ x ∧ x ≤ 9223372036854775807) :
    Ints (w.alloc (.cells #[.int .i64 x] 3)) (.slice (some ⟨p, 0, none⟩) 1 c) [x] := by subst hp; exact Ints.one w x c hc hx
/-- a map value that is the set of these integers -/
def SetIs (w : World) (v : Value) (xs : List Int) : Prop :=
  ∃ (b n : Nat) (D : DataW Unit), v = .map (some b) ∧ w.ownsMap Tryz.prog 3 unitElem b n D ∧ ∀ c : Int, Maps.has D (.int .i64 c) = decide (c ∈ xs)
theorem SetIs.ext {w W : World} {v : Value} {xs : List Int} (h : SetIs w v xs) (hE : Ext w W) : SetIs W v xs := by
  obtain ⟨b, n, D, rfl, ⟨es, clock, hb, hr⟩, hD⟩ := h
  have hlt : b < w.heap.size := by
    rcases Nat.lt_or_ge b w.heap.size with hlt | hge
    · exact hlt
    · rw [Array.getElem?_eq_none hge] at hb; cases hb
  exact ⟨b, n, D, rfl, ⟨es, clock, (Below.block hE b hlt).trans hb, hr⟩, hD⟩
theorem zeroUnit (w : World) : (zeroValue 58).run Tryz.prog w = .ok (.agg #[]) w := by kernel_rfl
end Go.Proofs.YtkpbanfpnilifaaGreat

/- Plain words on lists of integers: no program in it. -/
namespace Go.Proofs.YtkpbanfpnilifaaGreat.Plain
theorem eq_of_all (xs ys : List Int) (hl : xs.length = ys.length) (h : ∀ j, j < xs.length → xs.getD j 0 = ys.getD j 0) : xs = ys := by
  apply List.ext_getElem hl
  intro i h1 h2
  have := h i h1
  simpa [List.getD_eq_getElem?_getD, List.getElem?_eq_getElem h1, List.getElem?_eq_getElem h2] using this
def lastD (xs : List Int) : Int := xs.getD (xs.length - 1) 0
end Go.Proofs.YtkpbanfpnilifaaGreat.Plain

/- Whether two lists are the same; a clone. -/
namespace Go.Proofs.YtkpbanfpnilifaaGreat
open Go.RowKit Go.Proofs.YtkpbanfpnilifaaGreat.Plain

def sameB (xs ys : List Int) : Bool := decide (xs = ys)

set_option maxHeartbeats 400000 in
theorem ints_any (v u : Value) (xs ys : List Int) (w : World) (h : Ints w v xs) (h' : Ints w u ys) :
    Calls Tryz.prog 10 #[v, u] w fun e w' => e = .returned (.bool (sameB xs ys)) ∧ ∃ n, w' = w.drewN n := by
  obtain ⟨hm, hb, A, cap, rfl, hcap, hc⟩ := h
  obtain ⟨hm', hb', A', cap', rfl, hcap', hc'⟩ := h'
  unfold maxLen at hm hm'
  by_cases hl : xs.length = ys.length
  · have H := Lib.hid hl
    have e : decide ((xs.length : Int) = (ys.length : Int)) = true := by simp [hl]
    have e2 : ((xs.length : Int) != (ys.length : Int)) = false := by simp [hl]
    clear hl
    go_enter Tryz.func10, Tryz.ntmps10
    go_wp2
    clear e e2
    go_loopw [5] (fun i wr => ∃ k n : Nat, k ≤ xs.length ∧ i = .int .i64 k ∧ wr = w.drewN n ∧ ∀ j, j < k → xs.getD j 0 = ys.getD j 0) (fun i _ => xs.length - (intOf i).toNat)
    case atStart => exact ⟨0, 0, Nat.zero_le _, rfl, rfl, by omega⟩
    case round =>
      obtain ⟨k, n, hk, rfl, rfl, ha⟩ := hrel
      have HA := Lib.hid ha
      clear ha
      by_cases hlt : k < xs.length
      · obtain ⟨b, off, rfl, hcc⟩ := hc (by omega)
        obtain ⟨b', off', rfl, hcc'⟩ := hc' (by have := H.out; omega)
        have hcell := hcc k hlt
        have hcell' := hcc' k (by have := H.out; omega)
        have hlt' : k < ys.length := by have := H.out; omega
        have HC := Lib.hid hc
        have HC' := Lib.hid hc'
        clear hc hcc hc' hcc'
        by_cases he : xs.getD k 0 = ys.getD k 0
        · have HE := Lib.hid he
          have e1 : ((xs.getD k 0) != (ys.getD k 0)) = false := by rw [he]; simp
          generalize hg : xs.getD k 0 = g at *
          generalize hg' : ys.getD k 0 = g' at *
          clear he
          go_wp2
          go_quiet (fail)
          go_wp2
          go_roundw
          case rel => exact ⟨k + 1, _, by omega, by go_num, rfl, fun j hj => by
            rcases Nat.lt_or_ge j k with h1 | h1
            · exact HA.out j h1
            · obtain rfl : j = k := by omega
              rw [hg, hg', HE.out]⟩
          case measure => simp [intOf]; omega
        · have HE := Lib.hid he
          have e1 : ((xs.getD k 0) != (ys.getD k 0)) = true := by simpa using he
          have HR : Hid (sameB xs ys = false) := Lib.hid (by unfold sameB; rw [decide_eq_false_iff_not]; intro h; exact he (by rw [h]))
          generalize hg : xs.getD k 0 = g at *
          generalize hg' : ys.getD k 0 = g' at *
          clear he
          go_wp2
          go_quiet (fail)
          go_wp2
          go_ret
          exact ⟨ret_bool HR.out.symm, n + nq, by simp⟩
      · have HR : Hid (sameB xs ys = true) := Lib.hid (by unfold sameB; rw [decide_eq_true_eq]; exact eq_of_all _ _ H.out (fun j hj => HA.out j (by omega)))
        clear hc hc'
        go_wp2
        go_ret
        exact ⟨ret_bool HR.out.symm, _, rfl⟩
  · have e2 : ((xs.length : Int) != (ys.length : Int)) = true := by simp; omega
    have HR : Hid (sameB xs ys = false) := Lib.hid (by unfold sameB; rw [decide_eq_false_iff_not]; intro h; exact hl (by rw [h]))
    clear hl hc hc'
    go_enter Tryz.func10, Tryz.ntmps10
    go_wp2
    go_ret
    exact ⟨ret_bool HR.out.symm, 0, rfl⟩

set_option maxHeartbeats 400000 in
theorem clone_any (v : Value) (xs : List Int) (w : World) (h : Ints w v xs) (hl : xs.length ≤ 1048576) :
    Calls Tryz.prog 90 #[v] w fun e w' => ∃ A c, e = .returned (.slice A xs.length c) ∧ Own w.heap.size w' (.slice A xs.length c) xs ∧ Ext w w' := by
  have hi := h
  obtain ⟨hm, hb, A, cap, rfl, hcap, hc⟩ := h
  have HC := Lib.hid hc
  clear hc
  have hnil := fun (w : World) (a : Option Addr) (n c : Nat) => Lib.run_eql_slice_nil w 29 3 a n c 0 0 Tryz.underlying29
  cases A with
  | none =>
    have h0 : xs = [] := by
      cases xs with
      | nil => rfl
      | cons a l => obtain ⟨b, off, h, _⟩ := HC.out (by simp); cases h
    subst h0
    go_enter Tryz.func90, Tryz.ntmps90
    go_wp2
    go_ret
    exact ⟨_, _, rfl, Own.nil _ _, Ext.refl _⟩
  | some ad =>
    go_enter Tryz.func90, Tryz.ntmps90
    go_wp2_with (at_builtin; refine wpList_app rfl _ _ rfl rfl w.heap.size _ [] rfl (Own.made w #[] 0 (Nat.le_refl _) (by simp) rfl) _ xs rfl (hi.ext ((Ext.refl w).alloc _)) (by simpa using hl) (by simp) ?_; intro u w1 hown hgrow hat)
    go_ret
    obtain ⟨A1, c1, rfl, _⟩ := hown.shape
    refine ⟨A1, c1, rfl, hown, ((Ext.refl w).alloc _).grown hgrow (fun k hk => ?_)⟩
    cases hk; exact Nat.le_refl _

end Go.Proofs.YtkpbanfpnilifaaGreat

/- Lists of elements of any kind (integers of a kind, bools, structs of one-cell fields): what reads as one, and what a call has made; append, for any of them. -/
namespace Go.Proofs.YtkpbanfpnilifaaGreat
open Go.RowKit

/-- a kind of elements: their types, cells, bounds -/
structure Kd (α : Type) where
  t : TypeId
  e : TypeId
  n : Nat
  cells : α → List Value
  ok : α → Prop
  d : α
  z : Value
  bytes : Nat
  ht : Tryz.prog.underlying t = some (.slice e)
  info : (Tryz.prog.info? e).map (fun i => (i.zero, i.size, i.bytes)) = some (some z, n, bytes)
  hzs : z.cells.size = n
  pos : 0 < n
  small : bytes ≤ 256
  len : ∀ a, (cells a).length = n
  one : ∀ a, ∀ u ∈ cells a, u.oneCell' = true

section
variable {α : Type} (K : Kd α)

def Kd.flat (xs : List α) : List Value := xs.flatMap K.cells
theorem Kd.flat_len (xs : List α) : (K.flat xs).length = xs.length * K.n := by
  unfold Kd.flat
  induction xs with
  | nil => simp
  | cons h t ih => rw [List.flatMap_cons, List.length_append, ih, K.len, List.length_cons, Nat.add_mul, Nat.one_mul, Nat.add_comm]
theorem Kd.flat_app (xs ys : List α) : K.flat (xs ++ ys) = K.flat xs ++ K.flat ys := by simp [Kd.flat]
theorem Kd.flat_one (x : α) : K.flat [x] = K.cells x := by simp [Kd.flat]
theorem Kd.flat_at (xs : List α) (j i : Nat) (hj : j < xs.length) (hi : i < K.n) : (K.flat xs)[j * K.n + i]? = (K.cells (xs.getD j K.d))[i]? := by
  induction xs generalizing j with
  | nil => simp at hj
  | cons h t ih =>
    have e : K.flat (h :: t) = K.cells h ++ K.flat t := by simp [Kd.flat]
    cases j with
    | zero => rw [e, Nat.zero_mul, Nat.zero_add, List.getElem?_append_left (by rw [K.len]; exact hi)]; rfl
    | succ j =>
      have := ih j (by simpa using hj)
      rw [e, List.getElem?_append_right (by rw [K.len, Nat.add_mul, Nat.one_mul]; omega), K.len, show (j + 1) * K.n + i - K.n = j * K.n + i by rw [Nat.add_mul, Nat.one_mul]; omega, this]
      rfl
theorem Kd.flat_mem {xs : List α} {u : Value} (h : u ∈ K.flat xs) : u.oneCell' = true := by
  obtain ⟨a, _, ha⟩ := List.mem_flatMap.1 h
  exact K.one a u ha
/-- a place in the cells: of which element, which cell of it -/
theorem Kd.split (j m : Nat) (h : j < m * K.n) : j / K.n < m ∧ j % K.n < K.n ∧ j = j / K.n * K.n + j % K.n := by
  have hp := K.pos
  refine ⟨Nat.div_lt_of_lt_mul (by rw [Nat.mul_comm]; exact h), Nat.mod_lt _ hp, ?_⟩
  rw [Nat.mul_comm]
  exact (Nat.div_add_mod j K.n).symm

/-- a slice value that reads as these -/
def Rd (w : World) (v : Value) (xs : List α) : Prop :=
  xs.length ≤ maxLen ∧ (∀ x ∈ xs, K.ok x) ∧ ∃ A cap, v = .slice A xs.length cap ∧ xs.length ≤ cap ∧
    (0 < xs.length → ∃ b off, A = some ⟨b, off, none⟩ ∧ ∀ j, j < xs.length → ∀ i u, (K.cells (xs.getD j K.d))[i]? = some u → w.cell? ⟨b, off + j * K.n + i, none⟩ = some u)
/-- a list that a call has made: it lies in blocks from B on -/
def Ow (B : Nat) (w : World) (v : Value) (xs : List α) : Prop := w.ownsRow B K.e K.n v xs.length (K.flat xs) ∧ ∀ x ∈ xs, K.ok x

variable {K}
theorem Rd.ext {w W : World} {v : Value} {xs : List α} (h : Rd K w v xs) (hE : Ext w W) : Rd K W v xs := by
  obtain ⟨h1, h2, A, cap, rfl, hc, h3⟩ := h
  refine ⟨h1, h2, A, cap, rfl, hc, fun hl => ?_⟩
  obtain ⟨b, off, rfl, hcc⟩ := h3 hl
  exact ⟨b, off, rfl, fun j hj i u hu => hE.cell (hcc j hj i u hu)⟩
theorem Rd.cells {w : World} {A : Option Addr} {n c : Nat} {xs : List α} (h : Rd K w (.slice A n c) xs) (hl : 0 < xs.length) :
    ∃ b off, A = some ⟨b, off, none⟩ ∧ ∀ j, j < xs.length → ∀ i u, (K.cells (xs.getD j K.d))[i]? = some u → w.cell? ⟨b, off + j * K.n + i, none⟩ = some u := by
  obtain ⟨_, _, A', c', hv, _, h3⟩ := h
  cases hv
  exact h3 hl
theorem Rd.nil (w : World) (A : Option Addr) (c : Nat) : Rd K w (.slice A 0 c) [] := ⟨by simp, by simp, A, c, rfl, by simp, by simp⟩
theorem Rd.slice {w : World} {v : Value} {xs : List α} (h : Rd K w v xs) : ∃ A c, v = .slice A xs.length c ∧ xs.length ≤ c := by
  obtain ⟨_, _, A, c, rfl, hc, _⟩ := h
  exact ⟨A, c, rfl, hc⟩
theorem Rd.okAt {w : World} {v : Value} {xs : List α} (h : Rd K w v xs) (j : Nat) (hj : j < xs.length) : K.ok (xs.getD j K.d) := by
  rw [List.getD_eq_getElem?_getD, List.getElem?_eq_getElem hj]; exact h.2.1 _ (List.getElem_mem _)
theorem Rd.len {w : World} {v : Value} {xs : List α} (h : Rd K w v xs) : xs.length ≤ 9223372036854775807 := by have := h.1; unfold maxLen at this; omega
theorem getDk_take (d : α) (l : List α) (k j : Nat) (h : j < k) : (l.take k).getD j d = l.getD j d := by
  simp [List.getD_eq_getElem?_getD, List.getElem?_take_of_lt h]
theorem getDk_drop (d : α) (l : List α) (k j : Nat) : (l.drop k).getD j d = l.getD (k + j) d := by
  simp [List.getD_eq_getElem?_getD, List.getElem?_drop]
theorem Rd.take {w : World} {A : Option Addr} {n c : Nat} {xs : List α} (h : Rd K w (.slice A n c) xs) (k c' : Nat) (hk : k ≤ xs.length) (hc : k ≤ c') : Rd K w (.slice A k c') (xs.take k) := by
  obtain ⟨h1, h2, A', cap, hv, hcap, h3⟩ := h
  cases hv
  have hl : (xs.take k).length = k := by rw [List.length_take]; omega
  refine ⟨by rw [hl]; omega, fun n hn => h2 n (List.mem_of_mem_take hn), A, c', by rw [hl], by omega, fun hp => ?_⟩
  rw [hl] at hp
  obtain ⟨b, off, rfl, hcc⟩ := h3 (by omega)
  refine ⟨b, off, rfl, fun j hj i u hu => ?_⟩
  rw [hl] at hj
  rw [getDk_take _ _ _ _ hj] at hu
  exact hcc j (by omega) i u hu
theorem Rd.drop {w : World} {b off n c : Nat} {xs : List α} (h : Rd K w (.slice (some ⟨b, off, none⟩) n c) xs) (k m c' : Nat) (hm : m = xs.length - k) (hc : m ≤ c') : Rd K w (.slice (some ⟨b, off + k * K.n, none⟩) m c') (xs.drop k) := by
  obtain ⟨h1, h2, A', cap, hv, hcap, h3⟩ := h
  cases hv
  have hl : (xs.drop k).length = m := by rw [List.length_drop]; omega
  refine ⟨by rw [hl]; omega, fun n hn => h2 n (List.mem_of_mem_drop hn), _, c', by rw [hl], by omega, fun hp => ?_⟩
  obtain ⟨b', off', he, hcc⟩ := h3 (by omega)
  cases he
  refine ⟨b, off + k * K.n, rfl, fun j hj i u hu => ?_⟩
  rw [hl] at hj
  rw [getDk_drop] at hu
  have := hcc (k + j) (by omega) i u hu
  rw [Nat.add_mul] at this
  rw [show off + k * K.n + j * K.n + i = off + (k * K.n + j * K.n) + i by omega]
  exact this
theorem add_atk (b off j : Nat) : (⟨b, off, none⟩ : Addr).add j = ⟨b, off + j, none⟩ := by
  by_cases h0 : j = 0
  · subst h0; rfl
  · simp [Addr.add, h0]
/-- .. as the walk writes it, where the address is open -/
theorem Rd.dropAdd {w : World} {ad : Addr} {n c : Nat} {xs : List α} (h : Rd K w (.slice (some ad) n c) xs) (k s m c' : Nat) (hs : s = k * K.n) (hm : m = xs.length - k) (hc : m ≤ c') : Rd K w (.slice (some (ad.add s)) m c') (xs.drop k) := by
  subst hs
  by_cases h0 : xs.drop k = []
  · have : m = 0 := by have := congrArg List.length h0; rw [List.length_drop] at this; simp at this; omega
    subst this
    rw [h0]
    exact Rd.nil _ _ _
  · have hl : 0 < xs.length := by
      cases xs with
      | nil => simp at h0
      | cons a l => simp
    obtain ⟨b, off, he, _⟩ := h.cells hl
    cases he
    rw [add_atk]
    exact h.drop k m c' hm hc
/-- the cells, at their address -/
theorem Rd.at_ {w : World} {ad : Addr} {n c : Nat} {xs : List α} (h : Rd K w (.slice (some ad) n c) xs) : ∀ j u, (K.flat xs)[j]? = some u → w.cell? (ad.add j) = some u := by
  intro j u hu
  have hj : j < xs.length * K.n := by
    rw [← K.flat_len]
    rcases Nat.lt_or_ge j (K.flat xs).length with hlt | hge
    · exact hlt
    · rw [List.getElem?_eq_none hge] at hu; cases hu
  obtain ⟨h1, h2, h3⟩ := K.split j xs.length hj
  obtain ⟨b, off, he, hcc⟩ := h.cells (Nat.lt_of_le_of_lt (Nat.zero_le _) h1)
  cases he
  rw [add_atk]
  rw [h3, K.flat_at xs _ _ h1 h2] at hu
  have := hcc _ h1 _ u hu
  rw [show off + j = off + j / K.n * K.n + j % K.n by omega]
  exact this
theorem Rd.grown {w w' : World} {A : Option Addr} {n c : Nat} {xs : List α} {row : Option Nat} (h : Rd K w (.slice A n c) xs) (hg : w.grownBy w' row) (hne : ∀ a, A = some a → some a.block ≠ row) : Rd K w' (.slice A n c) xs := by
  obtain ⟨h1, h2, A', cap, hv, hcap, h3⟩ := h
  cases hv
  refine ⟨h1, h2, A, c, rfl, hcap, fun hl => ?_⟩
  obtain ⟨b, off, rfl, hcc⟩ := h3 hl
  exact ⟨b, off, rfl, fun j hj i u hu => hg.cell (hcc j hj i u hu) (hne ⟨b, off, none⟩ rfl)⟩

theorem Ow.len {B : Nat} {w : World} {v : Value} {xs : List α} (h : Ow K B w v xs) : xs.length ≤ maxLen := by
  rcases h.1.2 with ⟨_, hx⟩ | ⟨g, cap, cur, hv, hg, hh, hnc, h4, _⟩ <;> omega
theorem Ow.lt {B : Nat} {w : World} {v : Value} {xs : List α} (h : Ow K B w v xs) : ∀ k, v.ownBlock = some k → B ≤ k ∧ k < w.heap.size := h.1.lt
theorem mul_at {n m j i : Nat} (hj : j < m) (hi : i < n) : j * n + i < m * n := by
  have : (j + 1) * n ≤ m * n := Nat.mul_le_mul_right _ hj
  rw [Nat.add_mul, Nat.one_mul] at this
  omega
theorem Ow.rd {B : Nat} {w : World} {v : Value} {xs : List α} (h : Ow K B w v xs) : Rd K w v xs := by
  have hm := h.len
  obtain ⟨h1, hb⟩ := h
  have hh := h1
  rcases h1.2 with ⟨rfl, hx⟩ | ⟨g, cap, cur, hv, hg, hh', hnc, h4, h5, h6⟩
  · obtain rfl : xs = [] := List.eq_nil_of_length_eq_zero hx
    exact Rd.nil w _ _
  · subst hv
    refine ⟨hm, hb, some ⟨g, 0, none⟩, cap, rfl, hnc, fun hl => ⟨g, 0, rfl, fun j hj i u hu => ?_⟩⟩
    have hi : i < K.n := by
      rw [← K.len (xs.getD j K.d)]
      rcases Nat.lt_or_ge i (K.cells (xs.getD j K.d)).length with hlt | hge
      · exact hlt
      · rw [List.getElem?_eq_none hge] at hu; cases hu
    rw [Nat.zero_add, World.ownsRow.cellAt hh _ (mul_at hj hi), K.flat_at xs j i hj hi]
    exact hu
theorem Ow.slice {B : Nat} {w : World} {v : Value} {xs : List α} (h : Ow K B w v xs) : ∃ A c, v = .slice A xs.length c ∧ xs.length ≤ c := h.rd.slice
theorem Ow.ext {B : Nat} {w W : World} {v : Value} {xs : List α} (h : Ow K B w v xs) (hE : Ext w W) : Ow K B W v xs := by
  obtain ⟨⟨h1, h2⟩, hb⟩ := h
  refine ⟨⟨h1, ?_⟩, hb⟩
  rcases h2 with h2 | ⟨g, cap, cur, hv, hg, hh, hr⟩
  · exact .inl h2
  · have hlt : g < w.heap.size := by
      rcases Nat.lt_or_ge g w.heap.size with hlt | hge
      · exact hlt
      · rw [Array.getElem?_eq_none hge] at hh; cases hh
    exact .inr ⟨g, cap, cur, hv, hg, (Below.block hE g hlt).trans hh, hr⟩
theorem Ow.nil (B : Nat) (w : World) : Ow K B w (.slice none 0 0) [] := ⟨World.ownsRow_nil _ _ _ _, by simp⟩
theorem Ow.emptyAt (w : World) {B p : Nat} (hp : p = w.heap.size) (hB : B ≤ p) : Ow K B (w.alloc (.cells #[] K.e)) (.slice (some ⟨p, 0, none⟩) 0 0) [] := by
  subst hp
  exact ⟨World.ownsRow_made w #[] 0 hB (by simp) (by simp), by simp⟩
/-- a literal, in a block of its own -/
theorem Ow.lit (w : World) (xs : List α) {B p n : Nat} (cs : Array Value) (hcs : cs.toList = K.flat xs) (hn : xs.length = n) (hp : p = w.heap.size) (hB : B ≤ p) (hm : n ≤ maxLen) (hok : ∀ x ∈ xs, K.ok x) :
    Ow K B (w.alloc (.cells cs K.e)) (.slice (some ⟨p, 0, none⟩) n n) xs := by
  subst hp hn
  have h := World.ownsRow_lit (e := K.e) (size := K.n) w cs xs.length hB hm (by rw [← Array.length_toList, hcs, K.flat_len])
  rw [hcs] at h
  exact ⟨h, hok⟩
theorem Ow.mono {B B' : Nat} {w : World} {v : Value} {xs : List α} (h : Ow K B w v xs) (hB : B' ≤ B) : Ow K B' w v xs := by
  obtain ⟨⟨h1, h2⟩, hb⟩ := h
  refine ⟨⟨h1, ?_⟩, hb⟩
  rcases h2 with h2 | ⟨g, cap, cur, hv, hg, hr⟩
  · exact .inl h2
  · exact .inr ⟨g, cap, cur, hv, by omega, hr⟩
theorem Ow.kept {B : Nat} {w w' : World} {v : Value} {xs : List α} {row : Option Nat} (h : Ow K B w v xs) (hg : w.grownBy w' row) (hne : v.ownBlock = none ∨ v.ownBlock ≠ row) : Ow K B w' v xs := ⟨h.1.kept hg hne, h.2⟩
theorem Ow.setOther {B : Nat} {w : World} {v : Value} {xs : List α} (h : Ow K B w v xs) {p : Addr} (hp : v.ownBlock ≠ some p.block) (u : Value) : Ow K B (w.setCell p u) v xs := by
  obtain ⟨⟨h1, h2⟩, hb⟩ := h
  refine ⟨⟨h1, ?_⟩, hb⟩
  rcases h2 with h2 | ⟨g, cap, cur, rfl, hg, hh, hr⟩
  · exact .inl h2
  · exact .inr ⟨g, cap, cur, rfl, hg, (Below.heap_setCell _ _ _ _ (fun e => hp (by simp [Value.ownBlock, e]))).trans hh, hr⟩
theorem Ow.setBelow {B : Nat} {w : World} {v : Value} {xs : List α} (h : Ow K B w v xs) {p : Addr} (hp : p.block < B) (u : Value) : Ow K B (w.setCell p u) v xs :=
  h.setOther (fun e => by have := (h.lt _ e).1; omega) u
theorem Ow.from {B n c : Nat} {A : Option Addr} {w : World} {xs : List α} (h : Ow K B w (.slice A n c) xs) : From B A := fun a ha => by
  subst ha
  rcases h.1.2 with ⟨h0, _⟩ | ⟨g, cap, cur, hv, hg, _⟩
  · cases h0
  · cases hv; exact hg
/-- one that isn't empty, with its block -/
theorem Ow.pos {B : Nat} {w : World} {A : Option Addr} {n c : Nat} {xs : List α} (h : Ow K B w (.slice A n c) xs) (hl : 0 < xs.length) :
    ∃ g, A = some ⟨g, 0, none⟩ ∧ B ≤ g ∧ g < w.heap.size ∧ (∀ j, j < xs.length → ∀ i u, (K.cells (xs.getD j K.d))[i]? = some u → w.cell? ⟨g, j * K.n + i, none⟩ = some u) ∧ ∀ j, w.frozen? ⟨g, j, none⟩ = false := by
  have hr := h.rd
  obtain ⟨h1, hb⟩ := h
  have hh := h1
  rcases h1.2 with ⟨_, hx⟩ | ⟨g, cap, cur, hv, hg, hh', hnc, h4, h5, h6⟩
  · omega
  · cases hv
    obtain ⟨b, off, he, hcc⟩ := hr.cells hl
    cases he
    exact ⟨g, rfl, hg, (hh.lt g rfl).2, fun j hj i u hu => by have := hcc j hj i u hu; rw [Nat.zero_add] at this; exact this, fun j => World.ownsRow.frozenAt hh j⟩
theorem Kd.flat_set (K : Kd α) (xs : List α) (j i : Nat) (hj : j < xs.length) (hi : i < K.n) (x : α) (u : Value) (hx : K.cells x = (K.cells (xs.getD j K.d)).set i u) : (K.flat xs).set (j * K.n + i) u = K.flat (xs.set j x) := by
  induction xs generalizing j with
  | nil => simp at hj
  | cons h t ih =>
    have e : ∀ a, K.flat (a :: t) = K.cells a ++ K.flat t := fun a => by simp [Kd.flat]
    cases j with
    | zero =>
      rw [Nat.zero_mul, Nat.zero_add, List.set_cons_zero, e, e, hx, List.set_append_left _ _ (by rw [K.len]; exact hi)]
      rfl
    | succ j =>
      have := ih j (by simpa using hj) (by simpa using hx)
      have e2 : K.flat (h :: t.set j x) = K.cells h ++ K.flat (t.set j x) := by simp [Kd.flat]
      rw [List.set_cons_succ, e, e2, List.set_append_right _ _ (by rw [K.len, Nat.add_mul, Nat.one_mul]; omega), K.len, show (j + 1) * K.n + i - K.n = j * K.n + i by rw [Nat.add_mul, Nat.one_mul]; omega, this]
/-- a cell of an element is stored -/
theorem Ow.set {B g n c : Nat} {w : World} {xs : List α} (h : Ow K B w (.slice (some ⟨g, 0, none⟩) n c) xs) {j i : Nat} (hj : j < xs.length) (hi : i < K.n) {x : α} {u : Value} (hx : K.cells x = (K.cells (xs.getD j K.d)).set i u) (hok : K.ok x) :
    Ow K B (w.setCell ⟨g, j * K.n + i, none⟩ u) (.slice (some ⟨g, 0, none⟩) n c) (xs.set j x) := by
  have hh := h.1
  have hn : n = xs.length := by
    rcases hh.2 with ⟨h0, _⟩ | ⟨g', cap, cur, hv, _⟩
    · cases h0
    · cases hv; rfl
  subst hn
  refine ⟨?_, fun y hy => ?_⟩
  · rw [List.length_set, ← K.flat_set xs j i hj hi x u hx]
    exact (World.ownsRow.stored hh (j * K.n + i) u).1
  · rcases List.mem_or_eq_of_mem_set hy with h' | h'
    · exact h.2 y h'
    · subst h'; exact hok
theorem Ow.take {B : Nat} {w : World} {A : Option Addr} {n c : Nat} {xs : List α} (h : Ow K B w (.slice A n c) xs) (k : Nat) (hk : k ≤ xs.length) (h0 : 0 < xs.length) : Ow K B w (.slice A k c) (xs.take k) := by
  obtain ⟨⟨h1, h2⟩, hb⟩ := h
  have hl : (xs.take k).length = k := by simp; omega
  have hf : K.flat (xs.take k) = (K.flat xs).take (k * K.n) := by
    have e : K.flat xs = K.flat (xs.take k) ++ K.flat (xs.drop k) := by rw [← K.flat_app, List.take_append_drop]
    rw [e, List.take_left' (by rw [K.flat_len, hl])]
  refine ⟨⟨by rw [K.flat_len], ?_⟩, fun n hn => hb n (List.mem_of_mem_take hn)⟩
  rw [hl]
  rcases h2 with ⟨_, h2⟩ | ⟨g, cap, cur, hv, hg, hh, hnc, hcm, hcs, ht⟩
  · omega
  · cases hv
    refine .inr ⟨g, _, cur, rfl, hg, hh, by omega, hcm, hcs, ?_⟩
    rw [hf, ← ht, List.take_take, Nat.min_eq_left (Nat.mul_le_mul_right _ hk)]
/-- two lists of a call's own, of two kinds: not one block -/
theorem Ow.far {β : Type} {K' : Kd β} (hne : K.e ≠ K'.e) {B B' : Nat} {w : World} {v u : Value} {xs : List α} {ys : List β} (h : Ow K B w v xs) (h' : Ow K' B' w u ys) : ∀ k, v.ownBlock = some k → u.ownBlock ≠ some k := by
  intro k hk hk'
  rcases h.1.2 with ⟨rfl, _⟩ | ⟨g, cap, cur, rfl, _, hh, _⟩
  · simp [Value.ownBlock] at hk
  · rcases h'.1.2 with ⟨rfl, _⟩ | ⟨g', cap', cur', rfl, _, hh', _⟩
    · simp [Value.ownBlock] at hk'
    · simp only [Value.ownBlock, Option.some.injEq] at hk hk'
      subst hk
      subst hk'
      rw [hh] at hh'
      simp at hh'
      exact hne hh'.2

theorem Kd.run_app (K : Kd α) (w : World) (B : Nat) (v : Value) (xs : List α) (hown : Ow K B w v xs) (y : Value) (ys : List α) (hy : Rd K w y ys) (hl : xs.length + ys.length ≤ 1048576) (hB : B ≤ w.heap.size) :
    ∃ v' w', (Builtin.append_ #[K.t, K.t] K.t #[v, y]).run Tryz.prog w = .ok v' w' ∧ Ow K B w' v' (xs ++ ys) ∧ w.grownBy w' v.ownBlock ∧ (v'.ownBlock = v.ownBlock ∨ v'.ownBlock = some w.heap.size) := by
  have hy' := hy
  obtain ⟨i0, hi, hz0, hz1, hz2⟩ := info_parts K.info
  obtain ⟨hm, hb, A, cap, rfl, hcap, hc⟩ := hy
  rcases A with _ | ad
  · have h0 : ys = [] := by
      cases ys with
      | nil => rfl
      | cons a l => obtain ⟨b, off, h, _⟩ := hc (by simp); cases h
    subst h0
    have hr : (Builtin.append_ #[K.t, K.t] K.t #[v, .slice none 0 cap]).run Tryz.prog w = .ok v w := by
      rcases hown.1.2 with ⟨rfl, _⟩ | ⟨g, cap', cur, rfl, _, _, hnc, _⟩
      · simp [Builtin.append_, run_underlying K.ht, sizeOf, typeInfo, hi, Builtin.lenOf, Builtin.firstCells]
      · simp [Builtin.append_, run_underlying K.ht, sizeOf, typeInfo, hi, Builtin.lenOf, Builtin.firstCells, hnc, storeCells]
    exact ⟨v, w, hr, by simpa using hown, World.grownBy.refl w _, .inl rfl⟩
  · have hsm := K.small
    obtain ⟨v', w', hr, h2, h3, _, h5⟩ := run_append_own_at (P := Tryz.prog) w B K.t K.t K.e i0 K.z K.n K.bytes K.ht hi hz0 hz1 hz2 K.hzs K.pos v xs.length _ hown.1 ad ys.length cap (K.flat ys) (K.flat_len ys) hy'.at_
      (fun u hu => K.flat_mem hu) (by unfold maxLen; omega) (Nat.le_trans (Nat.mul_le_mul hl hsm) (by omega)) hB
    exact ⟨v', w', hr, ⟨by rw [List.length_append, K.flat_app]; exact h2, by
      intro n hn
      rcases List.mem_append.1 hn with h | h
      · exact hown.2 n h
      · exact hb n h⟩, h3, h5⟩
theorem Kd.wp_app (K : Kd α) {o : Oper} {a : Act} {w : World} {C : Act → World → Prop} {Q : Exit → Act → World → Prop} (s x : Operand)
    (ho : o.op = .call { callee := .builtin .append, args := #[s, x], argTypes := #[K.t, K.t] }) (hty : o.type = K.t)
    (B : Nat) (v : Value) (xs : List α) (h1 : a.eval s = v) (hown : Ow K B w v xs) (y : Value) (ys : List α) (hx : a.eval x = y) (hy : Rd K w y ys) (hl : xs.length + ys.length ≤ 1048576) (hB : B ≤ w.heap.size)
    (h : ∀ v' w', Ow K B w' v' (xs ++ ys) → w.grownBy w' v.ownBlock → (v'.ownBlock = v.ownBlock ∨ v'.ownBlock = some w.heap.size) → C (a.put o.dst v') w') : o.wp Tryz.prog a w C Q := by
  obtain ⟨v', w', hr, h2, h3, h4⟩ := K.run_app w B v xs hown y ys hy hl hB
  unfold Oper.wp execOp
  simp only [ho, hty, resolve, invoke, builtin, Sem.run_bind, Sem.run_pure, Result.andThen_ok, List.map_toArray, List.map_cons, List.map_nil, h1, hx, hr]
  exact h v' w' h2 h3 h4
/-- append, as the walk meets it: 'at_builtin; refine K.wpList_app (by rfl) (.tmp _) (.tmp _) (by rfl) (by rfl) BASE _ xs (by rfl) hown _ ys (by rfl) hy hl hB ?_; intro v' w' hown' hgrow' hat'' -/
theorem Kd.wpList_app (K : Kd α) {ops : Array Oper} {rest : List Oper} {o : Oper} {a : Act} {w : World} {Q : Exit → Act → World → Prop} (hw : Region.wanted o (yielded ops a.tmps) = true) (s x : Operand)
    (ho : o.op = .call { callee := .builtin .append, args := #[s, x], argTypes := #[K.t, K.t] }) (hty : o.type = K.t)
    (B : Nat) (v : Value) (xs : List α) (h1 : a.eval s = v) (hown : Ow K B w v xs) (y : Value) (ys : List α) (hx : a.eval x = y) (hy : Rd K w y ys) (hl : xs.length + ys.length ≤ 1048576) (hB : B ≤ w.heap.size)
    (h : ∀ v' w', Ow K B w' v' (xs ++ ys) → w.grownBy w' v.ownBlock → (v'.ownBlock = v.ownBlock ∨ v'.ownBlock = some w.heap.size) → wpList Tryz.prog ops Q rest (a.put o.dst v') w') : wpList Tryz.prog ops Q (o :: rest) a w :=
  wpList_step fun _ hK => by
    rw [if_pos hw]
    exact K.wp_app s x ho hty B v xs h1 hown y ys hx hy hl hB fun v' w' h2 h3 h4 => hK _ _ (h v' w' h2 h3 h4)
/-- append in a region whose order is open (an arm of 'go_region_held3', 'go_region_law') -/
theorem Kd.step_app (K : Kd α) {ops : Array Oper} {o : Oper} {a : Act} {w : World} {C : Act → World → Prop} {Q : Exit → Act → World → Prop} {E : Prop} (hw : Region.wanted o (yielded ops a.tmps) = true) (s x : Operand)
    (ho : o.op = .call { callee := .builtin .append, args := #[s, x], argTypes := #[K.t, K.t] }) (hty : o.type = K.t)
    (B : Nat) (v : Value) (xs : List α) (h1 : a.eval s = v) (hown : Ow K B w v xs) (y : Value) (ys : List α) (hx : a.eval x = y) (hy : Rd K w y ys) (hl : xs.length + ys.length ≤ 1048576) (hB : B ≤ w.heap.size)
    (h : ∀ v' w', Ow K B w' v' (xs ++ ys) → w.grownBy w' v.ownBlock → (v'.ownBlock = v.ownBlock ∨ v'.ownBlock = some w.heap.size) → C (a.put o.dst v') w') :
    if Region.wanted o (yielded ops a.tmps) = true then Oper.wp Tryz.prog o a w C Q else E := by
  rw [if_pos hw]
  exact K.wp_app s x ho hty B v xs h1 hown y ys hx hy hl hB h
theorem Kd.made (K : Kd α) (o : α) (ho : K.cells o = K.z.cells.toList) (n : Nat) : (madeCells K.z.cells (n * K.n)).toList = K.flat (List.replicate n o) := by
  apply List.ext_getElem?
  intro m
  by_cases hm : m < n * K.n
  · obtain ⟨h1, h2, h3⟩ := K.split m n hm
    have h4 := K.flat_at (List.replicate n o) (m / K.n) (m % K.n) (by rw [List.length_replicate]; exact h1) h2
    rw [← h3] at h4
    rw [h4, List.getD_eq_getElem?_getD, List.getElem?_replicate, if_pos h1, Option.getD_some, ho]
    have hz := K.hzs
    unfold madeCells
    rw [Array.toList_map, Array.toList_range, List.getElem?_map, List.getElem?_range hm, Option.map_some, hz, Array.getElem?_toList]
    rw [getElem!_pos K.z.cells (m % K.n) (by rw [hz]; exact h2), Array.getElem?_eq_getElem (by rw [hz]; exact h2)]
  · rw [List.getElem?_eq_none (by rw [Array.length_toList, size_madeCells]; omega), List.getElem?_eq_none (by rw [K.flat_len, List.length_replicate]; omega)]
/-- make([]T, n): lay what it gives ahead of the walk ('obtain ⟨C, hmk, hown⟩ := K.make ..') -/
theorem Kd.make (K : Kd α) (o : α) (ho : K.cells o = K.z.cells.toList) (hok : K.ok o) (n : Nat) (hn : n ≤ 1048576) :
    ∃ C : Array Value, (∀ w : World, (Instr.makeSlice K.t (.int .i64 n) (.int .i64 n)).run Tryz.prog w = .ok (.slice (some ⟨w.heap.size, 0, none⟩) n n) (w.alloc (.cells C K.e))) ∧
      ∀ (w : World) (B p : Nat), p = w.heap.size → B ≤ p → Ow K B (w.alloc (.cells C K.e)) (.slice (some ⟨p, 0, none⟩) n n) (List.replicate n o) := by
  refine ⟨madeCells K.z.cells (n * K.n), fun w => ?_, fun w B p hp hB => Ow.lit w _ _ (K.made o ho n) (by simp) hp hB (by unfold maxLen; omega) (fun x hx => by rw [List.mem_replicate] at hx; rw [hx.2]; exact hok)⟩
  obtain ⟨i0, hi, hz0, hz1, hz2⟩ := info_parts K.info
  have hsm := K.small
  have hb : K.bytes * n ≤ 256 * 1048576 := Nat.mul_le_mul hsm hn
  have h := run_make (P := Tryz.prog) w K.t K.e i0 K.z K.ht hi hz0 .i64 .i64 n n (by omega) (by omega) (by rw [hz2, ← Int.natCast_mul]; omega) (by omega)
  simp only [Int.toNat_natCast, hz1] at h
  exact h
end
end Go.Proofs.YtkpbanfpnilifaaGreat

/- The plain data of the layers. No program in it. -/
namespace Go.Proofs.YtkpbanfpnilifaaGreat
/-- a task: from where, up to where, whom it belongs to, for how many it waits -/
structure Tk where
  lo : Int
  hi : Int
  up : Int
  wt : Int
instance : DecidableEq Tk := fun a b => decidable_of_iff (a.lo = b.lo ∧ a.hi = b.hi ∧ a.up = b.up ∧ a.wt = b.wt) (by cases a; cases b; simp)
end Go.Proofs.YtkpbanfpnilifaaGreat

/- The kinds of elements of this program, and their cells as the walk spells them. -/
namespace Go.Proofs.YtkpbanfpnilifaaGreat
open Go.RowKit

def in64 (x : Int) : Prop := -9223372036854775808 ≤ x ∧ x ≤ 9223372036854775807
/-- integers -/
def kInt : Kd Int where
  t := 29
  e := 3
  n := 1
  cells := fun x => [.int .i64 x]
  ok := in64
  d := 0
  z := .int .i64 0
  bytes := 8
  ht := Tryz.underlying29
  info := intInfo
  hzs := rfl
  pos := by decide
  small := by decide
  len := fun _ => rfl
  one := fun a u hu => by simp at hu; subst hu; rfl
theorem rd_of_ints {w : World} {v : Value} {xs : List Int} (h : Ints w v xs) : Rd kInt w v xs := by
  obtain ⟨h1, h2, A, cap, rfl, hc, h3⟩ := h
  refine ⟨h1, h2, A, cap, rfl, hc, fun hl => ?_⟩
  obtain ⟨b, off, rfl, hcc⟩ := h3 hl
  refine ⟨b, off, rfl, fun j hj i u hu => ?_⟩
  have hi : i = 0 := by
    have : i < [Value.int IntKind.i64 (xs.getD j 0)].length := by
      rcases Nat.lt_or_ge i [Value.int IntKind.i64 (xs.getD j 0)].length with h | h
      · exact h
      · rw [show kInt.cells (xs.getD j kInt.d) = [Value.int IntKind.i64 (xs.getD j 0)] from rfl, List.getElem?_eq_none h] at hu; cases hu
    simpa using this
  subst hi
  have hu' : some (Value.int IntKind.i64 (xs.getD j 0)) = some u := hu
  cases hu'
  simpa [kInt] using hcc j hj
/-- bools -/
def kBool : Kd Bool where
  t := 55
  e := 4
  n := 1
  cells := fun x => [.bool x]
  ok := fun _ => True
  d := false
  z := .bool false
  bytes := 1
  ht := Tryz.underlying55
  info := by kernel_rfl
  hzs := rfl
  pos := by decide
  small := by decide
  len := fun _ => rfl
  one := fun a u hu => by simp at hu; subst hu; rfl
theorem Rd.bools {w : World} {A : Option Addr} {n c : Nat} {xs : List Bool} (h : Rd kBool w (.slice A n c) xs) (hl : 0 < xs.length) : ∃ b off, A = some ⟨b, off, none⟩ ∧ ∀ j, j < xs.length → w.cell? ⟨b, off + j, none⟩ = some (.bool (xs.getD j false)) := by
  obtain ⟨b, off, rfl, hcc⟩ := h.cells hl
  exact ⟨b, off, rfl, fun j hj => by have := hcc j hj 0 _ rfl; simpa [kBool] using this⟩
/-- picks: pairs of numbers -/
def kPk : Kd (Int × Int) where
  t := 23
  e := 112
  n := 2
  cells := fun x => [.int .i64 x.1, .int .i64 x.2]
  ok := fun x => in64 x.1 ∧ in64 x.2
  d := (0, 0)
  z := .agg #[.int .i64 0, .int .i64 0]
  bytes := 16
  ht := Tryz.underlying23
  info := by kernel_rfl
  hzs := rfl
  pos := by decide
  small := by decide
  len := fun _ => rfl
  one := fun a u hu => by simp at hu; rcases hu with rfl | rfl <;> rfl
theorem Rd.picks {w : World} {A : Option Addr} {n c : Nat} {xs : List (Int × Int)} (h : Rd kPk w (.slice A n c) xs) (hl : 0 < xs.length) : ∃ b off, A = some ⟨b, off, none⟩ ∧ ∀ j, j < xs.length → w.cell? ⟨b, off + j * 2, none⟩ = some (.int .i64 (xs.getD j (0, 0)).1) ∧ w.cell? ⟨b, off + j * 2 + 1, none⟩ = some (.int .i64 (xs.getD j (0, 0)).2) := by
  obtain ⟨b, off, rfl, hcc⟩ := h.cells hl
  exact ⟨b, off, rfl, fun j hj => ⟨by have := hcc j hj 0 _ rfl; simpa [kPk] using this, by have := hcc j hj 1 _ rfl; simpa [kPk] using this⟩⟩
def kTask : Kd Tk where
  t := 76
  e := 109
  n := 4
  cells := fun x => [.int .i64 x.lo, .int .i64 x.hi, .int .i64 x.up, .int .i64 x.wt]
  ok := fun x => in64 x.lo ∧ in64 x.hi ∧ in64 x.up ∧ in64 x.wt
  d := ⟨0, 0, 0, 0⟩
  z := .agg #[.int .i64 0, .int .i64 0, .int .i64 0, .int .i64 0]
  bytes := 32
  ht := Tryz.underlying76
  info := by kernel_rfl
  hzs := rfl
  pos := by decide
  small := by decide
  len := fun _ => rfl
  one := fun a u hu => by simp at hu; rcases hu with rfl | rfl | rfl | rfl <;> rfl
theorem tk_ok {a b c d : Int} (h1 : in64 a) (h2 : in64 b) (h3 : in64 c) (h4 : in64 d) : kTask.ok ⟨a, b, c, d⟩ := ⟨h1, h2, h3, h4⟩
theorem Rd.tasks {w : World} {A : Option Addr} {n c : Nat} {xs : List Tk} (h : Rd kTask w (.slice A n c) xs) (hl : 0 < xs.length) : ∃ b off, A = some ⟨b, off, none⟩ ∧ ∀ j, j < xs.length → w.cell? ⟨b, off + j * 4, none⟩ = some (.int .i64 (xs.getD j ⟨0, 0, 0, 0⟩).lo) ∧ w.cell? ⟨b, off + j * 4 + 1, none⟩ = some (.int .i64 (xs.getD j ⟨0, 0, 0, 0⟩).hi) ∧ w.cell? ⟨b, off + j * 4 + 2, none⟩ = some (.int .i64 (xs.getD j ⟨0, 0, 0, 0⟩).up) ∧ w.cell? ⟨b, off + j * 4 + 3, none⟩ = some (.int .i64 (xs.getD j ⟨0, 0, 0, 0⟩).wt) := by
  obtain ⟨b, off, rfl, hcc⟩ := h.cells hl
  exact ⟨b, off, rfl, fun j hj => ⟨by have := hcc j hj 0 _ rfl; simpa [kTask] using this, by have := hcc j hj 1 _ rfl; simpa [kTask] using this, by have := hcc j hj 2 _ rfl; simpa [kTask] using this, by have := hcc j hj 3 _ rfl; simpa [kTask] using this⟩⟩
end Go.Proofs.YtkpbanfpnilifaaGreat

/- Worlds that grew, but for the blocks of a set; lists that read the same whatever becomes of these blocks. -/
namespace Go.Proofs.YtkpbanfpnilifaaGreat
open Go.RowKit

/-- the other world has all blocks as they were, but those of S -/
structure Grew (S : Nat → Prop) (w W : World) : Prop where
  os : W.os = w.os
  tape : W.tape = w.tape
  output : W.output = w.output
  size : w.heap.size ≤ W.heap.size
  block : ∀ b, b < w.heap.size → ¬ S b → W.heap[b]? = w.heap[b]?
theorem Grew.refl (S : Nat → Prop) (w : World) : Grew S w w := ⟨rfl, rfl, rfl, Nat.le_refl _, fun _ _ _ => rfl⟩
theorem Grew.of {S : Nat → Prop} {w W : World} (h : Ext w W) : Grew S w W := ⟨h.os, h.tape, h.output, h.size, fun b hb _ => h.block b hb⟩
theorem Grew.trans {S : Nat → Prop} {a b c : World} (h : Grew S a b) (k : Grew S b c) : Grew S a c :=
  ⟨k.os.trans h.os, k.tape.trans h.tape, k.output.trans h.output, Nat.le_trans h.size k.size, fun i hi hS => (k.block i (Nat.lt_of_lt_of_le hi h.size) hS).trans (h.block i hi hS)⟩
theorem Grew.ext {S : Nat → Prop} {a b c : World} (h : Grew S a b) (k : Ext b c) : Grew S a c := h.trans (Grew.of k)
theorem Grew.alloc {S : Nat → Prop} {w W : World} (h : Grew S w W) (o : Obj) : Grew S w (W.alloc o) := h.ext ((Ext.refl _).alloc _)
theorem Grew.drew {S : Nat → Prop} {w W : World} (h : Grew S w W) : Grew S w W.drew := h.ext (Ext.refl _).drew
theorem Grew.drewN {S : Nat → Prop} {w W : World} (h : Grew S w W) (n : Nat) : Grew S w (W.drewN n) := h.ext ((Ext.refl _).drewN n)
theorem Grew.setCell {S : Nat → Prop} {w W : World} (h : Grew S w W) {p : Addr} (hp : S p.block) (u : Value) : Grew S w (W.setCell p u) :=
  ⟨h.os, h.tape, h.output, by rw [World.size_setCell]; exact h.size, fun b hb hS => (Below.heap_setCell _ _ _ _ (fun e => hS (by first | exact e ▸ hp | (rw [e]; exact hp) | (rw [← e]; exact hp)))).trans (h.block b hb hS)⟩
theorem Grew.mono {S T : Nat → Prop} {w W : World} (h : Grew S w W) (hS : ∀ b, b < w.heap.size → S b → T b) : Grew T w W :=
  ⟨h.os, h.tape, h.output, h.size, fun b hb hT => h.block b hb (fun hs => hT (hS b hb hs))⟩
theorem Grew.cell {S : Nat → Prop} {w W : World} (h : Grew S w W) {b o : Nat} {v : Value} (hc : w.cell? ⟨b, o, none⟩ = some v) (hS : ¬ S b) : W.cell? ⟨b, o, none⟩ = some v := by
  have hb := h.block b (World.block_lt_of_cell? _ _ hc) hS
  rw [← hc]
  simp only [World.cell?, hb]
theorem Grew.frozen {S : Nat → Prop} {w W : World} (h : Grew S w W) {b : Nat} (hb : b < w.heap.size) (hS : ¬ S b) (o : Nat) : W.frozen? ⟨b, o, none⟩ = w.frozen? ⟨b, o, none⟩ := by
  have hb := h.block b hb hS
  simp only [World.frozen?, hb]
/-- from an elder world on: the blocks of S are new there -/
theorem Grew.toExt {S : Nat → Prop} {w0 w W : World} (h : Grew S w W) (h0 : Ext w0 w) (hS : ∀ b, S b → w0.heap.size ≤ b) : Ext w0 W :=
  ⟨h.os.trans h0.os, h.tape.trans h0.tape, h.output.trans h0.output, Nat.le_trans h0.size h.size, fun b hb => (h.block b (Nat.lt_of_lt_of_le hb h0.size) (fun hs => by have := hS b hs; omega)).trans (h0.block b hb)⟩

/-- a list that reads as these whatever becomes of the blocks of S -/
def RdO {α : Type} (K : Kd α) (S : Nat → Prop) (w : World) (v : Value) (xs : List α) : Prop := ∀ W, Grew S w W → Rd K W v xs
theorem RdO.rd {α : Type} {K : Kd α} {S : Nat → Prop} {w : World} {v : Value} {xs : List α} (h : RdO K S w v xs) : Rd K w v xs := h w (Grew.refl S w)
theorem RdO.grew {α : Type} {K : Kd α} {S : Nat → Prop} {w W : World} {v : Value} {xs : List α} (h : RdO K S w v xs) (hG : Grew S w W) : RdO K S W v xs := fun W' hW => h W' (hG.trans hW)
theorem RdO.ext {α : Type} {K : Kd α} {S : Nat → Prop} {w W : World} {v : Value} {xs : List α} (h : RdO K S w v xs) (hE : Ext w W) : RdO K S W v xs := h.grew (Grew.of hE)
theorem RdO.setCell {α : Type} {K : Kd α} {S : Nat → Prop} {w : World} {v : Value} {xs : List α} (h : RdO K S w v xs) {p : Addr} (hp : S p.block) (u : Value) : RdO K S (w.setCell p u) v xs := h.grew ((Grew.refl S w).setCell hp u)
/-- of fewer blocks -/
theorem RdO.mono {α : Type} {K : Kd α} {S T : Nat → Prop} {w : World} {v : Value} {xs : List α} (h : RdO K S w v xs) (hT : ∀ b, b < w.heap.size → T b → S b) : RdO K T w v xs := fun W hW => h W (hW.mono hT)
/-- .. and later, of blocks that aren't older than the list -/
theorem RdO.later {α : Type} {K : Kd α} {S T : Nat → Prop} {w w' : World} {v : Value} {xs : List α} (h : RdO K S w v xs) (hG : Grew S w w') (hT : ∀ b, b < w.heap.size → T b → S b) : RdO K T w' v xs := fun W hW => h W
  ⟨hW.os.trans hG.os, hW.tape.trans hG.tape, hW.output.trans hG.output, Nat.le_trans hG.size hW.size, fun b hb hS => (hW.block b (Nat.lt_of_lt_of_le hb hG.size) (fun ht => hS (hT b hb ht))).trans (hG.block b hb hS)⟩
theorem Rd.off {α : Type} {K : Kd α} {S : Nat → Prop} {w : World} {A : Option Addr} {n c : Nat} {xs : List α} (h : Rd K w (.slice A n c) xs) (hS : ∀ a, A = some a → ¬ S a.block) : RdO K S w (.slice A n c) xs := by
  intro W hW
  obtain ⟨h1, h2, A', cap, hv, hcap, h3⟩ := h
  cases hv
  refine ⟨h1, h2, A, c, rfl, hcap, fun hl => ?_⟩
  obtain ⟨b, off, rfl, hcc⟩ := h3 hl
  exact ⟨b, off, rfl, fun j hj i u hu => hW.cell (hcc j hj i u hu) (hS _ rfl)⟩
/-- a list of the call's own, of blocks from B on -/
theorem Rd.offFrom {α : Type} {K : Kd α} {S : Nat → Prop} {B : Nat} {w : World} {A : Option Addr} {n c : Nat} {xs : List α} (h : Rd K w (.slice A n c) xs) (hA : From B A) (hS : ∀ b, S b → b < B) : RdO K S w (.slice A n c) xs :=
  h.off fun a ha hs => by have := hA a ha; have := hS _ hs; omega
theorem RdO.nil {α : Type} {K : Kd α} (S : Nat → Prop) (w : World) (A : Option Addr) (c : Nat) : RdO K S w (.slice A 0 c) [] := fun W _ => Rd.nil W A c
theorem ints_of_rd {w : World} {v : Value} {xs : List Int} (h : Rd kInt w v xs) : Ints w v xs := by
  obtain ⟨h1, h2, A, cap, rfl, hc, h3⟩ := h
  refine ⟨h1, h2, A, cap, rfl, hc, fun hl => ?_⟩
  obtain ⟨b, off, rfl, hcc⟩ := h3 hl
  exact ⟨b, off, rfl, fun j hj => by have := hcc j hj 0 _ rfl; simpa [kInt] using this⟩
end Go.Proofs.YtkpbanfpnilifaaGreat

/- A region whose order is open and whose operations, but a tail in one order, leave all that was there as it was: what each of them leaves is said once, whatever the order. -/
namespace Go.Proofs.YtkpbanfpnilifaaGreat.Mono
open Go.RowKit Go.Proofs.YtkpbanfpnilifaaGreat

/-- what an operation waits for -/
def deps (l : List Oper) (i : Nat) : List Nat :=
  match l[i]? with
  | some o => (o.after.toList.filter (fun e => Region.binds .any e)).map (·.on)
  | none => []
/-- .. and what these wait for -/
def clo (l : List Oper) : Nat → Nat → List Nat
  | 0, _ => []
  | n + 1, i => deps l i ++ (deps l i).flatMap (clo l n)

def isSelect : Op → Bool
  | .select _ _ => true
  | _ => false

/-- i waits for j, at once or by way of one or two others -/
def nearB (l : List Oper) (i j : Nat) : Bool := (deps l i).contains j || (deps l i).any (fun k => (deps l k).contains j || (deps l k).any fun q => (deps l q).contains j)
theorem near_cases {l : List Oper} {i j : Nat} (h : nearB l i j = true) : j ∈ deps l i ∨ ∃ k ∈ deps l i, j ∈ deps l k ∨ ∃ q ∈ deps l k, j ∈ deps l q := by
  unfold nearB at h
  simp only [Bool.or_eq_true, List.any_eq_true, List.contains_iff_mem] at h
  exact h
def okAt (l : List Oper) (m i : Nat) : Bool :=
  match l[i]? with
  | none => true
  | some o => (deps l i).all (fun j => decide (j < i)) && !(isSelect o.op) &&
      (!(decide (i < m)) || (List.range m).all (fun j => (deps l i).contains j || (match (l[j]?).bind (·.dst) with | some d => !(o.looksAt l.toArray).contains d | none => true))) &&
      (!(decide (i < m)) || (List.range m).all (fun j => j == i || (match (l[j]?).bind (·.dst) with | some d => o.dst != some d | none => true))) &&
      (decide (i < m) || (List.range i).all (fun j => nearB l i j))
def monoB (l : List Oper) (m : Nat) : Bool := decide (m ≤ l.length) && (List.range l.length).all (okAt l m)

/-- the frame behind all of them -/
def all (vals : Nat → Value) : List Oper → Nat → Act → Act
  | [], _, a => a
  | o :: r, k, a => all vals r (k + 1) (a.put o.dst (vals k))
/-- .. behind those that have come up -/
def sel (listed : Array Bool) (vals : Nat → Value) : List Oper → Nat → Act → Act
  | [], _, a => a
  | o :: r, k, a => sel listed vals r (k + 1) (if listed.getD k false = true then a.put o.dst (vals k) else a)
def uns (listed : Array Bool) (vals : Nat → Value) : List Oper → Nat → Act → Act
  | [], _, a => a
  | o :: r, k, a => uns listed vals r (k + 1) (if listed.getD k false = true then a else a.put o.dst (vals k))
def upd (vals : Nat → Value) (i : Nat) (v : Value) : Nat → Value := fun j => if j = i then v else vals j

theorem sel_put {listed : Array Bool} {vals : Nat → Value} {x : Option Tmp} {v : Value} : ∀ (r : List Oper) (k : Nat) (a : Act), (∀ o ∈ r, ∀ d, x = some d → o.dst ≠ some d) →
    sel listed vals r k (a.put x v) = (sel listed vals r k a).put x v
  | [], _, _, _ => rfl
  | o :: r, k, a, h => by
    simp only [sel]
    split
    · rw [Act.put_comm a v (vals k) (h o (by simp))]
      exact sel_put r (k + 1) _ (fun o ho => h o (by simp [ho]))
    · exact sel_put r (k + 1) _ (fun o ho => h o (by simp [ho]))

theorem sel_congr {listed listed' : Array Bool} {vals vals' : Nat → Value} : ∀ (r : List Oper) (k : Nat) (a : Act), (∀ j, k ≤ j → listed.getD j false = listed'.getD j false ∧ vals j = vals' j) →
    sel listed vals r k a = sel listed' vals' r k a
  | [], _, _, _ => rfl
  | o :: r, k, a, h => by
    simp only [sel]
    rw [(h k (Nat.le_refl _)).1, (h k (Nat.le_refl _)).2]
    exact sel_congr r (k + 1) _ (fun j hj => h j (by omega))

theorem set_getD {listed : Array Bool} {i j : Nat} (hi : i < listed.size) : (listed.setIfInBounds i true).getD j false = if j = i then true else listed.getD j false := by
  by_cases h : j = i
  · subst h; simp [hi]
  · rw [if_neg h, getD_set_ne false (Ne.symm h)]

theorem sel_set {listed : Array Bool} {vals : Nat → Value} {i : Nat} {v : Value} {oi : Oper} (hi : i < listed.size) (hun : listed.getD i false = false) :
    ∀ (r : List Oper) (k : Nat) (a : Act), k ≤ i → r[i - k]? = some oi → (∀ (p q : Nat) (op oq : Oper), p < q → r[p]? = some op → r[q]? = some oq → ∀ d, op.dst = some d → oq.dst ≠ some d) →
      sel (listed.setIfInBounds i true) (upd vals i v) r k a = (sel listed vals r k a).put oi.dst v
  | [], k, a, _, ho, _ => by simp at ho
  | o :: r, k, a, hk, ho, hd => by
    simp only [sel]
    by_cases hki : k = i
    · subst hki
      simp at ho
      subst ho
      rw [set_getD hi, if_pos rfl, if_pos rfl, hun]
      simp only [upd, if_true, Bool.false_eq_true, if_false]
      rw [sel_congr (listed' := listed) (vals' := vals) r (k + 1) _ (fun j hj => ⟨by rw [set_getD hi, if_neg (by omega)], by simp [upd]; omega⟩)]
      refine sel_put r (k + 1) a (fun o' ho' d hd' => ?_)
      obtain ⟨q, hq⟩ := List.getElem?_of_mem ho'
      exact hd 0 (q + 1) o o' (by omega) (by simp) (by simpa using hq) d hd'
    · rw [set_getD hi, if_neg hki]
      have hv : upd vals i v k = vals k := by simp [upd, hki]
      rw [hv]
      refine sel_set hi hun r (k + 1) _ (by omega) (by rw [show i - k = (i - (k + 1)) + 1 from by omega] at ho; simpa using ho) (fun p q op oq hpq hp hq => hd (p + 1) (q + 1) op oq (by omega) (by simpa using hp) (by simpa using hq))

theorem all_eq {listed : Array Bool} {vals : Nat → Value} : ∀ (r : List Oper) (k : Nat) (a : Act), (∀ (p q : Nat) (op oq : Oper), p < q → r[p]? = some op → r[q]? = some oq → ∀ d, op.dst = some d → oq.dst ≠ some d) →
    all vals r k a = uns listed vals r k (sel listed vals r k a)
  | [], _, _, _ => rfl
  | o :: r, k, a, hd => by
    have hd' : ∀ (p q : Nat) (op oq : Oper), p < q → r[p]? = some op → r[q]? = some oq → ∀ d, op.dst = some d → oq.dst ≠ some d := fun p q op oq hpq hp hq => hd (p + 1) (q + 1) op oq (by omega) (by simpa using hp) (by simpa using hq)
    simp only [all, sel, uns]
    rw [all_eq (listed := listed) r (k + 1) _ hd']
    split
    · rfl
    · rw [sel_put r (k + 1) a (fun o' ho' d hd2 => by
        obtain ⟨q, hq⟩ := List.getElem?_of_mem ho'
        exact hd 0 (q + 1) o o' (by omega) (by simp) (by simpa using hq) d hd2)]

theorem uns_same {ops : Array Oper} {listed : Array Bool} {vals : Nat → Value} {x : Oper} (hs : ∀ cs b, x.op ≠ .select cs b) : ∀ (r : List Oper) (k : Nat) (a : Act),
    (∀ j o, r[j]? = some o → listed.getD (k + j) false = false → ∀ d, o.dst = some d → d ∉ x.looksAt ops) →
    execOp (uns listed vals r k a).eval x = execOp a.eval x ∧ Region.wanted x (yielded ops (uns listed vals r k a).tmps) = Region.wanted x (yielded ops a.tmps)
  | [], _, _, _ => ⟨rfl, rfl⟩
  | o :: r, k, a, h => by
    have h' : ∀ j o', r[j]? = some o' → listed.getD (k + 1 + j) false = false → ∀ d, o'.dst = some d → d ∉ x.looksAt ops := fun j o' hj hl => h (j + 1) o' (by simpa using hj) (by rw [show k + (j + 1) = k + 1 + j from by omega]; exact hl)
    simp only [uns]
    split
    · exact uns_same hs r (k + 1) a h'
    · rename_i hun
      have hl := h 0 o (by simp) (by simpa using hun)
      have := uns_same (vals := vals) hs r (k + 1) (a.put o.dst (vals k)) h'
      exact ⟨this.1.trans (execOp_put x hs a o.dst (vals k) hl), this.2.trans (wanted_put x a o.dst (vals k) hl)⟩

/-- what comes of an operation: a value, in a world -/
def YieldsAt (P : Program) (R : Value → World → Prop) : Result Next → Prop
  | .ok (.value v) w => R v w
  | .ok .skip w => R undef w
  | .ok (.enter f args) w => Calls P f args w fun e w' => ∃ v, e = .returned v ∧ R v w'
  | _ => False

/-- .. closed to the walk -/
structure Yields (P : Program) (R : Value → World → Prop) (r : Result Next) : Prop where
  out : YieldsAt P R r

theorem wp_of_yields {P : Program} {o : Oper} {a : Act} {w : World} {K : Act → World → Prop} {Q : Exit → Act → World → Prop} {R : Value → World → Prop} (h : Yields P R ((execOp a.eval o).run P w))
    (hK : ∀ v w', R v w' → K (a.put o.dst v) w') : o.wp P a w K Q := by
  obtain ⟨h⟩ := h
  unfold Oper.wp
  generalize (execOp a.eval o).run P w = r at *
  cases r with
  | ok n w' =>
    cases n <;> simp only [YieldsAt] at h <;> simp only [Oper.upon]
    case value u => exact hK _ _ h
    case skip => exact hK _ _ h
    case enter f args => exact h.mono fun e w'' ⟨v, he, hv⟩ => by subst he; exact hK _ _ hv
  | halt x w' => simp only [YieldsAt] at h

theorem yields_same {P : Program} {R : Value → World → Prop} {r : Result Next} (c : Value) (w : World) (h : r = .ok (.value c) w) (hR : R c w) : Yields P R r := by rw [h]; exact ⟨hR⟩
theorem yields_call {P : Program} {R : Value → World → Prop} {r : Result Next} (f : FuncId) (args : Array Value) (w : World) (h : r = .ok (.enter f args) w) (hR : Calls P f args w fun e w' => ∃ v, e = .returned v ∧ R v w') : Yields P R r := by rw [h]; exact ⟨hR⟩
theorem wanted_none {o : Oper} {f : Nat → Option Bool} (h : o.guard = none) : Region.wanted o f = true := by simp [Region.wanted, h]
section
variable {P : Program} {l : List Oper} {m : Nat} {Q : Exit → Act → World → Prop} {a0 : Act} {w0 : World} {V : Nat → World → List Value → Value → Prop}

def Inv (P : Program) (l : List Oper) (m : Nat) (Q : Exit → Act → World → Prop) (a0 : Act) (w0 : World) (V : Nat → World → List Value → Value → Prop) (listed : Array Bool) (a : Act) (w : World) : Prop :=
  listed.size = l.length ∧
  ((∃ vals : Nat → Value, Ext w0 w ∧ (∀ j, m ≤ j → listed.getD j false = false) ∧ (∀ i, listed.getD i false = true → ∀ j ∈ deps l i, listed.getD j false = true) ∧
      (∀ i, i < m → listed.getD i false = true → V i w ((deps l i).map vals) (vals i)) ∧ a = sel listed vals (l.take m) 0 a0) ∨
   (∃ k, m ≤ k ∧ k ≤ l.length ∧ (∀ j, j < l.length → (listed.getD j false = true ↔ j < k)) ∧ wpList P l.toArray Q (l.drop k) a w))

theorem ok_parts (hB : monoB l m = true) {i : Nat} {o : Oper} (ho : l[i]? = some o) :
    (∀ j ∈ deps l i, j < i) ∧ (∀ cs b, o.op ≠ .select cs b) ∧ (i < m → ∀ j oj, j < m → l[j]? = some oj → j ∉ deps l i → ∀ d, oj.dst = some d → d ∉ o.looksAt l.toArray) ∧
      (i < m → ∀ j oj, j < m → j ≠ i → l[j]? = some oj → ∀ d, oj.dst = some d → o.dst ≠ some d) ∧ (m ≤ i → ∀ j, j < i → nearB l i j = true) := by
  have hi : i < l.length := by
    rcases Nat.lt_or_ge i l.length with h | h
    · exact h
    · rw [List.getElem?_eq_none h] at ho; cases ho
  unfold monoB at hB
  simp only [Bool.and_eq_true, List.all_eq_true, List.mem_range] at hB
  have h := hB.2 i hi
  unfold okAt at h
  rw [ho] at h
  simp only [Bool.and_eq_true, Bool.or_eq_true, List.all_eq_true, List.mem_range, decide_eq_true_eq, Bool.not_eq_true', decide_eq_false_iff_not] at h
  obtain ⟨⟨⟨⟨h1, h2⟩, h3⟩, h4⟩, h5⟩ := h
  refine ⟨h1, fun cs b e => by rw [e] at h2; simp [isSelect] at h2, fun him j oj hj hoj hnd d hd => ?_, fun him j oj hj hji hoj d hd e => ?_, fun him j hj => ?_⟩
  · rcases h3 with h3 | h3
    · omega
    · have := h3 j hj
      rw [hoj] at this
      simp only [Option.bind_some, hd] at this
      rcases this with h | h
      · exact absurd (by simpa using h) hnd
      · simpa using h
  · rcases h4 with h4 | h4
    · omega
    · have := h4 j hj
      rw [hoj] at this
      simp only [Option.bind_some, hd] at this
      rcases this with h | h
      · simp at h; exact hji h
      · rw [e] at h; simp at h
  · rcases h5 with h5 | h5
    · omega
    · exact h5 j hj

theorem deps_lt (hB : monoB l m = true) {i j : Nat} (hj : j ∈ deps l i) : j < i := by
  cases ho : l[i]? with
  | none => unfold deps at hj; rw [ho] at hj; cases hj
  | some o => exact (ok_parts hB ho).1 j hj
theorem near_listed {listed : Array Bool} (hdc : ∀ i, listed.getD i false = true → ∀ j ∈ deps l i, listed.getD j false = true) {i j : Nat} (hdl : ∀ j ∈ deps l i, listed.getD j false = true) (h : nearB l i j = true) : listed.getD j false = true := by
  rcases near_cases h with h | ⟨k, hk, h | ⟨q, hq, h⟩⟩
  · exact hdl j h
  · exact hdc k (hdl k hk) j h
  · exact hdc q (hdc k (hdl k hk) q hq) j h
theorem near_tail (hB : monoB l m = true) {listed : Array Bool} {i k : Nat} (hk : k < l.length) (hi : i ≤ l.length) (hiff : ∀ j, j < l.length → (listed.getD j false = true ↔ j < k)) (hdl : ∀ j ∈ deps l i, listed.getD j false = true) (h : nearB l i k = true) : False := by
  have hlt : ∀ j, j ∈ deps l i → j < k := fun j hj => (hiff j (by have := deps_lt hB hj; omega)).1 (hdl j hj)
  rcases near_cases h with h | ⟨k', hk', h | ⟨q, hq, h⟩⟩
  · exact absurd (hlt k h) (by omega)
  · have := hlt k' hk'; have := deps_lt hB h; omega
  · have := hlt k' hk'; have := deps_lt hB hq; have := deps_lt hB h; omega

theorem distinct (hB : monoB l m = true) : ∀ (p q : Nat) (op oq : Oper), p < q → (l.take m)[p]? = some op → (l.take m)[q]? = some oq → ∀ d, op.dst = some d → oq.dst ≠ some d := by
  intro p q op oq hpq hp hq d hd
  rw [List.getElem?_take] at hp hq
  split at hp <;> rename_i hpm
  · split at hq <;> rename_i hqm
    · exact (ok_parts hB hq).2.2.2.1 hqm p op hpm (by omega) hp d hd
    · cases hq
  · cases hp

theorem deps_mem {i : Nat} {o : Oper} (ho : l[i]? = some o) {j : Nat} (hj : j ∈ deps l i) : ∃ e ∈ o.after, Region.binds .any e = true ∧ e.on = j := by
  unfold deps at hj
  rw [ho] at hj
  simp only [List.mem_map, List.mem_filter, Array.mem_toList_iff] at hj
  obtain ⟨e, ⟨h1, h2⟩, h3⟩ := hj
  exact ⟨e, h1, h2, h3⟩

theorem clo_listed {listed : Array Bool} (hdc : ∀ i, listed.getD i false = true → ∀ j ∈ deps l i, listed.getD j false = true) : ∀ (n i : Nat), (∀ j ∈ deps l i, listed.getD j false = true) → ∀ j ∈ clo l n i, listed.getD j false = true
  | 0, _, _, j, hj => by simp [clo] at hj
  | n + 1, i, h, j, hj => by
    simp only [clo, List.mem_append, List.mem_flatMap] at hj
    rcases hj with hj | ⟨k, hk, hj⟩
    · exact h j hj
    · exact clo_listed hdc n k (hdc k (h k hk)) j hj

theorem sel_all {listed : Array Bool} {vals : Nat → Value} : ∀ (r : List Oper) (k : Nat) (a : Act), (∀ j, k ≤ j → j < k + r.length → listed.getD j false = true) → sel listed vals r k a = all vals r k a
  | [], _, _, _ => rfl
  | o :: r, k, a, h => by
    simp only [sel, all]
    rw [if_pos (h k (Nat.le_refl _) (by simp))]
    exact sel_all r (k + 1) _ (fun j h1 h2 => h j (by omega) (by simp; omega))

theorem all_listed (hB : monoB l m = true) {listed : Array Bool} (hsz : listed.size = l.length) (hr : Region.ready .any l.toArray listed = []) : ∀ i, i < l.length → listed.getD i false = true := by
  intro i
  induction i using Nat.strongRecOn with
  | _ i ih =>
    intro hi
    cases hl : listed.getD i false with
    | true => rfl
    | false =>
      have ho : l[i]? = some l[i] := List.getElem?_eq_getElem hi
      have hm : i ∈ Region.ready .any l.toArray listed := by
        rw [mem_ready]
        refine ⟨?_, l[i], by simp, fun e he hb => ?_⟩
        · rw [← hl]; simp [show i < listed.size by omega]
        · have hd : e.on ∈ deps l i := by
            unfold deps
            rw [ho]
            simp only [List.mem_map, List.mem_filter, Array.mem_toList_iff]
            exact ⟨e, ⟨he, hb⟩, rfl⟩
          have := (ok_parts hB ho).1 _ hd
          exact ih _ this (by omega)
      rw [hr] at hm
      cases hm

theorem wpOp_list {o : Oper} {i : Nat} {rest : List Oper} {a : Act} {w : World} (ho : l[i]? = some o) (h : wpList P l.toArray Q (o :: rest) a w) : wpOp P l.toArray Q i (wpList P l.toArray Q rest) a w := by
  unfold wpOp
  have : l.toArray[i]? = some o := by simpa using ho
  rw [this]
  exact h

theorem step (hB : monoB l m = true) (hst : ∀ i w w' d v, V i w d v → Ext w w' → V i w' d v)
    (hop : ∀ i o, i < m → l[i]? = some o → ∀ (vals : Nat → Value) (w : World), Ext w0 w → (∀ j, (deps l i).contains j = true → V j w ((deps l j).map vals) (vals j)) →
      if Region.wanted o (yielded l.toArray (all vals (l.take m) 0 a0).tmps) = true
      then Yields P (fun v w' => Ext w w' ∧ V i w' ((deps l i).map vals) v) ((execOp (all vals (l.take m) 0 a0).eval o).run P w)
      else V i w ((deps l i).map vals) undef)
    (hend : ∀ (vals : Nat → Value) (w : World), Ext w0 w → (∀ j, j < m → V j w ((deps l j).map vals) (vals j)) → wpList P l.toArray Q (l.drop m) (all vals (l.take m) 0 a0) w)
    (listed : Array Bool) (a : Act) (w : World) (i : Nat) (hI : Inv P l m Q a0 w0 V listed a w) (hi : i ∈ Region.ready .any l.toArray listed) :
    wpOp P l.toArray Q i (Inv P l m Q a0 w0 V (listed.setIfInBounds i true)) a w := by
  obtain ⟨hsz, hI⟩ := hI
  obtain ⟨hun, o, ho', hall⟩ := mem_ready.1 hi
  have ho : l[i]? = some o := by simpa using ho'
  have hil : i < l.length := by
    rcases Nat.lt_or_ge i l.length with h | h
    · exact h
    · rw [List.getElem?_eq_none h] at ho; cases ho
  have hsi : i < listed.size := by omega
  have hunf : listed.getD i false = false := by
    rw [← hun]; simp [hsi]
  obtain ⟨k1, k2, k3, k4, k5⟩ := ok_parts hB ho
  have hdl : ∀ j ∈ deps l i, listed.getD j false = true := fun j hj => by
    obtain ⟨e, he, hb, rfl⟩ := deps_mem ho hj
    exact hall e he hb
  have hml : m ≤ l.length := by
    unfold monoB at hB
    simp only [Bool.and_eq_true, decide_eq_true_eq] at hB
    exact hB.1
  have hdrop : ∀ k, l[k]? = some o → l.drop k = o :: l.drop (k + 1) := fun k hk => by
    have hkl : k < l.length := by
      rcases Nat.lt_or_ge k l.length with h | h
      · exact h
      · rw [List.getElem?_eq_none h] at hk; cases hk
    rw [List.drop_eq_getElem_cons hkl]
    rw [List.getElem?_eq_getElem hkl] at hk
    cases hk; rfl
  rcases hI with ⟨vals, hE, htail, hdc, hV, ha⟩ | ⟨k, hmk, hkl, hiff, hw⟩
  · rcases Nat.lt_or_ge i m with him | him
    · have hcl := clo_listed hdc l.length i hdl
      have hjm : ∀ j, listed.getD j false = true → j < m := fun j hj => by
        rcases Nat.lt_or_ge j m with h | h
        · exact h
        · rw [htail j h] at hj; cases hj
      have hob := hop i o him ho vals w hE (fun j hj => hV j (hjm j (hdl j (by simpa using hj))) (hdl j (by simpa using hj)))
      have hsame := uns_same (ops := l.toArray) (listed := listed) (vals := vals) (x := o) k2 (l.take m) 0 a (fun j oj hj hlj d hd => by
        rw [List.getElem?_take] at hj
        split at hj
        · rename_i hjm'
          exact k3 him j oj hjm' hj (fun hmem => by have := hdl j hmem; rw [Nat.zero_add] at hlj; rw [hlj] at this; cases this) d hd
        · cases hj)
      rw [ha, ← all_eq (l.take m) 0 a0 (distinct hB)] at hsame
      rw [hsame.2, hsame.1, ← ha] at hob
      have hnew : ∀ v w', Ext w w' → V i w' ((deps l i).map vals) v → Inv P l m Q a0 w0 V (listed.setIfInBounds i true) (a.put o.dst v) w' := by
        intro v w' hE' hVi
        refine ⟨by simpa using hsz, .inl ⟨upd vals i v, hE.trans hE', fun j hj => ?_, fun i' hi' j hj => ?_, fun i' him' hi' => ?_, ?_⟩⟩
        · rw [set_getD hsi, if_neg (by omega)]; exact htail j hj
        · rw [set_getD hsi] at hi' ⊢
          by_cases e : i' = i
          · subst e
            split
            · rfl
            · exact hdl j hj
          · rw [if_neg e] at hi'
            split
            · rfl
            · exact hdc i' hi' j hj
        · rw [set_getD hsi] at hi'
          by_cases e : i' = i
          · subst e
            have : (deps l i').map (upd vals i' v) = (deps l i').map vals := List.map_congr_left fun j hj => by
              have := k1 j hj
              simp [upd]; omega
            rw [this]
            simpa [upd] using hVi
          · rw [if_neg e] at hi'
            have : (deps l i').map (upd vals i v) = (deps l i').map vals := List.map_congr_left fun j hj => by
              have hjl := hdc i' hi' j hj
              have : j ≠ i := fun h => by subst h; rw [hunf] at hjl; cases hjl
              simp [upd, this]
            rw [this]
            have h2 : upd vals i v i' = vals i' := by simp [upd, e]
            rw [h2]
            exact hst _ _ _ _ _ (hV i' him' hi') hE'
        · rw [ha]
          exact (sel_set hsi hunf (l.take m) 0 a0 (Nat.zero_le _) (by rw [Nat.sub_zero, List.getElem?_take, if_pos him]; exact ho) (distinct hB)).symm
      unfold wpOp
      simp only [ho']
      by_cases hwant : Region.wanted o (yielded l.toArray a.tmps) = true
      · rw [if_pos hwant] at hob ⊢
        exact .inl (wp_of_yields hob (fun v w' h => hnew v w' h.1 h.2))
      · rw [if_neg hwant] at hob ⊢
        exact hnew undef w (Ext.refl _) hob
    · have hmi : i = m := by
        rcases Nat.lt_or_ge m i with h | h
        · have := near_listed hdc hdl (k5 him m h)
          rw [htail m (Nat.le_refl _)] at this; cases this
        · omega
      subst hmi
      have hpre : ∀ j, j < i → listed.getD j false = true := fun j hj => near_listed hdc hdl (k5 him j hj)
      have hall' : a = all vals (l.take i) 0 a0 := by
        rw [ha]
        exact sel_all _ _ _ (fun j _ hj => hpre j (by simp at hj; omega))
      have hw := hend vals w hE (fun j hj => hV j hj (hpre j hj))
      rw [← hall', hdrop i ho] at hw
      refine wpOp_mono (fun a' w' h => ?_) (wpOp_list ho hw)
      refine ⟨by simpa using hsz, .inr ⟨i + 1, by omega, by omega, fun j hj => ?_, h⟩⟩
      rw [set_getD hsi]
      by_cases e : j = i
      · subst e; simp
      · rw [if_neg e]
        constructor
        · intro h
          rcases Nat.lt_or_ge j i with h' | h'
          · omega
          · rw [htail j h'] at h; cases h
        · intro h; exact hpre j (by omega)
  · have hki : k = i := by
      rcases Nat.lt_or_ge i k with h | h
      · have := (hiff i hil).2 h
        rw [hunf] at this; cases this
      · rcases Nat.lt_or_ge k i with h' | h'
        · exact (near_tail hB (by omega) (by omega) hiff hdl (k5 (by omega) k h')).elim
        · omega
    subst hki
    rw [hdrop k ho] at hw
    refine wpOp_mono (fun a' w' h => ?_) (wpOp_list ho hw)
    refine ⟨by simpa using hsz, .inr ⟨k + 1, by omega, by omega, fun j hj => ?_, h⟩⟩
    rw [set_getD hsi]
    by_cases e : j = k
    · subst e; simp
    · rw [if_neg e, hiff j hj]; omega

def count (listed : Array Bool) : Nat := (listed.toList.filter (fun b => !b)).length

theorem count_set {listed : Array Bool} {i : Nat} (hi : i < listed.size) (hun : listed.getD i true = false) : count (listed.setIfInBounds i true) + 1 = count listed := by
  have h : ∀ (xs : List Bool) (i : Nat), xs[i]? = some false → ((xs.set i true).filter (fun b => !b)).length + 1 = (xs.filter (fun b => !b)).length := by
    intro xs
    induction xs with
    | nil => intro i h; simp at h
    | cons b r ih =>
      intro i h
      cases i with
      | zero => simp at h; subst h; simp
      | succ i =>
        have := ih i (by simpa using h)
        cases b <;> simp <;> simpa using this
  unfold count
  rw [Array.toList_setIfInBounds]
  refine h _ _ ?_
  have : listed[i]? = some listed[i] := Array.getElem?_eq_getElem hi
  rw [Array.getElem?_toList, this]
  have e : listed.getD i true = listed[i] := by simp [Array.getD, hi]
  rw [e] at hun
  rw [hun]

theorem any_of_inv (I : Array Bool → Act → World → Prop) (hsz : ∀ listed a w, I listed a w → listed.size = l.length)
    (hstep : ∀ listed a w i, I listed a w → i ∈ Region.ready .any l.toArray listed → wpOp P l.toArray Q i (I (listed.setIfInBounds i true)) a w)
    (hend : ∀ listed a w, I listed a w → Region.ready .any l.toArray listed = [] → Q .normal a w) :
    ∀ (fuel : Nat) (listed : Array Bool) (a : Act) (w : World), count listed ≤ fuel → I listed a w → wpAny P .any l.toArray Q fuel listed a w
  | 0, listed, a, w, hc, hI => by
    have hr : Region.ready .any l.toArray listed = [] := by
      cases h : Region.ready .any l.toArray listed with
      | nil => rfl
      | cons i r =>
        have hi : i ∈ Region.ready .any l.toArray listed := by rw [h]; simp
        obtain ⟨hun, o, ho, _⟩ := mem_ready.1 hi
        have hil : i < l.toArray.size := (Array.getElem?_eq_some_iff.1 ho).1
        have := count_set (listed := listed) (i := i) (by rw [hsz _ _ _ hI]; simpa using hil) hun
        omega
    exact ⟨hr, hend _ _ _ hI hr⟩
  | fuel + 1, listed, a, w, hc, hI => by
    refine ⟨hend _ _ _ hI, fun i hi => wpOp_mono (fun a' w' h => ?_) (hstep _ _ _ _ hI hi)⟩
    obtain ⟨hun, o, ho, _⟩ := mem_ready.1 hi
    have hil : i < l.toArray.size := (Array.getElem?_eq_some_iff.1 ho).1
    have := count_set (listed := listed) (i := i) (by rw [hsz _ _ _ hI]; simpa using hil) hun
    exact any_of_inv I hsz hstep hend fuel _ a' w' (by omega) h

/-- a region whose order is open: what each operation leaves is said once -/
theorem wp_region_mono {id : Nat} (m : Nat) (V : Nat → World → List Value → Value → Prop) (hm : P.follows .mixedOrders = true) (hB : monoB l m = true)
    (hst : ∀ i w w' d v, V i w d v → Ext w w' → V i w' d v)
    (hop : ∀ i o, i < m → l[i]? = some o → ∀ (vals : Nat → Value) (w : World), Ext w0 w → (∀ j, (deps l i).contains j = true → V j w ((deps l j).map vals) (vals j)) →
      if Region.wanted o (yielded l.toArray (all vals (l.take m) 0 a0).tmps) = true
      then Yields P (fun v w' => Ext w w' ∧ V i w' ((deps l i).map vals) v) ((execOp (all vals (l.take m) 0 a0).eval o).run P w)
      else V i w ((deps l i).map vals) undef)
    (hend : ∀ (vals : Nat → Value) (w : World), Ext w0 w → (∀ j, j < m → V j w ((deps l j).map vals) (vals j)) → wpList P l.toArray Q (l.drop m) (all vals (l.take m) 0 a0) w) :
    (Code.region id l.toArray true).wp P Q a0 w0 := by
  have hml : m ≤ l.length := by
    unfold monoB at hB
    simp only [Bool.and_eq_true, decide_eq_true_eq] at hB
    exact hB.1
  refine wp_region_any hm (any_of_inv (Inv P l m Q a0 w0 V) (fun _ _ _ h => h.1) (step hB hst hop hend) (fun listed a w hI hr => ?_) _ _ _ _ ?_ ?_)
  · obtain ⟨hsz, hI⟩ := hI
    have hal := all_listed hB hsz hr
    rcases hI with ⟨vals, hE, htail, hdc, hV, ha⟩ | ⟨k, hmk, hkl, hiff, hw⟩
    · have hm' : m = l.length := by
        rcases Nat.lt_or_ge m l.length with h | h
        · have := hal m h
          rw [htail m (Nat.le_refl _)] at this; cases this
        · omega
      have hw := hend vals w hE (fun j hj => hV j hj (hal j (by omega)))
      rw [ha, sel_all _ _ _ (fun j _ hj => hal j (by simp at hj; omega))]
      rw [hm', List.drop_length] at hw
      rw [hm']
      exact hw
    · have hk : k = l.length := by
        rcases Nat.lt_or_ge k l.length with h | h
        · have := (hiff k h).1 (hal k h)
          omega
        · omega
      subst hk
      rw [List.drop_length] at hw
      exact hw
  · unfold count
    exact Nat.le_trans (List.length_filter_le (fun b => !b) (Array.replicate l.toArray.size false).toList) (by simp)
  · refine ⟨by simp, .inl ⟨fun _ => undef, (Ext.refl w0).drew, fun j _ => ?_, fun i hi => ?_, fun i _ hi => ?_, ?_⟩⟩
    · by_cases h : j < l.length <;> simp [h]
    · exfalso
      by_cases h : i < l.length <;> simp [h] at hi
    · exfalso
      by_cases h : i < l.length <;> simp [h] at hi
    · have : ∀ (r : List Oper) (k : Nat) (a : Act), sel (Array.replicate l.toArray.size false) (fun _ => undef) r k a = a := by
        intro r
        induction r with
        | nil => intro k a; rfl
        | cons o r ih =>
          intro k a
          simp only [sel]
          rw [if_neg (by by_cases h : k < l.length <;> simp [h])]
          exact ih _ _
      exact (this _ _ _).symm
end
end Go.Proofs.YtkpbanfpnilifaaGreat.Mono

/- Appends to a new empty list, in a region whose order is open (for wp_region_mono): lists of any kind. -/
namespace Go.Proofs.YtkpbanfpnilifaaGreat
open Go.RowKit
section
variable {α : Type} (K : Kd α)
/-- an empty list of the call's own -/
def NewAt (B : Nat) (w : World) (v : Value) : Prop := ∃ x, v = .slice (some ⟨x, 0, none⟩) 0 0 ∧ B ≤ x ∧ w.heap[x]? = some (.cells #[] K.e (0, 0))
/-- a list of the call's own -/
def OwAt (B : Nat) (w : World) (v : Value) (xs : List α) : Prop := ∃ A c, v = .slice A xs.length c ∧ Ow K B w (.slice A xs.length c) xs
variable {K}
theorem block_keep {w w' : World} {x : Nat} {o : Obj} (h : w.heap[x]? = some o) (hE : Ext w w') : w'.heap[x]? = some o := by
  have hlt : x < w.heap.size := by
    rcases Nat.lt_or_ge x w.heap.size with h' | h'
    · exact h'
    · rw [Array.getElem?_eq_none h'] at h; cases h
  exact (Below.block hE x hlt).trans h
theorem NewAt.ext {B : Nat} {w w' : World} {v : Value} (h : NewAt K B w v) (hE : Ext w w') : NewAt K B w' v := by
  obtain ⟨x, rfl, hB, hx⟩ := h
  exact ⟨x, rfl, hB, block_keep hx hE⟩
theorem NewAt.made (w : World) {B : Nat} (hB : B ≤ w.heap.size) : NewAt K B (w.alloc (.cells #[] K.e)) (.slice (some ⟨w.heap.size, 0, none⟩) 0 0) := ⟨w.heap.size, rfl, hB, heap_alloc_new w _⟩
theorem OwAt.ext {B : Nat} {w w' : World} {v : Value} {xs : List α} (h : OwAt K B w v xs) (hE : Ext w w') : OwAt K B w' v xs := by
  obtain ⟨A, c, rfl, h⟩ := h
  exact ⟨A, c, rfl, h.ext hE⟩
theorem NewAt.ow {B : Nat} {w : World} {v : Value} (h : NewAt K B w v) : OwAt K B w v [] := by
  obtain ⟨x, rfl, hB, hx⟩ := h
  exact ⟨_, 0, rfl, ⟨by simp [Kd.flat], .inr ⟨x, 0, #[], rfl, hB, hx, Nat.le_refl _, by simp [maxLen], by simp, by simp [Kd.flat]⟩⟩, by simp⟩

set_option maxRecDepth 100000 in
/-- 'append([]T{}, ys...)': a list of its own; all that was stays; a block that is new, where it isn't empty -/
theorem Kd.app_new (K : Kd α) {B : Nat} {w : World} {v : Value} {y : Value} {ys : List α} (hv : NewAt K B w v) (hy : Rd K w y ys) (hl : ys.length ≤ 1048576) (hBw : B ≤ w.heap.size) :
    ∃ v' w', (Builtin.append_ #[K.t, K.t] K.t #[v, y]).run Tryz.prog w = .ok v' w' ∧ Ext w w' ∧ OwAt K B w' v' ys ∧ (0 < ys.length → v'.ownBlock = some w.heap.size) := by
  have hown := hv.ow
  obtain ⟨x, rfl, hB, hx⟩ := hv
  obtain ⟨i0, hi, hz0, hz1, hz2⟩ := info_parts K.info
  have hsm := K.small
  by_cases h0 : 0 < ys.length
  · obtain ⟨A, c, rfl, hc'⟩ := hy.slice
    obtain ⟨b, off, rfl, _⟩ := hy.cells h0
    have hr := run_append_grow (P := Tryz.prog) w K.t K.t K.e i0 K.z K.ht hi hz0 ⟨x, 0, none⟩ 0 0 [] (by simp) (by simp) ⟨b, off, none⟩ ys.length c (K.flat ys) (by rw [K.flat_len, hz1]) hy.at_ (by omega) (by omega)
      (growslice_fits (by omega) (by rw [hz2]; exact Nat.le_trans (Nat.mul_le_mul (by omega : 0 + ys.length ≤ 1048576) hsm) (by omega)))
    simp only [Nat.zero_add] at hr
    refine ⟨_, _, hr, (Ext.refl w).drew.alloc _, ⟨some ⟨w.heap.size, 0, none⟩, _, rfl, ⟨K.flat_len ys, .inr ⟨w.heap.size, _, _, rfl, hBw, heap_alloc_new w.drew _, grownCap_ge w _ _ _, grownCap_le_maxLen w _ _ _ (by unfold maxLen; omega), ?_, ?_⟩⟩, hy.2.1⟩, fun _ => rfl⟩
    · have := grownCap_ge w ys.length 0 K.e
      simp only [Array.size_append, List.size_toArray, size_zeroCells, K.hzs, K.flat_len, List.length_nil, Nat.zero_add, ← Nat.add_mul]
      congr 1
      omega
    · simp only [Array.toList_append, List.nil_append]
      exact List.take_left' (by rw [K.flat_len])
  · obtain rfl : ys = [] := List.eq_nil_of_length_eq_zero (by omega)
    obtain ⟨A, c, rfl, _⟩ := hy.slice
    rcases A with _ | ad
    · refine ⟨_, w, ?_, Ext.refl _, hown, by simp⟩
      simp [Builtin.append_, run_underlying K.ht, sizeOf, typeInfo, hi, Builtin.lenOf, Builtin.firstCells, storeCells]
    · have hr := run_append_room (P := Tryz.prog) w K.t K.t K.e i0 K.ht hi x 0 0 #[] hx ad 0 c [] (by simp) (by simp) (by simp) (by omega) (by simp)
      have hE : Ext w (w.setRow x #[]) := ⟨rfl, rfl, rfl, by simp [World.setRow], fun k hk => by
        by_cases e : k = x
        · subst e; rw [setRow_heap w k _ _ _ _ hx, hx]
        · exact setRow_other w x k _ e⟩
      exact ⟨_, _, by simpa using hr, hE, hown.ext hE, by simp⟩
theorem Kd.yields_app (K : Kd α) {o : Oper} {a : Act} {w w' : World} {R : Value → World → Prop} (s x : Operand) {v y v' : Value}
    (ho : o.op = .call { callee := .builtin .append, args := #[s, x], argTypes := #[K.t, K.t] }) (hty : o.type = K.t) (hs : a.eval s = v) (hx : a.eval x = y)
    (hr : (Builtin.append_ #[K.t, K.t] K.t #[v, y]).run Tryz.prog w = .ok v' w') (hR : R v' w') : Mono.Yields Tryz.prog R ((execOp a.eval o).run Tryz.prog w) := by
  unfold execOp
  simp only [ho, hty, resolve, invoke, builtin, Sem.run_bind, Sem.run_pure, Result.andThen_ok, List.map_toArray, List.map_cons, List.map_nil, hs, hx, hr]
  exact ⟨hR⟩
end
end Go.Proofs.YtkpbanfpnilifaaGreat

/- Numbers, words, bools as lists (no program's own function but the document's Ints, Words). -/
namespace Go.Proofs.YtkpbanfpnilifaaGreat
open Go.BigFrame
open Go.RowKit Go.Proofs.YtkpbanfpnilifaaGreat.Plain

/-- numbers of tasks, as they lie -/
def zs (O : List Nat) : List Int := O.map fun k : Nat => (k : Int)
theorem zs_len (O : List Nat) : (zs O).length = O.length := by unfold zs; simp
theorem zs_getD (O : List Nat) (j : Nat) : (zs O).getD j 0 = ((O.getD j 0 : Nat) : Int) := by
  unfold zs
  rw [List.getD_eq_getElem?_getD, List.getD_eq_getElem?_getD, List.getElem?_map]
  cases O[j]? <;> rfl
theorem in64_nat (k : Nat) (h : k ≤ 9223372036854775807) : in64 (k : Int) := by unfold in64; omega
theorem sameB_refl (xs : List Int) : sameB xs xs = true := by unfold sameB; simp
theorem zs_app (a b : List Nat) : zs (a ++ b) = zs a ++ zs b := by unfold zs; simp
instance (x : Int) : Decidable (in64 x) := by unfold in64; exact inferInstance
/-- words -/
def kU32 : Kd Int where
  t := 22
  e := 42
  n := 1
  cells := fun x => [.int .u32 x]
  ok := fun x => 0 ≤ x ∧ x ≤ 4294967295
  d := 0
  z := .int .u32 0
  bytes := 4
  ht := Tryz.underlying22
  info := by kernel_rfl
  hzs := rfl
  pos := by decide
  small := by decide
  len := fun _ => rfl
  one := fun a u hu => by simp at hu; subst hu; rfl
theorem Rd.u32s {w : World} {A : Option Addr} {n c : Nat} {xs : List Int} (h : Rd kU32 w (.slice A n c) xs) (hl : 0 < xs.length) : ∃ b off, A = some ⟨b, off, none⟩ ∧ ∀ j, j < xs.length → w.cell? ⟨b, off + j, none⟩ = some (.int .u32 (xs.getD j 0)) := by
  obtain ⟨b, off, rfl, hcc⟩ := h.cells hl
  exact ⟨b, off, rfl, fun j hj => by have := hcc j hj 0 _ rfl; simpa [kU32] using this⟩
set_option maxHeartbeats 400000 in
theorem rwords_any (v u : Value) (xs ys : List Int) (w : World) (h : Rd kU32 w v xs) (h' : Rd kU32 w u ys) :
    Calls Tryz.prog 9 #[v, u] w fun e w' => e = .returned (.bool (sameB xs ys)) ∧ Ext w w' := by
  have hm := h.len
  have hm' := h'.len
  obtain ⟨A, cap, rfl, hcap⟩ := h.slice
  obtain ⟨A', cap', rfl, hcap'⟩ := h'.slice
  have HH := Lib.hid h
  have HH' := Lib.hid h'
  clear h h'
  by_cases hl : xs.length = ys.length
  · have H := Lib.hid hl
    have e : decide ((xs.length : Int) = (ys.length : Int)) = true := by simp [hl]
    have e2 : ((xs.length : Int) != (ys.length : Int)) = false := by simp [hl]
    clear hl
    go_enter Tryz.func9, Tryz.ntmps9
    go_wp2
    clear e e2
    go_loopw [5] (fun i wr => ∃ k : Nat, k ≤ xs.length ∧ i = .int .i64 k ∧ Ext w wr ∧ ∀ j, j < k → xs.getD j 0 = ys.getD j 0) (fun i _ => xs.length - (intOf i).toNat)
    case atStart => exact ⟨0, Nat.zero_le _, rfl, Ext.refl _, by omega⟩
    case round =>
      obtain ⟨k, hk, rfl, hE, ha⟩ := hrel
      have HA := Lib.hid ha
      have HE := Lib.hid hE
      clear ha hE
      by_cases hlt : k < xs.length
      · obtain ⟨b, off, rfl, hcc⟩ := Rd.u32s (HH.out.ext HE.out) (by omega)
        obtain ⟨b', off', rfl, hcc'⟩ := Rd.u32s (HH'.out.ext HE.out) (by have := H.out; omega)
        have hcell := hcc k hlt
        have hcell' := hcc' k (by have := H.out; omega)
        have hlt' : k < ys.length := by have := H.out; omega
        clear hcc hcc'
        by_cases he : xs.getD k 0 = ys.getD k 0
        · have HEQ := Lib.hid he
          have e1 : ((xs.getD k 0) != (ys.getD k 0)) = false := by rw [he]; simp
          generalize hg : xs.getD k 0 = g at *
          generalize hg' : ys.getD k 0 = g' at *
          clear he
          go_wp2
          go_quiet (fail)
          go_wp2
          go_roundw
          case rel => exact ⟨k + 1, by omega, by go_num, HE.out.drewN _, fun j hj => by
            rcases Nat.lt_or_ge j k with h1 | h1
            · exact HA.out j h1
            · obtain rfl : j = k := by omega
              rw [hg, hg', HEQ.out]⟩
          case measure => simp [intOf]; omega
        · have e1 : ((xs.getD k 0) != (ys.getD k 0)) = true := by simpa using he
          have HR : Hid (sameB xs ys = false) := Lib.hid (by unfold sameB; rw [decide_eq_false_iff_not]; intro h; exact he (by rw [h]))
          generalize hg : xs.getD k 0 = g at *
          generalize hg' : ys.getD k 0 = g' at *
          clear he
          go_wp2
          go_quiet (fail)
          go_wp2
          go_ret
          exact ⟨ret_bool HR.out.symm, HE.out.drewN _⟩
      · have HR : Hid (sameB xs ys = true) := Lib.hid (by unfold sameB; rw [decide_eq_true_eq]; exact eq_of_all _ _ H.out (fun j hj => HA.out j (by omega)))
        go_wp2
        go_ret
        exact ⟨ret_bool HR.out.symm, HE.out⟩
  · have e : decide ((xs.length : Int) = (ys.length : Int)) = false := by simp; omega
    have e2 : ((xs.length : Int) != (ys.length : Int)) = true := by simp; omega
    have HR : Hid (sameB xs ys = false) := Lib.hid (by unfold sameB; rw [decide_eq_false_iff_not]; intro h; exact hl (by rw [h]))
    clear hl
    go_enter Tryz.func9, Tryz.ntmps9
    go_wp2
    go_ret
    exact ⟨ret_bool HR.out.symm, Ext.refl _⟩
theorem u32_lit (w : World) (x : Nat) (hx : x < 4294967296) : Rd kU32 (w.alloc (.cells #[.int .u32 x] 42)) (.slice (some ⟨w.heap.size, 0, none⟩) 1 1) [(x : Int)] :=
  Ow.rd (K := kU32) (B := 0) (Ow.lit (K := kU32) (p := w.heap.size) (n := 1) w [(x : Int)] #[.int .u32 x] rfl rfl rfl (Nat.zero_le _) (by simp [maxLen]) (by intro z hz; simp only [List.mem_singleton] at hz; subst hz; show (0 : Int) ≤ x ∧ (x : Int) ≤ 4294967295; omega))
/-- a cell of a list of 32 bits -/
theorem u32_at {w : World} {L : Option Addr} {lc : Nat} {l : List Nat} (h : Rd kU32 w (.slice L l.length lc) (zs l)) (k : Nat) (hk : k < l.length) :
    ∃ bx ox, L = some ⟨bx, ox, none⟩ ∧ w.cell? ⟨bx, ox + k, none⟩ = some (.int .u32 (l.getD k 0 : Nat)) ∧ l.getD k 0 < 4294967296 := by
  obtain ⟨bx, ox, rfl, hcx⟩ := Rd.u32s h (by rw [zs_len]; omega)
  have z0 := hcx k (by rw [zs_len]; exact hk)
  have hok := h.okAt k (by rw [zs_len]; exact hk)
  rw [zs_getD] at z0
  have hok' : (0 : Int) ≤ ((l.getD k 0 : Nat) : Int) ∧ ((l.getD k 0 : Nat) : Int) ≤ 4294967295 := by rw [← zs_getD]; exact hok
  exact ⟨bx, ox, rfl, z0, by omega⟩
/-- a bool of a list -/
theorem bool_at {w : World} {L : Option Addr} {lc : Nat} {l : List Bool} (h : Rd kBool w (.slice L l.length lc) l) (k : Nat) (hk : k < l.length) :
    ∃ bx ox, L = some ⟨bx, ox, none⟩ ∧ w.cell? ⟨bx, ox + k, none⟩ = some (.bool (kept l k)) := by
  obtain ⟨bx, ox, rfl, hcx⟩ := Rd.bools h (by omega)
  exact ⟨bx, ox, rfl, hcx k hk⟩
theorem int_list1 (w : World) (k : Nat) (hk : k ≤ 1000000) : Rd kInt (w.alloc (.cells #[.int .i64 k] 3)) (.slice (some ⟨w.heap.size, 0, none⟩) 1 1) [(k : Int)] :=
  Ow.rd (K := kInt) (B := 0) (Ow.lit (K := kInt) (p := w.heap.size) (n := 1) w [(k : Int)] #[.int .i64 k] rfl rfl rfl (Nat.zero_le _) (by simp [maxLen]) (by intro x hx; simp only [List.mem_singleton] at hx; subst hx; exact in64_nat k (by omega)))
theorem Plain.byN_set (n : Nat) (f : Nat → Nat) (u v : Nat) : (byN n f).set u v = byN n (fun i => if i = u then v else f i) := by
  apply List.ext_getElem?
  intro i
  unfold byN
  by_cases hi : i < n
  · rw [List.getElem?_set, List.getElem?_map, List.getElem?_map, List.getElem?_range hi]
    by_cases h : u = i
    · subst h; simp [hi]
    · rw [if_neg h, Option.map_some, Option.map_some, if_neg (fun e => h e.symm)]
  · rw [List.getElem?_eq_none (by simp; omega), List.getElem?_eq_none (by simp; omega)]
theorem zs_set (l : List Nat) (u v : Nat) : (zs l).set u (v : Int) = zs (l.set u v) := by unfold zs; rw [List.map_set]
/-- a cell of words of one's own is stored -/
theorem Ow.setN {B g n c : Nat} {w : World} {M : List Nat} (h : Ow kU32 B w (.slice (some ⟨g, 0, none⟩) n c) (zs M)) {u v : Nat} (hu : u < M.length) (hv : v < 4294967296) :
    Ow kU32 B (w.setCell ⟨g, u, none⟩ (.int .u32 v)) (.slice (some ⟨g, 0, none⟩) n c) (zs (M.set u v)) := by
  have h1 := h.set (j := u) (i := 0) (x := (v : Int)) (u := .int .u32 v) (by rw [zs_len]; exact hu) (by decide) rfl (by show (0 : Int) ≤ _ ∧ _ ≤ (4294967295 : Int); omega)
  rw [show u * kU32.n + 0 = u from by show u * 1 + 0 = u; omega, zs_set] at h1
  exact h1
/-- .. what is there -/
theorem Ow.atN {B g n c : Nat} {w : World} {M : List Nat} (h : Ow kU32 B w (.slice (some ⟨g, 0, none⟩) n c) (zs M)) {u : Nat} (hu : u < M.length) :
    w.cell? ⟨g, u, none⟩ = some (.int .u32 (M.getD u 0 : Nat)) ∧ (∀ j, w.frozen? ⟨g, j, none⟩ = false) ∧ M.getD u 0 < 4294967296 ∧ B ≤ g ∧ g < w.heap.size := by
  obtain ⟨g', eg, h1, h2, h3, h4⟩ := h.pos (by rw [zs_len]; omega)
  cases eg
  have z := h3 u (by rw [zs_len]; exact hu) 0 _ rfl
  have hok := h.rd.okAt u (by rw [zs_len]; exact hu)
  rw [show u * kU32.n + 0 = u from by show u * 1 + 0 = u; omega] at z
  have e : (zs M).getD u kU32.d = ((M.getD u 0 : Nat) : Int) := zs_getD M u
  rw [e] at z hok
  have hok' : (0 : Int) ≤ ((M.getD u 0 : Nat) : Int) ∧ ((M.getD u 0 : Nat) : Int) ≤ 4294967295 := hok
  exact ⟨z, h4, by omega, h1, h2⟩
theorem grown_set (w : World) (p : Addr) (v : Value) : w.grownBy (w.setCell p v) (some p.block) :=
  ⟨(Ext.setCell (Ext.refl w) (p := ⟨w.heap.size, 0, none⟩) (Nat.le_refl _) v).os.symm ▸ by simp [World.setCell], by simp [World.setCell], by simp [World.setCell], by simp [World.setCell], fun i hi hne => Below.heap_setCell _ _ _ _ (fun e => hne (by rw [e]))⟩
theorem zs_lt {w : World} {v : Value} {l : List Nat} (h : Rd kU32 w v (zs l)) : ∀ x ∈ l, x < 4294967296 := fun x hx => by
  have h1 : (0 : Int) ≤ (x : Int) ∧ (x : Int) ≤ 4294967295 := h.2.1 (x : Int) (List.mem_map.2 ⟨x, hx, rfl⟩)
  omega
theorem Plain.byN_rep (n : Nat) (f : Nat → Nat) (h : ∀ i, i < n → f i = 0) : zs (byN n f) = List.replicate n (0 : Int) := by
  unfold zs byN
  rw [List.map_map]
  apply List.ext_getElem?
  intro i
  by_cases hi : i < n
  · rw [List.getElem?_map, List.getElem?_range hi, List.getElem?_replicate, if_pos hi]
    show some (((f i : Nat) : Int)) = _
    rw [h i hi]; rfl
  · rw [List.getElem?_eq_none (by simpa using hi), List.getElem?_eq_none (by simpa using hi)]
/-- a bool of one's own is stored -/
theorem Ow.setB {B g n c : Nat} {w : World} {M : List Bool} (h : Ow kBool B w (.slice (some ⟨g, 0, none⟩) n c) M) {u : Nat} {v : Bool} (hu : u < M.length) :
    Ow kBool B (w.setCell ⟨g, u, none⟩ (.bool v)) (.slice (some ⟨g, 0, none⟩) n c) (M.set u v) := by
  have h1 := h.set (j := u) (i := 0) (x := v) (u := .bool v) hu (by decide) rfl trivial
  rw [show u * kBool.n + 0 = u from by show u * 1 + 0 = u; omega] at h1
  exact h1
theorem Ow.atB {B g n c : Nat} {w : World} {M : List Bool} (h : Ow kBool B w (.slice (some ⟨g, 0, none⟩) n c) M) {u : Nat} (hu : u < M.length) :
    w.cell? ⟨g, u, none⟩ = some (.bool (M.getD u false)) ∧ (∀ j, w.frozen? ⟨g, j, none⟩ = false) ∧ B ≤ g ∧ g < w.heap.size := by
  obtain ⟨g', eg, h1, h2, h3, h4⟩ := h.pos (by omega)
  cases eg
  have z := h3 u hu 0 _ rfl
  rw [show u * kBool.n + 0 = u from by show u * 1 + 0 = u; omega] at z
  exact ⟨z, h4, h1, h2⟩
/-- a number of one's own is stored -/
theorem Ow.setI {B g n c : Nat} {w : World} {M : List Nat} (h : Ow kInt B w (.slice (some ⟨g, 0, none⟩) n c) (zs M)) {u v : Nat} (hu : u < M.length) (hv : v ≤ 1000000) :
    Ow kInt B (w.setCell ⟨g, u, none⟩ (.int .i64 v)) (.slice (some ⟨g, 0, none⟩) n c) (zs (M.set u v)) := by
  have h1 := h.set (j := u) (i := 0) (x := (v : Int)) (u := .int .i64 v) (by rw [zs_len]; exact hu) (by decide) rfl (in64_nat v (by omega))
  rw [show u * kInt.n + 0 = u from by show u * 1 + 0 = u; omega, zs_set] at h1
  exact h1
theorem Ow.atI {B g n c : Nat} {w : World} {M : List Nat} (h : Ow kInt B w (.slice (some ⟨g, 0, none⟩) n c) (zs M)) {u : Nat} (hu : u < M.length) :
    w.cell? ⟨g, u, none⟩ = some (.int .i64 (M.getD u 0 : Nat)) ∧ (∀ j, w.frozen? ⟨g, j, none⟩ = false) ∧ B ≤ g ∧ g < w.heap.size := by
  obtain ⟨g', eg, h1, h2, h3, h4⟩ := h.pos (by rw [zs_len]; omega)
  cases eg
  have z := h3 u (by rw [zs_len]; exact hu) 0 _ rfl
  rw [show u * kInt.n + 0 = u from by show u * 1 + 0 = u; omega] at z
  have e : (zs M).getD u kInt.d = ((M.getD u 0 : Nat) : Int) := zs_getD M u
  rw [e] at z
  exact ⟨z, h4, h1, h2⟩
/-- make([]T, n), n a word -/
theorem Kd.makeU {α : Type} (K : Kd α) (o : α) (ho : K.cells o = K.z.cells.toList) (hok : K.ok o) (n : Nat) (hn : n ≤ 1048576) :
    ∃ C : Array Value, (∀ w : World, (Instr.makeSlice K.t (.int .u32 n) (.int .u32 n)).run Tryz.prog w = .ok (.slice (some ⟨w.heap.size, 0, none⟩) n n) (w.alloc (.cells C K.e))) ∧
      ∀ (w : World) (B p : Nat), p = w.heap.size → B ≤ p → Ow K B (w.alloc (.cells C K.e)) (.slice (some ⟨p, 0, none⟩) n n) (List.replicate n o) := by
  refine ⟨madeCells K.z.cells (n * K.n), fun w => ?_, fun w B p hp hB => Ow.lit w _ _ (K.made o ho n) (by simp) hp hB (by unfold maxLen; omega) (fun x hx => by rw [List.mem_replicate] at hx; rw [hx.2]; exact hok)⟩
  obtain ⟨i0, hi, hz0, hz1, hz2⟩ := info_parts K.info
  have hsm := K.small
  have hb : K.bytes * n ≤ 256 * 1048576 := Nat.mul_le_mul hsm hn
  have h := run_make (P := Tryz.prog) w K.t K.e i0 K.z K.ht hi hz0 .u32 .u32 n n (by omega) (by omega) (by rw [hz2, ← Int.natCast_mul]; omega) (by omega)
  simp only [Int.toNat_natCast, hz1] at h
  exact h
/-- make([]T, 0, n) -/
theorem Kd.makeCap {α : Type} (K : Kd α) (n : Nat) (hn : n ≤ 1048576) :
    ∃ C : Array Value, (∀ w : World, (Instr.makeSlice K.t (.int .i64 0) (.int .i64 n)).run Tryz.prog w = .ok (.slice (some ⟨w.heap.size, 0, none⟩) 0 n) (w.alloc (.cells C K.e))) ∧
      ∀ (w : World) (B p : Nat), p = w.heap.size → B ≤ p → Ow K B (w.alloc (.cells C K.e)) (.slice (some ⟨p, 0, none⟩) 0 n) [] := by
  refine ⟨madeCells K.z.cells (n * K.n), fun w => ?_, fun w B p hp hB => ?_⟩
  · obtain ⟨i0, hi, hz0, hz1, hz2⟩ := info_parts K.info
    have hsm := K.small
    have hb : K.bytes * n ≤ 256 * 1048576 := Nat.mul_le_mul hsm hn
    have h := run_make (P := Tryz.prog) w K.t K.e i0 K.z K.ht hi hz0 .i64 .i64 0 n (by omega) (by omega) (by rw [hz2, ← Int.natCast_mul]; omega) (by omega)
    simp only [Int.toNat_natCast, hz1] at h
    exact h
  · subst hp
    exact ⟨World.ownsRow_made w _ n hB (by unfold maxLen; omega) (size_madeCells _ _), by simp⟩
/-- a list of one's own stays, where one of another kind grows -/
theorem Ow.beside {α β : Type} {K : Kd α} {K' : Kd β} {B B' : Nat} {w w' : World} {v u : Value} {xs : List α} {ys : List β} (h : Ow K B w v xs) (h' : Ow K' B' w u ys) (hne : K.e ≠ K'.e) (hg : w.grownBy w' u.ownBlock) : Ow K B w' v xs :=
  h.kept hg (by
    cases hv : v.ownBlock with
    | none => exact .inl rfl
    | some k => exact .inr fun e => Ow.far hne h h' k hv e.symm)
theorem u32_list (w : World) (xs : List Nat) (p n : Nat) (cs : Array Value) (hcs : cs.toList = (zs xs).map (Value.int .u32)) (hn : xs.length = n) (hp : p = w.heap.size) (hm : n ≤ 1000) (hx : ∀ x ∈ xs, x < 4294967296) : Rd kU32 (w.alloc (.cells cs 42)) (.slice (some ⟨p, 0, none⟩) n n) (zs xs) :=
  Ow.rd (K := kU32) (B := 0) (Ow.lit (K := kU32) w (zs xs) cs (by rw [hcs]; simp [Kd.flat, kU32]; induction (zs xs) with | nil => rfl | cons a l ih => simp [ih]) (by rw [zs_len, hn]) hp (Nat.zero_le _) (by unfold maxLen; omega) (by
    intro z hz
    unfold zs at hz
    obtain ⟨x, h1, rfl⟩ := List.mem_map.1 hz
    have := hx x h1
    show (0 : Int) ≤ x ∧ (x : Int) ≤ 4294967295
    omega))
theorem one_at {w : World} {q : Nat} {x : Int} (h : w.heap[q]? = some (.cells #[.int .i64 x] 3)) (hx : in64 x) : Rd kInt w (.slice (some ⟨q, 0, none⟩) 1 1) [x] :=
  ⟨by simp [maxLen], by intro y hy; rw [List.mem_singleton] at hy; rw [hy]; exact hx, _, 1, rfl, Nat.le_refl _, fun _ => ⟨q, 0, rfl, fun j hj i u hu => by
    obtain rfl : j = 0 := by simp at hj; omega
    have hi : i = 0 := by
      rcases i with _ | i
      · rfl
      · simp [kInt] at hu
    subst hi
    have hu' : Value.int IntKind.i64 x = u := by simpa [kInt] using hu
    subst hu'
    exact (cell_of_row w q 0 _ _ _ h).trans rfl⟩⟩
theorem empty_at {α : Type} {K : Kd α} {B p : Nat} {w : World} (h : w.heap[p]? = some (.cells #[] K.e)) (hB : B ≤ p) : Ow K B w (.slice (some ⟨p, 0, none⟩) 0 0) [] :=
  ⟨⟨by simp [Kd.flat], .inr ⟨p, 0, #[], rfl, hB, h, Nat.le_refl _, by simp [maxLen], by simp, by simp [Kd.flat]⟩⟩, by simp⟩
theorem heap_alloc_at {w : World} {o : Obj} {p : Nat} (h : p = w.heap.size) : (w.alloc o).heap[p]? = some o := by subst h; exact heap_alloc_new _ _
theorem zs_take9 (l : List Nat) (n : Nat) : zs (l.take n) = (zs l).take n := by unfold zs; rw [List.map_take]
theorem zs_drop9 (l : List Nat) (n : Nat) : zs (l.drop n) = (zs l).drop n := by unfold zs; rw [List.map_drop]
/-- what is left behind a place, as the walk writes it -/
theorem Rd.sliced {α : Type} {K : Kd α} {w : World} {A : Option Addr} {n c : Nat} {xs : List α} (h : Rd K w (.slice A n c) xs) (hK : K.n = 1) (q : Nat) (hq : q ≤ xs.length) : Rd K w (.slice (if c = q then A else Option.map (fun x => x.add q) A) (n - q) (c - q)) (xs.drop q) := by
  obtain ⟨h1, h2, A', c', hv, hc, h3⟩ := id h
  cases hv
  by_cases e : c = q
  · have hz : xs.drop q = [] := List.eq_nil_of_length_eq_zero (by rw [List.length_drop]; omega)
    rw [hz, show xs.length - q = 0 by omega]
    exact Rd.nil _ _ _
  · rw [if_neg e]
    rcases A with _ | ad
    · have hz : xs.drop q = [] := List.eq_nil_of_length_eq_zero (by
        rcases Nat.eq_zero_or_pos xs.length with h0 | h0
        · rw [List.length_drop]; omega
        · obtain ⟨_, _, h9, _⟩ := h3 h0; cases h9)
      have hl : xs.length - q = 0 := by rw [← List.length_drop, hz]; rfl
      rw [hz, hl]
      exact Rd.nil _ _ _
    · exact h.dropAdd q q (xs.length - q) (c - q) (by rw [hK, Nat.mul_one]) rfl (by omega)
end Go.Proofs.YtkpbanfpnilifaaGreat

/- Plain words of work: tasks, parted and done. No program in it. -/
namespace Go.Proofs.YtkpbanfpnilifaaGreat.Plain

def tk0 : Tk := ⟨0, 0, 0, 0⟩
/-- may a task be, the i-th of work of n units? -/
def tkOk (n i : Nat) (t : Tk) : Bool := decide (0 ≤ t.lo) && decide (t.lo < t.hi) && decide (t.hi ≤ (n : Int)) && decide (-1 ≤ t.up) && decide (t.up < (i : Int)) && decide (0 ≤ t.wt) && decide (t.wt ≤ 2)
theorem tkOk_iff (n i : Nat) (t : Tk) : tkOk n i t = true ↔ 0 ≤ t.lo ∧ t.lo < t.hi ∧ t.hi ≤ (n : Int) ∧ -1 ≤ t.up ∧ t.up < (i : Int) ∧ 0 ≤ t.wt ∧ t.wt ≤ 2 := by
  unfold tkOk
  simp only [Bool.and_eq_true, decide_eq_true_eq]
  constructor
  · rintro ⟨⟨⟨⟨⟨⟨a, b⟩, c⟩, d⟩, e⟩, f⟩, g⟩; exact ⟨a, b, c, d, e, f, g⟩
  · rintro ⟨a, b, c, d, e, f, g⟩; exact ⟨⟨⟨⟨⟨⟨a, b⟩, c⟩, d⟩, e⟩, f⟩, g⟩
def wSized (g : Int) (n m : Nat) : Bool := decide (1 ≤ g) && decide (g ≤ 100) && decide (1 ≤ n) && decide (n ≤ 1000) && decide (1 ≤ m) && decide (m ≤ 2000)
theorem wSized_iff (g : Int) (n m : Nat) : wSized g n m = true ↔ 1 ≤ g ∧ g ≤ 100 ∧ 1 ≤ n ∧ n ≤ 1000 ∧ 1 ≤ m ∧ m ≤ 2000 := by
  unfold wSized
  simp only [Bool.and_eq_true, decide_eq_true_eq]
  constructor
  · rintro ⟨⟨⟨⟨⟨a, b⟩, c⟩, d⟩, e⟩, f⟩; exact ⟨a, b, c, d, e, f⟩
  · rintro ⟨a, b, c, d, e, f⟩; exact ⟨⟨⟨⟨⟨a, b⟩, c⟩, d⟩, e⟩, f⟩
/-- are the first k tasks such as may be? -/
def wOkTo (ts : List Tk) (n k : Nat) : Bool := (List.range k).all fun i => tkOk n i (ts.getD i tk0)
/-- may work be? -/
def wRight (ts : List Tk) (g : Int) (n : Nat) : Bool := wSized g n ts.length && wOkTo ts n ts.length
theorem wOkTo_succ (ts : List Tk) (n k : Nat) : wOkTo ts n (k + 1) = (wOkTo ts n k && tkOk n k (ts.getD k tk0)) := by
  unfold wOkTo; rw [List.range_succ, List.all_append]; simp
theorem wOkTo_zero (ts : List Tk) (n : Nat) : wOkTo ts n 0 = true := rfl
theorem wOkTo_at (ts : List Tk) (n k : Nat) (h : wOkTo ts n k = true) (i : Nat) (hi : i < k) : tkOk n i (ts.getD i tk0) = true := by
  unfold wOkTo at h
  rw [List.all_eq_true] at h
  exact h i (List.mem_range.2 hi)
theorem wOkTo_no (ts : List Tk) (n m k : Nat) (hk : k < m) (h : tkOk n k (ts.getD k tk0) = false) : wOkTo ts n m = false := by
  rw [Bool.eq_false_iff]
  intro hh
  rw [wOkTo_at ts n m hh k hk] at h
  cases h
def wHas (m : Nat) (i : Int) : Bool := decide (0 ≤ i) && decide (i < (m : Int))
def tkAt (ts : List Tk) (i : Int) : Tk := ts.getD i.toNat tk0
def wGreat (ts : List Tk) (g : Int) (n : Nat) (i : Int) : Bool := wRight ts g n && wHas ts.length i && decide (g < (tkAt ts i).hi - (tkAt ts i).lo)
/-- how many tasks, and leaves, so many units come to: 'f' bounds how often they are parted -/
def cnt (g : Nat) : Nat → Nat → Nat × Nat
  | 0, _ => (1, 1)
  | f + 1, n => if n ≤ g then (1, 1) else ((cnt g f (n / 2)).1 + (cnt g f (n - n / 2)).1 + 1, (cnt g f (n / 2)).2 + (cnt g f (n - n / 2)).2)
theorem cnt_fuel (g : Nat) (hg : 1 ≤ g) : ∀ (f f' n : Nat), n ≤ f → n ≤ f' → cnt g f n = cnt g f' n
  | 0, 0, _, _, _ => rfl
  | 0, f' + 1, n, h, _ => by
    obtain rfl : n = 0 := by omega
    simp [cnt]
  | f + 1, 0, n, _, h => by
    obtain rfl : n = 0 := by omega
    simp [cnt]
  | f + 1, f' + 1, n, h, h' => by
    simp only [cnt]
    by_cases hn : n ≤ g
    · rw [if_pos hn, if_pos hn]
    · rw [if_neg hn, if_neg hn, cnt_fuel g hg f f' (n / 2) (by omega) (by omega), cnt_fuel g hg f f' (n - n / 2) (by omega) (by omega)]
/-- .. of n units -/
def cntT (n g : Nat) : Nat := (cnt g n n).1
def cntL (n g : Nat) : Nat := (cnt g n n).2
theorem cnt_one (n g : Nat) (h : n ≤ g) : cntT n g = 1 ∧ cntL n g = 1 := by
  unfold cntT cntL
  cases n with
  | zero => exact ⟨rfl, rfl⟩
  | succ n => simp [cnt, h]
theorem cnt_more (n g : Nat) (hg : 1 ≤ g) (h : g < n) : cntT n g = cntT (n / 2) g + cntT (n - n / 2) g + 1 ∧ cntL n g = cntL (n / 2) g + cntL (n - n / 2) g := by
  unfold cntT cntL
  obtain ⟨f, rfl⟩ : ∃ f, n = f + 1 := ⟨n - 1, by omega⟩
  have e : cnt g (f + 1) (f + 1) = ((cnt g f ((f + 1) / 2)).1 + (cnt g f (f + 1 - (f + 1) / 2)).1 + 1, (cnt g f ((f + 1) / 2)).2 + (cnt g f (f + 1 - (f + 1) / 2)).2) := by
    simp only [cnt]; rw [if_neg (by omega)]
  rw [e, cnt_fuel g hg f ((f + 1) / 2) _ (by omega) (by omega), cnt_fuel g hg f (f + 1 - (f + 1) / 2) (f + 1 - (f + 1) / 2) (by omega) (by omega)]
  exact ⟨rfl, rfl⟩
/-- Count: the tasks, and the leaves, or none -/
def cOk (n g : Int) : Bool := decide (1 ≤ n) && decide (n ≤ 1000) && decide (1 ≤ g) && decide (g ≤ 100)
def countT (n g : Int) : Int := if cOk n g = true then (cntT n.toNat g.toNat : Int) else 0
def countL (n g : Int) : Int := if cOk n g = true then (cntL n.toNat g.toNat : Int) else 0
theorem cnt_bd (g : Nat) (hg : 1 ≤ g) : ∀ (f n : Nat), n ≤ f → 1 ≤ n → cntT n g + 1 = 2 * cntL n g ∧ 1 ≤ cntL n g ∧ cntL n g ≤ n ∧ n ≤ cntL n g * g
  | 0, n, h, h1 => by omega
  | f + 1, n, h, h1 => by
    by_cases hn : n ≤ g
    · obtain ⟨a, b⟩ := cnt_one n g hn
      rw [a, b]; omega
    · obtain ⟨a, b⟩ := cnt_more n g hg (by omega)
      obtain ⟨p1, p2, p3, p4⟩ := cnt_bd g hg f (n / 2) (by omega) (by omega)
      obtain ⟨q1, q2, q3, q4⟩ := cnt_bd g hg f (n - n / 2) (by omega) (by omega)
      rw [a, b, Nat.add_mul]
      omega
theorem count_ok (n g : Nat) (h1 : 1 ≤ n) (h2 : n ≤ 1000) (h3 : 1 ≤ g) (h4 : g ≤ 100) : countT n g = cntT n g ∧ countL n g = cntL n g ∧ cntT n g ≤ 2000 ∧ cntL n g ≤ 1000 := by
  have hc : cOk n g = true := by unfold cOk; simp; omega
  have hb := cnt_bd g h3 n n (Nat.le_refl _) h1
  unfold countT countL
  rw [if_pos hc, if_pos hc, Int.toNat_natCast, Int.toNat_natCast]
  exact ⟨rfl, rfl, by omega, by omega⟩
end Go.Proofs.YtkpbanfpnilifaaGreat.Plain

/- Plain words of work that is done: units marked, and whom a task belongs to. No program in it. -/
namespace Go.Proofs.YtkpbanfpnilifaaGreat.Plain

/-- the units from a up to b are done -/
def marked (dn : List Bool) (a b : Nat) : List Bool := dn.take a ++ List.replicate (b - a) true ++ dn.drop b
theorem marked_len (dn : List Bool) (a b : Nat) (h : a ≤ b) (hb : b ≤ dn.length) : (marked dn a b).length = dn.length := by
  unfold marked; simp; omega
theorem marked_none (dn : List Bool) (a : Nat) : marked dn a a = dn := by unfold marked; simp
theorem marked_getD (dn : List Bool) (a b : Nat) (h : a ≤ b) (hb : b ≤ dn.length) (k : Nat) : (marked dn a b).getD k false = (if a ≤ k ∧ k < b then true else dn.getD k false) := by
  unfold marked
  simp only [List.getD_eq_getElem?_getD]
  by_cases h1 : k < a
  · rw [if_neg (by omega), List.getElem?_append_left (by simp; omega), List.getElem?_append_left (by simp; omega), List.getElem?_take_of_lt h1]
  · by_cases h2 : k < b
    · rw [if_pos (by omega), List.getElem?_append_left (by simp; omega), List.getElem?_append_right (by simp; omega), List.getElem?_replicate]
      rw [if_pos (by simp; omega)]; rfl
    · rw [if_neg (by omega), List.getElem?_append_right (by simp; omega), List.getElem?_drop]
      congr 2; simp; omega
theorem marked_succ (dn : List Bool) (a k : Nat) (h : a ≤ k) (hk : k < dn.length) : marked dn a (k + 1) = (marked dn a k).set k true := by
  apply List.ext_getElem?
  intro i
  have e1 : (marked dn a (k + 1)).length = dn.length := marked_len dn a (k + 1) (by omega) (by omega)
  have e2 : ((marked dn a k).set k true).length = dn.length := by rw [List.length_set]; exact marked_len dn a k h (by omega)
  by_cases hi : i < dn.length
  · have f1 : (marked dn a (k + 1))[i]? = some ((marked dn a (k + 1)).getD i false) := by rw [List.getD_eq_getElem?_getD, List.getElem?_eq_getElem (by omega)]; rfl
    have f2 : ((marked dn a k).set k true)[i]? = some (((marked dn a k).set k true).getD i false) := by rw [List.getD_eq_getElem?_getD, List.getElem?_eq_getElem (by omega)]; rfl
    rw [f1, f2, marked_getD dn a (k + 1) (by omega) (by omega) i]
    by_cases hik : i = k
    · subst hik
      rw [if_pos (by omega), List.getD_eq_getElem?_getD, List.getElem?_set_self (by rw [marked_len dn a i h (by omega)]; omega)]; rfl
    · rw [List.getD_eq_getElem?_getD (l := (marked dn a k).set k true), List.getElem?_set_ne (by omega), ← List.getD_eq_getElem?_getD, marked_getD dn a k h (by omega) i]
      by_cases hc : a ≤ i ∧ i < k
      · rw [if_pos hc, if_pos (by omega)]
      · rw [if_neg hc, if_neg (by omega)]
  · rw [List.getElem?_eq_none (by omega), List.getElem?_eq_none (by omega)]
/-- one less to wait for, of the j-th task -/
def wless (ts : List Tk) (j : Nat) : List Tk := ts.set j ⟨(ts.getD j tk0).lo, (ts.getD j tk0).hi, (ts.getD j tk0).up, (ts.getD j tk0).wt - 1⟩
theorem wless_len (ts : List Tk) (j : Nat) : (wless ts j).length = ts.length := by unfold wless; rw [List.length_set]
theorem wless_at (ts : List Tk) (j i : Nat) (hj : j < ts.length) : (wless ts j).getD i tk0 = if i = j then ⟨(ts.getD j tk0).lo, (ts.getD j tk0).hi, (ts.getD j tk0).up, (ts.getD j tk0).wt - 1⟩ else ts.getD i tk0 := by
  unfold wless
  by_cases h : i = j
  · subst h
    rw [if_pos rfl, List.getD_eq_getElem?_getD, List.getElem?_set_self hj]; rfl
  · rw [if_neg h, List.getD_eq_getElem?_getD, List.getElem?_set_ne (by omega), ← List.getD_eq_getElem?_getD]
theorem wless_ok (ts : List Tk) (n j k : Nat) (hj : j < ts.length) (h : wOkTo ts n k = true) (hk : j < k) (hw : (ts.getD j tk0).wt ≠ 0) : wOkTo (wless ts j) n k = true := by
  unfold wOkTo
  rw [List.all_eq_true]
  intro i hi
  have hi' := List.mem_range.1 hi
  rw [wless_at ts j i hj]
  have hh := wOkTo_at ts n k h i hi'
  by_cases e : i = j
  · subst e
    rw [if_pos rfl]
    rw [tkOk_iff] at hh ⊢
    simp only
    omega
  · rw [if_neg e]; exact hh
/-- whom it belongs to waits for one less, and so on: the tasks, and is all done? 'f' bounds how far up -/
def climb : Nat → List Tk → Int → List Tk × Bool
  | 0, ts, _ => (ts, true)
  | f + 1, ts, up =>
    if up = -1 then (ts, true) else if (tkAt ts up).wt = 0 then (ts, false) else
      if 0 < (tkAt ts up).wt - 1 then (wless ts up.toNat, false) else climb f (wless ts up.toNat) (tkAt ts up).up
theorem climb_len : ∀ (f : Nat) (ts : List Tk) (up : Int), (climb f ts up).1.length = ts.length
  | 0, _, _ => rfl
  | f + 1, ts, up => by
    unfold climb
    split
    · rfl
    · split
      · rfl
      · split
        · exact wless_len _ _
        · rw [climb_len f]; exact wless_len _ _
end Go.Proofs.YtkpbanfpnilifaaGreat.Plain

/- Plain words of work that is parted and done in any order: what stands, round by round. No program in it. -/
namespace Go.Proofs.YtkpbanfpnilifaaGreat.Plain

abbrev T (ts : List Tk) (k : Nat) : Tk := ts.getD k tk0
/-- how many units a task has -/
def sz (ts : List Tk) (k : Nat) : Nat := ((T ts k).hi - (T ts k).lo).toNat
/-- is a task not finished: is it open, or does it wait? -/
def unf (O : List Nat) (ts : List Tk) (k : Nat) : Bool := decide (k ∈ O) || decide ((T ts k).wt ≠ 0)
theorem unf_iff (O : List Nat) (ts : List Tk) (k : Nat) : unf O ts k = true ↔ k ∈ O ∨ (T ts k).wt ≠ 0 := by unfold unf; simp
/-- of how many parts a task waits -/
def kids (O : List Nat) (ts : List Tk) (j : Nat) : Nat := (List.range ts.length).countP fun k => decide ((T ts k).up = (j : Int)) && unf O ts k

theorem cP_congr (p q : Nat → Bool) : ∀ (m : Nat), (∀ k, k < m → p k = q k) → (List.range m).countP p = (List.range m).countP q
  | 0, _ => rfl
  | m + 1, h => by
    rw [List.range_succ, List.countP_append, List.countP_append, cP_congr p q m (fun k hk => h k (by omega))]
    simp [h m (by omega)]
theorem cP_one (p q : Nat → Bool) (x : Nat) : ∀ (m : Nat), x < m → (∀ k, k < m → k ≠ x → p k = q k) → p x = true → q x = false → (List.range m).countP p = (List.range m).countP q + 1
  | 0, h, _, _, _ => by omega
  | m + 1, h, hk, hp, hq => by
    rw [List.range_succ, List.countP_append, List.countP_append]
    by_cases hx : x = m
    · subst hx
      rw [cP_congr p q x (fun k hk' => hk k (by omega) (by omega))]
      simp [hp, hq]
    · rw [cP_one p q x m (by omega) (fun k hk' hne => hk k (by omega) hne) hp hq]
      simp [hk m (by omega) (fun e => hx e.symm)]
      omega
theorem cP_pos (p : Nat → Bool) : ∀ (m : Nat), 0 < (List.range m).countP p → ∃ k, k < m ∧ p k = true
  | 0, h => by simp at h
  | m + 1, h => by
    rw [List.range_succ, List.countP_append] at h
    cases hp : p m with
    | true => exact ⟨m, by omega, hp⟩
    | false =>
      obtain ⟨k, hk, hpk⟩ := cP_pos p m (by simpa [hp] using h)
      exact ⟨k, by omega, hpk⟩
theorem cP_of (p : Nat → Bool) (k : Nat) : ∀ (m : Nat), k < m → p k = true → 0 < (List.range m).countP p
  | 0, h, _ => by omega
  | m + 1, h, hp => by
    rw [List.range_succ, List.countP_append]
    by_cases hk : k = m
    · subst hk; simp [hp]
    · have := cP_of p k m (by omega) hp
      omega

/-- what stands -/
structure OI (g n : Nat) (ts : List Tk) (dn : List Bool) (O : List Nat) (units : Nat) : Prop where
  ok : wOkTo ts n ts.length = true
  len : 1 ≤ ts.length
  dl : dn.length = n
  nd : O.Nodup
  lt : ∀ k ∈ O, k < ts.length
  w0 : ∀ k ∈ O, (T ts k).wt = 0
  root : (T ts 0).up = -1
  ups : ∀ k, 0 < k → k < ts.length → 0 ≤ (T ts k).up
  wts : ∀ j, j < ts.length → (T ts j).wt = (kids O ts j : Int)
  sum : (O.map fun k => cntT (sz ts k) g).sum + ts.length = cntT n g + O.length
  uns : units + (O.map (sz ts)).sum = n
  cov : ∀ u : Nat, u < n → (dn.getD u false = false ↔ ∃ k ∈ O, (T ts k).lo ≤ (u : Int) ∧ (u : Int) < (T ts k).hi)
  dis : ∀ k ∈ O, ∀ k' ∈ O, k ≠ k' → (T ts k).hi ≤ (T ts k').lo ∨ (T ts k').hi ≤ (T ts k).lo

theorem unf_perm {O O' : List Nat} (h : O.Perm O') (ts : List Tk) (k : Nat) : unf O ts k = unf O' ts k := by
  rw [Bool.eq_iff_iff, unf_iff, unf_iff, h.mem_iff]
theorem OI.perm {g n : Nat} {ts : List Tk} {dn : List Bool} {O O' : List Nat} {units : Nat} (h : OI g n ts dn O units) (hp : O.Perm O') : OI g n ts dn O' units where
  ok := h.ok
  len := h.len
  dl := h.dl
  nd := hp.nodup_iff.1 h.nd
  lt k hk := h.lt k (hp.mem_iff.2 hk)
  w0 k hk := h.w0 k (hp.mem_iff.2 hk)
  root := h.root
  ups := h.ups
  wts j hj := by rw [h.wts j hj]; unfold kids; rw [cP_congr _ _ _ (fun k _ => by rw [unf_perm hp])]
  sum := by rw [← (hp.map _).sum_nat, ← hp.length_eq]; exact h.sum
  uns := by rw [← (hp.map _).sum_nat]; exact h.uns
  cov u hu := by
    rw [h.cov u hu]
    exact ⟨fun ⟨k, hk, hr⟩ => ⟨k, hp.mem_iff.1 hk, hr⟩, fun ⟨k, hk, hr⟩ => ⟨k, hp.mem_iff.2 hk, hr⟩⟩
  dis k hk k' hk' := h.dis k (hp.mem_iff.2 hk) k' (hp.mem_iff.2 hk')

theorem OI.task {g n : Nat} {ts : List Tk} {dn : List Bool} {O : List Nat} {units : Nat} (h : OI g n ts dn O units) (k : Nat) (hk : k < ts.length) :
    0 ≤ (T ts k).lo ∧ (T ts k).lo < (T ts k).hi ∧ (T ts k).hi ≤ n ∧ -1 ≤ (T ts k).up ∧ (T ts k).up < k ∧ 0 ≤ (T ts k).wt ∧ (T ts k).wt ≤ 2 := (tkOk_iff n k _).1 (wOkTo_at ts n ts.length h.ok k hk)

/-- the beginning -/
theorem OI.begin (g n : Nat) (h1 : 1 ≤ n) : OI g n [⟨0, n, -1, 0⟩] (List.replicate n false) [0] 0 where
  ok := by
    rw [List.length_singleton, wOkTo_succ, wOkTo_zero, Bool.true_and, tkOk_iff]
    simp; omega
  len := by simp
  dl := by simp
  nd := by simp
  lt := by simp
  w0 := by simp
  root := rfl
  ups := by intro k h0 hk; simp at hk; omega
  wts := by
    intro j hj
    obtain rfl : j = 0 := by simpa using hj
    simp [kids, List.range_succ]
  sum := by simp [sz]
  uns := by simp [sz]
  cov := by
    intro u hu
    have e : (List.replicate n false).getD u false = false := by
      rw [List.getD_eq_getElem?_getD, List.getElem?_replicate]
      split <;> rfl
    rw [e]
    refine ⟨fun _ => ⟨0, by simp, ?_, ?_⟩, fun _ => rfl⟩
    · show (0 : Int) ≤ u; omega
    · show (u : Int) < n; omega
  dis := by
    intro k hk k' hk' hne
    simp at hk hk'
    omega

theorem cntT_pos (n g : Nat) (hg : 1 ≤ g) (h1 : 1 ≤ n) : 1 ≤ cntT n g := by
  have := cnt_bd g hg n n (Nat.le_refl _) h1
  omega
theorem sum_le (f : Nat → Nat) : ∀ (O : List Nat), (∀ k ∈ O, 1 ≤ f k) → O.length ≤ (O.map f).sum
  | [], _ => by simp
  | a :: O, h => by
    have := sum_le f O (fun k hk => h k (by simp [hk]))
    have := h a (by simp)
    simp; omega
theorem OI.szpos {g n : Nat} {ts : List Tk} {dn : List Bool} {O : List Nat} {units : Nat} (h : OI g n ts dn O units) (k : Nat) (hk : k ∈ O) : 1 ≤ sz ts k ∧ sz ts k ≤ n ∧ ((T ts k).hi - (T ts k).lo) = sz ts k := by
  have := h.task k (h.lt k hk)
  unfold sz
  omega
/-- there are never more tasks than there will be -/
theorem OI.few {g n : Nat} {ts : List Tk} {dn : List Bool} {O : List Nat} {units : Nat} (h : OI g n ts dn O units) (hg : 1 ≤ g) (h1 : 1 ≤ n) : ts.length ≤ cntT n g ∧ cntT n g ≤ 2 * n - 1 := by
  have := sum_le (fun k => cntT (sz ts k) g) O (fun k hk => cntT_pos _ _ hg (h.szpos k hk).1)
  have := h.sum
  have := cnt_bd g hg n n (Nat.le_refl _) h1
  omega
theorem OI.right {g n : Nat} {ts : List Tk} {dn : List Bool} {O : List Nat} {units : Nat} (h : OI g n ts dn O units) (hg : 1 ≤ g) (hg2 : g ≤ 100) (h1 : 1 ≤ n) (h2 : n ≤ 900) : wRight ts g n = true := by
  unfold wRight
  rw [h.ok, Bool.and_true, wSized_iff]
  have := h.few hg h1
  have := h.len
  omega
theorem OI.greatB {g n : Nat} {ts : List Tk} {dn : List Bool} {O : List Nat} {units : Nat} (h : OI g n ts dn O units) (hg : 1 ≤ g) (hg2 : g ≤ 100) (h1 : 1 ≤ n) (h2 : n ≤ 900) (k : Nat) (hk : k ∈ O) : wGreat ts g n k = decide (g < sz ts k) := by
  have hl := h.lt k hk
  unfold wGreat
  rw [h.right hg hg2 h1 h2]
  have hh : wHas ts.length (k : Int) = true := by unfold wHas; simp; omega
  rw [hh]
  have e : tkAt ts (k : Int) = T ts k := by unfold tkAt; rw [Int.toNat_natCast]
  rw [e, (h.szpos k hk).2.2]
  rw [Bool.true_and, Bool.eq_iff_iff]
  simp

/-- the tasks, the k-th of them parted -/
def partedL (ts : List Tk) (k : Nat) : List Tk :=
  ts.set k ⟨(T ts k).lo, (T ts k).hi, (T ts k).up, 2⟩ ++ [⟨(T ts k).lo, (T ts k).lo + ((T ts k).hi - (T ts k).lo) / 2, k, 0⟩, ⟨(T ts k).lo + ((T ts k).hi - (T ts k).lo) / 2, (T ts k).hi, k, 0⟩]
theorem partedL_len (ts : List Tk) (k : Nat) : (partedL ts k).length = ts.length + 2 := by unfold partedL; simp
theorem parted_at (ts : List Tk) (k : Nat) (hk : k < ts.length) (j : Nat) : T (partedL ts k) j = if j = k then ⟨(T ts k).lo, (T ts k).hi, (T ts k).up, 2⟩ else if j < ts.length then T ts j
    else if j = ts.length then ⟨(T ts k).lo, (T ts k).lo + ((T ts k).hi - (T ts k).lo) / 2, k, 0⟩ else if j = ts.length + 1 then ⟨(T ts k).lo + ((T ts k).hi - (T ts k).lo) / 2, (T ts k).hi, k, 0⟩ else tk0 := by
  unfold partedL T
  simp only [List.getD_eq_getElem?_getD]
  by_cases h1 : j < ts.length
  · rw [List.getElem?_append_left (by simpa using h1)]
    by_cases h2 : j = k
    · subst h2
      rw [if_pos rfl, List.getElem?_set_self hk]; rfl
    · rw [if_neg h2, if_pos h1, List.getElem?_set_ne (fun e => h2 e.symm)]
  · rw [List.getElem?_append_right (by simp; omega), if_neg (by omega), if_neg h1]
    simp only [List.length_set]
    by_cases h3 : j = ts.length
    · subst h3; simp
    · rw [if_neg h3]
      by_cases h4 : j = ts.length + 1
      · subst h4; simp
      · rw [if_neg h4]
        rw [List.getElem?_eq_none (by simp; omega)]; rfl

theorem OI.parted {g n : Nat} {ts : List Tk} {dn : List Bool} {R : List Nat} {units k : Nat} (h : OI g n ts dn (k :: R) units) (hg : 1 ≤ g) (hs : g < sz ts k) : OI g n (partedL ts k) dn (R ++ [ts.length, ts.length + 1]) units := by
  have hk : k < ts.length := h.lt k (by simp)
  have hkR : k ∉ R := (List.nodup_cons.1 h.nd).1
  have hR : ∀ j ∈ R, j < ts.length ∧ j ≠ k := fun j hj => ⟨h.lt j (by simp [hj]), fun e => hkR (e ▸ hj)⟩
  obtain ⟨t1, t2, t3, t4, t5, t6, t7⟩ := h.task k hk
  have hsz := h.szpos k (by simp)
  have hl := partedL_len ts k
  have at0 : ∀ j, j < ts.length → j ≠ k → T (partedL ts k) j = T ts j := fun j hj hne => by rw [parted_at ts k hk, if_neg hne, if_pos hj]
  have atk : T (partedL ts k) k = ⟨(T ts k).lo, (T ts k).hi, (T ts k).up, 2⟩ := by rw [parted_at ts k hk, if_pos rfl]
  have ata : T (partedL ts k) ts.length = ⟨(T ts k).lo, (T ts k).lo + ((T ts k).hi - (T ts k).lo) / 2, k, 0⟩ := by rw [parted_at ts k hk, if_neg (by omega), if_neg (by omega), if_pos rfl]
  have atb : T (partedL ts k) (ts.length + 1) = ⟨(T ts k).lo + ((T ts k).hi - (T ts k).lo) / 2, (T ts k).hi, k, 0⟩ := by rw [parted_at ts k hk, if_neg (by omega), if_neg (by omega), if_neg (by omega), if_pos rfl]
  have sza : sz (partedL ts k) ts.length = sz ts k / 2 := by unfold sz at hsz ⊢; rw [ata]; simp only; omega
  have szb : sz (partedL ts k) (ts.length + 1) = sz ts k - sz ts k / 2 := by unfold sz at hsz ⊢; rw [atb]; simp only; omega
  have szR : ∀ j ∈ R, sz (partedL ts k) j = sz ts j := fun j hj => by unfold sz; rw [at0 j (hR j hj).1 (hR j hj).2]
  have mapR : ∀ f : Nat → Nat, (R.map fun j => f (sz (partedL ts k) j)) = R.map fun j => f (sz ts j) := fun f => List.map_congr_left fun j hj => by rw [szR j hj]
  have unfOld : ∀ j, j < ts.length → unf (R ++ [ts.length, ts.length + 1]) (partedL ts k) j = unf (k :: R) ts j := by
    intro j hj
    rw [Bool.eq_iff_iff, unf_iff, unf_iff]
    by_cases e : j = k
    · subst e
      rw [atk]
      constructor
      · intro _; left; simp
      · intro _; right; show (2 : Int) ≠ 0; decide
    · rw [at0 j hj e]
      simp only [List.mem_append, List.mem_cons, List.not_mem_nil, or_false]
      constructor
      · rintro ((h1 | h1 | h1) | h1)
        · exact .inl (.inr h1)
        · omega
        · omega
        · exact .inr h1
      · rintro ((h1 | h1) | h1)
        · exact absurd h1 e
        · exact .inl (.inl h1)
        · exact .inr h1
  have upOld : ∀ j, j < ts.length → (T (partedL ts k) j).up = (T ts j).up := by
    intro j hj
    by_cases e : j = k
    · subst e; rw [atk]
    · rw [at0 j hj e]
  have kidsEq : ∀ j, j < ts.length → kids (R ++ [ts.length, ts.length + 1]) (partedL ts k) j = kids (k :: R) ts j + if j = k then 2 else 0 := by
    intro j hj
    unfold kids
    rw [hl, show ts.length + 2 = (ts.length + 1) + 1 by omega, List.range_succ, List.range_succ, List.countP_append, List.countP_append]
    rw [cP_congr _ (fun i => decide ((T ts i).up = (j : Int)) && unf (k :: R) ts i) ts.length (fun i hi => by rw [unfOld i hi, upOld i hi])]
    have ua : unf (R ++ [ts.length, ts.length + 1]) (partedL ts k) ts.length = true := by rw [unf_iff]; left; simp
    have ub : unf (R ++ [ts.length, ts.length + 1]) (partedL ts k) (ts.length + 1) = true := by rw [unf_iff]; left; simp
    simp only [List.countP_singleton, ua, ub, ata, atb, Bool.and_true]
    by_cases e : j = k
    · subst e; simp
    · rw [if_neg e]
      have : ¬ ((k : Int) = (j : Int)) := by omega
      simp [this]
  refine ⟨?_, by rw [hl]; omega, h.dl, ?_, ?_, ?_, ?_, ?_, ?_, ?_, ?_, ?_, ?_⟩
  · -- ok
    rw [hl]
    unfold wOkTo
    rw [List.all_eq_true]
    intro i hi
    have hi' := List.mem_range.1 hi
    show tkOk n i (T (partedL ts k) i) = true
    rw [tkOk_iff]
    by_cases e1 : i < ts.length
    · obtain ⟨p1, p2, p3, p4, p5, p6, p7⟩ := h.task i e1
      by_cases e2 : i = k
      · subst e2; rw [atk]; simp only; omega
      · rw [at0 i e1 e2]; omega
    · by_cases e3 : i = ts.length
      · subst e3; rw [ata]; simp only; omega
      · have e4 : i = ts.length + 1 := by omega
        subst e4; rw [atb]; simp only; omega
  · -- nodup
    rw [List.nodup_append]
    refine ⟨(List.nodup_cons.1 h.nd).2, by simp, ?_⟩
    intro a ha b hb
    have := (hR a ha).1
    simp at hb
    omega
  · intro j hj
    rw [hl]
    simp only [List.mem_append, List.mem_cons, List.not_mem_nil, or_false] at hj
    rcases hj with hj | rfl | rfl
    · have := (hR j hj).1; omega
    · omega
    · omega
  · intro j hj
    simp only [List.mem_append, List.mem_cons, List.not_mem_nil, or_false] at hj
    rcases hj with hj | rfl | rfl
    · rw [at0 j (hR j hj).1 (hR j hj).2]; exact h.w0 j (by simp [hj])
    · rw [ata]
    · rw [atb]
  · have := upOld 0 (by omega)
    rw [this]; exact h.root
  · intro j h0 hj
    rw [hl] at hj
    by_cases e1 : j < ts.length
    · rw [upOld j e1]; exact h.ups j h0 e1
    · by_cases e3 : j = ts.length
      · subst e3; rw [ata]; simp only; omega
      · have e4 : j = ts.length + 1 := by omega
        subst e4; rw [atb]; simp only; omega
  · intro j hj
    rw [hl] at hj
    by_cases e1 : j < ts.length
    · rw [kidsEq j e1]
      have hw := h.wts j e1
      by_cases e2 : j = k
      · subst e2
        have := h.w0 j (by simp)
        rw [atk, if_pos rfl]; simp only; omega
      · rw [at0 j e1 e2, if_neg e2]; omega
    · have hz : kids (R ++ [ts.length, ts.length + 1]) (partedL ts k) j = 0 := by
        rcases Nat.eq_zero_or_pos (kids (R ++ [ts.length, ts.length + 1]) (partedL ts k) j) with hz | hz
        · exact hz
        · obtain ⟨i, hi, hp⟩ := cP_pos _ _ hz
          rw [hl] at hi
          simp only [Bool.and_eq_true, decide_eq_true_eq] at hp
          obtain ⟨hp, _⟩ := hp
          exfalso
          by_cases e3 : i < ts.length
          · rw [upOld i e3] at hp
            have := h.task i e3
            omega
          · by_cases e4 : i = ts.length
            · subst e4; rw [ata] at hp; simp only at hp; omega
            · have e5 : i = ts.length + 1 := by omega
              subst e5; rw [atb] at hp; simp only at hp; omega
      rw [hz]
      by_cases e3 : j = ts.length
      · subst e3; rw [ata]; rfl
      · have e4 : j = ts.length + 1 := by omega
        subst e4; rw [atb]; rfl
  · have hs' := h.sum
    have hc := (cnt_more (sz ts k) g hg hs).1
    rw [List.map_append, List.sum_append, mapR (fun x => cntT x g), hl]
    simp only [List.map_cons, List.map_nil, List.sum_cons, List.sum_nil, List.length_append, List.length_cons, List.length_nil, sza, szb] at hs' ⊢
    omega
  · have hs' := h.uns
    rw [List.map_append, List.sum_append, show R.map (sz (partedL ts k)) = R.map (sz ts) from List.map_congr_left fun j hj => szR j hj]
    simp only [List.map_cons, List.map_nil, List.sum_cons, List.sum_nil, sza, szb] at hs' ⊢
    omega
  · intro u hu
    rw [h.cov u hu]
    constructor
    · rintro ⟨j, hj, r1, r2⟩
      simp only [List.mem_cons] at hj
      rcases hj with rfl | hj
      · by_cases hm : (u : Int) < (T ts j).lo + ((T ts j).hi - (T ts j).lo) / 2
        · exact ⟨ts.length, by simp, by rw [ata]; exact r1, by rw [ata]; exact hm⟩
        · exact ⟨ts.length + 1, by simp, by rw [atb]; simp only; omega, by rw [atb]; exact r2⟩
      · exact ⟨j, by simp [hj], by rw [at0 j (hR j hj).1 (hR j hj).2]; exact r1, by rw [at0 j (hR j hj).1 (hR j hj).2]; exact r2⟩
    · rintro ⟨j, hj, r1, r2⟩
      simp only [List.mem_append, List.mem_cons, List.not_mem_nil, or_false] at hj
      rcases hj with hj | rfl | rfl
      · rw [at0 j (hR j hj).1 (hR j hj).2] at r1 r2
        exact ⟨j, by simp [hj], r1, r2⟩
      · rw [ata] at r1 r2
        simp only at r1 r2
        exact ⟨k, by simp, by omega, by omega⟩
      · rw [atb] at r1 r2
        simp only at r1 r2
        exact ⟨k, by simp, by omega, by omega⟩
  · -- disjoint
    have key : ∀ j ∈ R, ∀ a : Nat, (a = ts.length ∨ a = ts.length + 1) → (T (partedL ts k) j).hi ≤ (T (partedL ts k) a).lo ∨ (T (partedL ts k) a).hi ≤ (T (partedL ts k) j).lo := by
      intro j hj a ha
      have hd := h.dis j (by simp [hj]) k (by simp) (hR j hj).2
      rw [at0 j (hR j hj).1 (hR j hj).2]
      rcases ha with rfl | rfl
      · rw [ata]; simp only; omega
      · rw [atb]; simp only; omega
    intro a ha b hb hne
    simp only [List.mem_append, List.mem_cons, List.not_mem_nil, or_false] at ha hb
    rcases ha with ha | ha
    · rcases hb with hb | hb
      · rw [at0 a (hR a ha).1 (hR a ha).2, at0 b (hR b hb).1 (hR b hb).2]
        exact h.dis a (by simp [ha]) b (by simp [hb]) hne
      · exact key a ha b hb
    · rcases hb with hb | hb
      · exact (key b hb a ha).symm
      · rcases ha with rfl | rfl <;> rcases hb with rfl | rfl
        · exact absurd rfl hne
        · rw [ata, atb]; simp only; omega
        · rw [ata, atb]; simp only; omega
        · exact absurd rfl hne

/-- while it is told upwards: 'up' waits for one more than there are -/
structure CI (n : Nat) (ts : List Tk) (O : List Nat) (up : Int) : Prop where
  ok : wOkTo ts n ts.length = true
  len : 1 ≤ ts.length
  lt : ∀ k ∈ O, k < ts.length
  w0 : ∀ k ∈ O, (T ts k).wt = 0
  root : (T ts 0).up = -1
  ups : ∀ k, 0 < k → k < ts.length → 0 ≤ (T ts k).up
  wts : ∀ j, j < ts.length → (T ts j).wt = (kids O ts j : Int) + if (j : Int) = up then 1 else 0
  lo : -1 ≤ up
  hi : up < ts.length
  fin : up = -1 → unf O ts 0 = false

/-- all else as it was -/
def SameBut (ts us : List Tk) : Prop := us.length = ts.length ∧ ∀ k, (T us k).lo = (T ts k).lo ∧ (T us k).hi = (T ts k).hi ∧ (T us k).up = (T ts k).up
theorem SameBut.refl (ts : List Tk) : SameBut ts ts := ⟨rfl, fun _ => ⟨rfl, rfl, rfl⟩⟩
theorem SameBut.trans {a b c : List Tk} (h : SameBut a b) (k : SameBut b c) : SameBut a c := ⟨k.1.trans h.1, fun i => ⟨(k.2 i).1.trans (h.2 i).1, (k.2 i).2.1.trans (h.2 i).2.1, (k.2 i).2.2.trans (h.2 i).2.2⟩⟩
theorem wless_same (ts : List Tk) (j : Nat) (hj : j < ts.length) : SameBut ts (wless ts j) := ⟨wless_len ts j, fun k => by
  unfold T
  rw [wless_at ts j k hj]
  by_cases e : k = j
  · subst e; rw [if_pos rfl]; exact ⟨rfl, rfl, rfl⟩
  · rw [if_neg e]; exact ⟨rfl, rfl, rfl⟩⟩

theorem climb_same : ∀ (f : Nat) (ts : List Tk) (up : Int), SameBut ts (climb f ts up).1
  | 0, ts, _ => SameBut.refl ts
  | f + 1, ts, up => by
    have hs : SameBut ts (wless ts up.toNat) := by
      by_cases hj : up.toNat < ts.length
      · exact wless_same ts _ hj
      · have e : wless ts up.toNat = ts := by unfold wless; exact List.set_eq_of_length_le (by omega)
        rw [e]; exact SameBut.refl ts
    unfold climb
    split
    · exact SameBut.refl ts
    · split
      · exact SameBut.refl ts
      · split
        · exact hs
        · exact hs.trans (climb_same f _ _)

theorem CI.task {n : Nat} {ts : List Tk} {O : List Nat} {up : Int} (h : CI n ts O up) (k : Nat) (hk : k < ts.length) :
    0 ≤ (T ts k).lo ∧ (T ts k).lo < (T ts k).hi ∧ (T ts k).hi ≤ n ∧ -1 ≤ (T ts k).up ∧ (T ts k).up < k ∧ 0 ≤ (T ts k).wt ∧ (T ts k).wt ≤ 2 := (tkOk_iff n k _).1 (wOkTo_at ts n ts.length h.ok k hk)

/-- what comes of it: all wait for as many as there are; it ends, just if nothing is unfinished -/
structure CE (n : Nat) (ts us : List Tk) (O : List Nat) (q : Bool) : Prop where
  same : SameBut ts us
  ok : wOkTo us n us.length = true
  w0 : ∀ k ∈ O, (T us k).wt = 0
  wts : ∀ j, j < us.length → (T us j).wt = (kids O us j : Int)
  yes : q = true → unf O us 0 = false
  no : q = false → ∃ j, j < us.length ∧ unf O us j = true

theorem climb_ends (n : Nat) : ∀ (f : Nat) (ts : List Tk) (O : List Nat) (up : Int), CI n ts O up → up < f → CE n ts (climb (f + 1) ts up).1 O (climb (f + 1) ts up).2
  | f, ts, O, up, h, hf => by
    by_cases hu : up = -1
    · subst hu
      have e : climb (f + 1) ts (-1) = (ts, true) := by simp [climb]
      rw [e]
      refine ⟨SameBut.refl _, h.ok, h.w0, fun j hj => ?_, fun _ => h.fin rfl, fun hq => by cases hq⟩
      show (T ts j).wt = (kids O ts j : Int)
      have hj2 : j < ts.length := hj
      rw [h.wts j hj2, if_neg (by omega)]; omega
    · obtain ⟨j, rfl⟩ : ∃ j : Nat, up = j := ⟨up.toNat, by have := h.lo; omega⟩
      have hj : j < ts.length := by have := h.hi; omega
      obtain ⟨t1, t2, t3, t4, t5, t6, t7⟩ := h.task j hj
      have hw := h.wts j hj
      rw [if_pos rfl] at hw
      have hjO : j ∉ O := fun hh => by have := h.w0 j hh; omega
      have e0 : tkAt ts (j : Int) = T ts j := by unfold tkAt; rw [Int.toNat_natCast]
      have hl := wless_len ts j
      have hs := wless_same ts j hj
      have atj : T (wless ts j) j = ⟨(T ts j).lo, (T ts j).hi, (T ts j).up, (T ts j).wt - 1⟩ := by unfold T; rw [wless_at ts j j hj, if_pos rfl]
      have atn : ∀ k, k ≠ j → T (wless ts j) k = T ts k := fun k hk => by unfold T; rw [wless_at ts j k hj, if_neg hk]
      have hok' : wOkTo (wless ts j) n (wless ts j).length = true := by rw [hl]; exact wless_ok ts n j _ hj h.ok hj (by show (T ts j).wt ≠ 0; omega)
      have hw0' : ∀ k ∈ O, (T (wless ts j) k).wt = 0 := fun k hk => by rw [atn k (fun e => hjO (e ▸ hk))]; exact h.w0 k hk
      have unfN : ∀ k, k ≠ j → unf O (wless ts j) k = unf O ts k := fun k hk => by rw [Bool.eq_iff_iff, unf_iff, unf_iff, atn k hk]
      have unfJ : unf O ts j = true := by rw [unf_iff]; right; omega
      rw [climb, if_neg hu, e0, if_neg (by omega), Int.toNat_natCast]
      by_cases hq : 0 < (T ts j).wt - 1
      · rw [if_pos hq]
        have unfJ' : unf O (wless ts j) j = true := by rw [unf_iff]; right; rw [atj]; simp only; omega
        have unfA : ∀ k, unf O (wless ts j) k = unf O ts k := fun k => by
          by_cases e : k = j
          · subst e; rw [unfJ, unfJ']
          · exact unfN k e
        have kidsA : ∀ i, kids O (wless ts j) i = kids O ts i := fun i => by
          unfold kids
          rw [hl]
          exact cP_congr _ _ _ fun k _ => by rw [unfA, (hs.2 k).2.2]
        refine ⟨hs, hok', hw0', fun i hi => ?_, (fun hh => by cases hh), fun _ => ⟨j, by rw [hl]; exact hj, unfJ'⟩⟩
        rw [hl] at hi
        rw [kidsA]
        have := h.wts i hi
        by_cases e : i = j
        · subst e; rw [atj]; simp only; omega
        · rw [atn i e]; rw [if_neg (by omega)] at this; omega
      · rw [if_neg hq]
        have unfJ' : unf O (wless ts j) j = false := by
          rw [Bool.eq_false_iff]; intro hh
          rw [unf_iff, atj] at hh
          simp only at hh
          rcases hh with hh | hh
          · exact hjO hh
          · omega
        have kidsA : ∀ i, i < ts.length → kids O ts i = kids O (wless ts j) i + if (i : Int) = (T ts j).up then 1 else 0 := fun i hi => by
          unfold kids
          rw [hl]
          by_cases e : (i : Int) = (T ts j).up
          · rw [if_pos e]
            refine cP_one _ _ j _ hj (fun k hk hne => by rw [unfN k hne, (hs.2 k).2.2]) ?_ ?_
            · rw [unfJ, ← e]; simp
            · rw [unfJ', Bool.and_false]
          · rw [if_neg e, Nat.add_zero]
            refine cP_congr _ _ _ fun k _ => ?_
            by_cases e2 : k = j
            · subst e2
              have e3 : decide ((T ts k).up = (i : Int)) = false := decide_eq_false (by omega)
              have e4 : decide ((T (wless ts k) k).up = (i : Int)) = false := by rw [(hs.2 k).2.2]; exact e3
              rw [e3, e4]; rfl
            · rw [unfN k e2, (hs.2 k).2.2]
        obtain ⟨f', rfl⟩ : ∃ x, f = x + 1 := ⟨f - 1, by omega⟩
        have hci : CI n (wless ts j) O (T ts j).up := by
          refine ⟨hok', by rw [hl]; exact h.len, fun k hk => by rw [hl]; exact h.lt k hk, hw0', by rw [(hs.2 0).2.2]; exact h.root, fun k h0 hk => by rw [(hs.2 k).2.2]; rw [hl] at hk; exact h.ups k h0 hk, fun i hi => ?_, t4, by rw [hl]; omega, fun e => ?_⟩
          · rw [hl] at hi
            have hk := kidsA i hi
            have hwi := h.wts i hi
            by_cases e : i = j
            · subst e
              rw [atj]
              simp only
              split at hk <;> rename_i hh
              · omega
              · rw [if_neg hh]; omega
            · rw [atn i e]
              rw [if_neg (by omega)] at hwi
              split at hk <;> rename_i hh
              · rw [if_pos hh]; omega
              · rw [if_neg hh]; omega
          · have hj0 : j = 0 := by
              rcases Nat.eq_zero_or_pos j with h0 | h0
              · exact h0
              · have := h.ups j h0 hj; omega
            subst hj0
            exact unfJ'
        have ih := climb_ends n f' (wless ts j) O (T ts j).up hci (by omega)
        exact ⟨hs.trans ih.same, ih.ok, ih.w0, ih.wts, ih.yes, ih.no⟩

/-- nothing is unfinished, where the first one is finished -/
theorem all_fin {n : Nat} {us : List Tk} {O : List Nat} (hok : wOkTo us n us.length = true) (hl : ∀ k ∈ O, k < us.length) (hups : ∀ k, 0 < k → k < us.length → 0 ≤ (T us k).up) (hw : ∀ j, j < us.length → (T us j).wt = (kids O us j : Int)) (h0 : unf O us 0 = false) :
    ∀ (m k : Nat), k < m → k < us.length → unf O us k = false
  | 0, k, h, _ => by omega
  | m + 1, k, h, hk => by
    by_cases hk0 : k = 0
    · subst hk0; exact h0
    · rw [Bool.eq_false_iff]
      intro hu
      have hup := hups k (by omega) hk
      obtain ⟨_, _, _, _, t5, _, _⟩ := (tkOk_iff n k _).1 (wOkTo_at us n us.length hok k hk)
      obtain ⟨j, hj⟩ : ∃ j : Nat, (T us k).up = j := ⟨(T us k).up.toNat, by omega⟩
      have hjk : j < k := by have : (T us k).up < k := t5; omega
      have ih := all_fin hok hl hups hw h0 m j (by omega) (by omega)
      have hp : 0 < kids O us j := cP_of _ k _ hk (by rw [hu, hj]; simp)
      have := hw j (by omega)
      rw [Bool.eq_false_iff] at ih
      exact ih ((unf_iff _ _ _).2 (.inr (by omega)))
/-- where something is unfinished, something is open -/
theorem some_open {n : Nat} {us : List Tk} {O : List Nat} (hok : wOkTo us n us.length = true) (hw : ∀ j, j < us.length → (T us j).wt = (kids O us j : Int)) :
    ∀ (m j : Nat), us.length - j ≤ m → j < us.length → unf O us j = true → O ≠ []
  | 0, j, h, hj, _ => by omega
  | m + 1, j, h, hj, hu => by
    rcases (unf_iff _ _ _).1 hu with hO | hwt
    · intro e; rw [e] at hO; cases hO
    · have := hw j hj
      obtain ⟨k, hk, hp⟩ := cP_pos _ _ (by show 0 < kids O us j; omega)
      simp only [Bool.and_eq_true, decide_eq_true_eq] at hp
      obtain ⟨_, _, _, _, t5, _, _⟩ := (tkOk_iff n k _).1 (wOkTo_at us n us.length hok k hk)
      have : (T us k).up < k := t5
      exact some_open hok hw m k (by omega) hk hp.2

/-- a task is done -/
theorem OI.did {g n : Nat} {ts : List Tk} {dn : List Bool} {R : List Nat} {units k : Nat} (h : OI g n ts dn (k :: R) units) (_hg : 1 ≤ g) (hs : ¬ g < sz ts k) :
    OI g n (climb (ts.length + 1) ts (T ts k).up).1 (marked dn (T ts k).lo.toNat (T ts k).hi.toNat) R (units + sz ts k) ∧ (climb (ts.length + 1) ts (T ts k).up).2 = decide (R = []) := by
  have hk : k < ts.length := h.lt k (by simp)
  have hkR : k ∉ R := (List.nodup_cons.1 h.nd).1
  have hkw := h.w0 k (by simp)
  obtain ⟨t1, t2, t3, t4, t5, t6, t7⟩ := h.task k hk
  have hsz := h.szpos k (by simp)
  have unfK : unf (k :: R) ts k = true := by rw [unf_iff]; left; simp
  have unfK' : unf R ts k = false := by
    rw [Bool.eq_false_iff]; intro hh
    rcases (unf_iff _ _ _).1 hh with hh | hh
    · exact hkR hh
    · exact hh hkw
  have unfN : ∀ j, j ≠ k → unf R ts j = unf (k :: R) ts j := fun j hj => by
    rw [Bool.eq_iff_iff, unf_iff, unf_iff]
    simp [hj]
  have hci : CI n ts R (T ts k).up := by
    refine ⟨h.ok, h.len, fun j hj => h.lt j (by simp [hj]), fun j hj => h.w0 j (by simp [hj]), h.root, h.ups, fun j hj => ?_, t4, by omega, fun e => ?_⟩
    · rw [h.wts j hj]
      unfold kids
      by_cases e : (j : Int) = (T ts k).up
      · rw [if_pos e, cP_one _ (fun i => decide ((T ts i).up = (j : Int)) && unf R ts i) k _ hk (fun i _ hne => by rw [unfN i hne]) (by rw [unfK, ← e]; simp) (by rw [unfK', Bool.and_false])]
        omega
      · rw [if_neg e, cP_congr _ (fun i => decide ((T ts i).up = (j : Int)) && unf R ts i) _ (fun i _ => ?_)]
        · omega
        · by_cases e2 : i = k
          · subst e2
            have e3 : decide ((T ts i).up = (j : Int)) = false := decide_eq_false (by omega)
            rw [e3]; rfl
          · rw [unfN i e2]
    · have hk0 : k = 0 := by
        rcases Nat.eq_zero_or_pos k with h0 | h0
        · exact h0
        · have := h.ups k h0 hk; omega
      subst hk0
      exact unfK'
  have hce := climb_ends n ts.length ts R (T ts k).up hci (by omega)
  obtain ⟨us, q, hq⟩ : ∃ us q, climb (ts.length + 1) ts (T ts k).up = (us, q) := ⟨_, _, rfl⟩
  rw [hq] at hce ⊢
  obtain ⟨⟨hl, hsame⟩, hok, hw0, hwts, hyes, hno⟩ : CE n ts us R q := hce
  have hltR : ∀ j ∈ R, j < us.length := fun j hj => by rw [hl]; exact h.lt j (by simp [hj])
  have hups : ∀ j, 0 < j → j < us.length → 0 ≤ (T us j).up := fun j h0 hj => by rw [(hsame j).2.2]; rw [hl] at hj; exact h.ups j h0 hj
  have szE : ∀ j, sz us j = sz ts j := fun j => by unfold sz; rw [(hsame j).1, (hsame j).2.1]
  have hlo : (T ts k).lo.toNat ≤ (T ts k).hi.toNat := by omega
  have hhi : (T ts k).hi.toNat ≤ dn.length := by rw [h.dl]; omega
  refine ⟨⟨hok, by rw [hl]; exact h.len, by rw [marked_len dn _ _ hlo hhi]; exact h.dl, (List.nodup_cons.1 h.nd).2, hltR, hw0, by rw [(hsame 0).2.2]; exact h.root, hups, hwts, ?_, ?_, ?_, ?_⟩, ?_⟩
  · have hs' := h.sum
    have hc := (cnt_one (sz ts k) g (by omega)).1
    rw [hl]
    rw [show (R.map fun j => cntT (sz us j) g) = R.map fun j => cntT (sz ts j) g from List.map_congr_left fun j _ => by rw [szE]]
    simp only [List.map_cons, List.sum_cons, List.length_cons] at hs'
    omega
  · have hs' := h.uns
    rw [show R.map (sz us) = R.map (sz ts) from List.map_congr_left fun j _ => szE j]
    simp only [List.map_cons, List.sum_cons] at hs'
    omega
  · intro u hu
    rw [marked_getD dn _ _ hlo hhi]
    by_cases hin : (T ts k).lo.toNat ≤ u ∧ u < (T ts k).hi.toNat
    · rw [if_pos hin]
      constructor
      · intro hh; cases hh
      · rintro ⟨j, hj, r1, r2⟩
        rw [(hsame j).1] at r1
        rw [(hsame j).2.1] at r2
        have := h.dis k (by simp) j (by simp [hj]) (fun e => hkR (e ▸ hj))
        omega
    · rw [if_neg hin, h.cov u hu]
      constructor
      · rintro ⟨j, hj, r1, r2⟩
        simp only [List.mem_cons] at hj
        rcases hj with rfl | hj
        · exfalso; omega
        · exact ⟨j, hj, by rw [(hsame j).1]; exact r1, by rw [(hsame j).2.1]; exact r2⟩
      · rintro ⟨j, hj, r1, r2⟩
        exact ⟨j, by simp [hj], by rw [(hsame j).1] at r1; exact r1, by rw [(hsame j).2.1] at r2; exact r2⟩
  · intro a ha b hb hne
    rw [(hsame a).1, (hsame a).2.1, (hsame b).1, (hsame b).2.1]
    exact h.dis a (by simp [ha]) b (by simp [hb]) hne
  · cases q with
    | true =>
      have hall := all_fin hok hltR hups hwts (hyes rfl)
      symm
      rw [decide_eq_true_eq]
      cases R with
      | nil => rfl
      | cons a R' =>
        have := hall (a + 1) a (by omega) (hltR a (by simp))
        rw [Bool.eq_false_iff] at this
        exact absurd ((unf_iff _ _ _).2 (.inl (by simp))) this
    | false =>
      obtain ⟨j, hj, hu⟩ := hno rfl
      have := some_open hok hwts us.length j (by omega) hj hu
      symm
      rw [decide_eq_false_iff_not]
      exact this

/-- the end -/
theorem OI.over {g n : Nat} {ts : List Tk} {dn : List Bool} {units : Nat} (h : OI g n ts dn [] units) : units = n ∧ ts.length = cntT n g ∧ (∀ u, u < n → dn.getD u false = true) ∧ ∀ k, k < ts.length → (T ts k).wt = 0 := by
  refine ⟨by simpa using h.uns, by simpa using h.sum, fun u hu => ?_, fun k hk => ?_⟩
  · cases hd : dn.getD u false with
    | true => rfl
    | false =>
      obtain ⟨k, hk, _⟩ := (h.cov u hu).1 hd
      cases hk
  · by_cases hw : (T ts k).wt = 0
    · exact hw
    · exact absurd rfl (some_open h.ok h.wts ts.length k (by omega) hk ((unf_iff _ _ _).2 (.inr hw)))
end Go.Proofs.YtkpbanfpnilifaaGreat.Plain

/- Plain words of a crew: what is popped, stolen, pushed; each task once; units counted. No program in it. -/
namespace Go.Proofs.YtkpbanfpnilifaaGreat.Plain

/-- all tasks that deques hold -/
abbrev held (D : List (List Nat)) : List Nat := D.flatten
theorem split_at {α : Type} (D : List α) (p : Nat) (hp : p < D.length) : D = D.take p ++ D[p] :: D.drop (p + 1) := by
  conv => lhs; rw [← List.take_append_drop p D, List.drop_eq_getElem_cons hp]
theorem set_at {α : Type} (D : List α) (p : Nat) (x : α) (hp : p < D.length) : D.set p x = D.take p ++ x :: D.drop (p + 1) := by
  rw [List.set_eq_take_append_cons_drop, if_pos hp]
theorem getDp {D : List (List Nat)} {p : Nat} (hp : p < D.length) : D.getD p [] = D[p] := by
  rw [List.getD_eq_getElem?_getD, List.getElem?_eq_getElem hp]; rfl
theorem held_at (D : List (List Nat)) (p : Nat) (hp : p < D.length) : (held D).Perm (D.getD p [] ++ ((D.take p).flatten ++ (D.drop (p + 1)).flatten)) := by
  rw [getDp hp]
  conv => lhs; rw [split_at D p hp]
  rw [held, List.flatten_append, List.flatten_cons]
  exact (List.perm_append_comm_assoc _ _ _)
theorem held_set (D : List (List Nat)) (p : Nat) (x : List Nat) (hp : p < D.length) : (held (D.set p x)).Perm (x ++ ((D.take p).flatten ++ (D.drop (p + 1)).flatten)) := by
  rw [set_at D p x hp, held, List.flatten_append, List.flatten_cons]
  exact (List.perm_append_comm_assoc _ _ _)
/-- the bottom is popped -/
theorem held_pop (D : List (List Nat)) (p : Nat) (xs : List Nat) (k : Nat) (hp : p < D.length) (h : D.getD p [] = xs ++ [k]) : (held D).Perm (k :: held (D.set p xs)) := by
  refine (held_at D p hp).trans ?_
  rw [h, List.append_assoc]
  refine List.perm_middle.trans ?_
  exact List.Perm.cons k (held_set D p xs hp).symm
/-- the top is stolen -/
theorem held_steal (D : List (List Nat)) (p : Nat) (xs : List Nat) (k : Nat) (hp : p < D.length) (h : D.getD p [] = k :: xs) : (held D).Perm (k :: held (D.set p xs)) := by
  refine (held_at D p hp).trans ?_
  rw [h, List.cons_append]
  exact List.Perm.cons k (held_set D p xs hp).symm
/-- the right half is pushed, then the left one -/
theorem held_push (D : List (List Nat)) (p a b : Nat) (hp : p < D.length) : (held (D.set p (D.getD p [] ++ [b, a]))).Perm (held D ++ [a, b]) := by
  refine (held_set D p _ hp).trans ?_
  rw [List.append_assoc]
  have h1 : (D.getD p [] ++ ([b, a] ++ ((D.take p).flatten ++ (D.drop (p + 1)).flatten))).Perm ([b, a] ++ (D.getD p [] ++ ((D.take p).flatten ++ (D.drop (p + 1)).flatten))) := List.perm_append_comm_assoc _ _ _
  refine h1.trans ?_
  have h2 := (held_at D p hp).symm
  refine (List.Perm.append_left [b, a] h2).trans ?_
  refine (List.Perm.swap a b (held D)).trans ?_
  exact List.perm_append_comm (l₁ := [a, b]) (l₂ := held D)

/-- how many units are done -/
def doneN (dn : List Bool) : Nat := dn.countP id
theorem doneN_marked (dn : List Bool) (a b : Nat) (h : a ≤ b) (hb : b ≤ dn.length) (hf : ∀ u, a ≤ u → u < b → dn.getD u false = false) : doneN (marked dn a b) = doneN dn + (b - a) := by
  have e : dn = dn.take a ++ ((dn.drop a).take (b - a) ++ dn.drop b) := by
    have h1 : (dn.drop a).take (b - a) ++ dn.drop b = dn.drop a := by
      have h2 := List.take_append_drop (b - a) (dn.drop a)
      rw [List.drop_drop, show a + (b - a) = b by omega] at h2
      exact h2
    rw [h1, List.take_append_drop]
  have hz : ((dn.drop a).take (b - a)).countP id = 0 := by
    rw [List.countP_eq_zero]
    intro x hx
    obtain ⟨i, hi, rfl⟩ := List.getElem_of_mem hx
    simp only [List.length_take, List.length_drop] at hi
    have h3 := hf (a + i) (by omega) (by omega)
    rw [List.getD_eq_getElem?_getD, List.getElem?_eq_getElem (by omega)] at h3
    simp only [List.getElem_take, List.getElem_drop]
    simpa using h3
  have e2 : doneN dn = (dn.take a).countP id + (((dn.drop a).take (b - a)).countP id + (dn.drop b).countP id) := by
    unfold doneN
    conv => lhs; rw [e]
    rw [List.countP_append, List.countP_append]
  rw [e2, hz]
  unfold doneN marked
  rw [List.countP_append, List.countP_append]
  have e3 : (List.replicate (b - a) true).countP id = b - a := by
    rw [List.countP_replicate]; simp
  rw [e3]
  omega

/-- what stands of a crew: its work, its deques, whether it is over, how many units are done, which tasks are gone -/
structure CrI (g n m : Nat) (ts : List Tk) (dn : List Bool) (D : List (List Nat)) (over : Bool) (done : Nat) (G : List Nat) : Prop where
  inv : OI g n ts dn (held D) done
  wk : D.length = m
  ov : over = decide (held D = [])
  all : doneN dn = done
  gone : (G ++ held D).Perm (List.range ts.length)

theorem CrI.begin (g n m : Nat) (h1 : 1 ≤ n) (hm : 1 ≤ m) : CrI g n m [⟨0, n, -1, 0⟩] (List.replicate n false) ([0] :: List.replicate (m - 1) []) false 0 [] := by
  have e : held ([0] :: List.replicate (m - 1) []) = [0] := by
    unfold held
    rw [List.flatten_cons]
    have : (List.replicate (m - 1) ([] : List Nat)).flatten = [] := by
      induction m - 1 with
      | zero => rfl
      | succ k ih => rw [List.replicate_succ, List.flatten_cons, ih]; rfl
    rw [this]; rfl
  refine ⟨by rw [e]; exact OI.begin g n h1, by simp; omega, by rw [e]; rfl, ?_, by rw [e]; simp [List.range_succ]⟩
  unfold doneN
  rw [List.countP_replicate]; simp

/-- a task that is taken (popped, or stolen) and parted, its halves pushed -/
theorem CrI.part {g n m : Nat} {ts : List Tk} {dn : List Bool} {D E : List (List Nat)} {over : Bool} {done : Nat} {G : List Nat} {k p : Nat} (h : CrI g n m ts dn D over done G) (hE : (held D).Perm (k :: held E)) (hl : E.length = D.length) (hp : p < m) (hg : 1 ≤ g) (hs : g < sz ts k) :
    CrI g n m (partedL ts k) dn (E.set p (E.getD p [] ++ [ts.length + 1, ts.length])) false done (G ++ [k]) := by
  have hpl : p < E.length := by rw [hl, h.wk]; exact hp
  have hpush := held_push E p ts.length (ts.length + 1) hpl
  have hO := (h.inv.perm hE).parted hg hs
  refine ⟨hO.perm hpush.symm, by rw [List.length_set, hl]; exact h.wk, ?_, h.all, ?_⟩
  · symm
    rw [decide_eq_false_iff_not]
    intro e
    have := hpush.length_eq
    rw [e] at this
    simp at this
  · rw [partedL_len]
    have h1 : ((G ++ [k]) ++ held (E.set p (E.getD p [] ++ [ts.length + 1, ts.length]))).Perm ((G ++ [k]) ++ (held E ++ [ts.length, ts.length + 1])) := List.Perm.append_left _ hpush
    refine h1.trans ?_
    have h2 : (G ++ (k :: held E)).Perm (List.range ts.length) := (List.Perm.append_left G hE.symm).trans h.gone
    have e : (G ++ [k]) ++ (held E ++ [ts.length, ts.length + 1]) = (G ++ (k :: held E)) ++ [ts.length, ts.length + 1] := by simp
    rw [e, show ts.length + 2 = (ts.length + 1) + 1 by omega, List.range_succ, List.range_succ,
      show List.range ts.length ++ [ts.length] ++ [ts.length + 1] = List.range ts.length ++ [ts.length, ts.length + 1] by simp]
    exact List.Perm.append_right _ h2
/-- .. and done -/
theorem CrI.did {g n m : Nat} {ts : List Tk} {dn : List Bool} {D E : List (List Nat)} {over : Bool} {done : Nat} {G : List Nat} {k : Nat} (h : CrI g n m ts dn D over done G) (hE : (held D).Perm (k :: held E)) (hl : E.length = D.length) (hg : 1 ≤ g) (hs : ¬ g < sz ts k) :
    CrI g n m (climb (ts.length + 1) ts (T ts k).up).1 (marked dn (T ts k).lo.toNat (T ts k).hi.toNat) E (climb (ts.length + 1) ts (T ts k).up).2 (done + sz ts k) (G ++ [k]) := by
  have hI := h.inv.perm hE
  obtain ⟨h1, h2⟩ := hI.did hg hs
  have ht := hI.task k (hI.lt k (by simp))
  have hz := hI.szpos k (by simp)
  refine ⟨h1, by rw [hl]; exact h.wk, h2, ?_, ?_⟩
  · rw [doneN_marked dn _ _ (by omega) (by rw [hI.dl]; omega) (fun u hu1 hu2 => (hI.cov u (by omega)).2 ⟨k, by simp, by omega, by omega⟩), h.all]
    unfold sz; omega
  · rw [climb_len]
    have e : (G ++ [k]) ++ held E = G ++ (k :: held E) := by simp
    rw [e]
    exact (List.Perm.append_left G hE.symm).trans h.gone
/-- a task is open at most once, and gone at most once; what is gone isn't open -/
theorem CrI.fresh {g n m : Nat} {ts : List Tk} {dn : List Bool} {D : List (List Nat)} {over : Bool} {done : Nat} {G : List Nat} (h : CrI g n m ts dn D over done G) : G.Nodup ∧ (∀ k ∈ G, k < ts.length) ∧ (∀ k ∈ held D, k ∉ G) ∧ G.length + (held D).length = ts.length := by
  have hn : (G ++ held D).Nodup := h.gone.nodup_iff.2 List.nodup_range
  rw [List.nodup_append] at hn
  refine ⟨hn.1, fun k hk => List.mem_range.1 (h.gone.mem_iff.1 (List.mem_append_left _ hk)), fun k hk hG => hn.2.2 k hG k hk rfl, ?_⟩
  have := h.gone.length_eq
  simpa using this
/-- it is over, just if all units are done; else something is open -/
theorem CrI.over_iff {g n m : Nat} {ts : List Tk} {dn : List Bool} {D : List (List Nat)} {over : Bool} {done : Nat} {G : List Nat} (h : CrI g n m ts dn D over done G) : (over = true ↔ done = n) ∧ (over = false → 0 < (held D).length) := by
  have hu := h.inv.uns
  have hov := h.ov
  refine ⟨⟨fun ho => ?_, fun hd => ?_⟩, fun ho => ?_⟩
  · rw [hov, decide_eq_true_eq] at ho
    rw [ho] at hu
    simpa using hu
  · rw [hov, decide_eq_true_eq]
    cases hh : held D with
    | nil => rfl
    | cons k R =>
      rw [hh] at hu
      have := (h.inv.szpos k (by rw [hh]; simp)).1
      simp only [List.map_cons, List.sum_cons] at hu
      omega
  · rw [hov, decide_eq_false_iff_not] at ho
    exact List.length_pos_iff.2 ho

end Go.Proofs.YtkpbanfpnilifaaGreat.Plain

/- Plain words of a crew's step, as a function: what is taken, what a step leaves, a run of steps. No program in it. -/
namespace Go.Proofs.YtkpbanfpnilifaaGreat.Plain

/-- a crew's data -/
structure Cw where
  ts : List Tk
  dn : List Bool
  D : List (List Nat)
  over : Bool
  st : Nat
  id : Nat
deriving DecidableEq
/-- an event -/
structure Ev where
  wk : Int
  fr : Int
  tk : Int
  pt : Bool
deriving DecidableEq
def ev0 : Ev := ⟨0, 0, 0, false⟩
/-- a worker's number, cut -/
def cutN (m : Nat) (p : Int) : Nat := (p % (m : Int)).toNat
theorem cutN_lt (m : Nat) (p : Int) (hm : 1 ≤ m) : cutN m p < m := by
  unfold cutN
  have := Int.emod_nonneg p (by omega : (m : Int) ≠ 0)
  have := Int.emod_lt_of_pos p (by omega : (0 : Int) < m)
  omega
theorem cutN_eq (m : Nat) (p : Int) (hm : 1 ≤ m) : p % (m : Int) = (cutN m p : Int) := by
  unfold cutN
  have := Int.emod_nonneg p (by omega : (m : Int) ≠ 0)
  omega
theorem tmod_cut (m : Nat) (p : Int) (hm : 1 ≤ m) : (0 ≤ p.tmod m → p.tmod m = (cutN m p : Int)) ∧ (p.tmod m < 0 → p.tmod m + m = (cutN m p : Int)) := by
  rw [← cutN_eq m p hm]
  have hm' : (0 : Int) < m := by omega
  have h1 := Int.tmod_lt_of_pos p hm'
  have h3 := Int.emod_nonneg p (by omega : (m : Int) ≠ 0)
  have h4 := Int.emod_lt_of_pos p hm'
  have h5 := Int.emod_add_mul_ediv p m
  have h6 := Int.tmod_add_mul_tdiv p m
  have h2 : -(m : Int) < p.tmod m := by
    have := Int.neg_lt_of_neg_lt (Int.tmod_lt_of_pos (-p) hm' |> (by rw [Int.neg_tmod]; exact fun h => by omega : (-p).tmod m < m → -(m:Int) < p.tmod m))
    omega
  have hd : ∀ x y : Int, (m : Int) * x = m * y → x = y := fun x y h => Int.eq_of_mul_eq_mul_left (by omega) h
  constructor
  · intro h0
    have : p.tmod m = p % m := by
      have e : (m : Int) * (p / m - p.tdiv m) = p.tmod m - p % m := by rw [Int.mul_sub]; omega
      have hq : p / m - p.tdiv m = 0 := by
        rcases Int.lt_trichotomy (p / m - p.tdiv m) 0 with hh | hh | hh
        · have : (m : Int) * (p / m - p.tdiv m) ≤ m * (-1) := Int.mul_le_mul_of_nonneg_left (by omega) (by omega)
          omega
        · exact hh
        · have : (m : Int) * 1 ≤ m * (p / m - p.tdiv m) := Int.mul_le_mul_of_nonneg_left (by omega) (by omega)
          omega
      rw [hq] at e
      omega
    exact this
  · intro h0
    have e : (m : Int) * (p / m - p.tdiv m) = p.tmod m - p % m := by rw [Int.mul_sub]; omega
    have hq : p / m - p.tdiv m = -1 := by
      rcases Int.lt_trichotomy (p / m - p.tdiv m) (-1) with hh | hh | hh
      · have : (m : Int) * (p / m - p.tdiv m) ≤ m * (-2) := Int.mul_le_mul_of_nonneg_left (by omega) (by omega)
        omega
      · exact hh
      · have : (m : Int) * 0 ≤ m * (p / m - p.tdiv m) := Int.mul_le_mul_of_nonneg_left (by omega) (by omega)
        omega
    rw [hq] at e
    omega
/-- from whose deque P has a task, if Q is the victim -/
def srcN (D : List (List Nat)) (P Q : Nat) : Option Nat := if D.getD P [] ≠ [] then some P else if D.getD Q [] ≠ [] then some Q else none
/-- the task that is taken from F's deque by P, and what is left of that deque -/
def takeN (D : List (List Nat)) (P F : Nat) : Nat × List Nat := if F = P then ((D.getD F []).getLastD 0, (D.getD F []).dropLast) else ((D.getD F []).headD 0, (D.getD F []).tail)
/-- P goes at a task from F's deque -/
def goP (g : Nat) (c : Cw) (P F : Nat) : Cw × Ev :=
  let k := (takeN c.D P F).1
  let E := c.D.set F (takeN c.D P F).2
  if g < sz c.ts k then
    (⟨partedL c.ts k, c.dn, E.set P (E.getD P [] ++ [c.ts.length + 1, c.ts.length]), c.over, c.st + 1, c.id⟩, ⟨P, F, k, true⟩)
  else
    (⟨(climb (c.ts.length + 1) c.ts (T c.ts k).up).1, marked c.dn (T c.ts k).lo.toNat (T c.ts k).hi.toNat, E, c.over || (climb (c.ts.length + 1) c.ts (T c.ts k).up).2, c.st + 1, c.id⟩, ⟨P, F, k, false⟩)
/-- a step -/
def stepP (g m : Nat) (c : Cw) (p q : Int) : Cw × Ev :=
  match srcN c.D (cutN m p) (cutN m q) with
  | none => (⟨c.ts, c.dn, c.D, c.over, c.st + 1, c.id + 1⟩, ⟨cutN m p, -1, -1, false⟩)
  | some F => goP g c (cutN m p) F
/-- step by step -/
def runP (g m : Nat) : Cw → List (Int × Int) → Cw × List Ev
  | c, [] => (c, [])
  | c, x :: l => ((runP g m (stepP g m c x.1 x.2).1 l).1, (stepP g m c x.1 x.2).2 :: (runP g m (stepP g m c x.1 x.2).1 l).2)
/-- a crew at its beginning -/
def beginC (n m : Nat) : Cw := ⟨[⟨0, n, -1, 0⟩], List.replicate n false, [0] :: List.replicate (m - 1) [], false, 0, 0⟩

/-- what stands of a crew -/
def CwI (g n m : Nat) (c : Cw) (done : Nat) (G : List Nat) : Prop := CrI g n m c.ts c.dn c.D c.over done G
theorem CwI.begin (g n m : Nat) (h1 : 1 ≤ n) (hm : 1 ≤ m) : CwI g n m (beginC n m) 0 [] := CrI.begin g n m h1 hm
theorem getLastD_snoc (xs : List Nat) (h : xs ≠ []) : xs = xs.dropLast ++ [xs.getLastD 0] := by
  rw [List.getLastD_eq_getLast?, List.getLast?_eq_some_getLast h]
  exact (List.dropLast_concat_getLast h).symm
theorem head_tail (xs : List Nat) (h : xs ≠ []) : xs = xs.headD 0 :: xs.tail := by
  cases xs with
  | nil => exact absurd rfl h
  | cons a l => rfl
theorem srcN_some {D : List (List Nat)} {P Q F : Nat} (h : srcN D P Q = some F) : D.getD F [] ≠ [] ∧ (F = P ∨ (F = Q ∧ F ≠ P ∧ D.getD P [] = [])) := by
  unfold srcN at h
  by_cases h1 : D.getD P [] ≠ []
  · rw [if_pos h1] at h; cases h; exact ⟨h1, .inl rfl⟩
  · rw [if_neg h1] at h
    by_cases h2 : D.getD Q [] ≠ []
    · rw [if_pos h2] at h; cases h
      exact ⟨h2, .inr ⟨rfl, fun e => h1 (e ▸ h2), by simpa using h1⟩⟩
    · rw [if_neg h2] at h; cases h
theorem srcN_none {D : List (List Nat)} {P Q : Nat} (h : srcN D P Q = none) : D.getD P [] = [] ∧ D.getD Q [] = [] := by
  unfold srcN at h
  by_cases h1 : D.getD P [] ≠ []
  · rw [if_pos h1] at h; cases h
  · rw [if_neg h1] at h
    by_cases h2 : D.getD Q [] ≠ []
    · rw [if_pos h2] at h; cases h
    · exact ⟨by simpa using h1, by simpa using h2⟩
theorem take_held {D : List (List Nat)} {P F : Nat} (hF : F < D.length) (h : D.getD F [] ≠ []) : (held D).Perm ((takeN D P F).1 :: held (D.set F (takeN D P F).2)) := by
  unfold takeN
  by_cases e : F = P
  · rw [if_pos e]
    exact held_pop D F _ _ hF (getLastD_snoc _ h)
  · rw [if_neg e]
    exact held_steal D F _ _ hF (head_tail _ h)
/-- of what stands, a step leaves: idle; parted; done -/
theorem CwI.step {g n m : Nat} {c : Cw} {done : Nat} {G : List Nat} (h : CwI g n m c done G) (hg : 1 ≤ g) (hm : 1 ≤ m) (p q : Int) :
    ((stepP g m c p q) = (⟨c.ts, c.dn, c.D, c.over, c.st + 1, c.id + 1⟩, ⟨cutN m p, -1, -1, false⟩) ∧ c.D.getD (cutN m p) [] = [] ∧ CwI g n m (stepP g m c p q).1 done G) ∨
    (∃ k F : Nat, F < m ∧ (F = cutN m p ∨ c.D.getD (cutN m p) [] = []) ∧ k = (takeN c.D (cutN m p) F).1 ∧ (stepP g m c p q).2 = ⟨cutN m p, F, k, true⟩ ∧ (stepP g m c p q).1.ts = partedL c.ts k ∧ (stepP g m c p q).1.id = c.id ∧ k ∈ held c.D ∧ k < c.ts.length ∧ CwI g n m (stepP g m c p q).1 done (G ++ [k])) ∨
    (∃ k F : Nat, F < m ∧ (F = cutN m p ∨ c.D.getD (cutN m p) [] = []) ∧ k = (takeN c.D (cutN m p) F).1 ∧ (stepP g m c p q).2 = ⟨cutN m p, F, k, false⟩ ∧ SameBut c.ts (stepP g m c p q).1.ts ∧ (stepP g m c p q).1.id = c.id ∧ k ∈ held c.D ∧ k < c.ts.length ∧ ((T c.ts k).hi - (T c.ts k).lo = sz c.ts k) ∧ CwI g n m (stepP g m c p q).1 (done + sz c.ts k) (G ++ [k])) := by
  have hwk : c.D.length = m := CrI.wk h
  unfold stepP
  cases hs : srcN c.D (cutN m p) (cutN m q) with
  | none => exact .inl ⟨rfl, (srcN_none hs).1, h⟩
  | some F =>
    obtain ⟨hne, hor⟩ := srcN_some hs
    have hF : F < m := by
      rcases hor with rfl | ⟨rfl, _⟩ <;> exact cutN_lt m _ hm
    have hP := cutN_lt m p hm
    have hor' : F = cutN m p ∨ c.D.getD (cutN m p) [] = [] := by rcases hor with h1 | ⟨_, _, h1⟩; exact .inl h1; exact .inr h1
    have hE := take_held (P := cutN m p) (by omega : F < c.D.length) hne
    have hmem : (takeN c.D (cutN m p) F).1 ∈ held c.D := hE.mem_iff.2 (by simp)
    have hov : c.over = false := by
      have := CrI.ov h
      rw [this, decide_eq_false_iff_not]
      intro e; rw [e] at hmem; cases hmem
    have hlt := (CrI.inv h).lt _ hmem
    by_cases hz : g < sz c.ts (takeN c.D (cutN m p) F).1
    · refine .inr (.inl ⟨_, F, hF, hor', rfl, ?_⟩)
      simp only [goP, if_pos hz]
      refine ⟨trivial, trivial, trivial, hmem, hlt, ?_⟩
      have := CrI.part h hE (by simp) hP hg hz
      unfold CwI
      rw [hov]; exact this
    · refine .inr (.inr ⟨_, F, hF, hor', rfl, ?_⟩)
      simp only [goP, if_neg hz]
      refine ⟨trivial, climb_same _ _ _, trivial, hmem, hlt, ((CrI.inv h).szpos _ hmem).2.2, ?_⟩
      have := CrI.did h hE (by simp) hg hz
      unfold CwI
      rw [hov, Bool.false_or]; exact this
theorem CwI.stepD {g n m : Nat} {c : Cw} {done : Nat} {G : List Nat} (h : CwI g n m c done G) (hg : 1 ≤ g) (hm : 1 ≤ m) (p q : Int) : ∃ done' G', CwI g n m (stepP g m c p q).1 done' G' := by
  rcases h.step hg hm p q with ⟨_, _, h⟩ | ⟨_, _, _, _, _, _, _, _, _, _, h⟩ | ⟨_, _, _, _, _, _, _, _, _, _, _, h⟩ <;> exact ⟨_, _, h⟩
theorem stepP_st (g m : Nat) (c : Cw) (p q : Int) : (stepP g m c p q).1.st = c.st + 1 ∧ c.id ≤ (stepP g m c p q).1.id ∧ (stepP g m c p q).1.id ≤ c.id + 1 := by
  unfold stepP goP
  split
  · exact ⟨rfl, Nat.le_succ _, Nat.le_refl _⟩
  · simp only; split <;> exact ⟨rfl, Nat.le_refl _, Nat.le_succ _⟩
end Go.Proofs.YtkpbanfpnilifaaGreat.Plain

/- The document's Right and Great of work. -/
namespace Go.Proofs.YtkpbanfpnilifaaGreat
open Go.RowKit Go.Proofs.YtkpbanfpnilifaaGreat.Plain

set_option maxHeartbeats 800000 in
set_option maxRecDepth 100000 in
theorem rright_any (A B : Option Addr) (c d n : Nat) (ts : List Tk) (g : Int) (w : World) (h : Rd kTask w (.slice A ts.length c) ts) (hn : n ≤ 9223372036854775807) (hg : -9223372036854775808 ≤ g ∧ g ≤ 9223372036854775807) :
    Calls Tryz.prog 82 #[.agg #[.slice A ts.length c, .int .i64 g, .slice B n d]] w fun e w' => e = .returned (.bool (wRight ts g n)) ∧ Ext w w' := by
  have H := Lib.hid h
  have hm := h.len
  clear h
  cases hs : wSized g n ts.length with
  | false =>
    have HR : Hid (wRight ts g n = false) := Lib.hid (by unfold wRight; rw [hs]; rfl)
    have hs' : ¬ (1 ≤ g ∧ g ≤ 100 ∧ 1 ≤ n ∧ n ≤ 1000 ∧ 1 ≤ ts.length ∧ ts.length ≤ 2000) := fun hh => by rw [(wSized_iff _ _ _).2 hh] at hs; cases hs
    have hs2 : g < 1 ∨ 100 < g ∨ (n : Int) < 1 ∨ 1000 < (n : Int) ∨ (ts.length : Int) < 1 ∨ 2000 < (ts.length : Int) := by omega
    clear hs hs'
    go_enter Tryz.func82, Tryz.ntmps82
    go_wp2
    all_goals first
      | (exfalso; omega)
      | (go_ret; exact ⟨ret_bool HR.out.symm, (Ext.refl w).alloc _⟩)
  | true =>
    have HR : Hid (wRight ts g n = wOkTo ts n ts.length) := Lib.hid (by unfold wRight; rw [hs]; rfl)
    obtain ⟨a1, a2, a3, a4, a5, a6⟩ := (wSized_iff _ _ _).1 hs
    have b3 : (1 : Int) ≤ n := by omega
    have b4 : (n : Int) ≤ 1000 := by omega
    have b5 : (1 : Int) ≤ ts.length := by omega
    have b6 : (ts.length : Int) ≤ 2000 := by omega
    clear hs
    obtain ⟨b, off, rfl, hcc⟩ := Rd.tasks H.out (by omega)
    have HC := Lib.hid hcc
    clear hcc
    go_enter Tryz.func82, Tryz.ntmps82
    go_wp2
    go_loopw [4] (fun i wr => ∃ k : Nat, k ≤ ts.length ∧ i = .int .i64 k ∧ wOkTo ts n k = true ∧ Ext (w.alloc (.cells #[.slice (some ⟨b, off, none⟩) ts.length c, .int .i64 g, .slice B n d] 78)) wr) (fun i _ => ts.length - (intOf i).toNat)
    case atStart => exact ⟨0, Nat.zero_le _, rfl, wOkTo_zero _ _, Ext.refl _⟩
    case round =>
      obtain ⟨k, hk, rfl, hok, hE⟩ := hrel
      have HOK := Lib.hid hok
      have x0 : wr.cell? ⟨w.heap.size, 0, none⟩ = some (.slice (some ⟨b, off, none⟩) ts.length c) := hE.cell (by go_simp)
      have x1 : wr.cell? ⟨w.heap.size, 1, none⟩ = some (.int .i64 g) := hE.cell (by go_simp)
      have hsz := hE.size
      simp at hsz
      have l0 : w.heap.size < wr.heap.size := by omega
      have l1 : w.heap.size < wr.heap.size + 1 := by omega
      clear hok
      by_cases hlt : k < ts.length
      · have hlt' : (k : Int) < ts.length := by omega
        obtain ⟨y0, y1, y2, y3⟩ := HC.out k hlt
        have hbd := H.out.okAt k hlt
        obtain ⟨⟨lo, hi, up, wt⟩, ht⟩ : ∃ t, ts.getD k tk0 = t := ⟨_, rfl⟩
        have ht' : ts.getD k ⟨0, 0, 0, 0⟩ = ⟨lo, hi, up, wt⟩ := ht
        rw [ht'] at y0 y1 y2 y3
        have hbd' : in64 lo ∧ in64 hi ∧ in64 up ∧ in64 wt := by
          have e : ts.getD k kTask.d = ⟨lo, hi, up, wt⟩ := ht
          rw [e] at hbd; exact hbd
        obtain ⟨⟨h1, h2⟩, ⟨h3, h4⟩, ⟨h5, h6⟩, h7, h8⟩ := hbd'
        have z0 := hE.cell (Lib.cell?_alloc_some _ y0)
        have z1 := hE.cell (Lib.cell?_alloc_some _ y1)
        have z2 := hE.cell (Lib.cell?_alloc_some _ y2)
        have z3 := hE.cell (Lib.cell?_alloc_some _ y3)
        simp only at z0 z1 z2 z3
        have HE := Lib.hid hE
        clear y0 y1 y2 y3 hbd ht' hE
        cases hto : tkOk n k ⟨lo, hi, up, wt⟩ with
        | false =>
          have H0 := Lib.hid (wOkTo_no ts n ts.length k hlt (by rw [ht]; exact hto))
          have hno : ¬ (0 ≤ lo ∧ lo < hi ∧ hi ≤ (n : Int) ∧ -1 ≤ up ∧ up < (k : Int) ∧ 0 ≤ wt ∧ wt ≤ 2) := fun hh => by rw [(tkOk_iff _ _ _).2 hh] at hto; cases hto
          have hno' : lo < 0 ∨ hi ≤ lo ∨ (n : Int) < hi ∨ up < -1 ∨ (k : Int) ≤ up ∨ wt < 0 ∨ 2 < wt := by omega
          clear hno hto ht
          go_wp2
          all_goals first
            | (exfalso; omega)
            | (go_ret; exact ⟨ret_bool (by rw [HR.out, H0.out]), (((Ext.refl w).alloc _).trans HE.out).alloc _⟩)
        | true =>
          have H0 : Hid (wOkTo ts n (k + 1) = true) := Lib.hid (by rw [wOkTo_succ, HOK.out, ht, hto]; rfl)
          obtain ⟨c1, c2, c3, c4, c5, c6, c7⟩ := (tkOk_iff _ _ _).1 hto
          simp only at c1 c2 c3 c4 c5 c6 c7
          clear hto ht
          go_wp2
          go_roundw
          case rel => exact ⟨k + 1, by omega, by go_num, H0.out, HE.out.alloc _⟩
          case measure => simp [intOf]; omega
      · have hk' : k = ts.length := by omega
        have HOK2 : Hid (wOkTo ts n ts.length = true) := Lib.hid (hk' ▸ HOK.out)
        have hlt' : ¬ (k : Int) < ts.length := by omega
        clear hk'
        go_wp2
        go_ret
        exact ⟨ret_bool (by rw [HR.out, HOK2.out]), ((Ext.refl w).alloc _).trans hE⟩
end Go.Proofs.YtkpbanfpnilifaaGreat

/- The program's small words of work: sized, half, great, fits; clones of tasks, of units. -/
namespace Go.Proofs.YtkpbanfpnilifaaGreat
open Go.RowKit Go.Proofs.YtkpbanfpnilifaaGreat.Plain

theorem sized_any (n g : Int) (w : World) (hn : in64 n) (hg : in64 g) :
    Calls Tryz.prog 79 #[.int .i64 n, .int .i64 g] w fun e w' => e = .returned (.bool (cOk n g)) ∧ w = w' := by
  unfold in64 at hn hg
  unfold cOk
  go_enter Tryz.func79, Tryz.ntmps79
  go_wp2
  all_goals go_ret
  all_goals exact ⟨ret_bool (by simp; try omega), rfl⟩

theorem half_any (n : Int) (w : World) (hn : in64 n) (h0 : 0 ≤ n) :
    Calls Tryz.prog 113 #[.int .i64 n] w fun e w' => e = .returned (.int .i64 (n / 2)) ∧ w = w' := by
  unfold in64 at hn
  obtain ⟨m, rfl⟩ : ∃ m : Nat, n = m := ⟨n.toNat, by omega⟩
  go_enter Tryz.func113, Tryz.ntmps113
  go_wp2
  go_ret
  exact ⟨rfl, rfl⟩

theorem great_any (lo hi up wt g : Int) (w : World) (hd : in64 (hi - lo)) (hg : in64 g) :
    Calls Tryz.prog 112 #[.agg #[.int .i64 lo, .int .i64 hi, .int .i64 up, .int .i64 wt], .int .i64 g] w fun e w' => e = .returned (.bool (decide (g < hi - lo))) ∧ Ext w w' := by
  unfold in64 at hd hg
  obtain ⟨d1, d2⟩ := hd
  obtain ⟨g1, g2⟩ := hg
  go_enter Tryz.func112, Tryz.ntmps112
  go_wp2
  go_ret
  exact ⟨ret_bool (by first | rfl | (simp; done) | (simp; omega)), (Ext.refl w).alloc _⟩

set_option maxHeartbeats 400000 in
theorem fits_any (lo hi up wt : Int) (i n : Nat) (w : World) (h1 : in64 lo) (_h2 : in64 hi) (h3 : in64 up) (h4 : in64 wt) (_hi : i ≤ 9223372036854775807) (_hn : n ≤ 9223372036854775807) :
    Calls Tryz.prog 104 #[.agg #[.int .i64 lo, .int .i64 hi, .int .i64 up, .int .i64 wt], .int .i64 i, .int .i64 n] w fun e w' => e = .returned (.bool (tkOk n i ⟨lo, hi, up, wt⟩)) ∧ Ext w w' := by
  unfold in64 at h1 _h2 h3 h4
  unfold tkOk
  go_enter Tryz.func104, Tryz.ntmps104
  go_wp2
  all_goals go_ret
  all_goals exact ⟨ret_bool (by simp; try omega), (Ext.refl w).alloc _⟩

set_option maxHeartbeats 400000 in
theorem clone_t (v : Value) (xs : List Tk) (w : World) (h : Rd kTask w v xs) (hl : xs.length ≤ 1048576) :
    Calls Tryz.prog 88 #[v] w fun e w' => ∃ A c, e = .returned (.slice A xs.length c) ∧ Ow kTask w.heap.size w' (.slice A xs.length c) xs ∧ Ext w w' := by
  have HI := Lib.hid h
  obtain ⟨A, cap, rfl, hcap⟩ := h.slice
  have hlen := h.len
  have hnil := fun (w : World) (a : Option Addr) (n c : Nat) => Lib.run_eql_slice_nil w 76 109 a n c 0 0 Tryz.underlying76
  cases A with
  | none =>
    have h0 : xs = [] := by
      cases xs with
      | nil => rfl
      | cons a l => obtain ⟨b, off, h', _⟩ := h.cells (by simp); cases h'
    clear h
    subst h0
    go_enter Tryz.func88, Tryz.ntmps88
    go_wp2
    go_ret
    exact ⟨_, _, rfl, Ow.nil _ _, Ext.refl _⟩
  | some ad =>
    clear h
    go_enter Tryz.func88, Tryz.ntmps88
    go_wp2_with (at_builtin; refine kTask.wpList_app (by rfl) _ _ rfl rfl w.heap.size _ [] rfl (Ow.emptyAt w rfl (Nat.le_refl _)) _ xs rfl (HI.out.ext ((Ext.refl w).alloc _)) (by simpa using hl) (by simp) ?_; intro u w1 hown hgrow hat)
    go_ret
    obtain ⟨A1, c1, rfl, _⟩ := hown.slice
    refine ⟨A1, c1, rfl, hown, ((Ext.refl w).alloc _).grown hgrow (fun k hk => ?_)⟩
    cases hk; exact Nat.le_refl _

set_option maxHeartbeats 400000 in
theorem clone_b (v : Value) (xs : List Bool) (w : World) (h : Rd kBool w v xs) (hl : xs.length ≤ 1048576) :
    Calls Tryz.prog 89 #[v] w fun e w' => ∃ A c, e = .returned (.slice A xs.length c) ∧ Ow kBool w.heap.size w' (.slice A xs.length c) xs ∧ Ext w w' := by
  have HI := Lib.hid h
  obtain ⟨A, cap, rfl, hcap⟩ := h.slice
  have hlen := h.len
  have hnil := fun (w : World) (a : Option Addr) (n c : Nat) => Lib.run_eql_slice_nil w 55 4 a n c 0 0 Tryz.underlying55
  cases A with
  | none =>
    have h0 : xs = [] := by
      cases xs with
      | nil => rfl
      | cons a l => obtain ⟨b, off, h', _⟩ := h.cells (by simp); cases h'
    clear h
    subst h0
    go_enter Tryz.func89, Tryz.ntmps89
    go_wp2
    go_ret
    exact ⟨_, _, rfl, Ow.nil _ _, Ext.refl _⟩
  | some ad =>
    clear h
    go_enter Tryz.func89, Tryz.ntmps89
    go_wp2_with (at_builtin; refine kBool.wpList_app (by rfl) _ _ rfl rfl w.heap.size _ [] rfl (Ow.emptyAt w rfl (Nat.le_refl _)) _ xs rfl (HI.out.ext ((Ext.refl w).alloc _)) (by simpa using hl) (by simp) ?_; intro u w1 hown hgrow hat)
    go_ret
    obtain ⟨A1, c1, rfl, _⟩ := hown.slice
    refine ⟨A1, c1, rfl, hown, ((Ext.refl w).alloc _).grown hgrow (fun k hk => ?_)⟩
    cases hk; exact Nat.le_refl _

end Go.Proofs.YtkpbanfpnilifaaGreat

/- The program's Right, asked and Great of work. -/
namespace Go.Proofs.YtkpbanfpnilifaaGreat
open Go.BigFrame
open Go.RowKit Go.Proofs.YtkpbanfpnilifaaGreat.Plain

theorem sized_right (ts : List Tk) (g : Int) (n : Nat) : wSized g n ts.length = (cOk n g && decide (1 ≤ ts.length) && decide (ts.length ≤ 2000)) := by
  unfold wSized cOk
  rw [Bool.eq_iff_iff]
  simp only [Bool.and_eq_true, decide_eq_true_eq]
  omega

set_option maxHeartbeats 800000 in
set_option maxRecDepth 100000 in
theorem right_any (A B : Option Addr) (c d n : Nat) (ts : List Tk) (g : Int) (w : World) (h : Rd kTask w (.slice A ts.length c) ts) (hn : n ≤ 9223372036854775807) (hg : in64 g) :
    Calls Tryz.prog 96 #[.agg #[.slice A ts.length c, .int .i64 g, .slice B n d]] w fun e w' => e = .returned (.bool (wRight ts g n)) ∧ Ext w w' := by
  have H := Lib.hid h
  have hm := h.len
  have HG := Lib.hid hg
  have HN : Hid (in64 (n : Int)) := Lib.hid (by unfold in64; omega)
  clear h
  cases hc : cOk n g with
  | false =>
    have HC := Lib.hid hc
    have HR : Hid (wRight ts g n = false) := Lib.hid (by unfold wRight; rw [sized_right, hc]; rfl)
    clear hc
    go_enter Tryz.func96, Tryz.ntmps96
    go_wp2_with fail
    refine (sized_any _ _ _ HN.out HG.out).mono ?_
    rintro e w1 ⟨he, rfl⟩
    rw [HC.out] at he
    subst he
    go_wp2_with fail
    go_ret
    exact ⟨ret_bool HR.out.symm, (Ext.refl w).alloc _⟩
  | true =>
    have HC := Lib.hid hc
    by_cases hs : 1 ≤ ts.length ∧ ts.length ≤ 2000
    · obtain ⟨a5, a6⟩ := hs
      have HR : Hid (wRight ts g n = wOkTo ts n ts.length) := Lib.hid (by unfold wRight; rw [sized_right, hc, decide_eq_true a5, decide_eq_true a6]; rfl)
      have b5 : (1 : Int) ≤ ts.length := by omega
      have b6 : (ts.length : Int) ≤ 2000 := by omega
      clear hc
      obtain ⟨b, off, rfl, hcc⟩ := Rd.tasks H.out (by omega)
      have HCC := Lib.hid hcc
      clear hcc
      go_enter Tryz.func96, Tryz.ntmps96
      go_wp2_with fail
      refine (sized_any _ _ _ HN.out HG.out).mono ?_
      rintro e w1 ⟨he, rfl⟩
      rw [HC.out] at he
      subst he
      go_wp2_with fail
      go_loopw [27] (fun i wr => ∃ k : Nat, k ≤ ts.length ∧ i = .int .i64 k ∧ wOkTo ts n k = true ∧ Ext (w.alloc (.cells #[.slice (some ⟨b, off, none⟩) ts.length c, .int .i64 g, .slice B n d] 78)) wr) (fun i _ => ts.length - (intOf i).toNat)
      case atStart => exact ⟨0, Nat.zero_le _, rfl, wOkTo_zero _ _, Ext.refl _⟩
      case round =>
        obtain ⟨k, hk, rfl, hok, hE⟩ := hrel
        have HOK := Lib.hid hok
        have x0 : wr.cell? ⟨w.heap.size, 0, none⟩ = some (.slice (some ⟨b, off, none⟩) ts.length c) := hE.cell (by go_simp)
        have x2 : wr.cell? ⟨w.heap.size, 2, none⟩ = some (.slice B n d) := hE.cell (by go_simp)
        have hsz := hE.size
        simp at hsz
        have l0 : w.heap.size < wr.heap.size := by omega
        have l1 : w.heap.size < wr.heap.size + 1 := by omega
        clear hok
        by_cases hlt : k < ts.length
        · have hlt' : (k : Int) < ts.length := by omega
          obtain ⟨y0, y1, y2, y3⟩ := HCC.out k hlt
          have hbd := H.out.okAt k hlt
          obtain ⟨⟨lo, hi, up, wt⟩, ht⟩ : ∃ t, ts.getD k tk0 = t := ⟨_, rfl⟩
          have ht' : ts.getD k ⟨0, 0, 0, 0⟩ = ⟨lo, hi, up, wt⟩ := ht
          rw [ht'] at y0 y1 y2 y3
          have hbd' : in64 lo ∧ in64 hi ∧ in64 up ∧ in64 wt := by
            have e : ts.getD k kTask.d = ⟨lo, hi, up, wt⟩ := ht
            rw [e] at hbd; exact hbd
          have HBD := Lib.hid hbd'
          have z0 := hE.cell (Lib.cell?_alloc_some _ y0)
          have z1 := hE.cell (Lib.cell?_alloc_some _ y1)
          have z2 := hE.cell (Lib.cell?_alloc_some _ y2)
          have z3 := hE.cell (Lib.cell?_alloc_some _ y3)
          simp only at z0 z1 z2 z3
          have HE := Lib.hid hE
          have HT := Lib.hid ht
          clear y0 y1 y2 y3 hbd hbd' ht' hE ht
          go_wp2_with fail
          refine (fits_any lo hi up wt k n _ HBD.out.1 HBD.out.2.1 HBD.out.2.2.1 HBD.out.2.2.2 (by omega) hn).mono ?_
          rintro e w2 ⟨he, hE2⟩
          have HE2 := Lib.hid (HE.out.trans (((Ext.refl _).alloc _).trans hE2))
          cases hto : tkOk n k ⟨lo, hi, up, wt⟩ with
          | false =>
            have H0 := Lib.hid (wOkTo_no ts n ts.length k hlt (by rw [HT.out]; exact hto))
            rw [hto] at he
            subst he
            clear hto hE2
            go_wp2_with fail
            go_ret
            exact ⟨ret_bool (by rw [HR.out, H0.out]), ((Ext.refl w).alloc _).trans HE2.out⟩
          | true =>
            have H0 : Hid (wOkTo ts n (k + 1) = true) := Lib.hid (by rw [wOkTo_succ, HOK.out, HT.out, hto]; rfl)
            rw [hto] at he
            subst he
            clear hto hE2
            go_wp2_with fail
            go_roundw
            case rel => exact ⟨k + 1, by omega, by go_num, H0.out, HE2.out⟩
            case measure => simp [intOf]; omega
        · have hk' : k = ts.length := by omega
          have HOK2 : Hid (wOkTo ts n ts.length = true) := Lib.hid (hk' ▸ HOK.out)
          have hlt' : ¬ (k : Int) < ts.length := by omega
          clear hk'
          go_wp2_with fail
          go_ret
          exact ⟨ret_bool (by rw [HR.out, HOK2.out]), ((Ext.refl w).alloc _).trans hE⟩
    · have HR : Hid (wRight ts g n = false) := Lib.hid (by
        unfold wRight; rw [sized_right, hc]
        have : (decide (1 ≤ ts.length) && decide (ts.length ≤ 2000)) = false := by simp; omega
        rw [Bool.true_and, this]; rfl)
      have hs2 : (ts.length : Int) < 1 ∨ 2000 < (ts.length : Int) := by omega
      clear hc hs
      rcases hs2 with hs2 | hs2
      all_goals
        go_enter Tryz.func96, Tryz.ntmps96
        go_wp2_with fail
        refine (sized_any _ _ _ HN.out HG.out).mono ?_
        rintro e w1 ⟨he, rfl⟩
        rw [HC.out] at he
        subst he
        go_wp2_with fail
        go_ret
        exact ⟨ret_bool HR.out.symm, (Ext.refl w).alloc _⟩

/-- may the work be, and is there an i-th task: 0, or why not -/
def askErr (ts : List Tk) (g : Int) (n : Nat) (i : Int) : Int := if wRight ts g n = false then 1 else if wHas ts.length i = false then 6 else 0
theorem askErr_ok {ts : List Tk} {g : Int} {n : Nat} {i : Int} (h1 : wRight ts g n = true) (h2 : wHas ts.length i = true) : askErr ts g n i = 0 := by unfold askErr; rw [if_neg (by rw [h1]; decide), if_neg (by rw [h2]; decide)]
theorem askErr_zero {ts : List Tk} {g : Int} {n : Nat} {i : Int} (h : askErr ts g n i = 0) : wRight ts g n = true ∧ wHas ts.length i = true := by
  unfold askErr at h
  cases h1 : wRight ts g n with
  | false => rw [if_pos h1] at h; simp at h
  | true =>
    cases h2 : wHas ts.length i with
    | false => rw [if_neg (by rw [h1]; decide), if_pos h2] at h; simp at h
    | true => exact ⟨rfl, rfl⟩

set_option maxHeartbeats 400000 in
set_option maxRecDepth 100000 in
theorem asked_any (A B : Option Addr) (c d n : Nat) (ts : List Tk) (g i : Int) (w : World) (h : Rd kTask w (.slice A ts.length c) ts) (hn : n ≤ 9223372036854775807) (hg : in64 g) (hi : in64 i) :
    Calls Tryz.prog 111 #[.agg #[.slice A ts.length c, .int .i64 g, .slice B n d], .int .i64 i] w fun e w' => e = .returned (.int .i64 (askErr ts g n i)) ∧ Ext w w' := by
  have H := Lib.hid h
  have hm := h.len
  have HG := Lib.hid hg
  obtain ⟨i1, i2⟩ := hi
  clear h
  go_enter Tryz.func111, Tryz.ntmps111
  go_wp2_with fail
  refine (right_any _ _ _ _ _ _ _ _ (H.out.ext ((Ext.refl w).alloc _)) hn HG.out).mono ?_
  rintro e w1 ⟨he, hE⟩
  have q0 : w1.cell? ⟨w.heap.size, 0, none⟩ = some (.slice A ts.length c) := hE.cell (by go_simp)
  have HE := Lib.hid (((Ext.refl w).alloc _).trans hE)
  clear hE
  cases hr : wRight ts g n with
  | false =>
    have HR : Hid (askErr ts g n i = 1) := Lib.hid (by unfold askErr; rw [if_pos hr])
    rw [hr] at he
    subst he
    clear hr
    go_wp2_with fail
    go_ret
    exact ⟨ret_int HR.out.symm, HE.out⟩
  | true =>
    rw [hr] at he
    subst he
    by_cases h0 : i < 0
    · have HR : Hid (askErr ts g n i = 6) := Lib.hid (by unfold askErr; rw [if_neg (by rw [hr]; decide), if_pos (by unfold wHas; simp; omega)])
      clear hr
      go_wp2_with fail
      go_ret
      exact ⟨ret_int HR.out.symm, HE.out⟩
    · by_cases h1 : i < (ts.length : Int)
      · have HR : Hid (askErr ts g n i = 0) := Lib.hid (askErr_ok hr (by unfold wHas; simp; omega))
        clear hr
        go_wp2_with fail
        go_ret
        exact ⟨ret_int HR.out.symm, HE.out⟩
      · have HR : Hid (askErr ts g n i = 6) := Lib.hid (by unfold askErr; rw [if_neg (by rw [hr]; decide), if_pos (by unfold wHas; simp; omega)])
        clear hr
        go_wp2_with fail
        go_ret
        exact ⟨ret_int HR.out.symm, HE.out⟩

end Go.Proofs.YtkpbanfpnilifaaGreat

/- The document's Copy of work. -/
namespace Go.Proofs.YtkpbanfpnilifaaGreat
open Go.RowKit Go.Proofs.YtkpbanfpnilifaaGreat.Plain

def CopyV (w0 : World) (P : Nat) (A B : Option Addr) (c d : Nat) (ts : List Tk) (g : Int) (dn : List Bool) : Nat → World → List Value → Value → Prop
  | 0, w, _, v => NewAt kTask w0.heap.size w v
  | 1, _, _, v => v = .pointer (some ⟨P, 0, none⟩)
  | 2, _, _, v => v = .slice A ts.length c
  | 3, w, _, v => OwAt kTask w0.heap.size w v ts
  | 4, _, _, v => v = .pointer (some ⟨P, 1, none⟩)
  | 5, _, _, v => v = .int .i64 g
  | 6, w, _, v => NewAt kBool w0.heap.size w v
  | 7, _, _, v => v = .pointer (some ⟨P, 2, none⟩)
  | 8, _, _, v => v = .slice B dn.length d
  | 9, w, _, v => OwAt kBool w0.heap.size w v dn
  | 10, _, ds, v => v = .agg #[ds.getD 0 undef, ds.getD 1 undef, ds.getD 2 undef]
  | _, _, _, _ => True
theorem CopyV_ext (w0 : World) (P : Nat) (A B : Option Addr) (c d : Nat) (ts : List Tk) (g : Int) (dn : List Bool) : ∀ i w w' ds v, CopyV w0 P A B c d ts g dn i w ds v → Ext w w' → CopyV w0 P A B c d ts g dn i w' ds v
  | 0, _, _, _, _, h, hE => NewAt.ext h hE
  | 1, _, _, _, _, h, _ => h
  | 2, _, _, _, _, h, _ => h
  | 3, _, _, _, _, h, hE => OwAt.ext h hE
  | 4, _, _, _, _, h, _ => h
  | 5, _, _, _, _, h, _ => h
  | 6, _, _, _, _, h, hE => NewAt.ext h hE
  | 7, _, _, _, _, h, _ => h
  | 8, _, _, _, _, h, _ => h
  | 9, _, _, _, _, h, hE => OwAt.ext h hE
  | 10, _, _, _, _, h, _ => h
  | _ + 11, _, _, _, _, _, _ => trivial
section
variable (w0 : World) (P : Nat) (A B : Option Addr) (c d : Nat) (ts : List Tk) (g : Int) (dn : List Bool) (w : World) (ds : List Value) (v : Value)
theorem CopyV_i0 (h : NewAt kTask w0.heap.size w v) : CopyV w0 P A B c d ts g dn 0 w ds v := h
theorem CopyV_e0 (h : CopyV w0 P A B c d ts g dn 0 w ds v) : NewAt kTask w0.heap.size w v := h
theorem CopyV_i1 (h : v = .pointer (some ⟨P, 0, none⟩)) : CopyV w0 P A B c d ts g dn 1 w ds v := h
theorem CopyV_e1 (h : CopyV w0 P A B c d ts g dn 1 w ds v) : v = .pointer (some ⟨P, 0, none⟩) := h
theorem CopyV_i2 (h : v = .slice A ts.length c) : CopyV w0 P A B c d ts g dn 2 w ds v := h
theorem CopyV_e2 (h : CopyV w0 P A B c d ts g dn 2 w ds v) : v = .slice A ts.length c := h
theorem CopyV_i3 (h : OwAt kTask w0.heap.size w v ts) : CopyV w0 P A B c d ts g dn 3 w ds v := h
theorem CopyV_e3 (h : CopyV w0 P A B c d ts g dn 3 w ds v) : OwAt kTask w0.heap.size w v ts := h
theorem CopyV_i4 (h : v = .pointer (some ⟨P, 1, none⟩)) : CopyV w0 P A B c d ts g dn 4 w ds v := h
theorem CopyV_e4 (h : CopyV w0 P A B c d ts g dn 4 w ds v) : v = .pointer (some ⟨P, 1, none⟩) := h
theorem CopyV_i5 (h : v = .int .i64 g) : CopyV w0 P A B c d ts g dn 5 w ds v := h
theorem CopyV_e5 (h : CopyV w0 P A B c d ts g dn 5 w ds v) : v = .int .i64 g := h
theorem CopyV_i6 (h : NewAt kBool w0.heap.size w v) : CopyV w0 P A B c d ts g dn 6 w ds v := h
theorem CopyV_e6 (h : CopyV w0 P A B c d ts g dn 6 w ds v) : NewAt kBool w0.heap.size w v := h
theorem CopyV_i7 (h : v = .pointer (some ⟨P, 2, none⟩)) : CopyV w0 P A B c d ts g dn 7 w ds v := h
theorem CopyV_e7 (h : CopyV w0 P A B c d ts g dn 7 w ds v) : v = .pointer (some ⟨P, 2, none⟩) := h
theorem CopyV_i8 (h : v = .slice B dn.length d) : CopyV w0 P A B c d ts g dn 8 w ds v := h
theorem CopyV_e8 (h : CopyV w0 P A B c d ts g dn 8 w ds v) : v = .slice B dn.length d := h
theorem CopyV_i9 (h : OwAt kBool w0.heap.size w v dn) : CopyV w0 P A B c d ts g dn 9 w ds v := h
theorem CopyV_e9 (h : CopyV w0 P A B c d ts g dn 9 w ds v) : OwAt kBool w0.heap.size w v dn := h
theorem CopyV_i10 (h : v = .agg #[ds.getD 0 undef, ds.getD 1 undef, ds.getD 2 undef]) : CopyV w0 P A B c d ts g dn 10 w ds v := h
theorem CopyV_e10 (h : CopyV w0 P A B c d ts g dn 10 w ds v) : v = .agg #[ds.getD 0 undef, ds.getD 1 undef, ds.getD 2 undef] := h
end

set_option maxHeartbeats 3200000 in
set_option maxRecDepth 100000 in
theorem rcopy_any (A B : Option Addr) (c d : Nat) (ts : List Tk) (g : Int) (dn : List Bool) (w : World) (h : Rd kTask w (.slice A ts.length c) ts) (h' : Rd kBool w (.slice B dn.length d) dn) (hl : ts.length ≤ 4000) (hl' : dn.length ≤ 4000) :
    Calls Tryz.prog 83 #[.agg #[.slice A ts.length c, .int .i64 g, .slice B dn.length d]] w fun e w' => ∃ A c B d, e = .returned (.agg #[.slice A ts.length c, .int .i64 g, .slice B dn.length d]) ∧
      Ow kTask w.heap.size w' (.slice A ts.length c) ts ∧ Ow kBool w.heap.size w' (.slice B dn.length d) dn ∧ Ext w w' := by
  have H0 := Lib.hid h
  have HD0 := Lib.hid h'
  clear h h'
  go_enter Tryz.func83, Tryz.ntmps83
  go_wp2
  have q0 : ((w.alloc (.cells #[.slice A ts.length c, .int .i64 g, .slice B dn.length d] 78)).alloc (.cells #[.slice none 0 0, .int .i64 0, .slice none 0 0] 78)).cell? ⟨w.heap.size, 0, none⟩ = some (.slice A ts.length c) := by go_simp
  have q1 : ((w.alloc (.cells #[.slice A ts.length c, .int .i64 g, .slice B dn.length d] 78)).alloc (.cells #[.slice none 0 0, .int .i64 0, .slice none 0 0] 78)).cell? ⟨w.heap.size, 1, none⟩ = some (.int .i64 g) := by go_simp
  have q2 : ((w.alloc (.cells #[.slice A ts.length c, .int .i64 g, .slice B dn.length d] 78)).alloc (.cells #[.slice none 0 0, .int .i64 0, .slice none 0 0] 78)).cell? ⟨w.heap.size, 2, none⟩ = some (.slice B dn.length d) := by go_simp
  have r0 : ((w.alloc (.cells #[.slice A ts.length c, .int .i64 g, .slice B dn.length d] 78)).alloc (.cells #[.slice none 0 0, .int .i64 0, .slice none 0 0] 78)).heap[w.heap.size + 1]? = some (.cells #[.slice none 0 0, .int .i64 0, .slice none 0 0] 78 (0, 0)) := heap_alloc2_new w _ _
  have H := Lib.hid (H0.out.ext (((Ext.refl w).alloc (.cells #[.slice A ts.length c, .int .i64 g, .slice B dn.length d] 78)).alloc (.cells #[.slice none 0 0, .int .i64 0, .slice none 0 0] 78)))
  have HD := Lib.hid (HD0.out.ext (((Ext.refl w).alloc (.cells #[.slice A ts.length c, .int .i64 g, .slice B dn.length d] 78)).alloc (.cells #[.slice none 0 0, .int .i64 0, .slice none 0 0] 78)))
  have X := Lib.hid (((Ext.refl w).alloc (.cells #[.slice A ts.length c, .int .i64 g, .slice B dn.length d] 78)).alloc (.cells #[.slice none 0 0, .int .i64 0, .slice none 0 0] 78))
  have hz : ((w.alloc (.cells #[.slice A ts.length c, .int .i64 g, .slice B dn.length d] 78)).alloc (.cells #[.slice none 0 0, .int .i64 0, .slice none 0 0] 78)).heap.size = w.heap.size + 2 := by simp
  generalize (w.alloc (.cells #[.slice A ts.length c, .int .i64 g, .slice B dn.length d] 78)).alloc (.cells #[.slice none 0 0, .int .i64 0, .slice none 0 0] 78) = w0 at *
  obtain ⟨P, hP⟩ : ∃ P, w.heap.size = P := ⟨_, rfl⟩
  have HZ := Lib.hid hz
  have HP := Lib.hid hP
  rw [hP] at q0 q1 q2 r0 ⊢
  clear hz hP
  refine Mono.wp_region_mono 11 (CopyV w0 P A B c d ts g dn) (by kernel_rfl) (by kernel_rfl) (CopyV_ext w0 P A B c d ts g dn) ?_ ?_
  · intro i o hi ho vals w5 hE hcl
    have hi' : i = 0 ∨ i = 1 ∨ i = 2 ∨ i = 3 ∨ i = 4 ∨ i = 5 ∨ i = 6 ∨ i = 7 ∨ i = 8 ∨ i = 9 ∨ i = 10 := by omega
    rcases hi' with rfl | rfl | rfl | rfl | rfl | rfl | rfl | rfl | rfl | rfl | rfl
    · simp only [List.getElem?_cons_zero, Option.some.injEq] at ho
      subst ho
      rw [if_pos (Mono.wanted_none rfl)]
      clear hcl
      refine Mono.yields_same (.slice (some ⟨w5.heap.size, 0, none⟩) 0 0) (w5.alloc (.cells #[] kTask.e)) ?_ ⟨(Ext.refl _).alloc _, CopyV_i0 _ _ _ _ _ _ _ _ _ _ _ _ (NewAt.made w5 hE.size)⟩
      simp only [Mono.all, List.take, Act.put, kTask]
      go_simp
    · simp only [List.getElem?_cons_succ, List.getElem?_cons_zero, Option.some.injEq] at ho
      subst ho
      rw [if_pos (Mono.wanted_none rfl)]
      clear hcl
      refine Mono.yields_same (.pointer (some ⟨P, 0, none⟩)) w5 ?_ ⟨Ext.refl _, CopyV_i1 _ _ _ _ _ _ _ _ _ _ _ _ rfl⟩
      simp only [Mono.all, List.take, Act.put]
      go_simp
    · simp only [List.getElem?_cons_succ, List.getElem?_cons_zero, Option.some.injEq] at ho
      subst ho
      rw [if_pos (Mono.wanted_none rfl)]
      have h1 : vals 1 = .pointer (some ⟨P, 0, none⟩) := CopyV_e1 _ _ _ _ _ _ _ _ _ _ _ _ (hcl 1 (by kernel_rfl))
      have k1 := hE.cell q0
      clear hcl
      refine Mono.yields_same (.slice A ts.length c) w5 ?_ ⟨Ext.refl _, CopyV_i2 _ _ _ _ _ _ _ _ _ _ _ _ rfl⟩
      simp only [Mono.all, List.take, Act.put]
      go_simp
    · simp only [List.getElem?_cons_succ, List.getElem?_cons_zero, Option.some.injEq] at ho
      subst ho
      rw [if_pos (Mono.wanted_none rfl)]
      have h0 : NewAt kTask w0.heap.size w5 (vals 0) := CopyV_e0 _ _ _ _ _ _ _ _ _ _ _ _ (hcl 0 (by kernel_rfl))
      have h2 : vals 2 = .slice A ts.length c := CopyV_e2 _ _ _ _ _ _ _ _ _ _ _ _ (hcl 2 (by kernel_rfl))
      obtain ⟨v', w', hr, hX, hO, hb⟩ := Kd.app_new kTask h0 (H.out.ext hE) (by omega) hE.size
      exact Kd.yields_app kTask (v := vals 0) (y := .slice A ts.length c) (.tmp 3) (.tmp 5) rfl rfl (by kernel_rfl) (by rw [← h2]; kernel_rfl) hr ⟨hX, CopyV_i3 _ _ _ _ _ _ _ _ _ _ _ _ hO⟩
    · simp only [List.getElem?_cons_succ, List.getElem?_cons_zero, Option.some.injEq] at ho
      subst ho
      rw [if_pos (Mono.wanted_none rfl)]
      clear hcl
      refine Mono.yields_same (.pointer (some ⟨P, 1, none⟩)) w5 ?_ ⟨Ext.refl _, CopyV_i4 _ _ _ _ _ _ _ _ _ _ _ _ rfl⟩
      simp only [Mono.all, List.take, Act.put]
      go_simp
    · simp only [List.getElem?_cons_succ, List.getElem?_cons_zero, Option.some.injEq] at ho
      subst ho
      rw [if_pos (Mono.wanted_none rfl)]
      have h1 : vals 4 = .pointer (some ⟨P, 1, none⟩) := CopyV_e4 _ _ _ _ _ _ _ _ _ _ _ _ (hcl 4 (by kernel_rfl))
      have k1 := hE.cell q1
      clear hcl
      refine Mono.yields_same (.int .i64 g) w5 ?_ ⟨Ext.refl _, CopyV_i5 _ _ _ _ _ _ _ _ _ _ _ _ rfl⟩
      simp only [Mono.all, List.take, Act.put]
      go_simp
    · simp only [List.getElem?_cons_succ, List.getElem?_cons_zero, Option.some.injEq] at ho
      subst ho
      rw [if_pos (Mono.wanted_none rfl)]
      clear hcl
      refine Mono.yields_same (.slice (some ⟨w5.heap.size, 0, none⟩) 0 0) (w5.alloc (.cells #[] kBool.e)) ?_ ⟨(Ext.refl _).alloc _, CopyV_i6 _ _ _ _ _ _ _ _ _ _ _ _ (NewAt.made w5 hE.size)⟩
      simp only [Mono.all, List.take, Act.put, kBool]
      go_simp
    · simp only [List.getElem?_cons_succ, List.getElem?_cons_zero, Option.some.injEq] at ho
      subst ho
      rw [if_pos (Mono.wanted_none rfl)]
      clear hcl
      refine Mono.yields_same (.pointer (some ⟨P, 2, none⟩)) w5 ?_ ⟨Ext.refl _, CopyV_i7 _ _ _ _ _ _ _ _ _ _ _ _ rfl⟩
      simp only [Mono.all, List.take, Act.put]
      go_simp
    · simp only [List.getElem?_cons_succ, List.getElem?_cons_zero, Option.some.injEq] at ho
      subst ho
      rw [if_pos (Mono.wanted_none rfl)]
      have h1 : vals 7 = .pointer (some ⟨P, 2, none⟩) := CopyV_e7 _ _ _ _ _ _ _ _ _ _ _ _ (hcl 7 (by kernel_rfl))
      have k1 := hE.cell q2
      clear hcl
      refine Mono.yields_same (.slice B dn.length d) w5 ?_ ⟨Ext.refl _, CopyV_i8 _ _ _ _ _ _ _ _ _ _ _ _ rfl⟩
      simp only [Mono.all, List.take, Act.put]
      go_simp
    · simp only [List.getElem?_cons_succ, List.getElem?_cons_zero, Option.some.injEq] at ho
      subst ho
      rw [if_pos (Mono.wanted_none rfl)]
      have h0 : NewAt kBool w0.heap.size w5 (vals 6) := CopyV_e6 _ _ _ _ _ _ _ _ _ _ _ _ (hcl 6 (by kernel_rfl))
      have h2 : vals 8 = .slice B dn.length d := CopyV_e8 _ _ _ _ _ _ _ _ _ _ _ _ (hcl 8 (by kernel_rfl))
      obtain ⟨v', w', hr, hX, hO, hb⟩ := Kd.app_new kBool h0 (HD.out.ext hE) (by omega) hE.size
      exact Kd.yields_app kBool (v := vals 6) (y := .slice B dn.length d) (.tmp 9) (.tmp 11) rfl rfl (by kernel_rfl) (by rw [← h2]; kernel_rfl) hr ⟨hX, CopyV_i9 _ _ _ _ _ _ _ _ _ _ _ _ hO⟩
    · simp only [List.getElem?_cons_succ, List.getElem?_cons_zero, Option.some.injEq] at ho
      subst ho
      rw [if_pos (Mono.wanted_none rfl)]
      obtain ⟨A3, c3, e3, _⟩ : OwAt kTask w0.heap.size w5 (vals 3) ts := CopyV_e3 _ _ _ _ _ _ _ _ _ _ _ _ (hcl 3 (by kernel_rfl))
      have e5 : vals 5 = .int .i64 g := CopyV_e5 _ _ _ _ _ _ _ _ _ _ _ _ (hcl 5 (by kernel_rfl))
      obtain ⟨A9, c9, e9, _⟩ : OwAt kBool w0.heap.size w5 (vals 9) dn := CopyV_e9 _ _ _ _ _ _ _ _ _ _ _ _ (hcl 9 (by kernel_rfl))
      clear hcl
      refine Mono.yields_same (.agg #[vals 3, vals 5, vals 9]) w5 ?_ ⟨Ext.refl _, CopyV_i10 _ _ _ _ _ _ _ _ _ _ _ _ (by kernel_rfl)⟩
      rw [e3, e5, e9]
      simp only [Mono.all, List.take, Act.put]
      go_simp
  · intro vals w5 hE hv
    have e2 := CopyV_e2 _ _ _ _ _ _ _ _ _ _ _ _ (hv 2 (by omega))
    obtain ⟨A3, c3, e3, ho3⟩ := CopyV_e3 _ _ _ _ _ _ _ _ _ _ _ _ (hv 3 (by omega))
    have e5 := CopyV_e5 _ _ _ _ _ _ _ _ _ _ _ _ (hv 5 (by omega))
    have e8 := CopyV_e8 _ _ _ _ _ _ _ _ _ _ _ _ (hv 8 (by omega))
    obtain ⟨A9, c9, e9, ho9⟩ := CopyV_e9 _ _ _ _ _ _ _ _ _ _ _ _ (hv 9 (by omega))
    have e10 : vals 10 = .agg #[vals 3, vals 5, vals 9] := (CopyV_e10 _ _ _ _ _ _ _ _ _ _ _ _ (hv 10 (by omega))).trans (by kernel_rfl)
    rw [e3, e5, e9] at e10
    have HO3 := Lib.hid ho3
    have HO9 := Lib.hid ho9
    have HEE := Lib.hid hE
    have hblk := block_keep r0 hE
    have k0 : w5.cell? ⟨P + 1, 0, none⟩ = some (.slice none 0 0) := (cell_of_row w5 _ 0 _ _ _ hblk).trans rfl
    have k1 : w5.cell? ⟨P + 1, 1, none⟩ = some (.int .i64 0) := (cell_of_row w5 _ 1 _ _ _ hblk).trans rfl
    have k2 : w5.cell? ⟨P + 1, 2, none⟩ = some (.slice none 0 0) := (cell_of_row w5 _ 2 _ _ _ hblk).trans rfl
    have kf : ∀ o, w5.frozen? ⟨P + 1, o, none⟩ = false := fun o => frozen_of_row _ _ o _ _ hblk
    clear hv ho3 ho9 hblk hE r0 q0 q1 q2
    simp only [Mono.all, List.take, List.drop, Act.put]
    rw [e10]
    go_wp2
    have hz := HZ.out
    have hp := HP.out
    refine bodyPost_ret (v := .agg #[.slice A3 ts.length c3, .int .i64 g, .slice A9 dn.length c9]) (by simp [results, Tryz.results83, go_sem, k0, k1, k2]) rfl ⟨A3, c3, A9, c9, rfl, ?_, ?_, ?_⟩
    · exact ((((HO3.out.setBelow (p := ⟨P + 1, 0, none⟩) (by show P + 1 < _; omega) _).setBelow (p := ⟨P + 1, 1, none⟩) (by show P + 1 < _; omega) _).setBelow (p := ⟨P + 1, 2, none⟩) (by show P + 1 < _; omega) _).mono (by omega))
    · exact ((((HO9.out.setBelow (p := ⟨P + 1, 0, none⟩) (by show P + 1 < _; omega) _).setBelow (p := ⟨P + 1, 1, none⟩) (by show P + 1 < _; omega) _).setBelow (p := ⟨P + 1, 2, none⟩) (by show P + 1 < _; omega) _).mono (by omega))
    · exact (((X.out.trans HEE.out).setCell (p := ⟨P + 1, 0, none⟩) (by show _ ≤ P + 1; omega) _).setCell (p := ⟨P + 1, 1, none⟩) (by show _ ≤ P + 1; omega) _).setCell (p := ⟨P + 1, 2, none⟩) (by show _ ≤ P + 1; omega) _
end Go.Proofs.YtkpbanfpnilifaaGreat

/- The document's Great of work: is a task to be parted? -/
namespace Go.Proofs.YtkpbanfpnilifaaGreat
open Go.BigFrame
open Go.RowKit Go.Proofs.YtkpbanfpnilifaaGreat.Plain

set_option maxRecDepth 100000 in
theorem rhas_any (A B : Option Addr) (c d n m : Nat) (g i : Int) (w : World) (_hm : m ≤ 9223372036854775807) :
    Calls Tryz.prog 84 #[.agg #[.slice A m c, .int .i64 g, .slice B n d], .int .i64 i] w fun e w' => e = .returned (.bool (wHas m i)) ∧ Ext w w' := by
  by_cases h0 : 0 ≤ i
  · have HR : Hid (wHas m i = decide (i < (m : Int))) := Lib.hid (by unfold wHas; rw [decide_eq_true h0]; rfl)
    go_enter Tryz.func84, Tryz.ntmps84
    go_wp2
    all_goals (go_ret; exact ⟨ret_bool (by rw [HR.out]; try rfl), (Ext.refl w).alloc _⟩)
  · have HR : Hid (wHas m i = false) := Lib.hid (by unfold wHas; rw [decide_eq_false h0]; rfl)
    have h1 : i < 0 := by omega
    have h2 : decide (0 ≤ i) = false := decide_eq_false h0
    clear h0
    go_enter Tryz.func84, Tryz.ntmps84
    go_wp2
    all_goals (go_ret; exact ⟨ret_bool HR.out.symm, (Ext.refl w).alloc _⟩)

set_option maxHeartbeats 1600000 in
set_option maxRecDepth 100000 in
theorem rgreat_no (A B : Option Addr) (c d n : Nat) (ts : List Tk) (g i : Int) (w : World) (h : Rd kTask w (.slice A ts.length c) ts) (hn : n ≤ 9223372036854775807) (hg : -9223372036854775808 ≤ g ∧ g ≤ 9223372036854775807) (_hi : -9223372036854775808 ≤ i ∧ i ≤ 9223372036854775807) (hr : wRight ts g n = false) :
    Calls Tryz.prog 75 #[.agg #[.slice A ts.length c, .int .i64 g, .slice B n d], .int .i64 i] w fun e w' => e = .returned (.bool (wGreat ts g n i)) ∧ Ext w w' := by
  have H := Lib.hid h
  have hm := h.len
  have HR := Lib.hid hr
  have HS : Hid (wHas ts.length i = wHas ts.length i) := Lib.hid rfl
  have HW : Hid (wGreat ts g n i = false) := Lib.hid (by unfold wGreat; rw [hr]; rfl)
  clear h hr
  go_enter Tryz.func75, Tryz.ntmps75
  go_wp2
  have hall : ∀ w', Ext (w.alloc (.cells #[.slice A ts.length c, .int .i64 g, .slice B n d] 78)) w' → (w'.cell? ⟨w.heap.size, 0, none⟩ = some (.slice A ts.length c) ∧ w'.cell? ⟨w.heap.size, 1, none⟩ = some (.int .i64 g) ∧ w'.cell? ⟨w.heap.size, 2, none⟩ = some (.slice B n d)) :=
    fun w' hE => ⟨hE.cell (by go_simp), hE.cell (by go_simp), hE.cell (by go_simp)⟩
  have HALL := Lib.hid hall
  clear hall
  refine wp_region_class (fun w' => Ext (w.alloc (.cells #[.slice A ts.length c, .int .i64 g, .slice B n d] 78)) w') (by kernel_rfl) (by kernel_rfl) (Ext.refl _).drew ?_
  repeat (first
    | go_big_quiet_skip
    | (go_big_quiet_want
       first
       | (go_big_quiet_op; go_big_quiet_on)
       | (unfold Oper.quiet
          apply Exists.intro
          refine ⟨fun w' hC => ?_, ?_⟩
          · (obtain ⟨k1, k2, k3⟩ := HALL.out w' hC
             unfold Oper.quietAt
             go_simp
             exact rfl)
          go_simp
          go_big_quiet_on)
       | (go_big_quiet_op
          apply Exists.intro
          refine ⟨fun w' hC => ?_, ?_⟩
          · first
            | exact (rright_any _ _ _ _ _ _ _ _ (H.out.ext (((Ext.refl w).alloc _).trans hC)) hn hg).mono fun e w'' h => ⟨h.1.trans (ret_bool HR.out), hC.trans h.2⟩
            | exact (rhas_any _ _ _ _ _ _ _ _ _ hm).mono fun e w'' h => ⟨h.1.trans (ret_bool HS.out), hC.trans h.2⟩
          go_big_quiet_on)))
  refine wpQuiet_nil ?_
  intro w3 hC3
  go_wp2
  go_ret
  exact ⟨ret_bool HW.out.symm, ((Ext.refl w).alloc _).trans hC3⟩

set_option maxHeartbeats 1600000 in
set_option maxRecDepth 100000 in
theorem rgreat_none (A B : Option Addr) (c d n : Nat) (ts : List Tk) (g i : Int) (w : World) (h : Rd kTask w (.slice A ts.length c) ts) (hn : n ≤ 9223372036854775807) (hg : -9223372036854775808 ≤ g ∧ g ≤ 9223372036854775807) (_hi : -9223372036854775808 ≤ i ∧ i ≤ 9223372036854775807) (hr : wRight ts g n = true) (hs : wHas ts.length i = false) :
    Calls Tryz.prog 75 #[.agg #[.slice A ts.length c, .int .i64 g, .slice B n d], .int .i64 i] w fun e w' => e = .returned (.bool (wGreat ts g n i)) ∧ Ext w w' := by
  have H := Lib.hid h
  have hm := h.len
  have HR := Lib.hid hr
  have HS := Lib.hid hs
  have HW : Hid (wGreat ts g n i = false) := Lib.hid (by unfold wGreat; rw [hr, hs]; rfl)
  clear h hr hs
  go_enter Tryz.func75, Tryz.ntmps75
  go_wp2
  have hall : ∀ w', Ext (w.alloc (.cells #[.slice A ts.length c, .int .i64 g, .slice B n d] 78)) w' → (w'.cell? ⟨w.heap.size, 0, none⟩ = some (.slice A ts.length c) ∧ w'.cell? ⟨w.heap.size, 1, none⟩ = some (.int .i64 g) ∧ w'.cell? ⟨w.heap.size, 2, none⟩ = some (.slice B n d)) :=
    fun w' hE => ⟨hE.cell (by go_simp), hE.cell (by go_simp), hE.cell (by go_simp)⟩
  have HALL := Lib.hid hall
  clear hall
  refine wp_region_class (fun w' => Ext (w.alloc (.cells #[.slice A ts.length c, .int .i64 g, .slice B n d] 78)) w') (by kernel_rfl) (by kernel_rfl) (Ext.refl _).drew ?_
  repeat (first
    | go_big_quiet_skip
    | (go_big_quiet_want
       first
       | (go_big_quiet_op; go_big_quiet_on)
       | (unfold Oper.quiet
          apply Exists.intro
          refine ⟨fun w' hC => ?_, ?_⟩
          · (obtain ⟨k1, k2, k3⟩ := HALL.out w' hC
             unfold Oper.quietAt
             go_simp
             exact rfl)
          go_simp
          go_big_quiet_on)
       | (go_big_quiet_op
          apply Exists.intro
          refine ⟨fun w' hC => ?_, ?_⟩
          · first
            | exact (rright_any _ _ _ _ _ _ _ _ (H.out.ext (((Ext.refl w).alloc _).trans hC)) hn hg).mono fun e w'' h => ⟨h.1.trans (ret_bool HR.out), hC.trans h.2⟩
            | exact (rhas_any _ _ _ _ _ _ _ _ _ hm).mono fun e w'' h => ⟨h.1.trans (ret_bool HS.out), hC.trans h.2⟩
          go_big_quiet_on)))
  refine wpQuiet_nil ?_
  intro w3 hC3
  go_wp2
  go_ret
  exact ⟨ret_bool HW.out.symm, ((Ext.refl w).alloc _).trans hC3⟩

set_option maxHeartbeats 1600000 in
set_option maxRecDepth 100000 in
theorem rgreat_has (A B : Option Addr) (c d n : Nat) (ts : List Tk) (g i : Int) (w : World) (h : Rd kTask w (.slice A ts.length c) ts) (hn : n ≤ 9223372036854775807) (hg : -9223372036854775808 ≤ g ∧ g ≤ 9223372036854775807) (hi : -9223372036854775808 ≤ i ∧ i ≤ 9223372036854775807) (hr : wRight ts g n = true) (hs : wHas ts.length i = true) :
    Calls Tryz.prog 75 #[.agg #[.slice A ts.length c, .int .i64 g, .slice B n d], .int .i64 i] w fun e w' => e = .returned (.bool (wGreat ts g n i)) ∧ Ext w w' := by
  have H := Lib.hid h
  have hm := h.len
  have HR := Lib.hid hr
  have HS := Lib.hid hs
  have hsi : 0 ≤ i ∧ i < (ts.length : Int) := by unfold wHas at hs; simpa using hs
  obtain ⟨j, rfl⟩ : ∃ j : Nat, i = j := ⟨i.toNat, by omega⟩
  have hj : j < ts.length := by omega
  have hj' : (j : Int) < ts.length := by omega
  have hj0 : (0 : Int) ≤ j := by omega
  have HW : Hid (wGreat ts g n j = decide (g < (ts.getD j tk0).hi - (ts.getD j tk0).lo)) := Lib.hid (by unfold wGreat tkAt; rw [hr, hs, Int.toNat_natCast]; rfl)
  have hok := tkOk_iff n j (ts.getD j tk0) |>.1 (wOkTo_at ts n ts.length (by unfold wRight at hr; rw [Bool.and_eq_true] at hr; exact hr.2) j hj)
  have hnb : (n : Int) ≤ 1000 := by
    unfold wRight at hr
    rw [Bool.and_eq_true, wSized_iff] at hr
    omega
  obtain ⟨b, off, rfl, hcc⟩ := Rd.tasks H.out (by omega)
  obtain ⟨y0, y1, _, _⟩ := hcc j hj
  have e0 : ts.getD j ⟨0, 0, 0, 0⟩ = ts.getD j tk0 := rfl
  rw [e0] at y0 y1
  obtain ⟨lo, hlo⟩ : ∃ lo, (ts.getD j tk0).lo = lo := ⟨_, rfl⟩
  obtain ⟨hi', hhi⟩ : ∃ hi', (ts.getD j tk0).hi = hi' := ⟨_, rfl⟩
  rw [hlo] at y0 HW hok
  rw [hhi] at y1 HW hok
  obtain ⟨o1, o2, o3, _⟩ := hok
  have hw1 : IntKind.i64.wrap (hi' - lo) = hi' - lo := IntWalk.i64_in _ (by omega)
  clear h hr hs hsi hcc hlo hhi e0
  go_enter Tryz.func75, Tryz.ntmps75
  go_wp2
  have hall : ∀ w', Ext (w.alloc (.cells #[.slice (some ⟨b, off, none⟩) ts.length c, .int .i64 g, .slice B n d] 78)) w' → (w'.cell? ⟨w.heap.size, 0, none⟩ = some (.slice (some ⟨b, off, none⟩) ts.length c) ∧ w'.cell? ⟨w.heap.size, 1, none⟩ = some (.int .i64 g) ∧ w'.cell? ⟨w.heap.size, 2, none⟩ = some (.slice B n d) ∧ w'.cell? ⟨b, off + j * 4 + 1, none⟩ = some (.int .i64 hi') ∧ w'.cell? ⟨b, off + j * 4, none⟩ = some (.int .i64 lo)) :=
    fun w' hE => ⟨hE.cell (by go_simp), hE.cell (by go_simp), hE.cell (by go_simp), hE.cell (Lib.cell?_alloc_some _ y1), hE.cell (Lib.cell?_alloc_some _ y0)⟩
  have HALL := Lib.hid hall
  clear hall
  refine wp_region_class (fun w' => Ext (w.alloc (.cells #[.slice (some ⟨b, off, none⟩) ts.length c, .int .i64 g, .slice B n d] 78)) w') (by kernel_rfl) (by kernel_rfl) (Ext.refl _).drew ?_
  repeat (first
    | go_big_quiet_skip
    | (go_big_quiet_want
       first
       | (go_big_quiet_op; go_big_quiet_on)
       | (unfold Oper.quiet
          apply Exists.intro
          refine ⟨fun w' hC => ?_, ?_⟩
          · (obtain ⟨k1, k2, k3, k4, k5⟩ := HALL.out w' hC
             unfold Oper.quietAt
             go_simp
             exact rfl)
          go_simp
          go_big_quiet_on)
       | (go_big_quiet_op
          apply Exists.intro
          refine ⟨fun w' hC => ?_, ?_⟩
          · first
            | exact (rright_any _ _ _ _ _ _ _ _ (H.out.ext (((Ext.refl w).alloc _).trans hC)) hn hg).mono fun e w'' h => ⟨h.1.trans (ret_bool HR.out), hC.trans h.2⟩
            | exact (rhas_any _ _ _ _ _ _ _ _ _ hm).mono fun e w'' h => ⟨h.1.trans (ret_bool HS.out), hC.trans h.2⟩
          go_big_quiet_on)))
  refine wpQuiet_nil ?_
  intro w3 hC3
  go_wp2
  go_ret
  exact ⟨ret_bool (by rw [HW.out]), ((Ext.refl w).alloc _).trans hC3⟩

theorem rgreat_any (A B : Option Addr) (c d n : Nat) (ts : List Tk) (g i : Int) (w : World) (h : Rd kTask w (.slice A ts.length c) ts) (hn : n ≤ 9223372036854775807) (hg : -9223372036854775808 ≤ g ∧ g ≤ 9223372036854775807) (hi : -9223372036854775808 ≤ i ∧ i ≤ 9223372036854775807) :
    Calls Tryz.prog 75 #[.agg #[.slice A ts.length c, .int .i64 g, .slice B n d], .int .i64 i] w fun e w' => e = .returned (.bool (wGreat ts g n i)) ∧ Ext w w' := by
  cases hr : wRight ts g n with
  | false => exact rgreat_no A B c d n ts g i w h hn hg hi hr
  | true =>
    cases hs : wHas ts.length i with
    | false => exact rgreat_none A B c d n ts g i w h hn hg hi hr hs
    | true => exact rgreat_has A B c d n ts g i w h hn hg hi hr hs
end Go.Proofs.YtkpbanfpnilifaaGreat

/- The document's Part of work. -/
namespace Go.Proofs.YtkpbanfpnilifaaGreat
open Go.BigFrame
open Go.RowKit Go.Proofs.YtkpbanfpnilifaaGreat.Plain

/-- the frame of Part and of Do: its work, and its answer's cells -/
def PAt (w : World) (A B : Option Addr) (c d n m : Nat) (g : Int) (w' : World) : Prop := Ext ((w.alloc (.cells #[.slice A m c, .int .i64 g, .slice B n d] 78)).alloc (.cells #[.slice none 0 0, .int .i64 0, .slice none 0 0] 78)) w'
theorem PAt.cells {w : World} {A B : Option Addr} {c d n m : Nat} {g : Int} {w' : World} (h : PAt w A B c d n m g w') :
    w'.cell? ⟨w.heap.size, 0, none⟩ = some (.slice A m c) ∧ w'.cell? ⟨w.heap.size, 1, none⟩ = some (.int .i64 g) ∧ w'.cell? ⟨w.heap.size, 2, none⟩ = some (.slice B n d) := by
  unfold PAt at h
  exact ⟨h.cell (by go_simp), h.cell (by go_simp), h.cell (by go_simp)⟩
theorem PAt.out {w : World} {A B : Option Addr} {c d n m : Nat} {g : Int} {w' : World} (h : PAt w A B c d n m g w') :
    w'.cell? ⟨w.heap.size + 1, 0, none⟩ = some (.slice none 0 0) ∧ w'.cell? ⟨w.heap.size + 1, 1, none⟩ = some (.int .i64 0) ∧ w'.cell? ⟨w.heap.size + 1, 2, none⟩ = some (.slice none 0 0) ∧ ∀ o, w'.frozen? ⟨w.heap.size + 1, o, none⟩ = false := by
  unfold PAt at h
  exact ⟨h.cell (by go_simp), h.cell (by go_simp), h.cell (by go_simp), fun o => (Below.frozen h (p := ⟨w.heap.size + 1, o, none⟩) (by simp)).trans (by go_simp)⟩
theorem PAt.ext {w : World} {A B : Option Addr} {c d n m : Nat} {g : Int} {w' : World} (h : PAt w A B c d n m g w') : Ext w w' := by
  unfold PAt at h
  exact (((Ext.refl w).alloc _).alloc _).trans h
theorem PAt.go {w : World} {A B : Option Addr} {c d n m : Nat} {g : Int} {w' w'' : World} (h : PAt w A B c d n m g w') (hE : Ext w' w'') : PAt w A B c d n m g w'' := Ext.trans h hE
/-- what Part refuses -/
def PNo (w : World) (A B : Option Addr) (c d n m : Nat) (g k : Int) (e : Ending) (w' : World) : Prop :=
  e = .returned (.tuple #[.agg #[.slice A m c, .int .i64 g, .slice B n d], .int .i64 0, .int .i64 0, .int .i64 k]) ∧ Ext w w'

set_option maxHeartbeats 1600000 in
set_option maxRecDepth 100000 in
theorem rpart_no (A B : Option Addr) (c d n : Nat) (ts : List Tk) (g i : Int) (w : World) (h : Rd kTask w (.slice A ts.length c) ts) (hn : n ≤ 9223372036854775807) (hg : in64 g) (hi : in64 i) (hr : wRight ts g n = false) :
    Calls Tryz.prog 76 #[.agg #[.slice A ts.length c, .int .i64 g, .slice B n d], .int .i64 i] w (PNo w A B c d n ts.length g 1) := by
  have H := Lib.hid h
  have hm := h.len
  have HG := Lib.hid hg
  have HI := Lib.hid hi
  have HYR := Lib.hid hr
  clear h hg hi hr
  go_enter Tryz.func76, Tryz.ntmps76
  go_wp2_with fail
  have hP : PAt w A B c d n ts.length g ((w.alloc (.cells #[.slice A ts.length c, .int .i64 g, .slice B n d] 78)).alloc (.cells #[.slice none 0 0, .int .i64 0, .slice none 0 0] 78)) := Ext.refl _
  refine (rright_any _ _ _ _ _ _ _ _ (H.out.ext hP.ext) hn HG.out).mono ?_
  rintro e w1 ⟨he, hE⟩
  rw [HYR.out] at he
  subst he
  replace hP := hP.go hE
  obtain ⟨q0, q1, q2⟩ := hP.cells
  have HP := Lib.hid hP
  clear hE hP
  obtain ⟨s0, s1, s2, s3⟩ := HP.out.out
  go_wp2_with fail
  refine bodyPost_ret (v := .tuple #[.agg #[.slice A ts.length c, .int .i64 g, .slice B n d], .int .i64 0, .int .i64 0, .int .i64 1]) (by simp [results, Tryz.results76, go_sem]; go_simp) rfl ⟨rfl, ?_⟩
  exact ((HP.out.ext.setCell (by simp) _).setCell (by simp) _).setCell (by simp) _

set_option maxHeartbeats 1600000 in
set_option maxRecDepth 100000 in
theorem rpart_none (A B : Option Addr) (c d n : Nat) (ts : List Tk) (g i : Int) (w : World) (h : Rd kTask w (.slice A ts.length c) ts) (hn : n ≤ 9223372036854775807) (hg : in64 g) (hi : in64 i) (hr : wRight ts g n = true) (hs : wHas ts.length i = false) :
    Calls Tryz.prog 76 #[.agg #[.slice A ts.length c, .int .i64 g, .slice B n d], .int .i64 i] w (PNo w A B c d n ts.length g 6) := by
  have H := Lib.hid h
  have hm := h.len
  have HG := Lib.hid hg
  have HI := Lib.hid hi
  have HYR := Lib.hid hr
  have HYS := Lib.hid hs
  clear h hg hi hr hs
  go_enter Tryz.func76, Tryz.ntmps76
  go_wp2_with fail
  have hP : PAt w A B c d n ts.length g ((w.alloc (.cells #[.slice A ts.length c, .int .i64 g, .slice B n d] 78)).alloc (.cells #[.slice none 0 0, .int .i64 0, .slice none 0 0] 78)) := Ext.refl _
  refine (rright_any _ _ _ _ _ _ _ _ (H.out.ext hP.ext) hn HG.out).mono ?_
  rintro e w1 ⟨he, hE⟩
  rw [HYR.out] at he
  subst he
  replace hP := hP.go hE
  obtain ⟨q0, q1, q2⟩ := hP.cells
  have HP := Lib.hid hP
  clear hE hP
  go_wp2_with fail
  have hP := HP.out
  clear HP q0 q1 q2
  refine (rhas_any _ _ _ _ _ _ _ _ _ hm).mono ?_
  rintro e w1 ⟨he, hE⟩
  rw [HYS.out] at he
  subst he
  replace hP := hP.go hE
  obtain ⟨q0, q1, q2⟩ := hP.cells
  have HP := Lib.hid hP
  clear hE hP
  obtain ⟨s0, s1, s2, s3⟩ := HP.out.out
  go_wp2_with fail
  refine bodyPost_ret (v := .tuple #[.agg #[.slice A ts.length c, .int .i64 g, .slice B n d], .int .i64 0, .int .i64 0, .int .i64 6]) (by simp [results, Tryz.results76, go_sem]; go_simp) rfl ⟨rfl, ?_⟩
  exact ((HP.out.ext.setCell (by simp) _).setCell (by simp) _).setCell (by simp) _

set_option maxHeartbeats 1600000 in
set_option maxRecDepth 100000 in
theorem rpart_small (A B : Option Addr) (c d n : Nat) (ts : List Tk) (g i : Int) (w : World) (h : Rd kTask w (.slice A ts.length c) ts) (hn : n ≤ 9223372036854775807) (hg : in64 g) (hi : in64 i) (hr : wRight ts g n = true) (hs : wHas ts.length i = true) (ht : wGreat ts g n i = false) :
    Calls Tryz.prog 76 #[.agg #[.slice A ts.length c, .int .i64 g, .slice B n d], .int .i64 i] w (PNo w A B c d n ts.length g 5) := by
  have H := Lib.hid h
  have hm := h.len
  have HG := Lib.hid hg
  have HI := Lib.hid hi
  have HYR := Lib.hid hr
  have HYS := Lib.hid hs
  have HYT := Lib.hid ht
  clear h hg hi hr hs ht
  go_enter Tryz.func76, Tryz.ntmps76
  go_wp2_with fail
  have hP : PAt w A B c d n ts.length g ((w.alloc (.cells #[.slice A ts.length c, .int .i64 g, .slice B n d] 78)).alloc (.cells #[.slice none 0 0, .int .i64 0, .slice none 0 0] 78)) := Ext.refl _
  refine (rright_any _ _ _ _ _ _ _ _ (H.out.ext hP.ext) hn HG.out).mono ?_
  rintro e w1 ⟨he, hE⟩
  rw [HYR.out] at he
  subst he
  replace hP := hP.go hE
  obtain ⟨q0, q1, q2⟩ := hP.cells
  have HP := Lib.hid hP
  clear hE hP
  go_wp2_with fail
  have hP := HP.out
  clear HP q0 q1 q2
  refine (rhas_any _ _ _ _ _ _ _ _ _ hm).mono ?_
  rintro e w1 ⟨he, hE⟩
  rw [HYS.out] at he
  subst he
  replace hP := hP.go hE
  obtain ⟨q0, q1, q2⟩ := hP.cells
  have HP := Lib.hid hP
  clear hE hP
  go_wp2_with fail
  have hP := HP.out
  clear HP q0 q1 q2
  refine (rgreat_any _ _ _ _ _ _ _ _ _ (H.out.ext hP.ext) hn HG.out HI.out).mono ?_
  rintro e w1 ⟨he, hE⟩
  rw [HYT.out] at he
  subst he
  replace hP := hP.go hE
  obtain ⟨q0, q1, q2⟩ := hP.cells
  have HP := Lib.hid hP
  clear hE hP
  obtain ⟨s0, s1, s2, s3⟩ := HP.out.out
  go_wp2_with fail
  refine bodyPost_ret (v := .tuple #[.agg #[.slice A ts.length c, .int .i64 g, .slice B n d], .int .i64 0, .int .i64 0, .int .i64 5]) (by simp [results, Tryz.results76, go_sem]; go_simp) rfl ⟨rfl, ?_⟩
  exact ((HP.out.ext.setCell (by simp) _).setCell (by simp) _).setCell (by simp) _

set_option maxHeartbeats 1600000 in
set_option maxRecDepth 100000 in
theorem rpart_wait (A B : Option Addr) (c d n : Nat) (ts : List Tk) (g : Int) (j : Nat) (w : World) (h : Rd kTask w (.slice A ts.length c) ts) (hn : n ≤ 9223372036854775807) (hg : in64 g) (hr : wRight ts g n = true) (hj : j < ts.length) (ht : wGreat ts g n j = true) (h3 : (ts.getD j tk0).wt ≠ 0) :
    Calls Tryz.prog 76 #[.agg #[.slice A ts.length c, .int .i64 g, .slice B n d], .int .i64 j] w (PNo w A B c d n ts.length g 5) := by
  have H := Lib.hid h
  have hm := h.len
  have HG := Lib.hid hg
  have HI : Hid (in64 (j : Int)) := Lib.hid (by unfold in64; omega)
  have HYR := Lib.hid hr
  have HYS : Hid (wHas ts.length (j : Int) = true) := Lib.hid (by unfold wHas; simp; omega)
  have HYT := Lib.hid ht
  obtain ⟨b, off, rfl, hcc⟩ := Rd.tasks H.out (by omega)
  obtain ⟨_, _, _, y3⟩ := hcc j hj
  have e0 : ts.getD j ⟨0, 0, 0, 0⟩ = ts.getD j tk0 := rfl
  rw [e0] at y3
  have hbd : in64 (ts.getD j tk0).wt := (H.out.okAt j hj).2.2.2
  obtain ⟨wt, hwt⟩ : ∃ x, (ts.getD j tk0).wt = x := ⟨_, rfl⟩
  rw [hwt] at y3 hbd h3
  obtain ⟨b1, b2⟩ := hbd
  have Y3 := Lib.hid y3
  have hj' : (j : Int) < ts.length := by omega
  have hj0 : (0 : Int) ≤ j := by omega
  have hwe : (wt == 0) = false := by simpa using h3
  clear h hg hr ht hcc e0 hwt y3
  go_enter Tryz.func76, Tryz.ntmps76
  go_wp2_with fail
  have hP : PAt w (some ⟨b, off, none⟩) B c d n ts.length g ((w.alloc (.cells #[.slice (some ⟨b, off, none⟩) ts.length c, .int .i64 g, .slice B n d] 78)).alloc (.cells #[.slice none 0 0, .int .i64 0, .slice none 0 0] 78)) := Ext.refl _
  refine (rright_any _ _ _ _ _ _ _ _ (H.out.ext hP.ext) hn HG.out).mono ?_
  rintro e w1 ⟨he, hE⟩
  rw [HYR.out] at he
  subst he
  replace hP := hP.go hE
  obtain ⟨q0, q1, q2⟩ := hP.cells
  have HP := Lib.hid hP
  clear hE hP
  go_wp2_with fail
  have hP := HP.out
  clear HP q0 q1 q2
  refine (rhas_any _ _ _ _ _ _ _ _ _ hm).mono ?_
  rintro e w1 ⟨he, hE⟩
  rw [HYS.out] at he
  subst he
  replace hP := hP.go hE
  obtain ⟨q0, q1, q2⟩ := hP.cells
  have HP := Lib.hid hP
  clear hE hP
  go_wp2_with fail
  have hP := HP.out
  clear HP q0 q1 q2
  refine (rgreat_any _ _ _ _ _ _ _ _ _ (H.out.ext hP.ext) hn HG.out HI.out).mono ?_
  rintro e w1 ⟨he, hE⟩
  rw [HYT.out] at he
  subst he
  replace hP := hP.go hE
  obtain ⟨q0, q1, q2⟩ := hP.cells
  have HP := Lib.hid hP
  clear hE hP
  obtain ⟨s0, s1, s2, s3⟩ := HP.out.out
  have q3 := HP.out.ext.cell Y3.out
  go_wp2_with fail
  refine bodyPost_ret (v := .tuple #[.agg #[.slice (some ⟨b, off, none⟩) ts.length c, .int .i64 g, .slice B n d], .int .i64 0, .int .i64 0, .int .i64 5]) (by simp [results, Tryz.results76, go_sem]; go_simp) rfl ⟨rfl, ?_⟩
  exact ((HP.out.ext.setCell (by simp) _).setCell (by simp) _).setCell (by simp) _

set_option maxHeartbeats 1600000 in
set_option maxRecDepth 100000 in
theorem rpart_full (A B : Option Addr) (c d n : Nat) (ts : List Tk) (g : Int) (j : Nat) (w : World) (h : Rd kTask w (.slice A ts.length c) ts) (hn : n ≤ 9223372036854775807) (hg : in64 g) (hr : wRight ts g n = true) (hj : j < ts.length) (ht : wGreat ts g n j = true) (h3 : (ts.getD j tk0).wt = 0) (hf : 1998 < ts.length) :
    Calls Tryz.prog 76 #[.agg #[.slice A ts.length c, .int .i64 g, .slice B n d], .int .i64 j] w (PNo w A B c d n ts.length g 2) := by
  have H := Lib.hid h
  have hm := h.len
  have HG := Lib.hid hg
  have HI : Hid (in64 (j : Int)) := Lib.hid (by unfold in64; omega)
  have HYR := Lib.hid hr
  have HYS : Hid (wHas ts.length (j : Int) = true) := Lib.hid (by unfold wHas; simp; omega)
  have HYT := Lib.hid ht
  obtain ⟨b, off, rfl, hcc⟩ := Rd.tasks H.out (by omega)
  obtain ⟨_, _, _, y3⟩ := hcc j hj
  have e0 : ts.getD j ⟨0, 0, 0, 0⟩ = ts.getD j tk0 := rfl
  rw [e0] at y3
  have hbd : in64 (ts.getD j tk0).wt := (H.out.okAt j hj).2.2.2
  obtain ⟨wt, hwt⟩ : ∃ x, (ts.getD j tk0).wt = x := ⟨_, rfl⟩
  rw [hwt] at y3 hbd h3
  obtain ⟨b1, b2⟩ := hbd
  have Y3 := Lib.hid y3
  have hj' : (j : Int) < ts.length := by omega
  have hj0 : (0 : Int) ≤ j := by omega
  have hf2 : (1998 : Int) < ts.length := by omega
  subst h3
  clear h hg hr ht hcc e0 hwt y3
  go_enter Tryz.func76, Tryz.ntmps76
  go_wp2_with fail
  have hP : PAt w (some ⟨b, off, none⟩) B c d n ts.length g ((w.alloc (.cells #[.slice (some ⟨b, off, none⟩) ts.length c, .int .i64 g, .slice B n d] 78)).alloc (.cells #[.slice none 0 0, .int .i64 0, .slice none 0 0] 78)) := Ext.refl _
  refine (rright_any _ _ _ _ _ _ _ _ (H.out.ext hP.ext) hn HG.out).mono ?_
  rintro e w1 ⟨he, hE⟩
  rw [HYR.out] at he
  subst he
  replace hP := hP.go hE
  obtain ⟨q0, q1, q2⟩ := hP.cells
  have HP := Lib.hid hP
  clear hE hP
  go_wp2_with fail
  have hP := HP.out
  clear HP q0 q1 q2
  refine (rhas_any _ _ _ _ _ _ _ _ _ hm).mono ?_
  rintro e w1 ⟨he, hE⟩
  rw [HYS.out] at he
  subst he
  replace hP := hP.go hE
  obtain ⟨q0, q1, q2⟩ := hP.cells
  have HP := Lib.hid hP
  clear hE hP
  go_wp2_with fail
  have hP := HP.out
  clear HP q0 q1 q2
  refine (rgreat_any _ _ _ _ _ _ _ _ _ (H.out.ext hP.ext) hn HG.out HI.out).mono ?_
  rintro e w1 ⟨he, hE⟩
  rw [HYT.out] at he
  subst he
  replace hP := hP.go hE
  obtain ⟨q0, q1, q2⟩ := hP.cells
  have HP := Lib.hid hP
  clear hE hP
  obtain ⟨s0, s1, s2, s3⟩ := HP.out.out
  have q3 := HP.out.ext.cell Y3.out
  go_wp2_with fail
  refine bodyPost_ret (v := .tuple #[.agg #[.slice (some ⟨b, off, none⟩) ts.length c, .int .i64 g, .slice B n d], .int .i64 0, .int .i64 0, .int .i64 2]) (by simp [results, Tryz.results76, go_sem]; go_simp) rfl ⟨rfl, ?_⟩
  exact ((HP.out.ext.setCell (by simp) _).setCell (by simp) _).setCell (by simp) _

end Go.Proofs.YtkpbanfpnilifaaGreat
