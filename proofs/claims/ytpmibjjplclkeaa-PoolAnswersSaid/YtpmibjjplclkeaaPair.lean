/- Two lists, each appended to an empty one, and a pool of both: whatever the order. -/
import Derived.Test.YtpmibjjplclkeaaTo
import Derived.Test.YtpmibjjplclkeaaAlive
import Derived.Test.YtpmibjjplclkeaaMono
import Derived.Deep.RegionHeld3
import Derived.Deep.DeepCutAuto
namespace Go.Proofs.Ytpmibjjplclkeaa
open Go.RowKit Go.Proofs.Ytpmibjjplclkeaa.Plain

theorem hp_new {w : World} {o : Obj} {k : Nat} (h : k = w.heap.size) : (w.alloc o).heap[k]? = some o := by subst h; exact heap_alloc_new w o
theorem hp_old {w : World} {o : Obj} {k : Nat} (h : k < w.heap.size) : (w.alloc o).heap[k]? = w.heap[k]? := Below.heap_alloc w o k h
theorem ownEmpty {w : World} {x : Nat} (h : w.heap[x]? = some (.cells #[] 3 (0, 0))) : Own x w (.slice (some ⟨x, 0, none⟩) 0 0) [] :=
  ⟨⟨rfl, .inr ⟨x, 0, #[], rfl, Nat.le_refl _, h, Nat.le_refl _, by simp [maxLen], rfl, rfl⟩⟩, by simp⟩
theorem growAll {w w' : World} {x n c : Nat} (hg : w.grownBy w' (Value.ownBlock (.slice (some ⟨x, 0, none⟩) n c))) :
    (∀ b o, b < w.heap.size → b ≠ x → w'.cell? ⟨b, o, none⟩ = w.cell? ⟨b, o, none⟩) ∧ (∀ b o, b < w.heap.size → b ≠ x → w'.frozen? ⟨b, o, none⟩ = w.frozen? ⟨b, o, none⟩) ∧
      (∀ b, b < w.heap.size → b ≠ x → w'.heap[b]? = w.heap[b]?) :=
  ⟨fun b o hb hne => World.cell?_of_block (a := ⟨b, o, none⟩) (hg.block b hb (fun e => hne (by cases e; rfl))),
   fun b o hb hne => World.frozen?_of_block (a := ⟨b, o, none⟩) (hg.block b hb (fun e => hne (by cases e; rfl))),
   fun b hb hne => hg.block b hb (fun e => hne (by cases e; rfl))⟩
/-- an empty list of the call's own, appended to: nothing that was there has turned -/
theorem ext_app {w0 w w' : World} {x n c : Nat} (h : Ext w0 w) (hx : w0.heap.size ≤ x) (hg : w.grownBy w' (Value.ownBlock (.slice (some ⟨x, 0, none⟩) n c))) : Ext w0 w' :=
  h.grown hg (fun k hk => by cases hk; exact hx)

/-- an empty list of the call's own -/
def EmptyAt (B : Nat) (w : World) (v : Value) : Prop := ∃ x, v = .slice (some ⟨x, 0, none⟩) 0 0 ∧ B ≤ x ∧ w.heap[x]? = some (.cells #[] 3 (0, 0))
theorem keep_block {w w' : World} {x : Nat} {o : Obj} (h : w.heap[x]? = some o) (hE : Ext w w') : w'.heap[x]? = some o := by
  have hlt : x < w.heap.size := by
    rcases Nat.lt_or_ge x w.heap.size with h' | h'
    · exact h'
    · rw [Array.getElem?_eq_none h'] at h; cases h
  exact (Below.block hE x hlt).trans h
theorem EmptyAt.ext {B : Nat} {w w' : World} {v : Value} (h : EmptyAt B w v) (hE : Ext w w') : EmptyAt B w' v := by
  obtain ⟨x, rfl, hB, hx⟩ := h
  exact ⟨x, rfl, hB, keep_block hx hE⟩
/-- a list of the call's own -/
def OwnAt (B : Nat) (w : World) (v : Value) (xs : List Int) : Prop := ∃ A c, v = .slice A xs.length c ∧ Own B w (.slice A xs.length c) xs
theorem OwnAt.ext {B : Nat} {w w' : World} {v : Value} {xs : List Int} (h : OwnAt B w v xs) (hE : Ext w w') : OwnAt B w' v xs := by
  obtain ⟨A, c, rfl, h⟩ := h
  exact ⟨A, c, rfl, h.ext hE⟩
/-- a new block of these cells -/
def BoxAt (B : Nat) (w : World) (v : Value) (cs : Array Value) (t : TypeId) : Prop := ∃ g, v = .pointer (some ⟨g, 0, none⟩) ∧ B ≤ g ∧ w.heap[g]? = some (.cells cs t (0, 0))
theorem BoxAt.ext {B : Nat} {w w' : World} {v : Value} {cs : Array Value} {t : TypeId} (h : BoxAt B w v cs t) (hE : Ext w w') : BoxAt B w' v cs t := by
  obtain ⟨g, rfl, hB, hx⟩ := h
  exact ⟨g, rfl, hB, keep_block hx hE⟩
/-- the cells of a list, at its address -/
theorem Ints.at_ {w : World} {ad : Addr} {n c : Nat} {ys : List Int} (h : Ints w (.slice (some ad) n c) ys) : ∀ j u, (ys.map (Value.int .i64))[j]? = some u → w.cell? (ad.add j) = some u := by
  intro j u hu
  rw [List.getElem?_map] at hu
  cases hh : ys[j]? with
  | none => rw [hh] at hu; cases hu
  | some z =>
    rw [hh] at hu
    cases hu
    have hj : j < ys.length := by
      rcases Nat.lt_or_ge j ys.length with hlt | hge
      · exact hlt
      · rw [List.getElem?_eq_none hge] at hh; cases hh
    obtain ⟨b, off, he, hcc⟩ := h.cells (by omega)
    cases he
    have := hcc j hj
    rw [List.getD_eq_getElem?_getD, hh] at this
    have e : (⟨b, off, none⟩ : Addr).add j = ⟨b, off + j, none⟩ := by
      by_cases h0 : j = 0
      · subst h0; rfl
      · simp [Addr.add, h0]
    rw [e]; exact this

/-- an append that finds no room: a new block; all that was stays -/
theorem app_full {B : Nat} {w : World} {b : Addr} {n cap : Nat} {xs : List Int} {y : Value} {ys : List Int} (hx : Ints w (.slice (some b) n cap) xs) (hn : n = xs.length) (hcap : cap < xs.length + ys.length) (hy : Ints w y ys) (hl : xs.length + ys.length ≤ 1048576) (hB : B ≤ w.heap.size) :
    ∃ v' w', (Builtin.append_ #[22, 22] 22 #[.slice (some b) n cap, y]).run Try.prog w = .ok v' w' ∧ Ext w w' ∧ OwnAt B w' v' (xs ++ ys) ∧ v'.ownBlock = some w.heap.size := by
  subst hn
  obtain ⟨i0, hi, hz0, hz1, hz2⟩ := info_parts intInfo
  have hxat := hx.at_
  have hbx := hx.2.1
  obtain ⟨_, hby, A, c, rfl, hc', hcc⟩ := id hy
  rcases A with _ | ad
  · exfalso
    have h0 : ys = [] := by
      cases ys with
      | nil => rfl
      | cons a l => obtain ⟨b, off, h, _⟩ := hcc (by simp); cases h
    subst h0
    obtain ⟨_, _, A, c, he, hc2, _⟩ := hx
    cases he
    simp at hcap
    omega
  · have hr := run_append_grow (P := Try.prog) w 22 22 3 i0 (.int .i64 0) Try.underlying22 hi hz0 b xs.length cap (xs.map (Value.int .i64)) (by simp [hz1]) hxat ad ys.length c (ys.map (Value.int .i64)) (by simp [hz1]) hy.at_ hcap (by omega)
      (growslice_fits hcap (by rw [hz2]; omega))
    refine ⟨_, _, hr, (Ext.refl w).drew.alloc _, ⟨some ⟨w.heap.size, 0, none⟩, grownCap w (xs.length + ys.length) cap 3, by simp, ?_⟩, rfl⟩
    refine ⟨⟨by simp, .inr ⟨w.heap.size, _, _, rfl, hB, heap_alloc_new w.drew _, by simp; exact grownCap_ge w _ _ _, grownCap_le_maxLen w _ _ _ (by unfold maxLen; omega), ?_, ?_⟩⟩, fun k hk => ?_⟩
    · have := grownCap_ge w (xs.length + ys.length) cap 3
      simp only [Array.size_append, List.size_toArray, size_zeroCells, List.length_map, show (Value.int IntKind.i64 0).cells.size = 1 from rfl]
      omega
    · simp only [Array.toList_append, List.append_assoc, List.map_append, List.length_append, Nat.mul_one]
      rw [← List.append_assoc]
      exact List.take_left' (by simp)
    · rcases List.mem_append.1 hk with h | h
      · exact hbx k h
      · exact hby k h

/-- 'append([]int{}, ys...)': a list of its own; a block that is not the other one's, where it isn't empty -/
theorem app_empty {B : Nat} {w : World} {v : Value} {y : Value} {ys : List Int} (hv : EmptyAt B w v) (hy : Ints w y ys) (hl : ys.length ≤ 1048576) (hBw : B ≤ w.heap.size) :
    ∃ v' w', (Builtin.append_ #[22, 22] 22 #[v, y]).run Try.prog w = .ok v' w' ∧ Ext w w' ∧ OwnAt B w' v' ys ∧ (0 < ys.length → v'.ownBlock = some w.heap.size) := by
  obtain ⟨x, rfl, hB, hx⟩ := hv
  by_cases h0 : 0 < ys.length
  · obtain ⟨v', w', h1, h2, h3, h4⟩ := app_full (B := B) (xs := []) (b := ⟨x, 0, none⟩) (cap := 0) (Ints.nil w _ 0) rfl (by simpa using h0) hy (by simpa using hl) hBw
    exact ⟨v', w', h1, h2, by simpa using h3, fun _ => h4⟩
  · obtain rfl : ys = [] := List.eq_nil_of_length_eq_zero (by omega)
    obtain ⟨i0, hi, hz0, hz1, hz2⟩ := info_parts intInfo
    obtain ⟨_, _, A, c, rfl, _, _⟩ := hy
    have hown : OwnAt B w (.slice (some ⟨x, 0, none⟩) 0 0) [] := ⟨_, 0, rfl, (ownEmpty hx).mono hB⟩
    rcases A with _ | ad
    · refine ⟨_, w, ?_, Ext.refl _, hown, by simp⟩
      simp [Builtin.append_, run_underlying Try.underlying22, sizeOf, typeInfo, hi, Builtin.lenOf, Builtin.firstCells, storeCells]
    · have hr := run_append_room (P := Try.prog) w 22 22 3 i0 Try.underlying22 hi x 0 0 #[] hx ad 0 c [] (by simp) (by simp) (by simp) (by omega) (by simp)
      have hE : Ext w (w.setRow x #[]) := ⟨rfl, rfl, rfl, by simp [World.setRow], fun k hk => by
        by_cases e : k = x
        · subst e; rw [setRow_heap w k _ _ _ _ hx, hx]
        · exact setRow_other w x k _ e⟩
      exact ⟨_, _, by simpa using hr, hE, hown.ext hE, by simp⟩

theorem yields_app {o : Oper} {a : Act} {w w' : World} {R : Value → World → Prop} (s x : Operand) {v y v' : Value}
    (ho : o.op = .call { callee := .builtin .append, args := #[s, x], argTypes := #[22, 22] }) (hty : o.type = 22) (hs : a.eval s = v) (hx : a.eval x = y)
    (hr : (Builtin.append_ #[22, 22] 22 #[v, y]).run Try.prog w = .ok v' w') (hR : R v' w') : Mono.Yields Try.prog R ((execOp a.eval o).run Try.prog w) := by
  unfold execOp
  simp only [ho, hty, resolve, invoke, builtin, Sem.run_bind, Sem.run_pure, Result.andThen_ok, List.map_toArray, List.map_cons, List.map_nil, hs, hx, hr]
  exact ⟨hR⟩

/-- a pool that a call has made, behind a pointer -/
def NewPool (w : World) (gs xs : List Int) (s : Value) (wx : World) : Prop :=
  ∃ g A c B d, s = .pointer (some ⟨g, 0, none⟩) ∧ w.heap.size ≤ g ∧ g < wx.heap.size ∧ wx.cell? ⟨g, 0, none⟩ = some (.slice A gs.length c) ∧ wx.cell? ⟨g, 1, none⟩ = some (.slice B xs.length d) ∧
    (∀ o, wx.frozen? ⟨g, o, none⟩ = false) ∧ Own w.heap.size wx (.slice A gs.length c) gs ∧ Own w.heap.size wx (.slice B xs.length d) xs ∧
    ((0 < xs.length → ∀ k, Value.ownBlock (.slice B xs.length d) = some k → Value.ownBlock (.slice A gs.length c) ≠ some k) ∧ Value.ownBlock (.slice A gs.length c) ≠ some g ∧ Value.ownBlock (.slice B xs.length d) ≠ some g) ∧ Ext w wx

theorem own_far {B : Nat} {w : World} {v : Value} {xs : List Int} {g : Nat} {cs : Array Value} {t : TypeId} (h : Own B w v xs) (hb : w.heap[g]? = some (.cells cs t (0, 0))) (ht : t ≠ 3) : v.ownBlock ≠ some g := by
  rcases h.1.2 with ⟨rfl, _⟩ | ⟨g', cap, cur, rfl, _, hh, _⟩
  · simp [Value.ownBlock]
  · intro e
    have : g' = g := by simpa [Value.ownBlock] using e
    subst this
    rw [hb] at hh
    cases hh
    exact ht rfl

theorem tail_pool {w0 w5 : World} {gs xs : List Int} (hE : Ext w0 w5) {A3 A7 : Option Addr} {c3 c7 g : Nat} {z0 z1 : Value} (ho3 : Own w0.heap.size w5 (.slice A3 gs.length c3) gs) (ho7 : Own w0.heap.size w5 (.slice A7 xs.length c7) xs)
    (hb : 0 < xs.length → ∀ k, Value.ownBlock (.slice A7 xs.length c7) = some k → Value.ownBlock (.slice A3 gs.length c3) ≠ some k) (hg : w0.heap.size ≤ g) (hblk : w5.heap[g]? = some (.cells #[z0, z1] 24 (0, 0))) :
    NewPool w0 gs xs (.pointer (some ⟨g, 0, none⟩)) ((w5.setCell ⟨g, 0, none⟩ (.slice A3 gs.length c3)).setCell ⟨g, 1, none⟩ (.slice A7 xs.length c7)) := by
  have hgl : g < w5.heap.size := (Array.getElem?_eq_some_iff.1 hblk).1
  have c0 : w5.cell? ⟨g, 0, none⟩ = some z0 := (cell_of_row w5 g 0 _ _ _ hblk).trans rfl
  have c1 : w5.cell? ⟨g, 1, none⟩ = some z1 := (cell_of_row w5 g 1 _ _ _ hblk).trans rfl
  have hne : (⟨g, 1, none⟩ : Addr) ≠ ⟨g, 0, none⟩ := by intro h; cases h
  have hne' : (⟨g, 0, none⟩ : Addr) ≠ ⟨g, 1, none⟩ := by intro h; cases h
  have f3 := own_far ho3 hblk (by decide)
  have f7 := own_far ho7 hblk (by decide)
  refine ⟨g, A3, c3, A7, c7, rfl, hg, by simpa [World.setCell] using hgl, ?_, ?_, fun o => ?_, ?_, ?_, ⟨hb, f3, f7⟩, ?_⟩
  · rw [World.cell?_setCell_other _ _ _ _ hne, World.cell?_setCell_same _ _ _ c0]
  · rw [World.cell?_setCell_same _ _ _ ((World.cell?_setCell_other _ _ _ _ hne').trans c1)]
  · rw [World.frozen?_setCell, World.frozen?_setCell]; exact frozen_of_row _ _ o _ _ hblk
  · exact (ho3.setOther (p := ⟨g, 0, none⟩) f3 _).setOther (p := ⟨g, 1, none⟩) f3 _
  · exact (ho7.setOther (p := ⟨g, 0, none⟩) f7 _).setOther (p := ⟨g, 1, none⟩) f7 _
  · exact (hE.setCell (p := ⟨g, 0, none⟩) hg _).setCell (p := ⟨g, 1, none⟩) hg _
end Go.Proofs.Ytpmibjjplclkeaa
