/- The fixed fact of the work's statements: calls with answers named. Written by wip/mk_talive.py. -/
import Derived.Test.YtfigfndabokepaaPBegin
import Derived.Laws.StructEq
namespace Go.Proofs.Ytfigfndabokepaa
open Go.BigFrame
open Go.RowKit Go.Proofs.Ytfigfndabokepaa.Plain

theorem Rd.set3 {α : Type} {K : Kd α} {w : World} {A : Option Addr} {n c V : Nat} {xs : List α} (h : Rd K w (.slice A n c) xs) (hA : From (V + 1) A) (x y z : Value) :
    Rd K (((w.setCell ⟨V, 0, none⟩ x).setCell ⟨V, 1, none⟩ y).setCell ⟨V, 2, none⟩ z) (.slice A n c) xs :=
  ((h.setFar (p := ⟨V, 0, none⟩) (fun a ha => by have := hA a ha; show a.block ≠ V; omega) _).setFar (p := ⟨V, 1, none⟩) (fun a ha => by have := hA a ha; show a.block ≠ V; omega) _).setFar (p := ⟨V, 2, none⟩) (fun a ha => by have := hA a ha; show a.block ≠ V; omega) _
theorem Ext.set3 {w W : World} (h : Ext w W) {V : Nat} (hV : w.heap.size ≤ V) (x y z : Value) : Ext w (((W.setCell ⟨V, 0, none⟩ x).setCell ⟨V, 1, none⟩ y).setCell ⟨V, 2, none⟩ z) :=
  ((h.setCell (p := ⟨V, 0, none⟩) hV _).setCell (p := ⟨V, 1, none⟩) hV _).setCell (p := ⟨V, 2, none⟩) hV _

theorem Rd.lt {α : Type} {K : Kd α} {w : World} {A : Option Addr} {n c : Nat} {xs : List α} (h : Rd K w (.slice A n c) xs) (hl : 0 < xs.length) : ∀ a, A = some a → a.block < w.heap.size := by
  obtain ⟨b, off, rfl, hcc⟩ := h.cells hl
  intro a ha
  cases ha
  have hn : 0 < (K.cells (xs.getD 0 K.d)).length := by rw [K.len]; exact K.pos
  have h9 := hcc 0 hl 0 _ (List.getElem?_eq_getElem hn)
  have h8 := World.block_lt_of_cell? _ _ h9
  exact h8

theorem begin_to (n g : Int) (N : Nat) (w : World) (hn : in64 n) (hg : in64 g) (hc : cOk n g = true) (hN : n.toNat = N) :
    Calls Try.prog 12 #[.int .i64 n, .int .i64 g] w fun e w' => ∃ A c B d, e = .returned (.tuple #[.agg #[.slice A 1 c, .int .i64 g, .slice B N d], .int .i64 0]) ∧
      Rd kTask w' (.slice A 1 c) [⟨0, n, -1, 0⟩] ∧ Rd kBool w' (.slice B N d) (List.replicate N false) ∧ Ext w w' :=
  (pbegin_any n g w hn hg).mono fun e w' h => by
    subst hN
    rcases h with ⟨h, _⟩ | ⟨_, h⟩
    · rw [hc] at h; cases h
    · exact h

theorem part_to (A B : Option Addr) (c d m k m' : Nat) (ts ts' : List Tk) (dn : List Bool) (g i a b : Int) (w : World) (h : Rd kTask w (.slice A m c) ts) (hd : Rd kBool w (.slice B k d) dn) (hm : ts.length = m) (hk : dn.length = k) (hg : in64 g) (hi : in64 i) (hl : m ≤ 1048576) (hl2 : k ≤ 1048576)
    (he : partErr ts g k i = 0) (ht : partedTs ts i.toNat = ts') (hm' : ts'.length = m') (ha : (ts.length : Int) = a) (hb : (ts.length : Int) + 1 = b) :
    Calls Try.prog 8 #[.agg #[.slice A m c, .int .i64 g, .slice B k d], .int .i64 i] w fun e w' => ∃ A c B d, e = .returned (.tuple #[.agg #[.slice A m' c, .int .i64 g, .slice B k d], .int .i64 a, .int .i64 b, .int .i64 0]) ∧
      Rd kTask w' (.slice A m' c) ts' ∧ Rd kBool w' (.slice B k d) dn ∧ From w.heap.size A ∧ From w.heap.size B ∧ Ext w w' := by
  subst hm hk ht hm' ha hb
  exact (ppart_any A B c d ts dn g i w h hd hg hi hl hl2).mono fun e w' hh => by
    rcases hh with ⟨hh, _⟩ | ⟨_, hh⟩
    · exact absurd he hh
    · exact hh

theorem do_to (A B : Option Addr) (c d m k : Nat) (ts ts' : List Tk) (dn dn' : List Bool) (g i : Int) (q : Bool) (w : World) (h : Rd kTask w (.slice A m c) ts) (hd : Rd kBool w (.slice B k d) dn) (hm : ts.length = m) (hk : dn.length = k) (hg : in64 g) (hi : in64 i) (hl : m ≤ 1048576) (hl2 : k ≤ 1048576)
    (he : doErr ts g dn i = 0) (hc : climb (ts.length + 1) ts (ts.getD i.toNat tk0).up = (ts', q)) (hq : marked dn (ts.getD i.toNat tk0).lo.toNat (ts.getD i.toNat tk0).hi.toNat = dn') :
    Calls Try.prog 10 #[.agg #[.slice A m c, .int .i64 g, .slice B k d], .int .i64 i] w fun e w' => ∃ A c B d, e = .returned (.tuple #[.agg #[.slice A m c, .int .i64 g, .slice B k d], .bool q, .int .i64 0]) ∧
      Rd kTask w' (.slice A m c) ts' ∧ Rd kBool w' (.slice B k d) dn' ∧ From w.heap.size A ∧ From w.heap.size B ∧ Ext w w' := by
  subst hm hk hq
  exact (pdo_any A B c d ts dn g i w h hd hg hi hl hl2).mono fun e w' hh => by
    rcases hh with ⟨hh, _⟩ | ⟨_, hh⟩
    · exact absurd he hh
    · unfold DoSaid at hh; rw [hc] at hh; exact hh

theorem do_no (A B : Option Addr) (c d m k : Nat) (ts : List Tk) (dn : List Bool) (g i r : Int) (w : World) (h : Rd kTask w (.slice A m c) ts) (hd : Rd kBool w (.slice B k d) dn) (hm : ts.length = m) (hk : dn.length = k) (hg : in64 g) (hi : in64 i) (hl : m ≤ 1048576) (hl2 : k ≤ 1048576)
    (he : doErr ts g dn i = r) (hr : r ≠ 0) :
    Calls Try.prog 10 #[.agg #[.slice A m c, .int .i64 g, .slice B k d], .int .i64 i] w fun e w' => ∃ A c B d, e = .returned (.tuple #[.agg #[.slice A m c, .int .i64 g, .slice B k d], .bool false, .int .i64 r]) ∧ Ext w w' := by
  subst hm hk
  exact (pdo_any A B c d ts dn g i w h hd hg hi hl hl2).mono fun e w' hh => by
    rcases hh with ⟨_, hh⟩ | ⟨hh, _⟩
    · obtain ⟨A, c, B, d, h1, _, _, h2⟩ := hh
      rw [he] at h1
      exact ⟨A, c, B, d, h1, h2⟩
    · rw [he] at hh; exact absurd hh hr
theorem great_to (A B : Option Addr) (c d m k : Nat) (ts : List Tk) (g i : Int) (q : Bool) (w : World) (h : Rd kTask w (.slice A m c) ts) (hm : ts.length = m) (hk : k ≤ 9223372036854775807) (hg : in64 g) (hi : in64 i) (he : wGreat ts g k i = q) :
    Calls Try.prog 19 #[.agg #[.slice A m c, .int .i64 g, .slice B k d], .int .i64 i] w fun e w' => e = .returned (.bool q) ∧ Ext w w' := by
  subst hm he
  exact pgreat_any A B c d k ts g i w h hk hg hi
theorem right_to (A B : Option Addr) (c d m k : Nat) (ts : List Tk) (g : Int) (q : Bool) (w : World) (h : Rd kTask w (.slice A m c) ts) (hm : ts.length = m) (hk : k ≤ 9223372036854775807) (hg : in64 g) (he : wRight ts g k = q) :
    Calls Try.prog 17 #[.agg #[.slice A m c, .int .i64 g, .slice B k d]] w fun e w' => e = .returned (.bool q) ∧ Ext w w' := by
  subst hm he
  exact right_any A B c d k ts g w h hk hg
theorem count_to (n g a b : Int) (w : World) (hn : in64 n) (hg : in64 g) (ha : countT n g = a) (hb : countL n g = b) :
    Calls Try.prog 14 #[.int .i64 n, .int .i64 g] w fun e w' => e = .returned (.tuple #[.int .i64 a, .int .i64 b]) ∧ Ext w w' := by
  subst ha hb
  exact count_any n g w hn hg

set_option maxHeartbeats 3200000 in
set_option maxRecDepth 100000 in
theorem talive_any (w : World) : Calls Try.prog 6 #[] w fun e w' => e = .returned (.bool true) ∧ Ext w w' := by
  go_enter Try.func6, Try.ntmps6
  go_wp2_with fail
  refine (begin_to 5 2 5 w (by unfold in64; omega) (by unfold in64; omega) (by decide) (by decide)).mono ?_
  rintro e w1 ⟨A1, c1, B1, d1, rfl, hT, hD, hE⟩
  have E1 := Lib.hid hE
  have T1 := Lib.hid hT
  have D1 := Lib.hid hD
  clear hE hT hD
  go_wp2_with fail
  refine (part_to _ _ _ _ 1 5 3 [⟨0, 5, -1, 0⟩] [⟨0, 5, -1, 2⟩, ⟨0, 2, 0, 0⟩, ⟨2, 5, 0, 0⟩] [false, false, false, false, false] 2 0 1 2 _ (T1.out.ext ((Ext.refl _).alloc _)) (D1.out.ext ((Ext.refl _).alloc _)) rfl rfl (by unfold in64; omega) (by unfold in64; omega) (by decide) (by decide) (by decide +kernel) (by decide +kernel) rfl rfl rfl).mono ?_
  rintro e w2 ⟨A2, c2, B2, d2, rfl, hT, hD, hA, hB, hE⟩
  have v0 : w2.cell? ⟨w1.heap.size, 0, none⟩ = some (.slice A1 1 c1) := hE.cell (by go_simp)
  have v1 : w2.cell? ⟨w1.heap.size, 1, none⟩ = some (.int .i64 2) := hE.cell (by go_simp)
  have v2 : w2.cell? ⟨w1.heap.size, 2, none⟩ = some (.slice B1 5 d1) := hE.cell (by go_simp)
  have vf : ∀ o, w2.frozen? ⟨w1.heap.size, o, none⟩ = false := fun o => (Below.frozen hE (p := ⟨w1.heap.size, o, none⟩) (by simp; try omega)).trans (by go_simp)
  have hz := hE.size
  simp at hz
  have FA2 : Hid (From (w1.heap.size + 1) A2) := Lib.hid (hA.mono (by simp))
  have FB2 : Hid (From (w1.heap.size + 1) B2) := Lib.hid (hB.mono (by simp))
  have E2 := Lib.hid ((E1.out.alloc _).trans hE)
  have T2 := Lib.hid hT
  have D2 := Lib.hid hD
  have L2 : w1.heap.size < w2.heap.size := by omega
  have Z1 := Lib.hid E1.out.size
  clear hE hT hD hA hB hz E1 T1 D1
  go_wp2_with fail
  refine (do_to _ _ _ _ 3 5 [⟨0, 5, -1, 2⟩, ⟨0, 2, 0, 0⟩, ⟨2, 5, 0, 0⟩] [⟨0, 5, -1, 1⟩, ⟨0, 2, 0, 0⟩, ⟨2, 5, 0, 0⟩] [false, false, false, false, false] [true, true, false, false, false] 2 1 false _ (T2.out.set3 FA2.out _ _ _) (D2.out.set3 FB2.out _ _ _) rfl rfl (by unfold in64; omega) (by unfold in64; omega) (by decide) (by decide) (by decide +kernel) (by decide +kernel) (by decide +kernel)).mono ?_
  rintro e w3 ⟨A3, c3, B3, d3, rfl, hT, hD, hA, hB, hE⟩
  have x0 : w3.cell? ⟨w1.heap.size, 0, none⟩ = some (.slice A2 3 c2) := hE.cell (by go_simp)
  have x1 : w3.cell? ⟨w1.heap.size, 1, none⟩ = some (.int .i64 2) := hE.cell (by go_simp)
  have x2 : w3.cell? ⟨w1.heap.size, 2, none⟩ = some (.slice B2 5 d2) := hE.cell (by go_simp)
  have xf : ∀ o, w3.frozen? ⟨w1.heap.size, o, none⟩ = false := fun o => (Below.frozen hE (p := ⟨w1.heap.size, o, none⟩) (by simp; try omega)).trans (by have := vf o; go_simp)
  have hz := hE.size
  simp at hz
  have FA3 : Hid (From (w1.heap.size + 1) A3) := Lib.hid (hA.mono (by simp; omega))
  have FB3 : Hid (From (w1.heap.size + 1) B3) := Lib.hid (hB.mono (by simp; omega))
  have E3 := Lib.hid ((E2.out.set3 Z1.out _ _ _).trans hE)
  have T3 := Lib.hid hT
  have D3 := Lib.hid hD
  have L3 : w1.heap.size < w3.heap.size := by omega
  clear hE hT hD hA hB hz E2 T2 D2 FA2 FB2 v0 v1 v2 vf L2
  go_wp2_with fail
  refine (do_no _ _ _ _ 3 5 [⟨0, 5, -1, 1⟩, ⟨0, 2, 0, 0⟩, ⟨2, 5, 0, 0⟩] [true, true, false, false, false] 2 1 5 _ (T3.out.set3 FA3.out _ _ _) (D3.out.set3 FB3.out _ _ _) rfl rfl (by unfold in64; omega) (by unfold in64; omega) (by decide) (by decide) (by decide +kernel) (by decide)).mono ?_
  rintro e w4 ⟨A4, c4, B4, d4, rfl, hE⟩
  have y0 : w4.cell? ⟨w1.heap.size, 0, none⟩ = some (.slice A3 3 c3) := hE.cell (by go_simp)
  have y1 : w4.cell? ⟨w1.heap.size, 1, none⟩ = some (.int .i64 2) := hE.cell (by go_simp)
  have y2 : w4.cell? ⟨w1.heap.size, 2, none⟩ = some (.slice B3 5 d3) := hE.cell (by go_simp)
  have hz := hE.size
  simp at hz
  have E4 := Lib.hid ((E3.out.set3 Z1.out _ _ _).trans hE)
  have T4 := Lib.hid ((T3.out.set3 FA3.out _ _ _).ext hE)
  have D4 := Lib.hid ((D3.out.set3 FB3.out _ _ _).ext hE)
  have L4 : w1.heap.size < w4.heap.size := by omega
  clear hE hz E3 T3 D3 FA3 FB3 x0 x1 x2 xf L3
  go_wp2_with fail
  refine (part_to _ _ _ _ 3 5 5 [⟨0, 5, -1, 1⟩, ⟨0, 2, 0, 0⟩, ⟨2, 5, 0, 0⟩] [⟨0, 5, -1, 1⟩, ⟨0, 2, 0, 0⟩, ⟨2, 5, 0, 2⟩, ⟨2, 3, 2, 0⟩, ⟨3, 5, 2, 0⟩] [true, true, false, false, false] 2 2 3 4 _ (T4.out.ext ((Ext.refl _).alloc _)) (D4.out.ext ((Ext.refl _).alloc _)) rfl rfl (by unfold in64; omega) (by unfold in64; omega) (by decide) (by decide) (by decide +kernel) (by decide +kernel) rfl rfl rfl).mono ?_
  rintro e w5 ⟨A5, c5, B5, d5, rfl, hT, hD, hA, hB, hE⟩
  have a0 : w5.cell? ⟨w1.heap.size, 0, none⟩ = some (.slice A3 3 c3) := hE.cell (by go_simp)
  have a1 : w5.cell? ⟨w1.heap.size, 1, none⟩ = some (.int .i64 2) := hE.cell (by go_simp)
  have a2 : w5.cell? ⟨w1.heap.size, 2, none⟩ = some (.slice B3 5 d3) := hE.cell (by go_simp)
  have hz := hE.size
  simp at hz
  have E5 := Lib.hid ((E4.out.alloc _).trans hE)
  have W5 := Lib.hid ((T4.out.ext ((Ext.refl _).alloc _)).ext hE)
  have FW := Lib.hid (Rd.lt W5.out (by decide))
  have T5 := Lib.hid hT
  have D5 := Lib.hid hD
  have L5 : w1.heap.size < w5.heap.size := by omega
  clear hE hT hD hA hB hz E4 T4 D4 y0 y1 y2 L4
  go_wp2_with fail
  refine (do_to _ _ _ _ 5 5 [⟨0, 5, -1, 1⟩, ⟨0, 2, 0, 0⟩, ⟨2, 5, 0, 2⟩, ⟨2, 3, 2, 0⟩, ⟨3, 5, 2, 0⟩] [⟨0, 5, -1, 1⟩, ⟨0, 2, 0, 0⟩, ⟨2, 5, 0, 1⟩, ⟨2, 3, 2, 0⟩, ⟨3, 5, 2, 0⟩] [true, true, false, false, false] [true, true, false, true, true] 2 4 false _ (T5.out.ext ((Ext.refl _).alloc _)) (D5.out.ext ((Ext.refl _).alloc _)) rfl rfl (by unfold in64; omega) (by unfold in64; omega) (by decide) (by decide) (by decide +kernel) (by decide +kernel) (by decide +kernel)).mono ?_
  rintro e w6 ⟨A6, c6, B6, d6, rfl, hT, hD, hA, hB, hE⟩
  have b0 : w6.cell? ⟨w1.heap.size, 0, none⟩ = some (.slice A3 3 c3) := hE.cell (by go_simp)
  have b1 : w6.cell? ⟨w1.heap.size, 1, none⟩ = some (.int .i64 2) := hE.cell (by go_simp)
  have b2 : w6.cell? ⟨w1.heap.size, 2, none⟩ = some (.slice B3 5 d3) := hE.cell (by go_simp)
  have p0 : w6.cell? ⟨w5.heap.size, 0, none⟩ = some (.slice A5 5 c5) := hE.cell (by go_simp)
  have p1 : w6.cell? ⟨w5.heap.size, 1, none⟩ = some (.int .i64 2) := hE.cell (by go_simp)
  have p2 : w6.cell? ⟨w5.heap.size, 2, none⟩ = some (.slice B5 5 d5) := hE.cell (by go_simp)
  have pf : ∀ o, w6.frozen? ⟨w5.heap.size, o, none⟩ = false := fun o => (Below.frozen hE (p := ⟨w5.heap.size, o, none⟩) (by simp; try omega)).trans (by go_simp)
  have hz := hE.size
  simp at hz
  have FA6 : Hid (From (w5.heap.size + 1) A6) := Lib.hid (hA.mono (by simp))
  have FB6 : Hid (From (w5.heap.size + 1) B6) := Lib.hid (hB.mono (by simp))
  have Z5 := Lib.hid E5.out.size
  have E6 := Lib.hid ((E5.out.alloc _).trans hE)
  have W6 := Lib.hid ((W5.out.ext ((Ext.refl _).alloc _)).ext hE)
  have T6 := Lib.hid hT
  have D6 := Lib.hid hD
  have L6 : w1.heap.size < w6.heap.size := by omega
  have M6 : w5.heap.size < w6.heap.size := by omega
  have N6 : ¬ w1.heap.size = w5.heap.size := by omega
  have N7 : ¬ w5.heap.size = w1.heap.size := by omega
  clear hE hT hD hA hB hz E5 T5 D5 W5 a0 a1 a2
  go_wp2_with fail
  refine (do_to _ _ _ _ 5 5 [⟨0, 5, -1, 1⟩, ⟨0, 2, 0, 0⟩, ⟨2, 5, 0, 1⟩, ⟨2, 3, 2, 0⟩, ⟨3, 5, 2, 0⟩] [⟨0, 5, -1, 0⟩, ⟨0, 2, 0, 0⟩, ⟨2, 5, 0, 0⟩, ⟨2, 3, 2, 0⟩, ⟨3, 5, 2, 0⟩] [true, true, false, true, true] [true, true, true, true, true] 2 3 true _ (T6.out.set3 FA6.out _ _ _) (D6.out.set3 FB6.out _ _ _) rfl rfl (by unfold in64; omega) (by unfold in64; omega) (by decide) (by decide) (by decide +kernel) (by decide +kernel) (by decide +kernel)).mono ?_
  rintro e w7 ⟨A7, c7, B7, d7, rfl, hT, hD, hA, hB, hE⟩
  have cc0 : w7.cell? ⟨w1.heap.size, 0, none⟩ = some (.slice A3 3 c3) := hE.cell (by go_simp)
  have cc1 : w7.cell? ⟨w1.heap.size, 1, none⟩ = some (.int .i64 2) := hE.cell (by go_simp)
  have cc2 : w7.cell? ⟨w1.heap.size, 2, none⟩ = some (.slice B3 5 d3) := hE.cell (by go_simp)
  have q0 : w7.cell? ⟨w5.heap.size, 0, none⟩ = some (.slice A6 5 c6) := hE.cell (by go_simp)
  have q1 : w7.cell? ⟨w5.heap.size, 1, none⟩ = some (.int .i64 2) := hE.cell (by go_simp)
  have q2 : w7.cell? ⟨w5.heap.size, 2, none⟩ = some (.slice B6 5 d6) := hE.cell (by go_simp)
  have qf : ∀ o, w7.frozen? ⟨w5.heap.size, o, none⟩ = false := fun o => (Below.frozen hE (p := ⟨w5.heap.size, o, none⟩) (by simp; try omega)).trans (by have := pf o; go_simp)
  have hz := hE.size
  simp at hz
  have FA7 : Hid (From (w5.heap.size + 1) A7) := Lib.hid (hA.mono (by simp; omega))
  have E7 := Lib.hid ((E6.out.set3 Z5.out _ _ _).trans hE)
  have W7 : Hid (Rd kTask w7 (.slice A3 3 c3) [⟨0, 5, -1, 1⟩, ⟨0, 2, 0, 0⟩, ⟨2, 5, 0, 0⟩]) := Lib.hid ((((W6.out.setFar (p := ⟨w5.heap.size, 0, none⟩) (fun a ha => by have := FW.out a ha; show a.block ≠ w5.heap.size; omega) _).setFar (p := ⟨w5.heap.size, 1, none⟩) (fun a ha => by have := FW.out a ha; show a.block ≠ w5.heap.size; omega) _).setFar (p := ⟨w5.heap.size, 2, none⟩) (fun a ha => by have := FW.out a ha; show a.block ≠ w5.heap.size; omega) _).ext hE)
  have T7 := Lib.hid hT
  have L7 : w1.heap.size < w7.heap.size := by omega
  have M7 : w5.heap.size < w7.heap.size := by omega
  clear hE hT hD hA hB hz E6 T6 D6 W6 FA6 FB6 b0 b1 b2 p0 p1 p2 pf L6 M6
  go_wp2_with fail
  refine (count_to 5 2 5 3 _ (by unfold in64; omega) (by unfold in64; omega) (by decide +kernel) (by decide +kernel)).mono ?_
  rintro e w8 ⟨rfl, hE⟩
  have e0 : w8.cell? ⟨w1.heap.size, 0, none⟩ = some (.slice A3 3 c3) := hE.cell (by go_simp)
  have e1 : w8.cell? ⟨w1.heap.size, 1, none⟩ = some (.int .i64 2) := hE.cell (by go_simp)
  have e2 : w8.cell? ⟨w1.heap.size, 2, none⟩ = some (.slice B3 5 d3) := hE.cell (by go_simp)
  have r0 : w8.cell? ⟨w5.heap.size, 0, none⟩ = some (.slice A7 5 c7) := hE.cell (by go_simp)
  have r1 : w8.cell? ⟨w5.heap.size, 1, none⟩ = some (.int .i64 2) := hE.cell (by go_simp)
  have r2 : w8.cell? ⟨w5.heap.size, 2, none⟩ = some (.slice B7 5 d7) := hE.cell (by go_simp)
  have E8 := Lib.hid ((E7.out.set3 Z5.out _ _ _).trans hE)
  have T8 := Lib.hid ((T7.out.set3 FA7.out _ _ _).ext hE)
  have W8 : Hid (Rd kTask w8 (.slice A3 3 c3) [⟨0, 5, -1, 1⟩, ⟨0, 2, 0, 0⟩, ⟨2, 5, 0, 0⟩]) := Lib.hid ((((W7.out.setFar (p := ⟨w5.heap.size, 0, none⟩) (fun a ha => by have := FW.out a ha; show a.block ≠ w5.heap.size; omega) _).setFar (p := ⟨w5.heap.size, 1, none⟩) (fun a ha => by have := FW.out a ha; show a.block ≠ w5.heap.size; omega) _).setFar (p := ⟨w5.heap.size, 2, none⟩) (fun a ha => by have := FW.out a ha; show a.block ≠ w5.heap.size; omega) _).ext hE)
  clear hE E7 T7 W7 cc0 cc1 cc2 q0 q1 q2 qf L7 M7
  go_wp2_with fail
  refine (right_to _ _ _ _ 5 5 [⟨0, 5, -1, 0⟩, ⟨0, 2, 0, 0⟩, ⟨2, 5, 0, 0⟩, ⟨2, 3, 2, 0⟩, ⟨3, 5, 2, 0⟩] 2 true _ T8.out rfl (by decide) (by unfold in64; omega) (by decide +kernel)).mono ?_
  rintro e w9 ⟨rfl, hE⟩
  have f0 : w9.cell? ⟨w1.heap.size, 0, none⟩ = some (.slice A3 3 c3) := hE.cell (by go_simp)
  have f1 : w9.cell? ⟨w1.heap.size, 1, none⟩ = some (.int .i64 2) := hE.cell (by go_simp)
  have f2 : w9.cell? ⟨w1.heap.size, 2, none⟩ = some (.slice B3 5 d3) := hE.cell (by go_simp)
  have s0 : w9.cell? ⟨w5.heap.size, 0, none⟩ = some (.slice A7 5 c7) := hE.cell (by go_simp)
  have s1 : w9.cell? ⟨w5.heap.size, 1, none⟩ = some (.int .i64 2) := hE.cell (by go_simp)
  have s2 : w9.cell? ⟨w5.heap.size, 2, none⟩ = some (.slice B7 5 d7) := hE.cell (by go_simp)
  have E9 := Lib.hid (E8.out.trans hE)
  have W9 := Lib.hid (W8.out.ext hE)
  obtain ⟨bx, ox, rfl, hcx⟩ := Rd.tasks T8.out (by decide)
  obtain ⟨g0, g1, g2, g3⟩ := hcx 4 (by decide)
  have h0 : w9.cell? ⟨bx, ox + 16, none⟩ = some (.int .i64 3) := hE.cell g0
  have h1 : w9.cell? ⟨bx, ox + 17, none⟩ = some (.int .i64 5) := hE.cell g1
  have h2 : w9.cell? ⟨bx, ox + 18, none⟩ = some (.int .i64 2) := hE.cell g2
  have h3 : w9.cell? ⟨bx, ox + 19, none⟩ = some (.int .i64 0) := hE.cell g3
  clear hE E8 T8 W8 e0 e1 e2 r0 r1 r2 hcx g0 g1 g2 g3
  go_wp2_with fail
  refine (great_to _ _ _ _ 3 5 [⟨0, 5, -1, 1⟩, ⟨0, 2, 0, 0⟩, ⟨2, 5, 0, 0⟩] 2 2 true _ W9.out rfl (by decide) (by unfold in64; omega) (by unfold in64; omega) (by decide +kernel)).mono ?_
  rintro e w10 ⟨rfl, hE⟩
  have k0 : w10.cell? ⟨w1.heap.size, 0, none⟩ = some (.slice A3 3 c3) := hE.cell (by go_simp)
  have k1 : w10.cell? ⟨w1.heap.size, 1, none⟩ = some (.int .i64 2) := hE.cell (by go_simp)
  have k2 : w10.cell? ⟨w1.heap.size, 2, none⟩ = some (.slice B3 5 d3) := hE.cell (by go_simp)
  have E10 := Lib.hid (E9.out.trans hE)
  clear hE
  go_wp2_with fail
  go_ret
  exact ⟨rfl, E10.out⟩
end Go.Proofs.Ytfigfndabokepaa
