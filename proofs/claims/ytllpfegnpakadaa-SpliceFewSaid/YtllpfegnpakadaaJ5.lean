/- Joined by wip/merge.py: T14K, T14L, T14W, T14G, T14U, T15T, T15V, T15C, T15M, T15R. -/
import Derived.Test.YtllpfegnpakadaaJ4
import Derived.Deep.RegionHeld3
set_option linter.unusedVariables false
set_option linter.unusedSimpArgs false
set_option linter.unnecessarySimpa false
/- The program's linked (tower): of each node, and each level below its height, the next place. Written by wip/tools/gen14k.py. -/
namespace Go.Proofs.Ytllpfegnpakadaa
open Go.BigFrame
open Go.RowKit Go.Shelf Go.Proofs.Ytllpfegnpakadaa.Plain
attribute [local go_sem] Oper.semAt_some

/-- a list of one's own isn't such a box -/
theorem Ow.notKind {α : Type} {K : Kd α} {B : Nat} {w : World} {v : Value} {xs : List α} (h : Ow K B w v xs) {b : Nat} {cs : Array Value} {t : TypeId} {fr : Nat × Nat} (hb : w.heap[b]? = some (.cells cs t fr)) (hne : K.e ≠ t) : v.ownBlock ≠ some b := by
  intro e
  rcases h.1.2 with ⟨rfl, _⟩ | ⟨g, cap, cur, rfl, _, hh, _⟩
  · simp [Value.ownBlock] at e
  · simp only [Value.ownBlock, Option.some.injEq] at e
    subst e
    rw [hh] at hb
    simp at hb
    exact hne hb.2.1
/-- .. nor a block that is no cells -/
theorem Ow.keptN {α : Type} {K : Kd α} {B : Nat} {w w' : World} {v : Value} {xs : List α} {row : Option Nat} (h : Ow K B w v xs) (hg : w.grownBy w' row) (hr : ∀ r, row = some r → ∃ o : Obj, w.heap[r]? = some o ∧ o.isCells = false) : Ow K B w' v xs := by
  refine h.kept hg ?_
  rcases h.1.2 with ⟨rfl, _⟩ | ⟨g, cap, cur, rfl, _, hh, _⟩
  · exact .inl rfl
  · refine .inr (fun e => ?_)
    obtain ⟨o, ho, hc⟩ := hr g e.symm
    rw [hh] at ho
    cases ho
    cases hc
/-- one row is put in another's place -/
theorem Oww.set {B g n c : Nat} {w : World} {D : List (List Int)} (h : Oww B w (.slice (some ⟨g, 0, none⟩) n c) D) {j : Nat} (hj : j < D.length) (A : Option Addr) (m e' : Nat) (ys : List Int) (hy : Ow kInt B w (.slice A m e') ys) :
    Oww B (w.setCell ⟨g, j, none⟩ (.slice A m e')) (.slice (some ⟨g, 0, none⟩) n c) (D.set j ys) := by
  obtain ⟨hs, h1, h2, h3⟩ := h
  have hset := h1.set (j := j) (i := 0) (x := ⟨A, m, e'⟩) (u := .slice A m e') (by omega) (by decide) rfl trivial
  rw [show j * kRow.n + 0 = j from by show j * 1 + 0 = j; omega] at hset
  refine ⟨_, hset, by rw [List.length_set, List.length_set, h2], fun k hk => ?_⟩
  rw [List.length_set] at hk
  have far : ∀ (v : Value) (xs : List Int), Ow kInt B w v xs → v.ownBlock ≠ some g := fun v xs ho e => Ow.far (by decide) ho h1 g e rfl
  by_cases e : j = k
  · subst e
    rw [List.getD_eq_getElem?_getD, List.getElem?_set_self (by omega), List.getD_eq_getElem?_getD, List.getElem?_set_self hk]
    exact hy.setOther (p := ⟨g, j, none⟩) (far _ _ hy) _
  · rw [show (hs.set j ⟨A, m, e'⟩).getD k hd0 = hs.getD k hd0 by rw [List.getD_eq_getElem?_getD, List.getElem?_set_ne e, ← List.getD_eq_getElem?_getD], show (D.set j ys).getD k [] = D.getD k [] by rw [List.getD_eq_getElem?_getD, List.getElem?_set_ne e, ← List.getD_eq_getElem?_getD]]
    exact (h3 k hk).setOther (p := ⟨g, j, none⟩) (far _ _ (h3 k hk)) _
/-- rows, and the nearest places, as they lie -/
structure LkSt (B G M n : Nat) (s : List (List Int) × List Int) (W : World) : Prop where
  rows : Oww B W (.slice (some ⟨G, 0, none⟩) n n) s.1
  dl : s.1.length = n
  xl : s.2.length = 8
  xok : ∀ x ∈ s.2, in64 x
  near : W.heap[M]? = some (.cells (s.2.map (Value.int .i64)).toArray 81 (0, 0))
theorem LkSt.keptN {B G M n : Nat} {s : List (List Int) × List Int} {W W' : World} {row : Option Nat} (h : LkSt B G M n s W) (hg : W.grownBy W' row) (hr : ∀ r, row = some r → ∃ o : Obj, W.heap[r]? = some o ∧ o.isCells = false) : LkSt B G M n s W' := by
  obtain ⟨⟨hs, h1, h2, h3⟩, h4, h5, h6, h7⟩ := h
  refine ⟨⟨hs, h1.keptN hg hr, h2, fun j hj => (h3 j hj).keptN hg hr⟩, h4, h5, h6, ?_⟩
  rw [hg.block M (Array.getElem?_eq_some_iff.1 h7).1 (fun e => by
    obtain ⟨o, ho, hc⟩ := hr M e.symm
    rw [h7] at ho; cases ho; cases hc)]
  exact h7
theorem LkSt.ext {B G M n : Nat} {s : List (List Int) × List Int} {W W' : World} (h : LkSt B G M n s W) (hE : Ext W W') : LkSt B G M n s W' :=
  ⟨h.rows.ext hE, h.dl, h.xl, h.xok, (hE.block M (Array.getElem?_eq_some_iff.1 h.near).1).trans h.near⟩
theorem LkSt.lt {B G M n : Nat} {s : List (List Int) × List Int} {W : World} (h : LkSt B G M n s W) : G < W.heap.size ∧ M < W.heap.size := ⟨(h.rows.lt G rfl).2, (Array.getElem?_eq_some_iff.1 h.near).1⟩
theorem LkSt.setRow {B G M n : Nat} {s : List (List Int) × List Int} {W : World} (h : LkSt B G M n s W) {j : Nat} (hj : j < n) (A : Option Addr) (m e : Nat) (ys : List Int) (hy : Ow kInt B W (.slice A m e) ys) : LkSt B G M n (s.1.set j ys, s.2) (W.setCell ⟨G, j, none⟩ (.slice A m e)) := by
  have hne : M ≠ G := fun e => by
    obtain ⟨hs, h1, _⟩ := h.rows
    exact (h1.notKind h.near (by decide)) (by rw [e]; rfl)
  exact ⟨h.rows.set (by rw [h.dl]; exact hj) A m e ys hy, by rw [List.length_set]; exact h.dl, h.xl, h.xok, (heap_setCell_other W ⟨G, j, none⟩ M _ hne).trans h.near⟩
theorem LkSt.setNear {B G M n : Nat} {s : List (List Int) × List Int} {W : World} (h : LkSt B G M n s W) {j : Nat} (x : Int) (hx : in64 x) : LkSt B G M n (s.1, s.2.set j x) (W.setCell ⟨M, j, none⟩ (.int .i64 x)) := by
  obtain ⟨⟨hs, h1, h2, h3⟩, h4, h5, h6, h7⟩ := h
  refine ⟨⟨hs, h1.setOther (p := ⟨M, j, none⟩) (h1.notKind h7 (by decide)) _, h2, fun k hk => (h3 k hk).setOther (p := ⟨M, j, none⟩) ((h3 k hk).notKind h7 (by decide)) _⟩, h4, by rw [List.length_set]; exact h5, fun y hy => ?_, ?_⟩
  · rcases List.mem_or_eq_of_mem_set hy with h' | h'
    · exact h6 y h'
    · subst h'; exact hx
  · rw [heap_setCell_same W M j _ _ _ h7]
    rw [List.setIfInBounds_toArray, List.map_set]
theorem LkSt.cell {B G M n : Nat} {s : List (List Int) × List Int} {W : World} (h : LkSt B G M n s W) (j : Nat) (hj : j < 8) : W.cell? ⟨M, j, none⟩ = some (.int .i64 (s.2.getD j 0)) := by
  rw [cell_of_row W M j _ _ _ h.near]
  rw [List.getElem?_toArray, List.getElem?_map, List.getElem?_eq_getElem (by rw [h.xl]; exact hj), List.getD_eq_getElem?_getD, List.getElem?_eq_getElem (by rw [h.xl]; exact hj)]; rfl
theorem LkSt.free {B G M n : Nat} {s : List (List Int) × List Int} {W : World} (h : LkSt B G M n s W) : (∀ o, W.frozen? ⟨M, o, none⟩ = false) := fun o => frozen_of_row W M o _ _ h.near
theorem LkSt.rowAt {B G M n : Nat} {s : List (List Int) × List Int} {W : World} (h : LkSt B G M n s W) (j : Nat) (hj : j < n) : (∃ v : Hd, W.cell? ⟨G, j, none⟩ = some v.v) ∧ ∀ o, W.frozen? ⟨G, o, none⟩ = false := by
  obtain ⟨hs, h1, h2, h3⟩ := h.rows
  obtain ⟨g, eg, k1, k2, k3, k4⟩ := h1.pos (by rw [h2, h.dl]; omega)
  cases eg
  have z := k3 j (by rw [h2, h.dl]; exact hj) 0 _ rfl
  rw [show j * kRow.n + 0 = j from by show j * 1 + 0 = j; omega] at z
  exact ⟨⟨_, z⟩, k4⟩
theorem LkSt.rd {B G M n : Nat} {s : List (List Int) × List Int} {W : World} (h : LkSt B G M n s W) (k : Nat) (hk : k ≤ 8) : Rd kInt W (.slice (some ⟨M, 0, none⟩) k 8) (s.2.take k) := by
  have hl : (s.2.take k).length = k := by rw [List.length_take, h.xl]; omega
  refine ⟨by rw [hl]; unfold maxLen; omega, fun x hx => h.xok x (List.mem_of_mem_take hx), _, 8, by rw [hl], by rw [hl]; exact hk, fun _ => ⟨M, 0, rfl, fun j hj i u hu => ?_⟩⟩
  have hi : i = 0 := by
    rcases i with _ | i
    · rfl
    · simp [kInt] at hu
  subst hi
  rw [hl] at hj
  have z := h.cell j (by omega)
  have hu' : Value.int .i64 ((s.2.take k).getD j 0) = u := by simpa [kInt] using hu
  rw [getDk_take _ _ _ _ hj] at hu'
  rw [← hu', show 0 + j * kInt.n + 0 = j from by show 0 + j * 1 + 0 = j; omega]
  exact z

def LkV (w0 : World) (u z G M n : Nat) (Y : List Int) : Nat → World → List Value → Value → Prop
  | 0, w, ds, v => v = .slice (some ⟨G, 0, none⟩) n n
  | 1, w, ds, v => v = .int .i64 u
  | 2, w, ds, v => v = .int .i64 z
  | 3, w, ds, v => v = .slice (some ⟨M, 0, none⟩) z 8
  | 4, w, ds, v => ∃ A c, v = .slice A Y.length c ∧ Ow kInt w0.heap.size w (.slice A Y.length c) Y
  | 5, w, ds, v => v = .pointer (some ⟨G, u, none⟩)
  | _, _, _, _ => True
theorem LkV_ext (w0 : World) (u z G M n : Nat) (Y : List Int) : ∀ i w w' ds v, LkV w0 u z G M n Y i w ds v → Ext w w' → LkV w0 u z G M n Y i w' ds v
  | 0, _, _, _, _, h, _ => h
  | 1, _, _, _, _, h, _ => h
  | 2, _, _, _, _, h, _ => h
  | 3, _, _, _, _, h, _ => h
  | 4, _, _, _, _, h, hE => (by obtain ⟨A, c, h1, h2⟩ := h; exact ⟨A, c, h1, h2.ext hE⟩)
  | 5, _, _, _, _, h, _ => h
  | _ + 6, _, _, _, _, _, _ => trivial
section
variable (w0 : World) (u z G M n : Nat) (Y : List Int) (w : World) (ds : List Value) (v : Value)
theorem LkV_i0 (h : v = .slice (some ⟨G, 0, none⟩) n n) : LkV w0 u z G M n Y 0 w ds v := h
theorem LkV_e0 (h : LkV w0 u z G M n Y 0 w ds v) : v = .slice (some ⟨G, 0, none⟩) n n := h
theorem LkV_i1 (h : v = .int .i64 u) : LkV w0 u z G M n Y 1 w ds v := h
theorem LkV_e1 (h : LkV w0 u z G M n Y 1 w ds v) : v = .int .i64 u := h
theorem LkV_i2 (h : v = .int .i64 z) : LkV w0 u z G M n Y 2 w ds v := h
theorem LkV_e2 (h : LkV w0 u z G M n Y 2 w ds v) : v = .int .i64 z := h
theorem LkV_i3 (h : v = .slice (some ⟨M, 0, none⟩) z 8) : LkV w0 u z G M n Y 3 w ds v := h
theorem LkV_e3 (h : LkV w0 u z G M n Y 3 w ds v) : v = .slice (some ⟨M, 0, none⟩) z 8 := h
theorem LkV_i4 (h : ∃ A c, v = .slice A Y.length c ∧ Ow kInt w0.heap.size w (.slice A Y.length c) Y) : LkV w0 u z G M n Y 4 w ds v := h
theorem LkV_e4 (h : LkV w0 u z G M n Y 4 w ds v) : ∃ A c, v = .slice A Y.length c ∧ Ow kInt w0.heap.size w (.slice A Y.length c) Y := h
theorem LkV_i5 (h : v = .pointer (some ⟨G, u, none⟩)) : LkV w0 u z G M n Y 5 w ds v := h
theorem LkV_e5 (h : LkV w0 u z G M n Y 5 w ds v) : v = .pointer (some ⟨G, u, none⟩) := h
end

set_option maxHeartbeats 6400000 in
set_option maxRecDepth 100000 in
theorem plinked_any (hs : List Int) (A : Option Addr) (n c : Nat) (w : World) (hA : Rd kInt w (.slice A n c) hs) (hn : n = hs.length) (hn1 : 1 ≤ n) (hn2 : n ≤ 1000) (hh : ∀ j, j < n → 1 ≤ hs.getD j 0 ∧ hs.getD j 0 ≤ 8) :
    Calls Try.prog 59 #[.slice A n c] w fun ed w' => ∃ (N : Option Addr) (e : Nat), ed = .returned (.slice N n e) ∧ Oww w.heap.size w' (.slice N n e) ((List.range hs.length).map (nextsP hs)) ∧ Ext w w' := by
  have HA := Lib.hid hA
  have HN := Lib.hid hn
  have HH := Lib.hid hh
  obtain ⟨b0, o0, hA0, -⟩ := (ints_of_rd hA).cells (by omega)
  have HAB : Hid (∀ a, A = some a → a.block < w.heap.size) := Lib.hid (fun a ha => by
    subst ha
    cases hA0
    obtain ⟨b1, o1, e1, hc1⟩ := (ints_of_rd hA).cells (by omega)
    cases e1
    exact World.block_lt_of_cell? _ _ (hc1 0 (by omega)))
  obtain ⟨C, hmk, hmown⟩ := kRow.make hd0 rfl trivial n (by omega)
  have HMK := Lib.hid hmown
  have hmk2 : ∀ w : World, (Instr.makeSlice 23 (.int .i64 n) (.int .i64 n)).run Try.prog w = .ok (.slice (some ⟨w.heap.size, 0, none⟩) n n) (w.alloc (.cells C 22)) := hmk
  have hn9 : (n : Int) ≤ 1000 := by omega
  clear hA hn hh hA0 hmown hmk
  refine callsIn_wide.1 (callsIn_of_wp_marks (n := 2) Try.func59 rfl trivial ?_ rfl)
  simp only [Try.ntmps59, List.size_toArray, List.length_cons, List.length_nil, Nat.reduceAdd, Nat.reduceSub, Array.replicate_succ, Array.replicate_zero, List.push_toArray, List.append_toArray, List.nil_append, List.cons_append]
  refine (wpIn_wide (n := 2)).2 ?_
  go_wp2_with fail
  refine wp_loop_rounds 3 ?_
  rw [rounds_succ]
  go_wp2_with fail
  have hx0 : Ext w (((w.alloc (.cells C 22)).alloc (.cells #[.slice (some ⟨w.heap.size, 0, none⟩) n n] 23)).alloc (.cells #[.int .i64 0, .int .i64 0, .int .i64 0, .int .i64 0, .int .i64 0, .int .i64 0, .int .i64 0, .int .i64 0] 81)) := (((Ext.refl w).alloc _).alloc _).alloc _
  have q3 : (((w.alloc (.cells C 22)).alloc (.cells #[.slice (some ⟨w.heap.size, 0, none⟩) n n] 23)).alloc (.cells #[.int .i64 0, .int .i64 0, .int .i64 0, .int .i64 0, .int .i64 0, .int .i64 0, .int .i64 0, .int .i64 0] 81)).cell? ⟨w.heap.size + 1, 0, none⟩ = some (.slice (some ⟨w.heap.size, 0, none⟩) n n) := by go_simp
  have hL0 : LkSt w.heap.size w.heap.size (w.heap.size + 1 + 1) n (List.replicate n [], List.replicate 8 0) (((w.alloc (.cells C 22)).alloc (.cells #[.slice (some ⟨w.heap.size, 0, none⟩) n n] 23)).alloc (.cells #[.int .i64 0, .int .i64 0, .int .i64 0, .int .i64 0, .int .i64 0, .int .i64 0, .int .i64 0, .int .i64 0] 81)) :=
    ⟨⟨List.replicate n hd0, (HMK.out w w.heap.size w.heap.size rfl (Nat.le_refl _)).ext (((Ext.refl _).alloc _).alloc _), by simp, fun j hj => by
        rw [List.length_replicate] at hj
        rw [List.getD_eq_getElem?_getD, List.getElem?_replicate, if_pos hj, List.getD_eq_getElem?_getD, List.getElem?_replicate, if_pos hj]
        exact Ow.nil _ _⟩, by simp, by simp, fun x hx => by rw [List.mem_replicate] at hx; rw [hx.2]; decide, by
        have h9 := heap_alloc_new ((w.alloc (.cells C 22)).alloc (.cells #[.slice (some ⟨w.heap.size, 0, none⟩) n n] 23)) (.cells #[.int .i64 0, .int .i64 0, .int .i64 0, .int .i64 0, .int .i64 0, .int .i64 0, .int .i64 0, .int .i64 0] 81)
        simp only [World.size_alloc] at h9
        exact h9⟩
  have hs0 : w.heap.size + 3 ≤ (((w.alloc (.cells C 22)).alloc (.cells #[.slice (some ⟨w.heap.size, 0, none⟩) n n] 23)).alloc (.cells #[.int .i64 0, .int .i64 0, .int .i64 0, .int .i64 0, .int .i64 0, .int .i64 0, .int .i64 0, .int .i64 0] 81)).heap.size := by simp
  obtain ⟨W0, hW0⟩ : ∃ W0, (((w.alloc (.cells C 22)).alloc (.cells #[.slice (some ⟨w.heap.size, 0, none⟩) n n] 23)).alloc (.cells #[.int .i64 0, .int .i64 0, .int .i64 0, .int .i64 0, .int .i64 0, .int .i64 0, .int .i64 0, .int .i64 0] 81)) = W0 := ⟨_, rfl⟩
  rw [hW0] at hx0 q3 hL0 hs0 ⊢
  clear hW0 hmk2 HMK
  obtain ⟨G, hG⟩ : ∃ G, w.heap.size = G := ⟨_, rfl⟩
  rw [hG] at hL0 q3 hs0 ⊢
  have HG := Lib.hid hG
  have HX0 := Lib.hid hx0
  have HL0 := Lib.hid hL0
  clear hG hx0 hL0
  refine (back0_any A n c W0).mono ?_
  rintro ed w1 ⟨rfl, rfl⟩
  go_wp2_with fail
  have c0 : (W0.alloc (.cells #[.slice A n c] 22)).cell? ⟨W0.heap.size, 0, none⟩ = some (.slice A n c) := by go_simp
  have hz1 : (W0.alloc (.cells #[.slice A n c] 22)).heap.size = W0.heap.size + 1 := by simp
  have hEA : Ext W0 (W0.alloc (.cells #[.slice A n c] 22)) := (Ext.refl _).alloc _
  obtain ⟨V1, hW1⟩ : ∃ W1, W0.alloc (.cells #[.slice A n c] 22) = W1 := ⟨_, rfl⟩
  rw [hW1] at c0 hz1 hEA ⊢
  have HXA1 : Hid (Ext w V1) := Lib.hid (HX0.out.trans hEA)
  have HE1 := Lib.hid hEA
  have HQ1 : Hid (V1.cell? ⟨G + 1, 0, none⟩ = some (.slice (some ⟨G, 0, none⟩) n n)) := Lib.hid (hEA.cell q3)
  have HLA1 : Hid (LkSt G G (G + 1 + 1) n (List.replicate n [], List.replicate 8 0) V1) := Lib.hid (HL0.out.ext hEA)
  have HZ1 : Hid (V1.heap.size = W0.heap.size + 1 ∧ G + 3 ≤ W0.heap.size) := Lib.hid ⟨hz1, hs0⟩
  clear hW1 hEA q3 hz1 hs0
  have hfar : ∀ a, A = some a → a.block < V1.heap.size ∧ a.block ≠ G ∧ a.block ≠ G + 1 + 1 := fun a ha => by
    have h1 := HAB.out a ha
    have h2 := HG.out
    have h3 := HZ1.out
    refine ⟨by omega, by omega, by omega⟩
  refine range_back 5 6 G (G + 1 + 1) n W0.heap.size c hs A (fun pre W => LkSt G G (G + 1 + 1) n (stF hs (List.replicate n [], List.replicate 8 0) pre) W) rfl HN.out ⟨by have := HZ1.out; omega, by have := HZ1.out; omega⟩ c0 (HA.out.ext HXA1.out) hfar HLA1.out.lt (fun pre Wa Wb row h9 hg hr => h9.keptN hg (fun r e => (hr r e).2)) HLA1.out ?assign1 ?body1 ?done1
  case assign1 =>
    intro l9 u x W K hK
    simp only [List.setIfInBounds_toArray, List.set_cons_succ, List.set_cons_zero]
    gi_wp2
    simpa [backAct] using hK
  case body1 =>
    intro l9 pre u W hu hlen hS hX
    have q3 := hX.cell HQ1.out (by have := HZ1.out; show G + 1 < _; omega) (by show G + 1 ≠ _; omega) (by show G + 1 ≠ _; omega)
    obtain ⟨h1, h8⟩ := HH.out u hu
    obtain ⟨z, hz⟩ : ∃ z : Nat, hs.getD u 0 = (z : Int) := ⟨(hs.getD u 0).toNat, by omega⟩
    have hsn : stF hs (List.replicate n [], List.replicate 8 0) (pre ++ [u]) = ((stF hs (List.replicate n [], List.replicate 8 0) pre).1.set u ((stF hs (List.replicate n [], List.replicate 8 0) pre).2.take z), midN (stF hs (List.replicate n [], List.replicate 8 0) pre).2 u z) := by rw [stF_snoc, hz, Int.toNat_natCast]
    rw [hz] at h1 h8 ⊢
    obtain ⟨s, hs9⟩ : ∃ s, stF hs (List.replicate n [], List.replicate 8 0) pre = s := ⟨_, rfl⟩
    rw [hs9] at hsn
    simp only [hs9] at hS
    simp only [hsn]
    have hYl : (s.2.take z).length = z := by rw [List.length_take, hS.xl]; omega
    have HR0 := hS.rd z (by omega)
    obtain ⟨Y, hY⟩ : ∃ Y, s.2.take z = Y := ⟨_, rfl⟩
    rw [hY] at hYl HR0
    have HR := Lib.hid HR0
    have HYL : Hid (Y.length ≤ 1048576) := Lib.hid (by omega)
    have HYZ := Lib.hid hYl
    have HY := Lib.hid hY
    have HS := Lib.hid hS
    have HX := Lib.hid hX
    have HU := Lib.hid hu
    have hu0 : (0 : Int) ≤ u := by omega
    have hu1 : (u : Int) < n := by omega
    have hz0 : (0 : Int) ≤ z := by omega
    have hd1 : decide ((u : Int) < 0) = false := decide_eq_false (by omega)
    have hd2 : decide ((n : Int) ≤ (u : Int)) = false := decide_eq_false (by omega)
    have HU9 : Hid (in64 (u : Int)) := Lib.hid (in64_nat u (by omega))
    have HNW : Hid (V1.heap.size ≤ W.heap.size) := Lib.hid hX.size
    clear hsn hs9 hYl hY HR0 hS hX c0 hz hlen
    simp only [backAct, List.setIfInBounds_toArray, List.set_cons_succ, List.set_cons_zero]
    gi_wp2
    refine Mono.round_region_mono 6 (LkV W u z G (G + 1 + 1) n Y) (by kernel_rfl) (by rintro ⟨a, w, h9⟩; exact h9) (by kernel_rfl) (by kernel_rfl) (LkV_ext W u z G (G + 1 + 1) n Y) ?_ ?_
    · intro i o hi ho vals w5 hE hcl
      have hi' : i = 0 ∨ i = 1 ∨ i = 2 ∨ i = 3 ∨ i = 4 ∨ i = 5 := by omega
      rcases hi' with rfl | rfl | rfl | rfl | rfl | rfl
      · simp only [List.getElem?_cons_succ, List.getElem?_cons_zero, Option.some.injEq] at ho
        subst ho
        rw [if_pos (Mono.wanted_none rfl)]
        have k1 := hE.cell q3
        clear hcl
        refine Mono.yields_same (.slice (some ⟨G, 0, none⟩) n n) w5 ?_ ⟨Ext.refl _, LkV_i0 _ _ _ _ _ _ _ _ _ _ rfl⟩
        simp only [Mono.all, List.take, Act.put]
        go_simp
      · simp only [List.getElem?_cons_succ, List.getElem?_cons_zero, Option.some.injEq] at ho
        subst ho
        rw [if_pos (Mono.wanted_none rfl)]
        clear hcl
        refine Mono.yields_same (.int .i64 u) w5 ?_ ⟨Ext.refl _, LkV_i1 _ _ _ _ _ _ _ _ _ _ rfl⟩
        simp only [Mono.all, List.take, Act.put]
        go_simp
      · simp only [List.getElem?_cons_succ, List.getElem?_cons_zero, Option.some.injEq] at ho
        subst ho
        rw [if_pos (Mono.wanted_none rfl)]
        clear hcl
        refine Mono.yields_same (.int .i64 z) w5 ?_ ⟨Ext.refl _, LkV_i2 _ _ _ _ _ _ _ _ _ _ rfl⟩
        simp only [Mono.all, List.take, Act.put]
        go_simp
      · simp only [List.getElem?_cons_succ, List.getElem?_cons_zero, Option.some.injEq] at ho
        subst ho
        rw [if_pos (Mono.wanted_none rfl)]
        have h2 : vals 2 = .int .i64 z := LkV_e2 _ _ _ _ _ _ _ _ _ _ (hcl 2 (by kernel_rfl))
        clear hcl
        refine Mono.yields_same (.slice (some ⟨G + 1 + 1, 0, none⟩) z 8) w5 ?_ ⟨Ext.refl _, LkV_i3 _ _ _ _ _ _ _ _ _ _ rfl⟩
        simp only [Mono.all, List.take, Act.put]
        go_simp
      · simp only [List.getElem?_cons_succ, List.getElem?_cons_zero, Option.some.injEq] at ho
        subst ho
        rw [if_pos (Mono.wanted_none rfl)]
        have h3 : vals 3 = .slice (some ⟨G + 1 + 1, 0, none⟩) z 8 := (LkV_e3 _ _ _ _ _ _ _ _ _ _ (hcl 3 (by kernel_rfl)))
        clear hcl
        refine Mono.yields_call 49 #[.slice (some ⟨G + 1 + 1, 0, none⟩) z 8] w5 ?_ ((cloneI _ Y w5 (HR.out.ext hE) HYL.out).mono ?_)
        · simp only [Mono.all, List.take, Act.put]
          go_simp
        · rintro ed w6 ⟨A1, c1, rfl, o1, hE6⟩
          exact ⟨_, rfl, hE6, LkV_i4 _ _ _ _ _ _ _ _ _ _ ⟨A1, c1, rfl, o1.mono hE.size⟩⟩
      · simp only [List.getElem?_cons_succ, List.getElem?_cons_zero, Option.some.injEq] at ho
        subst ho
        rw [if_pos (Mono.wanted_none rfl)]
        have h0 : vals 0 = .slice (some ⟨G, 0, none⟩) n n := LkV_e0 _ _ _ _ _ _ _ _ _ _ (hcl 0 (by kernel_rfl))
        have h1 : vals 1 = .int .i64 u := LkV_e1 _ _ _ _ _ _ _ _ _ _ (hcl 1 (by kernel_rfl))
        clear hcl
        refine Mono.yields_same (.pointer (some ⟨G, u, none⟩)) w5 ?_ ⟨Ext.refl _, LkV_i5 _ _ _ _ _ _ _ _ _ _ rfl⟩
        simp only [Mono.all, List.take, Act.put]
        go_simp
    · intro vals w5 hE hv
      obtain ⟨A4, c4, e4, o4⟩ := (LkV_e4 _ _ _ _ _ _ _ _ _ _ (hv 4 (by omega)))
      have e5 := LkV_e5 _ _ _ _ _ _ _ _ _ _ (hv 5 (by omega))
      have hS5 := HS.out.ext hE
      obtain ⟨⟨v0, k0⟩, kf⟩ := hS5.rowAt u HU.out
      have hS6 := hS5.setRow HU.out A4 Y.length c4 Y (o4.mono (by have := HS.out.rows.lt G rfl; omega))
      have hk6 : KeepsOff V1.heap.size G (G + 1 + 1) W (w5.setCell ⟨G, u, none⟩ (.slice A4 Y.length c4)) := (KeepsOff.ofExt HNW.out hE).trans (KeepsOff.set (p := ⟨G, u, none⟩) (.inl rfl) _)
      have hf6 : KeepsFrom V1.heap.size W (w5.setCell ⟨G, u, none⟩ (.slice A4 Y.length c4)) := (hE.others.trans (KeepsOthers.setCell _ _ _)).from _
      have H6 := Lib.hid (And.intro hS6 (And.intro hk6 hf6))
      clear hv hS5 hS6 hk6 hf6 o4 q3
      simp only [Mono.all, List.take, List.drop, Act.put]
      rw [e5, e4]
      go_wp2_with fail
      obtain ⟨w6, hw6⟩ : ∃ w6, w5.setCell ⟨G, u, none⟩ (.slice A4 Y.length c4) = w6 := ⟨_, rfl⟩
      rw [hw6] at H6 ⊢
      clear hw6 k0 kf hE e4 e5
      gi_wp2
      gi_loopw [24] (fun i wr => ∃ j : Nat, j ≤ z ∧ i = .int .i64 j ∧ LkSt G G (G + 1 + 1) n (s.1.set u Y, midN s.2 u j) wr ∧ KeepsOff V1.heap.size G (G + 1 + 1) W wr ∧ KeepsFrom V1.heap.size W wr) (fun i _ => z - (intOf i).toNat)
      case atStart => exact ⟨0, Nat.zero_le _, rfl, by rw [midN_zero]; exact H6.out.1, H6.out.2.1, H6.out.2.2⟩
      case round =>
        obtain ⟨j, hj, rfl, hL, hK1, hK2⟩ := hrel
        have hj0 : (0 : Int) ≤ j := by omega
        by_cases hlt : j < z
        · have hlt' : (j : Int) < z := by omega
          have hj8 : (j : Int) < 8 := by omega
          have zc := hL.cell j (by omega)
          have zf := hL.free
          have hset := hL.setNear (j := j) (u : Int) HU9.out
          simp only [midN_set s.2 (u : Int) j (by rw [HS.out.xl]; omega)] at hset
          have H7 := Lib.hid (And.intro hset (And.intro (hK1.trans (KeepsOff.set (p := ⟨G + 1 + 1, j, none⟩) (.inr rfl) (.int .i64 u))) (hK2.trans ((KeepsOthers.setCell wr ⟨G + 1 + 1, j, none⟩ (.int .i64 u)).from _))))
          clear hset hL hK1 hK2
          gi_wp2
          go_roundw
          case rel => exact ⟨j + 1, by omega, by go_num, H7.out.1, H7.out.2.1, H7.out.2.2⟩
          case measure => simp [intOf]; omega
        · obtain rfl : j = z := by omega
          have H7 := Lib.hid (And.intro hK2 (And.intro hK1 hL))
          clear hL hK1 hK2
          gi_wp2
          rw [HY.out]
          exact H7.out
  case done1 =>
    intro D1 WB hD hS hX hK
    have q3 := hX.cell HQ1.out (by have := HZ1.out; show G + 1 < _; omega) (by show G + 1 ≠ _; omega) (by show G + 1 ≠ _; omega)
    have HX1 : Hid (Ext w WB) := Lib.hid (hX.ext HXA1.out (by have := HG.out; have := HZ1.out; omega) (by have := HG.out; omega) (by have := HG.out; omega))
    have h14 := stF_once hs (List.replicate n []) (by rw [List.length_replicate]; exact HN.out) (fun j hj => HH.out j (by rw [HN.out]; exact hj))
    have hdn : downs n n = downs hs.length hs.length := by rw [← HN.out]
    rw [hdn] at hS
    obtain ⟨E1, hE1⟩ : ∃ E1, (stF hs (List.replicate n [], List.replicate 8 0) (downs hs.length hs.length)).1 = E1 := ⟨_, rfl⟩
    rw [show stF hs (List.replicate n [], List.replicate 8 0) (downs hs.length hs.length) = (E1, nearL hs hs.length (fun l => firstF hs 0 l 0)) from Prod.ext hE1 h14.2] at hS
    have HEL : Hid (E1.length = hs.length) := Lib.hid (by rw [← hE1]; exact h14.1)
    have HL1 := Lib.hid hS
    have hs0 : G + 3 ≤ WB.heap.size := by have := hX.size; have := HZ1.out; omega
    have HD1 : Hid (V1.heap.size ≤ D1 ∧ D1 < WB.heap.size ∧ WB.heap[D1]? = some (.deferred (some []))) := Lib.hid ⟨hD, (Array.getElem?_eq_some_iff.1 hK).1, hK⟩
    clear h14 hdn hE1 hS hX hK hD
    go_wp2_with fail
    rw [rounds_succ]
    go_wp2_with fail
    refine (back0_any A n c WB).mono ?_
    rintro ed w1 ⟨rfl, rfl⟩
    go_wp2_with fail
    have c0 : (WB.alloc (.cells #[.slice A n c] 22)).cell? ⟨WB.heap.size, 0, none⟩ = some (.slice A n c) := by go_simp
    have hz2 : (WB.alloc (.cells #[.slice A n c] 22)).heap.size = WB.heap.size + 1 := by simp
    have hEA : Ext WB (WB.alloc (.cells #[.slice A n c] 22)) := (Ext.refl _).alloc _
    obtain ⟨V2, hW1⟩ : ∃ W1, WB.alloc (.cells #[.slice A n c] 22) = W1 := ⟨_, rfl⟩
    rw [hW1] at c0 hz2 hEA ⊢
    have HXA2 : Hid (Ext w V2) := Lib.hid (HX1.out.trans hEA)
    have HE2 := Lib.hid hEA
    have HQ2 : Hid (V2.cell? ⟨G + 1, 0, none⟩ = some (.slice (some ⟨G, 0, none⟩) n n)) := Lib.hid (hEA.cell q3)
    have HLA2 : Hid (LkSt G G (G + 1 + 1) n (E1, nearL hs hs.length (fun l => firstF hs 0 l 0)) V2) := Lib.hid (HL1.out.ext hEA)
    have HZ2 : Hid (V2.heap.size = WB.heap.size + 1 ∧ G + 3 ≤ WB.heap.size) := Lib.hid ⟨hz2, hs0⟩
    clear hW1 hEA q3 hz2 hs0
    have hfar : ∀ a, A = some a → a.block < V2.heap.size ∧ a.block ≠ G ∧ a.block ≠ G + 1 + 1 := fun a ha => by
      have h1 := HAB.out a ha
      have h2 := HG.out
      have h3 := HZ2.out
      refine ⟨by omega, by omega, by omega⟩
    refine range_back 5 6 G (G + 1 + 1) n WB.heap.size c hs A (fun pre W => LkSt G G (G + 1 + 1) n (stF hs (E1, nearL hs hs.length (fun l => firstF hs 0 l 0)) pre) W) rfl HN.out ⟨by have := HZ2.out; omega, by have := HZ2.out; omega⟩ c0 (HA.out.ext HXA2.out) hfar HLA2.out.lt (fun pre Wa Wb row h9 hg hr => h9.keptN hg (fun r e => (hr r e).2)) HLA2.out ?assign2 ?body2 ?done2
    case assign2 =>
      intro l9 u x W K hK
      simp only [List.setIfInBounds_toArray, List.set_cons_succ, List.set_cons_zero]
      gi_wp2
      simpa [backAct] using hK
    case body2 =>
      intro l9 pre u W hu hlen hS hX
      have q3 := hX.cell HQ2.out (by have := HZ2.out; show G + 1 < _; omega) (by show G + 1 ≠ _; omega) (by show G + 1 ≠ _; omega)
      obtain ⟨h1, h8⟩ := HH.out u hu
      obtain ⟨z, hz⟩ : ∃ z : Nat, hs.getD u 0 = (z : Int) := ⟨(hs.getD u 0).toNat, by omega⟩
      have hsn : stF hs (E1, nearL hs hs.length (fun l => firstF hs 0 l 0)) (pre ++ [u]) = ((stF hs (E1, nearL hs hs.length (fun l => firstF hs 0 l 0)) pre).1.set u ((stF hs (E1, nearL hs hs.length (fun l => firstF hs 0 l 0)) pre).2.take z), midN (stF hs (E1, nearL hs hs.length (fun l => firstF hs 0 l 0)) pre).2 u z) := by rw [stF_snoc, hz, Int.toNat_natCast]
      rw [hz] at h1 h8 ⊢
      obtain ⟨s, hs9⟩ : ∃ s, stF hs (E1, nearL hs hs.length (fun l => firstF hs 0 l 0)) pre = s := ⟨_, rfl⟩
      rw [hs9] at hsn
      simp only [hs9] at hS
      simp only [hsn]
      have hYl : (s.2.take z).length = z := by rw [List.length_take, hS.xl]; omega
      have HR0 := hS.rd z (by omega)
      obtain ⟨Y, hY⟩ : ∃ Y, s.2.take z = Y := ⟨_, rfl⟩
      rw [hY] at hYl HR0
      have HR := Lib.hid HR0
      have HYL : Hid (Y.length ≤ 1048576) := Lib.hid (by omega)
      have HYZ := Lib.hid hYl
      have HY := Lib.hid hY
      have HS := Lib.hid hS
      have HX := Lib.hid hX
      have HU := Lib.hid hu
      have hu0 : (0 : Int) ≤ u := by omega
      have hu1 : (u : Int) < n := by omega
      have hz0 : (0 : Int) ≤ z := by omega
      have hd1 : decide ((u : Int) < 0) = false := decide_eq_false (by omega)
      have hd2 : decide ((n : Int) ≤ (u : Int)) = false := decide_eq_false (by omega)
      have HU9 : Hid (in64 (u : Int)) := Lib.hid (in64_nat u (by omega))
      have HNW : Hid (V2.heap.size ≤ W.heap.size) := Lib.hid hX.size
      clear hsn hs9 hYl hY HR0 hS hX c0 hz hlen
      simp only [backAct, List.setIfInBounds_toArray, List.set_cons_succ, List.set_cons_zero]
      gi_wp2
      refine Mono.round_region_mono 6 (LkV W u z G (G + 1 + 1) n Y) (by kernel_rfl) (by rintro ⟨a, w, h9⟩; exact h9) (by kernel_rfl) (by kernel_rfl) (LkV_ext W u z G (G + 1 + 1) n Y) ?_ ?_
      · intro i o hi ho vals w5 hE hcl
        have hi' : i = 0 ∨ i = 1 ∨ i = 2 ∨ i = 3 ∨ i = 4 ∨ i = 5 := by omega
        rcases hi' with rfl | rfl | rfl | rfl | rfl | rfl
        · simp only [List.getElem?_cons_succ, List.getElem?_cons_zero, Option.some.injEq] at ho
          subst ho
          rw [if_pos (Mono.wanted_none rfl)]
          have k1 := hE.cell q3
          clear hcl
          refine Mono.yields_same (.slice (some ⟨G, 0, none⟩) n n) w5 ?_ ⟨Ext.refl _, LkV_i0 _ _ _ _ _ _ _ _ _ _ rfl⟩
          simp only [Mono.all, List.take, Act.put]
          go_simp
        · simp only [List.getElem?_cons_succ, List.getElem?_cons_zero, Option.some.injEq] at ho
          subst ho
          rw [if_pos (Mono.wanted_none rfl)]
          clear hcl
          refine Mono.yields_same (.int .i64 u) w5 ?_ ⟨Ext.refl _, LkV_i1 _ _ _ _ _ _ _ _ _ _ rfl⟩
          simp only [Mono.all, List.take, Act.put]
          go_simp
        · simp only [List.getElem?_cons_succ, List.getElem?_cons_zero, Option.some.injEq] at ho
          subst ho
          rw [if_pos (Mono.wanted_none rfl)]
          clear hcl
          refine Mono.yields_same (.int .i64 z) w5 ?_ ⟨Ext.refl _, LkV_i2 _ _ _ _ _ _ _ _ _ _ rfl⟩
          simp only [Mono.all, List.take, Act.put]
          go_simp
        · simp only [List.getElem?_cons_succ, List.getElem?_cons_zero, Option.some.injEq] at ho
          subst ho
          rw [if_pos (Mono.wanted_none rfl)]
          have h2 : vals 2 = .int .i64 z := LkV_e2 _ _ _ _ _ _ _ _ _ _ (hcl 2 (by kernel_rfl))
          clear hcl
          refine Mono.yields_same (.slice (some ⟨G + 1 + 1, 0, none⟩) z 8) w5 ?_ ⟨Ext.refl _, LkV_i3 _ _ _ _ _ _ _ _ _ _ rfl⟩
          simp only [Mono.all, List.take, Act.put]
          go_simp
        · simp only [List.getElem?_cons_succ, List.getElem?_cons_zero, Option.some.injEq] at ho
          subst ho
          rw [if_pos (Mono.wanted_none rfl)]
          have h3 : vals 3 = .slice (some ⟨G + 1 + 1, 0, none⟩) z 8 := (LkV_e3 _ _ _ _ _ _ _ _ _ _ (hcl 3 (by kernel_rfl)))
          clear hcl
          refine Mono.yields_call 49 #[.slice (some ⟨G + 1 + 1, 0, none⟩) z 8] w5 ?_ ((cloneI _ Y w5 (HR.out.ext hE) HYL.out).mono ?_)
          · simp only [Mono.all, List.take, Act.put]
            go_simp
          · rintro ed w6 ⟨A1, c1, rfl, o1, hE6⟩
            exact ⟨_, rfl, hE6, LkV_i4 _ _ _ _ _ _ _ _ _ _ ⟨A1, c1, rfl, o1.mono hE.size⟩⟩
        · simp only [List.getElem?_cons_succ, List.getElem?_cons_zero, Option.some.injEq] at ho
          subst ho
          rw [if_pos (Mono.wanted_none rfl)]
          have h0 : vals 0 = .slice (some ⟨G, 0, none⟩) n n := LkV_e0 _ _ _ _ _ _ _ _ _ _ (hcl 0 (by kernel_rfl))
          have h1 : vals 1 = .int .i64 u := LkV_e1 _ _ _ _ _ _ _ _ _ _ (hcl 1 (by kernel_rfl))
          clear hcl
          refine Mono.yields_same (.pointer (some ⟨G, u, none⟩)) w5 ?_ ⟨Ext.refl _, LkV_i5 _ _ _ _ _ _ _ _ _ _ rfl⟩
          simp only [Mono.all, List.take, Act.put]
          go_simp
      · intro vals w5 hE hv
        obtain ⟨A4, c4, e4, o4⟩ := (LkV_e4 _ _ _ _ _ _ _ _ _ _ (hv 4 (by omega)))
        have e5 := LkV_e5 _ _ _ _ _ _ _ _ _ _ (hv 5 (by omega))
        have hS5 := HS.out.ext hE
        obtain ⟨⟨v0, k0⟩, kf⟩ := hS5.rowAt u HU.out
        have hS6 := hS5.setRow HU.out A4 Y.length c4 Y (o4.mono (by have := HS.out.rows.lt G rfl; omega))
        have hk6 : KeepsOff V2.heap.size G (G + 1 + 1) W (w5.setCell ⟨G, u, none⟩ (.slice A4 Y.length c4)) := (KeepsOff.ofExt HNW.out hE).trans (KeepsOff.set (p := ⟨G, u, none⟩) (.inl rfl) _)
        have hf6 : KeepsFrom V2.heap.size W (w5.setCell ⟨G, u, none⟩ (.slice A4 Y.length c4)) := (hE.others.trans (KeepsOthers.setCell _ _ _)).from _
        have H6 := Lib.hid (And.intro hS6 (And.intro hk6 hf6))
        clear hv hS5 hS6 hk6 hf6 o4 q3
        simp only [Mono.all, List.take, List.drop, Act.put]
        rw [e5, e4]
        go_wp2_with fail
        obtain ⟨w6, hw6⟩ : ∃ w6, w5.setCell ⟨G, u, none⟩ (.slice A4 Y.length c4) = w6 := ⟨_, rfl⟩
        rw [hw6] at H6 ⊢
        clear hw6 k0 kf hE e4 e5
        gi_wp2
        gi_loopw [24] (fun i wr => ∃ j : Nat, j ≤ z ∧ i = .int .i64 j ∧ LkSt G G (G + 1 + 1) n (s.1.set u Y, midN s.2 u j) wr ∧ KeepsOff V2.heap.size G (G + 1 + 1) W wr ∧ KeepsFrom V2.heap.size W wr) (fun i _ => z - (intOf i).toNat)
        case atStart => exact ⟨0, Nat.zero_le _, rfl, by rw [midN_zero]; exact H6.out.1, H6.out.2.1, H6.out.2.2⟩
        case round =>
          obtain ⟨j, hj, rfl, hL, hK1, hK2⟩ := hrel
          have hj0 : (0 : Int) ≤ j := by omega
          by_cases hlt : j < z
          · have hlt' : (j : Int) < z := by omega
            have hj8 : (j : Int) < 8 := by omega
            have zc := hL.cell j (by omega)
            have zf := hL.free
            have hset := hL.setNear (j := j) (u : Int) HU9.out
            simp only [midN_set s.2 (u : Int) j (by rw [HS.out.xl]; omega)] at hset
            have H7 := Lib.hid (And.intro hset (And.intro (hK1.trans (KeepsOff.set (p := ⟨G + 1 + 1, j, none⟩) (.inr rfl) (.int .i64 u))) (hK2.trans ((KeepsOthers.setCell wr ⟨G + 1 + 1, j, none⟩ (.int .i64 u)).from _))))
            clear hset hL hK1 hK2
            gi_wp2
            go_roundw
            case rel => exact ⟨j + 1, by omega, by go_num, H7.out.1, H7.out.2.1, H7.out.2.2⟩
            case measure => simp [intOf]; omega
          · obtain rfl : j = z := by omega
            have H7 := Lib.hid (And.intro hK2 (And.intro hK1 hL))
            clear hL hK1 hK2
            gi_wp2
            rw [HY.out]
            exact H7.out
    case done2 =>
      intro D2 W2 hD hS hX hK
      have q3 := hX.cell HQ2.out (by have := HZ2.out; show G + 1 < _; omega) (by show G + 1 ≠ _; omega) (by show G + 1 ≠ _; omega)
      have h14 := stF_twice hs E1 HEL.out (fun j hj => HH.out j (by rw [HN.out]; exact hj))
      have hdn : downs n n = downs hs.length hs.length := by rw [← HN.out]
      rw [hdn] at hS
      have hR := hS.rows
      rw [h14] at hR
      have hK1 : W2.heap[D1]? = some (.deferred (some [])) := by
        have h1 := HD1.out
        have h2 := HZ1.out
        have h3 := HZ2.out
        rw [hX.block D1 (by omega) (by omega) (by omega), HE2.out.block D1 h1.2.1]
        exact h1.2.2
      have HF : Hid (Oww w.heap.size W2 (.slice (some ⟨G, 0, none⟩) n n) ((List.range hs.length).map (nextsP hs)) ∧ LkSt G G (G + 1 + 1) n (stF hs (E1, nearL hs hs.length (fun l => firstF hs 0 l 0)) (downs hs.length hs.length)) W2 ∧ Ext w W2 ∧ V1.heap.size ≤ D1 ∧ V2.heap.size ≤ D2 ∧ D1 < W2.heap.size ∧ D1 < V2.heap.size ∧ w.heap.size < V1.heap.size) :=
        Lib.hid ⟨by rw [HG.out]; exact hR, hS, hX.ext HXA2.out (by have := HG.out; have := HZ2.out; omega) (by have := HG.out; omega) (by have := HG.out; omega), HD1.out.1, hD, (Array.getElem?_eq_some_iff.1 hK1).1, by have := HD1.out; have := HE2.out.size; omega, by have := HG.out; have := HZ1.out; omega⟩
      clear h14 hdn hR hS hX hD
      go_wp2_with fail
      rw [rounds_succ]
      go_wp2_with fail
      obtain ⟨f1, f2, f3, f4, f5, f6, f7, f8⟩ := HF.out
      refine ⟨by simp, .inl ⟨_, _, rfl, run_takeDeferred hK, by simp, .inl ⟨_, _, rfl, run_takeDeferred (b := D1) ((World.putObj_heap_other (by omega)).trans hK1), ?_⟩⟩⟩
      refine ⟨.slice (some ⟨G, 0, none⟩) n n, by simp [results, Try.results59, go_sem], some ⟨G, 0, none⟩, n, rfl, ?_, ?_⟩
      · obtain ⟨a, b1, b2, b3⟩ := f1
        have g1 := grownBy_putObj' W2 D2 (.deferred none)
        have r1 : ∀ r, some D2 = some r → ∃ o : Obj, W2.heap[r]? = some o ∧ o.isCells = false := fun r e => by cases e; exact ⟨_, hK, rfl⟩
        have g2 := grownBy_putObj' (W2.putObj D2 (.deferred none)) D1 (.deferred none)
        have r2 : ∀ r, some D1 = some r → ∃ o : Obj, (W2.putObj D2 (.deferred none)).heap[r]? = some o ∧ o.isCells = false := fun r e => by cases e; exact ⟨_, (World.putObj_heap_other (by omega)).trans hK1, rfl⟩
        exact ⟨a, (b1.keptN g1 r1).keptN g2 r2, b2, fun j hj => ((b3 j hj).keptN g1 r1).keptN g2 r2⟩
      · exact (f3.grown (grownBy_putObj' W2 D2 _) (fun r e => by cases e; omega)).grown (grownBy_putObj' _ D1 _) (fun r e => by cases e; omega)
end Go.Proofs.Ytllpfegnpakadaa

/- The document's Level (ref14). -/
namespace Go.Proofs.Ytllpfegnpakadaa
open Go.BigFrame
open Go.RowKit Go.Proofs.Ytllpfegnpakadaa.Plain

end Go.Proofs.Ytllpfegnpakadaa

/- The document's Walk (ref14). -/
namespace Go.Proofs.Ytllpfegnpakadaa
open Go.BigFrame
open Go.RowKit Go.Proofs.Ytllpfegnpakadaa.Plain

end Go.Proofs.Ytllpfegnpakadaa

/- The document's Great (ref14): it answers, and does nothing else (its sums may wrap, so nothing is said of sizes). -/
namespace Go.Proofs.Ytllpfegnpakadaa
open Go.BigFrame
open Go.RowKit Go.Proofs.Ytllpfegnpakadaa.Plain

set_option maxHeartbeats 1600000 in
set_option maxRecDepth 100000 in
theorem rgreat14_any (t : Tw) (most : Int) (A B N : Option Addr) (c d e : Nat) (w : World) (h : TwR w t A B N c d e) :
    Calls Try.prog 10 #[towV A t.tokens.length c B t.heights.length d N t.next.length e, .int .i64 most] w fun ed w' => ∃ b, ed = .returned (.bool b) ∧ Ext w w' := by
  have HT := Lib.hid h
  have hn9 := h.nxt.len
  have HX0 : Hid (Ext w (w.alloc (.cells #[.slice A t.tokens.length c, .slice B t.heights.length d, .slice N t.next.length e] 25))) := Lib.hid ((Ext.refl w).alloc _)
  have p2 : (w.alloc (.cells #[.slice A t.tokens.length c, .slice B t.heights.length d, .slice N t.next.length e] 25)).cell? ⟨w.heap.size, 2, none⟩ = some (.slice N t.next.length e) := by go_simp
  have HP := Lib.hid p2
  obtain ⟨w1, hw1⟩ : ∃ w1, w.alloc (.cells #[.slice A t.tokens.length c, .slice B t.heights.length d, .slice N t.next.length e] 25) = w1 := ⟨_, rfl⟩
  have HW1 := Lib.hid hw1
  have hn10 : (t.next.length : Int) ≤ 9223372036854775807 := by omega
  clear h p2 hw1 hn9
  go_enter Try.func10, Try.ntmps10
  go_wp2_with fail
  go_loopw [5, 6] (fun s i wr => ∃ (k : Nat) (n : Int), k ≤ t.next.length ∧ i = .int .i64 k ∧ s = .int .i64 n ∧ Ext w1 wr) (fun _ i _ => t.next.length - (intOf i).toNat)
  case atStart => exact ⟨0, _, Nat.zero_le _, rfl, rfl, by rw [← HW1.out]; exact Ext.refl _⟩
  case round =>
    obtain ⟨k, n, hk, rfl, rfl, hX⟩ := hrel
    have HX := Lib.hid hX
    have hk0 : (0 : Int) ≤ k := by omega
    have p2 := HP.out
    rw [HW1.out] at p2
    replace p2 := Ext.cell hX p2
    have lw : w.heap.size < wr.heap.size := World.block_lt_of_cell? _ _ p2
    have HXW : Hid (Ext w wr) := Lib.hid (by have h7 := HX0.out; rw [HW1.out] at h7; exact h7.trans hX)
    clear hX
    by_cases hlt : k < t.next.length
    · have hlt' : (k : Int) < t.next.length := by omega
      by_cases hm : n ≤ most
      · have hd : decide (n ≤ most) = true := decide_eq_true hm
        obtain ⟨b, o, A1, c1, hNb, zr, rr⟩ := (HT.out.nxt.ext HXW.out).row k hlt
        obtain ⟨r, hr⟩ : ∃ r, (t.next.getD k []).length = r := ⟨_, rfl⟩
        rw [hr] at zr
        subst hNb
        have lb : b < wr.heap.size := World.block_lt_of_cell? _ _ zr
        clear hm rr hr
        go_wp2_with fail
        go_roundw
        case rel => exact ⟨k + 1, _, by omega, by go_num, rfl, HX.out⟩
        case measure => simp [intOf]; omega
      · have hd : decide (n ≤ most) = false := decide_eq_false hm
        have hd2 : decide (most < n) = true := decide_eq_true (by omega)
        clear hm
        go_wp2_with fail
        go_ret
        exact ⟨_, rfl, HXW.out⟩
    · obtain rfl : k = t.next.length := by omega
      cases hm : decide (most < n) <;>
      · go_wp2_with fail
        go_ret
        exact ⟨_, rfl, HXW.out⟩
end Go.Proofs.Ytllpfegnpakadaa

/- The program's Build and Right of towers. -/
namespace Go.Proofs.Ytllpfegnpakadaa
open Go.BigFrame
open Go.RowKit Go.Proofs.Ytllpfegnpakadaa.Plain

set_option maxHeartbeats 6400000 in
set_option maxRecDepth 100000 in
theorem pbuild14_any (tk hs : List Int) (A B : Option Addr) (c d : Nat) (w : World) (hA : Rd kInt w (.slice A tk.length c) tk) (hB : Rd kInt w (.slice B hs.length d) hs) :
    Calls Try.prog 47 #[.slice A tk.length c, .slice B hs.length d] w (TwSaid (buildP tk hs) w) := by
  have HA := Lib.hid hA
  have HB := Lib.hid hB
  have hfin : buildP tk hs = (noTw, 1) → ∀ W, Ext w W → TwSaid (buildP tk hs) w (.returned (.tuple #[towV none 0 0 none 0 0 none 0 0, .int .i64 1])) W := fun h W hW => by
    rw [h]; exact ⟨none, none, none, 0, 0, 0, rfl, Ow.nil _ _, Ow.nil _ _, Oww.nil _ _, hW⟩
  have HFIN := Lib.hid hfin
  have hno : ¬ mayB tk hs = true → buildP tk hs = (noTw, 1) := fun h => by unfold buildP; rw [if_neg h]
  have HX0 : Hid (Ext w (w.alloc (.cells #[.slice none 0 0, .slice none 0 0, .slice none 0 0] 25))) := Lib.hid ((Ext.refl w).alloc _)
  by_cases h0 : tk.length = 0
  · have e0 : ((tk.length : Int) == 0) = true := by rw [beq_iff_eq]; omega
    have HR := Lib.hid (hno (by rw [mayB_iff]; exact fun h => h.2.1 h0))
    clear hfin hno h0 hA hB
    go_enter Try.func47, Try.ntmps47
    go_wp2_with fail
    exact bodyPost_ret (v := .tuple #[towV none 0 0 none 0 0 none 0 0, .int .i64 1]) (by simp [results, Try.results47, go_sem]) rfl (by first | exact HFIN.out HR.out _ HX0.out | exact HFIN.out HR.out _ (((HX0.out.setCell (p := ⟨w.heap.size, 0, none⟩) (Nat.le_refl _) _).setCell (p := ⟨w.heap.size, 1, none⟩) (Nat.le_refl _) _).setCell (p := ⟨w.heap.size, 2, none⟩) (Nat.le_refl _) _))
  have e0 : ((tk.length : Int) == 0) = false := by rw [beq_eq_false_iff_ne]; omega
  by_cases h1 : ¬ tk.length = hs.length
  · have e1 : ((tk.length : Int) != (hs.length : Int)) = true := by rw [bne_iff_ne]; omega
    have HR := Lib.hid (hno (by rw [mayB_iff]; exact fun h => h1 h.2.2.1.symm))
    clear hfin hno h0 h1 hA hB
    go_enter Try.func47, Try.ntmps47
    go_wp2_with fail
    exact bodyPost_ret (v := .tuple #[towV none 0 0 none 0 0 none 0 0, .int .i64 1]) (by simp [results, Try.results47, go_sem]) rfl (by first | exact HFIN.out HR.out _ HX0.out | exact HFIN.out HR.out _ (((HX0.out.setCell (p := ⟨w.heap.size, 0, none⟩) (Nat.le_refl _) _).setCell (p := ⟨w.heap.size, 1, none⟩) (Nat.le_refl _) _).setCell (p := ⟨w.heap.size, 2, none⟩) (Nat.le_refl _) _))
  have e1 : ((tk.length : Int) != (hs.length : Int)) = false := by rw [bne_eq_false_iff_eq]; omega
  have H1 := Lib.hid (Decidable.not_not.1 h1)
  clear hA hB h1
  go_enter Try.func47, Try.ntmps47
  go_wp2_with fail
  refine (prightN_any tk A c _ (HA.out.ext HX0.out)).mono ?_
  rintro ed w1 ⟨rfl, hE1⟩
  have p0 : w1.cell? ⟨w.heap.size, 0, none⟩ = some (.slice none 0 0) := Ext.cell hE1 (by go_simp)
  have p1 : w1.cell? ⟨w.heap.size, 1, none⟩ = some (.slice none 0 0) := Ext.cell hE1 (by go_simp)
  have p2 : w1.cell? ⟨w.heap.size, 2, none⟩ = some (.slice none 0 0) := Ext.cell hE1 (by go_simp)
  have pf : ∀ o, w1.frozen? ⟨w.heap.size, o, none⟩ = false := fun o => (Below.frozen hE1 (p := ⟨w.heap.size, o, none⟩) (by first | omega | (simp; omega) | simp)).trans (by go_simp)
  have HX1 := Lib.hid (HX0.out.trans hE1)
  have lz1 := hE1.size
  simp at lz1
  have n1 : w.heap.size < w1.heap.size := by omega
  clear hE1 HX0 lz1
  cases hr : rightL tk with
  | false =>
    have HR := Lib.hid (hno (by rw [mayB_iff]; exact fun h => by rw [h.1] at hr; cases hr))
    clear hfin hno h0 hr
    go_wp2_with fail
    exact bodyPost_ret (v := .tuple #[towV none 0 0 none 0 0 none 0 0, .int .i64 1]) (by simp [results, Try.results47, go_sem, p0, p1, p2]) rfl (HFIN.out HR.out _ (((HX1.out.setCell (p := ⟨w.heap.size, 0, none⟩) (Nat.le_refl _) _).setCell (p := ⟨w.heap.size, 1, none⟩) (Nat.le_refl _) _).setCell (p := ⟨w.heap.size, 2, none⟩) (Nat.le_refl _) _))
  | true =>
    go_wp2_with fail
    refine (pbounds14_any hs B d _ (HB.out.ext HX1.out)).mono ?_
    rintro ed w2 ⟨rfl, rfl⟩
    cases hb : hs.all hOk with
    | false =>
      have HR := Lib.hid (hno (by unfold mayB; rw [hb]; simp))
      clear hfin hno h0 hr hb
      go_wp2_with fail
      exact bodyPost_ret (v := .tuple #[towV none 0 0 none 0 0 none 0 0, .int .i64 1]) (by simp [results, Try.results47, go_sem, p0, p1, p2]) rfl (HFIN.out HR.out _ (((HX1.out.setCell (p := ⟨w.heap.size, 0, none⟩) (Nat.le_refl _) _).setCell (p := ⟨w.heap.size, 1, none⟩) (Nat.le_refl _) _).setCell (p := ⟨w.heap.size, 2, none⟩) (Nat.le_refl _) _))
    | true =>
      have hmay : mayB tk hs = true := by unfold mayB; rw [hb, hr, decide_eq_true h0, decide_eq_true H1.out.symm]; rfl
      have HTW : Hid (buildP tk hs = (twOf tk hs, 0)) := Lib.hid (by unfold buildP; rw [if_pos hmay])
      obtain ⟨m1, m2, m3, m4⟩ := (mayB_iff tk hs).1 hmay
      have m5 := ((rightL_iff _).1 m1).1
      have hh : ∀ j, j < hs.length → 1 ≤ hs.getD j 0 ∧ hs.getD j 0 ≤ 8 := fun j hj => m4 _ (ints_mem hj)
      have HH := Lib.hid hh
      have HMM : Hid (tk.length ≤ 1000 ∧ hs.length ≤ 1000 ∧ 1 ≤ hs.length) := Lib.hid ⟨by omega, by omega, by omega⟩
      clear hfin hno h0 hr hb hmay m1 m2 m3 m4 m5 hh
      go_wp2_with fail
      refine (cloneI _ tk w1 (HA.out.ext HX1.out) (by have := HMM.out; omega)).mono ?_
      rintro ed w2 ⟨A2, c2, rfl, hO2, hE2⟩
      have HO2 := Lib.hid hO2
      have HX2 := Lib.hid (HX1.out.trans hE2)
      have HE2 := Lib.hid hE2
      clear hO2 hE2
      go_wp2_with fail
      refine (cloneI _ hs w2 (HB.out.ext HX2.out) (by have := HMM.out; omega)).mono ?_
      rintro ed w3 ⟨B3, d3, rfl, hO3, hE3⟩
      have HO3 := Lib.hid hO3
      have HX3 := Lib.hid (HX2.out.trans hE3)
      have HE3 := Lib.hid hE3
      clear hO3 hE3
      go_wp2_with fail
      refine (plinked_any hs B hs.length d w3 (HB.out.ext HX3.out) rfl (by have := HMM.out; omega) (by have := HMM.out; omega) HH.out).mono ?_
      rintro ed w4 ⟨N, e, rfl, hO4, hE4⟩
      have hX4 := HE2.out.trans (HE3.out.trans hE4)
      have q0 := hX4.cell p0
      have q1 := hX4.cell p1
      have q2 := hX4.cell p2
      have qf : ∀ o, w4.frozen? ⟨w.heap.size, o, none⟩ = false := fun o => (Below.frozen hX4 (p := ⟨w.heap.size, o, none⟩) n1).trans (pf o)
      have hz2 := HE2.out.size
      have hz3 := HE3.out.size
      have s1 : Ow kInt w1.heap.size w4 (.slice A2 tk.length c2) tk := HO2.out.ext (HE3.out.trans hE4)
      have s2 : Ow kInt w1.heap.size w4 (.slice B3 hs.length d3) hs := (HO3.out.mono (by omega)).ext hE4
      have hlen9 : ((List.range hs.length).map (nextsP hs)).length = hs.length := by rw [List.length_map, List.length_range]
      have HTWO : Hid (twOf tk hs = ⟨tk, hs, (List.range hs.length).map (nextsP hs)⟩) := Lib.hid rfl
      obtain ⟨D, hD⟩ : ∃ D, (List.range hs.length).map (nextsP hs) = D := ⟨_, rfl⟩
      rw [hD] at hO4 hlen9 HTWO
      have s3 : Oww w1.heap.size w4 (.slice N hs.length e) D := hO4.mono (by omega)
      have HS := Lib.hid (And.intro s1 (And.intro s2 s3))
      have HX4 := Lib.hid (HX3.out.trans hE4)
      have HDL := Lib.hid hlen9
      have n4 : w.heap.size < w4.heap.size := by have := hX4.size; omega
      clear s1 s2 s3 hO4 hlen9 hD hE4 hX4 hz2 hz3 p0 p1 p2 pf
      go_wp2_with fail
      obtain ⟨s1, s2, s3⟩ := HS.out
      have e1' : Ow kInt w.heap.size (((w4.setCell ⟨w.heap.size, 0, none⟩ (.slice A2 tk.length c2)).setCell ⟨w.heap.size, 1, none⟩ (.slice B3 hs.length d3)).setCell ⟨w.heap.size, 2, none⟩ (.slice N hs.length e)) (.slice A2 tk.length c2) tk := (((s1.setBelow (p := ⟨w.heap.size, 0, none⟩) n1 _).setBelow (p := ⟨w.heap.size, 1, none⟩) n1 _).setBelow (p := ⟨w.heap.size, 2, none⟩) n1 _).mono (by omega)
      have e2' : Ow kInt w.heap.size (((w4.setCell ⟨w.heap.size, 0, none⟩ (.slice A2 tk.length c2)).setCell ⟨w.heap.size, 1, none⟩ (.slice B3 hs.length d3)).setCell ⟨w.heap.size, 2, none⟩ (.slice N hs.length e)) (.slice B3 hs.length d3) hs := (((s2.setBelow (p := ⟨w.heap.size, 0, none⟩) n1 _).setBelow (p := ⟨w.heap.size, 1, none⟩) n1 _).setBelow (p := ⟨w.heap.size, 2, none⟩) n1 _).mono (by omega)
      have e3' : Oww w.heap.size (((w4.setCell ⟨w.heap.size, 0, none⟩ (.slice A2 tk.length c2)).setCell ⟨w.heap.size, 1, none⟩ (.slice B3 hs.length d3)).setCell ⟨w.heap.size, 2, none⟩ (.slice N hs.length e)) (.slice N hs.length e) D := (((s3.setBelow (p := ⟨w.heap.size, 0, none⟩) n1 _).setBelow (p := ⟨w.heap.size, 1, none⟩) n1 _).setBelow (p := ⟨w.heap.size, 2, none⟩) n1 _).mono (by omega)
      have hXW := ((HX4.out.setCell (p := ⟨w.heap.size, 0, none⟩) (Nat.le_refl _) (.slice A2 tk.length c2)).setCell (p := ⟨w.heap.size, 1, none⟩) (Nat.le_refl _) (.slice B3 hs.length d3)).setCell (p := ⟨w.heap.size, 2, none⟩) (Nat.le_refl _) (.slice N hs.length e)
      obtain ⟨W, hW⟩ : ∃ W, (((w4.setCell ⟨w.heap.size, 0, none⟩ (.slice A2 tk.length c2)).setCell ⟨w.heap.size, 1, none⟩ (.slice B3 hs.length d3)).setCell ⟨w.heap.size, 2, none⟩ (.slice N hs.length e)) = W := ⟨_, rfl⟩
      have t0 : W.cell? ⟨w.heap.size, 0, none⟩ = some (.slice A2 tk.length c2) := by subst hW; go_simp
      have t1 : W.cell? ⟨w.heap.size, 1, none⟩ = some (.slice B3 hs.length d3) := by subst hW; go_simp
      have t2 : W.cell? ⟨w.heap.size, 2, none⟩ = some (.slice N hs.length e) := by subst hW; go_simp
      rw [hW] at e1' e2' e3' hXW ⊢
      clear hW q0 q1 q2 s1 s2 s3
      refine bodyPost_ret (v := .tuple #[towV A2 tk.length c2 B3 hs.length d3 N hs.length e, .int .i64 0]) (by simp [results, Try.results47, go_sem, t0, t1, t2]) rfl (by
        rw [HTW.out, HTWO.out]
        refine ⟨A2, B3, N, c2, d3, e, ?_, e1', e2', ?_, hXW⟩
        · show _ = Ending.returned (.tuple #[towV A2 tk.length c2 B3 hs.length d3 N D.length e, .int .i64 0])
          rw [HDL.out]
        · show Oww w.heap.size W (.slice N D.length e) D
          rw [HDL.out]; exact e3')

theorem Plain.rightTw_nx (t : Tw) : rightTw t = (decide ((buildP t.tokens t.heights).2 = 0) && decide (t.next = (buildP t.tokens t.heights).1.next)) := by
  rw [Bool.eq_iff_iff, rightTw_iff, Bool.and_eq_true, decide_eq_true_eq, decide_eq_true_eq]
  unfold buildP
  by_cases h : mayB t.tokens t.heights = true
  · rw [if_pos h]
    refine ⟨fun h2 => ⟨rfl, congrArg Tw.next h2.2⟩, fun h2 => ⟨h, ?_⟩⟩
    obtain ⟨tk, hs, nx⟩ := t
    have h3 : nx = (twOf tk hs).next := h2.2
    rw [h3]; rfl
  · rw [if_neg h]
    refine ⟨fun h2 => absurd h2.1 h, fun h2 => absurd h2.1 (by decide)⟩
theorem Plain.built_rows (tk hs : List Int) : ∀ j, j < (buildP tk hs).1.next.length → ((buildP tk hs).1.next.getD j []).length ≤ 1048576 := by
  intro j hj
  unfold buildP at hj ⊢
  by_cases h : mayB tk hs = true
  · rw [if_pos h] at hj ⊢
    obtain ⟨m1, m2, m3, m4⟩ := (mayB_iff tk hs).1 h
    have hj' : j < hs.length := by simpa [twOf] using hj
    have : (twOf tk hs).next.getD j [] = nextsP hs j := by
      show ((List.range hs.length).map (nextsP hs)).getD j [] = _
      rw [List.getD_eq_getElem?_getD, List.getElem?_map, List.getElem?_range hj']; rfl
    rw [this, nextsP_len]
    have := m4 _ (ints_mem hj')
    omega
  · rw [if_neg h] at hj
    exact absurd hj (Nat.not_lt_zero _)
set_option maxHeartbeats 3200000 in
set_option maxRecDepth 100000 in
theorem pright14_any (t : Tw) (A B N : Option Addr) (c d e : Nat) (w : World) (h : TwR w t A B N c d e) :
    Calls Try.prog 38 #[towV A t.tokens.length c B t.heights.length d N t.next.length e] w fun ed w' => ed = .returned (.bool (rightTw t)) ∧ Ext w w' := by
  have hrt := rightTw_nx t
  have her := build_er t.tokens t.heights
  have hrw := built_rows t.tokens t.heights
  obtain ⟨tk, hs, nx⟩ := t
  obtain ⟨h1, h2, h3⟩ := h
  simp only at h1 h2 h3 hrt her hrw ⊢
  have H1 := Lib.hid h1
  have H2 := Lib.hid h2
  have H3 := Lib.hid h3
  have HX0 : Hid (Ext w (w.alloc (.cells #[.slice A tk.length c, .slice B hs.length d, .slice N nx.length e] 25))) := Lib.hid ((Ext.refl w).alloc _)
  obtain ⟨⟨⟨b1, b2, b3⟩, er⟩, hb⟩ : ∃ r, buildP tk hs = r := ⟨_, rfl⟩
  rw [hb] at hrt her hrw
  simp only at hrt her hrw
  have HBD := Lib.hid hb
  have HRW := Lib.hid hrw
  clear h1 h2 h3 hb hrw
  rw [hrt]
  obtain ⟨q, hq⟩ : ∃ q, decide (nx = b3) = q := ⟨_, rfl⟩
  rw [hq]
  have HQ := Lib.hid hq
  clear hq hrt
  go_enter Try.func38, Try.ntmps38
  go_wp2_with fail
  refine (pbuild14_any tk hs A B c d _ (H1.out.ext HX0.out) (H2.out.ext HX0.out)).mono ?_
  rw [HBD.out]
  rintro ed w1 ⟨A1, B1, N1, c1, d1, e1, rfl, hA1, hB1, hN1, hE1⟩
  simp only at hA1 hB1 hN1 ⊢
  have p0 : w1.cell? ⟨w.heap.size, 0, none⟩ = some (.slice A tk.length c) := Ext.cell hE1 (by go_simp)
  have p1 : w1.cell? ⟨w.heap.size, 1, none⟩ = some (.slice B hs.length d) := Ext.cell hE1 (by go_simp)
  have p2 : w1.cell? ⟨w.heap.size, 2, none⟩ = some (.slice N nx.length e) := Ext.cell hE1 (by go_simp)
  have pf : ∀ o, w1.frozen? ⟨w.heap.size, o, none⟩ = false := fun o => (Below.frozen hE1 (p := ⟨w.heap.size, o, none⟩) (by first | omega | (simp; omega) | simp)).trans (by go_simp)
  have lz1 := hE1.size
  simp at lz1
  have n1 : w.heap.size < w1.heap.size := by omega
  have HX1 := Lib.hid (HX0.out.trans hE1)
  have HN1 := Lib.hid hN1.rdd
  clear hE1 lz1 HX0 hA1 hB1 hN1
  rcases her with rfl | rfl
  · go_wp2_with fail
    refine (equalF nx b3 N N1 e e1 _ (H3.out.ext (HX1.out.trans ((Ext.refl _).alloc _))) (HN1.out.ext ((Ext.refl _).alloc _)) HRW.out).mono ?_
    rw [HQ.out]
    rintro ed w2 ⟨rfl, hE2⟩
    have HX2 := Lib.hid (HX1.out.trans (((Ext.refl w1).alloc (.cells #[.slice A1 b1.length c1, .slice B1 b2.length d1, .slice N1 b3.length e1] 25)).trans hE2))
    clear hE2
    go_wp2_with fail
    go_ret
    exact ⟨ret_bool (by first | rfl | simp), HX2.out⟩
  · go_wp2_with fail
    go_ret
    exact ⟨ret_bool (by first | rfl | simp), HX1.out.alloc _⟩
end Go.Proofs.Ytllpfegnpakadaa

/- The program's heights of tokens (gathered), what is built of them, and Height. -/
namespace Go.Proofs.Ytllpfegnpakadaa
open Go.BigFrame
open Go.RowKit Go.Proofs.Ytllpfegnpakadaa.Plain

/-- towers in a row of memory -/
structure TsR (w : World) (n b : Nat) (t : Nat → Tw) (A B N : Nat → Option Addr) (c d e : Nat → Nat) : Prop where
  at_ : ∀ i, i < n → w.cell? ⟨b, i * 3, none⟩ = some (.slice (A i) (t i).tokens.length (c i)) ∧ w.cell? ⟨b, i * 3 + 1, none⟩ = some (.slice (B i) (t i).heights.length (d i)) ∧ w.cell? ⟨b, i * 3 + 2, none⟩ = some (.slice (N i) (t i).next.length (e i))
  tw : ∀ i, i < n → TwR w (t i) (A i) (B i) (N i) (c i) (d i) (e i)
set_option maxHeartbeats 6400000 in
set_option maxRecDepth 100000 in
theorem pgathered15_any (n b : Nat) (t : Nat → Tw) (A B N : Nat → Option Addr) (c d e : Nat → Nat) (w : World) (h : TsR w n b t A B N c d e) (hn : n ≤ 1000) :
    Calls Try.prog 28 #[.slice (some ⟨b, 0, none⟩) n n] w fun ed w' => Ext w w' ∧
      (((∀ i, i < n → rightTw (t i) = true) ∧ ∃ (m q : Nat) (D : DataW Unit), ed = .returned (.tuple #[.map (some m), .bool true]) ∧ w.heap.size ≤ m ∧ w'.ownsMap Try.prog 3 (plainElem Try.prog 3) m q D ∧ MapAs numK in64 D (hF t n)) ∨
       ((∃ i, i < n ∧ rightTw (t i) = false) ∧ ed = .returned (.tuple #[.map none, .bool false]))) := by
  have H := Lib.hid h
  have hn9 : (n : Int) ≤ 1000 := by omega
  clear h
  have hmm := @run_makeMap Try.prog
  go_enter Try.func28, Try.ntmps28
  go_wp2_with fail
  go_loopw [12] (fun i wr => ∃ (k : Nat) (D : DataW Unit), k ≤ n ∧ i = .int .i64 k ∧ (∀ i, i < k → rightTw (t i) = true) ∧ wr.ownsMap Try.prog 3 (plainElem (H := Unit) Try.prog 3) w.heap.size (k * 1000) D ∧ MapAs numK in64 D (hF t k) ∧ Ext w wr ∧ w.heap.size < wr.heap.size) (fun i _ => n - (intOf i).toNat)
  case atStart => exact ⟨0, .map [], Nat.zero_le _, rfl, fun i hi => absurd hi (Nat.not_lt_zero _), (World.ownsMap_made _ _ _ _).mono (Nat.zero_le _), MapAs.nil _ _, (Ext.refl w).alloc _, by simp⟩
  case round =>
    obtain ⟨k, D, hk, rfl, hR, hown, hM, hX, hsz⟩ := hrel
    have HX := Lib.hid hX
    have HOW := Lib.hid hown
    have HM := Lib.hid hM
    have HR := Lib.hid hR
    have hk0 : (0 : Int) ≤ k := by omega
    clear hX hmm hown hM hR
    by_cases hlt : k < n
    · have hlt' : (k : Int) < n := by omega
      obtain ⟨x0, x1, x2⟩ := H.out.at_ k hlt
      replace x0 := HX.out.cell x0
      replace x1 := HX.out.cell x1
      replace x2 := HX.out.cell x2
      have HT := Lib.hid (H.out.tw k hlt)
      have hJ0 := hJ_zero t k
      have hJn := hJ_all t k
      have hJs := hJ_succ t k
      have HLT := Lib.hid hlt
      obtain ⟨T, hT⟩ : ∃ T, t k = T := ⟨_, rfl⟩
      obtain ⟨A1, hA⟩ : ∃ x, A k = x := ⟨_, rfl⟩
      obtain ⟨B1, hB⟩ : ∃ x, B k = x := ⟨_, rfl⟩
      obtain ⟨N1, hN⟩ : ∃ x, N k = x := ⟨_, rfl⟩
      obtain ⟨c1, hc⟩ : ∃ x, c k = x := ⟨_, rfl⟩
      obtain ⟨d1, hd⟩ : ∃ x, d k = x := ⟨_, rfl⟩
      obtain ⟨e1, he⟩ : ∃ x, e k = x := ⟨_, rfl⟩
      rw [hT] at x0 x1 x2 HT hJn hJs
      rw [hA, hB, hN, hc, hd, he] at HT
      rw [hA, hc] at x0
      rw [hB, hd] at x1
      rw [hN, he] at x2
      have HTT := Lib.hid hT
      have HJ0 := Lib.hid hJ0
      have HJn := Lib.hid hJn
      have HJs := Lib.hid hJs
      have lb : b < wr.heap.size := World.block_lt_of_cell? _ _ x0
      clear hT hA hB hN hc hd he hJ0 hJn hJs hlt
      go_wp2_with fail
      refine (pright14_any T A1 B1 N1 c1 d1 e1 _ (HT.out.ext (HX.out.alloc _))).mono ?_
      rintro ed w1 ⟨rfl, hE1⟩
      have p0 : w1.cell? ⟨wr.heap.size, 0, none⟩ = some (.slice A1 T.tokens.length c1) := Ext.cell hE1 (by go_simp)
      have p1 : w1.cell? ⟨wr.heap.size, 1, none⟩ = some (.slice B1 T.heights.length d1) := Ext.cell hE1 (by go_simp)
      have p2 : w1.cell? ⟨wr.heap.size, 2, none⟩ = some (.slice N1 T.next.length e1) := Ext.cell hE1 (by go_simp)
      have pf : ∀ o, w1.frozen? ⟨wr.heap.size, o, none⟩ = false := fun o => (Below.frozen hE1 (p := ⟨wr.heap.size, o, none⟩) (by first | omega | (simp; omega) | simp)).trans (by go_simp)
      have HO1 := Lib.hid (owns_ext (HOW.out.alloc (.cells #[.slice A1 T.tokens.length c1, .slice B1 T.heights.length d1, .slice N1 T.next.length e1] 25)) hE1)
      have HX1 := Lib.hid ((HX.out.alloc (.cells #[.slice A1 T.tokens.length c1, .slice B1 T.heights.length d1, .slice N1 T.next.length e1] 25)).trans hE1)
      have hz1 := hE1.size
      simp at hz1
      obtain ⟨bx, hbx⟩ : ∃ q, wr.heap.size = q := ⟨_, rfl⟩
      rw [hbx] at p0 p1 p2 pf hz1 hsz
      clear hE1 HOW HX x0 x1 x2 lb
      rw [hbx]
      clear hbx
      cases hr : rightTw T with
      | false =>
        have HRR : Hid (rightTw (t k) = false) := Lib.hid (by rw [HTT.out]; exact hr)
        clear hr
        go_wp2_with fail
        exact bodyPost_ret (v := .tuple #[.map none, .bool false]) (by simp [results, Try.results28, go_sem]) rfl ⟨HX1.out, Or.inr ⟨⟨k, HLT.out, HRR.out⟩, rfl⟩⟩
      | true =>
        have HRR : Hid (rightTw (t k) = true) := Lib.hid (by rw [HTT.out]; exact hr)
        obtain ⟨g1, g2, g3, g4, g5, g6⟩ := right_tok hr
        have hth : ∀ j, j < T.tokens.length → heightP T (T.tokens.getD j 0) = T.heights.getD j 0 := fun j hj => height_at hr hj
        have HTH := Lib.hid hth
        have hln : T.tokens.length ≤ 1000 := ((rightL_iff _).1 g1).1
        obtain ⟨tk, htk⟩ : ∃ x, T.tokens = x := ⟨_, rfl⟩
        obtain ⟨hs, hhs⟩ : ∃ x, T.heights = x := ⟨_, rfl⟩
        have HTk : Hid (Rd kInt w (.slice A1 tk.length c1) tk) := Lib.hid (by rw [← htk]; exact HT.out.tok)
        have HTh : Hid (Rd kInt w (.slice B1 hs.length d1) hs) := Lib.hid (by rw [← hhs]; exact HT.out.hts)
        rw [htk, hhs] at g4 HTH
        rw [htk] at hln HJn HJs p0
        rw [hhs] at p1
        obtain ⟨m, hm⟩ : ∃ m, tk.length = m := ⟨_, rfl⟩
        have hhm : hs.length = m := by omega
        have HLN : Hid (tk.length = m ∧ hs.length = m) := Lib.hid ⟨hm, hhm⟩
        rw [hm] at p0 HTk HTH hln HJn HJs
        rw [hhm] at p1 HTh
        have hm9 : (m : Int) ≤ 1000 := by omega
        clear g1 g2 g3 g4 g5 g6 hr hth htk hhs hm hhm pf HT
        obtain ⟨M0, hM0⟩ : ∃ q, w.heap.size = q := ⟨_, rfl⟩
        rw [hM0] at HO1 hsz ⊢
        have HM0 := Lib.hid hM0
        clear hM0
        go_wp2_with fail
        generalize wr = wz at *
        go_loopw [22] (fun i wr => ∃ (j : Nat) (D : DataW Unit), j ≤ m ∧ i = .int .i64 j ∧ wr.ownsMap Try.prog 3 (plainElem (H := Unit) Try.prog 3) M0 (k * 1000 + j) D ∧ MapAs numK in64 D (hJ t k j) ∧ Ext w wr ∧ wr.cell? ⟨bx, 0, none⟩ = some (.slice A1 m c1) ∧ wr.cell? ⟨bx, 1, none⟩ = some (.slice B1 m d1)) (fun i _ => m - (intOf i).toNat)
        case atStart => exact ⟨0, D, Nat.zero_le _, rfl, HO1.out, by rw [HJ0.out]; exact HM.out, HX1.out, p0, p1⟩
        case round =>
          obtain ⟨j, D2, hj, rfl, hown, hM2, hX, q0, q1⟩ := hrel
          have HX2 := Lib.hid hX
          have HOW2 := Lib.hid hown
          have HM2 := Lib.hid hM2
          have hj0 : (0 : Int) ≤ j := by omega
          clear hX hown hM2
          by_cases hjt : j < m
          · have hjt' : (j : Int) < m := by omega
            obtain ⟨bt, ot, rfl, hct⟩ := (ints_of_rd (HTk.out.ext HX2.out)).cells (by rw [HLN.out.1]; omega)
            obtain ⟨bh, oh, rfl, hch⟩ := (ints_of_rd (HTh.out.ext HX2.out)).cells (by rw [HLN.out.2]; omega)
            have z0 := hct j (by rw [HLN.out.1]; exact hjt)
            have z1 := hch j (by rw [HLN.out.2]; exact hjt)
            have okx : in64 (tk.getD j 0) := HTk.out.okAt j (by rw [HLN.out.1]; exact hjt)
            have okh : in64 (hs.getD j 0) := HTh.out.okAt j (by rw [HLN.out.2]; exact hjt)
            have hth := HTH.out j hjt
            have hjs := HJs.out j hjt
            rw [hth] at hjs
            obtain ⟨x, hx⟩ : ∃ x, tk.getD j 0 = x := ⟨_, rfl⟩
            obtain ⟨y, hy⟩ : ∃ y, hs.getD j 0 = y := ⟨_, rfl⟩
            rw [hx] at z0 okx hjs
            rw [hy] at z1 okh hjs
            have HKEY := Lib.hid (keyNum x okx)
            have HVAL := Lib.hid (mapR_int okh)
            have HMP := Lib.hid (HM2.out.put (k := x) trivial (fun q _ he => numK_inj he) y)
            have HJS := Lib.hid hjs
            have HML : Hid (k * 1000 + j < maxLen) := Lib.hid (by have := HLT.out; unfold maxLen; omega)
            have lbx : bx < wr.heap.size := World.block_lt_of_cell? _ _ q0
            have lbt : bt < wr.heap.size := World.block_lt_of_cell? _ _ z0
            have lbh : bh < wr.heap.size := World.block_lt_of_cell? _ _ z1
            clear hct hch okx okh hth hjs hx hy
            go_wp2_with (at_mapUpdate; refine wpList_mapUpdate_own _ rfl _ _ _ 52 rfl 3 3 keyedZ Try.underlying52 (plainElem (H := Unit) Try.prog 3) M0 (k * 1000 + j) _ rfl HOW2.out HML.out _ _ _ rfl rfl HKEY.out _ [] HVAL.out ?_; intro w2 hown1 hgrow1)
            have q0' := grown_cell hgrow1 (by show bx ≠ M0; omega) q0
            have q1' := grown_cell hgrow1 (by show bx ≠ M0; omega) q1
            have H1 := Lib.hid (And.intro hown1 (And.intro ((HX2.out).grown hgrow1 (fun j hj => by cases hj; rw [HM0.out]; exact Nat.le_refl _)) (And.intro q0' q1')))
            clear hown1 hgrow1 q0 q1 q0' q1' z0 z1 lbx lbt lbh
            go_wp2_with fail
            go_roundw
            case rel => exact ⟨j + 1, _, by omega, by go_num, H1.out.1, by rw [HJS.out]; exact HMP.out, H1.out.2.1, H1.out.2.2.1, H1.out.2.2.2⟩
            case measure => simp [intOf]; omega
          · obtain rfl : j = m := by omega
            have HF : Hid (hJ t k j = hF t (k + 1)) := HJn
            have HRS : Hid (∀ i, i < k + 1 → rightTw (t i) = true) := Lib.hid fun i hi => by
              by_cases e : i = k
              · rw [e]; exact HRR.out
              · exact HR.out i (by omega)
            go_wp2_with fail
            have hMM := HM0.out
            subst hMM
            go_roundw
            case rel => exact ⟨k + 1, D2, by have := HLT.out; omega, by go_num, HRS.out, HOW2.out.mono (by omega), by rw [← HF.out]; exact HM2.out, HX2.out, HOW2.out.lt⟩
            case measure => simp [intOf]; have := HLT.out; omega
    · obtain rfl : k = n := by omega
      go_wp2_with fail
      exact bodyPost_ret (v := .tuple #[.map (some w.heap.size), .bool true]) (by simp [results, Try.results28, go_sem]) rfl ⟨HX.out, Or.inl ⟨HR.out, _, _, D, rfl, Nat.le_refl _, HOW.out, HM.out⟩⟩
end Go.Proofs.Ytllpfegnpakadaa

/- The program's built and Height. -/
namespace Go.Proofs.Ytllpfegnpakadaa
open Go.BigFrame
open Go.RowKit Go.Proofs.Ytllpfegnpakadaa.Plain

theorem Plain.set_map15 (f : Int → Int) (l : List Int) (k : Nat) (hk : k < l.length) : ((l.take k).map f ++ List.replicate (l.length - k) 0).set k (f (l.getD k 0)) = (l.take (k + 1)).map f ++ List.replicate (l.length - (k + 1)) 0 := by
  have h1 : ((l.take k).map f).length = k := by rw [List.length_map, List.length_take]; omega
  have h2 : l.length - k = (l.length - (k + 1)) + 1 := by omega
  rw [h2, List.replicate_succ, List.set_append_right _ _ (by omega), h1, Nat.sub_self, List.set_cons_zero, take_snoc15 hk, List.map_append]
  simp
set_option maxHeartbeats 6400000 in
set_option maxRecDepth 100000 in
theorem pbuilt15_any (l : List Int) (L : Option Addr) (lc m q : Nat) (D : DataW Unit) (f : Int → Option Int) (w : World) (hL : Rd kInt w (.slice L l.length lc) l) (hl : l.length ≤ 2000)
    (hO : w.ownsMap Try.prog 3 (plainElem Try.prog 3) m q D) (hD : MapAs numK in64 D f) :
    Calls Try.prog 30 #[.slice L l.length lc, .map (some m)] w (TbSaid ((buildP l (l.map (hAt f))).1, decide ((buildP l (l.map (hAt f))).2 = 0)) w) := by
  have HL := Lib.hid hL
  have HOw := Lib.hid hO
  have HD := Lib.hid hD
  have hl' : (l.length : Int) ≤ 2000 := by omega
  obtain ⟨C, hmk, hmown⟩ := kInt.make 0 rfl (show in64 0 by decide) l.length (by omega)
  have hmk2 : ∀ w : World, (Instr.makeSlice 22 (.int .i64 l.length) (.int .i64 l.length)).run Try.prog w = .ok (.slice (some ⟨w.heap.size, 0, none⟩) l.length l.length) (w.alloc (.cells C 3)) := hmk
  obtain ⟨W1, hW1⟩ : ∃ W1, w.alloc (.cells #[.slice none 0 0, .slice none 0 0, .slice none 0 0] 25) = W1 := ⟨_, rfl⟩
  have hz1 : W1.heap.size = w.heap.size + 1 := by rw [← hW1]; simp
  have HM := Lib.hid (hmown W1 W1.heap.size W1.heap.size rfl (Nat.le_refl _))
  clear hL hmk hmown hO hD
  go_enter Try.func30, Try.ntmps30
  go_wp2_with fail
  rw [show (.cells C 3 : Obj) = .cells C kInt.e from rfl]
  obtain ⟨W0, hW0⟩ : ∃ W0, W1.alloc (.cells C kInt.e) = W0 := ⟨_, rfl⟩
  have hM := HM.out
  have hXA : Ext w W0 := by rw [← hW0, ← hW1]; exact ((Ext.refl _).alloc _).alloc _
  have p0 : W0.cell? ⟨w.heap.size, 0, none⟩ = some (.slice none 0 0) := by subst hW0; subst hW1; clear HM hM; go_simp
  have p1 : W0.cell? ⟨w.heap.size, 1, none⟩ = some (.slice none 0 0) := by subst hW0; subst hW1; clear HM hM; go_simp
  have p2 : W0.cell? ⟨w.heap.size, 2, none⟩ = some (.slice none 0 0) := by subst hW0; subst hW1; clear HM hM; go_simp
  have pf : ∀ o, W0.frozen? ⟨w.heap.size, o, none⟩ = false := fun o => by subst hW0; subst hW1; clear HM hM; go_simp
  rw [hW0] at hM ⊢
  rw [hz1] at hM
  have HX0 := Lib.hid hXA
  have HO0 := Lib.hid (owns_ext HOw.out hXA)
  have HM0 := Lib.hid hM
  have HMN : Hid (w.heap.size + 1 ≠ m) := Lib.hid (by have := HOw.out.lt; omega)
  clear hmk2 HM hM hXA hW0 hW1 hz1 W1
  go_loopw [16] (fun i wr => ∃ k : Nat, k ≤ l.length ∧ i = .int .i64 k ∧ Ow kInt (w.heap.size + 1) wr (.slice (some ⟨w.heap.size + 1, 0, none⟩) l.length l.length) ((l.take k).map (hAt f) ++ List.replicate (l.length - k) 0) ∧ wr.ownsMap Try.prog 3 (plainElem (H := Unit) Try.prog 3) m q D ∧ Ext w wr ∧
    (wr.cell? ⟨w.heap.size, 0, none⟩ = some (.slice none 0 0) ∧ wr.cell? ⟨w.heap.size, 1, none⟩ = some (.slice none 0 0) ∧ wr.cell? ⟨w.heap.size, 2, none⟩ = some (.slice none 0 0) ∧ ∀ o, wr.frozen? ⟨w.heap.size, o, none⟩ = false)) (fun i _ => l.length - (intOf i).toNat)
  case atStart => exact ⟨0, Nat.zero_le _, rfl, by simpa using HM0.out, HO0.out, HX0.out, p0, p1, p2, pf⟩
  case round =>
    obtain ⟨k, hk, rfl, hOk, hOm, hX, q0, q1, q2, qf⟩ := hrel
    have HO := Lib.hid hOk
    have HXR := Lib.hid hX
    have HOm := Lib.hid hOm
    have hk0 : (0 : Int) ≤ k := by omega
    clear hOk hX hOm
    by_cases hlt : k < l.length
    · have hlt' : (k : Int) < l.length := by omega
      obtain ⟨bl, ol, rfl, hcl⟩ := (ints_of_rd (HL.out.ext HXR.out)).cells (by omega)
      have z0 := hcl k hlt
      have hok : in64 (l.getD k 0) := HL.out.okAt k hlt
      have hset := set_map15 (hAt f) l k hlt
      have hyl : ((l.take k).map (hAt f) ++ List.replicate (l.length - k) 0).length = l.length := by rw [List.length_append, List.length_map, List.length_take, List.length_replicate]; omega
      obtain ⟨x, hx⟩ : ∃ x, l.getD k 0 = x := ⟨_, rfl⟩
      rw [hx] at z0 hok hset
      have HKEY := Lib.hid (keyNum x hok)
      have HLK := Lib.hid (fun c => HD.out.look (k := x) hok (c := c))
      have hst := fun v hv => HO.out.setZ (u := k) (v := v) (by rw [hyl]; exact hlt) hv
      obtain ⟨a1, a2, a3, a4⟩ := HO.out.atZ (u := k) (by rw [hyl]; exact hlt)
      have HST := Lib.hid hst
      have HSET := Lib.hid hset
      have lz : w.heap.size < wr.heap.size := World.block_lt_of_cell? _ _ q0
      clear hcl hx hok hset hyl hst
      go_wp2_with (first
        | (at_lookup; refine wpList_lookup_own_int _ rfl _ _ 52 rfl 3 3 .i64 keyedZ Try.underlying52 Try.underlying3 (zero15 _) m q _ rfl HOm.out _ _ rfl HKEY.out ?_; intro c hat hwc)
        | fail)
      go_roundw
      case rel =>
        obtain rfl : c = hAt f x := HLK.out c hat
        have hne : w.heap.size + 1 ≠ m := HMN.out
        exact ⟨k + 1, by omega, by go_num, by rw [← HSET.out]; exact HST.out _ (wfin64.1 hwc), HOm.out.setCell (a := ⟨w.heap.size + 1, k, none⟩) (Ne.symm hne) _, HXR.out.setCell (p := ⟨w.heap.size + 1, k, none⟩) (Nat.le_succ _) _, by go_simp, by go_simp, by go_simp, fun o => by go_simp⟩
      case measure => simp [intOf]; omega
    · obtain rfl : k = l.length := by omega
      have hO := HO.out
      rw [List.take_length, Nat.sub_self, List.replicate_zero, List.append_nil] at hO
      have HF := Lib.hid hO
      clear hO
      have HNX : Hid ((l.map (hAt f)).length = l.length) := Lib.hid (by rw [List.length_map])
      obtain ⟨hs, hhs⟩ : ∃ hs, l.map (hAt f) = hs := ⟨_, rfl⟩
      rw [hhs] at HF HNX
      have HB := Lib.hid (pbuild14_any l hs L (some ⟨w.heap.size + 1, 0, none⟩) lc l.length wr (HL.out.ext HXR.out) (by rw [HNX.out]; exact HF.out.rd))
      rw [HNX.out] at HB
      obtain ⟨⟨⟨rt, rh, rn⟩, er⟩, hbe⟩ : ∃ r, buildP l hs = r := ⟨_, rfl⟩
      rw [hbe] at HB
      have her := build_er l hs
      rw [hbe] at her
      simp only at her
      have HBE : Hid (buildP l (l.map (hAt f)) = (⟨rt, rh, rn⟩, er)) := Lib.hid (by rw [hhs]; exact hbe)
      clear hhs hbe
      go_wp2_with fail
      refine HB.out.mono ?_
      rintro ed w1 ⟨A1, B1, N1, c1, d1, e1, rfl, hA1, hB1, hN1, hE1⟩
      simp only at hA1 hB1 hN1
      replace q0 := hE1.cell q0
      replace q1 := hE1.cell q1
      replace q2 := hE1.cell q2
      have lw : w.heap.size < wr.heap.size := by have := HOm.out.lt; have := HXR.out.size; have := HF.out.lt _ rfl; omega
      replace qf := fun o => (Below.frozen hE1 (p := ⟨w.heap.size, o, none⟩) lw).trans (qf o)
      have HO1 : Hid (TwO wr.heap.size w1 ⟨rt, rh, rn⟩ A1 B1 N1 c1 d1 e1) := Lib.hid ⟨hA1, hB1, hN1⟩
      have HX1 := Lib.hid (HXR.out.trans hE1)
      have lw1 : w.heap.size < w1.heap.size := by have := hE1.size; omega
      have LW := Lib.hid lw
      clear hA1 hB1 hN1 hE1 lw
      rcases her with rfl | rfl
      · go_wp2_with fail
        have hXW : Ext w ((((w1.setCell ⟨w.heap.size, 0, none⟩ (.slice A1 rt.length c1)).setCell ⟨w.heap.size, 1, none⟩ (.slice B1 rh.length d1)).setCell ⟨w.heap.size, 2, none⟩ (.slice N1 rn.length e1)).alloc (.cells #[.slice A1 rt.length c1, .slice B1 rh.length d1, .slice N1 rn.length e1] 25)) := (((HX1.out.setCell (p := ⟨w.heap.size, 0, none⟩) (Nat.le_refl _) _).setCell (p := ⟨w.heap.size, 1, none⟩) (Nat.le_refl _) _).setCell (p := ⟨w.heap.size, 2, none⟩) (Nat.le_refl _) _).alloc _
        have hTW : TwO w.heap.size ((((w1.setCell ⟨w.heap.size, 0, none⟩ (.slice A1 rt.length c1)).setCell ⟨w.heap.size, 1, none⟩ (.slice B1 rh.length d1)).setCell ⟨w.heap.size, 2, none⟩ (.slice N1 rn.length e1)).alloc (.cells #[.slice A1 rt.length c1, .slice B1 rh.length d1, .slice N1 rn.length e1] 25)) ⟨rt, rh, rn⟩ A1 B1 N1 c1 d1 e1 := ((((HO1.out.set (p := ⟨w.heap.size, 0, none⟩) LW.out _).set (p := ⟨w.heap.size, 1, none⟩) LW.out _).set (p := ⟨w.heap.size, 2, none⟩) LW.out _).ext ((Ext.refl _).alloc _)).mono (Nat.le_of_lt LW.out)
        obtain ⟨W, hW⟩ : ∃ W, (((w1.setCell ⟨w.heap.size, 0, none⟩ (.slice A1 rt.length c1)).setCell ⟨w.heap.size, 1, none⟩ (.slice B1 rh.length d1)).setCell ⟨w.heap.size, 2, none⟩ (.slice N1 rn.length e1)).alloc (.cells #[.slice A1 rt.length c1, .slice B1 rh.length d1, .slice N1 rn.length e1] 25) = W := ⟨_, rfl⟩
        have t0 : W.cell? ⟨w.heap.size, 0, none⟩ = some (.slice A1 rt.length c1) := by subst hW; clear hXW hTW; go_simp
        have t1 : W.cell? ⟨w.heap.size, 1, none⟩ = some (.slice B1 rh.length d1) := by subst hW; clear hXW hTW; go_simp
        have t2 : W.cell? ⟨w.heap.size, 2, none⟩ = some (.slice N1 rn.length e1) := by subst hW; clear hXW hTW; go_simp
        rw [hW] at hXW hTW ⊢
        clear hW q0 q1 q2 qf
        refine bodyPost_ret (v := .tuple #[towV A1 rt.length c1 B1 rh.length d1 N1 rn.length e1, .bool true]) (by simp [results, Try.results30, go_sem, t0, t1, t2]) rfl (by rw [HBE.out]; exact ⟨A1, B1, N1, c1, d1, e1, rfl, hTW, hXW⟩)
      · go_wp2_with fail
        have hXW : Ext w ((((w1.setCell ⟨w.heap.size, 0, none⟩ (.slice A1 rt.length c1)).setCell ⟨w.heap.size, 1, none⟩ (.slice B1 rh.length d1)).setCell ⟨w.heap.size, 2, none⟩ (.slice N1 rn.length e1)).alloc (.cells #[.slice A1 rt.length c1, .slice B1 rh.length d1, .slice N1 rn.length e1] 25)) := (((HX1.out.setCell (p := ⟨w.heap.size, 0, none⟩) (Nat.le_refl _) _).setCell (p := ⟨w.heap.size, 1, none⟩) (Nat.le_refl _) _).setCell (p := ⟨w.heap.size, 2, none⟩) (Nat.le_refl _) _).alloc _
        have hTW : TwO w.heap.size ((((w1.setCell ⟨w.heap.size, 0, none⟩ (.slice A1 rt.length c1)).setCell ⟨w.heap.size, 1, none⟩ (.slice B1 rh.length d1)).setCell ⟨w.heap.size, 2, none⟩ (.slice N1 rn.length e1)).alloc (.cells #[.slice A1 rt.length c1, .slice B1 rh.length d1, .slice N1 rn.length e1] 25)) ⟨rt, rh, rn⟩ A1 B1 N1 c1 d1 e1 := ((((HO1.out.set (p := ⟨w.heap.size, 0, none⟩) LW.out _).set (p := ⟨w.heap.size, 1, none⟩) LW.out _).set (p := ⟨w.heap.size, 2, none⟩) LW.out _).ext ((Ext.refl _).alloc _)).mono (Nat.le_of_lt LW.out)
        obtain ⟨W, hW⟩ : ∃ W, (((w1.setCell ⟨w.heap.size, 0, none⟩ (.slice A1 rt.length c1)).setCell ⟨w.heap.size, 1, none⟩ (.slice B1 rh.length d1)).setCell ⟨w.heap.size, 2, none⟩ (.slice N1 rn.length e1)).alloc (.cells #[.slice A1 rt.length c1, .slice B1 rh.length d1, .slice N1 rn.length e1] 25) = W := ⟨_, rfl⟩
        have t0 : W.cell? ⟨w.heap.size, 0, none⟩ = some (.slice A1 rt.length c1) := by subst hW; clear hXW hTW; go_simp
        have t1 : W.cell? ⟨w.heap.size, 1, none⟩ = some (.slice B1 rh.length d1) := by subst hW; clear hXW hTW; go_simp
        have t2 : W.cell? ⟨w.heap.size, 2, none⟩ = some (.slice N1 rn.length e1) := by subst hW; clear hXW hTW; go_simp
        rw [hW] at hXW hTW ⊢
        clear hW q0 q1 q2 qf
        refine bodyPost_ret (v := .tuple #[towV A1 rt.length c1 B1 rh.length d1 N1 rn.length e1, .bool false]) (by simp [results, Try.results30, go_sem, t0, t1, t2]) rfl (by rw [HBE.out]; exact ⟨A1, B1, N1, c1, d1, e1, rfl, hTW, hXW⟩)
theorem pgather_one (a : Tw) (A B N : Option Addr) (c d e : Nat) (b : Nat) (w : World) (ha : TwR w a A B N c d e) (h0 : w.cell? ⟨b, 0, none⟩ = some (.slice A a.tokens.length c)) (h1 : w.cell? ⟨b, 1, none⟩ = some (.slice B a.heights.length d)) (h2 : w.cell? ⟨b, 2, none⟩ = some (.slice N a.next.length e)) :
    Calls Try.prog 28 #[.slice (some ⟨b, 0, none⟩) 1 1] w fun ed w' => Ext w w' ∧
      ((rightTw a = true ∧ ∃ (m q : Nat) (D : DataW Unit), ed = .returned (.tuple #[.map (some m), .bool true]) ∧ w.heap.size ≤ m ∧ w'.ownsMap Try.prog 3 (plainElem Try.prog 3) m q D ∧ MapAs numK in64 D (hF (fun _ => a) 1)) ∨
       (rightTw a = false ∧ ed = .returned (.tuple #[.map none, .bool false]))) := by
  have hs : TsR w 1 b (fun _ => a) (fun _ => A) (fun _ => B) (fun _ => N) (fun _ => c) (fun _ => d) (fun _ => e) := ⟨fun i hi => by
    match i, hi with
    | 0, _ => exact ⟨h0, h1, h2⟩, fun _ _ => ha⟩
  have h := pgathered15_any 1 b _ _ _ _ _ _ _ w hs (by omega)
  refine h.mono ?_
  rintro ed w' ⟨hE, ⟨hr, hq⟩ | ⟨⟨i, _, hr⟩, hq⟩⟩
  · exact ⟨hE, Or.inl ⟨hr 0 (by omega), hq⟩⟩
  · exact ⟨hE, Or.inr ⟨hr, hq⟩⟩
theorem pgather_two (a a2 : Tw) (A B N A2 B2 N2 : Option Addr) (c d e c2 d2 e2 : Nat) (b : Nat) (w : World) (ha : TwR w a A B N c d e) (ha2 : TwR w a2 A2 B2 N2 c2 d2 e2) (h0 : w.cell? ⟨b, 0, none⟩ = some (.slice A a.tokens.length c)) (h1 : w.cell? ⟨b, 1, none⟩ = some (.slice B a.heights.length d)) (h2 : w.cell? ⟨b, 2, none⟩ = some (.slice N a.next.length e))
    (h3 : w.cell? ⟨b, 3, none⟩ = some (.slice A2 a2.tokens.length c2)) (h4 : w.cell? ⟨b, 4, none⟩ = some (.slice B2 a2.heights.length d2)) (h5 : w.cell? ⟨b, 5, none⟩ = some (.slice N2 a2.next.length e2)) :
    Calls Try.prog 28 #[.slice (some ⟨b, 0, none⟩) 2 2] w fun ed w' => Ext w w' ∧
      ((rightTw a = true ∧ rightTw a2 = true ∧ ∃ (m q : Nat) (D : DataW Unit), ed = .returned (.tuple #[.map (some m), .bool true]) ∧ w.heap.size ≤ m ∧ w'.ownsMap Try.prog 3 (plainElem Try.prog 3) m q D ∧ MapAs numK in64 D (hF (fun i => if i = 0 then a else a2) 2)) ∨
       (¬ (rightTw a = true ∧ rightTw a2 = true) ∧ ed = .returned (.tuple #[.map none, .bool false]))) := by
  have h := pgathered15_any 2 b (fun i => if i = 0 then a else a2) (fun i => if i = 0 then A else A2) (fun i => if i = 0 then B else B2) (fun i => if i = 0 then N else N2) (fun i => if i = 0 then c else c2) (fun i => if i = 0 then d else d2) (fun i => if i = 0 then e else e2) w
    ⟨fun i hi => by
      match i, hi with
      | 0, _ => exact ⟨h0, h1, h2⟩
      | 1, _ => exact ⟨h3, h4, h5⟩, fun i hi => by
      match i, hi with
      | 0, _ => exact ha
      | 1, _ => exact ha2⟩ (by omega)
  refine h.mono ?_
  rintro ed w' ⟨hE, ⟨hr, hq⟩ | ⟨⟨i, hi, hr⟩, hq⟩⟩
  · exact ⟨hE, Or.inl ⟨hr 0 (by omega), hr 1 (by omega), hq⟩⟩
  · refine ⟨hE, Or.inr ⟨fun hh => ?_, hq⟩⟩
    match i, hi, hr with
    | 0, _, hr => exact absurd (hh.1.symm.trans hr) (by decide)
    | 1, _, hr => exact absurd (hh.2.symm.trans hr) (by decide)
set_option maxHeartbeats 3200000 in
set_option maxRecDepth 100000 in
theorem pheight15_any (a : Tw) (x : Int) (A B N : Option Addr) (c d e : Nat) (w : World) (ha : TwR w a A B N c d e) (hx : in64 x) :
    Calls Try.prog 21 #[towV A a.tokens.length c B a.heights.length d N a.next.length e, .int .i64 x] w fun ed w' => ed = .returned (.int .i64 (heightP a x)) ∧ Ext w w' := by
  have HA := Lib.hid ha
  have HKEY := Lib.hid (keyNum x hx)
  clear ha
  go_enter Try.func21, Try.ntmps21
  go_wp2_with fail
  refine (pgather_one a A B N c d e (w.heap.size + 1) _ (HA.out.ext (by repeat (first | (with_reducible exact Ext.refl _) | (with_reducible assumption) | refine Ext.drew ?_ | refine Ext.drewN ?_ _ | refine Ext.alloc ?_ _))) (by go_simp) (by go_simp) (by go_simp)).mono ?_
  rintro ed w1 ⟨hE1, ⟨hr, m, q, D, rfl, hm, hO, hD⟩ | ⟨hr, rfl⟩⟩
  · have HX1 : Hid (Ext w w1) := Lib.hid (Ext.trans (by repeat (first | (with_reducible exact Ext.refl _) | (with_reducible assumption) | refine Ext.drew ?_ | refine Ext.drewN ?_ _ | refine Ext.alloc ?_ _)) hE1)
    have HO := Lib.hid hO
    have HD := Lib.hid hD
    clear hE1 hr hm hO hD
    go_wp2_with (first
      | (at_lookup; refine wpList_lookup_own_int _ rfl _ _ 52 rfl 3 3 .i64 keyedZ Try.underlying52 Try.underlying3 (zero15 _) m q _ rfl HO.out _ _ rfl HKEY.out ?_; intro v hat hwc)
      | fail)
    have h1 : v = heightP a x := by rw [HD.out.look (k := x) hx hat]; exact hAt_one a x
    exact bodyPost_ret (v := .int .i64 v) (by simp [results, Try.results21, go_sem]) rfl ⟨by rw [h1], HX1.out⟩
  · have HX1 : Hid (Ext w w1) := Lib.hid (Ext.trans (by repeat (first | (with_reducible exact Ext.refl _) | (with_reducible assumption) | refine Ext.drew ?_ | refine Ext.drewN ?_ _ | refine Ext.alloc ?_ _)) hE1)
    have HZ : Hid (heightP a x = 0) := Lib.hid (by unfold heightP; rw [if_neg (by rw [hr]; exact fun h => absurd h.1 (by decide))])
    have hln := Maps.look_nil (w := w1) false keyedZ Try.underlying52 (zero15 w1) HKEY.out
    clear hE1 hr
    go_wp2_with fail
    exact bodyPost_ret (v := .int .i64 0) (by simp [results, Try.results21, go_sem]) rfl ⟨by rw [HZ.out], HX1.out⟩
end Go.Proofs.Ytllpfegnpakadaa

/- The document's Links of towers (ref15). Written by wip/mk_t15.py. -/
namespace Go.Proofs.Ytllpfegnpakadaa
open Go.BigFrame
open Go.RowKit Go.Proofs.Ytllpfegnpakadaa.Plain

/-- links that a call has made -/
def LkSaid (l : List Lk) (w : World) (ed : Ending) (w' : World) : Prop :=
  ∃ (L : Option Addr) (c : Nat), ed = .returned (.slice L l.length c) ∧ Ow kLink w.heap.size w' (.slice L l.length c) l ∧ Ext w w'
theorem link_at {w : World} {q : Nat} {a b c : Int} (h : w.heap[q]? = some (.cells #[.int .i64 a, .int .i64 b, .int .i64 c] 51)) (hok : in64 a ∧ in64 b ∧ in64 c) : Rd kLink w (.slice (some ⟨q, 0, none⟩) 1 1) [(a, b, c)] :=
  ⟨by simp [maxLen], by intro y hy; rw [List.mem_singleton] at hy; rw [hy]; exact hok, _, 1, rfl, Nat.le_refl _, fun _ => ⟨q, 0, rfl, fun j hj i u hu => by
    obtain rfl : j = 0 := by simp at hj; omega
    rcases i with _ | _ | _ | i
    · have hu' : Value.int IntKind.i64 a = u := by simpa [kLink] using hu
      subst hu'
      exact (cell_of_row w q 0 _ _ _ h).trans rfl
    · have hu' : Value.int IntKind.i64 b = u := by simpa [kLink] using hu
      subst hu'
      exact (cell_of_row w q 1 _ _ _ h).trans rfl
    · have hu' : Value.int IntKind.i64 c = u := by simpa [kLink] using hu
      subst hu'
      exact (cell_of_row w q 2 _ _ _ h).trans rfl
    · simp [kLink] at hu⟩⟩
set_option maxHeartbeats 6400000 in
set_option maxRecDepth 100000 in
theorem rlinks15_any (t : Tw) (A B N : Option Addr) (c d e : Nat) (w : World) (ht : TwR w t A B N c d e) :
    Calls Try.prog 20 #[towV A t.tokens.length c B t.heights.length d N t.next.length e] w (LkSaid (linksP t) w) := by
  have HT := Lib.hid ht
  have HLK : Hid (linksP t = if rightTw t = true then linksF t.tokens t.heights t.heights.length else []) := Lib.hid rfl
  have HRF := Lib.hid (fun h => right_facts (t := t) h)
  have HX0 : Hid (Ext w (w.alloc (.cells #[.slice A t.tokens.length c, .slice B t.heights.length d, .slice N t.next.length e] 25))) := Lib.hid ((Ext.refl w).alloc _)
  clear ht
  go_enter Try.func20, Try.ntmps20
  go_wp2_with fail
  refine (rright14_any t A B N c d e _ (HT.out.ext HX0.out)).mono ?_
  rintro ed w1 ⟨rfl, hE1⟩
  have p0 : w1.cell? ⟨w.heap.size, 0, none⟩ = some (.slice A t.tokens.length c) := Ext.cell hE1 (by go_simp)
  have p1 : w1.cell? ⟨w.heap.size, 1, none⟩ = some (.slice B t.heights.length d) := Ext.cell hE1 (by go_simp)
  have p2 : w1.cell? ⟨w.heap.size, 2, none⟩ = some (.slice N t.next.length e) := Ext.cell hE1 (by go_simp)
  have pf : ∀ o, w1.frozen? ⟨w.heap.size, o, none⟩ = false := fun o => (Below.frozen hE1 (p := ⟨w.heap.size, o, none⟩) (by first | omega | (simp; omega) | simp)).trans (by go_simp)
  have lz1 := hE1.size
  simp at lz1
  have n1 : w.heap.size < w1.heap.size := by omega
  have HX1 := Lib.hid (HX0.out.trans hE1)
  clear hE1 lz1 HX0 pf
  cases hr : rightTw t with
  | false =>
    have HR : Hid (linksP t = []) := Lib.hid (by rw [HLK.out, hr]; rfl)
    clear hr HLK
    go_wp2_with fail
    refine bodyPost_ret (v := .slice none 0 0) (by simp [results, Try.results20, go_sem]) rfl (by rw [HR.out]; exact ⟨none, 0, rfl, Ow.nil _ _, HX1.out⟩)
  | true =>
    obtain ⟨g1, g2, g3, g4, g5⟩ := HRF.out hr
    have HR : Hid (linksP t = linksF t.tokens t.heights t.heights.length) := Lib.hid (by rw [HLK.out, hr]; rfl)
    obtain ⟨tk, htk⟩ : ∃ tk, t.tokens = tk := ⟨_, rfl⟩
    obtain ⟨hs, hhs⟩ : ∃ hs, t.heights = hs := ⟨_, rfl⟩
    obtain ⟨nx, hnx⟩ : ∃ nx, t.next = nx := ⟨_, rfl⟩
    have HTt : Hid (Rd kInt w1 (.slice A tk.length c) tk) := Lib.hid (by rw [← htk]; exact HT.out.tok.ext HX1.out)
    have HTn : Hid (Rdd w1 (.slice N nx.length e) nx) := Lib.hid (by rw [← hnx]; exact HT.out.nxt.ext HX1.out)
    rw [hhs] at g1 g3 g4
    rw [hhs, htk] at g2
    rw [hnx, hhs] at g5
    rw [htk, hhs] at HR
    rw [htk] at p0
    rw [hnx] at p2
    rw [htk, hhs, hnx]
    obtain ⟨n, hn⟩ : ∃ n, hs.length = n := ⟨_, rfl⟩
    have htn : tk.length = n := by omega
    have hxn : nx.length = n := by rw [g5]; simp [hn]
    have HG : Hid (tk.length = n ∧ nx.length = n ∧ hs.length = n ∧ nx = (List.range hs.length).map (nextsP hs) ∧ (∀ j, j < hs.length → 1 ≤ hs.getD j 0 ∧ hs.getD j 0 ≤ 8) ∧ n ≤ 1000) := Lib.hid ⟨htn, hxn, hn, g5, g4, by omega⟩
    rw [hn] at HR
    rw [htn] at p0 HTt ⊢
    rw [hxn] at p2 HTn ⊢
    have HP : Hid (∀ W, Ext w1 W → W.cell? ⟨w.heap.size, 0, none⟩ = some (.slice A n c) ∧ W.cell? ⟨w.heap.size, 2, none⟩ = some (.slice N n e)) := Lib.hid fun W hE => ⟨hE.cell p0, hE.cell p2⟩
    have hn9 : (n : Int) ≤ 1000 := by omega
    have hz1 := HX1.out.size
    clear hr HLK HRF HT g1 g2 g3 g4 g5 htk hhs hnx hn htn hxn p0 p1 p2
    go_wp2_with fail
    go_loopw [3, 4] (fun v i wr => ∃ k : Nat, k ≤ n ∧ i = .int .i64 k ∧ Ow kLink w1.heap.size wr v (linksF tk hs k) ∧ Ext w1 wr) (fun _ i _ => n - (intOf i).toNat)
    case atStart => exact ⟨0, Nat.zero_le _, rfl, Ow.nil _ _, Ext.refl _⟩
    case round =>
      obtain ⟨k, hk, rfl, hO, hX⟩ := hrel
      have HO := Lib.hid hO
      have HX := Lib.hid hX
      have hk0 : (0 : Int) ≤ k := by omega
      obtain ⟨p0, p2⟩ := HP.out wr hX
      have lw : w.heap.size < wr.heap.size := World.block_lt_of_cell? _ _ p0
      clear hO hX
      by_cases hlt : k < n
      · have hlt' : (k : Int) < n := by omega
        obtain ⟨q, hq⟩ : ∃ q : Nat, (hs.getD k 0).toNat = q := ⟨_, rfl⟩
        have h88 := HG.out.2.2.2.2.1 k (by rw [HG.out.2.2.1]; exact hlt)
        have hq8 : q ≤ 8 := by omega
        have hls : linksF tk hs (k + 1) = linksF tk hs k ++ rowP tk hs k q := by rw [← hq]; rfl
        have hlb := linksF_len (tk := tk) (hs := hs) (fun j hj => (HG.out.2.2.2.2.1 j hj).2) k (by rw [HG.out.2.2.1]; omega)
        obtain ⟨bn, on, Ru, ru, hbn, y0, hRu⟩ := HTn.out.row k (by rw [HG.out.2.1]; exact hlt)
        subst hbn
        have hru : nx.getD k [] = nextsP hs k := by
          rw [HG.out.2.2.2.1, List.getD_eq_getElem?_getD, List.getElem?_map, List.getElem?_range (by rw [HG.out.2.2.1]; exact hlt)]; rfl
        rw [hru, nextsP_len, hq] at y0
        rw [hru, nextsP_len, hq] at hRu
        obtain ⟨br, or_, hbr, hcr⟩ := (ints_of_rd hRu).cells (by rw [nextsP_len]; omega)
        subst hbr
        rw [nextsP_len, hq] at hcr
        obtain ⟨bt, ot, hbt, hct⟩ := (ints_of_rd HTt.out).cells (by rw [HG.out.1]; omega)
        subst hbt
        have HY0 : Hid (∀ W, Ext w1 W → W.cell? ⟨bn, on + k, none⟩ = some (.slice (some ⟨br, or_, none⟩) q ru)) := Lib.hid fun W hE => hE.cell y0
        have HCR := Lib.hid hcr
        have HCT := Lib.hid hct
        have HLS := Lib.hid hls
        have HLB := Lib.hid hlb
        have hx1 : wr.cell? ⟨bn, on + k, none⟩ = some (.slice (some ⟨br, or_, none⟩) q ru) := HX.out.cell y0
        have HQ : Hid ((hs.getD k 0).toNat = q ∧ k < n) := Lib.hid ⟨hq, hlt⟩
        have lbn : bn < wr.heap.size := World.block_lt_of_cell? _ _ hx1
        have hq9 : (q : Int) ≤ 8 := by omega
        clear hq h88 hls hlb y0 hRu hru hcr hct hx1
        go_wp2_with fail
        generalize wr = wb at *
        go_loopw [3, 5] (fun v i wr => ∃ h : Nat, h ≤ q ∧ i = .int .i64 h ∧ Ow kLink w1.heap.size wr v (linksF tk hs k ++ rowP tk hs k h) ∧ Ext w1 wr) (fun _ i _ => q - (intOf i).toNat)
        case atStart => exact ⟨0, Nat.zero_le _, rfl, by rw [show rowP tk hs k 0 = [] from rfl, List.append_nil]; exact HO.out, HX.out⟩
        case round =>
          obtain ⟨h, hh, rfl, hO2, hX2⟩ := hrel
          have HO2 := Lib.hid hO2
          have HX2 := Lib.hid hX2
          have hh0 : (0 : Int) ≤ h := by omega
          obtain ⟨q0, q2⟩ := HP.out wr hX2
          have y0 := HY0.out wr hX2
          have lw2 : w.heap.size < wr.heap.size := World.block_lt_of_cell? _ _ q0
          have lbn2 : bn < wr.heap.size := World.block_lt_of_cell? _ _ y0
          have hzx := hX2.size
          clear hO2 hX2
          by_cases hlh : h < q
          · have hlh' : (h : Int) < q := by omega
            have z1 := HCR.out h hlh
            rw [nextsP_at hs k h (by rw [HQ.out.1]; exact hlh)] at z1
            obtain ⟨n1_, n2_, _⟩ := next_spec (hs := hs) (i := k) (h := h) (by rw [HG.out.2.2.1]; exact HQ.out.2) (by have := HQ.out.1; omega)
            obtain ⟨v, hv⟩ : ∃ v, nextP hs k h = v := ⟨_, rfl⟩
            rw [hv] at z1 n1_
            rw [HG.out.2.2.1] at n1_
            have x0 := HCT.out k (by rw [HG.out.1]; exact HQ.out.2)
            have x1 := HCT.out v (by rw [HG.out.1]; exact n1_)
            have okx : in64 (tk.getD k 0) := HTt.out.okAt k (by rw [HG.out.1]; exact HQ.out.2)
            have okz : in64 (tk.getD v 0) := HTt.out.okAt v (by rw [HG.out.1]; exact n1_)
            have hrs : linksF tk hs k ++ rowP tk hs k (h + 1) = (linksF tk hs k ++ rowP tk hs k h) ++ [(tk.getD k 0, (h : Int), tk.getD v 0)] := by rw [rowP_succ, List.append_assoc]; unfold linkP; rw [hv]
            have hrl := rowP_len tk hs k h
            have hal : (linksF tk hs k ++ rowP tk hs k h).length ≤ 9000 := by rw [List.length_append, hrl]; have := HLB.out; have := HG.out.2.2.2.2.2; omega
            obtain ⟨LST, hLST⟩ : ∃ l, linksF tk hs k ++ rowP tk hs k h = l := ⟨_, rfl⟩
            rw [hLST] at HO2 hrs hal
            obtain ⟨x, hx⟩ : ∃ x, tk.getD k 0 = x := ⟨_, rfl⟩
            obtain ⟨z, hz⟩ : ∃ x, tk.getD v 0 = x := ⟨_, rfl⟩
            rw [hx] at x0 okx hrs
            rw [hz] at x1 okz hrs
            have KR : Hid (∀ w', Ext w1 w' → w'.cell? ⟨w.heap.size, 0, none⟩ = some (.slice (some ⟨bt, ot, none⟩) n c) ∧ w'.cell? ⟨w.heap.size, 2, none⟩ = some (.slice (some ⟨bn, on, none⟩) n e) ∧ w'.cell? ⟨bn, on + k, none⟩ = some (.slice (some ⟨br, or_, none⟩) q ru) ∧ w'.cell? ⟨br, or_ + h, none⟩ = some (.int .i64 (v : Int)) ∧ w'.cell? ⟨bt, ot + k, none⟩ = some (.int .i64 x) ∧ w'.cell? ⟨bt, ot + v, none⟩ = some (.int .i64 z)) := Lib.hid fun w' hE => ⟨(HP.out w' hE).1, (HP.out w' hE).2, HY0.out w' hE, hE.cell z1, hE.cell x0, hE.cell x1⟩
            have HOK : Hid (in64 x ∧ in64 (h : Int) ∧ in64 z) := Lib.hid ⟨okx, in64_nat h (by omega), okz⟩
            have HRS := Lib.hid hrs
            have HLL : Hid (LST.length + [(x, (h : Int), z)].length ≤ 1048576) := Lib.hid (by rw [List.length_singleton]; omega)
            obtain ⟨Av, cv, hv9, hcv⟩ := HO2.out.slice
            obtain ⟨_, _, _, t1, t2, t3⟩ := KR.out wr HX2.out
            have lbr : br < wr.heap.size := World.block_lt_of_cell? _ _ t1
            have lbt : bt < wr.heap.size := World.block_lt_of_cell? _ _ t2
            have hv0 : (0 : Int) ≤ v := by omega
            have hvn : (v : Int) < n := by omega
            subst hv9
            clear z1 n1_ n2_ hv x0 x1 okx okz hrs hrl hal hLST hx hz hcv t1 t2 t3 q0 q2 y0
            go_upto_region 10 with fail
            go_region_held3 (fun w' => w'.cell? ⟨w.heap.size, 0, none⟩ = some (.slice (some ⟨bt, ot, none⟩) n c) ∧ w'.cell? ⟨w.heap.size, 2, none⟩ = some (.slice (some ⟨bn, on, none⟩) n e) ∧ w'.cell? ⟨bn, on + k, none⟩ = some (.slice (some ⟨br, or_, none⟩) q ru) ∧ w'.cell? ⟨br, or_ + h, none⟩ = some (.int .i64 (v : Int)) ∧ w'.cell? ⟨bt, ot + k, none⟩ = some (.int .i64 x) ∧ w'.cell? ⟨bt, ot + v, none⟩ = some (.int .i64 z))
              (first | exact KR.out _ hx8 | exact KR.out _ (HX2.out.trans (by repeat (first | (with_reducible exact Ext.refl _) | (with_reducible assumption) | refine Ext.drew ?_ | refine Ext.drewN ?_ _ | refine Ext.alloc ?_ _))) | go_keep)
              (first
              | (refine kLink.step_app (by rfl) (.tmp 26) (.tmp 46) (by rfl) (by rfl) w1.heap.size _ LST (by rfl) (Ow.ext HO2.out (by repeat (first | (with_reducible exact Ext.refl _) | (with_reducible assumption) | refine Ext.drew ?_ | refine Ext.drewN ?_ _ | refine Ext.alloc ?_ _))) _ [(x, (h : Int), z)] (by rfl) (link_at (by first | exact heap_alloc_new _ _ | exact heap_alloc_at (by first | (simp; done) | (simp; omega) | omega)) HOK.out) HLL.out (by first | omega | (simp; done) | (simp; omega)) ?_
                 intro v8 w8 hown8 hgrow8 hat8
                 have hx8 : Ext w1 w8 := Ext.grown (Ext.trans HX2.out (by repeat (first | (with_reducible exact Ext.refl _) | (with_reducible assumption) | refine Ext.drew ?_ | refine Ext.drewN ?_ _ | refine Ext.alloc ?_ _))) hgrow8 (fun b hb => (HO2.out.lt b hb).1))
              | fail)
            all_goals
              have H8 := Lib.hid (And.intro hown8 hx8)
              clear hown8 hgrow8 hat8 hx8
              go_wp2_with fail
            all_goals go_roundw
            all_goals first
              | exact ⟨h + 1, by omega, by go_num, by rw [HRS.out]; exact H8.out.1, H8.out.2⟩
              | (simp [intOf]; omega)
              | fail
          · obtain rfl : h = q := by omega
            clear lw lbn
            go_wp2_with fail
            go_roundw
            case rel => exact ⟨k + 1, by have := HQ.out.2; omega, by go_num, by rw [HLS.out]; exact HO2.out, HX2.out⟩
            case measure => simp [intOf]; have := HQ.out.2; omega
      · obtain rfl : k = n := by omega
        obtain ⟨Lz, lz, hv, hlz⟩ := HO.out.slice
        subst hv
        go_wp2_with fail
        refine bodyPost_ret (v := .slice Lz (linksF tk hs k).length lz) (by simp [results, Try.results20, go_sem]) rfl (by rw [HR.out]; exact ⟨Lz, lz, rfl, HO.out.mono hz1, HX1.out.trans HX.out⟩)
end Go.Proofs.Ytllpfegnpakadaa

/- The program's spots: where each spot's last link tells. -/
namespace Go.Proofs.Ytllpfegnpakadaa
open Go.BigFrame
open Go.RowKit Go.Proofs.Ytllpfegnpakadaa.Plain

set_option maxHeartbeats 3200000 in
set_option maxRecDepth 100000 in
theorem pspots15_any (l : List Lk) (L : Option Addr) (lc : Nat) (w : World) (hL : Rd kLink w (.slice L l.length lc) l) (hl : l.length ≤ 100000) :
    Calls Try.prog 40 #[.slice L l.length lc] w fun ed w' => ∃ (m n : Nat) (D : DataW Unit), ed = .returned (.map (some m)) ∧ w.heap.size ≤ m ∧ n ≤ 100000 ∧ w'.ownsMap Try.prog 67 (plainElem Try.prog 3) m n D ∧ MapAs spotK okS D (lkF l) ∧ Ext w w' := by
  have HL := Lib.hid hL
  have hl' : (l.length : Int) ≤ 100000 := by omega
  clear hL
  have hmm := @run_makeMap13 Try.prog 64 _ _ Try.underlying64
  go_enter Try.func40, Try.ntmps40
  go_wp2_with fail
  go_loopw [11] (fun i wr => ∃ (k : Nat) (D : DataW Unit), k ≤ l.length ∧ i = .int .i64 k ∧ wr.ownsMap Try.prog 67 (plainElem (H := Unit) Try.prog 3) w.heap.size k D ∧ MapAs spotK okS D (lkF (l.take k)) ∧ Ext w wr ∧ w.heap.size < wr.heap.size) (fun i _ => l.length - (intOf i).toNat)
  case atStart => exact ⟨0, .map [], Nat.zero_le _, rfl, World.ownsMap_made _ _ _ _, by rw [List.take_zero, lkF_nil]; exact MapAs.nil _ _, (Ext.refl w).alloc _, by simp⟩
  case round =>
    obtain ⟨k, D, hk, rfl, hown, hM, hX, hsz⟩ := hrel
    have HX := Lib.hid hX
    have HOW := Lib.hid hown
    have HM := Lib.hid hM
    have hk0 : (0 : Int) ≤ k := by omega
    clear hX hmm hown hM
    by_cases hlt : k < l.length
    · have hlt' : (k : Int) < l.length := by omega
      obtain ⟨bx, ox, rfl, hcx⟩ := Rd.links (HL.out.ext HX.out) (by omega)
      obtain ⟨x0, x1, x2⟩ := hcx k hlt
      have hok : in64 (l.getD k lk0).1 ∧ in64 (l.getD k lk0).2.1 ∧ in64 (l.getD k lk0).2.2 := HL.out.okAt k hlt
      have hsn := lk_snoc hlt
      obtain ⟨⟨u, v, z⟩, hx⟩ : ∃ x, l.getD k lk0 = x := ⟨_, rfl⟩
      rw [hx] at x0 x1 x2 hok hsn
      simp only at x0 x1 x2 hok
      have HKEY := Lib.hid (keySpot (u, v) ⟨hok.1, hok.2.1⟩)
      have HVAL := Lib.hid (mapR_int hok.2.2)
      have HMP := Lib.hid (HM.out.put (k := (u, v)) trivial (fun q hq he => spotK_inj hq ⟨hok.1, hok.2.1⟩ he) z)
      have HSN : Hid (lkF (l.take (k + 1)) = fun q => if q = (u, v) then some z else lkF (l.take k) q) := Lib.hid (by rw [hsn, lkF_snoc]; rfl)
      have lbx : bx < wr.heap.size := World.block_lt_of_cell? _ _ x0
      have HML : Hid (k < maxLen) := Lib.hid (by unfold maxLen; omega)
      clear hcx hx hok hsn
      go_wp2_with (at_mapUpdate; refine wpList_mapUpdate_own _ rfl _ _ _ 64 rfl 67 3 keyedS Try.underlying64 (plainElem (H := Unit) Try.prog 3) w.heap.size k _ rfl (HOW.out.alloc _) HML.out _ _ _ rfl rfl HKEY.out _ [] HVAL.out ?_; intro w1 hown1 hgrow1)
      have H1 := Lib.hid (And.intro hown1 hgrow1)
      clear hown1 hgrow1
      go_wp2_with fail
      go_roundw
      case rel => exact ⟨k + 1, _, by omega, by go_num, H1.out.1, by rw [HSN.out]; exact HMP.out, (HX.out.alloc _).grown H1.out.2 (fun j hj => by cases hj; exact Nat.le_refl _), by have := H1.out.2.size; simp at this; omega⟩
      case measure => simp [intOf]; omega
    · obtain rfl : k = l.length := by omega
      rw [List.take_length] at HM
      go_wp2_with fail
      go_ret
      exact ⟨_, _, D, rfl, Nat.le_refl _, hl, HOW.out, HM.out, HX.out⟩
end Go.Proofs.Ytllpfegnpakadaa

/- The program's Changed: how many spots' links are others. -/
namespace Go.Proofs.Ytllpfegnpakadaa
open Go.BigFrame
open Go.RowKit Go.Proofs.Ytllpfegnpakadaa.Plain

/-- one entry of a map that is ranged over, and how many are counted behind it -/
theorem spot_step {D : DataW Unit} {l : List Lk} {left : Lit → Bool} {x : LKey} {c : Int} {kl : Lit} {y : DataW Unit × List MemPlace} (hD : MapAs spotK okS D (lkF l)) (hl : ∀ k ∈ dk l, okS k)
    (hkey : keyOf Try.prog 67 (.agg #[.int .i64 x.1, .int .i64 x.2]) = some kl) (hlk : left kl = true) (hv : plainElem Try.prog 3 (.int .i64 c) = some y) (hat : ∀ zd, D.atKey kl zd = y.1) :
    kl = spotK x ∧ okS x ∧ (lastP l x.1 x.2).1 = c ∧ in64 c ∧ ∀ g : LKey → Bool, cntL (dk l) g (fun k => left (spotK k) && !(spotK k).sameKey kl) = cntL (dk l) g (fun k => left (spotK k)) + (if g x = true then 1 else 0) := by
  obtain ⟨a, b, h1, h2, wa, wb⟩ := keyS_inv _ _ hkey
  obtain ⟨x1, x2⟩ := x
  simp at h1
  obtain ⟨rfl, rfl⟩ := h1
  have hok : okS (x1, x2) := ⟨wfin64.1 wa, wfin64.1 wb⟩
  have hkl : kl = spotK (x1, x2) := h2
  subst hkl
  obtain ⟨c', hc, hy, hw⟩ := plainElem_int_inv Try.underlying3 hv
  obtain rfl : c = c' := by injection hc
  rw [hy] at hat
  have hh := Maps.has_true_of_atKey hat
  obtain ⟨g1, g2⟩ := hD.2 (x1, x2) hok
  rw [g1] at hh
  obtain ⟨z, hz⟩ := Option.isSome_iff_exists.1 hh
  have h3 := g2 z hz (.lit (.int .i64 0))
  rw [hat] at h3
  obtain rfl : c = z := by simpa using h3
  have hm := lkF_mem hh
  refine ⟨rfl, hok, (lkF_get hz).2, wfin64.1 hw, fun g => ?_⟩
  rw [← cntL_step (dk l) g (fun k => left (spotK k)) (x1, x2) (dk_nodup l) hm hlk]
  exact cntL_congr fun k hk => by rw [spotK_same (hl k hk) hok]
theorem Plain.cnt_has {D : DataW Unit} {l : List Lk} (hD : MapAs spotK okS D (lkF l)) (hl : ∀ k ∈ dk l, okS k) (g : LKey → Bool) : cntL (dk l) g (fun k => Maps.has D (spotK k)) = 0 :=
  cntL_start _ _ _ fun k hk => by rw [(hD.2 k (hl k hk)).1, lkF_some]; exact (has_dk l k).2 hk
theorem spot_has {D : DataW Unit} {l : List Lk} (hD : MapAs spotK okS D (lkF l)) {x : LKey} (hx : okS x) : Maps.has D (spotK x) = (lastP l x.1 x.2).2 := by rw [(hD.2 x hx).1, lkF_some]
theorem spot_at {D : DataW Unit} {l : List Lk} (hD : MapAs spotK okS D (lkF l)) {x : LKey} (hx : okS x) (h : (lastP l x.1 x.2).2 = true) {c : Int} (hc : D.atKey (spotK x) (.lit (.int .i64 0)) = .lit (.int .i64 c)) : (lastP l x.1 x.2).1 = c := by
  have h1 := hD.look hx hc
  unfold lkF at h1
  rw [if_pos h] at h1
  exact h1.symm
theorem invS (key : Value) (kl : Lit) (h : keyOf Try.prog 67 key = some kl) : ∃ x : LKey, key = .agg #[.int .i64 x.1, .int .i64 x.2] := by
  obtain ⟨a, b, h1, _⟩ := keyS_inv _ _ h
  exact ⟨(a, b), h1⟩
theorem invI (v : Value) (y : DataW Unit × List MemPlace) (h : plainElem Try.prog 3 v = some y) : ∃ c, v = Value.int .i64 c := by
  obtain ⟨c, h1, _⟩ := plainElem_int_inv Try.underlying3 h
  exact ⟨c, h1⟩
set_option maxHeartbeats 6400000 in
set_option maxRecDepth 100000 in
theorem pchanged15_any (a b : List Lk) (L M : Option Addr) (lc mc : Nat) (w : World) (hL : Rd kLink w (.slice L a.length lc) a) (hM : Rd kLink w (.slice M b.length mc) b) (ha : a.length ≤ 100000) (hb : b.length ≤ 100000) :
    Calls Try.prog 23 #[.slice L a.length lc, .slice M b.length mc] w fun ed w' => ed = .returned (.int .i64 (changedP a b : Nat)) ∧ Ext w w' := by
  have HC := Lib.hid (changed_dk a b)
  have HoA : Hid (∀ k ∈ dk a, okS k) := Lib.hid (dk_in fun x hx => by
    obtain ⟨i, hi, rfl⟩ := List.mem_iff_getElem.1 hx
    have := hL.okAt i hi
    rw [List.getD_eq_getElem?_getD, List.getElem?_eq_getElem hi] at this
    exact ⟨this.1, this.2.1⟩)
  have HoB : Hid (∀ k ∈ dk b, okS k) := Lib.hid (dk_in fun x hx => by
    obtain ⟨i, hi, rfl⟩ := List.mem_iff_getElem.1 hx
    have := hM.okAt i hi
    rw [List.getD_eq_getElem?_getD, List.getElem?_eq_getElem hi] at this
    exact ⟨this.1, this.2.1⟩)
  have HL := Lib.hid hL
  have HM := Lib.hid hM
  have hla := dk_len a
  have hlb := dk_len b
  have hcA := cntL_le (dk a) (gA a b)
  have hcB := cntL_le (dk b) (gB a)
  have HB : Hid ((∀ left, cntL (dk a) (gA a b) left ≤ 100000) ∧ ∀ left, cntL (dk b) (gB a) left ≤ 100000) := Lib.hid ⟨fun l => by have := hcA l; omega, fun l => by have := hcB l; omega⟩
  clear hL hM hla hlb hcA hcB
  go_enter Try.func23, Try.ntmps23
  go_wp2_with fail
  refine (pspots15_any a L lc w HL.out ha).mono ?_
  rintro ed w1 ⟨m1, n1, D1, rfl, hm1, hn1, hO1, hD1, hE1⟩
  have HO1 := Lib.hid hO1
  have HD1 := Lib.hid hD1
  have HX1 := Lib.hid hE1
  clear hO1 hD1 hE1
  go_wp2_with fail
  refine (pspots15_any b M mc w1 (HM.out.ext HX1.out) hb).mono ?_
  rintro ed w2 ⟨m2, n2, D2, rfl, hm2, hn2, hO2, hD2, hE2⟩
  have HO1' := Lib.hid (owns_ext HO1.out hE2)
  have HN12 : Hid (m1 < w1.heap.size ∧ m1 < w2.heap.size ∧ m2 < w2.heap.size ∧ w.heap.size ≤ m1 ∧ w1.heap.size ≤ m2) := Lib.hid ⟨HO1.out.lt, Nat.lt_of_lt_of_le HO1.out.lt hE2.size, hO2.lt, hm1, hm2⟩
  have HO2 := Lib.hid hO2
  have HD2 := Lib.hid hD2
  have HX2 := Lib.hid (HX1.out.trans hE2)
  clear hO2 hD2 hE2 hm1 hm2
  go_wp2_with (first
    | (at_range; refine wpList_range_own _ rfl _ 64 rfl 67 3 keyedS Try.underlying64 (plainElem (H := Unit) Try.prog 3) m1 n1 D1 rfl HO1'.out ?_; intro w3 hrg3 hg3 hs3)
    | fail)
  have HRG := Lib.hid hrg3
  have HO2' := Lib.hid (HO2.out.kept hg3 (by simp))
  have HX3 := Lib.hid (HX2.out.grown hg3 (fun j hj => by cases hj))
  have HST : Hid (cntL (dk a) (gA a b) (fun k => Maps.has D1 (spotK k)) = 0) := Lib.hid (cnt_has HD1.out HoA.out _)
  obtain ⟨r, hr⟩ : ∃ r, w2.heap.size = r := ⟨_, rfl⟩
  rw [hr] at HRG HN12
  have HR3 : Hid (w3.heap.size = r + 1) := Lib.hid (by rw [hs3, hr])
  clear hrg3 hg3 hs3
  rw [hr]
  clear hr
  go_frame
  go_loopw [7] (fun c wr => ∃ (left : Lit → Bool) (cnt : Nat), wr.ranges Try.prog 67 (plainElem (H := Unit) Try.prog 3) m1 r n1 D1 left cnt ∧ c = .int .i64 (cntL (dk a) (gA a b) (fun k => left (spotK k)) : Nat) ∧ wr.ownsMap Try.prog 67 (plainElem (H := Unit) Try.prog 3) m2 n2 D2 ∧ Ext w wr) (fun _ wr => wr.rangeLeft m1 r)
  case atStart => exact ⟨_, _, HRG.out, by rw [HST.out]; rfl, HO2'.out, HX3.out⟩
  case round =>
    obtain ⟨left, cnt, hrg, rfl, hOw, hX⟩ := hrel
    have HX := Lib.hid hX
    have HOw := Lib.hid hOw
    have HRW := Lib.hid hrg
    have hrl : wr.rangeLeft m1 r = cnt := hrg.left_eq
    have HRL := Lib.hid hrl
    have hrz := hrg.lt
    have hN9 := HB.out.1 (fun k => left (spotK k))
    obtain ⟨N, hN⟩ : ∃ N, cntL (dk a) (gA a b) (fun k => left (spotK k)) = N := ⟨_, rfl⟩
    rw [hN] at hN9 ⊢
    have hnw : IntKind.i64.wrap ((N : Int) + 1) = (N : Int) + 1 := IntWalk.i64_in _ (by omega)
    have HNN := Lib.hid hN
    clear hX hOw hrg hrl hN
    go_wp2_with (first
      | (at_next; refine wpList_next_ranges _ rfl _ rfl 67 keyedS (plainElem (H := Unit) Try.prog 3) (fun x : LKey => .agg #[.int .i64 x.1, .int .i64 x.2]) (Value.int .i64) invS invI m1 r n1 _ _ _ rfl HRW.out ?_ ?_)
      | fail)
    · intro hc0 hl0
      have HEND : Hid (N = ((dk a).filter (gA a b)).length) := Lib.hid (by rw [← HNN.out]; exact cntL_end _ _ _ fun k => hl0 _)
      have HO1e := Lib.hid HRW.out.owns
      have HNR : Hid (m2 < wr.heap.size ∧ m1 < wr.heap.size) := Lib.hid ⟨HOw.out.lt, HO1e.out.lt⟩
      clear hc0 hl0 hnw
      go_wp2_with (first
        | (at_range; refine wpList_range_own _ rfl _ 64 rfl 67 3 keyedS Try.underlying64 (plainElem (H := Unit) Try.prog 3) m2 n2 D2 rfl HOw.out ?_; intro w5 hrg5 hg5 hs5)
        | fail)
      have HRG5 := Lib.hid hrg5
      have HO5 := Lib.hid (HO1e.out.kept hg5 (by simp))
      have HX5 := Lib.hid (HX.out.grown hg5 (fun j hj => by cases hj))
      have HST5 : Hid (cntL (dk b) (gB a) (fun k => Maps.has D2 (spotK k)) = 0) := Lib.hid (cnt_has HD2.out HoB.out _)
      have HZ5 : Hid (w.heap.size ≤ wr.heap.size) := Lib.hid HX.out.size
      obtain ⟨r2, hr2⟩ : ∃ r, wr.heap.size = r := ⟨_, rfl⟩
      rw [hr2] at HRG5 HNR HZ5 hrz
      clear hrg5 hg5 hs5
      rw [hr2]
      clear hr2
      clear HRW HRL HNN HOw HX
      generalize wr = wq at *
      go_frame
      go_loopw [7] (fun c wr => ∃ (left : Lit → Bool) (cnt : Nat), wr.ranges Try.prog 67 (plainElem (H := Unit) Try.prog 3) m2 r2 n2 D2 left cnt ∧ c = .int .i64 ((N + cntL (dk b) (gB a) (fun k => left (spotK k)) : Nat) : Int) ∧ wr.ownsMap Try.prog 67 (plainElem (H := Unit) Try.prog 3) m1 n1 D1 ∧ Ext w wr) (fun _ wr => wr.rangeLeft m2 r2)
      case atStart => exact ⟨_, _, HRG5.out, by rw [HST5.out]; rfl, HO5.out, HX5.out⟩
      case round =>
        obtain ⟨left, cnt, hrg, rfl, hOw, hX⟩ := hrel
        have HX := Lib.hid hX
        have HOw := Lib.hid hOw
        have HRW := Lib.hid hrg
        have HRL := Lib.hid hrg.left_eq
        have hM9 := HB.out.2 (fun k => left (spotK k))
        obtain ⟨K, hK⟩ : ∃ N, cntL (dk b) (gB a) (fun k => left (spotK k)) = N := ⟨_, rfl⟩
        rw [hK] at hM9 ⊢
        have HKK := Lib.hid hK
        obtain ⟨S, hS⟩ : ∃ S, N + K = S := ⟨_, rfl⟩
        rw [hS]
        have hnw : IntKind.i64.wrap ((S : Int) + 1) = (S : Int) + 1 := IntWalk.i64_in _ (by omega)
        have HS := Lib.hid hS
        clear hX hOw hrg hK hS
        go_wp2_with (first
          | (at_next; refine wpList_next_ranges _ rfl _ rfl 67 keyedS (plainElem (H := Unit) Try.prog 3) (fun x : LKey => .agg #[.int .i64 x.1, .int .i64 x.2]) (Value.int .i64) invS invI m2 r2 n2 _ _ _ rfl HRW.out ?_ ?_)
          | fail)
        · intro hc0 hl0
          have HFIN : Hid (S = changedP a b) := Lib.hid (by
            have h1 := cntL_end (dk b) (gB a) (fun k => left (spotK k)) fun k => hl0 _
            rw [HC.out, ← HS.out, HEND.out, ← h1, HKK.out])
          clear hc0 hl0
          go_wp2_with fail
          exact bodyPost_ret (v := .int .i64 (S : Int)) (by simp [results, Try.results23, go_sem]) rfl ⟨by rw [HFIN.out], HX.out⟩
        · intro x1 x2 c kl yd yp w4 cnt4 hkey hlk hv hat hrg1 hlt hg1 hs1 hen
          obtain ⟨x, hx⟩ : ∃ x : LKey, x = (x1, x2) := ⟨_, rfl⟩
          obtain ⟨rfl, hok, hlp, hc64, hcnt⟩ := spot_step (x := (x1, x2)) HD2.out HoB.out hkey hlk hv hat
          rw [← hx] at hrg1 hok hlp hcnt
          have e1 : x1 = x.1 := by rw [hx]
          have e2 : x2 = x.2 := by rw [hx]
          rw [e1, e2] at hen ⊢
          clear e1 e2 hx hkey hlk hv hat x1 x2
          have hcs := hcnt (gB a)
          rw [HKK.out] at hcs
          have hga : gB a x = !(lastP a x.1 x.2).2 := rfl
          rw [hga] at hcs
          have HHAS := Lib.hid (spot_has HD1.out hok)
          have HKEY := Lib.hid (keySpot x hok)
          have HO4 := Lib.hid ((HOw.out.kept hg1 (by intro e; have := Option.some.inj e; have := HNR.out.2; omega)).alloc (.cells #[.int .i64 x.1, .int .i64 x.2] 67))
          have HX4 := Lib.hid ((HX.out.grown hg1 (fun j hj => by cases hj; exact HZ5.out)).alloc (.cells #[.int .i64 x.1, .int .i64 x.2] 67))
          have HRG4 := Lib.hid (hrg1.alloc (.cells #[.int .i64 x.1, .int .i64 x.2] 67))
          have HLT := Lib.hid hlt
          obtain ⟨⟨pb, qb⟩, hpq⟩ : ∃ r, lastP a x.1 x.2 = r := ⟨_, rfl⟩
          obtain ⟨x1, x2⟩ := x
          rw [hpq] at hcs HHAS
          simp only at hcs HHAS hen hpq
          have HCS := Lib.hid hcs
          clear hrg1 hlt hg1 hs1 hlp hcnt hcs hga hc64 hok hpq
          cases qb
          all_goals go_wp2_with (first
            | (at_lookup; refine wpList_lookup_own_ok_int _ rfl _ _ 64 rfl 67 3 .i64 keyedS Try.underlying64 Try.underlying3 (zero15 _) m1 n1 D1 rfl HO4.out _ _ rfl HKEY.out ?_; intro c2 hat2 hwc2; rw [HHAS.out])
            | fail)
          all_goals go_roundw
          all_goals first
            | exact ⟨_, cnt4, HRG4.out, by rw [HCS.out, ← HS.out]; go_num, HO4.out, HX4.out⟩
            | (rw [HRG4.out.left_eq, HRL.out]; exact HLT.out)
    · intro x1 x2 c kl yd yp w4 cnt4 hkey hlk hv hat hrg1 hlt hg1 hs1 hen
      obtain ⟨x, hx⟩ : ∃ x : LKey, x = (x1, x2) := ⟨_, rfl⟩
      obtain ⟨rfl, hok, hlp, hc64, hcnt⟩ := spot_step (x := (x1, x2)) HD1.out HoA.out hkey hlk hv hat
      rw [← hx] at hrg1 hok hlp hcnt
      have e1 : x1 = x.1 := by rw [hx]
      have e2 : x2 = x.2 := by rw [hx]
      rw [e1, e2] at hen ⊢
      clear e1 e2 hx hkey hlk hv hat x1 x2
      have hcs := hcnt (gA a b)
      rw [HNN.out] at hcs
      have hga : gA a b x = (!(lastP b x.1 x.2).2 || c != (lastP b x.1 x.2).1) := by unfold gA; rw [hlp]
      rw [hga] at hcs
      have HHAS := Lib.hid (spot_has HD2.out hok)
      have HAT := Lib.hid (fun h {z} => spot_at HD2.out hok h (c := z))
      have HKEY := Lib.hid (keySpot x hok)
      have HO4 := Lib.hid ((HOw.out.kept hg1 (by intro e; have := Option.some.inj e; have := HN12.out.2.2.1; omega)).alloc (.cells #[.int .i64 x.1, .int .i64 x.2] 67))
      have HX4 := Lib.hid ((HX.out.grown hg1 (fun j hj => by cases hj; have := HN12.out.2.1; have := HN12.out.2.2.2.1; omega)).alloc (.cells #[.int .i64 x.1, .int .i64 x.2] 67))
      have HRG4 := Lib.hid (hrg1.alloc (.cells #[.int .i64 x.1, .int .i64 x.2] 67))
      have HLT := Lib.hid hlt
      obtain ⟨⟨pb, qb⟩, hpq⟩ : ∃ r, lastP b x.1 x.2 = r := ⟨_, rfl⟩
      obtain ⟨x1, x2⟩ := x
      rw [hpq] at hcs HHAS HAT
      simp only at hcs HHAS HAT hen hpq
      have HCS := Lib.hid hcs
      clear hrg1 hlt hg1 hs1 hlp hcnt hcs hga hc64 hok hpq
      cases qb with
      | false =>
        go_wp2_with (first
          | (at_lookup; refine wpList_lookup_own_ok_int _ rfl _ _ 64 rfl 67 3 .i64 keyedS Try.underlying64 Try.underlying3 (zero15 _) m2 n2 D2 rfl HO4.out _ _ rfl HKEY.out ?_; intro c2 hat2 hwc2; rw [HHAS.out])
          | fail)
        go_roundw
        case rel => exact ⟨_, cnt4, HRG4.out, by rw [HCS.out]; go_num, HO4.out, HX4.out⟩
        case measure => rw [HRG4.out.left_eq, HRL.out]; exact HLT.out
  
      | true =>
        by_cases hcp : pb = c
        · have e1 : (pb != c) = false := by rw [bne_eq_false_iff_eq]; exact hcp
          have e2 : (c != pb) = false := by rw [bne_eq_false_iff_eq]; exact hcp.symm
          rw [e2] at HCS
          clear e2 hcp
          go_wp2_with (first
            | (at_lookup; refine wpList_lookup_own_ok_int _ rfl _ _ 64 rfl 67 3 .i64 keyedS Try.underlying64 Try.underlying3 (zero15 _) m2 n2 D2 rfl HO4.out _ _ rfl HKEY.out ?_; intro c2 hat2 hwc2; rw [HHAS.out]; obtain rfl := HAT.out rfl hat2; clear hat2 hwc2)
            | fail)
          go_roundw
          case rel => exact ⟨_, cnt4, HRG4.out, by rw [HCS.out]; go_num, HO4.out, HX4.out⟩
          case measure => rw [HRG4.out.left_eq, HRL.out]; exact HLT.out
    
        · have e1 : (pb != c) = true := by rw [bne_iff_ne]; exact hcp
          have e2 : (c != pb) = true := by rw [bne_iff_ne]; exact fun h => hcp h.symm
          rw [e2] at HCS
          clear e2 hcp
          go_wp2_with (first
            | (at_lookup; refine wpList_lookup_own_ok_int _ rfl _ _ 64 rfl 67 3 .i64 keyedS Try.underlying64 Try.underlying3 (zero15 _) m2 n2 D2 rfl HO4.out _ _ rfl HKEY.out ?_; intro c2 hat2 hwc2; rw [HHAS.out]; obtain rfl := HAT.out rfl hat2; clear hat2 hwc2)
            | fail)
          go_roundw
          case rel => exact ⟨_, cnt4, HRG4.out, by rw [HCS.out]; go_num, HO4.out, HX4.out⟩
          case measure => rw [HRG4.out.left_eq, HRL.out]; exact HLT.out
    
end Go.Proofs.Ytllpfegnpakadaa
