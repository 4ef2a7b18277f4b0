/- Joined by wip/merge.py: T14I, T14K, T14L, T14W, T14G. -/
import Derived.Test.YtfkidgpjejcblaaDoorJ4
import Derived.Shelf.Abstract
set_option linter.unusedVariables false
set_option linter.unusedSimpArgs false
set_option linter.unnecessarySimpa false
/- slices.Backward at integers: its iterator's contract, and the law for a range over it whose body writes two blocks. -/
namespace Go.Proofs.YtfkidgpjejcblaaDoor
open Go.BigFrame
open Go.RowKit Go.Shelf Go.Proofs.YtfkidgpjejcblaaDoor.Plain
attribute [local go_sem] Oper.semAt_some

/-- what a round keeps: all blocks below N, but two -/
structure KeepsOff (N G M : Nat) (W W' : World) : Prop where
  os : W'.os = W.os
  tape : W'.tape = W.tape
  output : W'.output = W.output
  size : W.heap.size ≤ W'.heap.size
  block : ∀ b, b < N → b ≠ G → b ≠ M → W'.heap[b]? = W.heap[b]?
theorem KeepsOff.refl (N G M : Nat) (W : World) : KeepsOff N G M W W := ⟨rfl, rfl, rfl, Nat.le_refl _, fun _ _ _ _ => rfl⟩
theorem KeepsOff.trans {N G M : Nat} {A B C : World} (h : KeepsOff N G M A B) (k : KeepsOff N G M B C) : KeepsOff N G M A C :=
  ⟨k.os.trans h.os, k.tape.trans h.tape, k.output.trans h.output, Nat.le_trans h.size k.size, fun b hb hg hm => (k.block b hb hg hm).trans (h.block b hb hg hm)⟩
theorem KeepsOff.grown {N G M : Nat} {W W' : World} {row : Option Nat} (hN : N ≤ W.heap.size) (hg : W.grownBy W' row) (hr : ∀ r, row = some r → N ≤ r ∨ r = G ∨ r = M) : KeepsOff N G M W W' :=
  ⟨hg.os, hg.tape, hg.output, hg.size, fun b hb hG hM => hg.block b (by omega) (fun e => by rcases hr b e.symm with h | h | h <;> omega)⟩
theorem KeepsOff.below {N G M : Nat} {W W' : World} (h : Below N W W') : KeepsOff N G M W W' := ⟨h.os, h.tape, h.output, h.size, fun b hb _ _ => h.block b hb⟩
theorem KeepsOff.ofExt {N G M : Nat} {W W' : World} (hN : N ≤ W.heap.size) (h : Ext W W') : KeepsOff N G M W W' := KeepsOff.below (Below.mono h hN)
theorem KeepsOff.set {N G M : Nat} {W : World} {p : Addr} (hp : p.block = G ∨ p.block = M) (v : Value) : KeepsOff N G M W (W.setCell p v) :=
  ⟨rfl, rfl, rfl, by simp, fun b _ hG hM => heap_setCell_other W p b v (by rcases hp with h | h <;> omega)⟩
theorem KeepsOff.ext {N G M : Nat} {w W W' : World} (hE : Ext w W) (h : KeepsOff N G M W W') (hN : w.heap.size ≤ N) (hG : w.heap.size ≤ G) (hM : w.heap.size ≤ M) : Ext w W' :=
  ⟨h.os.trans hE.os, h.tape.trans hE.tape, h.output.trans hE.output, Nat.le_trans hE.size h.size, fun b hb => (h.block b (by omega) (by omega) (by omega)).trans (hE.block b hb)⟩
theorem KeepsOff.cell {N G M : Nat} {W W' : World} (h : KeepsOff N G M W W') {a : Addr} {v : Value} (hc : W.cell? a = some v) (hb : a.block < N) (hG : a.block ≠ G) (hM : a.block ≠ M) : W'.cell? a = some v := by
  rw [← hc]
  unfold World.cell?
  rw [h.block _ hb hG hM]
theorem KeepsOff.rd {α : Type} {K : Kd α} {N G M : Nat} {W W' : World} (h : KeepsOff N G M W W') {A : Option Addr} {n c : Nat} {xs : List α} (hr : Rd K W (.slice A n c) xs) (hb : ∀ a, A = some a → a.block < N ∧ a.block ≠ G ∧ a.block ≠ M) : Rd K W' (.slice A n c) xs := by
  obtain ⟨h1, h2, A', cap, hv, hcap, h3⟩ := hr
  cases hv
  refine ⟨h1, h2, A, c, rfl, hcap, fun hl => ?_⟩
  obtain ⟨b, off, rfl, hcc⟩ := h3 hl
  exact ⟨b, off, rfl, fun j hj i u hu => h.cell (hcc j hj i u hu) (hb _ rfl).1 (hb _ rfl).2.1 (hb _ rfl).2.2⟩
theorem Ext.others {W W' : World} (h : Ext W W') : KeepsOthers W W' := ⟨h.size, fun k o hk _ => (h.block k (Array.getElem?_eq_some_iff.1 hk).1).trans hk⟩

set_option maxHeartbeats 400000 in
theorem back0_any (Ao : Option Addr) (k co : Nat) (w : World) :
    Calls Tryd.prog 34 #[.slice Ao k co] w fun ed w' =>
      ed = .returned (.func (.func 39) #[] #[.pointer (some ⟨w.heap.size, 0, none⟩)]) ∧
      w' = w.alloc (.cells #[.slice Ao k co] 22) := by
  have hmf : ∀ (fn : Fn) (first cap : Array Value) (w : World), (Instr.makeFunc fn first cap).run Tryd.prog w = .ok (.func fn first cap) w := fun _ _ _ _ => rfl
  go_enter Tryd.func34, Tryd.ntmps34
  go_wp2_with fail
  go_ret
  exact ⟨rfl, rfl⟩

/-- what comes of a place: its number, and what stands there -/
def backV (xs : List Int) (u : Nat) : Array Value := #[.int .i64 u, .int .i64 (xs.getD u 0)]
set_option maxHeartbeats 2000000 in
set_option maxRecDepth 100000 in
theorem back_in (l n N G M b0 co : Nat) (xs : List Int) (Ao : Option Addr) (J Jx : List (Fin n) → World → Prop) (hn : n = xs.length)
    (hY : ∀ pre x W1, J pre W1 → pre.length < n → YieldAt Fence.wide 0 Tryd.prog l (backV xs x.1) W1 fun e W' =>
      (e = .returned (.bool true) ∧ J (pre ++ [x]) W' ∧ KeepsOff N G M W1 W') ∨ (e = .returned (.bool false) ∧ Jx (pre ++ [x]) W'))
    (W : World) (hb0 : b0 < N ∧ b0 ≠ G ∧ b0 ≠ M) (c0 : W.cell? ⟨b0, 0, none⟩ = some (.slice Ao n co))
    (hA : Rd kInt W (.slice Ao n co) xs) (hfar : ∀ a, Ao = some a → a.block < N ∧ a.block ≠ G ∧ a.block ≠ M) (h0 : J [] W) :
    CallsIn Fence.wide 1 Tryd.prog 39 #[.func (.yield l) #[] #[], .pointer (some ⟨b0, 0, none⟩)] W fun e W' => (∃ v, e = .returned v) ∧
      ((∃ ys : List (Fin n), ys.map Fin.val = downs n n ∧ J ys W') ∨ (∃ pre, True ∧ Jx pre W')) := by
  have HA := Lib.hid hA
  have HFAR := Lib.hid hfar
  have HY := Lib.hid hY
  have HJ0 := Lib.hid h0
  have HCS := Lib.hid c0
  have HNB := Lib.hid hb0
  have HN := Lib.hid hn
  have hol : (n : Int) ≤ 9223372036854775807 := by have := hA.len; omega
  clear hA hfar hY h0 hb0 hn
  refine callsIn_of_wp Tryd.func39 rfl trivial ?_ rfl
  simp only [Tryd.ntmps39, List.size_toArray, List.length_cons, List.length_nil, Nat.reduceAdd, Nat.reduceSub, Array.replicate_succ, Array.replicate_zero, List.push_toArray, List.append_toArray, List.nil_append, List.cons_append]
  have hw0 : IntKind.i64.wrap ((n : Int) - 1) = (n : Int) - 1 := IntWalk.i64_in _ (by omega)
  gi_wp2
  gi_loopw [3] (fun i wr => ∃ (k : Nat) (pre : List (Fin n)), k ≤ n ∧ i = .int .i64 ((k : Int) - 1) ∧ pre.map Fin.val = downs n (n - k) ∧ J pre wr ∧ KeepsOff N G M W wr) (fun i _ => (intOf i + 1).toNat)
  case atStart => exact ⟨n, [], Nat.le_refl _, by first | rfl | (rw [hw0]; done), by rw [Nat.sub_self]; rfl, HJ0.out, KeepsOff.refl _ _ _ _⟩
  case round =>
    obtain ⟨k, pre, hk, rfl, hpre, hJ, hX⟩ := hrel
    have HX := Lib.hid hX
    have HPRE := Lib.hid hpre
    have HJ := Lib.hid hJ
    have q1 := hX.cell HCS.out HNB.out.1 HNB.out.2.1 HNB.out.2.2
    clear hX hpre hJ c0 hw0
    cases k with
    | zero =>
      have hd : decide ((0 : Int) ≤ ((0 : Nat) : Int) - 1) = false := by decide
      have hd2 : (((0 : Nat) : Int) - 1) = -1 := by decide
      rw [hd2] at hd ⊢
      gi_wp2
      go_end0
      exact ⟨⟨_, rfl⟩, .inl ⟨pre, by rw [HPRE.out]; rfl, HJ.out⟩⟩
    | succ u =>
      have hu2 : (((u + 1 : Nat) : Int) - 1) = (u : Int) := by omega
      have hu0 : (0 : Int) ≤ u := by omega
      have hu1 : (u : Int) < n := by omega
      have hd : decide ((0 : Int) ≤ (u : Int)) = true := decide_eq_true hu0
      have hw1 : IntKind.i64.wrap ((u : Int) - 1) = (u : Int) - 1 := IntWalk.i64_in _ (by omega)
      rw [hu2]
      obtain ⟨bo, oo, rfl, hco⟩ := (ints_of_rd (HX.out.rd HA.out HFAR.out)).cells (by have := HN.out; omega)
      have z0 := hco u (by have := HN.out; omega)
      have hpl : pre.length = n - (u + 1) := by have := congrArg List.length HPRE.out; rw [List.length_map, downs_len] at this; exact this
      obtain ⟨fn, tmps, assign, body, hy, hR⟩ := HY.out pre ⟨u, by omega⟩ wr HJ.out (by omega)
      have HNEXT : Hid ((pre ++ [(⟨u, by omega⟩ : Fin n)]).map Fin.val = downs n (n - u)) := Lib.hid (by
        rw [List.map_append, HPRE.out, show n - u = n - (u + 1) + 1 by omega, downs_succ, show n - 1 - (n - (u + 1)) = u by omega]; rfl)
      unfold backV at hy
      dsimp only at hy
      obtain ⟨x, hx⟩ : ∃ x, xs.getD u 0 = x := ⟨_, rfl⟩
      rw [hx] at z0 hy
      have HR := Lib.hid hR
      clear hR hx hco hpl
      gi_wp2
      refine HR.out.mono ?_
      rintro e W3 (⟨rfl, hJ3, hk3⟩ | ⟨rfl, hJx3⟩)
      · gi_wp2
        go_roundw
        case rel => exact ⟨u, _, by omega, by first | rfl | (rw [hw1]; done) | (simp; done), HNEXT.out, hJ3, HX.out.trans hk3⟩
        case measure => first | (rw [hw1]; simp [intOf]; done) | (rw [hw1]; simp [intOf]; omega) | (simp [intOf]; done) | (simp [intOf]; omega)
      · gi_wp2
        refine bodyPost_ret (results_none rfl _ _ _) rfl ?_
        exact ⟨⟨_, rfl⟩, .inr ⟨_, trivial, hJx3⟩⟩

theorem back_stops (n G M b0 co : Nat) (xs : List Int) (Ao : Option Addr) (w : World) (hn : n = xs.length) (hb0 : b0 ≠ G ∧ b0 ≠ M) (c0 : w.cell? ⟨b0, 0, none⟩ = some (.slice Ao n co))
    (hA : Rd kInt w (.slice Ao n co) xs) (hfar : ∀ a, Ao = some a → a.block < w.heap.size ∧ a.block ≠ G ∧ a.block ≠ M) :
    SeqStopsK Fence.wide 1 Tryd.prog 39 #[.pointer (some ⟨b0, 0, none⟩)] (fun x : Fin n => backV xs x.1) (KeepsOff w.heap.size G M) (fun ys => ys.map Fin.val = downs n n) (fun _ => True) n w := fun l J Jx W hW _ _ hY h0 =>
  back_in l n w.heap.size G M b0 co xs Ao J Jx hn hY W ⟨World.block_lt_of_cell? _ _ c0, hb0⟩ (Ext.cell hW c0) (hA.ext hW) hfar h0
/-- how a round's body is left -/
def BodyOut (R : World → Prop) : Exit → Act → World → Prop
  | .normal, _, W => R W
  | _, _, _ => False
theorem BodyOut.no (R : World → Prop) : ¬ LetsOut (BodyOut R) := fun ⟨_, _, h⟩ => h
/-- the slots with which a round begins -/
def backAct (a : Act) (p1 p2 d1 d2 : Tmp) (u : Nat) (x : Int) : Act :=
  { tmps := (((a.tmps.setIfInBounds p1 (.int .i64 u)).setIfInBounds p2 (.int .i64 x)).setIfInBounds d1 (.int .i64 u)).setIfInBounds d2 (.int .i64 x), defers := [] }
theorem range_back {g : Operand} {p1 p2 : Tmp} (d1 d2 : Tmp) {assign body : Code} {Q : Exit → Act → World → Prop} {a : Act} {w : World} (G M n b0 co : Nat) (xs : List Int) (Ao : Option Addr) (St : List Nat → World → Prop)
    (hg : a.eval g = .func (.func 39) #[] #[.pointer (some ⟨b0, 0, none⟩)])
    (hn : n = xs.length) (hb0 : b0 ≠ G ∧ b0 ≠ M) (c0 : w.cell? ⟨b0, 0, none⟩ = some (.slice Ao n co))
    (hA : Rd kInt w (.slice Ao n co) xs) (hfar : ∀ a, Ao = some a → a.block < w.heap.size ∧ a.block ≠ G ∧ a.block ≠ M) (hGM : G < w.heap.size ∧ M < w.heap.size)
    (hSt : OwnFrom w.heap.size St) (h0 : St [] w)
    (hassign : ∀ (l u : Nat) (x : Int) (W : World) (K : Act → World → Prop), K (backAct a p1 p2 d1 d2 u x) W →
      assign.wpIn (Fence.wide.inRound l) 0 Tryd.prog (Exit.then K (fun _ _ _ => False)) { tmps := (a.tmps.setIfInBounds p1 (.int .i64 u)).setIfInBounds p2 (.int .i64 x), defers := [] } W)
    (hbody : ∀ (l : Nat) (pre : List Nat) (u : Nat) (W : World), u < n → pre.length < n → St pre W → KeepsOff w.heap.size G M w W →
      body.wpIn (Fence.wide.inRound l) 0 Tryd.prog (BodyOut fun W' => KeepsFrom w.heap.size W W' ∧ KeepsOff w.heap.size G M W W' ∧ St (pre ++ [u]) W') (backAct a p1 p2 d1 d2 u (xs.getD u 0)) W)
    (hdone : ∀ (D : Nat) (W : World), w.heap.size ≤ D → St (downs n n) W → KeepsOff w.heap.size G M w W → W.heap[D]? = some (.deferred (some [])) → Q .normal { a with defers := { target := .collected D, args := #[] } :: a.defers } W) :
    (Code.rangeFunc g #[p1, p2] assign body).wp Tryd.prog Q a w := by
  refine (wpIn_wide (n := 2)).1 ?_
  have hIO : OwnFrom w.heap.size (fun (pre : List (Fin n)) W => St (pre.map Fin.val) W ∧ KeepsOff w.heap.size G M w W) := fun s A C row hs hg hr =>
    ⟨hSt _ _ _ row hs.1 hg hr, hs.2.trans (KeepsOff.grown hs.2.size hg (fun r e => .inl (hr r e).1))⟩
  refine wpIn_rangeFunc_ownH rfl (by decide) (gf := 39) hg trivial (enters_of Tryd.func39 (by kernel_rfl) rfl)
    (back_stops n G M b0 co xs Ao w hn hb0 c0 hA hfar) KeepsOff.trans
    (fun W l o o' hl h ho _ => KeepsOff.grown (by have := (Array.getElem?_eq_some_iff.1 h).1; omega) (grownBy_putObj' W l o') (fun r e => by cases e; exact .inl hl)) (Below.refl _ _) (fun _ => rfl)
    (fun pre W => St (pre.map Fin.val) W ∧ KeepsOff w.heap.size G M w W) (fun _ _ _ => False) hIO (fun _ _ _ _ _ hs _ _ => hs) ⟨h0, KeepsOff.refl _ _ _ _⟩
    (fun x a' _ => a' = backAct a p1 p2 d1 d2 x.1 (xs.getD x.1 0)) (fun x a' _ A C row hs hg hr => hs)
    ?assign ?body ?done ?stop
  case assign =>
    intro l pre x W K hI hK
    have h9 := hassign l x.1 (xs.getD x.1 0) W K (hK _ _ (KeepsFrom.refl _ _) (KeepsOff.refl _ _ _ _) hI rfl)
    simpa [backV] using h9
  case body =>
    rintro l pre x a' W hl - ⟨hO, hX⟩ rfl hlen
    refine wpIn_mono (hbody l (pre.map Fin.val) x.1 W x.2 (by rw [List.length_map]; exact hlen) hO hX) ?_
    intro e a3 W3 h3
    cases e with
    | normal =>
      obtain ⟨hf3, hk3, hO3⟩ := h3
      exact ⟨hf3, hk3, by rw [List.map_append]; exact hO3, hX.trans hk3⟩
    | _ => exact h3.elim
  case done =>
    rintro D ys W hD hys ⟨hO, hX⟩ hK
    rw [hys] at hO
    exact hdone D W hD hO hX hK
  case stop =>
    rintro D c pre W _ _ h _
    exact h.elim
end Go.Proofs.YtfkidgpjejcblaaDoor

/- The program's linked (tower): of each node, and each level below its height, the next place. Written by wip/tools/gen14k.py. -/
namespace Go.Proofs.YtfkidgpjejcblaaDoor
open Go.BigFrame
open Go.RowKit Go.Shelf Go.Proofs.YtfkidgpjejcblaaDoor.Plain
attribute [local go_sem] Oper.semAt_some

/-- a list of one's own isn't such a box -/
theorem Ow.notKind {α : Type} {K : Kd α} {B : Nat} {w : World} {v : Value} {xs : List α} (h : Ow K B w v xs) {b : Nat} {cs : Array Value} {t : TypeId} {fr : Nat × Nat} (hb : w.heap[b]? = some (.cells cs t fr)) (hne : K.e ≠ t) : v.ownBlock ≠ some b := by
  intro e
  rcases h.1.2 with ⟨rfl, _⟩ | ⟨g, cap, cur, rfl, _, hh, _⟩
  · simp [Value.ownBlock] at e
  · simp only [Value.ownBlock, Option.some.injEq] at e
    subst e
    rw [hh] at hb
    simp at hb
    exact hne hb.2.1
/-- .. nor a block that is no cells -/
theorem Ow.keptN {α : Type} {K : Kd α} {B : Nat} {w w' : World} {v : Value} {xs : List α} {row : Option Nat} (h : Ow K B w v xs) (hg : w.grownBy w' row) (hr : ∀ r, row = some r → ∃ o : Obj, w.heap[r]? = some o ∧ o.isCells = false) : Ow K B w' v xs := by
  refine h.kept hg ?_
  rcases h.1.2 with ⟨rfl, _⟩ | ⟨g, cap, cur, rfl, _, hh, _⟩
  · exact .inl rfl
  · refine .inr (fun e => ?_)
    obtain ⟨o, ho, hc⟩ := hr g e.symm
    rw [hh] at ho
    cases ho
    cases hc
/-- one row is put in another's place -/
theorem Oww.set {B g n c : Nat} {w : World} {D : List (List Int)} (h : Oww B w (.slice (some ⟨g, 0, none⟩) n c) D) {j : Nat} (hj : j < D.length) (A : Option Addr) (m e' : Nat) (ys : List Int) (hy : Ow kInt B w (.slice A m e') ys) :
    Oww B (w.setCell ⟨g, j, none⟩ (.slice A m e')) (.slice (some ⟨g, 0, none⟩) n c) (D.set j ys) := by
  obtain ⟨hs, h1, h2, h3⟩ := h
  have hset := h1.set (j := j) (i := 0) (x := ⟨A, m, e'⟩) (u := .slice A m e') (by omega) (by decide) rfl trivial
  rw [show j * kRow.n + 0 = j from by show j * 1 + 0 = j; omega] at hset
  refine ⟨_, hset, by rw [List.length_set, List.length_set, h2], fun k hk => ?_⟩
  rw [List.length_set] at hk
  have far : ∀ (v : Value) (xs : List Int), Ow kInt B w v xs → v.ownBlock ≠ some g := fun v xs ho e => Ow.far (by decide) ho h1 g e rfl
  by_cases e : j = k
  · subst e
    rw [List.getD_eq_getElem?_getD, List.getElem?_set_self (by omega), List.getD_eq_getElem?_getD, List.getElem?_set_self hk]
    exact hy.setOther (p := ⟨g, j, none⟩) (far _ _ hy) _
  · rw [show (hs.set j ⟨A, m, e'⟩).getD k hd0 = hs.getD k hd0 by rw [List.getD_eq_getElem?_getD, List.getElem?_set_ne e, ← List.getD_eq_getElem?_getD], show (D.set j ys).getD k [] = D.getD k [] by rw [List.getD_eq_getElem?_getD, List.getElem?_set_ne e, ← List.getD_eq_getElem?_getD]]
    exact (h3 k hk).setOther (p := ⟨g, j, none⟩) (far _ _ (h3 k hk)) _
/-- rows, and the nearest places, as they lie -/
structure LkSt (B G M n : Nat) (s : List (List Int) × List Int) (W : World) : Prop where
  rows : Oww B W (.slice (some ⟨G, 0, none⟩) n n) s.1
  dl : s.1.length = n
  xl : s.2.length = 8
  xok : ∀ x ∈ s.2, in64 x
  near : W.heap[M]? = some (.cells (s.2.map (Value.int .i64)).toArray 50 (0, 0))
theorem LkSt.keptN {B G M n : Nat} {s : List (List Int) × List Int} {W W' : World} {row : Option Nat} (h : LkSt B G M n s W) (hg : W.grownBy W' row) (hr : ∀ r, row = some r → ∃ o : Obj, W.heap[r]? = some o ∧ o.isCells = false) : LkSt B G M n s W' := by
  obtain ⟨⟨hs, h1, h2, h3⟩, h4, h5, h6, h7⟩ := h
  refine ⟨⟨hs, h1.keptN hg hr, h2, fun j hj => (h3 j hj).keptN hg hr⟩, h4, h5, h6, ?_⟩
  rw [hg.block M (Array.getElem?_eq_some_iff.1 h7).1 (fun e => by
    obtain ⟨o, ho, hc⟩ := hr M e.symm
    rw [h7] at ho; cases ho; cases hc)]
  exact h7
theorem LkSt.ext {B G M n : Nat} {s : List (List Int) × List Int} {W W' : World} (h : LkSt B G M n s W) (hE : Ext W W') : LkSt B G M n s W' :=
  ⟨h.rows.ext hE, h.dl, h.xl, h.xok, (hE.block M (Array.getElem?_eq_some_iff.1 h.near).1).trans h.near⟩
theorem LkSt.lt {B G M n : Nat} {s : List (List Int) × List Int} {W : World} (h : LkSt B G M n s W) : G < W.heap.size ∧ M < W.heap.size := ⟨(h.rows.lt G rfl).2, (Array.getElem?_eq_some_iff.1 h.near).1⟩
theorem LkSt.setRow {B G M n : Nat} {s : List (List Int) × List Int} {W : World} (h : LkSt B G M n s W) {j : Nat} (hj : j < n) (A : Option Addr) (m e : Nat) (ys : List Int) (hy : Ow kInt B W (.slice A m e) ys) : LkSt B G M n (s.1.set j ys, s.2) (W.setCell ⟨G, j, none⟩ (.slice A m e)) := by
  have hne : M ≠ G := fun e => by
    obtain ⟨hs, h1, _⟩ := h.rows
    exact (h1.notKind h.near (by decide)) (by rw [e]; rfl)
  exact ⟨h.rows.set (by rw [h.dl]; exact hj) A m e ys hy, by rw [List.length_set]; exact h.dl, h.xl, h.xok, (heap_setCell_other W ⟨G, j, none⟩ M _ hne).trans h.near⟩
theorem LkSt.setNear {B G M n : Nat} {s : List (List Int) × List Int} {W : World} (h : LkSt B G M n s W) {j : Nat} (x : Int) (hx : in64 x) : LkSt B G M n (s.1, s.2.set j x) (W.setCell ⟨M, j, none⟩ (.int .i64 x)) := by
  obtain ⟨⟨hs, h1, h2, h3⟩, h4, h5, h6, h7⟩ := h
  refine ⟨⟨hs, h1.setOther (p := ⟨M, j, none⟩) (h1.notKind h7 (by decide)) _, h2, fun k hk => (h3 k hk).setOther (p := ⟨M, j, none⟩) ((h3 k hk).notKind h7 (by decide)) _⟩, h4, by rw [List.length_set]; exact h5, fun y hy => ?_, ?_⟩
  · rcases List.mem_or_eq_of_mem_set hy with h' | h'
    · exact h6 y h'
    · subst h'; exact hx
  · rw [heap_setCell_same W M j _ _ _ h7]
    rw [List.setIfInBounds_toArray, List.map_set]
theorem LkSt.cell {B G M n : Nat} {s : List (List Int) × List Int} {W : World} (h : LkSt B G M n s W) (j : Nat) (hj : j < 8) : W.cell? ⟨M, j, none⟩ = some (.int .i64 (s.2.getD j 0)) := by
  rw [cell_of_row W M j _ _ _ h.near]
  rw [List.getElem?_toArray, List.getElem?_map, List.getElem?_eq_getElem (by rw [h.xl]; exact hj), List.getD_eq_getElem?_getD, List.getElem?_eq_getElem (by rw [h.xl]; exact hj)]; rfl
theorem LkSt.free {B G M n : Nat} {s : List (List Int) × List Int} {W : World} (h : LkSt B G M n s W) : (∀ o, W.frozen? ⟨M, o, none⟩ = false) := fun o => frozen_of_row W M o _ _ h.near
theorem LkSt.rowAt {B G M n : Nat} {s : List (List Int) × List Int} {W : World} (h : LkSt B G M n s W) (j : Nat) (hj : j < n) : (∃ v : Hd, W.cell? ⟨G, j, none⟩ = some v.v) ∧ ∀ o, W.frozen? ⟨G, o, none⟩ = false := by
  obtain ⟨hs, h1, h2, h3⟩ := h.rows
  obtain ⟨g, eg, k1, k2, k3, k4⟩ := h1.pos (by rw [h2, h.dl]; omega)
  cases eg
  have z := k3 j (by rw [h2, h.dl]; exact hj) 0 _ rfl
  rw [show j * kRow.n + 0 = j from by show j * 1 + 0 = j; omega] at z
  exact ⟨⟨_, z⟩, k4⟩
theorem LkSt.rd {B G M n : Nat} {s : List (List Int) × List Int} {W : World} (h : LkSt B G M n s W) (k : Nat) (hk : k ≤ 8) : Rd kInt W (.slice (some ⟨M, 0, none⟩) k 8) (s.2.take k) := by
  have hl : (s.2.take k).length = k := by rw [List.length_take, h.xl]; omega
  refine ⟨by rw [hl]; unfold maxLen; omega, fun x hx => h.xok x (List.mem_of_mem_take hx), _, 8, by rw [hl], by rw [hl]; exact hk, fun _ => ⟨M, 0, rfl, fun j hj i u hu => ?_⟩⟩
  have hi : i = 0 := by
    rcases i with _ | i
    · rfl
    · simp [kInt] at hu
  subst hi
  rw [hl] at hj
  have z := h.cell j (by omega)
  have hu' : Value.int .i64 ((s.2.take k).getD j 0) = u := by simpa [kInt] using hu
  rw [getDk_take _ _ _ _ hj] at hu'
  rw [← hu', show 0 + j * kInt.n + 0 = j from by show 0 + j * 1 + 0 = j; omega]
  exact z

def LkV (w0 : World) (u z G M n : Nat) (Y : List Int) : Nat → World → List Value → Value → Prop
  | 0, w, ds, v => v = .slice (some ⟨G, 0, none⟩) n n
  | 1, w, ds, v => v = .int .i64 u
  | 2, w, ds, v => v = .int .i64 z
  | 3, w, ds, v => v = .slice (some ⟨M, 0, none⟩) z 8
  | 4, w, ds, v => ∃ A c, v = .slice A Y.length c ∧ Ow kInt w0.heap.size w (.slice A Y.length c) Y
  | 5, w, ds, v => v = .pointer (some ⟨G, u, none⟩)
  | _, _, _, _ => True
theorem LkV_ext (w0 : World) (u z G M n : Nat) (Y : List Int) : ∀ i w w' ds v, LkV w0 u z G M n Y i w ds v → Ext w w' → LkV w0 u z G M n Y i w' ds v
  | 0, _, _, _, _, h, _ => h
  | 1, _, _, _, _, h, _ => h
  | 2, _, _, _, _, h, _ => h
  | 3, _, _, _, _, h, _ => h
  | 4, _, _, _, _, h, hE => (by obtain ⟨A, c, h1, h2⟩ := h; exact ⟨A, c, h1, h2.ext hE⟩)
  | 5, _, _, _, _, h, _ => h
  | _ + 6, _, _, _, _, _, _ => trivial
section
variable (w0 : World) (u z G M n : Nat) (Y : List Int) (w : World) (ds : List Value) (v : Value)
theorem LkV_i0 (h : v = .slice (some ⟨G, 0, none⟩) n n) : LkV w0 u z G M n Y 0 w ds v := h
theorem LkV_e0 (h : LkV w0 u z G M n Y 0 w ds v) : v = .slice (some ⟨G, 0, none⟩) n n := h
theorem LkV_i1 (h : v = .int .i64 u) : LkV w0 u z G M n Y 1 w ds v := h
theorem LkV_e1 (h : LkV w0 u z G M n Y 1 w ds v) : v = .int .i64 u := h
theorem LkV_i2 (h : v = .int .i64 z) : LkV w0 u z G M n Y 2 w ds v := h
theorem LkV_e2 (h : LkV w0 u z G M n Y 2 w ds v) : v = .int .i64 z := h
theorem LkV_i3 (h : v = .slice (some ⟨M, 0, none⟩) z 8) : LkV w0 u z G M n Y 3 w ds v := h
theorem LkV_e3 (h : LkV w0 u z G M n Y 3 w ds v) : v = .slice (some ⟨M, 0, none⟩) z 8 := h
theorem LkV_i4 (h : ∃ A c, v = .slice A Y.length c ∧ Ow kInt w0.heap.size w (.slice A Y.length c) Y) : LkV w0 u z G M n Y 4 w ds v := h
theorem LkV_e4 (h : LkV w0 u z G M n Y 4 w ds v) : ∃ A c, v = .slice A Y.length c ∧ Ow kInt w0.heap.size w (.slice A Y.length c) Y := h
theorem LkV_i5 (h : v = .pointer (some ⟨G, u, none⟩)) : LkV w0 u z G M n Y 5 w ds v := h
theorem LkV_e5 (h : LkV w0 u z G M n Y 5 w ds v) : v = .pointer (some ⟨G, u, none⟩) := h
end

set_option maxHeartbeats 6400000 in
set_option maxRecDepth 100000 in
theorem plinked_any (hs : List Int) (A : Option Addr) (n c : Nat) (w : World) (hA : Rd kInt w (.slice A n c) hs) (hn : n = hs.length) (hn1 : 1 ≤ n) (hn2 : n ≤ 1000) (hh : ∀ j, j < n → 1 ≤ hs.getD j 0 ∧ hs.getD j 0 ≤ 8) :
    Calls Tryd.prog 22 #[.slice A n c] w fun ed w' => ∃ (N : Option Addr) (e : Nat), ed = .returned (.slice N n e) ∧ Oww w.heap.size w' (.slice N n e) ((List.range hs.length).map (nextsP hs)) ∧ Ext w w' := by
  have HA := Lib.hid hA
  have HN := Lib.hid hn
  have HH := Lib.hid hh
  obtain ⟨b0, o0, hA0, -⟩ := (ints_of_rd hA).cells (by omega)
  have HAB : Hid (∀ a, A = some a → a.block < w.heap.size) := Lib.hid (fun a ha => by
    subst ha
    cases hA0
    obtain ⟨b1, o1, e1, hc1⟩ := (ints_of_rd hA).cells (by omega)
    cases e1
    exact World.block_lt_of_cell? _ _ (hc1 0 (by omega)))
  obtain ⟨C, hmk, hmown⟩ := kRow.make hd0 rfl trivial n (by omega)
  have HMK := Lib.hid hmown
  have hmk2 : ∀ w : World, (Instr.makeSlice 25 (.int .i64 n) (.int .i64 n)).run Tryd.prog w = .ok (.slice (some ⟨w.heap.size, 0, none⟩) n n) (w.alloc (.cells C 22)) := hmk
  have hn9 : (n : Int) ≤ 1000 := by omega
  clear hA hn hh hA0 hmown hmk
  refine callsIn_wide.1 (callsIn_of_wp_marks (n := 2) Tryd.func22 rfl trivial ?_ rfl)
  simp only [Tryd.ntmps22, List.size_toArray, List.length_cons, List.length_nil, Nat.reduceAdd, Nat.reduceSub, Array.replicate_succ, Array.replicate_zero, List.push_toArray, List.append_toArray, List.nil_append, List.cons_append]
  refine (wpIn_wide (n := 2)).2 ?_
  go_wp2_with fail
  refine wp_loop_rounds 3 ?_
  rw [rounds_succ]
  go_wp2_with fail
  have hx0 : Ext w (((w.alloc (.cells C 22)).alloc (.cells #[.slice (some ⟨w.heap.size, 0, none⟩) n n] 25)).alloc (.cells #[.int .i64 0, .int .i64 0, .int .i64 0, .int .i64 0, .int .i64 0, .int .i64 0, .int .i64 0, .int .i64 0] 50)) := (((Ext.refl w).alloc _).alloc _).alloc _
  have q3 : (((w.alloc (.cells C 22)).alloc (.cells #[.slice (some ⟨w.heap.size, 0, none⟩) n n] 25)).alloc (.cells #[.int .i64 0, .int .i64 0, .int .i64 0, .int .i64 0, .int .i64 0, .int .i64 0, .int .i64 0, .int .i64 0] 50)).cell? ⟨w.heap.size + 1, 0, none⟩ = some (.slice (some ⟨w.heap.size, 0, none⟩) n n) := by go_simp
  have hL0 : LkSt w.heap.size w.heap.size (w.heap.size + 1 + 1) n (List.replicate n [], List.replicate 8 0) (((w.alloc (.cells C 22)).alloc (.cells #[.slice (some ⟨w.heap.size, 0, none⟩) n n] 25)).alloc (.cells #[.int .i64 0, .int .i64 0, .int .i64 0, .int .i64 0, .int .i64 0, .int .i64 0, .int .i64 0, .int .i64 0] 50)) :=
    ⟨⟨List.replicate n hd0, (HMK.out w w.heap.size w.heap.size rfl (Nat.le_refl _)).ext (((Ext.refl _).alloc _).alloc _), by simp, fun j hj => by
        rw [List.length_replicate] at hj
        rw [List.getD_eq_getElem?_getD, List.getElem?_replicate, if_pos hj, List.getD_eq_getElem?_getD, List.getElem?_replicate, if_pos hj]
        exact Ow.nil _ _⟩, by simp, by simp, fun x hx => by rw [List.mem_replicate] at hx; rw [hx.2]; decide, by
        have h9 := heap_alloc_new ((w.alloc (.cells C 22)).alloc (.cells #[.slice (some ⟨w.heap.size, 0, none⟩) n n] 25)) (.cells #[.int .i64 0, .int .i64 0, .int .i64 0, .int .i64 0, .int .i64 0, .int .i64 0, .int .i64 0, .int .i64 0] 50)
        simp only [World.size_alloc] at h9
        exact h9⟩
  have hs0 : w.heap.size + 3 ≤ (((w.alloc (.cells C 22)).alloc (.cells #[.slice (some ⟨w.heap.size, 0, none⟩) n n] 25)).alloc (.cells #[.int .i64 0, .int .i64 0, .int .i64 0, .int .i64 0, .int .i64 0, .int .i64 0, .int .i64 0, .int .i64 0] 50)).heap.size := by simp
  obtain ⟨W0, hW0⟩ : ∃ W0, (((w.alloc (.cells C 22)).alloc (.cells #[.slice (some ⟨w.heap.size, 0, none⟩) n n] 25)).alloc (.cells #[.int .i64 0, .int .i64 0, .int .i64 0, .int .i64 0, .int .i64 0, .int .i64 0, .int .i64 0, .int .i64 0] 50)) = W0 := ⟨_, rfl⟩
  rw [hW0] at hx0 q3 hL0 hs0 ⊢
  clear hW0 hmk2 HMK
  obtain ⟨G, hG⟩ : ∃ G, w.heap.size = G := ⟨_, rfl⟩
  rw [hG] at hL0 q3 hs0 ⊢
  have HG := Lib.hid hG
  have HX0 := Lib.hid hx0
  have HL0 := Lib.hid hL0
  clear hG hx0 hL0
  refine (back0_any A n c W0).mono ?_
  rintro ed w1 ⟨rfl, rfl⟩
  go_wp2_with fail
  have c0 : (W0.alloc (.cells #[.slice A n c] 22)).cell? ⟨W0.heap.size, 0, none⟩ = some (.slice A n c) := by go_simp
  have hz1 : (W0.alloc (.cells #[.slice A n c] 22)).heap.size = W0.heap.size + 1 := by simp
  have hEA : Ext W0 (W0.alloc (.cells #[.slice A n c] 22)) := (Ext.refl _).alloc _
  obtain ⟨V1, hW1⟩ : ∃ W1, W0.alloc (.cells #[.slice A n c] 22) = W1 := ⟨_, rfl⟩
  rw [hW1] at c0 hz1 hEA ⊢
  have HXA1 : Hid (Ext w V1) := Lib.hid (HX0.out.trans hEA)
  have HE1 := Lib.hid hEA
  have HQ1 : Hid (V1.cell? ⟨G + 1, 0, none⟩ = some (.slice (some ⟨G, 0, none⟩) n n)) := Lib.hid (hEA.cell q3)
  have HLA1 : Hid (LkSt G G (G + 1 + 1) n (List.replicate n [], List.replicate 8 0) V1) := Lib.hid (HL0.out.ext hEA)
  have HZ1 : Hid (V1.heap.size = W0.heap.size + 1 ∧ G + 3 ≤ W0.heap.size) := Lib.hid ⟨hz1, hs0⟩
  clear hW1 hEA q3 hz1 hs0
  have hfar : ∀ a, A = some a → a.block < V1.heap.size ∧ a.block ≠ G ∧ a.block ≠ G + 1 + 1 := fun a ha => by
    have h1 := HAB.out a ha
    have h2 := HG.out
    have h3 := HZ1.out
    refine ⟨by omega, by omega, by omega⟩
  refine range_back 5 6 G (G + 1 + 1) n W0.heap.size c hs A (fun pre W => LkSt G G (G + 1 + 1) n (stF hs (List.replicate n [], List.replicate 8 0) pre) W) rfl HN.out ⟨by have := HZ1.out; omega, by have := HZ1.out; omega⟩ c0 (HA.out.ext HXA1.out) hfar HLA1.out.lt (fun pre Wa Wb row h9 hg hr => h9.keptN hg (fun r e => (hr r e).2)) HLA1.out ?assign1 ?body1 ?done1
  case assign1 =>
    intro l9 u x W K hK
    simp only [List.setIfInBounds_toArray, List.set_cons_succ, List.set_cons_zero]
    gi_wp2
    simpa [backAct] using hK
  case body1 =>
    intro l9 pre u W hu hlen hS hX
    have q3 := hX.cell HQ1.out (by have := HZ1.out; show G + 1 < _; omega) (by show G + 1 ≠ _; omega) (by show G + 1 ≠ _; omega)
    obtain ⟨h1, h8⟩ := HH.out u hu
    obtain ⟨z, hz⟩ : ∃ z : Nat, hs.getD u 0 = (z : Int) := ⟨(hs.getD u 0).toNat, by omega⟩
    have hsn : stF hs (List.replicate n [], List.replicate 8 0) (pre ++ [u]) = ((stF hs (List.replicate n [], List.replicate 8 0) pre).1.set u ((stF hs (List.replicate n [], List.replicate 8 0) pre).2.take z), midN (stF hs (List.replicate n [], List.replicate 8 0) pre).2 u z) := by rw [stF_snoc, hz, Int.toNat_natCast]
    rw [hz] at h1 h8 ⊢
    obtain ⟨s, hs9⟩ : ∃ s, stF hs (List.replicate n [], List.replicate 8 0) pre = s := ⟨_, rfl⟩
    rw [hs9] at hsn
    simp only [hs9] at hS
    simp only [hsn]
    have hYl : (s.2.take z).length = z := by rw [List.length_take, hS.xl]; omega
    have HR0 := hS.rd z (by omega)
    obtain ⟨Y, hY⟩ : ∃ Y, s.2.take z = Y := ⟨_, rfl⟩
    rw [hY] at hYl HR0
    have HR := Lib.hid HR0
    have HYL : Hid (Y.length ≤ 1048576) := Lib.hid (by omega)
    have HYZ := Lib.hid hYl
    have HY := Lib.hid hY
    have HS := Lib.hid hS
    have HX := Lib.hid hX
    have HU := Lib.hid hu
    have hu0 : (0 : Int) ≤ u := by omega
    have hu1 : (u : Int) < n := by omega
    have hz0 : (0 : Int) ≤ z := by omega
    have hd1 : decide ((u : Int) < 0) = false := decide_eq_false (by omega)
    have hd2 : decide ((n : Int) ≤ (u : Int)) = false := decide_eq_false (by omega)
    have HU9 : Hid (in64 (u : Int)) := Lib.hid (in64_nat u (by omega))
    have HNW : Hid (V1.heap.size ≤ W.heap.size) := Lib.hid hX.size
    clear hsn hs9 hYl hY HR0 hS hX c0 hz hlen
    simp only [backAct, List.setIfInBounds_toArray, List.set_cons_succ, List.set_cons_zero]
    gi_wp2
    refine Mono.round_region_mono 6 (LkV W u z G (G + 1 + 1) n Y) (by kernel_rfl) (by rintro ⟨a, w, h9⟩; exact h9) (by kernel_rfl) (by kernel_rfl) (LkV_ext W u z G (G + 1 + 1) n Y) ?_ ?_
    · intro i o hi ho vals w5 hE hcl
      have hi' : i = 0 ∨ i = 1 ∨ i = 2 ∨ i = 3 ∨ i = 4 ∨ i = 5 := by omega
      rcases hi' with rfl | rfl | rfl | rfl | rfl | rfl
      · simp only [List.getElem?_cons_succ, List.getElem?_cons_zero, Option.some.injEq] at ho
        subst ho
        rw [if_pos (Mono.wanted_none rfl)]
        have k1 := hE.cell q3
        clear hcl
        refine Mono.yields_same (.slice (some ⟨G, 0, none⟩) n n) w5 ?_ ⟨Ext.refl _, LkV_i0 _ _ _ _ _ _ _ _ _ _ rfl⟩
        simp only [Mono.all, List.take, Act.put]
        go_simp
      · simp only [List.getElem?_cons_succ, List.getElem?_cons_zero, Option.some.injEq] at ho
        subst ho
        rw [if_pos (Mono.wanted_none rfl)]
        clear hcl
        refine Mono.yields_same (.int .i64 u) w5 ?_ ⟨Ext.refl _, LkV_i1 _ _ _ _ _ _ _ _ _ _ rfl⟩
        simp only [Mono.all, List.take, Act.put]
        go_simp
      · simp only [List.getElem?_cons_succ, List.getElem?_cons_zero, Option.some.injEq] at ho
        subst ho
        rw [if_pos (Mono.wanted_none rfl)]
        clear hcl
        refine Mono.yields_same (.int .i64 z) w5 ?_ ⟨Ext.refl _, LkV_i2 _ _ _ _ _ _ _ _ _ _ rfl⟩
        simp only [Mono.all, List.take, Act.put]
        go_simp
      · simp only [List.getElem?_cons_succ, List.getElem?_cons_zero, Option.some.injEq] at ho
        subst ho
        rw [if_pos (Mono.wanted_none rfl)]
        have h2 : vals 2 = .int .i64 z := LkV_e2 _ _ _ _ _ _ _ _ _ _ (hcl 2 (by kernel_rfl))
        clear hcl
        refine Mono.yields_same (.slice (some ⟨G + 1 + 1, 0, none⟩) z 8) w5 ?_ ⟨Ext.refl _, LkV_i3 _ _ _ _ _ _ _ _ _ _ rfl⟩
        simp only [Mono.all, List.take, Act.put]
        go_simp
      · simp only [List.getElem?_cons_succ, List.getElem?_cons_zero, Option.some.injEq] at ho
        subst ho
        rw [if_pos (Mono.wanted_none rfl)]
        have h3 : vals 3 = .slice (some ⟨G + 1 + 1, 0, none⟩) z 8 := (LkV_e3 _ _ _ _ _ _ _ _ _ _ (hcl 3 (by kernel_rfl)))
        clear hcl
        refine Mono.yields_call 21 #[.slice (some ⟨G + 1 + 1, 0, none⟩) z 8] w5 ?_ ((cloneI _ Y w5 (HR.out.ext hE) HYL.out).mono ?_)
        · simp only [Mono.all, List.take, Act.put]
          go_simp
        · rintro ed w6 ⟨A1, c1, rfl, o1, hE6⟩
          exact ⟨_, rfl, hE6, LkV_i4 _ _ _ _ _ _ _ _ _ _ ⟨A1, c1, rfl, o1.mono hE.size⟩⟩
      · simp only [List.getElem?_cons_succ, List.getElem?_cons_zero, Option.some.injEq] at ho
        subst ho
        rw [if_pos (Mono.wanted_none rfl)]
        have h0 : vals 0 = .slice (some ⟨G, 0, none⟩) n n := LkV_e0 _ _ _ _ _ _ _ _ _ _ (hcl 0 (by kernel_rfl))
        have h1 : vals 1 = .int .i64 u := LkV_e1 _ _ _ _ _ _ _ _ _ _ (hcl 1 (by kernel_rfl))
        clear hcl
        refine Mono.yields_same (.pointer (some ⟨G, u, none⟩)) w5 ?_ ⟨Ext.refl _, LkV_i5 _ _ _ _ _ _ _ _ _ _ rfl⟩
        simp only [Mono.all, List.take, Act.put]
        go_simp
    · intro vals w5 hE hv
      obtain ⟨A4, c4, e4, o4⟩ := (LkV_e4 _ _ _ _ _ _ _ _ _ _ (hv 4 (by omega)))
      have e5 := LkV_e5 _ _ _ _ _ _ _ _ _ _ (hv 5 (by omega))
      have hS5 := HS.out.ext hE
      obtain ⟨⟨v0, k0⟩, kf⟩ := hS5.rowAt u HU.out
      have hS6 := hS5.setRow HU.out A4 Y.length c4 Y (o4.mono (by have := HS.out.rows.lt G rfl; omega))
      have hk6 : KeepsOff V1.heap.size G (G + 1 + 1) W (w5.setCell ⟨G, u, none⟩ (.slice A4 Y.length c4)) := (KeepsOff.ofExt HNW.out hE).trans (KeepsOff.set (p := ⟨G, u, none⟩) (.inl rfl) _)
      have hf6 : KeepsFrom V1.heap.size W (w5.setCell ⟨G, u, none⟩ (.slice A4 Y.length c4)) := (hE.others.trans (KeepsOthers.setCell _ _ _)).from _
      have H6 := Lib.hid (And.intro hS6 (And.intro hk6 hf6))
      clear hv hS5 hS6 hk6 hf6 o4 q3
      simp only [Mono.all, List.take, List.drop, Act.put]
      rw [e5, e4]
      go_wp2_with fail
      obtain ⟨w6, hw6⟩ : ∃ w6, w5.setCell ⟨G, u, none⟩ (.slice A4 Y.length c4) = w6 := ⟨_, rfl⟩
      rw [hw6] at H6 ⊢
      clear hw6 k0 kf hE e4 e5
      gi_wp2
      gi_loopw [24] (fun i wr => ∃ j : Nat, j ≤ z ∧ i = .int .i64 j ∧ LkSt G G (G + 1 + 1) n (s.1.set u Y, midN s.2 u j) wr ∧ KeepsOff V1.heap.size G (G + 1 + 1) W wr ∧ KeepsFrom V1.heap.size W wr) (fun i _ => z - (intOf i).toNat)
      case atStart => exact ⟨0, Nat.zero_le _, rfl, by rw [midN_zero]; exact H6.out.1, H6.out.2.1, H6.out.2.2⟩
      case round =>
        obtain ⟨j, hj, rfl, hL, hK1, hK2⟩ := hrel
        have hj0 : (0 : Int) ≤ j := by omega
        by_cases hlt : j < z
        · have hlt' : (j : Int) < z := by omega
          have hj8 : (j : Int) < 8 := by omega
          have zc := hL.cell j (by omega)
          have zf := hL.free
          have hset := hL.setNear (j := j) (u : Int) HU9.out
          simp only [midN_set s.2 (u : Int) j (by rw [HS.out.xl]; omega)] at hset
          have H7 := Lib.hid (And.intro hset (And.intro (hK1.trans (KeepsOff.set (p := ⟨G + 1 + 1, j, none⟩) (.inr rfl) (.int .i64 u))) (hK2.trans ((KeepsOthers.setCell wr ⟨G + 1 + 1, j, none⟩ (.int .i64 u)).from _))))
          clear hset hL hK1 hK2
          gi_wp2
          go_roundw
          case rel => exact ⟨j + 1, by omega, by go_num, H7.out.1, H7.out.2.1, H7.out.2.2⟩
          case measure => simp [intOf]; omega
        · obtain rfl : j = z := by omega
          have H7 := Lib.hid (And.intro hK2 (And.intro hK1 hL))
          clear hL hK1 hK2
          gi_wp2
          rw [HY.out]
          exact H7.out
  case done1 =>
    intro D1 WB hD hS hX hK
    have q3 := hX.cell HQ1.out (by have := HZ1.out; show G + 1 < _; omega) (by show G + 1 ≠ _; omega) (by show G + 1 ≠ _; omega)
    have HX1 : Hid (Ext w WB) := Lib.hid (hX.ext HXA1.out (by have := HG.out; have := HZ1.out; omega) (by have := HG.out; omega) (by have := HG.out; omega))
    have h14 := stF_once hs (List.replicate n []) (by rw [List.length_replicate]; exact HN.out) (fun j hj => HH.out j (by rw [HN.out]; exact hj))
    have hdn : downs n n = downs hs.length hs.length := by rw [← HN.out]
    rw [hdn] at hS
    obtain ⟨E1, hE1⟩ : ∃ E1, (stF hs (List.replicate n [], List.replicate 8 0) (downs hs.length hs.length)).1 = E1 := ⟨_, rfl⟩
    rw [show stF hs (List.replicate n [], List.replicate 8 0) (downs hs.length hs.length) = (E1, nearL hs hs.length (fun l => firstF hs 0 l 0)) from Prod.ext hE1 h14.2] at hS
    have HEL : Hid (E1.length = hs.length) := Lib.hid (by rw [← hE1]; exact h14.1)
    have HL1 := Lib.hid hS
    have hs0 : G + 3 ≤ WB.heap.size := by have := hX.size; have := HZ1.out; omega
    have HD1 : Hid (V1.heap.size ≤ D1 ∧ D1 < WB.heap.size ∧ WB.heap[D1]? = some (.deferred (some []))) := Lib.hid ⟨hD, (Array.getElem?_eq_some_iff.1 hK).1, hK⟩
    clear h14 hdn hE1 hS hX hK hD
    go_wp2_with fail
    rw [rounds_succ]
    go_wp2_with fail
    refine (back0_any A n c WB).mono ?_
    rintro ed w1 ⟨rfl, rfl⟩
    go_wp2_with fail
    have c0 : (WB.alloc (.cells #[.slice A n c] 22)).cell? ⟨WB.heap.size, 0, none⟩ = some (.slice A n c) := by go_simp
    have hz2 : (WB.alloc (.cells #[.slice A n c] 22)).heap.size = WB.heap.size + 1 := by simp
    have hEA : Ext WB (WB.alloc (.cells #[.slice A n c] 22)) := (Ext.refl _).alloc _
    obtain ⟨V2, hW1⟩ : ∃ W1, WB.alloc (.cells #[.slice A n c] 22) = W1 := ⟨_, rfl⟩
    rw [hW1] at c0 hz2 hEA ⊢
    have HXA2 : Hid (Ext w V2) := Lib.hid (HX1.out.trans hEA)
    have HE2 := Lib.hid hEA
    have HQ2 : Hid (V2.cell? ⟨G + 1, 0, none⟩ = some (.slice (some ⟨G, 0, none⟩) n n)) := Lib.hid (hEA.cell q3)
    have HLA2 : Hid (LkSt G G (G + 1 + 1) n (E1, nearL hs hs.length (fun l => firstF hs 0 l 0)) V2) := Lib.hid (HL1.out.ext hEA)
    have HZ2 : Hid (V2.heap.size = WB.heap.size + 1 ∧ G + 3 ≤ WB.heap.size) := Lib.hid ⟨hz2, hs0⟩
    clear hW1 hEA q3 hz2 hs0
    have hfar : ∀ a, A = some a → a.block < V2.heap.size ∧ a.block ≠ G ∧ a.block ≠ G + 1 + 1 := fun a ha => by
      have h1 := HAB.out a ha
      have h2 := HG.out
      have h3 := HZ2.out
      refine ⟨by omega, by omega, by omega⟩
    refine range_back 5 6 G (G + 1 + 1) n WB.heap.size c hs A (fun pre W => LkSt G G (G + 1 + 1) n (stF hs (E1, nearL hs hs.length (fun l => firstF hs 0 l 0)) pre) W) rfl HN.out ⟨by have := HZ2.out; omega, by have := HZ2.out; omega⟩ c0 (HA.out.ext HXA2.out) hfar HLA2.out.lt (fun pre Wa Wb row h9 hg hr => h9.keptN hg (fun r e => (hr r e).2)) HLA2.out ?assign2 ?body2 ?done2
    case assign2 =>
      intro l9 u x W K hK
      simp only [List.setIfInBounds_toArray, List.set_cons_succ, List.set_cons_zero]
      gi_wp2
      simpa [backAct] using hK
    case body2 =>
      intro l9 pre u W hu hlen hS hX
      have q3 := hX.cell HQ2.out (by have := HZ2.out; show G + 1 < _; omega) (by show G + 1 ≠ _; omega) (by show G + 1 ≠ _; omega)
      obtain ⟨h1, h8⟩ := HH.out u hu
      obtain ⟨z, hz⟩ : ∃ z : Nat, hs.getD u 0 = (z : Int) := ⟨(hs.getD u 0).toNat, by omega⟩
      have hsn : stF hs (E1, nearL hs hs.length (fun l => firstF hs 0 l 0)) (pre ++ [u]) = ((stF hs (E1, nearL hs hs.length (fun l => firstF hs 0 l 0)) pre).1.set u ((stF hs (E1, nearL hs hs.length (fun l => firstF hs 0 l 0)) pre).2.take z), midN (stF hs (E1, nearL hs hs.length (fun l => firstF hs 0 l 0)) pre).2 u z) := by rw [stF_snoc, hz, Int.toNat_natCast]
      rw [hz] at h1 h8 ⊢
      obtain ⟨s, hs9⟩ : ∃ s, stF hs (E1, nearL hs hs.length (fun l => firstF hs 0 l 0)) pre = s := ⟨_, rfl⟩
      rw [hs9] at hsn
      simp only [hs9] at hS
      simp only [hsn]
      have hYl : (s.2.take z).length = z := by rw [List.length_take, hS.xl]; omega
      have HR0 := hS.rd z (by omega)
      obtain ⟨Y, hY⟩ : ∃ Y, s.2.take z = Y := ⟨_, rfl⟩
      rw [hY] at hYl HR0
      have HR := Lib.hid HR0
      have HYL : Hid (Y.length ≤ 1048576) := Lib.hid (by omega)
      have HYZ := Lib.hid hYl
      have HY := Lib.hid hY
      have HS := Lib.hid hS
      have HX := Lib.hid hX
      have HU := Lib.hid hu
      have hu0 : (0 : Int) ≤ u := by omega
      have hu1 : (u : Int) < n := by omega
      have hz0 : (0 : Int) ≤ z := by omega
      have hd1 : decide ((u : Int) < 0) = false := decide_eq_false (by omega)
      have hd2 : decide ((n : Int) ≤ (u : Int)) = false := decide_eq_false (by omega)
      have HU9 : Hid (in64 (u : Int)) := Lib.hid (in64_nat u (by omega))
      have HNW : Hid (V2.heap.size ≤ W.heap.size) := Lib.hid hX.size
      clear hsn hs9 hYl hY HR0 hS hX c0 hz hlen
      simp only [backAct, List.setIfInBounds_toArray, List.set_cons_succ, List.set_cons_zero]
      gi_wp2
      refine Mono.round_region_mono 6 (LkV W u z G (G + 1 + 1) n Y) (by kernel_rfl) (by rintro ⟨a, w, h9⟩; exact h9) (by kernel_rfl) (by kernel_rfl) (LkV_ext W u z G (G + 1 + 1) n Y) ?_ ?_
      · intro i o hi ho vals w5 hE hcl
        have hi' : i = 0 ∨ i = 1 ∨ i = 2 ∨ i = 3 ∨ i = 4 ∨ i = 5 := by omega
        rcases hi' with rfl | rfl | rfl | rfl | rfl | rfl
        · simp only [List.getElem?_cons_succ, List.getElem?_cons_zero, Option.some.injEq] at ho
          subst ho
          rw [if_pos (Mono.wanted_none rfl)]
          have k1 := hE.cell q3
          clear hcl
          refine Mono.yields_same (.slice (some ⟨G, 0, none⟩) n n) w5 ?_ ⟨Ext.refl _, LkV_i0 _ _ _ _ _ _ _ _ _ _ rfl⟩
          simp only [Mono.all, List.take, Act.put]
          go_simp
        · simp only [List.getElem?_cons_succ, List.getElem?_cons_zero, Option.some.injEq] at ho
          subst ho
          rw [if_pos (Mono.wanted_none rfl)]
          clear hcl
          refine Mono.yields_same (.int .i64 u) w5 ?_ ⟨Ext.refl _, LkV_i1 _ _ _ _ _ _ _ _ _ _ rfl⟩
          simp only [Mono.all, List.take, Act.put]
          go_simp
        · simp only [List.getElem?_cons_succ, List.getElem?_cons_zero, Option.some.injEq] at ho
          subst ho
          rw [if_pos (Mono.wanted_none rfl)]
          clear hcl
          refine Mono.yields_same (.int .i64 z) w5 ?_ ⟨Ext.refl _, LkV_i2 _ _ _ _ _ _ _ _ _ _ rfl⟩
          simp only [Mono.all, List.take, Act.put]
          go_simp
        · simp only [List.getElem?_cons_succ, List.getElem?_cons_zero, Option.some.injEq] at ho
          subst ho
          rw [if_pos (Mono.wanted_none rfl)]
          have h2 : vals 2 = .int .i64 z := LkV_e2 _ _ _ _ _ _ _ _ _ _ (hcl 2 (by kernel_rfl))
          clear hcl
          refine Mono.yields_same (.slice (some ⟨G + 1 + 1, 0, none⟩) z 8) w5 ?_ ⟨Ext.refl _, LkV_i3 _ _ _ _ _ _ _ _ _ _ rfl⟩
          simp only [Mono.all, List.take, Act.put]
          go_simp
        · simp only [List.getElem?_cons_succ, List.getElem?_cons_zero, Option.some.injEq] at ho
          subst ho
          rw [if_pos (Mono.wanted_none rfl)]
          have h3 : vals 3 = .slice (some ⟨G + 1 + 1, 0, none⟩) z 8 := (LkV_e3 _ _ _ _ _ _ _ _ _ _ (hcl 3 (by kernel_rfl)))
          clear hcl
          refine Mono.yields_call 21 #[.slice (some ⟨G + 1 + 1, 0, none⟩) z 8] w5 ?_ ((cloneI _ Y w5 (HR.out.ext hE) HYL.out).mono ?_)
          · simp only [Mono.all, List.take, Act.put]
            go_simp
          · rintro ed w6 ⟨A1, c1, rfl, o1, hE6⟩
            exact ⟨_, rfl, hE6, LkV_i4 _ _ _ _ _ _ _ _ _ _ ⟨A1, c1, rfl, o1.mono hE.size⟩⟩
        · simp only [List.getElem?_cons_succ, List.getElem?_cons_zero, Option.some.injEq] at ho
          subst ho
          rw [if_pos (Mono.wanted_none rfl)]
          have h0 : vals 0 = .slice (some ⟨G, 0, none⟩) n n := LkV_e0 _ _ _ _ _ _ _ _ _ _ (hcl 0 (by kernel_rfl))
          have h1 : vals 1 = .int .i64 u := LkV_e1 _ _ _ _ _ _ _ _ _ _ (hcl 1 (by kernel_rfl))
          clear hcl
          refine Mono.yields_same (.pointer (some ⟨G, u, none⟩)) w5 ?_ ⟨Ext.refl _, LkV_i5 _ _ _ _ _ _ _ _ _ _ rfl⟩
          simp only [Mono.all, List.take, Act.put]
          go_simp
      · intro vals w5 hE hv
        obtain ⟨A4, c4, e4, o4⟩ := (LkV_e4 _ _ _ _ _ _ _ _ _ _ (hv 4 (by omega)))
        have e5 := LkV_e5 _ _ _ _ _ _ _ _ _ _ (hv 5 (by omega))
        have hS5 := HS.out.ext hE
        obtain ⟨⟨v0, k0⟩, kf⟩ := hS5.rowAt u HU.out
        have hS6 := hS5.setRow HU.out A4 Y.length c4 Y (o4.mono (by have := HS.out.rows.lt G rfl; omega))
        have hk6 : KeepsOff V2.heap.size G (G + 1 + 1) W (w5.setCell ⟨G, u, none⟩ (.slice A4 Y.length c4)) := (KeepsOff.ofExt HNW.out hE).trans (KeepsOff.set (p := ⟨G, u, none⟩) (.inl rfl) _)
        have hf6 : KeepsFrom V2.heap.size W (w5.setCell ⟨G, u, none⟩ (.slice A4 Y.length c4)) := (hE.others.trans (KeepsOthers.setCell _ _ _)).from _
        have H6 := Lib.hid (And.intro hS6 (And.intro hk6 hf6))
        clear hv hS5 hS6 hk6 hf6 o4 q3
        simp only [Mono.all, List.take, List.drop, Act.put]
        rw [e5, e4]
        go_wp2_with fail
        obtain ⟨w6, hw6⟩ : ∃ w6, w5.setCell ⟨G, u, none⟩ (.slice A4 Y.length c4) = w6 := ⟨_, rfl⟩
        rw [hw6] at H6 ⊢
        clear hw6 k0 kf hE e4 e5
        gi_wp2
        gi_loopw [24] (fun i wr => ∃ j : Nat, j ≤ z ∧ i = .int .i64 j ∧ LkSt G G (G + 1 + 1) n (s.1.set u Y, midN s.2 u j) wr ∧ KeepsOff V2.heap.size G (G + 1 + 1) W wr ∧ KeepsFrom V2.heap.size W wr) (fun i _ => z - (intOf i).toNat)
        case atStart => exact ⟨0, Nat.zero_le _, rfl, by rw [midN_zero]; exact H6.out.1, H6.out.2.1, H6.out.2.2⟩
        case round =>
          obtain ⟨j, hj, rfl, hL, hK1, hK2⟩ := hrel
          have hj0 : (0 : Int) ≤ j := by omega
          by_cases hlt : j < z
          · have hlt' : (j : Int) < z := by omega
            have hj8 : (j : Int) < 8 := by omega
            have zc := hL.cell j (by omega)
            have zf := hL.free
            have hset := hL.setNear (j := j) (u : Int) HU9.out
            simp only [midN_set s.2 (u : Int) j (by rw [HS.out.xl]; omega)] at hset
            have H7 := Lib.hid (And.intro hset (And.intro (hK1.trans (KeepsOff.set (p := ⟨G + 1 + 1, j, none⟩) (.inr rfl) (.int .i64 u))) (hK2.trans ((KeepsOthers.setCell wr ⟨G + 1 + 1, j, none⟩ (.int .i64 u)).from _))))
            clear hset hL hK1 hK2
            gi_wp2
            go_roundw
            case rel => exact ⟨j + 1, by omega, by go_num, H7.out.1, H7.out.2.1, H7.out.2.2⟩
            case measure => simp [intOf]; omega
          · obtain rfl : j = z := by omega
            have H7 := Lib.hid (And.intro hK2 (And.intro hK1 hL))
            clear hL hK1 hK2
            gi_wp2
            rw [HY.out]
            exact H7.out
    case done2 =>
      intro D2 W2 hD hS hX hK
      have q3 := hX.cell HQ2.out (by have := HZ2.out; show G + 1 < _; omega) (by show G + 1 ≠ _; omega) (by show G + 1 ≠ _; omega)
      have h14 := stF_twice hs E1 HEL.out (fun j hj => HH.out j (by rw [HN.out]; exact hj))
      have hdn : downs n n = downs hs.length hs.length := by rw [← HN.out]
      rw [hdn] at hS
      have hR := hS.rows
      rw [h14] at hR
      have hK1 : W2.heap[D1]? = some (.deferred (some [])) := by
        have h1 := HD1.out
        have h2 := HZ1.out
        have h3 := HZ2.out
        rw [hX.block D1 (by omega) (by omega) (by omega), HE2.out.block D1 h1.2.1]
        exact h1.2.2
      have HF : Hid (Oww w.heap.size W2 (.slice (some ⟨G, 0, none⟩) n n) ((List.range hs.length).map (nextsP hs)) ∧ LkSt G G (G + 1 + 1) n (stF hs (E1, nearL hs hs.length (fun l => firstF hs 0 l 0)) (downs hs.length hs.length)) W2 ∧ Ext w W2 ∧ V1.heap.size ≤ D1 ∧ V2.heap.size ≤ D2 ∧ D1 < W2.heap.size ∧ D1 < V2.heap.size ∧ w.heap.size < V1.heap.size) :=
        Lib.hid ⟨by rw [HG.out]; exact hR, hS, hX.ext HXA2.out (by have := HG.out; have := HZ2.out; omega) (by have := HG.out; omega) (by have := HG.out; omega), HD1.out.1, hD, (Array.getElem?_eq_some_iff.1 hK1).1, by have := HD1.out; have := HE2.out.size; omega, by have := HG.out; have := HZ1.out; omega⟩
      clear h14 hdn hR hS hX hD
      go_wp2_with fail
      rw [rounds_succ]
      go_wp2_with fail
      obtain ⟨f1, f2, f3, f4, f5, f6, f7, f8⟩ := HF.out
      refine ⟨by simp, .inl ⟨_, _, rfl, run_takeDeferred hK, by simp, .inl ⟨_, _, rfl, run_takeDeferred (b := D1) ((World.putObj_heap_other (by omega)).trans hK1), ?_⟩⟩⟩
      refine ⟨.slice (some ⟨G, 0, none⟩) n n, by simp [results, Tryd.results22, go_sem], some ⟨G, 0, none⟩, n, rfl, ?_, ?_⟩
      · obtain ⟨a, b1, b2, b3⟩ := f1
        have g1 := grownBy_putObj' W2 D2 (.deferred none)
        have r1 : ∀ r, some D2 = some r → ∃ o : Obj, W2.heap[r]? = some o ∧ o.isCells = false := fun r e => by cases e; exact ⟨_, hK, rfl⟩
        have g2 := grownBy_putObj' (W2.putObj D2 (.deferred none)) D1 (.deferred none)
        have r2 : ∀ r, some D1 = some r → ∃ o : Obj, (W2.putObj D2 (.deferred none)).heap[r]? = some o ∧ o.isCells = false := fun r e => by cases e; exact ⟨_, (World.putObj_heap_other (by omega)).trans hK1, rfl⟩
        exact ⟨a, (b1.keptN g1 r1).keptN g2 r2, b2, fun j hj => ((b3 j hj).keptN g1 r1).keptN g2 r2⟩
      · exact (f3.grown (grownBy_putObj' W2 D2 _) (fun r e => by cases e; omega)).grown (grownBy_putObj' _ D1 _) (fun r e => by cases e; omega)
end Go.Proofs.YtfkidgpjejcblaaDoor

/- The document's Level (ref14). -/
namespace Go.Proofs.YtfkidgpjejcblaaDoor
open Go.BigFrame
open Go.RowKit Go.Proofs.YtfkidgpjejcblaaDoor.Plain

/-- the places above, of the first ones -/
def Plain.levelK (hs : List Int) (level : Int) (k : Nat) : List Int := ((List.range k).filter (fun i => decide (level < hs.getD i 0))).map (fun i : Nat => (i : Int))
theorem Plain.levelK_succ (hs : List Int) (level : Int) (k : Nat) : levelK hs level (k + 1) = levelK hs level k ++ (if level < hs.getD k 0 then [(k : Int)] else []) := by
  unfold levelK
  rw [List.range_succ, List.filter_append, List.map_append]
  by_cases h : level < hs.getD k 0
  · rw [if_pos h, List.filter_cons, if_pos (decide_eq_true h)]; rfl
  · rw [if_neg h, List.filter_cons, if_neg (by rw [decide_eq_true_eq]; exact h)]; rfl
theorem Plain.levelK_len (hs : List Int) (level : Int) (k : Nat) : (levelK hs level k).length ≤ k := by
  unfold levelK
  rw [List.length_map]
  exact Nat.le_trans (List.length_filter_le _ _) (by rw [List.length_range]; exact Nat.le_refl _)
end Go.Proofs.YtfkidgpjejcblaaDoor

/- The document's Walk (ref14). -/
namespace Go.Proofs.YtfkidgpjejcblaaDoor
open Go.BigFrame
open Go.RowKit Go.Proofs.YtfkidgpjejcblaaDoor.Plain

/-- what of a walk is still to come -/
def Plain.tailF (hs : List Int) (most : Int) (m i : Nat) : List Int := (walkF hs most m i).tail
theorem Plain.walkF_cons (hs : List Int) (most : Int) (m i : Nat) : walkF hs most m i = (i : Int) :: tailF hs most m i := by
  unfold tailF
  cases m <;> rfl
theorem Plain.tail_done {hs : List Int} {most : Int} {i : Nat} (m : Nat) (h : ¬ hs.getD i 0 < most) : tailF hs most m i = [] := by
  unfold tailF
  cases m with
  | zero => rfl
  | succ m => unfold walkF; rw [if_neg h]; rfl
theorem Plain.tail_go {hs : List Int} {most : Int} {i : Nat} (m : Nat) (h : hs.getD i 0 < most) : tailF hs most (m + 1) i = (nextP hs i ((hs.getD i 0).toNat - 1) : Int) :: tailF hs most m (nextP hs i ((hs.getD i 0).toNat - 1)) := by
  rw [← walkF_cons]
  show (walkF hs most (m + 1) i).tail = _
  rw [show walkF hs most (m + 1) i = (i : Int) :: (if hs.getD i 0 < most then walkF hs most m (nextP hs i ((hs.getD i 0).toNat - 1)) else []) from rfl, if_pos h]; rfl
end Go.Proofs.YtfkidgpjejcblaaDoor

/- The document's Great (ref14): it answers, and does nothing else (its sums may wrap, so nothing is said of sizes). -/
namespace Go.Proofs.YtfkidgpjejcblaaDoor
open Go.BigFrame
open Go.RowKit Go.Proofs.YtfkidgpjejcblaaDoor.Plain

end Go.Proofs.YtfkidgpjejcblaaDoor
