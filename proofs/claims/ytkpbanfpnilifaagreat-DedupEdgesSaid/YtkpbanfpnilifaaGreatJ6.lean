/- Joined by wip/merge.py: RoundR, S8I, S8K, S8D, S8E, D6A, DrS, D6B, D6C, D6D, F7C, F7D, F7P, F7E, F7G, F7S, S8W, S8U, S8V, S8X, R10X, P9S, P9T, P9C, P9D, R11F, R11H, R11W, R11X, Lit, R11B. -/
import Derived.Test.YtkpbanfpnilifaaGreatJ5
import Derived.StillTailTactics
import Derived.RangeFuncNested
import Derived.RangeFuncBound
import Derived.RangeFuncCalls
import Derived.RangeFuncLeaves
import Derived.OwnWalkIn
import Derived.TacticsInMore
import Derived.LoopNIn
import Derived.LoopIn
import Derived.OrdersIn
import Derived.Shelf.Abstract
import Derived.Laws.EntriesVeiled
import Derived.BigRegion
import Derived.Deep.DeepCutAuto
set_option linter.unusedVariables false
set_option linter.unusedSimpArgs false
set_option linter.unnecessarySimpa false
/- A region that draws its order, in the body of a range over a function (at the wide fence): by the plain law 'still, then a tail'. -/
namespace Go.Proofs.YtkpbanfpnilifaaGreat
open Go.RowKit

/-- no statement 'defer' -/
def NoDefer (o : Oper) : Bool := match o.op with | .defer _ => false | _ => true
theorem NoDefer.ne {o : Oper} (h : NoDefer o = true) : ∀ c, o.op ≠ .defer c := fun c e => by simp [NoDefer, e] at h

/-- what may be done of an operation outside may be done in a round -/
theorem round_op {P : Program} {Q : Exit → Act → World → Prop} {l n : Nat} {o : Oper} {a : Act} {w : World} {K K' : Act → World → Prop} (ho : NoDefer o = true) (hK : ∀ a w, K a w → K' a w) (h : o.wp P a w K Q) :
    o.wpIn (Fence.wide.inRound l) n P a w K' Q := by
  refine ⟨fun _ _ => trivial, ?_⟩
  rw [Oper.semAt_eq _ _ _ (NoDefer.ne ho)]
  unfold Oper.wp at h
  generalize (execOp a.eval o).run P w = r at *
  cases r with
  | ok x w' =>
    cases x with
    | value v => exact hK _ _ h
    | skip => exact hK _ _ h
    | defer d => exact hK _ _ h
    | enter f args =>
      refine ⟨fun e => by simp [Fence.wide] at e, ?_⟩
      refine CallsIn.inRound l (callsIn_wide.2 (Calls.mono h fun e w'' he => ?_))
      cases e <;> first | exact hK _ _ he | exact he
    | row row args =>
      refine ⟨fun e => by simp [Fence.wide] at e, fun c cs _ => ?_⟩
      obtain ⟨v, w'', r, s⟩ := h c cs
      exact ⟨v, w'', hK _ _ r, stepsIn_wide.2 s⟩
    | _ => exact h.elim
  | halt x w' => cases x <;> first | exact h | exact h.elim
theorem round_wpOp {P : Program} {Q : Exit → Act → World → Prop} {l n : Nat} {ops : Array Oper} (hnd : ops.all NoDefer = true) (hQ : ¬ LetsOut Q) {i : Nat} {K K' : Act → World → Prop} {a : Act} {w : World} (hK : ∀ a w, K a w → K' a w) (h : wpOp P ops Q i K a w) :
    wpOpIn (Fence.wide.inRound l) n P ops Q i K' a w := by
  unfold wpOp at h
  unfold wpOpIn
  cases ho : ops[i]? with
  | none => rw [ho] at h; exact hK _ _ h
  | some o =>
    rw [ho] at h
    have hd : NoDefer o = true := by
      obtain ⟨hi, rfl⟩ := Array.getElem?_eq_some_iff.1 ho
      exact Array.all_eq_true.1 hnd i hi
    by_cases hw : Region.wanted o (yielded ops a.tmps) = true
    · simp only [hw, if_true] at h ⊢
      rcases h with h | h
      · exact round_op hd hK h
      · exact absurd h.2 hQ
    · simp only [hw] at h ⊢
      exact ⟨fun _ _ => trivial, hK _ _ h⟩
theorem round_any {P : Program} {Q : Exit → Act → World → Prop} {l n : Nat} {md : Region.Mode} {ops : Array Oper} (hnd : ops.all NoDefer = true) (hQ : ¬ LetsOut Q) : ∀ (fuel : Nat) (listed : Array Bool) (a : Act) (w : World),
    wpAny P md ops Q fuel listed a w → wpAnyIn (Fence.wide.inRound l) n P md ops Q fuel listed a w := by
  intro fuel
  induction fuel with
  | zero => intro listed a w h; exact h
  | succ fuel ih => exact fun listed a w h => ⟨h.1, fun i hi => round_wpOp hnd hQ (fun a w => ih _ a w) (h.2 i hi)⟩
/-- nothing is listed at the start -/
theorem headInv_start {md : Region.Mode} {ops : Array Oper} (n : Nat) : HeadInv md ops n (Array.replicate ops.size false) :=
  ⟨by simp, fun j _ _ hl => absurd hl (by rw [getD_replicate_false]; decide), fun t _ ht => getD_in (by simpa using ht) (getD_replicate_false _ _)⟩
/-- a region, all but a tail of which leaves the world as it is, in a round -/
theorem round_still_tail {P : Program} {Q : Exit → Act → World → Prop} {id l m : Nat} {a : Act} {w : World} {ops : List Oper} (hQ : ¬ LetsOut Q) (n : Nat) (hm : P.follows .mixedOrders = true) (hnd : ops.toArray.all NoDefer = true) (hB : Region.lexTailB .any ops.toArray n = true)
    (h : wpStill P ops.toArray w.drew (fun a' => wpList P ops.toArray Q (ops.drop n) a' w.drew) (ops.take n) a) : (Code.region id ops.toArray true).wpIn (Fence.wide.inRound l) m P Q a w := by
  refine wpIn_region_any hm (round_any hnd hQ _ _ _ _ ?_)
  simp only [Region.lexTailB, Bool.and_eq_true, decide_eq_true_eq] at hB
  obtain ⟨⟨⟨⟨h1, h2⟩, h3⟩, h4⟩, h5⟩ := hB
  have hs : ops.toArray.size = ops.length := by simp
  have ht : (ops.take n).length = n := by rw [List.length_take]; omega
  have hd : (ops.drop n).length = ops.toArray.size - n := by rw [List.length_drop, hs]
  have hat : ∀ j, j < (ops.take n).length → (ops.take n)[j]? = ops.toArray[0 + j]? := fun j hj => by rw [ht] at hj; simp [hj]
  have H := wpAnyL_lex (md := .any) (g := ops.toArray.size - n) h1 h3 h4 h2 (ops.take n) 0 _ a hat (by rw [Nat.zero_add]; exact ht) (headInv_start n) (by rw [ht]; exact h5) h
  have H2 := wpAny_of_head (Q' := Q) (g := ops.toArray.size - n) (fun listed a' hL => by
    rw [← hd]
    exact wpAny_of_seq (ops.drop n) n listed a' _ (fun j => by rw [List.getElem?_drop]; simp) (by rw [hd]; exact hL.1) hL.2) _ _ _ H
  rw [ht, show n + (ops.toArray.size - n) = ops.toArray.size by omega] at H2
  exact H2
end Go.Proofs.YtkpbanfpnilifaaGreat

/- The program's iterator over blocks (scan): a range over a function: what a round keeps, the maker, the contract. -/
namespace Go.Proofs.YtkpbanfpnilifaaGreat
open Go.BigFrame
open Go.RowKit Go.Proofs.YtkpbanfpnilifaaGreat.Plain

attribute [local go_sem] Oper.semAt_some

/-- what a round keeps: all blocks below N, but G -/
structure KeepsBut (N G : Nat) (W W' : World) : Prop where
  os : W'.os = W.os
  tape : W'.tape = W.tape
  output : W'.output = W.output
  size : W.heap.size ≤ W'.heap.size
  block : ∀ b, b < N → b ≠ G → W'.heap[b]? = W.heap[b]?
theorem KeepsBut.refl (N G : Nat) (W : World) : KeepsBut N G W W := ⟨rfl, rfl, rfl, Nat.le_refl _, fun _ _ _ => rfl⟩
theorem KeepsBut.trans {N G : Nat} {A B C : World} (h : KeepsBut N G A B) (k : KeepsBut N G B C) : KeepsBut N G A C :=
  ⟨k.os.trans h.os, k.tape.trans h.tape, k.output.trans h.output, Nat.le_trans h.size k.size, fun b hb hg => (k.block b hb hg).trans (h.block b hb hg)⟩
theorem KeepsBut.grown {N G : Nat} {W W' : World} {row : Option Nat} (hN : N ≤ W.heap.size) (hg : W.grownBy W' row) (hr : ∀ r, row = some r → N ≤ r ∨ r = G) : KeepsBut N G W W' :=
  ⟨hg.os, hg.tape, hg.output, hg.size, fun b hb hG => hg.block b (by omega) (fun e => by rcases hr b e.symm with h | h <;> omega)⟩
theorem KeepsBut.below {N G : Nat} {W W' : World} (h : Below N W W') : KeepsBut N G W W' := ⟨h.os, h.tape, h.output, h.size, fun b hb _ => h.block b hb⟩
theorem KeepsBut.ext {N G : Nat} {w W W' : World} (hE : Ext w W) (h : KeepsBut N G W W') (hN : w.heap.size ≤ N) (hG : w.heap.size ≤ G) : Ext w W' :=
  ⟨h.os.trans hE.os, h.tape.trans hE.tape, h.output.trans hE.output, Nat.le_trans hE.size h.size, fun b hb => (h.block b (by omega) (by omega)).trans (hE.block b hb)⟩
theorem cell_of_heap {W W' : World} {a : Addr} {v : Value} (h : W'.heap[a.block]? = W.heap[a.block]?) (hc : W.cell? a = some v) : W'.cell? a = some v := by
  rw [← hc]
  unfold World.cell?
  rw [h]
theorem KeepsBut.cell {N G : Nat} {W W' : World} (h : KeepsBut N G W W') {a : Addr} {v : Value} (hc : W.cell? a = some v) (hb : a.block < N) (hG : a.block ≠ G) : W'.cell? a = some v :=
  cell_of_heap (h.block _ hb hG) hc
theorem KeepsBut.rd {α : Type} {K : Kd α} {N G : Nat} {W W' : World} (h : KeepsBut N G W W') {A : Option Addr} {n c : Nat} {xs : List α} (hr : Rd K W (.slice A n c) xs) (hb : ∀ a, A = some a → a.block < N ∧ a.block ≠ G) : Rd K W' (.slice A n c) xs := by
  obtain ⟨h1, h2, A', cap, hv, hcap, h3⟩ := hr
  cases hv
  refine ⟨h1, h2, A, c, rfl, hcap, fun hl => ?_⟩
  obtain ⟨b, off, rfl, hcc⟩ := h3 hl
  exact ⟨b, off, rfl, fun j hj i u hu => h.cell (hcc j hj i u hu) (hb _ rfl).1 (hb _ rfl).2⟩

set_option maxHeartbeats 400000 in
theorem sblocks0_any (Ao : Option Addr) (k co n : Nat) (bI : Int) (w : World) :
    Calls Tryz.prog 54 #[.slice Ao k co, .int .i64 n, .int .i64 bI] w fun ed w' =>
      ed = .returned (.func (.func 64) #[] #[.pointer (some ⟨w.heap.size, 0, none⟩), .pointer (some ⟨w.heap.size + 1 + 1, 0, none⟩), .pointer (some ⟨w.heap.size + 1, 0, none⟩)]) ∧
      w' = ((w.alloc (.cells #[.slice Ao k co] 29)).alloc (.cells #[.int .i64 n] 3)).alloc (.cells #[.int .i64 bI] 3) := by
  have hmf : ∀ (fn : Fn) (first cap : Array Value) (w : World), (Instr.makeFunc fn first cap).run Tryz.prog w = .ok (.func fn first cap) w := fun _ _ _ _ => rfl
  go_enter Tryz.func54, Tryz.ntmps54
  go_wp2_with fail
  go_ret
  exact ⟨rfl, rfl⟩

/-- what comes of a block: its number, its span -/
def spanV (n B u : Nat) : Array Value := #[.int .i64 u, .agg #[.int .i64 (u * B : Nat), .int .i64 (min ((u + 1) * B) n : Nat)]]
set_option maxHeartbeats 2000000 in
set_option maxRecDepth 100000 in
theorem siter_in (l k n B N G b0 b1 b2 co : Nat) (bI : Int) (os : List Nat) (Ao : Option Addr) (J Jx : List (Fin k) → World → Prop) (hn : n ≤ 1000) (hB : B ≤ 100) (hk : k ≤ 1000) (hos : ∀ u ∈ os, u < k)
    (hY : ∀ pre x W1, J pre W1 → pre.length < os.length → YieldAt Fence.wide 0 Tryz.prog l (spanV n B x.1) W1 fun e W' =>
      (e = .returned (.bool true) ∧ J (pre ++ [x]) W' ∧ KeepsBut N G W1 W') ∨ (e = .returned (.bool false) ∧ Jx (pre ++ [x]) W'))
    (W : World) (hb0 : b0 < N ∧ b0 ≠ G) (hb1 : b1 < N ∧ b1 ≠ G) (hb2 : b2 < N ∧ b2 ≠ G) (c0 : W.cell? ⟨b0, 0, none⟩ = some (.slice Ao os.length co)) (c1 : W.cell? ⟨b1, 0, none⟩ = some (.int .i64 bI)) (hbI : os ≠ [] → bI = B) (c2 : W.cell? ⟨b2, 0, none⟩ = some (.int .i64 n))
    (hA : Rd kInt W (.slice Ao os.length co) (zs os)) (hfar : ∀ a, Ao = some a → a.block < N ∧ a.block ≠ G) (h0 : J [] W) :
    CallsIn Fence.wide 1 Tryz.prog 64 #[.func (.yield l) #[] #[], .pointer (some ⟨b0, 0, none⟩), .pointer (some ⟨b1, 0, none⟩), .pointer (some ⟨b2, 0, none⟩)] W fun e W' => (∃ v, e = .returned v) ∧
      ((∃ ys : List (Fin k), ys.map Fin.val = os ∧ J ys W') ∨ (∃ pre, True ∧ Jx pre W')) := by
  have HA := Lib.hid hA
  have HFAR := Lib.hid hfar
  have HOS := Lib.hid hos
  have HY := Lib.hid hY
  have HJ0 := Lib.hid h0
  have HBI := Lib.hid hbI
  have HCS := Lib.hid (And.intro c0 (And.intro c1 c2))
  have HNB := Lib.hid (And.intro hb0 (And.intro hb1 hb2))
  have hol : (os.length : Int) ≤ 9223372036854775807 := by have := hA.1; rw [zs_len] at this; unfold maxLen at this; omega
  clear hA hfar hos hY h0 hb0 hb1 hb2 hbI
  refine callsIn_of_wp Tryz.func64 rfl trivial ?_ rfl
  simp only [Tryz.ntmps64, List.size_toArray, List.length_cons, List.length_nil, Nat.reduceAdd, Nat.reduceSub, Array.replicate_succ, Array.replicate_zero, List.push_toArray, List.append_toArray, List.nil_append, List.cons_append]
  gi_wp2
  gi_loopw [9] (fun i wr => ∃ (j : Nat) (pre : List (Fin k)), j ≤ os.length ∧ i = .int .i64 j ∧ pre.map Fin.val = os.take j ∧ J pre wr ∧ KeepsBut N G W wr) (fun i _ => os.length - (intOf i).toNat)
  case atStart => exact ⟨0, [], Nat.zero_le _, rfl, by simp, HJ0.out, KeepsBut.refl _ _ _⟩
  case round =>
    obtain ⟨j, pre, hj, rfl, hpre, hJ, hX⟩ := hrel
    have HX := Lib.hid hX
    have HPRE := Lib.hid hpre
    have HJ := Lib.hid hJ
    have hj0 : (0 : Int) ≤ j := by omega
    have q1 := hX.cell HCS.out.2.1 HNB.out.2.1.1 HNB.out.2.1.2
    have q2 := hX.cell HCS.out.2.2 HNB.out.2.2.1 HNB.out.2.2.2
    clear hX hpre hJ c0 c1 c2
    by_cases hlt : j < os.length
    · have hlt' : (j : Int) < os.length := by omega
      rw [HBI.out (by intro e; rw [e] at hlt; simp at hlt)] at q1
      obtain ⟨bo, oo, rfl, hco⟩ := (ints_of_rd (HX.out.rd HA.out HFAR.out)).cells (by rw [zs_len]; omega)
      have z0 := hco j (by rw [zs_len]; exact hlt)
      rw [zs_getD] at z0
      have hmem : os.getD j 0 ∈ os := by rw [List.getD_eq_getElem?_getD, List.getElem?_eq_getElem hlt]; exact List.getElem_mem hlt
      have hun := HOS.out _ hmem
      have hpl : pre.length = j := by have := congrArg List.length HPRE.out; rw [List.length_map, List.length_take] at this; omega
      have htk : os.take (j + 1) = os.take j ++ [os.getD j 0] := takeN_snoc hlt
      obtain ⟨fn, tmps, assign, body, hy, hR⟩ := HY.out pre ⟨os.getD j 0, hun⟩ wr HJ.out (by omega)
      have hnext : (pre ++ [(⟨os.getD j 0, hun⟩ : Fin k)]).map Fin.val = os.take (j + 1) := by rw [List.map_append, HPRE.out, htk]; rfl
      have HNEXT := Lib.hid hnext
      unfold spanV at hy
      dsimp only at hy
      have hub : os.getD j 0 * B ≤ 1000 * 100 := Nat.mul_le_mul (by omega) hB
      have hub2 : (os.getD j 0 + 1) * B ≤ 1000 * 100 := Nat.mul_le_mul (by omega) hB
      have e1 : ((os.getD j 0 : Nat) : Int) * (B : Int) = ((os.getD j 0 * B : Nat) : Int) := by simp
      have e2 : (((os.getD j 0 : Nat) : Int) + 1) * (B : Int) = (((os.getD j 0 + 1) * B : Nat) : Int) := by simp
      obtain ⟨p, hp⟩ : ∃ p, os.getD j 0 * B = p := ⟨_, rfl⟩
      obtain ⟨q, hq⟩ : ∃ q, (os.getD j 0 + 1) * B = q := ⟨_, rfl⟩
      rw [hp] at hy e1 hub
      rw [hq] at hy e2 hub2
      obtain ⟨u, hu⟩ : ∃ u, os.getD j 0 = u := ⟨_, rfl⟩
      rw [hu] at z0 hy e1 e2 hun
      have HR := Lib.hid hR
      have hu2 : (u : Int) ≤ 1000 := by omega
      have hu0 : (0 : Int) ≤ u := by omega
      have hp0 : (0 : Int) ≤ p := by omega
      have hp1 : (p : Int) ≤ 100000 := by omega
      have hq0 : (0 : Int) ≤ q := by omega
      have hq1 : (q : Int) ≤ 100000 := by omega
      clear hp hq hu htk hmem hnext hR hub hub2 hco
      rcases Nat.lt_trichotomy q n with hqn | rfl | hqn
      · have hqn' : (q : Int) < n := by omega
        rw [Nat.min_eq_left (by omega)] at hy
        gi_wp2
        refine HR.out.mono ?_
        rintro e W3 (⟨rfl, hJ3, hk3⟩ | ⟨rfl, hJx3⟩)
        · gi_wp2
          go_roundw
          case rel => exact ⟨j + 1, _, by omega, by go_num, HNEXT.out, hJ3, HX.out.trans hk3⟩
          case measure => simp [intOf]; omega
        · gi_wp2
          refine bodyPost_ret (results_none rfl _ _ _) rfl ?_
          exact ⟨⟨_, rfl⟩, .inr ⟨_, trivial, hJx3⟩⟩
      · rw [Nat.min_self] at hy
        gi_wp2
        refine HR.out.mono ?_
        rintro e W3 (⟨rfl, hJ3, hk3⟩ | ⟨rfl, hJx3⟩)
        · gi_wp2
          go_roundw
          case rel => exact ⟨j + 1, _, by omega, by go_num, HNEXT.out, hJ3, HX.out.trans hk3⟩
          case measure => simp [intOf]; omega
        · gi_wp2
          refine bodyPost_ret (results_none rfl _ _ _) rfl ?_
          exact ⟨⟨_, rfl⟩, .inr ⟨_, trivial, hJx3⟩⟩
      · have hqn' : (n : Int) < q := by omega
        rw [Nat.min_eq_right (by omega)] at hy
        gi_wp2
        refine HR.out.mono ?_
        rintro e W3 (⟨rfl, hJ3, hk3⟩ | ⟨rfl, hJx3⟩)
        · gi_wp2
          go_roundw
          case rel => exact ⟨j + 1, _, by omega, by go_num, HNEXT.out, hJ3, HX.out.trans hk3⟩
          case measure => simp [intOf]; omega
        · gi_wp2
          refine bodyPost_ret (results_none rfl _ _ _) rfl ?_
          exact ⟨⟨_, rfl⟩, .inr ⟨_, trivial, hJx3⟩⟩
    · obtain rfl : j = os.length := by omega
      gi_wp2
      go_end0
      exact ⟨⟨_, rfl⟩, .inl ⟨pre, by rw [HPRE.out, List.take_length], HJ.out⟩⟩
end Go.Proofs.YtkpbanfpnilifaaGreat

/- A range over the blocks (scan): the law for its two callers. -/
namespace Go.Proofs.YtkpbanfpnilifaaGreat
open Go.BigFrame
open Go.RowKit Go.Shelf Go.Proofs.YtkpbanfpnilifaaGreat.Plain

theorem siter_stops (n B k co G b0 b1 b2 : Nat) (bI : Int) (os : List Nat) (Ao : Option Addr) (w : World) (hn : n ≤ 1000) (hB : B ≤ 100) (hk : k ≤ 1000) (hos : ∀ u ∈ os, u < k)
    (hb0 : b0 ≠ G) (hb1 : b1 ≠ G) (hb2 : b2 ≠ G) (c0 : w.cell? ⟨b0, 0, none⟩ = some (.slice Ao os.length co)) (c1 : w.cell? ⟨b1, 0, none⟩ = some (.int .i64 bI)) (hbI : os ≠ [] → bI = B) (c2 : w.cell? ⟨b2, 0, none⟩ = some (.int .i64 n))
    (hA : Rd kInt w (.slice Ao os.length co) (zs os)) (hfar : ∀ a, Ao = some a → a.block < w.heap.size ∧ a.block ≠ G) :
    SeqStopsK Fence.wide 1 Tryz.prog 64 #[.pointer (some ⟨b0, 0, none⟩), .pointer (some ⟨b1, 0, none⟩), .pointer (some ⟨b2, 0, none⟩)] (fun x : Fin k => spanV n B x.1) (KeepsBut w.heap.size G)
      (fun ys => ys.map Fin.val = os) (fun _ => True) os.length w := fun l J Jx W hW _ _ hY h0 =>
  siter_in l k n B w.heap.size G b0 b1 b2 co bI os Ao J Jx hn hB hk hos hY W ⟨World.block_lt_of_cell? _ _ c0, hb0⟩ ⟨World.block_lt_of_cell? _ _ c1, hb1⟩ ⟨World.block_lt_of_cell? _ _ c2, hb2⟩
    (Ext.cell hW c0) (Ext.cell hW c1) hbI (Ext.cell hW c2) (hA.ext hW) hfar h0

/-- how a round's body is left -/
def BodyDone (R : World → Prop) : Exit → Act → World → Prop
  | .normal, _, W => R W
  | _, _, _ => False
theorem BodyDone.no (R : World → Prop) : ¬ LetsOut (BodyDone R) := fun ⟨_, _, h⟩ => h
/-- the slots with which a round begins -/
def roundAct (a : Act) (p1 p2 d1 d2 : Tmp) (u p q Bx : Nat) : Act :=
  { tmps := (((a.tmps.setIfInBounds p1 (.int .i64 u)).setIfInBounds p2 (.agg #[.int .i64 p, .int .i64 q])).setIfInBounds d1 (.int .i64 u)).setIfInBounds d2 (.pointer (some ⟨Bx, 0, none⟩)), defers := [] }
theorem range_blocks {g : Operand} {p1 p2 : Tmp} (d1 d2 : Tmp) {assign body : Code} {Q : Exit → Act → World → Prop} {a : Act} {w : World} (G B0 n B k co c9 m b0 b1 b2 : Nat) (bI : Int) (os : List Nat) (Ao : Option Addr) (F : List Nat → List Nat)
    (hg : a.eval g = .func (.func 64) #[] #[.pointer (some ⟨b0, 0, none⟩), .pointer (some ⟨b1, 0, none⟩), .pointer (some ⟨b2, 0, none⟩)])
    (hn : n ≤ 1000) (hB : B ≤ 100) (hk : k ≤ 1000) (hos : ∀ u ∈ os, u < k)
    (hb0 : b0 ≠ G) (hb1 : b1 ≠ G) (hb2 : b2 ≠ G) (c0 : w.cell? ⟨b0, 0, none⟩ = some (.slice Ao os.length co)) (c1 : w.cell? ⟨b1, 0, none⟩ = some (.int .i64 bI)) (hbI : os ≠ [] → bI = B) (c2 : w.cell? ⟨b2, 0, none⟩ = some (.int .i64 n))
    (hA : Rd kInt w (.slice Ao os.length co) (zs os)) (hfar : ∀ a, Ao = some a → a.block < w.heap.size ∧ a.block ≠ G) (hM : Ow kU32 B0 w (.slice (some ⟨G, 0, none⟩) m c9) (zs (F []))) (hG : G < w.heap.size)
    (hassign : ∀ (l : Nat) (u p q : Nat) (W : World) (K : Act → World → Prop), (∀ Bx W', Ext W W' → KeepsOthers W W' → W.heap.size ≤ Bx → W'.cell? ⟨Bx, 0, none⟩ = some (.int .i64 p) → W'.cell? ⟨Bx, 1, none⟩ = some (.int .i64 q) → K (roundAct a p1 p2 d1 d2 u p q Bx) W') →
      assign.wpIn (Fence.wide.inRound l) 0 Tryz.prog (Exit.then K (fun _ _ _ => False)) { tmps := (a.tmps.setIfInBounds p1 (.int .i64 u)).setIfInBounds p2 (.agg #[.int .i64 p, .int .i64 q]), defers := [] } W)
    (hbody : ∀ (l : Nat) (pre : List Nat) (u p q Bx : Nat) (W : World), u < k → p = u * B → q = min ((u + 1) * B) n → pre.length < os.length → Ow kU32 B0 W (.slice (some ⟨G, 0, none⟩) m c9) (zs (F pre)) → KeepsBut w.heap.size G w W → w.heap.size ≤ Bx → W.cell? ⟨Bx, 0, none⟩ = some (.int .i64 p) → W.cell? ⟨Bx, 1, none⟩ = some (.int .i64 q) →
      body.wpIn (Fence.wide.inRound l) 0 Tryz.prog (BodyDone fun W' => W.grownBy W' (some G) ∧ Ow kU32 B0 W' (.slice (some ⟨G, 0, none⟩) m c9) (zs (F (pre ++ [u])))) (roundAct a p1 p2 d1 d2 u p q Bx) W)
    (hdone : ∀ (D : Nat) (W : World), w.heap.size ≤ D → Ow kU32 B0 W (.slice (some ⟨G, 0, none⟩) m c9) (zs (F os)) → KeepsBut w.heap.size G w W → W.heap[D]? = some (.deferred (some [])) → Q .normal { a with defers := { target := .collected D, args := #[] } :: a.defers } W) :
    (Code.rangeFunc g #[p1, p2] assign body).wp Tryz.prog Q a w := by
  refine (wpIn_wide (n := 2)).1 ?_
  have hIO : OwnFrom w.heap.size (fun (pre : List (Fin k)) W => Ow kU32 B0 W (.slice (some ⟨G, 0, none⟩) m c9) (zs (F (pre.map Fin.val))) ∧ KeepsBut w.heap.size G w W) := fun s A C row hs hg hr =>
    ⟨hs.1.kept hg (.inr fun e => by have h9 : w.heap.size ≤ G := (hr _ e.symm).1; omega), hs.2.trans (KeepsBut.grown hs.2.size hg (fun r e => .inl (hr r e).1))⟩
  refine wpIn_rangeFunc_ownH rfl (by decide) (gf := 64) hg trivial (enters_of Tryz.func64 (by kernel_rfl) rfl)
    (siter_stops n B k co G b0 b1 b2 bI os Ao w hn hB hk hos hb0 hb1 hb2 c0 c1 hbI c2 hA hfar) KeepsBut.trans
    (fun W l o o' hl h ho _ => KeepsBut.grown (by have := (Array.getElem?_eq_some_iff.1 h).1; omega) (grownBy_putObj' W l o') (fun r e => by cases e; exact .inl hl)) (Below.refl _ _) (fun _ => rfl)
    (fun pre W => Ow kU32 B0 W (.slice (some ⟨G, 0, none⟩) m c9) (zs (F (pre.map Fin.val))) ∧ KeepsBut w.heap.size G w W) (fun _ _ _ => False) hIO (fun _ _ _ _ _ hs _ _ => hs) ⟨hM, KeepsBut.refl _ _ _⟩
    (fun x a' W => ∃ Bx, w.heap.size ≤ Bx ∧ a' = roundAct a p1 p2 d1 d2 x.1 (x.1 * B) (min ((x.1 + 1) * B) n) Bx ∧ W.cell? ⟨Bx, 0, none⟩ = some (.int .i64 (x.1 * B : Nat)) ∧ W.cell? ⟨Bx, 1, none⟩ = some (.int .i64 (min ((x.1 + 1) * B) n : Nat)))
    (fun x a' _ A C row hs hg hr => by
      obtain ⟨Bx, e1, e2, e3, e4⟩ := hs
      exact ⟨Bx, e1, e2, cell_kept e3 hg (fun r e => (hr r e).2), cell_kept e4 hg (fun r e => (hr r e).2)⟩)
    ?assign ?body ?done ?stop
  case assign =>
    intro l pre x W K hI hK
    have h9 := hassign l x.1 (x.1 * B) (min ((x.1 + 1) * B) n) W K
    suffices h8 : _ by simpa [spanV] using h9 h8
    intro Bx W' hE hKO hBx h1 h2
    have hsz := hI.2.size
    exact hK _ _ (hKO.from _) (KeepsBut.below (Below.mono hE hsz)) ⟨hI.1.ext hE, hI.2.trans (KeepsBut.below (Below.mono hE hsz))⟩ ⟨Bx, by omega, rfl, h1, h2⟩
  case body =>
    rintro l pre x a' W hl - ⟨hO, hX⟩ ⟨Bx, hBx, rfl, h1, h2⟩ hlen
    refine wpIn_mono (hbody l (pre.map Fin.val) x.1 _ _ Bx W x.2 rfl rfl (by rw [List.length_map]; exact hlen) hO hX hBx h1 h2) ?_
    intro e a3 W3 h3
    cases e with
    | normal =>
      obtain ⟨hg3, hO3⟩ := h3
      have hkb : KeepsBut w.heap.size G W W3 := KeepsBut.grown hX.size hg3 (fun r e => by cases e; exact .inr rfl)
      exact ⟨KeepsFrom.of_grownBy hg3 (fun j e => by cases e; exact hG), hkb, by rw [List.map_append]; exact hO3, hX.trans hkb⟩
    | _ => exact h3.elim
  case done =>
    rintro D ys W hD hys ⟨hO, hX⟩ hK
    rw [hys] at hO
    exact hdone D W hD hO hX hK
  case stop =>
    rintro D c pre W _ _ h _
    exact h.elim
end Go.Proofs.YtkpbanfpnilifaaGreat

/- The program's totals (scan): of each block what a rule makes of its cells. -/
namespace Go.Proofs.YtkpbanfpnilifaaGreat
open Go.BigFrame
open Go.RowKit Go.Shelf Go.Proofs.YtkpbanfpnilifaaGreat.Plain
attribute [local go_sem] Oper.semAt_some

/-- a block's cells -/
def Plain.blkL (l : List Nat) (B u : Nat) : List Nat := (l.drop (u * B)).take B
theorem Plain.blkL_len (l : List Nat) (B u : Nat) : (blkL l B u).length = min ((u + 1) * B) l.length - u * B := by unfold blkL; rw [List.length_take, List.length_drop, Nat.add_mul, Nat.one_mul]; omega
theorem Plain.blkL_lt {l : List Nat} (h : ∀ x ∈ l, x < 4294967296) (B u : Nat) : ∀ x ∈ blkL l B u, x < 4294967296 := fun x hx => h x (List.mem_of_mem_drop (List.mem_of_mem_take hx))
/-- what stands at a block's place when so many blocks have come -/
def Plain.accF (R : Nat → Nat → Nat) (l : List Nat) (B : Nat) (pre : List Nat) (u : Nat) : Nat := (List.replicate (pre.count u) (blkL l B u)).flatten.foldl R 0
theorem Plain.accF_same (R : Nat → Nat → Nat) (l : List Nat) (B : Nat) (pre : List Nat) (u : Nat) : accF R l B (pre ++ [u]) u = (blkL l B u).foldl R (accF R l B pre u) := by
  unfold accF
  rw [List.count_append, show [u].count u = 1 by simp, List.replicate_succ', List.flatten_append, List.foldl_append]; simp
theorem Plain.accF_other (R : Nat → Nat → Nat) (l : List Nat) (B : Nat) (pre : List Nat) {u v : Nat} (h : v ≠ u) : accF R l B (pre ++ [u]) v = accF R l B pre v := by
  unfold accF
  rw [List.count_append, show [u].count v = 0 by rw [List.count_eq_zero]; simpa using h, Nat.add_zero]
theorem Plain.accF_once {R : Nat → Nat → Nat} {l os : List Nat} {B k : Nat} (h : os.Perm (List.range k)) {u : Nat} (hu : u < k) : accF R l B os u = (blkL l B u).foldl R 0 := by
  unfold accF
  rw [h.count_eq, List.nodup_range.count, if_pos (List.mem_range.2 hu)]; simp
theorem Plain.accF_lt {R : Nat → Nat → Nat} (hR : ∀ a x, a < 4294967296 → x < 4294967296 → R a x < 4294967296) {l : List Nat} (hl : ∀ x ∈ l, x < 4294967296) (B : Nat) (pre : List Nat) (u : Nat) : accF R l B pre u < 4294967296 :=
  foldR_lt hR _ _ (by decide) (fun x hx => by
    obtain ⟨r, hr, hx⟩ := List.mem_flatten.1 hx
    rw [List.eq_of_mem_replicate hr] at hx
    exact blkL_lt hl B u x hx)
/-- the places, in the midst of a block -/
def Plain.midL (R : Nat → Nat → Nat) (l : List Nat) (B k : Nat) (pre : List Nat) (u i : Nat) : List Nat := byN k (fun v => if v = u then ((blkL l B u).take i).foldl R (accF R l B pre u) else accF R l B pre v)
theorem Plain.midL_zero (R : Nat → Nat → Nat) (l : List Nat) (B k : Nat) (pre : List Nat) (u : Nat) : midL R l B k pre u 0 = byN k (accF R l B pre) :=
  byN_congr _ _ _ fun v _ => by by_cases h : v = u; · subst h; rw [if_pos rfl]; rfl
                                · rw [if_neg h]
theorem Plain.midL_all (R : Nat → Nat → Nat) (l : List Nat) (B k : Nat) (pre : List Nat) (u : Nat) : midL R l B k pre u (blkL l B u).length = byN k (accF R l B (pre ++ [u])) :=
  byN_congr _ _ _ fun v _ => by
    by_cases h : v = u
    · subst h; rw [if_pos rfl, accF_same, List.take_length]
    · rw [if_neg h, accF_other _ _ _ _ h]
theorem Plain.midL_set (R : Nat → Nat → Nat) (l : List Nat) (B k : Nat) (pre : List Nat) (u i : Nat) : (midL R l B k pre u i).set u (((blkL l B u).take (i + 1)).foldl R (accF R l B pre u)) = midL R l B k pre u (i + 1) := by
  unfold midL
  rw [byN_set]
  refine byN_congr _ _ _ fun v _ => ?_
  by_cases h : v = u
  · rw [if_pos h, if_pos h]
  · rw [if_neg h, if_neg h, if_neg h]
theorem Plain.midL_getD (R : Nat → Nat → Nat) (l : List Nat) (B k : Nat) (pre : List Nat) (u i : Nat) (hu : u < k) : (midL R l B k pre u i).getD u 0 = ((blkL l B u).take i).foldl R (accF R l B pre u) := by
  unfold midL
  rw [byN_getD _ _ _ hu, if_pos rfl]

set_option maxHeartbeats 1600000 in
set_option maxRecDepth 100000 in
theorem stot1_any (l os : List Nat) (L Ao : Option Addr) (lc co B : Nat) (bI : Int) (w : World) (hL : Rd kU32 w (.slice L l.length lc) (zs l)) (hA : Rd kInt w (.slice Ao os.length co) (zs os)) (hl : l.length ≤ 900) (hB : B ≤ 100) (hk : os.length ≤ 1000) (hB1 : 0 < B) (hbI : os ≠ [] → bI = B)
    (hAl : ∀ a, Ao = some a → a.block < w.heap.size) (hos : ∀ u ∈ os, u < os.length) (hbl : ∀ u, u < os.length → u * B < l.length) :
    Calls Tryz.prog 53 #[.slice L l.length lc, .int .i64 bI, .slice Ao os.length co, .func (.func 40) #[] #[]] w (ListSaid (byN os.length (accF addR l B os)) w) := by
  have HL := Lib.hid hL
  have HA := Lib.hid hA
  have HAL := Lib.hid hAl
  have HOS := Lib.hid (And.intro hos hbl)
  have HBI := Lib.hid hbI
  have HLT := Lib.hid (zs_lt hL)
  have HB := Lib.hid (And.intro hl (And.intro hB (And.intro hk hB1)))
  have hk' : (os.length : Int) ≤ 1000 := by omega
  obtain ⟨C, hmk, hmown⟩ := kU32.make 0 rfl (show (0 : Int) ≤ 0 ∧ (0 : Int) ≤ 4294967295 by omega) os.length (by omega)
  have HMK := Lib.hid hmown
  have hmk2 : ∀ w : World, (Instr.makeSlice 22 (.int .i64 os.length) (.int .i64 os.length)).run Tryz.prog w = .ok (.slice (some ⟨w.heap.size, 0, none⟩) os.length os.length) (w.alloc (.cells C 42)) := hmk
  clear hL hA hl hB hk hB1 hbI hAl hos hbl hmown hmk
  refine callsIn_wide.1 (callsIn_of_wp_marks (n := 2) Tryz.func53 rfl trivial ?_ rfl)
  simp only [Tryz.ntmps53, List.size_toArray, List.length_cons, List.length_nil, Nat.reduceAdd, Nat.reduceSub, Array.replicate_succ, Array.replicate_zero, List.push_toArray, List.append_toArray, List.nil_append, List.cons_append]
  refine (wpIn_wide (n := 2)).2 ?_
  go_wp2_with fail
  refine (sblocks0_any Ao os.length co l.length bI _).mono ?_
  rintro ed w1 ⟨rfl, rfl⟩
  go_wp2_with fail
  have c0 : (((((((w.alloc (.cells #[.slice L l.length lc] 22)).alloc (.cells #[.func (.func 40) #[] #[]] 72)).alloc (.cells C 42)).alloc (.cells #[.slice (some ⟨w.heap.size + 1 + 1, 0, none⟩) os.length os.length] 22)).alloc (.cells #[.slice Ao os.length co] 29)).alloc (.cells #[.int .i64 l.length] 3)).alloc (.cells #[.int .i64 bI] 3)).cell? ⟨w.heap.size, 0, none⟩ = some (.slice L l.length lc) := by go_simp
  have c1 : (((((((w.alloc (.cells #[.slice L l.length lc] 22)).alloc (.cells #[.func (.func 40) #[] #[]] 72)).alloc (.cells C 42)).alloc (.cells #[.slice (some ⟨w.heap.size + 1 + 1, 0, none⟩) os.length os.length] 22)).alloc (.cells #[.slice Ao os.length co] 29)).alloc (.cells #[.int .i64 l.length] 3)).alloc (.cells #[.int .i64 bI] 3)).cell? ⟨w.heap.size + 1, 0, none⟩ = some (.func (.func 40) #[] #[]) := by go_simp
  have c3 : (((((((w.alloc (.cells #[.slice L l.length lc] 22)).alloc (.cells #[.func (.func 40) #[] #[]] 72)).alloc (.cells C 42)).alloc (.cells #[.slice (some ⟨w.heap.size + 1 + 1, 0, none⟩) os.length os.length] 22)).alloc (.cells #[.slice Ao os.length co] 29)).alloc (.cells #[.int .i64 l.length] 3)).alloc (.cells #[.int .i64 bI] 3)).cell? ⟨w.heap.size + 1 + 1 + 1, 0, none⟩ = some (.slice (some ⟨w.heap.size + 1 + 1, 0, none⟩) os.length os.length) := by go_simp
  have c4 : (((((((w.alloc (.cells #[.slice L l.length lc] 22)).alloc (.cells #[.func (.func 40) #[] #[]] 72)).alloc (.cells C 42)).alloc (.cells #[.slice (some ⟨w.heap.size + 1 + 1, 0, none⟩) os.length os.length] 22)).alloc (.cells #[.slice Ao os.length co] 29)).alloc (.cells #[.int .i64 l.length] 3)).alloc (.cells #[.int .i64 bI] 3)).cell? ⟨w.heap.size + 1 + 1 + 1 + 1, 0, none⟩ = some (.slice Ao os.length co) := by go_simp
  have c5 : (((((((w.alloc (.cells #[.slice L l.length lc] 22)).alloc (.cells #[.func (.func 40) #[] #[]] 72)).alloc (.cells C 42)).alloc (.cells #[.slice (some ⟨w.heap.size + 1 + 1, 0, none⟩) os.length os.length] 22)).alloc (.cells #[.slice Ao os.length co] 29)).alloc (.cells #[.int .i64 l.length] 3)).alloc (.cells #[.int .i64 bI] 3)).cell? ⟨w.heap.size + 1 + 1 + 1 + 1 + 1, 0, none⟩ = some (.int .i64 l.length) := by go_simp
  have c6 : (((((((w.alloc (.cells #[.slice L l.length lc] 22)).alloc (.cells #[.func (.func 40) #[] #[]] 72)).alloc (.cells C 42)).alloc (.cells #[.slice (some ⟨w.heap.size + 1 + 1, 0, none⟩) os.length os.length] 22)).alloc (.cells #[.slice Ao os.length co] 29)).alloc (.cells #[.int .i64 l.length] 3)).alloc (.cells #[.int .i64 bI] 3)).cell? ⟨w.heap.size + 1 + 1 + 1 + 1 + 1 + 1, 0, none⟩ = some (.int .i64 bI) := by go_simp
  have hE : Ext w (((((((w.alloc (.cells #[.slice L l.length lc] 22)).alloc (.cells #[.func (.func 40) #[] #[]] 72)).alloc (.cells C 42)).alloc (.cells #[.slice (some ⟨w.heap.size + 1 + 1, 0, none⟩) os.length os.length] 22)).alloc (.cells #[.slice Ao os.length co] 29)).alloc (.cells #[.int .i64 l.length] 3)).alloc (.cells #[.int .i64 bI] 3)) := (((((((Ext.refl w).alloc _).alloc _).alloc _).alloc _).alloc _).alloc _).alloc _
  have hsz : (((((((w.alloc (.cells #[.slice L l.length lc] 22)).alloc (.cells #[.func (.func 40) #[] #[]] 72)).alloc (.cells C 42)).alloc (.cells #[.slice (some ⟨w.heap.size + 1 + 1, 0, none⟩) os.length os.length] 22)).alloc (.cells #[.slice Ao os.length co] 29)).alloc (.cells #[.int .i64 l.length] 3)).alloc (.cells #[.int .i64 bI] 3)).heap.size = w.heap.size + 7 := by simp
  have hM : Ow kU32 w.heap.size (((((((w.alloc (.cells #[.slice L l.length lc] 22)).alloc (.cells #[.func (.func 40) #[] #[]] 72)).alloc (.cells C 42)).alloc (.cells #[.slice (some ⟨w.heap.size + 1 + 1, 0, none⟩) os.length os.length] 22)).alloc (.cells #[.slice Ao os.length co] 29)).alloc (.cells #[.int .i64 l.length] 3)).alloc (.cells #[.int .i64 bI] 3)) (.slice (some ⟨w.heap.size + 1 + 1, 0, none⟩) os.length os.length) (zs (byN os.length (accF addR l B []))) := by
    have h9 := HMK.out ((w.alloc (.cells #[.slice L l.length lc] 22)).alloc (.cells #[.func (.func 40) #[] #[]] 72)) w.heap.size (w.heap.size + 1 + 1) (by simp) (by omega)
    rw [show zs (byN os.length (accF addR l B [])) = List.replicate os.length (0 : Int) from by
      unfold zs byN; rw [List.map_map]; apply List.ext_getElem?; intro i; by_cases hi : i < os.length
      · rw [List.getElem?_map, List.getElem?_range hi, List.getElem?_replicate, if_pos hi]; rfl
      · rw [List.getElem?_eq_none (by simpa using hi), List.getElem?_eq_none (by simpa using hi)]]
    exact h9.ext (((((Ext.refl _).alloc _).alloc _).alloc _).alloc _)
  obtain ⟨W0, hW0⟩ : ∃ W0, (((((((w.alloc (.cells #[.slice L l.length lc] 22)).alloc (.cells #[.func (.func 40) #[] #[]] 72)).alloc (.cells C 42)).alloc (.cells #[.slice (some ⟨w.heap.size + 1 + 1, 0, none⟩) os.length os.length] 22)).alloc (.cells #[.slice Ao os.length co] 29)).alloc (.cells #[.int .i64 l.length] 3)).alloc (.cells #[.int .i64 bI] 3)) = W0 := ⟨_, rfl⟩
  rw [hW0] at c0 c1 c3 c4 c5 c6 hE hsz hM ⊢
  have HE := Lib.hid hE
  have HC := Lib.hid (And.intro c0 (And.intro c1 c3))
  clear hW0 hmk2
  refine range_blocks 10 11 (w.heap.size + 1 + 1) w.heap.size l.length B os.length co os.length os.length (w.heap.size + 1 + 1 + 1 + 1) (w.heap.size + 1 + 1 + 1 + 1 + 1 + 1) (w.heap.size + 1 + 1 + 1 + 1 + 1) bI os Ao (fun pre => byN os.length (accF addR l B pre))
    rfl (by have := HB.out.1; omega) HB.out.2.1 HB.out.2.2.1 HOS.out.1 (by omega) (by omega) (by omega) c4 c6 HBI.out c5 (HA.out.ext hE) (fun a ha => ⟨by have := HAL.out a ha; omega, by have := HAL.out a ha; omega⟩) hM (by omega) ?assign ?body ?done
  case assign =>
    intro l9 u p q W K hK
    simp only [List.setIfInBounds_toArray, List.set_cons_succ, List.set_cons_zero]
    gi_wp2
    have h9 := hK W.heap.size (W.alloc (.cells #[.int .i64 p, .int .i64 q] 88)) ((Ext.refl W).alloc _) (KeepsOthers.alloc _ _) (Nat.le_refl _) (by go_simp) (by go_simp)
    simpa [roundAct] using h9
  case body =>
    intro l9 pre u p q Bx W hu hp hq hlen hO hX hBx h1 h2
    have hbl := HOS.out.2 u hu
    have hqp : p < q ∧ q ≤ l.length := by
      rw [Nat.add_mul, Nat.one_mul] at hq
      have hB1 := HB.out.2.2.2
      omega
    have hlb : (blkL l B u).length = q - p := by rw [blkL_len, hp, hq]
    have hblk : (l.drop p).take (q - p) = blkL l B u := by
      rw [← hlb]; unfold blkL; rw [← hp, List.length_take, ← List.take_take, List.take_of_length_le (Nat.le_refl _)]
    have cL := hX.cell HC.out.1 (by show w.heap.size < _; omega) (by show w.heap.size ≠ _; omega)
    have cR := hX.cell HC.out.2.1 (by show w.heap.size + 1 < _; omega) (by show w.heap.size + 1 ≠ _; omega)
    have cM := hX.cell HC.out.2.2 (by show w.heap.size + 1 + 1 + 1 < _; omega) (by show w.heap.size + 1 + 1 + 1 ≠ _; omega)
    have hlc : l.length ≤ lc := by obtain ⟨_, c', e, h9⟩ := HL.out.slice; simp only [Value.slice.injEq] at e; rw [zs_len] at h9; omega
    obtain ⟨bx, ox, rfl, -, -⟩ := u32_at HL.out p (by omega)
    have HXW : Hid (Ext w W) := Lib.hid (KeepsBut.ext HE.out hX (by omega) (by omega))
    have hlast : bx < w.heap.size := by
      obtain ⟨b', o', e, h9, -⟩ := u32_at HL.out p (by omega)
      cases e; exact World.block_lt_of_cell? _ _ h9
    have HPC : Hid (Rd kU32 W (.slice (some ⟨bx, ox + p, none⟩) (blkL l B u).length (lc - p)) (zs (blkL l B u))) := Lib.hid (by
      have h9 := ((HL.out.ext HXW.out).dropAdd p p (l.length - p) (lc - p) (by show p = p * 1; omega) (by rw [zs_len]) (by omega)).take (q - p) (lc - p) (by rw [List.length_drop, zs_len]; omega) (by omega)
      rw [hlb, ← hblk]
      rw [add_atk] at h9
      unfold zs at h9 ⊢
      rw [List.map_take, List.map_drop]
      exact h9)
    have HBL := Lib.hid (blkL_lt HLT.out B u)
    have HAC := Lib.hid (accF_lt addR_lt HLT.out B pre u)
    have HLB := Lib.hid hlb
    have HU := Lib.hid hu
    have HO := Lib.hid hO
    have hp9 : (0 : Int) ≤ p := by omega
    have hpq : (p : Int) ≤ q := by omega
    have hqc : q ≤ lc := by omega
    have hqc' : (q : Int) ≤ lc := by omega
    have hne : ¬ lc = p := by omega
    have hq9 : (q : Int) ≤ 900 := by have := HB.out.1; omega
    obtain ⟨Q1, hQ1⟩ : ∃ z, q - p = z := ⟨_, rfl⟩
    clear hp hq hlb hblk hO hX hbl hlc hqp c0 c1 c3 c4 c5 c6 hE hM hu
    simp only [roundAct, List.setIfInBounds_toArray, List.set_cons_succ, List.set_cons_zero]
    gi_wp2
    have HQ1 : Hid (q - p = Q1) := Lib.hid hQ1
    have hQ9 : (Q1 : Int) ≤ 900 := by omega
    clear hQ1
    gi_loopw [31] (fun i wr => ∃ j : Nat, j ≤ Q1 ∧ i = .int .i64 j ∧ Ow kU32 w.heap.size wr (.slice (some ⟨w.heap.size + 1 + 1, 0, none⟩) os.length os.length) (zs (midL addR l B os.length pre u j)) ∧ W.grownBy wr (some (w.heap.size + 1 + 1))) (fun i _ => Q1 - (intOf i).toNat)
    case atStart => exact ⟨0, Nat.zero_le _, rfl, by rw [midL_zero]; exact HO.out, World.grownBy.refl _ _⟩
    case round =>
      obtain ⟨j, hj, rfl, hM9, hg9⟩ := hrel
      have hj0 : (0 : Int) ≤ j := by omega
      have HG := Lib.hid hg9
      have HM9 := Lib.hid hM9
      by_cases hlt : j < Q1
      · have hlt' : (j : Int) < Q1 := by omega
        have hjl : j < (blkL l B u).length := by have := HLB.out; have := HQ1.out; omega
        have hpc := HPC.out.grown hg9 (fun a ha e => by cases ha; have h8 : bx = w.heap.size + 1 + 1 := by simpa using e
                                                        omega)
        obtain ⟨bx', ox', e9, z0, hxl⟩ := u32_at hpc j hjl
        obtain ⟨rfl, rfl⟩ : bx = bx' ∧ ox + p = ox' := by simpa using e9
        have q1 := hg9.cell cR (by simp)
        have q3 := hg9.cell cM (by simp)
        obtain ⟨z1, z2, hal, _, _⟩ := hM9.atN (u := u) (by unfold midL; rw [byN_len]; exact HU.out)
        rw [midL_getD _ _ _ _ _ _ _ HU.out] at z1 hal
        have hsn := foldR_snoc addR (blkL l B u) (accF addR l B pre u) j hjl
        have hset := hM9.setN (u := u) (v := ((blkL l B u).take (j + 1)).foldl addR (accF addR l B pre u)) (by unfold midL; rw [byN_len]; exact HU.out) (foldR_lt addR_lt _ _ HAC.out (fun x hx => HBL.out x (List.mem_of_mem_take hx)))
        rw [midL_set, hsn] at hset
        obtain ⟨x, hx⟩ : ∃ x, (blkL l B u).getD j 0 = x := ⟨_, rfl⟩
        obtain ⟨a, ha⟩ : ∃ a, ((blkL l B u).take j).foldl addR (accF addR l B pre u) = a := ⟨_, rfl⟩
        rw [hx, ha] at hset
        rw [hx] at z0 hxl
        rw [ha] at z1 hal
        have HSET := Lib.hid hset
        have HRU : Hid (Calls Tryz.prog 40 #[.int .u32 a, .int .u32 x] wr.drew (fun e w'' => e = .returned (.int .u32 (addR a x : Nat)) ∧ w'' = wr.drew)) := Lib.hid ((srule1_any a x _ hal hxl).mono fun _ _ h => ⟨h.1, h.2.symm⟩)
        have z2' := z2 u
        have hu0 : (0 : Int) ≤ u := by omega
        have hu1 : (u : Int) < os.length := by have := HU.out; omega
        have hd1 : decide ((u : Int) < 0) = false := decide_eq_false (by omega)
        have hd2 : decide ((os.length : Int) ≤ (u : Int)) = false := decide_eq_false (by omega)
        have hmo : Tryz.prog.follows .mixedOrders = true := by kernel_rfl
        obtain ⟨y, hy⟩ : ∃ y, addR a x = y := ⟨_, rfl⟩
        rw [hy] at HRU HSET
        clear hset hsn hx ha z2 hal hxl hM9 hg9 hpc e9 hy hjl cL cR cM h1 h2
        gi_wp2
        refine round_still_tail (by rintro ⟨a, w, h⟩; exact h) 10 hmo (by kernel_rfl) (by kernel_rfl) ?_
        simp only [List.take_succ_cons, List.take_zero, List.drop_succ_cons, List.drop_zero]
        repeat (first | still_step | still_call HRU.out)
        try refine wpStill_nil ?_
        go_wp2_with fail
        gi_wp2
        go_roundw
        case rel => exact ⟨j + 1, by omega, by go_num, HSET.out.ext (Ext.refl _).drew, (HG.out.trans (grown_set _ ⟨w.heap.size + 1 + 1, u, none⟩ _)).trans ⟨rfl, rfl, rfl, Nat.le_refl _, fun _ _ _ => rfl⟩⟩
        case measure => simp [intOf]; omega
      · obtain rfl : j = Q1 := by omega
        gi_wp2
        refine ⟨HG.out, ?_⟩
        have h9 := HM9.out
        rw [← HQ1.out, ← HLB.out, midL_all] at h9
        exact h9
  case done =>
    intro D W hD hO hX hK
    have h9 := hX.cell HC.out.2.2 (by show w.heap.size + 1 + 1 + 1 < _; omega) (by show w.heap.size + 1 + 1 + 1 ≠ _; omega)
    go_wp2_with fail
    refine ⟨by simp, .inl ⟨_, _, rfl, run_takeDeferred hK, ?_⟩⟩
    refine ⟨.slice (some ⟨w.heap.size + 1 + 1, 0, none⟩) os.length os.length, by simp [results, Tryz.results53, go_sem], ?_⟩
    refine ⟨some ⟨w.heap.size + 1 + 1, 0, none⟩, os.length, by rw [byN_len], by rw [byN_len]; exact hO.kept (grownBy_putObj' W D _) (.inr (fun e => absurd (show w.heap.size + 1 + 1 = D by simpa [Value.ownBlock] using e) (by omega))), ?_⟩
    exact (KeepsBut.ext HE.out hX (by omega) (by omega)).grown (grownBy_putObj' W D _) (fun r e => by cases e; omega)

end Go.Proofs.YtkpbanfpnilifaaGreat

/- The program's Totals and Back (scan). -/
namespace Go.Proofs.YtkpbanfpnilifaaGreat
open Go.BigFrame
open Go.RowKit Go.Proofs.YtkpbanfpnilifaaGreat.Plain

theorem Plain.addF_any : ∀ (l : List Nat) (s : Nat), s < 4294967296 → l.foldl addR s = (s + l.sum) % 4294967296
  | [], s, hs => by simp [Nat.mod_eq_of_lt hs]
  | x :: l, s, _ => by
    have h := addF_any l (addR s x) (Nat.mod_lt _ (by decide))
    rw [List.foldl_cons, h, List.sum_cons]
    unfold addR
    omega
theorem Plain.addF_tot (l : List Nat) : l.foldl addR 0 = totW l := by rw [addF_any l 0 (by decide), Nat.zero_add]; rfl
theorem Plain.blocks_at {n B u : Nat} (hn : n ≤ 1000) (h1 : 1 ≤ B) (h2 : B ≤ 100) (hu : u < blocksP n B) : u * B < n := by
  unfold blocksP at hu
  rw [if_pos (by omega), Int.toNat_natCast] at hu
  have h := (Nat.le_div_iff_mul_le (by omega : 0 < B)).1 (show u + 1 ≤ (n + B - 1) / B from hu)
  rw [Nat.add_mul, Nat.one_mul] at h
  omega
end Go.Proofs.YtkpbanfpnilifaaGreat

/- The program's drain: one that goes on: a step. Written by wip/mk_d6a.py. -/
namespace Go.Proofs.YtkpbanfpnilifaaGreat
open Go.BigFrame
open Go.RowKit Go.Proofs.YtkpbanfpnilifaaGreat.Plain

def D6P (w0 : World) (row : Option Nat) (V : Nat) (ve vo : Value) (B : Nat) (evs : List Ev) (ev : Ev) : Nat → World → List Value → Value → Prop
  | 0, w, ds, v => v = .pointer (some ⟨V, 0, none⟩)
  | 1, w, ds, v => v = .pointer (some ⟨V, 0, none⟩)
  | 2, w, ds, v => v = .pointer (some ⟨V, 0, none⟩)
  | 3, w, ds, v => v = .pointer (some ⟨V, 7, none⟩)
  | 4, w, ds, v => v = vo
  | 5, w, ds, v => v = ve
  | 6, w, ds, v => OneAt kEv w0.heap.size w v ev
  | 7, w, ds, v => AppAt kEv B w v (evs ++ [ev]) vo w0.heap.size
  | 8, w, ds, v => v = .pointer (some ⟨V, 0, none⟩)
  | 9, w, ds, v => v = .pointer (some ⟨V, 7, none⟩)
  | _, _, _, _ => True
theorem D6P_ext (w0 : World) (row : Option Nat) (V : Nat) (ve vo : Value) (B : Nat) (evs : List Ev) (ev : Ev) : ∀ i w w' ds v, D6P w0 row V ve vo B evs ev i w ds v → Ext w w' → D6P w0 row V ve vo B evs ev i w' ds v
  | 0, _, _, _, _, h, _ => h
  | 1, _, _, _, _, h, _ => h
  | 2, _, _, _, _, h, _ => h
  | 3, _, _, _, _, h, _ => h
  | 4, _, _, _, _, h, _ => h
  | 5, _, _, _, _, h, _ => h
  | 6, _, _, _, _, h, hE => OneAt.ext h hE
  | 7, _, _, _, _, h, hE => h.ext hE
  | 8, _, _, _, _, h, _ => h
  | 9, _, _, _, _, h, _ => h
  | _ + 10, _, _, _, _, _, _ => trivial
theorem D6P_sw (w0 : World) (row : Option Nat) (V : Nat) (ve vo : Value) (B : Nat) (evs : List Ev) (ev : Ev) (hrow : ∀ b, row = some b → b < w0.heap.size) : ∀ i w w' ds v, i ≠ 7 → D6P w0 row V ve vo B evs ev i w ds v → Wr row w w' → D6P w0 row V ve vo B evs ev i w' ds v
  | 0, _, _, _, _, _, h, _ => h
  | 1, _, _, _, _, _, h, _ => h
  | 2, _, _, _, _, _, h, _ => h
  | 3, _, _, _, _, _, h, _ => h
  | 4, _, _, _, _, _, h, _ => h
  | 5, _, _, _, _, _, h, _ => h
  | 6, _, _, _, _, _, h, hE => OneAt.sw h hE hrow
  | 7, _, _, _, _, hq, _, _ => absurd rfl hq
  | 8, _, _, _, _, _, h, _ => h
  | 9, _, _, _, _, _, h, _ => h
  | _ + 10, _, _, _, _, _, _, _ => trivial
section
variable (w0 : World) (row : Option Nat) (V : Nat) (ve vo : Value) (B : Nat) (evs : List Ev) (ev : Ev) (w : World) (ds : List Value) (v : Value)
theorem D6P_i0 (h : v = .pointer (some ⟨V, 0, none⟩)) : D6P w0 row V ve vo B evs ev 0 w ds v := h
theorem D6P_e0 (h : D6P w0 row V ve vo B evs ev 0 w ds v) : v = .pointer (some ⟨V, 0, none⟩) := h
theorem D6P_i1 (h : v = .pointer (some ⟨V, 0, none⟩)) : D6P w0 row V ve vo B evs ev 1 w ds v := h
theorem D6P_e1 (h : D6P w0 row V ve vo B evs ev 1 w ds v) : v = .pointer (some ⟨V, 0, none⟩) := h
theorem D6P_i2 (h : v = .pointer (some ⟨V, 0, none⟩)) : D6P w0 row V ve vo B evs ev 2 w ds v := h
theorem D6P_e2 (h : D6P w0 row V ve vo B evs ev 2 w ds v) : v = .pointer (some ⟨V, 0, none⟩) := h
theorem D6P_i3 (h : v = .pointer (some ⟨V, 7, none⟩)) : D6P w0 row V ve vo B evs ev 3 w ds v := h
theorem D6P_e3 (h : D6P w0 row V ve vo B evs ev 3 w ds v) : v = .pointer (some ⟨V, 7, none⟩) := h
theorem D6P_i4 (h : v = vo) : D6P w0 row V ve vo B evs ev 4 w ds v := h
theorem D6P_e4 (h : D6P w0 row V ve vo B evs ev 4 w ds v) : v = vo := h
theorem D6P_i5 (h : v = ve) : D6P w0 row V ve vo B evs ev 5 w ds v := h
theorem D6P_e5 (h : D6P w0 row V ve vo B evs ev 5 w ds v) : v = ve := h
theorem D6P_i6 (h : OneAt kEv w0.heap.size w v ev) : D6P w0 row V ve vo B evs ev 6 w ds v := h
theorem D6P_e6 (h : D6P w0 row V ve vo B evs ev 6 w ds v) : OneAt kEv w0.heap.size w v ev := h
theorem D6P_i7 (h : AppAt kEv B w v (evs ++ [ev]) vo w0.heap.size) : D6P w0 row V ve vo B evs ev 7 w ds v := h
theorem D6P_e7 (h : D6P w0 row V ve vo B evs ev 7 w ds v) : AppAt kEv B w v (evs ++ [ev]) vo w0.heap.size := h
theorem D6P_i8 (h : v = .pointer (some ⟨V, 0, none⟩)) : D6P w0 row V ve vo B evs ev 8 w ds v := h
theorem D6P_e8 (h : D6P w0 row V ve vo B evs ev 8 w ds v) : v = .pointer (some ⟨V, 0, none⟩) := h
theorem D6P_i9 (h : v = .pointer (some ⟨V, 7, none⟩)) : D6P w0 row V ve vo B evs ev 9 w ds v := h
theorem D6P_e9 (h : D6P w0 row V ve vo B evs ev 9 w ds v) : v = .pointer (some ⟨V, 7, none⟩) := h
end

theorem set_box7of8 {w : World} {P : Nat} {T : TypeId} {v0 v1 v2 v3 v4 v5 v6 v7 : Value} {fr : Nat × Nat} (h : w.heap[P]? = some (.cells #[v0, v1, v2, v3, v4, v5, v6, v7] T fr)) (u0 u1 u2 u3 u4 u5 u6 : Value) :
    ((((((((w.setCell ⟨P, 0, none⟩ (u0)).setCell ⟨P, 1, none⟩ (u1)).setCell ⟨P, 2, none⟩ (u2)).setCell ⟨P, 3, none⟩ (u3)).setCell ⟨P, 4, none⟩ (u4)).setCell ⟨P, 5, none⟩ (u5)).setCell ⟨P, 6, none⟩ (u6))).heap[P]? = some (.cells #[u0, u1, u2, u3, u4, u5, u6, v7] T fr) := by
  have h0 : ((w.setCell ⟨P, 0, none⟩ u0)).heap[P]? = some (.cells #[u0, v1, v2, v3, v4, v5, v6, v7] T fr) := by have := set_block (i := 0) h u0; simpa using this
  have h1 : (((w.setCell ⟨P, 0, none⟩ u0).setCell ⟨P, 1, none⟩ u1)).heap[P]? = some (.cells #[u0, u1, v2, v3, v4, v5, v6, v7] T fr) := by have := set_block (i := 1) h0 u1; simpa using this
  have h2 : ((((w.setCell ⟨P, 0, none⟩ u0).setCell ⟨P, 1, none⟩ u1).setCell ⟨P, 2, none⟩ u2)).heap[P]? = some (.cells #[u0, u1, u2, v3, v4, v5, v6, v7] T fr) := by have := set_block (i := 2) h1 u2; simpa using this
  have h3 : (((((w.setCell ⟨P, 0, none⟩ u0).setCell ⟨P, 1, none⟩ u1).setCell ⟨P, 2, none⟩ u2).setCell ⟨P, 3, none⟩ u3)).heap[P]? = some (.cells #[u0, u1, u2, u3, v4, v5, v6, v7] T fr) := by have := set_block (i := 3) h2 u3; simpa using this
  have h4 : ((((((w.setCell ⟨P, 0, none⟩ u0).setCell ⟨P, 1, none⟩ u1).setCell ⟨P, 2, none⟩ u2).setCell ⟨P, 3, none⟩ u3).setCell ⟨P, 4, none⟩ u4)).heap[P]? = some (.cells #[u0, u1, u2, u3, u4, v5, v6, v7] T fr) := by have := set_block (i := 4) h3 u4; simpa using this
  have h5 : (((((((w.setCell ⟨P, 0, none⟩ u0).setCell ⟨P, 1, none⟩ u1).setCell ⟨P, 2, none⟩ u2).setCell ⟨P, 3, none⟩ u3).setCell ⟨P, 4, none⟩ u4).setCell ⟨P, 5, none⟩ u5)).heap[P]? = some (.cells #[u0, u1, u2, u3, u4, u5, v6, v7] T fr) := by have := set_block (i := 5) h4 u5; simpa using this
  have h6 : ((((((((w.setCell ⟨P, 0, none⟩ u0).setCell ⟨P, 1, none⟩ u1).setCell ⟨P, 2, none⟩ u2).setCell ⟨P, 3, none⟩ u3).setCell ⟨P, 4, none⟩ u4).setCell ⟨P, 5, none⟩ u5).setCell ⟨P, 6, none⟩ u6)).heap[P]? = some (.cells #[u0, u1, u2, u3, u4, u5, u6, v7] T fr) := by have := set_block (i := 6) h5 u6; simpa using this
  exact h6

theorem blk_lt {w : World} {x : Nat} {o : Obj} (h : w.heap[x]? = some o) : x < w.heap.size := by
  rcases Nat.lt_or_ge x w.heap.size with h' | h'
  · exact h'
  · rw [Array.getElem?_eq_none h'] at h; cases h
/-- one that goes on to the end, at V: the crew, and what came; its memory has nothing to do with the blocks of S -/
structure DG (S : Nat → Prop) (w : World) (V g m : Nat) (c : Cw) (evs : List Ev) (v : Value) (A B : Option Addr) (e0 eo a b e : Nat) : Prop where
  me : m ≤ e
  box : w.heap[V]? = some (.cells #[.slice A c.ts.length a, .int .i64 g, .slice B c.dn.length b, .slice (some ⟨e0, eo, none⟩) m e, .bool c.over, .int .i64 c.st, .int .i64 c.id, v] 102)
  cr : CrewO (fun x => S x ∨ x = V ∨ v.ownBlock = some x) w m c A B e0 eo a b
  own : Ow kEv (V + 1) w v evs
theorem DG.ext {S : Nat → Prop} {w W : World} {V g m : Nat} {c : Cw} {evs : List Ev} {v : Value} {A B : Option Addr} {e0 eo a b e : Nat} (h : DG S w V g m c evs v A B e0 eo a b e) (hE : Ext w W) : DG S W V g m c evs v A B e0 eo a b e :=
  ⟨h.me, block_keep h.box hE, h.cr.ext hE, h.own.ext hE⟩
/-- what a step leaves -/
def DStepSaid (S : Nat → Prop) (V g m : Nat) (r : Cw × Ev) (evs : List Ev) (w : World) (ed : Ending) (w' : World) : Prop :=
  ∃ (v' : Value) (A B : Option Addr) (e0 a b : Nat), ed = .returned (.int .i64 0) ∧ DG S w' V g m r.1 (evs ++ [r.2]) v' A B e0 0 a b m ∧ Grew (fun x => V ≤ x) w w'

set_option maxHeartbeats 1600000 in
set_option maxRecDepth 100000 in
theorem dstep_any (S : Nat → Prop) (V g n m : Nat) (c : Cw) (evs : List Ev) (v : Value) (A B : Option Addr) (e0 eo a b e : Nat) (p q : Int) (w : World) (hS : ∀ x, S x → x < V) (h : DG S w V g m c evs v A B e0 eo a b e) (hI : ∃ done G, CwI g n m c done G)
    (n1 : 1 ≤ n) (n2 : n ≤ 900) (g1 : 1 ≤ g) (g2 : g ≤ 100) (m1 : 1 ≤ m) (m2 : m ≤ 8) (hst : c.st < 100000) (hid : c.id < 100000) (hp : in64 p) (hq : in64 q) (hl : evs.length ≤ 200000) :
    Calls Tryz.prog 67 #[.pointer (some ⟨V, 0, none⟩), .int .i64 p, .int .i64 q] w (DStepSaid S V g m (stepP g m c p q) evs w) := by
  obtain ⟨done, G, hI⟩ := hI
  have H := Lib.hid h
  have HI := Lib.hid hI
  have HS := Lib.hid hS
  have HPQ := Lib.hid (And.intro hp hq)
  have k0 : w.cell? ⟨V, 0, none⟩ = some (.slice A c.ts.length a) := (cell_of_row w (V) 0 _ _ _ h.box).trans rfl
  have k1 : w.cell? ⟨V, 1, none⟩ = some (.int .i64 g) := (cell_of_row w (V) 1 _ _ _ h.box).trans rfl
  have k2 : w.cell? ⟨V, 2, none⟩ = some (.slice B c.dn.length b) := (cell_of_row w (V) 2 _ _ _ h.box).trans rfl
  have k3 : w.cell? ⟨V, 3, none⟩ = some (.slice (some ⟨e0, eo, none⟩) m e) := (cell_of_row w (V) 3 _ _ _ h.box).trans rfl
  have k4 : w.cell? ⟨V, 4, none⟩ = some (.bool c.over) := (cell_of_row w (V) 4 _ _ _ h.box).trans rfl
  have k5 : w.cell? ⟨V, 5, none⟩ = some (.int .i64 c.st) := (cell_of_row w (V) 5 _ _ _ h.box).trans rfl
  have k6 : w.cell? ⟨V, 6, none⟩ = some (.int .i64 c.id) := (cell_of_row w (V) 6 _ _ _ h.box).trans rfl
  have k7 : w.cell? ⟨V, 7, none⟩ = some (v) := (cell_of_row w (V) 7 _ _ _ h.box).trans rfl
  have kf := fun o => frozen_of_row w (V) o _ _ h.box
  have lV := blk_lt h.box
  have HOKE : Hid (kEv.ok (stepP g m c p q).2) := Lib.hid (HI.out.evOk g1 n1 n2 m1 m2 _ _)
  obtain ⟨⟨c5, ev⟩, hr⟩ : ∃ x, stepP g m c p q = x := ⟨_, rfl⟩
  have HR := Lib.hid hr
  rw [hr] at HOKE ⊢
  clear h hI hS hp hq hr
  go_enter Tryz.func67, Tryz.ntmps67
  go_wp2_with fail
  have hh := cstep_any A B e0 eo a b e g n m c done G p q w (H.out.cr.at_ m1) H.out.me HI.out n1 n2 g1 g2 m1 m2 hst hid HPQ.out.1 HPQ.out.2
  refine hh.mono ?_
  clear hh
  rw [HR.out]
  rintro ed w1 ⟨A5, B5, e5, a5, b5, rfl, hC, hE⟩
  have hz := hE.size
  have HC := Lib.hid hC
  have HE := Lib.hid hE
  have HOK : Hid (kEv.ok ev) := HOKE
  have HB1 := Lib.hid (block_keep H.out.box hE)
  have lV1 : V < w1.heap.size := by omega
  have l0 : w1.cell? ⟨V, 0, none⟩ = some (.slice A c.ts.length a) := (cell_of_row w1 (V) 0 _ _ _ HB1.out).trans rfl
  have l1 : w1.cell? ⟨V, 1, none⟩ = some (.int .i64 g) := (cell_of_row w1 (V) 1 _ _ _ HB1.out).trans rfl
  have l2 : w1.cell? ⟨V, 2, none⟩ = some (.slice B c.dn.length b) := (cell_of_row w1 (V) 2 _ _ _ HB1.out).trans rfl
  have l3 : w1.cell? ⟨V, 3, none⟩ = some (.slice (some ⟨e0, eo, none⟩) m e) := (cell_of_row w1 (V) 3 _ _ _ HB1.out).trans rfl
  have l4 : w1.cell? ⟨V, 4, none⟩ = some (.bool c.over) := (cell_of_row w1 (V) 4 _ _ _ HB1.out).trans rfl
  have l5 : w1.cell? ⟨V, 5, none⟩ = some (.int .i64 c.st) := (cell_of_row w1 (V) 5 _ _ _ HB1.out).trans rfl
  have l6 : w1.cell? ⟨V, 6, none⟩ = some (.int .i64 c.id) := (cell_of_row w1 (V) 6 _ _ _ HB1.out).trans rfl
  have l7 : w1.cell? ⟨V, 7, none⟩ = some (v) := (cell_of_row w1 (V) 7 _ _ _ HB1.out).trans rfl
  have lf := fun o => frozen_of_row w1 (V) o _ _ HB1.out
  clear hC hE k0 k1 k2 k3 k4 k5 k6 k7 kf
  go_upto_region 5 with fail
  have HG8 : Hid (Grew (fun x => x = V) w1 ((((((((w1.setCell ⟨V, 0, none⟩ (.slice A5 c5.ts.length a5)).setCell ⟨V, 1, none⟩ (.int .i64 g)).setCell ⟨V, 2, none⟩ (.slice B5 c5.dn.length b5)).setCell ⟨V, 3, none⟩ (.slice (some ⟨e5, 0, none⟩) m m)).setCell ⟨V, 4, none⟩ (.bool c5.over)).setCell ⟨V, 5, none⟩ (.int .i64 c5.st)).setCell ⟨V, 6, none⟩ (.int .i64 c5.id)))) := Lib.hid (Grew.setCell (S := fun x => x = V) (p := ⟨V, 6, none⟩) (Grew.setCell (S := fun x => x = V) (p := ⟨V, 5, none⟩) (Grew.setCell (S := fun x => x = V) (p := ⟨V, 4, none⟩) (Grew.setCell (S := fun x => x = V) (p := ⟨V, 3, none⟩) (Grew.setCell (S := fun x => x = V) (p := ⟨V, 2, none⟩) (Grew.setCell (S := fun x => x = V) (p := ⟨V, 1, none⟩) (Grew.setCell (S := fun x => x = V) (p := ⟨V, 0, none⟩) (Grew.refl _ _) rfl _) rfl _) rfl _) rfl _) rfl _) rfl _) rfl _)
  have HE2 : Hid (Ext ((((((((w1.setCell ⟨V, 0, none⟩ (.slice A5 c5.ts.length a5)).setCell ⟨V, 1, none⟩ (.int .i64 g)).setCell ⟨V, 2, none⟩ (.slice B5 c5.dn.length b5)).setCell ⟨V, 3, none⟩ (.slice (some ⟨e5, 0, none⟩) m m)).setCell ⟨V, 4, none⟩ (.bool c5.over)).setCell ⟨V, 5, none⟩ (.int .i64 c5.st)).setCell ⟨V, 6, none⟩ (.int .i64 c5.id))) ((((((((((w1.setCell ⟨V, 0, none⟩ (.slice A5 c5.ts.length a5)).setCell ⟨V, 1, none⟩ (.int .i64 g)).setCell ⟨V, 2, none⟩ (.slice B5 c5.dn.length b5)).setCell ⟨V, 3, none⟩ (.slice (some ⟨e5, 0, none⟩) m m)).setCell ⟨V, 4, none⟩ (.bool c5.over)).setCell ⟨V, 5, none⟩ (.int .i64 c5.st)).setCell ⟨V, 6, none⟩ (.int .i64 c5.id)).alloc (.cells #[.slice A5 c5.ts.length a5, .int .i64 g, .slice B5 c5.dn.length b5, .slice (some ⟨e5, 0, none⟩) m m, .bool c5.over, .int .i64 c5.st, .int .i64 c5.id] 81)).alloc (.cells #[.int .i64 ev.wk, .int .i64 ev.fr, .int .i64 ev.tk, .bool ev.pt] 106)))) := Lib.hid (((Ext.refl _).alloc _).alloc _)
  have HBX : Hid (((((((((((w1.setCell ⟨V, 0, none⟩ (.slice A5 c5.ts.length a5)).setCell ⟨V, 1, none⟩ (.int .i64 g)).setCell ⟨V, 2, none⟩ (.slice B5 c5.dn.length b5)).setCell ⟨V, 3, none⟩ (.slice (some ⟨e5, 0, none⟩) m m)).setCell ⟨V, 4, none⟩ (.bool c5.over)).setCell ⟨V, 5, none⟩ (.int .i64 c5.st)).setCell ⟨V, 6, none⟩ (.int .i64 c5.id)).alloc (.cells #[.slice A5 c5.ts.length a5, .int .i64 g, .slice B5 c5.dn.length b5, .slice (some ⟨e5, 0, none⟩) m m, .bool c5.over, .int .i64 c5.st, .int .i64 c5.id] 81)).alloc (.cells #[.int .i64 ev.wk, .int .i64 ev.fr, .int .i64 ev.tk, .bool ev.pt] 106))).heap[V]? = some (.cells #[.slice A5 c5.ts.length a5, .int .i64 g, .slice B5 c5.dn.length b5, .slice (some ⟨e5, 0, none⟩) m m, .bool c5.over, .int .i64 c5.st, .int .i64 c5.id, v] 102)) := Lib.hid (block_keep (set_box7of8 HB1.out _ _ _ _ _ _ _) HE2.out)
  have HBY : Hid (((((((((((w1.setCell ⟨V, 0, none⟩ (.slice A5 c5.ts.length a5)).setCell ⟨V, 1, none⟩ (.int .i64 g)).setCell ⟨V, 2, none⟩ (.slice B5 c5.dn.length b5)).setCell ⟨V, 3, none⟩ (.slice (some ⟨e5, 0, none⟩) m m)).setCell ⟨V, 4, none⟩ (.bool c5.over)).setCell ⟨V, 5, none⟩ (.int .i64 c5.st)).setCell ⟨V, 6, none⟩ (.int .i64 c5.id)).alloc (.cells #[.slice A5 c5.ts.length a5, .int .i64 g, .slice B5 c5.dn.length b5, .slice (some ⟨e5, 0, none⟩) m m, .bool c5.over, .int .i64 c5.st, .int .i64 c5.id] 81)).alloc (.cells #[.int .i64 ev.wk, .int .i64 ev.fr, .int .i64 ev.tk, .bool ev.pt] 106))).heap[w1.heap.size + 1]? = some (.cells #[.int .i64 ev.wk, .int .i64 ev.fr, .int .i64 ev.tk, .bool ev.pt] 106)) := Lib.hid (by
    have h9 := heap_alloc2_new ((((((((w1.setCell ⟨V, 0, none⟩ (.slice A5 c5.ts.length a5)).setCell ⟨V, 1, none⟩ (.int .i64 g)).setCell ⟨V, 2, none⟩ (.slice B5 c5.dn.length b5)).setCell ⟨V, 3, none⟩ (.slice (some ⟨e5, 0, none⟩) m m)).setCell ⟨V, 4, none⟩ (.bool c5.over)).setCell ⟨V, 5, none⟩ (.int .i64 c5.st)).setCell ⟨V, 6, none⟩ (.int .i64 c5.id))) (.cells #[.slice A5 c5.ts.length a5, .int .i64 g, .slice B5 c5.dn.length b5, .slice (some ⟨e5, 0, none⟩) m m, .bool c5.over, .int .i64 c5.st, .int .i64 c5.id] 81) (.cells #[.int .i64 ev.wk, .int .i64 ev.fr, .int .i64 ev.tk, .bool ev.pt] 106)
    rw [show ((((((((w1.setCell ⟨V, 0, none⟩ (.slice A5 c5.ts.length a5)).setCell ⟨V, 1, none⟩ (.int .i64 g)).setCell ⟨V, 2, none⟩ (.slice B5 c5.dn.length b5)).setCell ⟨V, 3, none⟩ (.slice (some ⟨e5, 0, none⟩) m m)).setCell ⟨V, 4, none⟩ (.bool c5.over)).setCell ⟨V, 5, none⟩ (.int .i64 c5.st)).setCell ⟨V, 6, none⟩ (.int .i64 c5.id))).heap.size = w1.heap.size by simp] at h9
    exact h9)
  have hz8 : ((((((((((w1.setCell ⟨V, 0, none⟩ (.slice A5 c5.ts.length a5)).setCell ⟨V, 1, none⟩ (.int .i64 g)).setCell ⟨V, 2, none⟩ (.slice B5 c5.dn.length b5)).setCell ⟨V, 3, none⟩ (.slice (some ⟨e5, 0, none⟩) m m)).setCell ⟨V, 4, none⟩ (.bool c5.over)).setCell ⟨V, 5, none⟩ (.int .i64 c5.st)).setCell ⟨V, 6, none⟩ (.int .i64 c5.id)).alloc (.cells #[.slice A5 c5.ts.length a5, .int .i64 g, .slice B5 c5.dn.length b5, .slice (some ⟨e5, 0, none⟩) m m, .bool c5.over, .int .i64 c5.st, .int .i64 c5.id] 81)).alloc (.cells #[.int .i64 ev.wk, .int .i64 ev.fr, .int .i64 ev.tk, .bool ev.pt] 106))).heap.size = w1.heap.size + 2 := by simp
  have HGW : Hid (Grew (fun x => x = V) w1 ((((((((((w1.setCell ⟨V, 0, none⟩ (.slice A5 c5.ts.length a5)).setCell ⟨V, 1, none⟩ (.int .i64 g)).setCell ⟨V, 2, none⟩ (.slice B5 c5.dn.length b5)).setCell ⟨V, 3, none⟩ (.slice (some ⟨e5, 0, none⟩) m m)).setCell ⟨V, 4, none⟩ (.bool c5.over)).setCell ⟨V, 5, none⟩ (.int .i64 c5.st)).setCell ⟨V, 6, none⟩ (.int .i64 c5.id)).alloc (.cells #[.slice A5 c5.ts.length a5, .int .i64 g, .slice B5 c5.dn.length b5, .slice (some ⟨e5, 0, none⟩) m m, .bool c5.over, .int .i64 c5.st, .int .i64 c5.id] 81)).alloc (.cells #[.int .i64 ev.wk, .int .i64 ev.fr, .int .i64 ev.tk, .bool ev.pt] 106)))) := Lib.hid (HG8.out.ext HE2.out)
  clear HE2 HG8 l0 l1 l2 l3 l4 l5 l6 l7 lf HB1
  generalize (((((((((w1.setCell ⟨V, 0, none⟩ (.slice A5 c5.ts.length a5)).setCell ⟨V, 1, none⟩ (.int .i64 g)).setCell ⟨V, 2, none⟩ (.slice B5 c5.dn.length b5)).setCell ⟨V, 3, none⟩ (.slice (some ⟨e5, 0, none⟩) m m)).setCell ⟨V, 4, none⟩ (.bool c5.over)).setCell ⟨V, 5, none⟩ (.int .i64 c5.st)).setCell ⟨V, 6, none⟩ (.int .i64 c5.id)).alloc (.cells #[.slice A5 c5.ts.length a5, .int .i64 g, .slice B5 c5.dn.length b5, .slice (some ⟨e5, 0, none⟩) m m, .bool c5.over, .int .i64 c5.st, .int .i64 c5.id] 81)).alloc (.cells #[.int .i64 ev.wk, .int .i64 ev.fr, .int .i64 ev.tk, .bool ev.pt] 106)) = w8 at *
  have x0 : w8.cell? ⟨V, 0, none⟩ = some (.slice A5 c5.ts.length a5) := (cell_of_row w8 (V) 0 _ _ _ HBX.out).trans rfl
  have x1 : w8.cell? ⟨V, 1, none⟩ = some (.int .i64 g) := (cell_of_row w8 (V) 1 _ _ _ HBX.out).trans rfl
  have x2 : w8.cell? ⟨V, 2, none⟩ = some (.slice B5 c5.dn.length b5) := (cell_of_row w8 (V) 2 _ _ _ HBX.out).trans rfl
  have x3 : w8.cell? ⟨V, 3, none⟩ = some (.slice (some ⟨e5, 0, none⟩) m m) := (cell_of_row w8 (V) 3 _ _ _ HBX.out).trans rfl
  have x4 : w8.cell? ⟨V, 4, none⟩ = some (.bool c5.over) := (cell_of_row w8 (V) 4 _ _ _ HBX.out).trans rfl
  have x5 : w8.cell? ⟨V, 5, none⟩ = some (.int .i64 c5.st) := (cell_of_row w8 (V) 5 _ _ _ HBX.out).trans rfl
  have x6 : w8.cell? ⟨V, 6, none⟩ = some (.int .i64 c5.id) := (cell_of_row w8 (V) 6 _ _ _ HBX.out).trans rfl
  have x7 : w8.cell? ⟨V, 7, none⟩ = some (v) := (cell_of_row w8 (V) 7 _ _ _ HBX.out).trans rfl
  have xf := fun o => frozen_of_row w8 (V) o _ _ HBX.out
  have y0 : w8.cell? ⟨w1.heap.size + 1, 0, none⟩ = some (.int .i64 ev.wk) := (cell_of_row w8 (w1.heap.size + 1) 0 _ _ _ HBY.out).trans rfl
  have y1 : w8.cell? ⟨w1.heap.size + 1, 1, none⟩ = some (.int .i64 ev.fr) := (cell_of_row w8 (w1.heap.size + 1) 1 _ _ _ HBY.out).trans rfl
  have y2 : w8.cell? ⟨w1.heap.size + 1, 2, none⟩ = some (.int .i64 ev.tk) := (cell_of_row w8 (w1.heap.size + 1) 2 _ _ _ HBY.out).trans rfl
  have y3 : w8.cell? ⟨w1.heap.size + 1, 3, none⟩ = some (.bool ev.pt) := (cell_of_row w8 (w1.heap.size + 1) 3 _ _ _ HBY.out).trans rfl
  have yf := fun o => frozen_of_row w8 (w1.heap.size + 1) o _ _ HBY.out
  obtain ⟨Ao, co, hv, hco⟩ := H.out.own.slice
  obtain ⟨no, hno⟩ : ∃ no, evs.length = no := ⟨_, rfl⟩
  rw [hno] at hv hco
  subst hv
  obtain ⟨row, hrw⟩ : ∃ row, Value.ownBlock (.slice Ao no co) = row := ⟨_, rfl⟩
  have hrlt : ∀ x, row = some x → V + 1 ≤ x ∧ x < w.heap.size := fun x hx => H.out.own.lt x (hrw.trans hx)
  have hrow : ∀ x, row = some x → x < w8.heap.size := fun x hx => by have := hrlt x hx; omega
  have nV : ¬ row = some V := fun hh => by have := hrlt _ hh; omega
  have nY : ¬ row = some (w1.heap.size + 1) := fun hh => by have := hrlt _ hh; omega
  have HRL := Lib.hid hrlt
  have HO8 : Hid (Ow kEv (V + 1) w8 (.slice Ao no co) evs) := Lib.hid ((H.out.own.ext HE.out).grew HGW.out (fun x hx e => by have := (H.out.own.lt x hx).1; omega))
  have HLL : Hid (evs.length + [ev].length ≤ 1048576) := Lib.hid (by simp; omega)
  have HBS : Hid (V + 1 ≤ w8.heap.size) := Lib.hid (by omega)
  have lV8 : V < w8.heap.size := by omega
  clear hno hco hrlt
  refine MonoW.wp_region_write 10 7 (Wr row) (D6P w8 row V (.agg #[.int .i64 ev.wk, .int .i64 ev.fr, .int .i64 ev.tk, .bool ev.pt]) (.slice Ao no co) (V + 1) evs ev) (by kernel_rfl) (by kernel_rfl) (Wr.of row) (Wr.tr row) (D6P_ext w8 row V (.agg #[.int .i64 ev.wk, .int .i64 ev.fr, .int .i64 ev.tk, .bool ev.pt]) (.slice Ao no co) (V + 1) evs ev) (D6P_sw w8 row V (.agg #[.int .i64 ev.wk, .int .i64 ev.fr, .int .i64 ev.tk, .bool ev.pt]) (.slice Ao no co) (V + 1) evs ev hrow) ?_ ?_
  · intro i o hi ho vals w5 hE hQ hcl
    have hi' : i = 0 ∨ i = 1 ∨ i = 2 ∨ i = 3 ∨ i = 4 ∨ i = 5 ∨ i = 6 ∨ i = 7 ∨ i = 8 ∨ i = 9 := by omega
    rcases hi' with rfl | rfl | rfl | rfl | rfl | rfl | rfl | rfl | rfl | rfl
    · simp only [List.getElem?_cons_succ, List.getElem?_cons_zero, Option.some.injEq] at ho
      subst ho
      rw [if_pos (Mono.wanted_none rfl)]
      clear hcl
      refine Mono.yields_same (.pointer (some ⟨V, 0, none⟩)) w5 ?_ ⟨MonoW.Out.of (Wr.of row) (Ext.refl _), D6P_i0 _ _ _ _ _ _ _ _ _ _ _ rfl⟩
      simp only [Mono.all, List.take, Act.put]
      go_simp
    · simp only [List.getElem?_cons_succ, List.getElem?_cons_zero, Option.some.injEq] at ho
      subst ho
      rw [if_pos (Mono.wanted_none rfl)]
      clear hcl
      refine Mono.yields_same (.pointer (some ⟨V, 0, none⟩)) w5 ?_ ⟨MonoW.Out.of (Wr.of row) (Ext.refl _), D6P_i1 _ _ _ _ _ _ _ _ _ _ _ rfl⟩
      simp only [Mono.all, List.take, Act.put]
      go_simp
    · simp only [List.getElem?_cons_succ, List.getElem?_cons_zero, Option.some.injEq] at ho
      subst ho
      rw [if_pos (Mono.wanted_none rfl)]
      have h1 : vals 1 = .pointer (some ⟨V, 0, none⟩) := D6P_e1 _ _ _ _ _ _ _ _ _ _ _ (hcl 1 (by kernel_rfl))
      clear hcl
      refine Mono.yields_same (.pointer (some ⟨V, 0, none⟩)) w5 ?_ ⟨MonoW.Out.of (Wr.of row) (Ext.refl _), D6P_i2 _ _ _ _ _ _ _ _ _ _ _ rfl⟩
      simp only [Mono.all, List.take, Act.put]
      go_simp
    · simp only [List.getElem?_cons_succ, List.getElem?_cons_zero, Option.some.injEq] at ho
      subst ho
      rw [if_pos (Mono.wanted_none rfl)]
      have h2 : vals 2 = .pointer (some ⟨V, 0, none⟩) := D6P_e2 _ _ _ _ _ _ _ _ _ _ _ (hcl 2 (by kernel_rfl))
      clear hcl
      refine Mono.yields_same (.pointer (some ⟨V, 7, none⟩)) w5 ?_ ⟨MonoW.Out.of (Wr.of row) (Ext.refl _), D6P_i3 _ _ _ _ _ _ _ _ _ _ _ rfl⟩
      simp only [Mono.all, List.take, Act.put]
      go_simp
    · simp only [List.getElem?_cons_succ, List.getElem?_cons_zero, Option.some.injEq] at ho
      subst ho
      rw [if_pos (Mono.wanted_none rfl)]
      have h3 : vals 3 = .pointer (some ⟨V, 7, none⟩) := D6P_e3 _ _ _ _ _ _ _ _ _ _ _ (hcl 3 (by kernel_rfl))
      have l7 := hE.cell x7 nV
      clear hcl
      refine Mono.yields_same (.slice Ao no co) w5 ?_ ⟨MonoW.Out.of (Wr.of row) (Ext.refl _), D6P_i4 _ _ _ _ _ _ _ _ _ _ _ rfl⟩
      simp only [Mono.all, List.take, Act.put]
      go_simp
    · simp only [List.getElem?_cons_succ, List.getElem?_cons_zero, Option.some.injEq] at ho
      subst ho
      rw [if_pos (Mono.wanted_none rfl)]
      have l0 := hE.cell y0 nY
      have l1 := hE.cell y1 nY
      have l2 := hE.cell y2 nY
      have l3 := hE.cell y3 nY
      clear hcl
      refine Mono.yields_same (.agg #[.int .i64 ev.wk, .int .i64 ev.fr, .int .i64 ev.tk, .bool ev.pt]) w5 ?_ ⟨MonoW.Out.of (Wr.of row) (Ext.refl _), D6P_i5 _ _ _ _ _ _ _ _ _ _ _ rfl⟩
      simp only [Mono.all, List.take, Act.put]
      go_simp
    · simp only [List.getElem?_cons_succ, List.getElem?_cons_zero, Option.some.injEq] at ho
      subst ho
      rw [if_pos (Mono.wanted_none rfl)]
      have h2 : vals 5 = .agg #[.int .i64 ev.wk, .int .i64 ev.fr, .int .i64 ev.tk, .bool ev.pt] := (D6P_e5 _ _ _ _ _ _ _ _ _ _ _ (hcl 5 (by kernel_rfl)))
      clear hcl
      refine Mono.yields_same (.slice (some ⟨w5.heap.size, 0, none⟩) 1 1) (w5.alloc (.cells #[.int .i64 ev.wk, .int .i64 ev.fr, .int .i64 ev.tk, .bool ev.pt] kEv.e)) ?_ ⟨MonoW.Out.of (Wr.of row) ((Ext.refl _).alloc _), D6P_i6 _ _ _ _ _ _ _ _ _ _ _ (OneAt.made kEv w5 hE.size _ _ rfl HOKE.out)⟩
      simp only [Mono.all, List.take, Act.put, kEv]
      go_simp
    · simp only [List.getElem?_cons_succ, List.getElem?_cons_zero, Option.some.injEq] at ho
      subst ho
      rw [if_pos (Mono.wanted_none rfl)]
      obtain ⟨p, h3, o3⟩ := (D6P_e6 _ _ _ _ _ _ _ _ _ _ _ (hcl 6 (by kernel_rfl)))
      have h1 : vals 4 = .slice Ao no co := (D6P_e4 _ _ _ _ _ _ _ _ _ _ _ (hcl 4 (by kernel_rfl)))
      have hX := hQ rfl
      clear hcl
      refine Kd.yields_grow kEv (B := V + 1) (n := w8.heap.size) (q := 7) (.tmp 32) (.tmp 34) (v := .slice Ao no co) (y := .slice (some ⟨p, 0, none⟩) 1 1) (xs := evs) (ys := [ev]) (HO8.out.ext hX) o3.rd HLL.out (Nat.le_trans HBS.out hX.size) hX.size rfl rfl (by rw [← h1]; kernel_rfl) (by rw [← h3]; kernel_rfl) ?_
      intro v' w' hA hO
      exact ⟨by rw [← hrw]; exact hO, D6P_i7 _ _ _ _ _ _ _ _ _ _ _ hA⟩
    · simp only [List.getElem?_cons_succ, List.getElem?_cons_zero, Option.some.injEq] at ho
      subst ho
      rw [if_pos (Mono.wanted_none rfl)]
      have h0 : vals 0 = .pointer (some ⟨V, 0, none⟩) := D6P_e0 _ _ _ _ _ _ _ _ _ _ _ (hcl 0 (by kernel_rfl))
      clear hcl
      refine Mono.yields_same (.pointer (some ⟨V, 0, none⟩)) w5 ?_ ⟨MonoW.Out.of (Wr.of row) (Ext.refl _), D6P_i8 _ _ _ _ _ _ _ _ _ _ _ rfl⟩
      simp only [Mono.all, List.take, Act.put]
      go_simp
    · simp only [List.getElem?_cons_succ, List.getElem?_cons_zero, Option.some.injEq] at ho
      subst ho
      rw [if_pos (Mono.wanted_none rfl)]
      have h8 : vals 8 = .pointer (some ⟨V, 0, none⟩) := D6P_e8 _ _ _ _ _ _ _ _ _ _ _ (hcl 8 (by kernel_rfl))
      clear hcl
      refine Mono.yields_same (.pointer (some ⟨V, 7, none⟩)) w5 ?_ ⟨MonoW.Out.of (Wr.of row) (Ext.refl _), D6P_i9 _ _ _ _ _ _ _ _ _ _ _ rfl⟩
      simp only [Mono.all, List.take, Act.put]
      go_simp
  · intro vals w5 hE hv
    have hA := (D6P_e7 _ _ _ _ _ _ _ _ _ _ _ (hv 7 (by omega)))
    have ee9 := (D6P_e9 _ _ _ _ _ _ _ _ _ _ _ (hv 9 (by omega)))
    obtain ⟨Az, cz, ee7, hcz⟩ := hA.1.slice
    obtain ⟨nz, hnz⟩ : ∃ nz, (evs ++ [ev]).length = nz := ⟨_, rfl⟩
    rw [hnz] at ee7
    rw [ee7] at hA
    have HA := Lib.hid hA
    have HG := Lib.hid hE
    have hbP : w5.heap[V]? = some (.cells #[.slice A5 c5.ts.length a5, .int .i64 g, .slice B5 c5.dn.length b5, .slice (some ⟨e5, 0, none⟩) m m, .bool c5.over, .int .i64 c5.st, .int .i64 c5.id, .slice Ao no co] 102) := block_wr HBX.out hE nV
    have z0 : w5.cell? ⟨V, 0, none⟩ = some (.slice A5 c5.ts.length a5) := (cell_of_row w5 (V) 0 _ _ _ hbP).trans rfl
    have z1 : w5.cell? ⟨V, 1, none⟩ = some (.int .i64 g) := (cell_of_row w5 (V) 1 _ _ _ hbP).trans rfl
    have z2 : w5.cell? ⟨V, 2, none⟩ = some (.slice B5 c5.dn.length b5) := (cell_of_row w5 (V) 2 _ _ _ hbP).trans rfl
    have z3 : w5.cell? ⟨V, 3, none⟩ = some (.slice (some ⟨e5, 0, none⟩) m m) := (cell_of_row w5 (V) 3 _ _ _ hbP).trans rfl
    have z4 : w5.cell? ⟨V, 4, none⟩ = some (.bool c5.over) := (cell_of_row w5 (V) 4 _ _ _ hbP).trans rfl
    have z5 : w5.cell? ⟨V, 5, none⟩ = some (.int .i64 c5.st) := (cell_of_row w5 (V) 5 _ _ _ hbP).trans rfl
    have z6 : w5.cell? ⟨V, 6, none⟩ = some (.int .i64 c5.id) := (cell_of_row w5 (V) 6 _ _ _ hbP).trans rfl
    have z7 : w5.cell? ⟨V, 7, none⟩ = some (.slice Ao no co) := (cell_of_row w5 (V) 7 _ _ _ hbP).trans rfl
    have zf := fun o => frozen_of_row w5 (V) o _ _ hbP
    have HBP := Lib.hid hbP
    have lV5 : V < w5.heap.size := blk_lt hbP
    clear hA hbP hE hcz hnz
    simp only [Mono.all, List.take, List.drop, Act.put]
    go_wp2_with fail
    go_ret
    have hGV : Grew (fun x => x = V) w5 (w5.setCell ⟨V, 7, none⟩ (.slice Az nz cz)) := Grew.setCell (S := fun x => x = V) (p := ⟨V, 7, none⟩) (Grew.refl _ _) rfl _
    have hGr : Grew (fun x => x = V ∨ row = some x) w8 (w5.setCell ⟨V, 7, none⟩ (.slice Az nz cz)) := (HG.out.mono (fun x _ hx => .inr hx)).trans (hGV.mono (fun x _ hx => .inl hx))
    have hGA : Grew (fun x => x = V ∨ row = some x) w1 (w5.setCell ⟨V, 7, none⟩ (.slice Az nz cz)) := (HGW.out.mono (fun x _ hx => .inl hx)).trans hGr
    refine ⟨.slice Az nz cz, A5, B5, e5, a5, b5, rfl, ⟨Nat.le_refl _, ?_, ?_, ?_⟩, ?_⟩
    · have h9 := set_block (i := 7) HBP.out (.slice Az nz cz)
      simpa using h9
    · refine HC.out.later m1 (hGA.mono (fun x hx hh => ?_)) (fun x hx hT => ?_)
      · rcases hh with hh | hh
        · omega
        · have := (HRL.out x hh).2; omega
      · rcases hT with hT | hT | hT
        · have := HS.out x hT; omega
        · omega
        · rcases HA.out.2 with h9 | ⟨p, h9, h10⟩
          · rw [h9, hrw] at hT
            have := (HRL.out x hT).2; omega
          · rw [h9] at hT; cases hT; omega
    · exact HA.out.1.grew hGV (fun x hx e => by have := (HA.out.1.lt x hx).1; omega)
    · exact (Grew.of HE.out).trans (hGA.mono (fun x _ hx => by
        rcases hx with hx | hx
        · omega
        · have := (HRL.out x hx).1; omega))

set_option maxRecDepth 100000 in
theorem dholds_yes (S : Nat → Prop) (V g m : Nat) (c : Cw) (evs : List Ev) (v : Value) (A B : Option Addr) (e0 eo a b e : Nat) (w : World) (h : DG S w V g m c evs v A B e0 eo a b e) (m1 : 1 ≤ m) (m2 : m ≤ 8) (hp : 0 < (held c.D).length) (hl : (held c.D).length ≤ 1000000) :
    Calls Tryz.prog 81 #[.pointer (some ⟨V, 0, none⟩)] w fun ed w' => ed = .returned (.bool true) ∧ Ext w w' := by
  have H := Lib.hid h
  have k0 : w.cell? ⟨V, 0, none⟩ = some (.slice A c.ts.length a) := (cell_of_row w (V) 0 _ _ _ h.box).trans rfl
  have k1 : w.cell? ⟨V, 1, none⟩ = some (.int .i64 g) := (cell_of_row w (V) 1 _ _ _ h.box).trans rfl
  have k2 : w.cell? ⟨V, 2, none⟩ = some (.slice B c.dn.length b) := (cell_of_row w (V) 2 _ _ _ h.box).trans rfl
  have k3 : w.cell? ⟨V, 3, none⟩ = some (.slice (some ⟨e0, eo, none⟩) m e) := (cell_of_row w (V) 3 _ _ _ h.box).trans rfl
  have k4 : w.cell? ⟨V, 4, none⟩ = some (.bool c.over) := (cell_of_row w (V) 4 _ _ _ h.box).trans rfl
  have k5 : w.cell? ⟨V, 5, none⟩ = some (.int .i64 c.st) := (cell_of_row w (V) 5 _ _ _ h.box).trans rfl
  have k6 : w.cell? ⟨V, 6, none⟩ = some (.int .i64 c.id) := (cell_of_row w (V) 6 _ _ _ h.box).trans rfl
  have k7 : w.cell? ⟨V, 7, none⟩ = some (v) := (cell_of_row w (V) 7 _ _ _ h.box).trans rfl
  have kf := fun o => frozen_of_row w (V) o _ _ h.box
  obtain ⟨N0, hN0⟩ : ∃ N0, (held c.D).length = N0 := ⟨_, rfl⟩
  have HN0 := Lib.hid hN0
  rw [hN0] at hp hl
  have hp' : (0 : Int) < N0 := by omega
  clear h hN0
  go_enter Tryz.func81, Tryz.ntmps81
  go_wp2_with fail
  refine (cheld_any A B e0 eo a b e g m c _ w ((H.out.cr.at_ m1).deq.choose_spec) m2 (by rw [HN0.out]; omega)).mono ?_
  rintro ed w1 ⟨rfl, hE⟩
  rw [HN0.out]
  have HE := Lib.hid hE
  clear hE
  go_wp2_with fail
  go_ret
  exact ⟨ret_bool (by first | rfl | simp; omega), HE.out⟩
end Go.Proofs.YtkpbanfpnilifaaGreat

/- Plain words of a drain under way, and of picks under way. No program in it. -/
namespace Go.Proofs.YtkpbanfpnilifaaGreat.Plain

theorem drainP_ov (g m f t : Nat) (c : Cw) (h : c.over = true) : drainP g m f t c = (c, []) := by
  cases f with
  | zero => rfl
  | succ f => unfold drainP; rw [if_pos h]
theorem drainP_nx (g m f t : Nat) (c : Cw) (h : c.over = false) : drainP g m (f + 1) t c = ((drainP g m f (t + 1) (stepP g m c (dpick m t).1 (dpick m t).2).1).1, (stepP g m c (dpick m t).1 (dpick m t).2).2 :: (drainP g m f (t + 1) (stepP g m c (dpick m t).1 (dpick m t).2).1).2) := by
  conv => lhs; unfold drainP
  rw [if_neg (by rw [h]; decide)]
theorem dpick_eq (m k j : Nat) (hj : j < m) : dpick m (k * m + j) = ((j : Int), (j : Int) + 1 + k) := by
  unfold dpick
  rw [Nat.add_comm, Nat.add_mul_mod_self_right, Nat.mod_eq_of_lt hj, Nat.add_mul_div_right _ _ (by omega), Nat.div_eq_of_lt hj]
  simp
theorem untilP_ov (g m : Nat) (c : Cw) (l : List (Int × Int)) (h : c.over = true) : untilP g m c l = (c, []) := by
  cases l with
  | nil => rfl
  | cons x l => unfold untilP; rw [if_pos h]
theorem untilP_nx (g m k : Nat) (c : Cw) (l : List (Int × Int)) (hk : k < l.length) (h : c.over = false) : untilP g m c (l.drop k) = ((untilP g m (stepP g m c (l.getD k (0, 0)).1 (l.getD k (0, 0)).2).1 (l.drop (k + 1))).1, (stepP g m c (l.getD k (0, 0)).1 (l.getD k (0, 0)).2).2 :: (untilP g m (stepP g m c (l.getD k (0, 0)).1 (l.getD k (0, 0)).2).1 (l.drop (k + 1))).2) := by
  rw [List.drop_eq_getElem_cons hk, List.getD_eq_getElem?_getD, List.getElem?_eq_getElem hk]
  conv => lhs; unfold untilP
  rw [if_neg (by rw [h]; decide)]
  rfl
/-- a drain, t steps on (or over) -/
structure DrSt (g n m N : Nat) (c0 : Cw) (t : Nat) (c : Cw) (ds : List Ev) : Prop where
  inv : ∃ done G, CwI g n m c done G
  st : c.st = c0.st + ds.length
  id : c.id ≤ c0.id + ds.length
  len : ds.length ≤ N
  at_ : (c.over = true ∧ drainP g m N 0 c0 = (c, ds)) ∨ (c.over = false ∧ t ≤ N ∧ ds.length = t ∧ drainP g m N 0 c0 = ((drainP g m (N - t) t c).1, ds ++ (drainP g m (N - t) t c).2))
theorem DrSt.start {g n m N : Nat} {c0 : Cw} (h : ∃ done G, CwI g n m c0 done G) : DrSt g n m N c0 0 c0 [] := by
  refine ⟨h, rfl, Nat.le_refl _, Nat.zero_le _, ?_⟩
  cases ho : c0.over with
  | true => exact .inl ⟨rfl, drainP_ov _ _ _ _ _ ho⟩
  | false => exact .inr ⟨rfl, Nat.zero_le _, rfl, by simp⟩
theorem DrSt.skip {g n m N : Nat} {c0 : Cw} {t : Nat} {c : Cw} {ds : List Ev} (h : DrSt g n m N c0 t c ds) (ho : c.over = true) (t' : Nat) : DrSt g n m N c0 t' c ds := by
  obtain ⟨h1, h2, h3, h4, h5⟩ := h
  rcases h5 with h5 | ⟨h5, _⟩
  · exact ⟨h1, h2, h3, h4, .inl h5⟩
  · rw [ho] at h5; cases h5
theorem DrSt.done {g n m N : Nat} {c0 : Cw} {t : Nat} {c : Cw} {ds : List Ev} (h : DrSt g n m N c0 t c ds) (ho : c.over = true) : drainP g m N 0 c0 = (c, ds) := by
  rcases h.at_ with h5 | ⟨h5, _⟩
  · exact h5.2
  · rw [ho] at h5; cases h5
theorem DrSt.lt {g n m N : Nat} {c0 : Cw} {t : Nat} {c : Cw} {ds : List Ev} (h : DrSt g n m N c0 t c ds) (ho : c.over = false) (he : (drainP g m N 0 c0).1.over = true) : t < N ∧ ds.length = t := by
  rcases h.at_ with ⟨h5, _⟩ | ⟨_, h6, h7, h8⟩
  · rw [ho] at h5; cases h5
  · refine ⟨?_, h7⟩
    rcases Nat.lt_or_ge t N with h9 | h9
    · exact h9
    · exfalso
      rw [h8, show N - t = 0 by omega] at he
      have h5 : c.over = true := he
      rw [ho] at h5; cases h5
theorem DrSt.step {g n m N : Nat} {c0 : Cw} {t : Nat} {c : Cw} {ds : List Ev} (hg : 1 ≤ g) (hm : 1 ≤ m) (h : DrSt g n m N c0 t c ds) (ho : c.over = false) (he : (drainP g m N 0 c0).1.over = true) : DrSt g n m N c0 (t + 1) (stepP g m c (dpick m t).1 (dpick m t).2).1 (ds ++ [(stepP g m c (dpick m t).1 (dpick m t).2).2]) := by
  obtain ⟨hlt, hlen⟩ := h.lt ho he
  obtain ⟨h1, h2, h3, h4, h5⟩ := h
  obtain ⟨s1, s2, s3⟩ := stepP_st g m c (dpick m t).1 (dpick m t).2
  obtain ⟨d, G, hI⟩ := h1
  rcases h5 with ⟨h5, _⟩ | ⟨_, h6, h7, h8⟩
  · rw [ho] at h5; cases h5
  · rw [show N - t = (N - (t + 1)) + 1 by omega, drainP_nx _ _ _ _ _ ho] at h8
    refine ⟨hI.stepD hg hm _ _, by rw [List.length_append]; simp only [List.length_singleton]; omega, by rw [List.length_append]; simp only [List.length_singleton]; omega, by rw [List.length_append]; simp only [List.length_singleton]; omega, ?_⟩
    cases ho' : (stepP g m c (dpick m t).1 (dpick m t).2).1.over with
    | true =>
      refine .inl ⟨rfl, ?_⟩
      rw [h8, drainP_ov _ _ _ _ _ ho']
    | false =>
      refine .inr ⟨rfl, by omega, by rw [List.length_append]; simp only [List.length_singleton]; omega, ?_⟩
      rw [h8, List.append_assoc]
      rfl
/-- picks, k of them on -/
structure UnSt (g n m : Nat) (picks : List (Int × Int)) (k : Nat) (c : Cw) (evs : List Ev) : Prop where
  been : Been g n m c evs
  eq : untilP g m (beginC n m) picks = ((untilP g m c (picks.drop k)).1, evs ++ (untilP g m c (picks.drop k)).2)
  len : evs.length ≤ k
theorem UnSt.start {g n m : Nat} {picks : List (Int × Int)} (hn : 1 ≤ n) (hm : 1 ≤ m) : UnSt g n m picks 0 (beginC n m) [] := ⟨Been.begin g n m hn hm, by simp, Nat.le_refl _⟩
theorem UnSt.step {g n m : Nat} {picks : List (Int × Int)} {k : Nat} {c : Cw} {evs : List Ev} (hg : 1 ≤ g) (hm : 1 ≤ m) (h : UnSt g n m picks k c evs) (hk : k < picks.length) (ho : c.over = false) : UnSt g n m picks (k + 1) (stepP g m c (picks.getD k (0, 0)).1 (picks.getD k (0, 0)).2).1 (evs ++ [(stepP g m c (picks.getD k (0, 0)).1 (picks.getD k (0, 0)).2).2]) := by
  refine ⟨h.been.step hg hm _ _, ?_, by have := h.len; rw [List.length_append]; simp only [List.length_singleton]; omega⟩
  rw [h.eq, untilP_nx g m k c picks hk ho, List.append_assoc]
  rfl
theorem UnSt.over {g n m : Nat} {picks : List (Int × Int)} {k : Nat} {c : Cw} {evs : List Ev} (h : UnSt g n m picks k c evs) (ho : c.over = true) : untilP g m (beginC n m) picks = (c, evs) := by
  rw [h.eq, untilP_ov _ _ _ _ ho]; simp
theorem UnSt.done {g n m : Nat} {picks : List (Int × Int)} {k : Nat} {c : Cw} {evs : List Ev} (h : UnSt g n m picks k c evs) (hk : picks.length ≤ k) : untilP g m (beginC n m) picks = (c, evs) := by
  rw [h.eq, List.drop_of_length_le hk]; simp [untilP]
end Go.Proofs.YtkpbanfpnilifaaGreat.Plain

/- The program's drain: a round, picks, to the end. Written by wip/mk_d6b.py. -/
namespace Go.Proofs.YtkpbanfpnilifaaGreat
open Go.BigFrame
open Go.RowKit Go.Proofs.YtkpbanfpnilifaaGreat.Plain

/-- what some steps of a drain leave -/
def DOnSaid (S : Nat → Prop) (V g n m N t : Nat) (c0 : Cw) (evs0 : List Ev) (w : World) (ed : Ending) (w' : World) : Prop :=
  ∃ (c : Cw) (ds : List Ev) (v : Value) (A B : Option Addr) (e0 eo a b e : Nat), ed = .returned (.int .i64 0) ∧ DrSt g n m N c0 t c ds ∧ DG S w' V g m c (evs0 ++ ds) v A B e0 eo a b e ∧ Grew (fun x => V ≤ x) w w'
theorem held_few {g n m : Nat} {c : Cw} (hg : 1 ≤ g) (hn : 1 ≤ n) (n2 : n ≤ 900) (h : ∃ done G, CwI g n m c done G) : (held c.D).length ≤ 4000 := by
  obtain ⟨d, G, hI⟩ := h
  have h1 := (CrI.fresh hI).2.2.2
  have h2 := hI.few hg hn
  omega
set_option maxHeartbeats 1600000 in
set_option maxRecDepth 100000 in
theorem dround_any (S : Nat → Prop) (V g n m N k : Nat) (c0 c : Cw) (evs0 ds : List Ev) (v : Value) (A B : Option Addr) (e0 eo a b e : Nat) (w : World) (hS : ∀ x, S x → x < V) (h : DG S w V g m c (evs0 ++ ds) v A B e0 eo a b e) (hD : DrSt g n m N c0 (k * m) c ds) (he : (drainP g m N 0 c0).1.over = true)
    (n1 : 1 ≤ n) (n2 : n ≤ 900) (g1 : 1 ≤ g) (g2 : g ≤ 100) (m1 : 1 ≤ m) (m2 : m ≤ 8) (hst : c0.st + N ≤ 100000) (hid : c0.id + N ≤ 100000) (hl : evs0.length + N ≤ 200000) (hk : k ≤ 50000) :
    Calls Tryz.prog 68 #[.pointer (some ⟨V, 0, none⟩), .int .i64 k] w (DOnSaid S V g n m N ((k + 1) * m) c0 evs0 w) := by
  have H := Lib.hid h
  have HD := Lib.hid hD
  have HS := Lib.hid hS
  have HO := Lib.hid he
  have hk0 : (0 : Int) ≤ k := by omega
  have hk1 : (k : Int) ≤ 50000 := by omega
  have m3 : (m : Int) ≤ 8 := by omega
  have k0 : w.cell? ⟨V, 0, none⟩ = some (.slice A c.ts.length a) := (cell_of_row w (V) 0 _ _ _ h.box).trans rfl
  have k1 : w.cell? ⟨V, 1, none⟩ = some (.int .i64 g) := (cell_of_row w (V) 1 _ _ _ h.box).trans rfl
  have k2 : w.cell? ⟨V, 2, none⟩ = some (.slice B c.dn.length b) := (cell_of_row w (V) 2 _ _ _ h.box).trans rfl
  have k3 : w.cell? ⟨V, 3, none⟩ = some (.slice (some ⟨e0, eo, none⟩) m e) := (cell_of_row w (V) 3 _ _ _ h.box).trans rfl
  have k4 : w.cell? ⟨V, 4, none⟩ = some (.bool c.over) := (cell_of_row w (V) 4 _ _ _ h.box).trans rfl
  have k5 : w.cell? ⟨V, 5, none⟩ = some (.int .i64 c.st) := (cell_of_row w (V) 5 _ _ _ h.box).trans rfl
  have k6 : w.cell? ⟨V, 6, none⟩ = some (.int .i64 c.id) := (cell_of_row w (V) 6 _ _ _ h.box).trans rfl
  have k7 : w.cell? ⟨V, 7, none⟩ = some (v) := (cell_of_row w (V) 7 _ _ _ h.box).trans rfl
  have kf := fun o => frozen_of_row w (V) o _ _ h.box
  have lV := blk_lt h.box
  clear h hD hS he
  go_enter Tryz.func68, Tryz.ntmps68
  go_wp2_with fail
  go_loopw [13] (fun i wr => ∃ j : Nat, j ≤ m ∧ i = .int .i64 j ∧ ∃ (c1 : Cw) (ds1 : List Ev) (v1 : Value) (A1 B1 : Option Addr) (e1 o1 a1 b1 q1 : Nat), DrSt g n m N c0 (k * m + j) c1 ds1 ∧ DG S wr V g m c1 (evs0 ++ ds1) v1 A1 B1 e1 o1 a1 b1 q1 ∧ Grew (fun x => V ≤ x) w wr) (fun i _ => m - (intOf i).toNat)
  case atStart => exact ⟨0, Nat.zero_le _, rfl, _, _, _, _, _, _, _, _, _, _, HD.out, H.out, Grew.refl _ _⟩
  case round =>
    clear k0 k1 k2 k3 k4 k5 k6 k7 kf
    obtain ⟨j, hj, rfl, c1, ds1, v1, A1, B1, e1, o1, a1, b1, q1, hD1, hG1, hW1⟩ := hrel
    have HD1 := Lib.hid hD1
    have HG1 := Lib.hid hG1
    have HW1 := Lib.hid hW1
    have hj0 : (0 : Int) ≤ j := by omega
    have hj8 : (j : Int) ≤ 8 := by omega
    have k0 : wr.cell? ⟨V, 0, none⟩ = some (.slice A1 c1.ts.length a1) := (cell_of_row wr (V) 0 _ _ _ hG1.box).trans rfl
    have k1 : wr.cell? ⟨V, 1, none⟩ = some (.int .i64 g) := (cell_of_row wr (V) 1 _ _ _ hG1.box).trans rfl
    have k2 : wr.cell? ⟨V, 2, none⟩ = some (.slice B1 c1.dn.length b1) := (cell_of_row wr (V) 2 _ _ _ hG1.box).trans rfl
    have k3 : wr.cell? ⟨V, 3, none⟩ = some (.slice (some ⟨e1, o1, none⟩) m q1) := (cell_of_row wr (V) 3 _ _ _ hG1.box).trans rfl
    have k4 : wr.cell? ⟨V, 4, none⟩ = some (.bool c1.over) := (cell_of_row wr (V) 4 _ _ _ hG1.box).trans rfl
    have k5 : wr.cell? ⟨V, 5, none⟩ = some (.int .i64 c1.st) := (cell_of_row wr (V) 5 _ _ _ hG1.box).trans rfl
    have k6 : wr.cell? ⟨V, 6, none⟩ = some (.int .i64 c1.id) := (cell_of_row wr (V) 6 _ _ _ hG1.box).trans rfl
    have k7 : wr.cell? ⟨V, 7, none⟩ = some (v1) := (cell_of_row wr (V) 7 _ _ _ hG1.box).trans rfl
    have kf := fun o => frozen_of_row wr (V) o _ _ hG1.box
    have lV1 := blk_lt hG1.box
    clear hD1 hG1 hW1
    by_cases hlt : j < m
    · have hlt' : (j : Int) < m := by omega
      cases hov : c1.over with
      | true =>
        rw [hov] at k4
        have HOV := Lib.hid hov
        clear hov
        go_wp2_with fail
        go_ret
        exact ⟨c1, ds1, v1, A1, B1, e1, o1, a1, b1, q1, rfl, HD1.out.skip HOV.out _, HG1.out, HW1.out⟩
      | false =>
        have HOV := Lib.hid hov
        have hpos : 0 < (held c1.D).length := by
          obtain ⟨d1, G1, hI1⟩ := HD1.out.inv
          exact (CrI.over_iff hI1).2 hov
        have hfew := held_few g1 n1 n2 HD1.out.inv
        obtain ⟨htN, htl⟩ := HD1.out.lt hov HO.out
        have HPF := Lib.hid (And.intro hpos hfew)
        have HTN := Lib.hid (And.intro htN htl)
        rw [hov] at k4
        clear hov hpos hfew htN htl
        go_wp2_with fail
        refine (dholds_yes S V g m c1 _ v1 A1 B1 e1 o1 a1 b1 q1 wr HG1.out m1 m2 HPF.out.1 (by have := HPF.out.2; omega)).mono ?_
        rintro ed w2 ⟨rfl, hE2⟩
        have HE2 := Lib.hid hE2
        clear hE2 k0 k1 k2 k3 k4 k5 k6 k7 kf
        go_wp2_with fail
        refine (dstep_any S V g n m c1 (evs0 ++ ds1) v1 A1 B1 e1 o1 a1 b1 q1 (j : Int) ((j : Int) + 1 + k) w2 HS.out (HG1.out.ext HE2.out) HD1.out.inv n1 n2 g1 g2 m1 m2 (by have := HD1.out.st; have := HTN.out; omega) (by have := HD1.out.id; have := HTN.out; omega) (by unfold in64; omega) (by unfold in64; omega) (by have := HTN.out; rw [List.length_append]; omega)).mono ?_
        have HDN : Hid (DrSt g n m N c0 (k * m + (j + 1)) (stepP g m c1 (j : Int) ((j : Int) + 1 + k)).1 (ds1 ++ [(stepP g m c1 (j : Int) ((j : Int) + 1 + k)).2])) := Lib.hid (by
          have h9 := HD1.out.step g1 m1 HOV.out HO.out
          rw [dpick_eq m k j hlt] at h9
          exact h9)
        obtain ⟨⟨c5, ev⟩, hr⟩ : ∃ x, stepP g m c1 (j : Int) ((j : Int) + 1 + k) = x := ⟨_, rfl⟩
        rw [hr] at HDN ⊢
        rintro ed w3 ⟨v3, A3, B3, e3, a3, b3, rfl, hG3, hW3⟩
        rw [List.append_assoc] at hG3
        have HG3 := Lib.hid hG3
        have HW3 := Lib.hid hW3
        have HDN' : Hid (DrSt g n m N c0 (k * m + (j + 1)) c5 (ds1 ++ [ev])) := HDN
        clear hr hG3 hW3
        go_wp2_with fail
        go_roundw
        case rel => exact ⟨j + 1, by omega, by go_num, c5, ds1 ++ [ev], v3, A3, B3, e3, 0, a3, b3, m, HDN'.out, HG3.out, (HW1.out.ext HE2.out).trans HW3.out⟩
        case measure => simp [intOf]; omega
    · obtain rfl : j = m := by omega
      go_wp2_with fail
      go_ret
      exact ⟨c1, ds1, v1, A1, B1, e1, o1, a1, b1, q1, rfl, by rw [Nat.succ_mul]; exact HD1.out, HG1.out, HW1.out⟩

/-- what a drain leaves -/
def DEndSaid (S : Nat → Prop) (V g m : Nat) (r : Cw × List Ev) (evs0 : List Ev) (w : World) (ed : Ending) (w' : World) : Prop :=
  ∃ (v : Value) (A B : Option Addr) (e0 eo a b e : Nat), ed = .returned (.int .i64 0) ∧ DG S w' V g m r.1 (evs0 ++ r.2) v A B e0 eo a b e ∧ Grew (fun x => V ≤ x) w w'
set_option maxHeartbeats 1600000 in
set_option maxRecDepth 100000 in
theorem ddrain_any (S : Nat → Prop) (V g n m N : Nat) (c0 : Cw) (evs0 : List Ev) (v : Value) (A B : Option Addr) (e0 eo a b e : Nat) (w : World) (hS : ∀ x, S x → x < V) (h : DG S w V g m c0 evs0 v A B e0 eo a b e) (hI : ∃ done G, CwI g n m c0 done G) (he : (drainP g m N 0 c0).1.over = true)
    (n1 : 1 ≤ n) (n2 : n ≤ 900) (g1 : 1 ≤ g) (g2 : g ≤ 100) (m1 : 1 ≤ m) (m2 : m ≤ 8) (hst : c0.st + N ≤ 100000) (hid : c0.id + N ≤ 100000) (hl : evs0.length + N ≤ 200000) (hN : N ≤ 50000) :
    Calls Tryz.prog 58 #[.pointer (some ⟨V, 0, none⟩)] w (DEndSaid S V g m (drainP g m N 0 c0) evs0 w) := by
  have H := Lib.hid h
  have HI := Lib.hid hI
  have HS := Lib.hid hS
  have HO := Lib.hid he
  clear h hI hS he
  go_enter Tryz.func58, Tryz.ntmps58
  go_wp2_with fail
  go_loopw [3] (fun i wr => ∃ k : Nat, k ≤ N ∧ i = .int .i64 k ∧ ∃ (c1 : Cw) (ds1 : List Ev) (v1 : Value) (A1 B1 : Option Addr) (e1 o1 a1 b1 q1 : Nat), DrSt g n m N c0 (k * m) c1 ds1 ∧ DG S wr V g m c1 (evs0 ++ ds1) v1 A1 B1 e1 o1 a1 b1 q1 ∧ Grew (fun x => V ≤ x) w wr) (fun i _ => N - (intOf i).toNat)
  case atStart => exact ⟨0, Nat.zero_le _, rfl, c0, [], v, A, B, e0, eo, a, b, e, by rw [Nat.zero_mul]; exact DrSt.start HI.out, by rw [List.append_nil]; exact H.out, Grew.refl _ _⟩
  case round =>
    obtain ⟨k, hk, rfl, c1, ds1, v1, A1, B1, e1, o1, a1, b1, q1, hD1, hG1, hW1⟩ := hrel
    have HD1 := Lib.hid hD1
    have HG1 := Lib.hid hG1
    have HW1 := Lib.hid hW1
    have hk0 : (0 : Int) ≤ k := by omega
    have hk1 : (k : Int) ≤ 50000 := by omega
    have k0 : wr.cell? ⟨V, 0, none⟩ = some (.slice A1 c1.ts.length a1) := (cell_of_row wr (V) 0 _ _ _ hG1.box).trans rfl
    have k1 : wr.cell? ⟨V, 1, none⟩ = some (.int .i64 g) := (cell_of_row wr (V) 1 _ _ _ hG1.box).trans rfl
    have k2 : wr.cell? ⟨V, 2, none⟩ = some (.slice B1 c1.dn.length b1) := (cell_of_row wr (V) 2 _ _ _ hG1.box).trans rfl
    have k3 : wr.cell? ⟨V, 3, none⟩ = some (.slice (some ⟨e1, o1, none⟩) m q1) := (cell_of_row wr (V) 3 _ _ _ hG1.box).trans rfl
    have k4 : wr.cell? ⟨V, 4, none⟩ = some (.bool c1.over) := (cell_of_row wr (V) 4 _ _ _ hG1.box).trans rfl
    have k5 : wr.cell? ⟨V, 5, none⟩ = some (.int .i64 c1.st) := (cell_of_row wr (V) 5 _ _ _ hG1.box).trans rfl
    have k6 : wr.cell? ⟨V, 6, none⟩ = some (.int .i64 c1.id) := (cell_of_row wr (V) 6 _ _ _ hG1.box).trans rfl
    have k7 : wr.cell? ⟨V, 7, none⟩ = some (v1) := (cell_of_row wr (V) 7 _ _ _ hG1.box).trans rfl
    have kf := fun o => frozen_of_row wr (V) o _ _ hG1.box
    have lV1 := blk_lt hG1.box
    clear hD1 hG1 hW1
    cases hov : c1.over with
    | true =>
      rw [hov] at k4
      have HEQ := Lib.hid (HD1.out.done hov)
      clear hov
      go_wp2_with fail
      go_ret
      rw [HEQ.out]
      exact ⟨v1, A1, B1, e1, o1, a1, b1, q1, rfl, HG1.out, HW1.out⟩
    | false =>
      have hlt : k < N := by
        have h1 := (HD1.out.lt hov HO.out).1
        have h2 : k ≤ k * m := Nat.le_mul_of_pos_right k m1
        omega
      rw [hov] at k4
      clear hov
      go_wp2_with fail
      refine (dround_any S V g n m N k c0 c1 evs0 ds1 v1 A1 B1 e1 o1 a1 b1 q1 wr HS.out HG1.out HD1.out HO.out n1 n2 g1 g2 m1 m2 hst hid hl (by omega)).mono ?_
      rintro ed w3 ⟨c3, ds3, v3, A3, B3, e3, o3, a3, b3, q3, rfl, hD3, hG3, hW3⟩
      have HD3 := Lib.hid hD3
      have HG3 := Lib.hid hG3
      have HW3 := Lib.hid hW3
      clear hD3 hG3 hW3 k0 k1 k2 k3 k4 k5 k6 k7 kf
      go_wp2_with fail
      go_roundw
      case rel => exact ⟨k + 1, by omega, by go_num, c3, ds3, v3, A3, B3, e3, o3, a3, b3, q3, HD3.out, HG3.out, HW1.out.trans HW3.out⟩
      case measure => simp [intOf]; omega
set_option maxHeartbeats 1600000 in
set_option maxRecDepth 100000 in
theorem dpick_any (S : Nat → Prop) (V g n m cp : Nat) (Ap : Option Addr) (picks : List (Int × Int)) (v : Value) (A B : Option Addr) (e0 eo a b e : Nat) (w : World) (hS : ∀ x, S x → x < V) (h : DG S w V g m (beginC n m) [] v A B e0 eo a b e) (hp : RdO kPk (fun x => V ≤ x) w (.slice Ap picks.length cp) picks)
    (n1 : 1 ≤ n) (n2 : n ≤ 900) (g1 : 1 ≤ g) (g2 : g ≤ 100) (m1 : 1 ≤ m) (m2 : m ≤ 8) (hl : picks.length ≤ 50000) :
    Calls Tryz.prog 57 #[.pointer (some ⟨V, 0, none⟩), .slice Ap picks.length cp] w (DEndSaid S V g m (untilP g m (beginC n m) picks) [] w) := by
  have H := Lib.hid h
  have HS := Lib.hid hS
  have HP := Lib.hid hp
  have hl' : (picks.length : Int) ≤ 50000 := by omega
  clear h hS hp
  go_enter Tryz.func57, Tryz.ntmps57
  go_wp2_with fail
  go_loopw [10] (fun i wr => ∃ k : Nat, k ≤ picks.length ∧ i = .int .i64 k ∧ ∃ (c1 : Cw) (evs1 : List Ev) (v1 : Value) (A1 B1 : Option Addr) (e1 o1 a1 b1 q1 : Nat), UnSt g n m picks k c1 evs1 ∧ DG S wr V g m c1 evs1 v1 A1 B1 e1 o1 a1 b1 q1 ∧ Grew (fun x => V ≤ x) w wr) (fun i _ => picks.length - (intOf i).toNat)
  case atStart => exact ⟨0, Nat.zero_le _, rfl, _, _, _, _, _, _, _, _, _, _, UnSt.start n1 m1, H.out, Grew.refl _ _⟩
  case round =>
    obtain ⟨k, hk, rfl, c1, evs1, v1, A1, B1, e1, o1, a1, b1, q1, hD1, hG1, hW1⟩ := hrel
    have HD1 := Lib.hid hD1
    have HG1 := Lib.hid hG1
    have HW1 := Lib.hid hW1
    have hk0 : (0 : Int) ≤ k := by omega
    have k0 : wr.cell? ⟨V, 0, none⟩ = some (.slice A1 c1.ts.length a1) := (cell_of_row wr (V) 0 _ _ _ hG1.box).trans rfl
    have k1 : wr.cell? ⟨V, 1, none⟩ = some (.int .i64 g) := (cell_of_row wr (V) 1 _ _ _ hG1.box).trans rfl
    have k2 : wr.cell? ⟨V, 2, none⟩ = some (.slice B1 c1.dn.length b1) := (cell_of_row wr (V) 2 _ _ _ hG1.box).trans rfl
    have k3 : wr.cell? ⟨V, 3, none⟩ = some (.slice (some ⟨e1, o1, none⟩) m q1) := (cell_of_row wr (V) 3 _ _ _ hG1.box).trans rfl
    have k4 : wr.cell? ⟨V, 4, none⟩ = some (.bool c1.over) := (cell_of_row wr (V) 4 _ _ _ hG1.box).trans rfl
    have k5 : wr.cell? ⟨V, 5, none⟩ = some (.int .i64 c1.st) := (cell_of_row wr (V) 5 _ _ _ hG1.box).trans rfl
    have k6 : wr.cell? ⟨V, 6, none⟩ = some (.int .i64 c1.id) := (cell_of_row wr (V) 6 _ _ _ hG1.box).trans rfl
    have k7 : wr.cell? ⟨V, 7, none⟩ = some (v1) := (cell_of_row wr (V) 7 _ _ _ hG1.box).trans rfl
    have kf := fun o => frozen_of_row wr (V) o _ _ hG1.box
    have lV1 := blk_lt hG1.box
    clear hD1 hG1
    by_cases hlt : k < picks.length
    · have hlt' : (k : Int) < picks.length := by omega
      have HRP := Lib.hid (HP.out wr hW1)
      obtain ⟨bp, op, rfl, hcp⟩ := Rd.picks HRP.out (by omega)
      obtain ⟨z0, z1⟩ := hcp k hlt
      have hok := HRP.out.okAt k hlt
      obtain ⟨⟨p, q⟩, hpq⟩ : ∃ x, picks.getD k (0, 0) = x := ⟨_, rfl⟩
      rw [hpq] at z0 z1
      have HOK : Hid (in64 p ∧ in64 q) := Lib.hid (by have h9 : picks.getD k kPk.d = (p, q) := hpq; rw [h9] at hok; exact hok)
      simp only at z0 z1
      have HPQ := Lib.hid hpq
      have lbp : bp < wr.heap.size := World.block_lt_of_cell? _ _ z0
      clear hcp hok hpq hW1
      cases hov : c1.over with
      | true =>
        rw [hov] at k4
        have HEQ := Lib.hid (HD1.out.over hov)
        clear hov
        go_wp2_with fail
        go_ret
        rw [HEQ.out]
        exact ⟨v1, A1, B1, e1, o1, a1, b1, q1, rfl, HG1.out.ext ((Ext.refl _).alloc _), HW1.out.alloc _⟩
      | false =>
        have HDN : Hid (UnSt g n m picks (k + 1) (stepP g m c1 p q).1 (evs1 ++ [(stepP g m c1 p q).2])) := Lib.hid (by
          have h9 := HD1.out.step g1 m1 hlt hov
          rw [HPQ.out] at h9
          exact h9)
        rw [hov] at k4
        clear hov
        go_wp2_with fail
        refine (dstep_any S V g n m c1 evs1 v1 A1 B1 e1 o1 a1 b1 q1 p q _ HS.out (HG1.out.ext ((Ext.refl _).alloc _)) ⟨_, _, HD1.out.been.inv.choose_spec⟩ n1 n2 g1 g2 m1 m2 (by have := HD1.out.been.st; have := HD1.out.len; omega) (by have := HD1.out.been.id; have := HD1.out.len; omega) HOK.out.1 HOK.out.2 (by have := HD1.out.len; omega)).mono ?_
        obtain ⟨⟨c5, ev⟩, hr⟩ : ∃ x, stepP g m c1 p q = x := ⟨_, rfl⟩
        rw [hr] at HDN ⊢
        rintro ed w3 ⟨v3, A3, B3, e3, a3, b3, rfl, hG3, hW3⟩
        have HG3 := Lib.hid hG3
        have HW3 := Lib.hid hW3
        have HDN' : Hid (UnSt g n m picks (k + 1) c5 (evs1 ++ [ev])) := HDN
        clear hr hG3 hW3 k0 k1 k2 k3 k4 k5 k6 k7 kf z0 z1
        go_wp2_with fail
        go_roundw
        case rel => exact ⟨k + 1, by omega, by go_num, c5, evs1 ++ [ev], v3, A3, B3, e3, 0, a3, b3, m, HDN'.out, HG3.out, (HW1.out.alloc _).trans HW3.out⟩
        case measure => simp [intOf]; omega
    · have HEQ := Lib.hid (HD1.out.done (by omega))
      obtain rfl : k = picks.length := by omega
      clear hW1
      go_wp2_with fail
      go_ret
      rw [HEQ.out]
      exact ⟨v1, A1, B1, e1, o1, a1, b1, q1, rfl, HG1.out, HW1.out⟩
end Go.Proofs.YtkpbanfpnilifaaGreat

/- The program's Whole: from the beginning to the end. Written by wip/mk_d6c.py. -/
namespace Go.Proofs.YtkpbanfpnilifaaGreat
open Go.BigFrame
open Go.RowKit Go.Proofs.YtkpbanfpnilifaaGreat.Plain

/-- a crew's box -/
structure D6Box (w : World) (R : Nat) (A B : Option Addr) (e0 eo a b e g m : Nat) (c : Cw) : Prop where
  v0 : w.cell? ⟨R, 0, none⟩ = some (.slice A c.ts.length a)
  v1 : w.cell? ⟨R, 1, none⟩ = some (.int .i64 g)
  v2 : w.cell? ⟨R, 2, none⟩ = some (.slice B c.dn.length b)
  v3 : w.cell? ⟨R, 3, none⟩ = some (.slice (some ⟨e0, eo, none⟩) m e)
  v4 : w.cell? ⟨R, 4, none⟩ = some (.bool c.over)
  v5 : w.cell? ⟨R, 5, none⟩ = some (.int .i64 c.st)
  v6 : w.cell? ⟨R, 6, none⟩ = some (.int .i64 c.id)
theorem D6Box.one {w : World} {R : Nat} {A B : Option Addr} {e0 eo a b e g m : Nat} {c : Cw} {p0 p1 p2 p3 p4 p5 p6 : Value} (r0 : w.cell? ⟨R, 0, none⟩ = some p0) (r1 : w.cell? ⟨R, 1, none⟩ = some p1) (r2 : w.cell? ⟨R, 2, none⟩ = some p2) (r3 : w.cell? ⟨R, 3, none⟩ = some p3) (r4 : w.cell? ⟨R, 4, none⟩ = some p4) (r5 : w.cell? ⟨R, 5, none⟩ = some p5) (r6 : w.cell? ⟨R, 6, none⟩ = some p6) : D6Box (World.drew (((((((w.setCell ⟨R, 0, none⟩ (.slice A c.ts.length a)).setCell ⟨R, 1, none⟩ (.int .i64 g)).setCell ⟨R, 2, none⟩ (.slice B c.dn.length b)).setCell ⟨R, 3, none⟩ (.slice (some ⟨e0, eo, none⟩) m e)).setCell ⟨R, 4, none⟩ (.bool c.over)).setCell ⟨R, 5, none⟩ (.int .i64 c.st)).setCell ⟨R, 6, none⟩ (.int .i64 c.id))) R A B e0 eo a b e g m c ∧ Grew (fun x => x = R) w (World.drew (((((((w.setCell ⟨R, 0, none⟩ (.slice A c.ts.length a)).setCell ⟨R, 1, none⟩ (.int .i64 g)).setCell ⟨R, 2, none⟩ (.slice B c.dn.length b)).setCell ⟨R, 3, none⟩ (.slice (some ⟨e0, eo, none⟩) m e)).setCell ⟨R, 4, none⟩ (.bool c.over)).setCell ⟨R, 5, none⟩ (.int .i64 c.st)).setCell ⟨R, 6, none⟩ (.int .i64 c.id))) := by
  refine ⟨⟨by go_simp, by go_simp, by go_simp, by go_simp, by go_simp, by go_simp, by go_simp⟩, Grew.drew (Grew.setCell (S := fun x => x = R) (p := ⟨R, 6, none⟩) (Grew.setCell (S := fun x => x = R) (p := ⟨R, 5, none⟩) (Grew.setCell (S := fun x => x = R) (p := ⟨R, 4, none⟩) (Grew.setCell (S := fun x => x = R) (p := ⟨R, 3, none⟩) (Grew.setCell (S := fun x => x = R) (p := ⟨R, 2, none⟩) (Grew.setCell (S := fun x => x = R) (p := ⟨R, 1, none⟩) (Grew.setCell (S := fun x => x = R) (p := ⟨R, 0, none⟩) (Grew.refl _ _) rfl _) rfl _) rfl _) rfl _) rfl _) rfl _) rfl _)⟩
/-- what Whole leaves -/
def DWholeSaid (g m : Nat) (r : Cw × List Ev) (w : World) (ed : Ending) (w' : World) : Prop :=
  ∃ (A B L : Option Addr) (e0 eo a b e l : Nat), m ≤ e ∧ ed = .returned (.tuple #[crewV A B e0 eo a b e g m r.1, .slice L r.2.length l, .int .i64 0]) ∧ CrewAt w' m r.1 A B e0 eo a b ∧ Ow kEv w.heap.size w' (.slice L r.2.length l) r.2 ∧ Ext w w'
set_option maxHeartbeats 1600000 in
set_option maxRecDepth 100000 in
theorem dwhole_any (n g m : Nat) (Ap : Option Addr) (cp : Nat) (picks : List (Int × Int)) (w : World) (hp : Rd kPk w (.slice Ap picks.length cp) picks) (n1 : 1 ≤ n) (n2 : n ≤ 900) (g1 : 1 ≤ g) (g2 : g ≤ 100) (m1 : 1 ≤ m) (m2 : m ≤ 8) (hl : picks.length ≤ 4000) :
    Calls Tryz.prog 44 #[.int .i64 n, .int .i64 g, .int .i64 m, .slice Ap picks.length cp] w (DWholeSaid g m (wholeP g n m picks) w) := by
  have HP := Lib.hid hp
  obtain ⟨r, hr⟩ : ∃ r, wholeP g n m picks = r := ⟨_, rfl⟩
  have HR := Lib.hid hr
  rw [hr]
  clear hp hr
  go_enter Tryz.func44, Tryz.ntmps44
  go_wp2_with fail
  refine (cbegin_off n g m _ n1 (by omega) g1 g2 m1 m2).mono ?_
  obtain ⟨c0, hc0⟩ : ∃ x, beginC n m = x := ⟨_, rfl⟩
  have HC0 := Lib.hid hc0
  rintro ed w2 ⟨A0, B0, e0, a0, b0, rfl, hC, hE⟩
  rw [hc0] at hC ⊢
  have HRS := Lib.hid (block_keep (heap_alloc_new w (.cells #[.slice none 0 0, .int .i64 0, .slice none 0 0, .slice none 0 0, .bool false, .int .i64 0, .int .i64 0] 81)) hE)
  have hz := hE.size
  simp at hz
  have HX2 := Lib.hid (((Ext.refl w).alloc _).trans hE)
  have HC := Lib.hid hC
  obtain ⟨V, hV⟩ : ∃ V, w2.heap.size + 1 = V := ⟨_, rfl⟩
  clear hC hE hc0
  go_wp2_with fail
  have HDG : Hid (DG (fun x => x = w.heap.size) (((w2.alloc (.cells #[.slice A0 c0.ts.length a0, .int .i64 g, .slice B0 c0.dn.length b0, .slice (some ⟨e0, 0, none⟩) m m, .bool c0.over, .int .i64 c0.st, .int .i64 c0.id] 81)).alloc (.cells #[.slice A0 c0.ts.length a0, .int .i64 g, .slice B0 c0.dn.length b0, .slice (some ⟨e0, 0, none⟩) m m, .bool c0.over, .int .i64 c0.st, .int .i64 c0.id, .slice none 0 0] 102))) V g m (beginC n m) [] (.slice none 0 0) A0 B0 e0 0 a0 b0 m) := Lib.hid (by
    rw [HC0.out, ← hV]
    refine ⟨Nat.le_refl _, heap_alloc2_new w2 _ _, HC.out.later m1 (Grew.of (((Ext.refl _).alloc _).alloc _)) (fun x hx hT => ?_), Ow.nil _ _⟩
    rcases hT with hT | hT | hT
    · simp; omega
    · omega
    · cases hT)
  have HRP : Hid (RdO kPk (fun x => V ≤ x) (((w2.alloc (.cells #[.slice A0 c0.ts.length a0, .int .i64 g, .slice B0 c0.dn.length b0, .slice (some ⟨e0, 0, none⟩) m m, .bool c0.over, .int .i64 c0.st, .int .i64 c0.id] 81)).alloc (.cells #[.slice A0 c0.ts.length a0, .int .i64 g, .slice B0 c0.dn.length b0, .slice (some ⟨e0, 0, none⟩) m m, .bool c0.over, .int .i64 c0.st, .int .i64 c0.id, .slice none 0 0] 102))) (.slice Ap picks.length cp) picks) := Lib.hid (fun W hW => HP.out.ext (hW.toExt ((HX2.out.alloc _).alloc _) (fun b hb => by omega)))
  have HRS2 : Hid ((((w2.alloc (.cells #[.slice A0 c0.ts.length a0, .int .i64 g, .slice B0 c0.dn.length b0, .slice (some ⟨e0, 0, none⟩) m m, .bool c0.over, .int .i64 c0.st, .int .i64 c0.id] 81)).alloc (.cells #[.slice A0 c0.ts.length a0, .int .i64 g, .slice B0 c0.dn.length b0, .slice (some ⟨e0, 0, none⟩) m m, .bool c0.over, .int .i64 c0.st, .int .i64 c0.id, .slice none 0 0] 102))).heap[w.heap.size]? = some (.cells #[.slice none 0 0, .int .i64 0, .slice none 0 0, .slice none 0 0, .bool false, .int .i64 0, .int .i64 0] 81)) := Lib.hid (block_keep HRS.out (((Ext.refl _).alloc _).alloc _))
  have HX3 : Hid (Ext w (((w2.alloc (.cells #[.slice A0 c0.ts.length a0, .int .i64 g, .slice B0 c0.dn.length b0, .slice (some ⟨e0, 0, none⟩) m m, .bool c0.over, .int .i64 c0.st, .int .i64 c0.id] 81)).alloc (.cells #[.slice A0 c0.ts.length a0, .int .i64 g, .slice B0 c0.dn.length b0, .slice (some ⟨e0, 0, none⟩) m m, .bool c0.over, .int .i64 c0.st, .int .i64 c0.id, .slice none 0 0] 102)))) := Lib.hid ((HX2.out.alloc _).alloc _)
  clear HRS
  generalize (((w2.alloc (.cells #[.slice A0 c0.ts.length a0, .int .i64 g, .slice B0 c0.dn.length b0, .slice (some ⟨e0, 0, none⟩) m m, .bool c0.over, .int .i64 c0.st, .int .i64 c0.id] 81)).alloc (.cells #[.slice A0 c0.ts.length a0, .int .i64 g, .slice B0 c0.dn.length b0, .slice (some ⟨e0, 0, none⟩) m m, .bool c0.over, .int .i64 c0.st, .int .i64 c0.id, .slice none 0 0] 102))) = w3 at *
  refine (dpick_any (fun x => x = w.heap.size) V g n m cp Ap picks _ A0 B0 e0 0 a0 b0 m w3 (fun x hx => by omega) HDG.out HRP.out n1 n2 g1 g2 m1 m2 (by omega)).mono ?_
  obtain ⟨hU1, hU2⟩ := Been.until g1 m1 picks (beginC n m) [] (Been.begin g n m n1 m1)
  obtain ⟨N, hN⟩ : ∃ N, m * cntT n g = N := ⟨_, rfl⟩
  have hov := (whole_ends g1 n1 m1 picks).1
  have hW : wholeP g n m picks = ((drainP g m N 0 (untilP g m (beginC n m) picks).1).1, (untilP g m (beginC n m) picks).2 ++ (drainP g m N 0 (untilP g m (beginC n m) picks).1).2) := by rw [← hN]; rfl
  rw [hW] at hov
  rw [HR.out] at hW
  rw [List.nil_append] at hU1
  obtain ⟨⟨c1, evs⟩, hu⟩ : ∃ x, untilP g m (beginC n m) picks = x := ⟨_, rfl⟩
  rw [hu] at hU1 hU2 hov hW ⊢
  simp only at hU1 hU2 hov hW
  have hNl : N ≤ 14400 := by
    obtain ⟨dn, hI⟩ := hU1.inv
    have hcn := (hI.counts g1 n1).2.2.1
    have h1 : m * cntT n g ≤ 8 * 1800 := Nat.mul_le_mul m2 (by omega)
    omega
  have HU1 : Hid (Been g n m c1 evs) := Lib.hid hU1
  have HOV : Hid ((drainP g m N 0 c1).1.over = true) := Lib.hid hov
  have HW := Lib.hid hW
  have HU2 : Hid (evs.length ≤ picks.length) := Lib.hid hU2
  rintro ed w4 ⟨v1, A1, B1, e1, o1, a1, b1, q1, rfl, hG, hG4⟩
  rw [List.nil_append] at hG
  have HG := Lib.hid hG
  have HG4 := Lib.hid hG4
  have HNL := Lib.hid hNl
  clear hG hG4 hU1 hov hW hU2 hu hN hNl
  go_wp2_with fail
  refine (ddrain_any (fun x => x = w.heap.size) V g n m N c1 evs v1 A1 B1 e1 o1 a1 b1 q1 w4 (fun x hx => by omega) HG.out ⟨_, _, HU1.out.inv.choose_spec⟩ HOV.out n1 n2 g1 g2 m1 m2 (by have := HU1.out.st; have := HU2.out; have := HNL.out; omega) (by have := HU1.out.id; have := HU2.out; have := HNL.out; omega) (by have := HU2.out; have := HNL.out; omega) (by have := HNL.out; omega)).mono ?_
  obtain ⟨⟨c2, ds⟩, hd⟩ : ∃ x, drainP g m N 0 c1 = x := ⟨_, rfl⟩
  have hW2 := HW.out
  rw [hd] at hW2 ⊢
  simp only at hW2
  rintro ed w7 ⟨v2, A2, B2, e2, o2, a2, b2, q2, rfl, hG5, hW5⟩
  obtain ⟨es, hes⟩ : ∃ es, evs ++ ds = es := ⟨_, rfl⟩
  have hG6 : DG (fun x => x = w.heap.size) w7 V g m c2 es v2 A2 B2 e2 o2 a2 b2 q2 := by rw [← hes]; exact hG5
  rw [hes] at hW2
  obtain ⟨Ao, co, hv, hco⟩ := hG6.own.slice
  obtain ⟨no, hno⟩ : ∃ no, es.length = no := ⟨_, rfl⟩
  rw [hno] at hv
  subst hv
  have HNO := Lib.hid hno
  have HW2 := Lib.hid hW2
  have HG6 := Lib.hid hG6
  have hGW : Grew (fun x => V ≤ x) w3 w7 := HG4.out.trans hW5
  have HRS5 := Lib.hid (block_wr HRS2.out hGW (by omega))
  have HX5 : Hid (Ext w w7) := Lib.hid (hGW.toExt HX3.out (fun b hb => by omega))
  clear hG5 hW5 hes hG6 hco hno hd hW2 hGW
  have z0 : w7.cell? ⟨V, 0, none⟩ = some (.slice A2 c2.ts.length a2) := (cell_of_row w7 (V) 0 _ _ _ HG6.out.box).trans rfl
  have z1 : w7.cell? ⟨V, 1, none⟩ = some (.int .i64 g) := (cell_of_row w7 (V) 1 _ _ _ HG6.out.box).trans rfl
  have z2 : w7.cell? ⟨V, 2, none⟩ = some (.slice B2 c2.dn.length b2) := (cell_of_row w7 (V) 2 _ _ _ HG6.out.box).trans rfl
  have z3 : w7.cell? ⟨V, 3, none⟩ = some (.slice (some ⟨e2, o2, none⟩) m q2) := (cell_of_row w7 (V) 3 _ _ _ HG6.out.box).trans rfl
  have z4 : w7.cell? ⟨V, 4, none⟩ = some (.bool c2.over) := (cell_of_row w7 (V) 4 _ _ _ HG6.out.box).trans rfl
  have z5 : w7.cell? ⟨V, 5, none⟩ = some (.int .i64 c2.st) := (cell_of_row w7 (V) 5 _ _ _ HG6.out.box).trans rfl
  have z6 : w7.cell? ⟨V, 6, none⟩ = some (.int .i64 c2.id) := (cell_of_row w7 (V) 6 _ _ _ HG6.out.box).trans rfl
  have z7 : w7.cell? ⟨V, 7, none⟩ = some (.slice Ao no co) := (cell_of_row w7 (V) 7 _ _ _ HG6.out.box).trans rfl
  have zf := fun o => frozen_of_row w7 (V) o _ _ HG6.out.box
  have y0 : w7.cell? ⟨w.heap.size, 0, none⟩ = some (.slice none 0 0) := (cell_of_row w7 (w.heap.size) 0 _ _ _ HRS5.out).trans rfl
  have y1 : w7.cell? ⟨w.heap.size, 1, none⟩ = some (.int .i64 0) := (cell_of_row w7 (w.heap.size) 1 _ _ _ HRS5.out).trans rfl
  have y2 : w7.cell? ⟨w.heap.size, 2, none⟩ = some (.slice none 0 0) := (cell_of_row w7 (w.heap.size) 2 _ _ _ HRS5.out).trans rfl
  have y3 : w7.cell? ⟨w.heap.size, 3, none⟩ = some (.slice none 0 0) := (cell_of_row w7 (w.heap.size) 3 _ _ _ HRS5.out).trans rfl
  have y4 : w7.cell? ⟨w.heap.size, 4, none⟩ = some (.bool false) := (cell_of_row w7 (w.heap.size) 4 _ _ _ HRS5.out).trans rfl
  have y5 : w7.cell? ⟨w.heap.size, 5, none⟩ = some (.int .i64 0) := (cell_of_row w7 (w.heap.size) 5 _ _ _ HRS5.out).trans rfl
  have y6 : w7.cell? ⟨w.heap.size, 6, none⟩ = some (.int .i64 0) := (cell_of_row w7 (w.heap.size) 6 _ _ _ HRS5.out).trans rfl
  have yf := fun o => frozen_of_row w7 (w.heap.size) o _ _ HRS5.out
  have lV := blk_lt HG6.out.box
  have lR := blk_lt HRS5.out
  have nRV : ¬ w.heap.size = V := by omega
  have nVR : ¬ V = w.heap.size := by omega
  go_upto_region 8 with fail
  go_cut [9, 10] (fun l z wx => l = .slice Ao no co ∧ z = .int .i64 0 ∧ D6Box wx w.heap.size A2 B2 e2 o2 a2 b2 q2 g m c2 ∧ Grew (fun x => x = w.heap.size) w7 wx)
  case first =>
    go_region
    all_goals go_wp2_with fail
    all_goals go_meet
    all_goals (with_reducible exact ⟨rfl, rfl, D6Box.one y0 y1 y2 y3 y4 y5 y6⟩)
  case rest =>
  obtain ⟨rfl, rfl, hB, hGR⟩ := hcut
  obtain ⟨y0, y1, y2, y3, y4, y5, y6⟩ := hB
  have HGR := Lib.hid hGR
  clear hGR z0 z1 z2 z3 z4 z5 z6 z7 zf lV lR
  go_wp2_with fail
  refine bodyPost_ret (v := .tuple #[crewV A2 B2 e2 o2 a2 b2 q2 g m c2, .slice Ao no co, .int .i64 0]) (by simp [results, Tryz.results44, go_sem, y0, y1, y2, y3, y4, y5, y6]) rfl ?_
  rw [HW2.out]
  refine ⟨A2, B2, Ao, e2, o2, a2, b2, q2, co, HG6.out.me, by rw [HNO.out], ?_, ?_, ?_⟩
  · exact (HG6.out.cr.grew (HGR.out.mono (fun x _ hx => .inl hx))).at_ m1
  · rw [HNO.out]
    exact (HG6.out.own.grew HGR.out (fun x hx e => by have := (HG6.out.own.lt x hx).1; omega)).mono (by omega)
  · exact HGR.out.toExt HX5.out (fun x hx => by omega)
end Go.Proofs.YtkpbanfpnilifaaGreat

/- The program's Leaves. -/
namespace Go.Proofs.YtkpbanfpnilifaaGreat
open Go.BigFrame
open Go.RowKit Go.Proofs.YtkpbanfpnilifaaGreat.Plain

/-- events as steps tell them -/
def Plain.evTold (e : Ev) : Prop := (e.fr = -1 ∧ e.tk = -1) ∨ (0 ≤ e.fr ∧ 0 ≤ e.tk)
theorem Plain.stepP_told (g m : Nat) (c : Cw) (p q : Int) : evTold (stepP g m c p q).2 := by
  unfold stepP
  split
  · exact .inl ⟨rfl, rfl⟩
  · refine .inr ?_
    unfold goP
    simp only
    split <;> exact ⟨by simp, by simp⟩
theorem Plain.untilP_told (g m : Nat) : ∀ (l : List (Int × Int)) (c : Cw), ∀ e ∈ (untilP g m c l).2, evTold e
  | [], c, e, h => by cases h
  | x :: l, c, e, h => by
    unfold untilP at h
    split at h
    · cases h
    · rcases List.mem_cons.1 h with h | h
      · rw [h]; exact stepP_told _ _ _ _ _
      · exact Plain.untilP_told g m l _ e h
theorem Plain.drainP_told (g m : Nat) : ∀ (f t : Nat) (c : Cw), ∀ e ∈ (drainP g m f t c).2, evTold e
  | 0, t, c, e, h => by cases h
  | f + 1, t, c, e, h => by
    unfold drainP at h
    split at h
    · cases h
    · rcases List.mem_cons.1 h with h | h
      · rw [h]; exact stepP_told _ _ _ _ _
      · exact Plain.drainP_told g m f (t + 1) _ e h
theorem Plain.wholeP_told (g n m : Nat) (picks : List (Int × Int)) : ∀ e ∈ (wholeP g n m picks).2, evTold e := by
  intro e h
  unfold wholeP at h
  rcases List.mem_append.1 h with h | h
  · exact untilP_told _ _ _ _ e h
  · exact drainP_told _ _ _ _ _ e h

set_option maxRecDepth 100000 in
theorem didle_yes (wk tk : Int) (pt : Bool) (w : World) :
    Calls Tryz.prog 59 #[.agg #[.int .i64 wk, .int .i64 (-1), .int .i64 tk, .bool pt]] w fun ed w' => ed = .returned (.bool true) ∧ Ext w w' := by
  go_enter Tryz.func59, Tryz.ntmps59
  go_wp2
  go_ret
  exact ⟨rfl, (Ext.refl w).alloc _⟩
set_option maxRecDepth 100000 in
theorem didle_no (wk fr tk : Int) (pt : Bool) (w : World) (h1 : 0 ≤ fr) (h2 : 0 ≤ tk) :
    Calls Tryz.prog 59 #[.agg #[.int .i64 wk, .int .i64 fr, .int .i64 tk, .bool pt]] w fun ed w' => ed = .returned (.bool false) ∧ Ext w w' := by
  have e1 : (fr == -1) = false := by simp; omega
  have e2 : (tk == -1) = false := by simp; omega
  go_enter Tryz.func59, Tryz.ntmps59
  go_wp2
  go_ret
  exact ⟨ret_bool (by first | rfl | simp [e1, e2] | simp; omega), (Ext.refl w).alloc _⟩

set_option maxHeartbeats 1600000 in
set_option maxRecDepth 100000 in
theorem dleaves_any (A B L : Option Addr) (e0 eo a b e g m l : Nat) (c : Cw) (evs : List Ev) (w : World) (hC : CrewAt w m c A B e0 eo a b) (hE : Rd kEv w (.slice L evs.length l) evs) (hl : evs.length ≤ 100000) (hin : evsIn c.ts.length evs) (hto : ∀ e ∈ evs, evTold e) :
    Calls Tryz.prog 45 #[crewV A B e0 eo a b e g m c, .slice L evs.length l] w fun ed w' => ∃ v, ed = .returned v ∧ Ow kSpan w.heap.size w' v (leavesL c.ts evs) ∧ Ext w w' := by
  have HT := Lib.hid hC.tsk.rd
  have HE := Lib.hid hE
  have HIN := Lib.hid hin
  have HTO := Lib.hid hto
  have hl' : (evs.length : Int) ≤ 100000 := by omega
  clear hC hE hin hto
  go_enter Tryz.func45, Tryz.ntmps45
  go_wp2_with fail
  have hbx := heap_alloc_new w (.cells #[.slice A c.ts.length a, .int .i64 g, .slice B c.dn.length b, .slice (some ⟨e0, eo, none⟩) m e, .bool c.over, .int .i64 c.st, .int .i64 c.id] 81)
  have HBX := Lib.hid hbx
  have HX1 : Hid (Ext w (w.alloc (.cells #[.slice A c.ts.length a, .int .i64 g, .slice B c.dn.length b, .slice (some ⟨e0, eo, none⟩) m e, .bool c.over, .int .i64 c.st, .int .i64 c.id] 81))) := Lib.hid ((Ext.refl w).alloc _)
  have HW1 : Hid ((w.alloc (.cells #[.slice A c.ts.length a, .int .i64 g, .slice B c.dn.length b, .slice (some ⟨e0, eo, none⟩) m e, .bool c.over, .int .i64 c.st, .int .i64 c.id] 81)).heap.size = w.heap.size + 1) := Lib.hid (by simp)
  generalize w.alloc (.cells #[.slice A c.ts.length a, .int .i64 g, .slice B c.dn.length b, .slice (some ⟨e0, eo, none⟩) m e, .bool c.over, .int .i64 c.st, .int .i64 c.id] 81) = w1 at *
  clear hbx
  go_loopw [5, 11] (fun v i wr => ∃ k : Nat, k ≤ evs.length ∧ i = .int .i64 k ∧ Ow kSpan (w.heap.size + 1) wr v (leavesL c.ts (evs.take k)) ∧ Ext w1 wr) (fun _ i _ => evs.length - (intOf i).toNat)
  case atStart => exact ⟨0, Nat.zero_le _, rfl, Ow.nil _ _, Ext.refl _⟩
  case round =>
    obtain ⟨k, hk, rfl, hO, hX⟩ := hrel
    have HO := Lib.hid hO
    have HX := Lib.hid hX
    have hk0 : (0 : Int) ≤ k := by omega
    clear hO hX
    by_cases hlt : k < evs.length
    · have hlt' : (k : Int) < evs.length := by omega
      obtain ⟨bv, ov, rfl, hcv⟩ := Rd.evs (HE.out.ext (HX1.out.trans HX.out)) (by omega)
      obtain ⟨z0, z1, z2, z3⟩ := hcv k hlt
      have htk := leavesL_take c.ts evs k hlt
      have hmem : evs.getD k ev0 ∈ evs := by rw [List.getD_eq_getElem?_getD, List.getElem?_eq_getElem hlt]; exact List.getElem_mem hlt
      have hint : (evs.getD k ev0).tk < c.ts.length := HIN.out _ hmem
      have htold : evTold (evs.getD k ev0) := HTO.out _ hmem
      obtain ⟨ev, hev⟩ : ∃ ev, evs.getD k ev0 = ev := ⟨_, rfl⟩
      rw [hev] at z0 z1 z2 z3 htk hint htold
      have HTK := Lib.hid htk
      have lbv : bv < wr.heap.size := World.block_lt_of_cell? _ _ z2
      have hb := block_keep HBX.out HX.out
      have q0 : wr.cell? ⟨w.heap.size, 0, none⟩ = some (.slice A c.ts.length a) := (cell_of_row wr w.heap.size 0 _ _ _ hb).trans rfl
      have lq := blk_lt hb
      clear htk hev hcv hb hmem
      cases hpt : ev.pt with
      | true =>
        rw [hpt] at z3
        rw [if_pos (.inr hpt), List.append_nil] at HTK
        clear hpt
        go_wp2_with fail
        go_roundw
        case rel => exact ⟨k + 1, by omega, by go_num, by rw [HTK.out]; exact HO.out.ext ((Ext.refl _).alloc _), HX.out.alloc _⟩
        case measure => simp [intOf]; omega
      | false =>
        rw [hpt] at z3
        rcases htold with ⟨hfr, htk1⟩ | ⟨hfr, hge⟩
        · rw [if_pos (.inl (by omega)), List.append_nil] at HTK
          rw [hfr] at z1
          clear hpt hfr htk1 hint
          go_wp2_with fail
          refine (didle_yes _ _ _ _).mono ?_
          rintro ed w3 ⟨rfl, hE3⟩
          have HE3 := Lib.hid (((Ext.refl wr).alloc _).trans hE3)
          clear hE3
          go_wp2_with fail
          go_roundw
          case rel => exact ⟨k + 1, by omega, by go_num, by rw [HTK.out]; exact HO.out.ext HE3.out, HX.out.trans HE3.out⟩
          case measure => simp [intOf]; omega
        · rw [if_neg (by rw [hpt]; simp; omega)] at HTK
          obtain ⟨K, hK⟩ : ∃ K : Nat, ev.tk = K := ⟨ev.tk.toNat, by omega⟩
          have hKl : K < c.ts.length := by omega
          have hKl' : (K : Int) < c.ts.length := by omega
          have hK0 : (0 : Int) ≤ K := by omega
          rw [hK] at z2
          obtain ⟨bt, ot, rfl, hct⟩ := Rd.tasks (HT.out.ext (HX1.out.trans HX.out)) (by omega)
          obtain ⟨t0, t1, t2, t3⟩ := hct K hKl
          have hkt := HT.out.okAt K hKl
          obtain ⟨tk, htk⟩ : ∃ tk, c.ts.getD K ⟨0, 0, 0, 0⟩ = tk := ⟨_, rfl⟩
          rw [htk] at t0 t1 t2 t3
          have hkt' : kTask.ok tk := by rw [← htk]; exact hkt
          have HKT := Lib.hid hkt'
          have lbt : bt < wr.heap.size := World.block_lt_of_cell? _ _ t0
          have HTT : Hid (T c.ts ev.tk.toNat = tk) := Lib.hid (by rw [hK, Int.toNat_natCast, ← htk]; rfl)
          have HFR : Hid (0 ≤ ev.fr) := Lib.hid hfr
          clear hct hkt hkt' htk hpt hint hge hK hfr
          go_wp2_with fail
          refine (didle_no _ _ _ _ _ HFR.out (by omega)).mono ?_
          rintro ed w3 ⟨rfl, hE3⟩
          have y0 : w3.cell? ⟨wr.heap.size, 0, none⟩ = some (.int .i64 ev.wk) := Ext.cell hE3 (by go_simp)
          have y1 : w3.cell? ⟨wr.heap.size, 1, none⟩ = some (.int .i64 ev.fr) := Ext.cell hE3 (by go_simp)
          have y2 : w3.cell? ⟨wr.heap.size, 2, none⟩ = some (.int .i64 K) := Ext.cell hE3 (by go_simp)
          have y3 : w3.cell? ⟨wr.heap.size, 3, none⟩ = some (.bool false) := Ext.cell hE3 (by go_simp)
          have yf : ∀ o, w3.frozen? ⟨wr.heap.size, o, none⟩ = false := fun o => (Below.frozen hE3 (p := ⟨wr.heap.size, o, none⟩) (by first | omega | (simp; omega) | simp)).trans (by go_simp)
          have hE4 := ((Ext.refl wr).alloc (.cells #[.int .i64 ev.wk, .int .i64 ev.fr, .int .i64 K, .bool false] 106)).trans hE3
          replace q0 := hE4.cell q0
          replace t0 := hE4.cell t0
          replace t1 := hE4.cell t1
          replace t2 := hE4.cell t2
          replace t3 := hE4.cell t3
          have lz := hE3.size
          simp at lz
          have lq3 : w.heap.size < w3.heap.size := by omega
          have lbt3 : bt < w3.heap.size := by omega
          have HE4 := Lib.hid hE4
          clear hE3 hE4 z0 z1 z2 z3
          go_upto_region 7 with fail
          have hrow := HO.out.len
          have HY : Hid (Rd kSpan ((w3.alloc (.cells #[.int .i64 tk.lo, .int .i64 tk.hi, .int .i64 tk.up, .int .i64 tk.wt] 109)).alloc (.cells #[.int .i64 tk.lo, .int .i64 tk.hi] 88)) (.slice (some ⟨w3.heap.size + 1, 0, none⟩) 1 1) [(tk.lo, tk.hi)]) := Lib.hid (Ow.rd (K := kSpan) (B := 0) (Ow.lit (K := kSpan) (p := w3.heap.size + 1) (n := 1) (w3.alloc (.cells #[.int .i64 tk.lo, .int .i64 tk.hi, .int .i64 tk.up, .int .i64 tk.wt] 109)) [(tk.lo, tk.hi)] #[.int .i64 tk.lo, .int .i64 tk.hi] rfl rfl (by simp) (Nat.zero_le _) (by simp [maxLen]) (by intro x hx; simp only [List.mem_singleton] at hx; subst hx; exact ⟨HKT.out.1, HKT.out.2.1⟩)))
          have HLL : Hid ((leavesL c.ts (evs.take k)).length + [(tk.lo, tk.hi)].length ≤ 1048576) := Lib.hid (by have := leavesL_len c.ts (evs.take k); rw [List.length_take] at this; simp; omega)
          have hzz := HX1.out.size
          have hzx := HX.out.size
          have hw1 := blk_lt HBX.out
          clear hrow
          go_wp2_with (at_builtin; refine kSpan.wpList_app (by rfl) (.tmp 42) (.tmp 48) (by rfl) (by rfl) (w.heap.size + 1) _ (leavesL c.ts (evs.take k)) (by rfl) (HO.out.ext ((HE4.out.alloc _).alloc _)) _ [(tk.lo, tk.hi)] (by rfl) HY.out HLL.out (by simp; omega) ?_; intro v' w8 hown8 hgrow8 hat8)
          have H8 := Lib.hid (And.intro hown8 (And.intro hgrow8 hat8))
          clear hown8 hgrow8 hat8
          go_roundw
          case rel =>
            obtain ⟨hown8, hgrow8, hat8⟩ := H8.out
            refine ⟨k + 1, by omega, by go_num, by rw [HTK.out, HTT.out]; exact hown8, ?_⟩
            exact Ext.grown (((HX.out.trans HE4.out).alloc _).alloc _) hgrow8 (fun x hx => by have := (HO.out.lt x hx).1; have := HW1.out; omega)
          case measure => simp [intOf]; omega
    · obtain rfl : k = evs.length := by omega
      rw [List.take_length] at HO
      go_wp2_with fail
      exact bodyPost_ret (by simp [results, Tryz.results45, go_sem]) rfl ⟨_, rfl, HO.out.mono (by omega), HX1.out.trans HX.out⟩
end Go.Proofs.YtkpbanfpnilifaaGreat

/- The program's small ones of fill: Right, known, One, and the two closures. -/
namespace Go.Proofs.YtkpbanfpnilifaaGreat
open Go.BigFrame
open Go.RowKit Go.Proofs.YtkpbanfpnilifaaGreat.Plain

set_option maxHeartbeats 800000 in
set_option maxRecDepth 100000 in
theorem fright7_any (g m : Int) (Ap : Option Addr) (np cp : Nat) (w : World) (hg : in64 g) (hm : in64 m) (hn : np ≤ 9223372036854775807) :
    Calls Tryz.prog 43 #[planV g m Ap np cp] w fun ed w' => ed = .returned (.bool (planB g m np)) ∧ Ext w w' := by
  unfold in64 at hg hm
  have hE : Ext w (w.alloc (.cells #[.int .i64 g, .int .i64 m, .slice Ap np cp] 25)) := (Ext.refl w).alloc _
  go_enter Tryz.func43, Tryz.ntmps43
  go_upto_region 1 with fail
  have HE := Lib.hid hE
  by_cases h1 : 1 ≤ g
  · by_cases h2 : g ≤ 100
    · by_cases h3 : 1 ≤ m
      · by_cases h4 : m ≤ 8
        · by_cases h5 : (np : Int) ≤ 4000
          · have e : planB g m np = true := by rw [planB_iff]; omega
            go_wp2_with fail
            all_goals go_ret
            all_goals exact ⟨ret_bool (by first | rfl | (rw [e]; done) | (rw [e]; simp; omega)), HE.out⟩
          · have e : planB g m np = false := by
              rw [← Bool.not_eq_true, planB_iff]; omega
            have d5 : decide ((np : Int) ≤ 4000) = false := decide_eq_false h5
            go_wp2_with fail
            all_goals go_ret
            all_goals exact ⟨ret_bool (by first | rfl | (rw [e]; done) | (rw [e]; simp; omega)), HE.out⟩
        · have e : planB g m np = false := by rw [← Bool.not_eq_true, planB_iff]; omega
          have d5 : decide (m ≤ 8) = false := decide_eq_false h4
          go_wp2_with fail
          all_goals go_ret
          all_goals exact ⟨ret_bool (by first | rfl | (rw [e]; done) | (rw [e]; simp; omega)), HE.out⟩
      · have e : planB g m np = false := by rw [← Bool.not_eq_true, planB_iff]; omega
        have d5 : decide (1 ≤ m) = false := decide_eq_false h3
        go_wp2_with fail
        all_goals go_ret
        all_goals exact ⟨ret_bool (by first | rfl | (rw [e]; done) | (rw [e]; simp; omega)), HE.out⟩
    · have e : planB g m np = false := by rw [← Bool.not_eq_true, planB_iff]; omega
      have d5 : decide (g ≤ 100) = false := decide_eq_false h2
      go_wp2_with fail
      all_goals go_ret
      all_goals exact ⟨ret_bool (by first | rfl | (rw [e]; done) | (rw [e]; simp; omega)), HE.out⟩
  · have e : planB g m np = false := by rw [← Bool.not_eq_true, planB_iff]; omega
    have d5 : decide (1 ≤ g) = false := decide_eq_false h1
    go_wp2_with fail
    all_goals go_ret
    all_goals exact ⟨ret_bool (by first | rfl | (rw [e]; done) | (rw [e]; simp; omega)), HE.out⟩

end Go.Proofs.YtkpbanfpnilifaaGreat

/- The program's Order of a plan's units (fill). -/
namespace Go.Proofs.YtkpbanfpnilifaaGreat
open Go.BigFrame
open Go.RowKit Go.Proofs.YtkpbanfpnilifaaGreat.Plain

set_option maxHeartbeats 1600000 in
set_option maxRecDepth 100000 in
theorem forder_any (n : Nat) (g m : Int) (Ap : Option Addr) (cp : Nat) (picks : List (Int × Int)) (w : World) (hp : Rd kPk w (.slice Ap picks.length cp) picks) (n2 : n ≤ 900) (hg : in64 g) (hm : in64 m) :
    Calls Tryz.prog 35 #[.int .i64 n, planV g m Ap picks.length cp] w (OrdSaid (ordP n g m picks) w) := by
  have HP := Lib.hid hp
  have HL : Hid (picks.length ≤ 9223372036854775807) := Lib.hid hp.len
  have HGM := Lib.hid (And.intro hg hm)
  have n3 : (n : Int) ≤ 900 := by omega
  have n0 : (0 : Int) ≤ n := by omega
  clear hp hg hm
  go_enter Tryz.func35, Tryz.ntmps35
  go_wp2_with fail
  refine (fright7_any g m Ap picks.length cp _ HGM.out.1 HGM.out.2 HL.out).mono ?_
  rintro ed w1 ⟨rfl, hE1⟩
  have hb := block_keep (heap_alloc_new w (.cells #[.int .i64 g, .int .i64 m, .slice Ap picks.length cp] 25)) hE1
  have HB := Lib.hid hb
  have HX1 := Lib.hid (((Ext.refl w).alloc _).trans hE1)
  have q0 : w1.cell? ⟨w.heap.size, 0, none⟩ = some (.int .i64 g) := (cell_of_row w1 w.heap.size 0 _ _ _ hb).trans rfl
  have q1 : w1.cell? ⟨w.heap.size, 1, none⟩ = some (.int .i64 m) := (cell_of_row w1 w.heap.size 1 _ _ _ hb).trans rfl
  have q2 : w1.cell? ⟨w.heap.size, 2, none⟩ = some (.slice Ap picks.length cp) := (cell_of_row w1 w.heap.size 2 _ _ _ hb).trans rfl
  clear hb hE1
  cases hok : planB g m picks.length with
  | false =>
    have e : ordP n g m picks = ([], 0, 1) := by unfold ordP; rw [if_pos hok]
    have HEE := Lib.hid e
    clear e hok
    go_wp2_with fail
    exact bodyPost_ret (v := .tuple #[.slice none 0 0, .int .i64 0, .int .i64 1]) (by simp [results, Tryz.results35, go_sem]) rfl (by rw [HEE.out]; exact ⟨none, 0, rfl, Ow.nil _ _, HX1.out⟩)
  | true =>
    obtain ⟨p1, p2, p3, p4, p5⟩ := (planB_iff _ _ _).1 hok
    obtain ⟨G, rfl⟩ : ∃ G : Nat, g = G := ⟨g.toNat, by omega⟩
    obtain ⟨M, rfl⟩ : ∃ M : Nat, m = M := ⟨m.toNat, by omega⟩
    by_cases hz : n = 0
    · subst hz
      have e : ordP 0 G M picks = ([], 0, 0) := by unfold ordP; rw [if_neg (by rw [hok]; decide), if_pos rfl]
      have HEE := Lib.hid e
      clear e hok
      go_wp2_with fail
      exact bodyPost_ret (v := .tuple #[.slice none 0 0, .int .i64 0, .int .i64 0]) (by simp [results, Tryz.results35, go_sem]) rfl (by rw [HEE.out]; exact ⟨none, 0, rfl, Ow.nil _ _, HX1.out⟩)
    · have e : ordP n G M picks = (orderL (wholeP G n M picks).1.ts (wholeP G n M picks).2, (wholeP G n M picks).2.length, 0) := by unfold ordP; rw [if_neg (by rw [hok]; decide), if_neg hz]; rfl
      have hne : ((n : Int) == 0) = false := by simp; omega
      obtain ⟨we1, we2, we3, we4⟩ := whole_ends (g := G) (n := n) (m := M) (by omega) (by omega) (by omega) picks
      have hto := wholeP_told G n M picks
      have hin := we2.ins
      obtain ⟨dn, hI⟩ := we2.inv
      have hcn := (hI.counts (by omega) (by omega)).2.2.1
      have hevl : (wholeP G n M picks).2.length ≤ 60000 := by
        have h2 : M * (cntT n G + 1) ≤ 8 * 1801 := Nat.mul_le_mul (by omega) (by omega)
        omega
      have hbd : ∀ k, k < (wholeP G n M picks).1.ts.length → 0 ≤ (T (wholeP G n M picks).1.ts k).lo ∧ (T (wholeP G n M picks).1.ts k).lo ≤ (T (wholeP G n M picks).1.ts k).hi ∧ (T (wholeP G n M picks).1.ts k).hi ≤ n := fun k hk => by
        have ht := (CrI.inv hI).task k hk
        omega
      have hol : (orderL (wholeP G n M picks).1.ts (wholeP G n M picks).2).length = n := by rw [we4.length_eq, List.length_range]
      obtain ⟨⟨c, evs⟩, hW⟩ : ∃ x, wholeP G n M picks = x := ⟨_, rfl⟩
      rw [hW] at hin hevl hbd hol e hto
      simp only at hin hevl hbd hol e hto
      rw [order_leaves] at hol e
      have hsb : ∀ x ∈ leavesL c.ts evs, 0 ≤ x.1 ∧ x.1 ≤ x.2 ∧ x.2 ≤ n := leavesL_bd hbd hin
      have hsl : (leavesL c.ts evs).length ≤ 60000 := Nat.le_trans (leavesL_len _ _) hevl
      have HEE := Lib.hid e
      have HOL := Lib.hid hol
      have HSB := Lib.hid hsb
      have HIN := Lib.hid hin
      have HTO := Lib.hid hto
      have HEV := Lib.hid hevl
      have HSL := Lib.hid hsl
      have HWW := Lib.hid hW
      have hGn : (0 : Int) ≤ G := by omega
      obtain ⟨C, hmk, hmown⟩ := kInt.makeCap n (by omega)
      have HMK := Lib.hid hmown
      have hmk2 : ∀ w : World, (Instr.makeSlice 29 (.int .i64 0) (.int .i64 n)).run Tryz.prog w = .ok (.slice (some ⟨w.heap.size, 0, none⟩) 0 n) (w.alloc (.cells C 3)) := hmk
      clear e hok we1 we2 we3 we4 hI hcn hW hin hevl hbd hol hsb hsl hto hmk hmown
      go_wp2_with fail
      refine (dwhole_any n G M Ap cp picks w1 (HP.out.ext HX1.out) (by omega) n2 (by omega) (by omega) (by omega) (by omega) p5).mono ?_
      rw [HWW.out]
      rintro ed w2 ⟨A1, B1, L1, e0, o1, a1, b1, e1, l1, hme, rfl, hC, hO, hE2⟩
      simp only at hC hO ⊢
      have HC := Lib.hid hC
      have HO := Lib.hid hO
      have HX2 := Lib.hid (HX1.out.trans hE2)
      clear hC hO hE2 q0 q1 q2
      go_wp2_with fail
      refine (dleaves_any A1 B1 L1 e0 o1 a1 b1 e1 G M l1 c evs _ (HC.out.ext (((Ext.refl _).alloc _).alloc _)) (HO.out.rd.ext (((Ext.refl _).alloc _).alloc _)) (by have := HEV.out; omega) HIN.out HTO.out).mono ?_
      rintro ed w3 ⟨vs, rfl, hS, hE3⟩
      obtain ⟨S, hSS⟩ : ∃ S, leavesL c.ts evs = S := ⟨_, rfl⟩
      rw [hSS] at hS HEE HOL HSB HSL
      obtain ⟨Ls, ls, hv, hls⟩ := hS.slice
      subst hv
      have hz2 := HX2.out.size
      have hz3 := hE3.size
      simp at hz3
      have HS := Lib.hid (hS.mono (B' := w2.heap.size) (by simp; omega))
      have HM := Lib.hid ((HMK.out _ w2.heap.size (w2.heap.size + 1) (by simp) (by omega)).ext hE3)
      have HX3 := Lib.hid (((Ext.refl w2).alloc _).alloc _ |>.trans hE3)
      have hsl' : (S.length : Int) ≤ 60000 := by have := HSL.out; omega
      obtain ⟨G2, hG2⟩ : ∃ G2, w2.heap.size = G2 := ⟨_, rfl⟩
      rw [hG2] at HS HM hz2 hz3
      have HG2 := Lib.hid hG2
      clear hS hE3 hls hmk2 hSS
      go_wp2_with fail
      try rw [hG2]
      clear hG2
      go_loopw [10, 48] (fun v i wr => ∃ j : Nat, j ≤ S.length ∧ i = .int .i64 j ∧ Ow kInt G2 wr v (zs ((S.take j).flatMap rngS)) ∧ Ext w2 wr ∧ Ow kSpan G2 wr (.slice Ls S.length ls) S) (fun _ i _ => S.length - (intOf i).toNat)
      case atStart => exact ⟨0, Nat.zero_le _, rfl, HM.out, HX3.out, HS.out⟩
      case round =>
        obtain ⟨j, hj, rfl, hO, hX, hSr⟩ := hrel
        have HO5 := Lib.hid hO
        have HX5 := Lib.hid hX
        have HS5 := Lib.hid hSr
        have hj0 : (0 : Int) ≤ j := by omega
        clear hO hX hSr
        by_cases hlt : j < S.length
        · have hlt' : (j : Int) < S.length := by omega
          obtain ⟨bs, os, rfl, hcs⟩ := Rd.spans HS5.out.rd (by omega)
          obtain ⟨z0, z1⟩ := hcs j hlt
          have hmem : S.getD j (0, 0) ∈ S := by rw [List.getD_eq_getElem?_getD, List.getElem?_eq_getElem hlt]; exact List.getElem_mem hlt
          obtain ⟨fl1, fl2⟩ := flat_split S rngS j hlt
          obtain ⟨b1', b2', b3'⟩ := HSB.out _ hmem
          obtain ⟨⟨lo, hi⟩, hlh⟩ : ∃ x, S.getD j (0, 0) = x := ⟨_, rfl⟩
          rw [hlh] at z0 z1 fl1 fl2 b1' b2' b3'
          simp only at z0 z1 b1' b2' b3'
          obtain ⟨Lo, rfl⟩ : ∃ x : Nat, lo = x := ⟨lo.toNat, by omega⟩
          obtain ⟨Hi, rfl⟩ : ∃ x : Nat, hi = x := ⟨hi.toNat, by omega⟩
          have hpre : ((S.take j).flatMap rngS).length + (Hi - Lo) ≤ 900 := by
            have h9 := HOL.out
            change (S.flatMap rngS).length = n at h9
            have e9 : (rngS ((Lo : Int), (Hi : Int))).length = Hi - Lo := by simp [rngS]
            omega
          have HFL := Lib.hid fl2
          have HPRE := Lib.hid hpre
          have hll : Lo ≤ Hi := by omega
          have hhi : (Hi : Int) ≤ 900 := by omega
          have hzr := HX5.out.size
          rw [HG2.out] at hzr
          have HB5 : Hid (Ow kSpan G2 (wr.alloc (.cells #[.int .i64 Lo, .int .i64 Hi] 88)) (.slice (some ⟨wr.heap.size, 0, none⟩) 1 1) [((Lo : Int), (Hi : Int))]) := Lib.hid (Ow.lit (K := kSpan) (p := wr.heap.size) (n := 1) wr [((Lo : Int), (Hi : Int))] #[.int .i64 Lo, .int .i64 Hi] rfl rfl rfl hzr (by simp [maxLen]) (by intro x hx; simp only [List.mem_singleton] at hx; subst hx; exact ⟨in64_nat Lo (by omega), in64_nat Hi (by omega)⟩))
          have HO5' := Lib.hid (HO5.out.ext ((Ext.refl wr).alloc (.cells #[.int .i64 Lo, .int .i64 Hi] 88)))
          have HS5' := Lib.hid (HS5.out.ext ((Ext.refl wr).alloc (.cells #[.int .i64 Lo, .int .i64 Hi] 88)))
          have HX5' := Lib.hid (HX5.out.alloc (.cells #[.int .i64 Lo, .int .i64 Hi] 88))
          obtain ⟨lb, hlb⟩ : ∃ lb, wr.heap.size = lb := ⟨_, rfl⟩
          rw [hlb] at HB5
          clear hcs hmem fl1 fl2 hlh hpre HO5 HS5 HX5
          go_wp2_with fail
          try rw [hlb]
          clear hlb
          go_loopw [10, 13] (fun v i wr' => ∃ u : Nat, Lo ≤ u ∧ u ≤ Hi ∧ i = .int .i64 u ∧ Ow kInt G2 wr' v (zs ((S.take j).flatMap rngS ++ List.range' Lo (u - Lo))) ∧ Ext w2 wr' ∧ Ow kSpan G2 wr' (.slice (some ⟨bs, os, none⟩) S.length ls) S ∧ Ow kSpan G2 wr' (.slice (some ⟨lb, 0, none⟩) 1 1) [((Lo : Int), (Hi : Int))]) (fun _ i _ => Hi - (intOf i).toNat)
          case atStart => exact ⟨Lo, Nat.le_refl _, hll, rfl, by simpa using HO5'.out, HX5'.out, HS5'.out, HB5.out⟩
          case round =>
            obtain ⟨u, hu1, hu2, rfl, hO, hX, hSS, hBB⟩ := hrel
            have z1 : wr.cell? ⟨lb, 1, none⟩ = some (.int .i64 Hi) := by
              obtain ⟨g9, e9, _, _, h9, _⟩ := hBB.pos (by simp)
              cases e9
              simpa using h9 0 (by simp) 1 (.int .i64 Hi) rfl
            have HO6 := Lib.hid hO
            have HX6 := Lib.hid hX
            have HS6 := Lib.hid hSS
            have HB6 := Lib.hid hBB
            have hu0 : (0 : Int) ≤ u := by omega
            clear hO hX hSS hBB
            by_cases hul : u < Hi
            · have hul' : (u : Int) < Hi := by omega
              have HY : ∀ w6 : World, Rd kInt (w6.alloc (.cells #[.int .i64 u] 3)) (.slice (some ⟨w6.heap.size, 0, none⟩) 1 1) [(u : Int)] := fun w6 => Ow.rd (K := kInt) (B := 0) (Ow.lit (K := kInt) (p := w6.heap.size) (n := 1) w6 [(u : Int)] #[.int .i64 u] rfl rfl rfl (Nat.zero_le _) (by simp [maxLen]) (by intro x hx; simp only [List.mem_singleton] at hx; subst hx; exact in64_nat u (by omega)))
              have HYY := Lib.hid HY
              have HLL : Hid ((zs ((S.take j).flatMap rngS ++ List.range' Lo (u - Lo))).length + [(u : Int)].length ≤ 1048576) := Lib.hid (by have := HPRE.out; rw [zs_len, List.length_append, List.length_range', List.length_singleton]; omega)
              have hz6 := HX6.out.size
              rw [HG2.out] at hz6
              clear HY
              go_wp2_with (at_builtin; refine kInt.wpList_app (by rfl) (.tmp 60) (.tmp 62) (by rfl) (by rfl) G2 _ (zs ((S.take j).flatMap rngS ++ List.range' Lo (u - Lo))) (by rfl) (HO6.out.ext ((Ext.refl _).alloc _)) _ [(u : Int)] (by rfl) (HYY.out _) HLL.out (by simp; omega) ?_; intro v' w8 hown8 hgrow8 hat8)
              have H8 := Lib.hid (And.intro hown8 (And.intro hgrow8 hat8))
              clear hown8 hgrow8 hat8
              go_roundw
              case rel =>
                obtain ⟨hown8, hgrow8, hat8⟩ := H8.out
                have hsi : kSpan.e ≠ kInt.e := by decide
                refine ⟨u + 1, by omega, by omega, by go_num, ?_, ?_, ?_, ?_⟩
                · rw [show u + 1 - Lo = (u - Lo) + 1 by omega, List.range'_1_concat, show Lo + (u - Lo) = u by omega, ← List.append_assoc, zs_app]
                  exact hown8
                · exact Ext.grown (HX6.out.alloc _) hgrow8 (fun x hx => by rw [HG2.out]; exact (HO6.out.lt x hx).1)
                · exact (HS6.out.ext ((Ext.refl _).alloc _)).beside (HO6.out.ext ((Ext.refl _).alloc _)) hsi hgrow8
                · exact (HB6.out.ext ((Ext.refl _).alloc _)).beside (HO6.out.ext ((Ext.refl _).alloc _)) hsi hgrow8
              case measure => simp [intOf]; omega
            · obtain rfl : u = Hi := by omega
              go_wp2_with fail
              go_roundw
              case rel => exact ⟨j + 1, by omega, by go_num, by rw [HFL.out]; exact HO6.out, HX6.out, HS6.out⟩
              case measure => simp [intOf]; omega
        · obtain rfl : j = S.length := by omega
          rw [List.take_length] at HO5
          have HXX := Lib.hid (HX2.out.trans HX5.out)
          obtain ⟨Lz, lz, hv, hlz⟩ := HO5.out.slice
          subst hv
          go_wp2_with fail
          refine bodyPost_ret (v := .tuple #[.slice Lz (zs (S.flatMap rngS)).length lz, .int .i64 evs.length, .int .i64 0]) (by simp [results, Tryz.results35, go_sem]) rfl (by rw [HEE.out]; exact ⟨Lz, lz, by rw [zs_len], by have := HO5.out.mono (B' := w.heap.size) (by omega); rw [zs_len] at this; exact this, HXX.out⟩)
end Go.Proofs.YtkpbanfpnilifaaGreat

/- Plain words of fill: what holds of an order, and of cells. No program in it. -/
namespace Go.Proofs.YtkpbanfpnilifaaGreat.Plain

theorem ordP_good {n : Nat} {g m : Int} {picks : List (Int × Int)} {os : List Nat} {st : Nat} (h : ordP n g m picks = (os, st, 0)) :
    ∃ G M : Nat, g = G ∧ m = M ∧ 1 ≤ G ∧ G ≤ 100 ∧ 1 ≤ M ∧ M ≤ 8 ∧ picks.length ≤ 4000 ∧ os.Perm (List.range n) ∧ st ≤ picks.length + M * (cntT (max 1 n) G + 1) ∧ min 1 n ≤ st := by
  unfold ordP at h
  split at h
  · simp at h
  · rename_i hb
    have hb' : planB g m picks.length = true := by simpa using hb
    obtain ⟨h1, h2, h3, h4, h5⟩ := (planB_iff _ _ _).1 hb'
    refine ⟨g.toNat, m.toNat, by omega, by omega, by omega, by omega, by omega, by omega, h5, ?_⟩
    split at h
    · rename_i hz
      subst hz
      simp only [Prod.mk.injEq] at h
      obtain ⟨rfl, rfl, _⟩ := h
      exact ⟨by simp, by simp, by simp⟩
    · rename_i hz
      simp only [Prod.mk.injEq] at h
      obtain ⟨rfl, rfl, _⟩ := h
      obtain ⟨w1, w2, w3, w4⟩ := whole_ends (g := g.toNat) (n := n) (m := m.toNat) (by omega) (by omega) (by omega) picks
      refine ⟨w4, ?_, ?_⟩
      · rw [show max 1 n = n by omega]; exact w3
      · rcases Nat.eq_zero_or_pos (wholeP g.toNat n m.toNat picks).2.length with h0 | h0
        · exfalso
          have h9 := w4.length_eq
          rw [List.eq_nil_of_length_eq_zero h0, orderL_nil, List.length_range] at h9
          simp at h9
          omega
        · omega
end Go.Proofs.YtkpbanfpnilifaaGreat.Plain

/- The program's each (fill), by Fill's closure. -/
namespace Go.Proofs.YtkpbanfpnilifaaGreat
open Go.BigFrame
open Go.RowKit Go.Proofs.YtkpbanfpnilifaaGreat.Plain

end Go.Proofs.YtkpbanfpnilifaaGreat

/- The program's each (fill), by Zip's closure. -/
namespace Go.Proofs.YtkpbanfpnilifaaGreat
open Go.BigFrame
open Go.RowKit Go.Proofs.YtkpbanfpnilifaaGreat.Plain

end Go.Proofs.YtkpbanfpnilifaaGreat

/- The program's Fill and Zip: with Right, Order, One the five contracts of fill. -/
namespace Go.Proofs.YtkpbanfpnilifaaGreat
open Go.BigFrame
open Go.RowKit Go.Proofs.YtkpbanfpnilifaaGreat.Plain

end Go.Proofs.YtkpbanfpnilifaaGreat

/- The program's walk (scan): in two phases, by each of its two rules. -/
namespace Go.Proofs.YtkpbanfpnilifaaGreat
open Go.BigFrame
open Go.RowKit Go.Shelf Go.Proofs.YtkpbanfpnilifaaGreat.Plain
attribute [local go_sem] Oper.semAt_some

theorem grown_drew (W : World) (row : Option Nat) : W.grownBy W.drew row := ⟨rfl, rfl, rfl, Nat.le_refl _, fun _ _ _ => rfl⟩
/-- no way out but the end and 'return' -/
def Clean (Q : Exit → Act → World → Prop) : Exit → Act → World → Prop
  | .normal, a, w => Q .normal a w
  | .ret, a, w => Q .ret a w
  | _, _, _ => False
theorem Clean.ret {Q : Exit → Act → World → Prop} {a : Act} {w : World} (h : Q .ret a w) : Clean Q .ret a w := h
theorem clean_wp {P : Program} {c : Code} {Q : Exit → Act → World → Prop} {a : Act} {w : World} (h : c.wp P (Clean Q) a w) : c.wp P Q a w :=
  wp_mono h fun e _ _ h9 => by cases e <;> first | exact h9 | exact h9.elim
/-- a rule that comes to the same cell by cell and block by block -/
structure Plain.RuleOk (R : Nat → Nat → Nat) : Prop where
  lt : ∀ a x, a < 4294967296 → x < 4294967296 → R a x < 4294967296
  assoc : ∀ a b c, a < 4294967296 → b < 4294967296 → c < 4294967296 → R (R a b) c = R a (R b c)
  left : ∀ x, x < 4294967296 → R 0 x = x
  right : ∀ x, x < 4294967296 → R x 0 = x
theorem Plain.addR_ok : RuleOk addR := ⟨addR_lt, fun a b c _ _ _ => by unfold addR; omega, fun x h => by unfold addR; omega, fun x h => by unfold addR; omega⟩
theorem Plain.RuleOk.fold {R : Nat → Nat → Nat} (h : RuleOk R) : ∀ (l : List Nat) (s : Nat), s < 4294967296 → (∀ x ∈ l, x < 4294967296) → l.foldl R s = R s (l.foldl R 0)
  | [], s, hs, _ => (h.right s hs).symm
  | x :: l, s, hs, hl => by
    have hx := hl x (by simp)
    have hl' : ∀ z ∈ l, z < 4294967296 := fun z hz => hl z (by simp [hz])
    rw [List.foldl_cons, List.foldl_cons, h.fold l (R s x) (h.lt _ _ hs hx) hl', h.left x hx, h.fold l x hx hl', h.assoc _ _ _ hs hx (foldR_lt h.lt l 0 (by decide) hl')]
/-- the blocks' totals, up to one: what all ahead come to -/
theorem Plain.RuleOk.starts {R : Nat → Nat → Nat} (h : RuleOk R) {l : List Nat} (hl : ∀ x ∈ l, x < 4294967296) (B N : Nat) : ∀ b, b ≤ N → ((byN N (fun u => (blkL l B u).foldl R 0)).take b).foldl R 0 = (l.take (b * B)).foldl R 0
  | 0, _ => by simp
  | b + 1, hb => by
    have ih := h.starts hl B N b (by omega)
    have hl1 : ∀ x ∈ l.take (b * B), x < 4294967296 := fun x hx => hl x (List.mem_of_mem_take hx)
    rw [takeN_snoc (by rw [byN_len]; omega), List.foldl_append, ih, byN_getD _ _ _ (by omega), Nat.add_mul, Nat.one_mul, List.take_add, List.foldl_append]
    show R _ _ = _
    rw [h.fold ((l.drop (b * B)).take B) _ (foldR_lt h.lt _ 0 (by decide) hl1) (fun x hx => hl x (List.mem_of_mem_drop (List.mem_of_mem_take hx)))]
    rfl
/-- what the walk makes of each cell -/
def Plain.walkL (R : Nat → Nat → Nat) (l : List Nat) : List Nat := byN l.length (fun i => (l.take i).foldl R 0)
/-- the cells, when so many blocks have come -/
def Plain.partL (R : Nat → Nat → Nat) (l : List Nat) (B : Nat) (pre : List Nat) : List Nat := byN l.length (fun i => if i / B ∈ pre then (l.take i).foldl R 0 else 0)
theorem Plain.partL_len (R : Nat → Nat → Nat) (l : List Nat) (B : Nat) (pre : List Nat) : (partL R l B pre).length = l.length := byN_len _ _
theorem Plain.partL_all {R : Nat → Nat → Nat} {l : List Nat} {B N : Nat} {os : List Nat} (hB : 0 < B) (hos : os.Perm (List.range N)) (hN : l.length ≤ N * B) : partL R l B os = walkL R l :=
  byN_congr _ _ _ fun i hi => by
    rw [if_pos]
    rw [hos.mem_iff, List.mem_range, Nat.div_lt_iff_lt_mul hB]; omega
theorem Plain.RuleOk.along {R : Nat → Nat → Nat} (h : RuleOk R) {l : List Nat} (hl : ∀ x ∈ l, x < 4294967296) {B : Nat} (hB : 0 < B) (pre : List Nat) (u : Nat) :
    alongL R (partL R l B pre) (blkL l B u) (u * B) ((l.take (u * B)).foldl R 0) (blkL l B u).length = partL R l B (pre ++ [u]) := by
  unfold alongL
  rw [partL_len]
  refine byN_congr _ _ _ fun i hi => ?_
  have hdiv : i / B = u ↔ u * B ≤ i ∧ i < u * B + B := by
    rw [Nat.div_eq_iff hB]; omega
  by_cases hiu : i / B = u
  · obtain ⟨h1, h2⟩ := hdiv.1 hiu
    rw [if_pos ⟨h1, by rw [blkL_len, Nat.add_mul, Nat.one_mul]; omega⟩, if_pos (by rw [hiu]; simp)]
    unfold blkL
    rw [List.take_take, Nat.min_eq_left (by omega), ← List.foldl_append]
    congr 1
    rw [← List.take_add]; congr 1; omega
  · rw [if_neg (fun h9 => hiu (hdiv.2 ⟨h9.1, by have := h9.2; rw [blkL_len, Nat.add_mul, Nat.one_mul] at this; omega⟩))]
    unfold partL
    rw [byN_getD _ _ _ hi]
    by_cases hm : i / B ∈ pre
    · rw [if_pos hm, if_pos (by simp [hm])]
    · rw [if_neg hm, if_neg (by simp [hm, hiu])]
/-- what stands ahead of each block -/
theorem Plain.RuleOk.starts_eq {R : Nat → Nat → Nat} (h : RuleOk R) {l os : List Nat} (hl : ∀ x ∈ l, x < 4294967296) {B : Nat} (hos : os.Perm (List.range os.length)) :
    alongL R (byN os.length (fun _ => 0)) (byN os.length (accF R l B os)) 0 0 os.length = byN os.length (fun u => (l.take (u * B)).foldl R 0) := by
  unfold alongL
  rw [byN_len, byN_congr os.length (accF R l B os) (fun u => (blkL l B u).foldl R 0) (fun u hu => accF_once hos hu)]
  refine byN_congr _ _ _ fun u hu => ?_
  rw [if_pos (by omega), Nat.sub_zero, h.starts hl B os.length u (by omega)]
theorem Plain.RuleOk.total_eq {R : Nat → Nat → Nat} (h : RuleOk R) {l os : List Nat} (hl : ∀ x ∈ l, x < 4294967296) {B : Nat} (hos : os.Perm (List.range os.length)) (hN : l.length ≤ os.length * B) :
    (byN os.length (accF R l B os)).foldl R 0 = l.foldl R 0 := by
  have h1 := h.starts hl B os.length os.length (Nat.le_refl _)
  rw [byN_congr os.length (accF R l B os) (fun u => (blkL l B u).foldl R 0) (fun u hu => accF_once hos hu)]
  rw [List.take_of_length_le (by rw [byN_len]; exact Nat.le_refl _), List.take_of_length_le hN] at h1
  exact h1
def Plain.walkP (R : Nat → Nat → Nat) (l : List Nat) (b g m : Int) (picks : List (Int × Int)) : List Nat × Nat × Nat × Int :=
  if (stepsP l.length b g m picks).2 ≠ 0 then ([], 0, 0, (stepsP l.length b g m picks).2) else (walkL R l, l.foldl R 0, (stepsP l.length b g m picks).1, 0)
theorem Plain.blocks_all {n B : Nat} (hn : n ≤ 1000) (h1 : 1 ≤ B) (h2 : B ≤ 100) : n ≤ blocksP n B * B := by
  unfold blocksP
  rw [if_pos (by omega), Int.toNat_natCast]
  have h := Nat.lt_mul_div_succ (n + B - 1) (show 0 < B by omega)
  rw [Nat.mul_comm, Nat.add_mul, Nat.one_mul] at h
  omega
/-- what the two orders' errors and steps say of each other -/
theorem Plain.steps_by {n B : Nat} (g m : Int) (picks : List (Int × Int)) (h1 : 1 ≤ B) (h2 : B ≤ 100) :
    stepsP n B g m picks = if (ordP (blocksP n B) g m picks).2.2 ≠ 0 then (0, (ordP (blocksP n B) g m picks).2.2) else (2 * (ordP (blocksP n B) g m picks).2.1, 0) := by
  unfold stepsP
  rw [if_neg (by omega)]
  by_cases he : (ordP n g m picks).2.2 = 0
  · have h9 := ordP_err_any n (blocksP n B) g m picks he
    rw [if_neg (by simp [he]), if_neg (by simp [h9])]
  · have h9 : (ordP (blocksP n B) g m picks).2.2 ≠ 0 := fun h8 => he (ordP_err_any _ _ g m picks h8)
    rcases ordP_err n g m picks with h | h
    · exact absurd h he
    · rcases ordP_err (blocksP n B) g m picks with h8 | h8
      · exact absurd h8 h9
      · rw [if_pos he, if_pos h9, h, h8]
end Go.Proofs.YtkpbanfpnilifaaGreat

/- The program's walk (scan), by its rule of sums. -/
namespace Go.Proofs.YtkpbanfpnilifaaGreat
open Go.BigFrame
open Go.RowKit Go.Shelf Go.Proofs.YtkpbanfpnilifaaGreat.Plain
attribute [local go_sem] Oper.semAt_some

set_option maxHeartbeats 3200000 in
set_option maxRecDepth 100000 in
theorem swalk1_any (l : List Nat) (L : Option Addr) (lc : Nat) (b g m : Int) (Ap : Option Addr) (cp : Nat) (picks : List (Int × Int)) (w : World) (hL : Rd kU32 w (.slice L l.length lc) (zs l)) (hp : Rd kPk w (.slice Ap picks.length cp) picks) (hl : l.length ≤ 900) (hb : in64 b) (hg : in64 g) (hm : in64 m) :
    Calls Tryz.prog 39 #[.slice L l.length lc, .int .i64 b, planV g m Ap picks.length cp, .func (.func 40) #[] #[]] w (SumsSaid (walkP addR l b g m picks) w) := by
  have HP := Lib.hid hp
  have HL := Lib.hid hL
  have HLT := Lib.hid (zs_lt hL)
  have HGM := Lib.hid (And.intro hg (And.intro hm hb))
  have HLL := Lib.hid hl
  have hl' : (l.length : Int) ≤ 900 := by omega
  refine callsIn_wide.1 (callsIn_of_wp_marks (n := 2) Tryz.func39 rfl trivial ?_ rfl)
  simp only [Tryz.ntmps39, List.size_toArray, List.length_cons, List.length_nil, Nat.reduceAdd, Nat.reduceSub, Array.replicate_succ, Array.replicate_zero, List.push_toArray, List.append_toArray, List.nil_append, List.cons_append]
  refine (wpIn_wide (n := 2)).2 (clean_wp ?_)
  by_cases hbr : 1 ≤ b ∧ b ≤ 100
  case neg =>
    have HE : Hid (walkP addR l b g m picks = ([], 0, 0, 1)) := Lib.hid (by unfold walkP stepsP; rw [if_pos (by omega : ¬ (1 ≤ b ∧ b ≤ 100))]; simp)
    have HR := Lib.hid (fun w => (sright_any b w hb).mono (fun ed w' (h : _ ∧ _) => (⟨by rw [h.1, decide_eq_false hbr], h.2⟩ : ed = .returned (.bool false) ∧ w = w')))
    clear hp hL hg hm hb hl hbr
    go_wp2_with fail
    refine (HR.out _).mono ?_
    rintro ed w1 ⟨rfl, rfl⟩
    go_wp2_with fail
    refine Clean.ret ⟨.tuple #[.slice none 0 0, .int .u32 0, .int .i64 0, .int .i64 1], by simp [results, Tryz.results39, go_sem], ?_⟩
    rw [HE.out]
    exact ⟨none, 0, rfl, Ow.nil _ _, (((Ext.refl _).alloc _).alloc _).alloc _⟩
  case pos =>
  obtain ⟨B, rfl⟩ : ∃ B : Nat, b = B := ⟨b.toNat, by omega⟩
  have hB1 : 1 ≤ B := by omega
  have hB2 : B ≤ 100 := by omega
  have HR := Lib.hid (fun w => (sright_any B w hb).mono (fun ed w' (h : _ ∧ _) => (⟨by rw [h.1, decide_eq_true hbr], h.2⟩ : ed = .returned (.bool true) ∧ w = w')))
  have HBK := Lib.hid (fun w => sblocksE_any l.length B w (by omega) hb)
  have HST := Lib.hid (steps_by (n := l.length) g m picks hB1 hB2)
  have hN9 : blocksP l.length B ≤ 900 := Nat.le_trans (blocksP_le _ _) hl
  have HBL := Lib.hid (And.intro (fun u => blocks_at (n := l.length) (B := B) (u := u) (by omega) hB1 hB2) (blocks_all (n := l.length) (B := B) (by omega) hB1 hB2))
  have herr := ordP_err (blocksP l.length B) g m picks
  have HSB : Hid ((ordP (blocksP l.length B) g m picks).2.2 = 0 → (ordP (blocksP l.length B) g m picks).2.1 ≤ 30000 ∧ (ordP (blocksP l.length B) g m picks).1.Perm (List.range (blocksP l.length B))) := Lib.hid (fun h => ⟨by have := ordP_steps (blocksP l.length B) g m picks hN9; have := ordP_plan h; omega, by
    obtain ⟨⟨os, st, er⟩, hr⟩ : ∃ x, ordP (blocksP l.length B) g m picks = x := ⟨_, rfl⟩
    rw [hr] at h ⊢
    simp only at h
    subst h
    obtain ⟨_, _, _, _, _, _, _, _, _, h9, _⟩ := ordP_good hr
    exact h9⟩)
  clear hp hL hg hm hb hl hbr
  obtain ⟨N, hN⟩ : ∃ N, blocksP l.length B = N := ⟨_, rfl⟩
  rw [hN] at HBK HST hN9 HBL herr HSB
  clear hN
  have HORD := Lib.hid (fun (w' : World) (hE : Ext w w') => forder_any N g m Ap cp picks w' (HP.out.ext hE) hN9 HGM.out.1 HGM.out.2.1)
  obtain ⟨⟨os, st, er⟩, hr⟩ : ∃ x, ordP N g m picks = x := ⟨_, rfl⟩
  rw [hr] at HST herr HSB HORD
  simp only at HST herr HSB
  clear hr
  go_upto_region 3 with (refine (HR.out _).mono ?_; rintro ed w1 ⟨rfl, rfl⟩)
  have hW : Ext w (((w.alloc (.cells #[.slice L l.length lc] 22)).alloc (.cells #[.int .i64 g, .int .i64 m, .slice Ap picks.length cp] 25)).alloc (.cells #[.func (.func 40) #[] #[]] 72)) := (((Ext.refl _).alloc _).alloc _).alloc _
  have hzW : (((w.alloc (.cells #[.slice L l.length lc] 22)).alloc (.cells #[.int .i64 g, .int .i64 m, .slice Ap picks.length cp] 25)).alloc (.cells #[.func (.func 40) #[] #[]] 72)).heap.size = w.heap.size + 3 := by simp
  generalize hW1 : (((w.alloc (.cells #[.slice L l.length lc] 22)).alloc (.cells #[.int .i64 g, .int .i64 m, .slice Ap picks.length cp] 25)).alloc (.cells #[.func (.func 40) #[] #[]] 72)) = w1 at *
  have c0 : w1.cell? ⟨w.heap.size, 0, none⟩ = some (.slice L l.length lc) := by subst hW1; go_simp
  have d0 : w1.cell? ⟨w.heap.size + 1, 0, none⟩ = some (.int .i64 g) := by subst hW1; go_simp
  have d1 : w1.cell? ⟨w.heap.size + 1, 1, none⟩ = some (.int .i64 m) := by subst hW1; go_simp
  have d2 : w1.cell? ⟨w.heap.size + 1, 2, none⟩ = some (.slice Ap picks.length cp) := by subst hW1; go_simp
  have c1 : w1.cell? ⟨w.heap.size + 1 + 1, 0, none⟩ = some (.func (.func 40) #[] #[]) := by subst hW1; go_simp
  have HX1 := Lib.hid hW
  have HZ1 := Lib.hid hzW
  have HC1 := Lib.hid (And.intro c0 c1)
  clear hW1 hW hzW
  go_cut [12, 13, 14] from 20 (fun o s e wx => ∃ (Lo : Option Addr) (lo : Nat), o = .slice Lo os.length lo ∧ s = .int .i64 st ∧ e = .int .i64 er ∧ Ow kInt w.heap.size wx (.slice Lo os.length lo) (zs os) ∧ Ext w1 wx)
  case first =>
    go_region_law (first
      | (go_simp; go_at_call 51; refine (HBK.out _).mono ?_; rintro ed w5 ⟨rfl, rfl⟩)
      | (go_simp; go_at_call 35; refine (HORD.out _ (HX1.out.trans (Ext.refl _).drew)).mono ?_; rintro ed w5 ⟨Lo, lo, rfl, hO5, hE5⟩))
    all_goals go_wp2_with fail
    all_goals go_meet
    all_goals exact ⟨Lo, lo, rfl, rfl, rfl, hO5.mono (by have := HZ1.out; simp; omega), (Ext.refl _).drew.trans hE5⟩
  case rest =>
  obtain ⟨Lo, lo, rfl, rfl, rfl, hO2, hE2⟩ := hcut
  generalize wc = w2 at *
  have HX2 := Lib.hid (HX1.out.trans hE2)
  rcases herr with rfl | rfl
  case inr =>
    have HE : Hid (walkP addR l B g m picks = ([], 0, 0, 1)) := Lib.hid (by unfold walkP; rw [HST.out]; simp)
    clear hO2 hE2
    go_wp2_with fail
    refine Clean.ret ⟨.tuple #[.slice none 0 0, .int .u32 0, .int .i64 0, .int .i64 1], by simp [results, Tryz.results39, go_sem], ?_⟩
    rw [HE.out]
    exact ⟨none, 0, rfl, Ow.nil _ _, HX2.out⟩
  case inl =>
  obtain ⟨hst9, hperm⟩ := HSB.out rfl
  have hlen : os.length = N := by rw [hperm.length_eq, List.length_range]
  subst hlen
  have HPM := Lib.hid hperm
  have HF : Hid (walkP addR l B g m picks = (walkL addR l, l.foldl addR 0, 2 * st, 0)) := Lib.hid (by unfold walkP; rw [HST.out]; simp)
  have hst9' : (st : Int) ≤ 30000 := by omega
  have HO2 := Lib.hid hO2
  have n0 := Ext.cell hE2 HC1.out.1
  have n1 := Ext.cell hE2 HC1.out.2
  have HZ2 : Hid (w.heap.size + 3 ≤ w2.heap.size) := Lib.hid (by have := hE2.size; have := HZ1.out; omega)
  have hos9 : (os.length : Int) ≤ 900 := by omega
  obtain ⟨C, hmk, hmown⟩ := kU32.make 0 rfl (show (0 : Int) ≤ 0 ∧ (0 : Int) ≤ 4294967295 by omega) os.length (by omega)
  have HMK := Lib.hid hmown
  have hmk2 : ∀ w : World, (Instr.makeSlice 22 (.int .i64 os.length) (.int .i64 os.length)).run Tryz.prog w = .ok (.slice (some ⟨w.heap.size, 0, none⟩) os.length os.length) (w.alloc (.cells C 42)) := hmk
  clear hO2 hE2 hperm hmk hmown c0 c1 d0 d1 d2 hst9
  go_upto_region 7 with fail
  have HTE := Lib.hid ((addR_ok).starts_eq HLT.out (B := B) HPM.out)
  have HTT := Lib.hid ((addR_ok).total_eq HLT.out (B := B) HPM.out HBL.out.2)
  have hT9 : ∀ x ∈ byN os.length (accF addR l B os), x < 4294967296 := fun x hx => by
    obtain ⟨u, _, rfl⟩ := List.mem_map.1 hx
    exact accF_lt addR_lt HLT.out B os u
  obtain ⟨T, hT⟩ : ∃ T, byN os.length (accF addR l B os) = T := ⟨_, rfl⟩
  have hTl : T.length = os.length := by rw [← hT, byN_len]
  have HTOT := Lib.hid (fun (w' : World) (hE : Ext w2 w') => stot1_any l os L Lo lc lo B B w' (HL.out.ext (HX2.out.trans hE)) (HO2.out.rd.ext hE) HLL.out hB2 (by omega) hB1 (fun _ => rfl) (fun a ha => by
    have h9 := HO2.out.lt a.block (by subst ha; rfl)
    have := hE.size
    omega) (fun u hu => by have := (HPM.out.mem_iff (a := u)).1 hu; exact List.mem_range.1 this) (fun u hu => HBL.out.1 u hu))
  rw [hT] at HTE HTT HTOT
  have HTL := Lib.hid (And.intro hTl hT9)
  clear hT hTl hT9
  obtain ⟨S1, hS1⟩ : ∃ S1, w2.heap.size = S1 := ⟨_, rfl⟩
  have HM0 : Hid (Ow kU32 w.heap.size ((w2.alloc (.cells C 42)).alloc (.cells #[.slice (some ⟨S1, 0, none⟩) os.length os.length] 22)) (.slice (some ⟨S1, 0, none⟩) os.length os.length) (zs (byN os.length (fun _ => 0)))) := Lib.hid (by
    have h9 := HMK.out w2 w.heap.size S1 hS1.symm (by have := HZ2.out; omega)
    rw [show zs (byN os.length (fun _ => 0)) = List.replicate os.length (0 : Int) from by
      unfold zs byN; rw [List.map_map]; apply List.ext_getElem?; intro i; by_cases hi : i < os.length
      · rw [List.getElem?_map, List.getElem?_range hi, List.getElem?_replicate, if_pos hi]; rfl
      · rw [List.getElem?_eq_none (by simpa using hi), List.getElem?_eq_none (by simpa using hi)]]
    exact h9.ext ((Ext.refl _).alloc _))
  have hb15 : ((w2.alloc (.cells C 42)).alloc (.cells #[.slice (some ⟨S1, 0, none⟩) os.length os.length] 22)).cell? ⟨S1 + 1, 0, none⟩ = some (.slice (some ⟨S1, 0, none⟩) os.length os.length) := by subst hS1; go_simp
  have hX3 : Ext w2 ((w2.alloc (.cells C 42)).alloc (.cells #[.slice (some ⟨S1, 0, none⟩) os.length os.length] 22)) := ((Ext.refl _).alloc _).alloc _
  have hz3 : ((w2.alloc (.cells C 42)).alloc (.cells #[.slice (some ⟨S1, 0, none⟩) os.length os.length] 22)).heap.size = S1 + 2 := by simp; omega
  rw [hS1]
  generalize ((w2.alloc (.cells C 42)).alloc (.cells #[.slice (some ⟨S1, 0, none⟩) os.length os.length] 22)) = w3 at *
  have m0 := Ext.cell hX3 n0
  have m1 := Ext.cell hX3 n1
  have HX3 := Lib.hid (And.intro hX3 (And.intro hz3 hS1))
  have HN01 := Lib.hid (And.intro n0 (And.intro n1 hb15))
  clear hX3 hz3 hmk2 n0 n1
  go_cut [16] from 20 (fun a wx => a = .int .u32 (T.foldl addR 0 : Nat) ∧ Ow kU32 w.heap.size wx (.slice (some ⟨S1, 0, none⟩) os.length os.length) (zs (alongL addR (byN os.length (fun _ => 0)) T 0 0 T.length)) ∧ Ext w2 wx ∧ wx.cell? ⟨S1 + 1, 0, none⟩ = some (.slice (some ⟨S1, 0, none⟩) os.length os.length) ∧ S1 + 2 ≤ wx.heap.size)
  case first =>
    clear hS1
    go_region_law (first
      | (go_simp; go_at_call 53; refine (HTOT.out _ (HX3.out.1.trans (Ext.refl _).drew)).mono ?_; rintro ed w5 ⟨L5, l5, rfl, hO5, hE5⟩
         have k15 : w5.cell? ⟨S1 + 1, 0, none⟩ = some (.slice (some ⟨S1, 0, none⟩) os.length os.length) := Ext.cell hE5 hb15
         have k1 := Ext.cell hE5 m1)
      | (go_simp; go_at_call 52
         refine (salong1_any S1 0 os.length os.length os.length w.heap.size 0 (byN os.length (fun _ => 0)) T L5 l5 w5 (by rw [byN_len]; exact HM0.out.ext ((Ext.refl _).drew.trans hE5)) hO5.rd (fun a ha => by
           have h9 := hO5.lt a.block (by subst ha; rfl)
           have h8 := HX3.out.2.1
           simp at h9
           omega) (by rw [byN_len]; omega) (by rw [HTL.out.1]; exact Nat.le_refl _) (by decide) (by rw [byN_len]; omega)).mono ?_
         rintro ed w6 ⟨rfl, hO6, hg6⟩))
    all_goals go_wp2_with fail
    all_goals go_meet
    all_goals exact ⟨rfl, by rw [byN_len] at hO6; exact hO6, (HX3.out.1.trans ((Ext.refl _).drew.trans hE5)).grown hg6 (fun r e => by cases e; have := HX3.out.2.2; omega), hg6.cell k15 (by simp), by
      have h9 := hg6.size
      have h8 := hE5.size
      have h7 := HX3.out.2.1
      simp at h8
      omega⟩
  case rest =>
  obtain ⟨rfl, hO4, hE4, hb4, hz4⟩ := hcut
  generalize wc = w4 at *
  rw [HTL.out.1, HTE.out] at hO4
  rw [HTT.out]
  have p0 := Ext.cell hE4 HN01.out.1
  have p1 := Ext.cell hE4 HN01.out.2.1
  have HX4 := Lib.hid (HX2.out.trans hE4)
  have HO4 := Lib.hid hO4
  have HE4 := Lib.hid (And.intro hE4 (And.intro hz4 (And.intro hb4 hS1)))
  obtain ⟨C2, hmk3, hmown2⟩ := kU32.make 0 rfl (show (0 : Int) ≤ 0 ∧ (0 : Int) ≤ 4294967295 by omega) l.length (by omega)
  have HMK2 := Lib.hid hmown2
  have hmk4 : ∀ w : World, (Instr.makeSlice 22 (.int .i64 l.length) (.int .i64 l.length)).run Tryz.prog w = .ok (.slice (some ⟨w.heap.size, 0, none⟩) l.length l.length) (w.alloc (.cells C2 42)) := hmk3
  have lw4 : w.heap.size < w4.heap.size := World.block_lt_of_cell? _ _ p0
  have lw4' : w.heap.size + 1 + 1 < w4.heap.size := World.block_lt_of_cell? _ _ p1
  clear hmk3 hmown2 HMK HM0 HTOT HTL HX3 HN01 hO4 hE4 m0 m1 hb15 hS1
  go_wp2_with fail
  refine (sblocks0_any Lo os.length lo l.length B _).mono ?_
  rintro ed w5 ⟨rfl, rfl⟩
  go_wp2_with fail
  obtain ⟨G, hG⟩ : ∃ G, w4.heap.size = G := ⟨_, rfl⟩
  rw [hG]
  have r0 : (((((w4.alloc (.cells C2 42)).alloc (.cells #[.slice (some ⟨G, 0, none⟩) l.length l.length] 22)).alloc (.cells #[.slice Lo os.length lo] 29)).alloc (.cells #[.int .i64 l.length] 3)).alloc (.cells #[.int .i64 B] 3)).cell? ⟨G + 1, 0, none⟩ = some (.slice (some ⟨G, 0, none⟩) l.length l.length) := by subst hG; go_simp
  have r1 : (((((w4.alloc (.cells C2 42)).alloc (.cells #[.slice (some ⟨G, 0, none⟩) l.length l.length] 22)).alloc (.cells #[.slice Lo os.length lo] 29)).alloc (.cells #[.int .i64 l.length] 3)).alloc (.cells #[.int .i64 B] 3)).cell? ⟨G + 1 + 1, 0, none⟩ = some (.slice Lo os.length lo) := by subst hG; go_simp
  have r2 : (((((w4.alloc (.cells C2 42)).alloc (.cells #[.slice (some ⟨G, 0, none⟩) l.length l.length] 22)).alloc (.cells #[.slice Lo os.length lo] 29)).alloc (.cells #[.int .i64 l.length] 3)).alloc (.cells #[.int .i64 B] 3)).cell? ⟨G + 1 + 1 + 1, 0, none⟩ = some (.int .i64 l.length) := by subst hG; go_simp
  have r3 : (((((w4.alloc (.cells C2 42)).alloc (.cells #[.slice (some ⟨G, 0, none⟩) l.length l.length] 22)).alloc (.cells #[.slice Lo os.length lo] 29)).alloc (.cells #[.int .i64 l.length] 3)).alloc (.cells #[.int .i64 B] 3)).cell? ⟨G + 1 + 1 + 1 + 1, 0, none⟩ = some (.int .i64 B) := by subst hG; go_simp
  have hE5 : Ext w4 (((((w4.alloc (.cells C2 42)).alloc (.cells #[.slice (some ⟨G, 0, none⟩) l.length l.length] 22)).alloc (.cells #[.slice Lo os.length lo] 29)).alloc (.cells #[.int .i64 l.length] 3)).alloc (.cells #[.int .i64 B] 3)) := (((((Ext.refl w4).alloc _).alloc _).alloc _).alloc _).alloc _
  have hz5 : (((((w4.alloc (.cells C2 42)).alloc (.cells #[.slice (some ⟨G, 0, none⟩) l.length l.length] 22)).alloc (.cells #[.slice Lo os.length lo] 29)).alloc (.cells #[.int .i64 l.length] 3)).alloc (.cells #[.int .i64 B] 3)).heap.size = G + 5 := by simp; omega
  have hM5 : Ow kU32 w.heap.size (((((w4.alloc (.cells C2 42)).alloc (.cells #[.slice (some ⟨G, 0, none⟩) l.length l.length] 22)).alloc (.cells #[.slice Lo os.length lo] 29)).alloc (.cells #[.int .i64 l.length] 3)).alloc (.cells #[.int .i64 B] 3)) (.slice (some ⟨G, 0, none⟩) l.length l.length) (zs (partL addR l B [])) := by
    have h9 := HMK2.out w4 w.heap.size G hG.symm (by have := HX4.out.size; omega)
    rw [show zs (partL addR l B []) = List.replicate l.length (0 : Int) from by
      unfold zs partL byN; rw [List.map_map]; apply List.ext_getElem?; intro i; by_cases hi : i < l.length
      · rw [List.getElem?_map, List.getElem?_range hi, List.getElem?_replicate, if_pos hi]; simp
      · rw [List.getElem?_eq_none (by simpa using hi), List.getElem?_eq_none (by simpa using hi)]]
    exact h9.ext (((((Ext.refl _).alloc _).alloc _).alloc _).alloc _)
  generalize (((((w4.alloc (.cells C2 42)).alloc (.cells #[.slice (some ⟨G, 0, none⟩) l.length l.length] 22)).alloc (.cells #[.slice Lo os.length lo] 29)).alloc (.cells #[.int .i64 l.length] 3)).alloc (.cells #[.int .i64 B] 3)) = W0 at *
  have r4 := Ext.cell hE5 p0
  have r5 := Ext.cell hE5 p1
  have r6 := Ext.cell hE5 hb4
  have HRC := Lib.hid (And.intro r0 (And.intro r4 (And.intro r5 r6)))
  have HE5 := Lib.hid (And.intro hE5 (And.intro hz5 hG))
  have HEW : Hid (Ext w W0) := Lib.hid (HX4.out.trans hE5)
  have HOL : Hid (∀ a, Lo = some a → a.block < w2.heap.size) := Lib.hid (fun a ha => (HO2.out.lt a.block (by subst ha; rfl)).2)
  have hw2 : w2.heap.size + 2 ≤ G := by have := HE4.out.2.1; have := HE4.out.2.2.2; omega
  have hlo := HE4.out.2.2.2
  have hww : w.heap.size + 3 ≤ w2.heap.size := HZ2.out
  clear hmk4 p0 p1 hb4 hG
  refine range_blocks 18 19 G w.heap.size l.length B os.length lo l.length l.length (G + 1 + 1) (G + 1 + 1 + 1 + 1) (G + 1 + 1 + 1) B os Lo (partL addR l B)
    rfl (by have := HLL.out; omega) hB2 (by omega) (fun u hu => by have := (HPM.out.mem_iff (a := u)).1 hu; exact List.mem_range.1 this) (by omega) (by omega) (by omega) r1 r3 (fun _ => rfl) r2 (HO2.out.rd.ext (HE4.out.1.trans hE5)) (fun a ha => ⟨by have := HOL.out a ha; omega, by have := HOL.out a ha; omega⟩) hM5 (by omega) ?assign ?body ?done
  case assign =>
    intro l9 u p q W K hK
    simp only [List.setIfInBounds_toArray, List.set_cons_succ, List.set_cons_zero]
    gi_wp2
    have h9 := hK W.heap.size (W.alloc (.cells #[.int .i64 p, .int .i64 q] 88)) ((Ext.refl W).alloc _) (KeepsOthers.alloc _ _) (Nat.le_refl _) (by go_simp) (by go_simp)
    simpa [roundAct] using h9
  case body =>
    intro l9 pre u p q Bx W hu hp hq hlen hO hX hBx h1 h2
    have hbl := HBL.out.1 u hu
    have hqp : p < q ∧ q ≤ l.length := by
      rw [Nat.add_mul, Nat.one_mul] at hq
      omega
    have hlb : (blkL l B u).length = q - p := by rw [blkL_len, hp, hq]
    have hblk : (l.drop p).take (q - p) = blkL l B u := by
      rw [← hlb]; unfold blkL; rw [← hp, List.length_take, ← List.take_take, List.take_of_length_le (Nat.le_refl _)]
    have cC := hX.cell HRC.out.1 (by show G + 1 < _; omega) (by show G + 1 ≠ _; omega)
    have cL := hX.cell HRC.out.2.1 (by show w.heap.size < _; omega) (by show w.heap.size ≠ _; omega)
    have cR := hX.cell HRC.out.2.2.1 (by show w.heap.size + 1 + 1 < _; omega) (by show w.heap.size + 1 + 1 ≠ _; omega)
    have cS := hX.cell HRC.out.2.2.2 (by show S1 + 1 < _; omega) (by show S1 + 1 ≠ _; omega)
    obtain ⟨zs0, -, hs9, -, -⟩ := (HO4.out.ext HE5.out.1).atN (u := u) (by rw [byN_len]; exact hu)
    rw [byN_getD _ _ _ hu] at zs0 hs9
    have cZ := hX.cell zs0 (by show S1 < _; omega) (by show S1 ≠ _; omega)
    have hlc : l.length ≤ lc := by obtain ⟨_, c', e, h9⟩ := HL.out.slice; simp only [Value.slice.injEq] at e; rw [zs_len] at h9; omega
    obtain ⟨bx, ox, rfl, zb, -⟩ := u32_at HL.out p (by omega)
    have hbx : bx < w.heap.size := World.block_lt_of_cell? _ _ zb
    have hXW : Ext w W := KeepsBut.ext HEW.out hX (by omega) (by omega)
    have hpc : Rd kU32 W (.slice (some ⟨bx, ox + p, none⟩) (blkL l B u).length (lc - p)) (zs (blkL l B u)) := by
      have h9 := ((HL.out.ext hXW).dropAdd p p (l.length - p) (lc - p) (by show p = p * 1; omega) (by rw [zs_len]) (by omega)).take (q - p) (lc - p) (by rw [List.length_drop, zs_len]; omega) (by omega)
      rw [hlb, ← hblk]
      rw [add_atk] at h9
      unfold zs at h9 ⊢
      rw [List.map_take, List.map_drop]
      exact h9
    have hal := (addR_ok).along HLT.out (by omega : 0 < B) pre u
    rw [← hp] at hal hs9 cZ
    obtain ⟨s, hs⟩ : ∃ s, (l.take p).foldl addR 0 = s := ⟨_, rfl⟩
    rw [hs] at hal hs9 cZ
    have hcall : Hid (Calls Tryz.prog 52 #[.slice (some ⟨G, p, none⟩) (q - p) (l.length - p), .slice (some ⟨bx, ox + p, none⟩) (q - p) (lc - p), .int .u32 s, .func (.func 40) #[] #[]] W.drew
        (fun ed w' => (∃ v, ed = .returned v) ∧ Ow kU32 w.heap.size w' (.slice (some ⟨G, 0, none⟩) l.length l.length) (zs (partL addR l B (pre ++ [u]))) ∧ W.drew.grownBy w' (some G))) := Lib.hid (by
      have h9 := salong1_any G p (q - p) (l.length - p) l.length w.heap.size s (partL addR l B pre) (blkL l B u) (some ⟨bx, ox + p, none⟩) (lc - p) W.drew (by rw [partL_len]; exact hO.ext (Ext.refl _).drew) (hpc.ext (Ext.refl _).drew)
        (fun a ha => by cases ha; show bx ≠ G; omega) (by rw [partL_len]; omega) (by omega) hs9 (by rw [partL_len]; have := HLL.out; omega)
      rw [hal, partL_len, hlb] at h9
      exact h9.mono fun ed w' h8 => ⟨⟨_, h8.1⟩, h8.2⟩)
    have hp9 : (0 : Int) ≤ p := by omega
    have hpq : (p : Int) ≤ q := by omega
    have hqc : q ≤ lc := by omega
    have hqc' : (q : Int) ≤ lc := by omega
    have hql : q ≤ l.length := by omega
    have hql' : (q : Int) ≤ l.length := by omega
    have hne : ¬ lc = p := by omega
    have hne' : ¬ l.length = p := by omega
    have hq9 : (q : Int) ≤ 900 := by omega
    have hu0 : (0 : Int) ≤ u := by omega
    have hu1 : (u : Int) < os.length := by omega
    have hd1 : decide ((u : Int) < 0) = false := decide_eq_false (by omega)
    have hd2 : decide ((os.length : Int) ≤ (u : Int)) = false := decide_eq_false (by omega)
    have hmo : Tryz.prog.follows .mixedOrders = true := by kernel_rfl
    obtain ⟨Q1, hQ1⟩ : ∃ z, q - p = z := ⟨_, rfl⟩
    rw [hQ1] at hcall
    clear hp hq hlb hblk hO hX hbl hlc hqp zs0 hs9 hs hal hpc hu zb hXW hM5 hE5 r0 r1 r2 r3 r4 r5 r6
    simp only [roundAct, List.setIfInBounds_toArray, List.set_cons_succ, List.set_cons_zero]
    gi_wp2
    refine round_still_tail (by rintro ⟨a, w, h⟩; exact h) 17 hmo (by kernel_rfl) (by kernel_rfl) ?_
    simp only [List.take_succ_cons, List.take_zero, List.drop_succ_cons, List.drop_zero]
    repeat still_step
    try refine wpStill_nil ?_
    go_wp2_with fail
    refine hcall.out.mono ?_
    rintro ed w5 ⟨⟨v5, rfl⟩, hO5, hg5⟩
    go_wp2_with fail
    exact ⟨(grown_drew W _).trans hg5, hO5⟩
  case done =>
    intro D W hD hO hX hK
    have h9 := hX.cell HRC.out.1 (by show G + 1 < _; omega) (by show G + 1 ≠ _; omega)
    rw [partL_all (by omega : 0 < B) HPM.out HBL.out.2] at hO
    go_wp2_with fail
    refine Clean.ret ⟨by simp, .inl ⟨_, _, rfl, run_takeDeferred hK, ?_⟩⟩
    refine ⟨.tuple #[.slice (some ⟨G, 0, none⟩) l.length l.length, .int .u32 (l.foldl addR 0 : Nat), .int .i64 (2 * st : Nat), .int .i64 0], by simp [results, Tryz.results39, go_sem], ?_⟩
    rw [HF.out]
    refine ⟨some ⟨G, 0, none⟩, l.length, by simp [walkL, byN_len], by
      have hlw : (walkL addR l).length = l.length := byN_len _ _
      rw [hlw]
      exact hO.kept (grownBy_putObj' W D _) (.inr (fun e => absurd (show G = D by simpa [Value.ownBlock] using e) (by omega))), ?_⟩
    exact (KeepsBut.ext HEW.out hX (by omega) (by omega)).grown (grownBy_putObj' W D _) (fun r e => by cases e; omega)
end Go.Proofs.YtkpbanfpnilifaaGreat

/- The program's walk (scan), by its rule of the highest. -/
namespace Go.Proofs.YtkpbanfpnilifaaGreat
open Go.BigFrame
open Go.RowKit Go.Shelf Go.Proofs.YtkpbanfpnilifaaGreat.Plain
attribute [local go_sem] Oper.semAt_some

end Go.Proofs.YtkpbanfpnilifaaGreat

/- The program's Sums and Highest: with Blocks, Totals, Back the five contracts of scan. -/
namespace Go.Proofs.YtkpbanfpnilifaaGreat
open Go.BigFrame
open Go.RowKit Go.Proofs.YtkpbanfpnilifaaGreat.Plain

theorem Plain.walk_sums (l : List Nat) (b g m : Int) (picks : List (Int × Int)) : walkP addR l b g m picks = sumsP l b g m picks := by
  have h1 : walkL addR l = sumsW l := byN_congr _ _ _ fun i _ => addF_tot _
  unfold walkP sumsP
  rw [h1, addF_tot]
set_option maxHeartbeats 800000 in
set_option maxRecDepth 100000 in
theorem ssums_any (l : List Nat) (L : Option Addr) (lc : Nat) (b g m : Int) (Ap : Option Addr) (cp : Nat) (picks : List (Int × Int)) (w : World) (hL : Rd kU32 w (.slice L l.length lc) (zs l)) (hp : Rd kPk w (.slice Ap picks.length cp) picks) (hl : l.length ≤ 900) (hb : in64 b) (hg : in64 g) (hm : in64 m) :
    Calls Tryz.prog 30 #[.slice L l.length lc, .int .i64 b, planV g m Ap picks.length cp] w (SumsSaid (sumsP l b g m picks) w) := by
  have hh := swalk1_any l L lc b g m Ap cp picks (w.alloc (.cells #[.int .i64 g, .int .i64 m, .slice Ap picks.length cp] 25)) (hL.ext ((Ext.refl _).alloc _)) (hp.ext ((Ext.refl _).alloc _)) hl hb hg hm
  rw [walk_sums] at hh
  have HH := Lib.hid hh
  clear hh hL hp hb hg hm
  go_enter Tryz.func30, Tryz.ntmps30
  go_wp2_with fail
  obtain ⟨r, hr⟩ : ∃ r, sumsP l b g m picks = r := ⟨_, rfl⟩
  have HR := Lib.hid hr
  rw [hr] at HH
  refine HH.out.mono ?_
  rintro ed w1 ⟨L1, l1, rfl, hO, hE⟩
  go_wp2_with fail
  exact bodyPost_ret (v := .tuple #[.slice L1 r.1.length l1, .int .u32 r.2.1, .int .i64 r.2.2.1, .int .i64 r.2.2.2]) (by simp [results, Tryz.results30, go_sem]) rfl (by rw [HR.out]; exact ⟨L1, l1, rfl, hO.mono (B' := w.heap.size) (by simp), ((Ext.refl _).alloc _).trans hE⟩)

end Go.Proofs.YtkpbanfpnilifaaGreat

/- The program's Pass, Sort, Sorted (radix, real code). -/
namespace Go.Proofs.YtkpbanfpnilifaaGreat
open Go.BigFrame
open Go.RowKit Go.Proofs.YtkpbanfpnilifaaGreat.Plain

set_option maxHeartbeats 1600000 in
set_option maxRecDepth 100000 in
theorem psort_any (l : List Nat) (L : Option Addr) (lc : Nat) (b blk g m : Int) (Ap : Option Addr) (cp : Nat) (picks : List (Int × Int)) (w : World) (hL : Rd kU32 w (.slice L l.length lc) (zs l)) (hp : Rd kPk w (.slice Ap picks.length cp) picks) (hl : l.length ≤ 900) (hb : in64 b) (hk : in64 blk) (hg : in64 g) (hm : in64 m) :
    Calls Tryz.prog 20 #[.slice L l.length lc, .int .i64 b, .int .i64 blk, planV g m Ap picks.length cp] w (OrdSaid (sortP l b blk g m picks) w) := by
  have HP := Lib.hid hp
  have HL := Lib.hid hL
  have HG := Lib.hid (And.intro hg (And.intro hm (And.intro hb hk)))
  have hl' : (l.length : Int) ≤ 900 := by omega
  have HK9 : Hid (∀ i, l.getD i 0 < 4294967296) := Lib.hid fun i => by
    rcases Nat.lt_or_ge i l.length with h | h
    · rw [List.getD_eq_getElem?_getD, List.getElem?_eq_getElem h]; exact zs_lt hL _ (List.getElem_mem h)
    · rw [List.getD_eq_getElem?_getD, List.getElem?_eq_none h]; exact (by decide : (0 : Nat) < 4294967296)
  clear hp hL hg hm hb hk
  obtain ⟨N, hN⟩ : ∃ N, passesP b = N := ⟨_, rfl⟩
  have HN := Lib.hid hN
  have hN1 : N ≤ 32 := by rw [← hN]; exact passesP_le b
  go_enter Tryz.func20, Tryz.ntmps20
  go_wp2_with fail
  refine (ppasses0_any b _ HG.out.2.2.1).mono ?_
  rintro ed w1 ⟨rfl, rfl⟩
  rw [hN]
  by_cases h0 : N = 0
  · subst h0
    have HE : Hid (sortP l b blk g m picks = ([], 0, 1)) := Lib.hid (by unfold sortP; rw [if_pos hN])
    clear hN
    go_wp2_with fail
    exact bodyPost_ret (v := .tuple #[.slice none 0 0, .int .i64 0, .int .i64 1]) (by simp [results, Tryz.results20, go_sem]) rfl (by rw [HE.out]; exact ⟨none, 0, rfl, Ow.nil _ _, (Ext.refl _).alloc _⟩)
  have hne : ((N : Int) == 0) = false := by simp; omega
  have HF : Hid (sortP l b blk g m picks = if (stepsP l.length blk g m picks).2 ≠ 0 then ([], 0, (stepsP l.length blk g m picks).2) else (sortL l, (stepsP l.length blk g m picks).1 * N, 0)) := Lib.hid (by unfold sortP; rw [hN, if_neg h0])
  obtain ⟨B, rfl, g1, g2⟩ : ∃ B : Nat, b = B ∧ 1 ≤ B ∧ B ≤ 16 := by
    have h4 : 1 ≤ b ∧ b ≤ 16 := by
      by_cases h9 : b < 1 ∨ 16 < b
      · rw [passesP_no b h9] at hN; omega
      · omega
    exact ⟨b.toNat, by omega, by omega, by omega⟩
  have HB := Lib.hid (And.intro g1 g2)
  clear hN h0 g1 g2
  go_wp2_with fail
  refine (ssums_any l L lc blk g m Ap cp picks _ (HL.out.ext ((Ext.refl _).alloc _)) (HP.out.ext ((Ext.refl _).alloc _)) hl HG.out.2.2.2 HG.out.1 HG.out.2.1).mono ?_
  have herr := stepsP_err l.length blk g m picks
  have hbd : (stepsP l.length blk g m picks).2 = 0 → (stepsP l.length blk g m picks).1 ≤ 60000 := fun h => (stepsP_bd l.length blk g m picks hl h).1
  unfold sumsP
  obtain ⟨⟨st, er⟩, hr⟩ : ∃ x, stepsP l.length blk g m picks = x := ⟨_, rfl⟩
  rw [hr] at HF herr hbd ⊢
  simp only at HF herr hbd ⊢
  rcases herr with rfl | rfl
  · rw [if_neg (by simp)] at HF
    rw [if_neg (by simp)]
    rintro ed w1 ⟨Lo, lo, rfl, hO, hE1⟩
    simp only at hO ⊢
    have HX1 := Lib.hid (((Ext.refl w).alloc _).trans hE1)
    have hst : st ≤ 60000 := hbd rfl
    have hz1 := HX1.out.size
    have hmul : st * N ≤ 60000 * 32 := Nat.mul_le_mul hst hN1
    obtain ⟨M, hM⟩ : ∃ M, st * N = M := ⟨_, rfl⟩
    have hM2 : (st : Int) * (N : Int) = (M : Int) := by rw [← hM]; simp
    rw [hM] at HF hmul
    have hM9 : IntKind.i64.wrap (M : Int) = (M : Int) := IntWalk.i64_in _ (by omega)
    have hN0 : (0 : Int) ≤ N := by omega
    have hN9 : (N : Int) ≤ 32 := by omega
    clear hO hE1 hr hbd hM hmul hst
    go_wp2_with fail
    refine (pstand_any l.length _ hl).mono ?_
    rintro ed w2 ⟨L2, l2, rfl, hO2, hE2⟩
    have HO2 := Lib.hid hO2
    have HX2 := Lib.hid (HX1.out.trans hE2)
    have hz2 := HX2.out.size
    clear hO2 hE2
    go_wp2_with fail
    go_loopw [16, 38] (fun v i wr => ∃ k : Nat, k ≤ N ∧ i = .int .i64 k ∧ (∃ (A : Option Addr) (c : Nat), v = .slice A l.length c ∧ Ow kInt w.heap.size wr v (zs (passesL l B k))) ∧ Ext w wr) (fun _ i _ => N - (intOf i).toNat)
    case atStart => exact ⟨0, Nat.zero_le _, rfl, ⟨_, _, rfl, HO2.out.mono (by have := HX1.out.size; omega)⟩, HX2.out⟩
    case round =>
      obtain ⟨k, hk, rfl, ⟨A, c, rfl, hO⟩, hX⟩ := hrel
      have HO := Lib.hid hO
      have HX := Lib.hid hX
      have hk0 : (0 : Int) ≤ k := by omega
      clear hO hX
      by_cases hlt : k < N
      · have hlt' : (k : Int) < N := by omega
        have hgood := passesL_good l B HB.out.1 HB.out.2 k (by rw [HN.out]; omega)
        have hpl : (passesL l B k).length = l.length := by rw [hgood.1.length_eq, List.length_range]
        have hbd := pbydigit_any l (passesL l B k) L A lc c k B wr (HL.out.ext HX.out) (by rw [hpl]; exact HO.out.rd) hl hgood.1 HB.out.1 HB.out.2 (by rw [HN.out]; exact hlt)
        rw [hpl] at hbd
        have HBD := Lib.hid hbd
        clear hbd hgood hpl
        go_wp2_with fail
        refine HBD.out.mono ?_
        rintro ed w5 ⟨L5, l5, rfl, hO5, hE5⟩
        have HO5 := Lib.hid hO5
        have HX5 := Lib.hid (HX.out.trans hE5)
        clear hO5 hE5
        go_wp2_with fail
        go_roundw
        case rel => exact ⟨k + 1, by omega, by go_num, ⟨_, _, rfl, HO5.out.mono HX.out.size⟩, HX5.out⟩
        case measure => simp [intOf]; omega
      · obtain rfl : k = N := by omega
        have hSL : passesL l B k = sortL l := by rw [← HN.out]; exact passes_sort l HK9.out B HB.out.1 HB.out.2
        have hO9 := HO.out
        rw [hSL] at hO9
        have HO9 := Lib.hid hO9
        have HLN : Hid ((sortL l).length = l.length) := Lib.hid (insAll_len _ _ _ List.length_range)
        have hM0 : (0 : Int) ≤ M := by omega
        clear hSL hO9
        go_wp2_with fail
        exact bodyPost_ret (v := .tuple #[.slice A l.length c, .int .i64 M, .int .i64 0]) (by simp [results, Tryz.results20, go_sem]) rfl (by rw [HF.out]; exact ⟨A, c, by rw [HLN.out], by rw [HLN.out]; exact HO9.out, HX.out⟩)
  · rw [if_pos (by decide)] at HF
    rw [if_pos (by decide)]
    rintro ed w1 ⟨Lo, lo, rfl, hO, hE1⟩
    simp only at hO ⊢
    have HX1 := Lib.hid (((Ext.refl w).alloc _).trans hE1)
    clear hO hE1
    go_wp2_with fail
    exact bodyPost_ret (v := .tuple #[.slice none 0 0, .int .i64 0, .int .i64 1]) (by simp [results, Tryz.results20, go_sem]) rfl (by rw [HF.out]; exact ⟨none, 0, rfl, Ow.nil _ _, HX1.out⟩)

/-- keys, put down so far -/
def Plain.keysJ (keys os : List Nat) (j : Nat) : List Nat := byN os.length (fun i => if i < j then keys.getD (os.getD i 0) 0 else 0)
theorem Plain.keysJ_len (keys os : List Nat) (j : Nat) : (keysJ keys os j).length = os.length := byN_len _ _
theorem Plain.keysJ_set (keys os : List Nat) (j : Nat) : (keysJ keys os j).set j (keys.getD (os.getD j 0) 0) = keysJ keys os (j + 1) := by
  unfold keysJ
  rw [byN_set]
  refine byN_congr _ _ _ fun i _ => ?_
  by_cases e : i = j
  · subst e; rw [if_pos rfl, if_pos (by omega)]
  · rw [if_neg e]
    by_cases h : i < j
    · rw [if_pos h, if_pos (by omega)]
    · rw [if_neg h, if_neg (by omega)]
theorem Plain.keysJ_zero (keys os : List Nat) : zs (keysJ keys os 0) = List.replicate os.length (0 : Int) := byN_rep _ _ fun i _ => if_neg (by omega)
theorem Plain.keysJ_all (keys os : List Nat) : keysJ keys os os.length = os.map (fun i => keys.getD i 0) := by
  unfold keysJ
  rw [byN_congr _ _ (fun i => keys.getD (os.getD i 0) 0) fun i hi => if_pos hi]
  conv => rhs; rw [← byN_id os]
  unfold byN
  rw [List.map_map]; rfl

set_option maxHeartbeats 1600000 in
set_option maxRecDepth 100000 in
theorem psorted_any (keys : List Nat) (order : List Int) (L O : Option Addr) (lc oc : Nat) (w : World) (hL : Rd kU32 w (.slice L keys.length lc) (zs keys)) (hO : Rd kInt w (.slice O order.length oc) order) (hl : keys.length ≤ 900) (ho : order.length ≤ 900) :
    Calls Tryz.prog 21 #[.slice L keys.length lc, .slice O order.length oc] w (SrtSaid (sortedR keys order) w) := by
  have HL := Lib.hid hL
  have HQ := Lib.hid hO
  have hl' : (keys.length : Int) ≤ 900 := by omega
  have ho' : (order.length : Int) ≤ 900 := by omega
  clear hL hO
  go_enter Tryz.func21, Tryz.ntmps21
  go_wp2_with fail
  refine (pisorder_any keys.length order O oc _ HQ.out (by omega)).mono ?_
  rintro ed w1 ⟨rfl, hE1⟩
  have HX1 := Lib.hid hE1
  clear hE1
  cases hob : onceB order keys.length with
  | false =>
    have HR : Hid (sortedR keys order = ([], false)) := Lib.hid (by unfold sortedR; rw [if_neg (by rw [hob]; decide)])
    clear hob
    go_wp2_with fail
    exact bodyPost_ret (v := .tuple #[.slice none 0 0, .bool false]) (by simp [results, Tryz.results21, go_sem]) rfl (by rw [HR.out]; exact ⟨none, 0, rfl, Ow.nil _ _, HX1.out⟩)
  | true =>
    obtain ⟨os, rfl, hperm⟩ := (onceB_iff _ _).1 hob
    have HR : Hid (sortedR keys (zs os) = (os.map (fun i => keys.getD i 0), true)) := Lib.hid (by unfold sortedR; rw [if_pos hob, orderN_zs])
    have HPERM := Lib.hid hperm
    simp only [zs_len] at HQ ho' ho ⊢
    obtain ⟨C, hmk, hmown⟩ := kU32.make 0 rfl (show (0 : Int) ≤ 0 ∧ (0 : Int) ≤ 4294967295 by omega) os.length (by omega)
    have HM : Hid (∀ w3 : World, Ow kU32 w3.heap.size (w3.alloc (.cells C 42)) (.slice (some ⟨w3.heap.size, 0, none⟩) os.length os.length) (zs (keysJ keys os 0))) := Lib.hid fun w3 => by
      rw [keysJ_zero]
      exact hmown w3 w3.heap.size w3.heap.size rfl (Nat.le_refl _)
    have hmk2 : ∀ w : World, (Instr.makeSlice 22 (.int .i64 os.length) (.int .i64 os.length)).run Tryz.prog w = .ok (.slice (some ⟨w.heap.size, 0, none⟩) os.length os.length) (w.alloc (.cells C 42)) := hmk
    have hz1 := HX1.out.size
    clear hob hperm hmk hmown
    go_wp2_with fail
    go_loopw [19] (fun i wr => ∃ k : Nat, k ≤ os.length ∧ i = .int .i64 k ∧ Ow kU32 w1.heap.size wr (.slice (some ⟨w1.heap.size, 0, none⟩) os.length os.length) (zs (keysJ keys os k)) ∧ Ext w1 wr) (fun i _ => os.length - (intOf i).toNat)
    case atStart => exact ⟨0, Nat.zero_le _, rfl, HM.out w1, (Ext.refl _).alloc _⟩
    case round =>
      obtain ⟨k, hk, rfl, hO, hX⟩ := hrel
      have HO := Lib.hid hO
      have HX := Lib.hid hX
      have hk0 : (0 : Int) ≤ k := by omega
      clear hO hX hmk2
      by_cases hlt : k < os.length
      · have hlt' : (k : Int) < os.length := by omega
        obtain ⟨bw, ow, rfl, hcw⟩ := (ints_of_rd (HQ.out.ext (HX1.out.trans HX.out))).cells (by rw [zs_len]; omega)
        have y0 := hcw k (by rw [zs_len]; exact hlt)
        rw [zs_getD] at y0
        have hin : os.getD k 0 < keys.length := by
          have h9 : os.getD k 0 ∈ os := by rw [List.getD_eq_getElem?_getD, List.getElem?_eq_getElem hlt]; exact List.getElem_mem hlt
          exact List.mem_range.1 ((HPERM.out.mem_iff).1 h9)
        have hks := keysJ_set keys os k
        obtain ⟨u, hu⟩ : ∃ u, os.getD k 0 = u := ⟨_, rfl⟩
        rw [hu] at y0 hin hks
        obtain ⟨bx, ox, rfl, z0, hxl⟩ := u32_at (HL.out.ext (HX1.out.trans HX.out)) u hin
        obtain ⟨x, hx⟩ : ∃ x, keys.getD u 0 = x := ⟨_, rfl⟩
        rw [hx] at z0 hxl hks
        obtain ⟨m1, m2, _, _, hml⟩ := HO.out.atN (u := k) (by rw [keysJ_len]; exact hlt)
        have m2' := m2 k
        obtain ⟨mo, hmo⟩ : ∃ mo, (keysJ keys os k).getD k 0 = mo := ⟨_, rfl⟩
        rw [hmo] at m1
        have hset := HO.out.setN (u := k) (v := x) (by rw [keysJ_len]; exact hlt) hxl
        rw [hks] at hset
        have HSET := Lib.hid hset
        have hu0 : (0 : Int) ≤ u := by omega
        have hu1 : (u : Int) < keys.length := by omega
        have lbw : bw < wr.heap.size := World.block_lt_of_cell? _ _ y0
        have lbx : bx < wr.heap.size := World.block_lt_of_cell? _ _ z0
        clear hcw hu hx hxl hks hmo m2 hset
        go_wp2_with fail
        go_roundw
        case rel => exact ⟨k + 1, by omega, by go_num, HSET.out, HX.out.setCell (p := ⟨w1.heap.size, k, none⟩) (Nat.le_refl _) _⟩
        case measure => simp [intOf]; omega
      · obtain rfl : k = os.length := by omega
        have hT := HO.out
        rw [keysJ_all] at hT
        have HT := Lib.hid hT
        have HXX := Lib.hid (HX1.out.trans HX.out)
        clear hT
        go_wp2_with fail
        exact bodyPost_ret (v := .tuple #[.slice (some ⟨w1.heap.size, 0, none⟩) os.length os.length, .bool true]) (by simp [results, Tryz.results21, go_sem]) rfl (by rw [HR.out]; exact ⟨_, _, by rw [List.length_map], by rw [List.length_map]; exact HT.out.mono hz1, HXX.out⟩)
end Go.Proofs.YtkpbanfpnilifaaGreat

/- The document's Pack, Part, Spread (ref09). -/
namespace Go.Proofs.YtkpbanfpnilifaaGreat
open Go.BigFrame
open Go.RowKit Go.Proofs.YtkpbanfpnilifaaGreat.Plain

end Go.Proofs.YtkpbanfpnilifaaGreat

/- The document's Spread (ref09). -/
namespace Go.Proofs.YtkpbanfpnilifaaGreat
open Go.BigFrame
open Go.RowKit Go.Proofs.YtkpbanfpnilifaaGreat.Plain

end Go.Proofs.YtkpbanfpnilifaaGreat

/- The program's small ones of pack: ones, turned, count (real code), and plain words of them. -/
namespace Go.Proofs.YtkpbanfpnilifaaGreat
open Go.BigFrame
open Go.RowKit Go.Proofs.YtkpbanfpnilifaaGreat.Plain

def Plain.onesF (keep : List Bool) (j i : Nat) : Nat := if i < j ∧ kept keep i = true then 1 else 0
def Plain.onesJ (keep : List Bool) (j : Nat) : List Nat := byN keep.length (onesF keep j)
def Plain.onesL (keep : List Bool) : List Nat := onesJ keep keep.length
theorem Plain.onesJ_len (keep : List Bool) (j : Nat) : (onesJ keep j).length = keep.length := byN_len _ _
theorem Plain.onesJ_set (keep : List Bool) (j : Nat) (h : kept keep j = true) : (onesJ keep j).set j 1 = onesJ keep (j + 1) := by
  unfold onesJ
  rw [byN_set]
  refine byN_congr _ _ _ fun i _ => ?_
  unfold onesF
  by_cases e : i = j
  · subst e; rw [if_pos rfl, if_pos ⟨by omega, h⟩]
  · rw [if_neg e]
    by_cases e2 : i < j ∧ kept keep i = true
    · rw [if_pos e2, if_pos ⟨by omega, e2.2⟩]
    · rw [if_neg e2, if_neg (fun e3 => e2 ⟨by omega, e3.2⟩)]
theorem Plain.onesJ_no (keep : List Bool) (j : Nat) (h : kept keep j = false) : onesJ keep j = onesJ keep (j + 1) := by
  unfold onesJ
  refine byN_congr _ _ _ fun i _ => ?_
  unfold onesF
  by_cases e2 : i < j ∧ kept keep i = true
  · rw [if_pos e2, if_pos ⟨by omega, e2.2⟩]
  · rw [if_neg e2, if_neg (fun e3 => by
      by_cases e : i = j
      · subst e; rw [h] at e3; exact absurd e3.2 (by decide)
      · exact e2 ⟨by omega, e3.2⟩)]
theorem Plain.onesJ_zero (keep : List Bool) : zs (onesJ keep 0) = List.replicate keep.length (0 : Int) := byN_rep _ _ fun i _ => by unfold onesF; rw [if_neg (by omega)]
theorem Plain.ones_take (keep : List Bool) : ∀ i, i ≤ keep.length → (byN i (onesF keep keep.length)).sum = rank keep i
  | 0, _ => rfl
  | i + 1, h => by
    rw [byN_snoc, List.sum_append, ones_take keep i (by omega), rank_succ]
    unfold onesF
    by_cases e : kept keep i = true
    · rw [if_pos ⟨by omega, e⟩, if_pos e]; simp
    · rw [if_neg (fun e2 => e e2.2), if_neg e]; simp
theorem Plain.ones_sum (keep : List Bool) (hl : keep.length ≤ 900) (i : Nat) (hi : i ≤ keep.length) : totW ((onesL keep).take i) = rank keep i := by
  unfold onesL onesJ
  rw [byN_take _ _ _ hi]
  unfold totW
  rw [ones_take keep i hi]
  have : rank keep i ≤ i := whereF_len keep i
  exact Nat.mod_eq_of_lt (by omega)
theorem Plain.ones_sums (keep : List Bool) (hl : keep.length ≤ 900) : sumsW (onesL keep) = byN keep.length (rank keep) := by
  unfold sumsW
  rw [show (onesL keep).length = keep.length from onesJ_len _ _]
  exact byN_congr _ _ _ fun i hi => ones_sum keep hl i (by omega)
theorem Plain.ones_tot (keep : List Bool) (hl : keep.length ≤ 900) : totW (onesL keep) = rank keep keep.length := by
  have h := ones_sum keep hl keep.length (Nat.le_refl _)
  rw [List.take_of_length_le (by rw [show (onesL keep).length = keep.length from onesJ_len _ _]; exact Nat.le_refl _)] at h
  exact h
set_option maxHeartbeats 1600000 in
set_option maxRecDepth 100000 in
theorem pones_any (keep : List Bool) (K : Option Addr) (kc : Nat) (w : World) (hK : Rd kBool w (.slice K keep.length kc) keep) (hl : keep.length ≤ 900) :
    Calls Tryz.prog 34 #[.slice K keep.length kc] w fun ed w' => ∃ (L : Option Addr) (l : Nat), ed = .returned (.slice L keep.length l) ∧ Ow kU32 w.heap.size w' (.slice L keep.length l) (zs (onesL keep)) ∧ Ext w w' := by
  have HK := Lib.hid hK
  have hl' : (keep.length : Int) ≤ 900 := by omega
  obtain ⟨C, hmk, hmown⟩ := kU32.make 0 rfl (show (0 : Int) ≤ 0 ∧ (0 : Int) ≤ 4294967295 by omega) keep.length (by omega)
  have HM : Hid (Ow kU32 w.heap.size (w.alloc (.cells C 42)) (.slice (some ⟨w.heap.size, 0, none⟩) keep.length keep.length) (zs (onesJ keep 0))) := Lib.hid (by rw [onesJ_zero]; exact hmown w w.heap.size w.heap.size rfl (Nat.le_refl _))
  have hmk2 : ∀ w : World, (Instr.makeSlice 22 (.int .i64 keep.length) (.int .i64 keep.length)).run Tryz.prog w = .ok (.slice (some ⟨w.heap.size, 0, none⟩) keep.length keep.length) (w.alloc (.cells C 42)) := hmk
  clear hK hmk hmown
  go_enter Tryz.func34, Tryz.ntmps34
  go_wp2_with fail
  go_loopw [11] (fun i wr => ∃ j : Nat, j ≤ keep.length ∧ i = .int .i64 j ∧ Ow kU32 w.heap.size wr (.slice (some ⟨w.heap.size, 0, none⟩) keep.length keep.length) (zs (onesJ keep j)) ∧ Ext w wr) (fun i _ => keep.length - (intOf i).toNat)
  case atStart => exact ⟨0, Nat.zero_le _, rfl, HM.out, (Ext.refl _).alloc _⟩
  case round =>
    obtain ⟨j, hj, rfl, hO, hX⟩ := hrel
    have HO := Lib.hid hO
    have HX := Lib.hid hX
    have hj0 : (0 : Int) ≤ j := by omega
    clear hO hX hmk2
    by_cases hlt : j < keep.length
    · have hlt' : (j : Int) < keep.length := by omega
      obtain ⟨bx, ox, rfl, z0⟩ := bool_at (HK.out.ext HX.out) j hlt
      have lbx : bx < wr.heap.size := World.block_lt_of_cell? _ _ z0
      obtain ⟨z1, z2, _, _, hgl⟩ := HO.out.atN (u := j) (by rw [onesJ_len]; exact hlt)
      have z2' := z2 j
      cases hkp : kept keep j with
      | false =>
        rw [hkp] at z0
        have HOO : Hid (Ow kU32 w.heap.size wr (.slice (some ⟨w.heap.size, 0, none⟩) keep.length keep.length) (zs (onesJ keep (j + 1)))) := Lib.hid (by rw [← onesJ_no keep j hkp]; exact HO.out)
        clear z1 z2 hkp
        go_wp2_with fail
        go_roundw
        case rel => exact ⟨j + 1, by omega, by go_num, HOO.out, HX.out⟩
        case measure => simp [intOf]; omega
      | true =>
        rw [hkp] at z0
        have hset := HO.out.setN (u := j) (v := 1) (by rw [onesJ_len]; exact hlt) (by omega)
        rw [onesJ_set keep j hkp] at hset
        have HSET := Lib.hid hset
        clear hset z2 hkp
        go_wp2_with fail
        go_roundw
        case rel => exact ⟨j + 1, by omega, by go_num, HSET.out, HX.out.setCell (p := ⟨w.heap.size, j, none⟩) (Nat.le_refl _) _⟩
        case measure => simp [intOf]; omega
    · obtain rfl : j = keep.length := by omega
      go_wp2_with fail
      exact bodyPost_ret (v := .slice (some ⟨w.heap.size, 0, none⟩) keep.length keep.length) (by simp [results, Tryz.results34, go_sem]) rfl ⟨_, _, rfl, HO.out, HX.out⟩

end Go.Proofs.YtkpbanfpnilifaaGreat

/- The program's Where (pack). -/
namespace Go.Proofs.YtkpbanfpnilifaaGreat
open Go.BigFrame
open Go.RowKit Go.Proofs.YtkpbanfpnilifaaGreat.Plain

/-- places that are put down, some of them -/
def Plain.placesJ (keep : List Bool) (pre : List Nat) : List Nat := byN (rank keep keep.length) (fun s => if (whereL keep).getD s 0 ∈ pre then (whereL keep).getD s 0 else 0)
theorem Plain.placesJ_len (keep : List Bool) (pre : List Nat) : (placesJ keep pre).length = rank keep keep.length := byN_len _ _
theorem Plain.placesJ_nil (keep : List Bool) : zs (placesJ keep []) = List.replicate (rank keep keep.length) (0 : Int) := byN_rep _ _ fun i _ => if_neg (by simp)
theorem Plain.rank_where (keep : List Bool) (s : Nat) (hs : s < rank keep keep.length) : rank keep ((whereL keep).getD s 0) = s := by
  have h := where_rank keep keep.length
  have h2 : ((whereF keep keep.length).map (rank keep)).getD s 0 = s := by
    rw [h, List.getD_eq_getElem?_getD, List.getElem?_range hs]; rfl
  rw [List.getD_eq_getElem?_getD, List.getElem?_map, List.getElem?_eq_getElem (show s < (whereF keep keep.length).length from hs)] at h2
  unfold whereL
  rw [List.getD_eq_getElem?_getD, List.getElem?_eq_getElem (show s < (whereF keep keep.length).length from hs)]
  exact h2
theorem Plain.placesJ_set (keep : List Bool) (pre : List Nat) (i : Nat) (hi : i < keep.length) (hk : kept keep i = true) : (placesJ keep pre).set (rank keep i) i = placesJ keep (pre ++ [i]) := by
  unfold placesJ
  rw [byN_set]
  refine byN_congr _ _ _ fun s hs => ?_
  by_cases e : s = rank keep i
  · subst e
    rw [if_pos rfl, show (whereL keep).getD (rank keep i) 0 = i from where_at keep i hk keep.length hi, if_pos (by simp)]
  · rw [if_neg e]
    have hne : (whereL keep).getD s 0 ≠ i := fun h => e (by rw [← h]; exact (rank_where keep s hs).symm)
    by_cases h2 : (whereL keep).getD s 0 ∈ pre
    · rw [if_pos h2, if_pos (List.mem_append_left _ h2)]
    · rw [if_neg h2, if_neg (fun h3 => by
        rcases List.mem_append.1 h3 with h4 | h4
        · exact h2 h4
        · exact hne (by simpa using h4))]
theorem Plain.placesJ_no (keep : List Bool) (pre : List Nat) (i : Nat) (hk : kept keep i = false) : placesJ keep pre = placesJ keep (pre ++ [i]) := by
  unfold placesJ
  refine byN_congr _ _ _ fun s hs => ?_
  have hne : (whereL keep).getD s 0 ≠ i := fun h => by
    have := (where_in keep keep.length s hs).2
    change kept keep ((whereL keep).getD s 0) = true at this
    rw [h, hk] at this; cases this
  by_cases h2 : (whereL keep).getD s 0 ∈ pre
  · rw [if_pos h2, if_pos (List.mem_append_left _ h2)]
  · rw [if_neg h2, if_neg (fun h3 => by
      rcases List.mem_append.1 h3 with h4 | h4
      · exact h2 h4
      · exact hne (by simpa using h4))]
theorem Plain.placesJ_all (keep : List Bool) (os : List Nat) (h : os.Perm (List.range keep.length)) : placesJ keep os = whereL keep := by
  have e : placesJ keep os = byN (whereL keep).length (fun s => (whereL keep).getD s 0) := by
    unfold placesJ
    refine byN_congr _ _ _ fun s hs => if_pos ?_
    exact (h.mem_iff).2 (List.mem_range.2 (where_in keep keep.length s hs).1)
  rw [e, byN_id]

set_option maxHeartbeats 1600000 in
set_option maxRecDepth 100000 in
theorem pwhere_any (keep : List Bool) (K : Option Addr) (kc : Nat) (b g m : Int) (Ap : Option Addr) (cp : Nat) (picks : List (Int × Int)) (w : World) (hK : Rd kBool w (.slice K keep.length kc) keep) (hp : Rd kPk w (.slice Ap picks.length cp) picks) (hl : keep.length ≤ 900) (hb : in64 b) (hg : in64 g) (hm : in64 m) :
    Calls Tryz.prog 22 #[.slice K keep.length kc, .int .i64 b, planV g m Ap picks.length cp] w (OrdSaid (whereP keep b g m picks) w) := by
  have HP := Lib.hid hp
  have HK := Lib.hid hK
  have HG := Lib.hid (And.intro hg (And.intro hm hb))
  have hl' : (keep.length : Int) ≤ 900 := by omega
  have HF : Hid (whereP keep b g m picks = if (stepsP keep.length b g m picks).2 ≠ 0 then ([], 0, (stepsP keep.length b g m picks).2) else (whereL keep, (stepsP keep.length b g m picks).1 + (ordP keep.length g m picks).2.1, 0)) := Lib.hid rfl
  have herr := stepsP_err keep.length b g m picks
  have hbd := stepsP_bd keep.length b g m picks hl
  have hol : (onesL keep).length = keep.length := onesJ_len _ _
  have hsm : sumsP (onesL keep) b g m picks = if (stepsP keep.length b g m picks).2 ≠ 0 then ([], 0, 0, (stepsP keep.length b g m picks).2) else (byN keep.length (rank keep), rank keep keep.length, (stepsP keep.length b g m picks).1, 0) := by
    unfold sumsP
    rw [hol, ones_sums keep hl, ones_tot keep hl]
  have hog := fun os st h => ordP_good (n := keep.length) (g := g) (m := m) (picks := picks) (os := os) (st := st) h
  obtain ⟨⟨st, er⟩, hr⟩ : ∃ x, stepsP keep.length b g m picks = x := ⟨_, rfl⟩
  obtain ⟨⟨ou, su, eu⟩, hr3⟩ : ∃ x, ordP keep.length g m picks = x := ⟨_, rfl⟩
  obtain ⟨⟨rl, rt, rs, re⟩, hrr⟩ : ∃ r, sumsP (onesL keep) b g m picks = r := ⟨_, rfl⟩
  rw [hr, hr3] at hbd HF
  rw [hr] at herr hsm
  rw [hr3] at hog
  simp only at herr hbd hsm HF
  have HSM : Hid ((rl, rt, rs, re) = if er ≠ 0 then ([], 0, 0, er) else (byN keep.length (rank keep), rank keep keep.length, st, 0)) := Lib.hid (by rw [← hrr]; exact hsm)
  have HRR := Lib.hid hrr
  have HOL := Lib.hid hol
  have HR3 := Lib.hid hr3
  have HBD : Hid (er = 0 → st ≤ 60000 ∧ eu = 0 ∧ su ≤ 30000) := Lib.hid hbd
  have HOG : Hid (eu = 0 → ou.Perm (List.range keep.length)) := Lib.hid fun h => by
    subst h
    obtain ⟨_, _, _, _, _, _, _, _, _, h9, _⟩ := hog ou su rfl
    exact h9
  clear hp hK hg hm hb hr hr3 hbd hsm hog hol hrr
  go_enter Tryz.func22, Tryz.ntmps22
  go_upto_region 1 with fail
  obtain ⟨w1, hw1⟩ : ∃ w1, w.alloc (.cells #[.int .i64 g, .int .i64 m, .slice Ap picks.length cp] 25) = w1 := ⟨_, rfl⟩
  have k0 : w1.cell? ⟨w.heap.size, 0, none⟩ = some (.int .i64 g) := by subst hw1; go_simp
  have k1 : w1.cell? ⟨w.heap.size, 1, none⟩ = some (.int .i64 m) := by subst hw1; go_simp
  have k2 : w1.cell? ⟨w.heap.size, 2, none⟩ = some (.slice Ap picks.length cp) := by subst hw1; go_simp
  have HX1 : Hid (Ext w w1) := Lib.hid (by rw [← hw1]; exact (Ext.refl w).alloc _)
  have lw1 : w.heap.size < w1.heap.size := by rw [← hw1]; simp
  rw [hw1]
  clear hw1
  go_cut [9, 10, 11, 12] (fun p q s e wx => ∃ (L : Option Addr) (l : Nat), p = .slice L rl.length l ∧ q = .int .u32 rt ∧ s = .int .i64 rs ∧ e = .int .i64 re ∧ Ow kU32 w1.heap.size wx (.slice L rl.length l) (zs rl) ∧ Ext w1 wx)
  case first =>
    go_region_law (first
      | (go_simp; go_at_call 34; refine (pones_any keep K kc _ (HK.out.ext (HX1.out.trans (Ext.refl _).drew)) hl).mono ?_; rintro ed w5 ⟨L5, l5, rfl, hO5, hE5⟩
         have k0' := Ext.cell hE5 k0
         have k1' := Ext.cell hE5 k1
         have k2' := Ext.cell hE5 k2)
      | (go_simp; go_at_call 30
         have hh := ssums_any (onesL keep) L5 l5 b g m Ap cp picks w5 (by rw [HOL.out]; exact hO5.rd) (HP.out.ext (HX1.out.trans ((Ext.refl _).drew.trans hE5))) (by rw [HOL.out]; omega) HG.out.2.2 HG.out.1 HG.out.2.1
         rw [HOL.out, HRR.out] at hh
         refine hh.mono ?_
         rintro ed w6 ⟨L6, l6, rfl, hO6, hE6⟩))
    all_goals go_wp2_with fail
    all_goals go_meet
    all_goals exact ⟨L6, l6, rfl, rfl, rfl, rfl, hO6.mono (by have := hE5.size; simp at this; omega), ((Ext.refl w1).drew.trans hE5).trans hE6⟩
  case rest =>
  obtain ⟨L6, l6, rfl, rfl, rfl, rfl, hO2, hE2⟩ := hcut
  generalize wc = w2 at *
  replace k0 := Ext.cell hE2 k0
  replace k1 := Ext.cell hE2 k1
  replace k2 := Ext.cell hE2 k2
  have lw2 : w.heap.size < w2.heap.size := by have := hE2.size; omega
  have HX2 := Lib.hid (HX1.out.trans hE2)
  have hsm := HSM.out
  clear HSM HRR hE2 lw1 HX1
  rcases herr with rfl | rfl
  · obtain ⟨hb1, rfl, hb2⟩ := HBD.out rfl
    rw [if_neg (by simp)] at HF hsm
    simp only [Prod.mk.injEq] at hsm
    obtain ⟨rfl, rfl, rfl, rfl⟩ := hsm
    have hperm := HOG.out rfl
    have hou : ou.length = keep.length := by rw [hperm.length_eq, List.length_range]
    have hbl : (byN keep.length (rank keep)).length = keep.length := byN_len _ _
    have hRl : rank keep keep.length ≤ keep.length := whereF_len keep keep.length
    have HRK := Lib.hid (placesJ_len keep)
    have hnil := placesJ_nil keep
    have hall := placesJ_all keep ou hperm
    have hlt9 : ∀ i, i < keep.length → kept keep i = true → rank keep i < rank keep keep.length := fun i hi hk => by
      have h1 := rank_succ keep i
      rw [if_pos hk] at h1
      have h2 := rank_le keep (i + 1) keep.length hi
      omega
    obtain ⟨R, hR⟩ : ∃ R, rank keep keep.length = R := ⟨_, rfl⟩
    rw [hR] at HRK hnil hRl hlt9 ⊢
    rw [hbl] at hO2 ⊢
    have HLT9 := Lib.hid hlt9
    have HO2 := Lib.hid (hO2.rd)
    have HALL := Lib.hid hall
    have HPERM := Lib.hid hperm
    have hs1 : (rs : Int) ≤ 60000 := by omega
    have hs2 : (su : Int) ≤ 30000 := by omega
    have hs10 : (0 : Int) ≤ rs := by omega
    have hs20 : (0 : Int) ≤ su := by omega
    have hR9 : (R : Int) ≤ 900 := by omega
    obtain ⟨C, hmk, hmown⟩ := kInt.makeU 0 rfl (show in64 0 by unfold in64; omega) R (by omega)
    have HM : Hid (∀ w3 : World, Ow kInt w3.heap.size (w3.alloc (.cells C 3)) (.slice (some ⟨w3.heap.size, 0, none⟩) R R) (zs (placesJ keep []))) := Lib.hid fun w3 => by rw [hnil]; exact hmown w3 w3.heap.size w3.heap.size rfl (Nat.le_refl _)
    have hmk2 : ∀ w : World, (Instr.makeSlice 29 (.int .u32 R) (.int .u32 R)).run Tryz.prog w = .ok (.slice (some ⟨w.heap.size, 0, none⟩) R R) (w.alloc (.cells C 3)) := hmk
    have HWL : Hid ((whereL keep).length = R) := Lib.hid hR
    clear hO2 hperm hbl hnil hall hlt9 hmk hmown hb1 hb2 hR HOG HBD HOL
    go_wp2_with fail
    refine (forder_any keep.length g m Ap cp picks _ (HP.out.ext HX2.out) hl HG.out.1 HG.out.2.1).mono ?_
    rw [HR3.out]
    rintro ed w3 ⟨L3, l3, rfl, hO3, hE3⟩
    simp only at hO3 ⊢
    rw [hou] at hO3 ⊢
    have HX3 := Lib.hid (HX2.out.trans hE3)
    have HO3 := Lib.hid hO3.rd
    have HS3 := Lib.hid (HO2.out.ext hE3)
    have HOU := Lib.hid hou
    have hz3 := HX3.out.size
    clear hO3 hE3 k0 k1 k2 lw2 HX2 HO2 hou
    go_wp2_with fail
    go_loopw [46] (fun i wr => ∃ j : Nat, j ≤ keep.length ∧ i = .int .i64 j ∧ Ow kInt w3.heap.size wr (.slice (some ⟨w3.heap.size, 0, none⟩) R R) (zs (placesJ keep (ou.take j))) ∧ Ext w3 wr) (fun i _ => keep.length - (intOf i).toNat)
    case atStart => exact ⟨0, Nat.zero_le _, rfl, HM.out w3, (Ext.refl _).alloc _⟩
    case round =>
      obtain ⟨j, hj, rfl, hO, hX⟩ := hrel
      have HO := Lib.hid hO
      have HX := Lib.hid hX
      have hj0 : (0 : Int) ≤ j := by omega
      clear hO hX hmk2
      by_cases hlt : j < keep.length
      · have hlt' : (j : Int) < keep.length := by omega
        have hlo : j < ou.length := by rw [HOU.out]; exact hlt
        obtain ⟨bw, ow, rfl, hcw⟩ := (ints_of_rd (HO3.out.ext HX.out)).cells (by rw [zs_len]; omega)
        have y0 := hcw j (by rw [zs_len]; exact hlo)
        rw [zs_getD] at y0
        have hin : ou.getD j 0 < keep.length := by
          have h9 : ou.getD j 0 ∈ ou := by rw [List.getD_eq_getElem?_getD, List.getElem?_eq_getElem hlo]; exact List.getElem_mem hlo
          exact List.mem_range.1 ((HPERM.out.mem_iff).1 h9)
        have htk := takeN_snoc hlo
        obtain ⟨u, hu⟩ : ∃ u, ou.getD j 0 = u := ⟨_, rfl⟩
        rw [hu] at y0 hin htk
        have HTK := Lib.hid htk
        obtain ⟨bk, ok, rfl, z0⟩ := bool_at (HK.out.ext (HX3.out.trans HX.out)) u hin
        have lbw : bw < wr.heap.size := World.block_lt_of_cell? _ _ y0
        have lbk : bk < wr.heap.size := World.block_lt_of_cell? _ _ z0
        have hu0 : (0 : Int) ≤ u := by omega
        have hu1 : (u : Int) < keep.length := by omega
        clear hcw htk hu
        cases hkp : kept keep u with
        | false =>
          rw [hkp] at z0
          have HOO : Hid (Ow kInt w3.heap.size wr (.slice (some ⟨w3.heap.size, 0, none⟩) R R) (zs (placesJ keep (ou.take (j + 1))))) := Lib.hid (by rw [HTK.out, ← placesJ_no keep _ u hkp]; exact HO.out)
          clear hkp
          go_wp2_with fail
          go_roundw
          case rel => exact ⟨j + 1, by omega, by go_num, HOO.out, HX.out⟩
          case measure => simp [intOf]; omega
        | true =>
          rw [hkp] at z0
          have hrk := HLT9.out u hin hkp
          obtain ⟨z1, z2, _, hgl⟩ := HO.out.atI (u := rank keep u) (by rw [HRK.out]; exact hrk)
          have hset := HO.out.setI (u := rank keep u) (v := u) (by rw [HRK.out]; exact hrk) (by omega)
          rw [placesJ_set keep _ u hin hkp, ← HTK.out] at hset
          obtain ⟨bx, ox, rfl, x0, _⟩ := u32_at (l := byN keep.length (rank keep)) (by rw [byN_len]; exact HS3.out.ext HX.out) u (by rw [byN_len]; exact hin)
          rw [byN_getD _ _ _ hin] at x0
          obtain ⟨q, hq⟩ : ∃ q, rank keep u = q := ⟨_, rfl⟩
          rw [hq] at z1 hset x0 hrk
          have z2' := z2 q
          have HSET := Lib.hid hset
          have lbx : bx < wr.heap.size := World.block_lt_of_cell? _ _ x0
          have hq0 : (0 : Int) ≤ q := by omega
          have hq1 : (q : Int) < R := by omega
          clear hset hq z2 hkp
          go_wp2_with fail
          go_roundw
          case rel => exact ⟨j + 1, by omega, by go_num, HSET.out, HX.out.setCell (p := ⟨w3.heap.size, q, none⟩) (Nat.le_refl _) _⟩
          case measure => simp [intOf]; omega
      · obtain rfl : j = keep.length := by omega
        have hF := HO.out
        rw [List.take_of_length_le (by rw [HOU.out]; exact Nat.le_refl _), HALL.out] at hF
        have HFF := Lib.hid hF
        have HXX := Lib.hid (HX3.out.trans HX.out)
        clear hF
        go_wp2_with fail
        refine bodyPost_ret (v := .tuple #[.slice (some ⟨w3.heap.size, 0, none⟩) R R, .int .i64 ((rs : Int) + su), .int .i64 0]) (by simp [results, Tryz.results22, go_sem]) rfl (by rw [HF.out]; exact ⟨some ⟨w3.heap.size, 0, none⟩, R, by rw [HWL.out]; simp, by rw [HWL.out]; exact HFF.out.mono hz3, HXX.out⟩)
  · rw [if_pos (by decide)] at HF hsm
    simp only [Prod.mk.injEq] at hsm
    obtain ⟨rfl, rfl, rfl, rfl⟩ := hsm
    go_wp2_with fail
    exact bodyPost_ret (v := .tuple #[.slice none 0 0, .int .i64 0, .int .i64 1]) (by simp [results, Tryz.results22, go_sem]) rfl (by rw [HF.out]; exact ⟨none, 0, rfl, Ow.nil _ _, HX2.out⟩)
end Go.Proofs.YtkpbanfpnilifaaGreat

/- The program's Groups, Once (dedup, real code). Written by wip/mk_r11f.py. -/
namespace Go.Proofs.YtkpbanfpnilifaaGreat
open Go.BigFrame
open Go.RowKit Go.Proofs.YtkpbanfpnilifaaGreat.Plain

theorem Ow.atRow9 {α : Type} {K : Kd α} {B B' p p' m : Nat} {w W : World} {xs : List α} {C : Array Value} (h : Ow K B (w.alloc (.cells C K.e)) (.slice (some ⟨p, 0, none⟩) m m) xs) (hp : p = w.heap.size) (hW : W.heap[p']? = some (.cells C K.e)) (hB : B' ≤ p') : Ow K B' W (.slice (some ⟨p', 0, none⟩) m m) xs := by
  obtain ⟨⟨h1, h2⟩, hb⟩ := h
  refine ⟨⟨h1, ?_⟩, hb⟩
  rcases h2 with ⟨h2, _⟩ | ⟨g, cap, cur, hv, hg, hh, hr⟩
  · cases h2
  · cases hv
    rw [hp, heap_alloc_new] at hh
    cases hh
    exact .inr ⟨p', _, C, rfl, hB, hW, hr⟩
theorem Plain.sortedR_sort (l : List Nat) : sortedR l (zs (sortL l)) = (risingL l, true) := by
  unfold sortedR risingL
  rw [if_pos ((onceB_iff _ _).2 ⟨sortL l, rfl, (sortL_good l).1⟩), orderN_zs]
theorem Plain.nxt_end (ps : List Nat) (n q : Nat) (h : ps.length = q) : nxt ps n q = n := by unfold nxt; rw [if_neg (by omega)]
set_option maxHeartbeats 12800000 in
set_option maxRecDepth 100000 in
theorem pgroups_any (l : List Nat) (L : Option Addr) (lc : Nat) (b blk g m : Int) (Ap : Option Addr) (cp : Nat) (picks : List (Int × Int)) (w : World) (hL : Rd kU32 w (.slice L l.length lc) (zs l)) (hp : Rd kPk w (.slice Ap picks.length cp) picks) (hl : l.length ≤ 900) (hb : in64 b) (hk : in64 blk) (hg : in64 g) (hm : in64 m) :
    Calls Tryz.prog 6 #[.slice L l.length lc, wayV b blk g m Ap picks.length cp] w (Grp11Said (groupsP l b blk g m picks) w) := by
  have HP := Lib.hid hp
  have HL := Lib.hid hL
  have HG := Lib.hid (And.intro hg (And.intro hm (And.intro hb hk)))
  have hl' : (l.length : Int) ≤ 900 := by omega
  have herr := sortP_err l b blk g m picks
  have hbd : (stepsP l.length blk g m picks).2 = 0 → (stepsP l.length blk g m picks).1 ≤ 60000 ∧ (ordP l.length g m picks).2.1 ≤ 30000 := fun h => ⟨(stepsP_bd l.length blk g m picks hl h).1, (stepsP_bd l.length blk g m picks hl h).2.2⟩
  have hps := passesP_le b
  have HF : Hid (groupsP l b blk g m picks = if (sortP l b blk g m picks).2.2 ≠ 0 then ([], [], 0, (sortP l b blk g m picks).2.2) else ((grpL (risingL l)).1, (grpL (risingL l)).2, (sortP l b blk g m picks).2.1 + (whereP (List.replicate l.length false) blk g m picks).2.1, 0)) := Lib.hid rfl
  clear hp hL hg hm hb hk
  obtain ⟨⟨os, st, er⟩, hr⟩ : ∃ x, sortP l b blk g m picks = x := ⟨_, rfl⟩
  rw [hr] at HF herr
  simp only at HF herr
  have HR := Lib.hid hr
  clear hr
  go_enter Tryz.func6, Tryz.ntmps6
  go_wp2_with fail
  have hh := psort_any l L lc b blk g m Ap cp picks (w.alloc (.cells #[.int .i64 b, .int .i64 blk, .int .i64 g, .int .i64 m, .slice Ap picks.length cp] 27)) (HL.out.ext ((Ext.refl _).alloc _)) (HP.out.ext ((Ext.refl _).alloc _)) hl HG.out.2.2.1 HG.out.2.2.2 HG.out.1 HG.out.2.1
  rw [HR.out] at hh
  refine hh.mono ?_
  clear hh
  rintro ed w1 ⟨L1, l1, rfl, hO1, hE1⟩
  simp only at hO1 ⊢
  have HX1 := Lib.hid (((Ext.refl w).alloc (.cells #[.int .i64 b, .int .i64 blk, .int .i64 g, .int .i64 m, .slice Ap picks.length cp] 27)).trans hE1)
  have hb1 := block_keep (heap_alloc_new w (.cells #[.int .i64 b, .int .i64 blk, .int .i64 g, .int .i64 m, .slice Ap picks.length cp] 27)) hE1
  have k1 : w1.cell? ⟨w.heap.size, 1, none⟩ = some (.int .i64 blk) := (cell_of_row w1 w.heap.size 1 _ _ _ hb1).trans rfl
  have k2 : w1.cell? ⟨w.heap.size, 2, none⟩ = some (.int .i64 g) := (cell_of_row w1 w.heap.size 2 _ _ _ hb1).trans rfl
  have k3 : w1.cell? ⟨w.heap.size, 3, none⟩ = some (.int .i64 m) := (cell_of_row w1 w.heap.size 3 _ _ _ hb1).trans rfl
  have k4 : w1.cell? ⟨w.heap.size, 4, none⟩ = some (.slice Ap picks.length cp) := (cell_of_row w1 w.heap.size 4 _ _ _ hb1).trans rfl
  have HO1 := Lib.hid hO1.rd
  have lw1 : w.heap.size < w1.heap.size := World.block_lt_of_cell? _ _ k1
  clear hE1 hO1 hb1
  rcases herr with ⟨rfl, hos, hse, hst⟩ | rfl
  case inr =>
    rw [if_pos (by decide)] at HF
    go_wp2_with fail
    exact bodyPost_ret (v := .tuple #[.slice none 0 0, .slice none 0 0, .int .i64 0, .int .i64 1]) (by simp [results, Tryz.results6, go_sem]) rfl (by rw [HF.out]; exact ⟨none, none, 0, 0, rfl, Ow.nil _ _, Ow.nil _ _, HX1.out⟩)
  rw [if_neg (by simp)] at HF
  have hrl : (List.replicate l.length false).length = l.length := List.length_replicate ..
  have hwp := whereP_of (List.replicate l.length false) blk g m picks (by rw [hrl]; exact hse)
  rw [hrl] at hwp
  rw [hwp] at HF
  simp only at HF
  subst hos
  have hsl := sortL_length l
  have hsr := sortedR_sort l
  have hrs := risingL_len l
  obtain ⟨ks, hks⟩ : ∃ ks, risingL l = ks := ⟨_, rfl⟩
  rw [hks] at hsr hrs HF
  have hwq := whereP_of (firstsL ks) blk g m picks (by rw [firstsL_len, hrs]; exact hse)
  rw [firstsL_len, hrs] at hwq
  have hfst := fst_all ks
  rw [hrs] at hfst
  obtain ⟨ps, hpsx⟩ : ∃ ps, whereL (firstsL ks) = ps := ⟨_, rfl⟩
  have hpl : ps.length ≤ l.length := by
    have := whereF_len (firstsL ks) (firstsL ks).length
    rw [show whereF (firstsL ks) (firstsL ks).length = ps from hpsx, firstsL_len, hrs] at this
    exact this
  rw [hpsx] at hwq hfst
  obtain ⟨⟨o, t⟩, hot⟩ : ∃ r, grpL ks = r := ⟨_, rfl⟩
  rw [hot] at hfst HF
  simp only at hfst HF
  obtain ⟨hb2, hb3⟩ := hbd hse
  have hs1 : st ≤ 60000 * 32 := by rw [hst]; exact Nat.mul_le_mul hb2 hps
  obtain ⟨s2, hs2⟩ : ∃ x, (stepsP l.length blk g m picks).1 + (ordP l.length g m picks).2.1 = x := ⟨_, rfl⟩
  rw [hs2] at hwq HF
  have hs3 : (s2 : Int) ≤ 90000 := by omega
  have hs4 : (st : Int) ≤ 1920000 := by omega
  have hs5 : (0 : Int) ≤ st := by omega
  have hs6 : (0 : Int) ≤ s2 := by omega
  have hh := psorted_any l (zs (sortL l)) L L1 lc l1 w1 (HL.out.ext HX1.out) (by rw [zs_len]; exact HO1.out) hl (by rw [zs_len, hsl]; exact hl)
  rw [zs_len, hsl, hsr] at hh
  unfold SrtSaid at hh
  simp only at hh
  rw [hrs] at hh
  have HS := Lib.hid hh
  have HW := Lib.hid hwq
  have HFS := Lib.hid hfst
  have HRS := Lib.hid hrs
  have HKS := Lib.hid hks
  rw [hsl] at HO1 ⊢
  clear hh hwq hfst hrs hwp hrl hb2 hb3 hst hse hs1 hps hbd hsl hsr hs2 hks hpsx hot
  go_wp2_with fail
  refine HS.out.mono ?_
  rintro ed w2 ⟨L2, l2, rfl, hO2, hE2⟩
  have HX2 := Lib.hid (HX1.out.trans hE2)
  have HO2 := Lib.hid hO2.rd
  replace k1 := hE2.cell k1
  replace k2 := hE2.cell k2
  replace k3 := hE2.cell k3
  replace k4 := hE2.cell k4
  have lw2 : w.heap.size < w2.heap.size := World.block_lt_of_cell? _ _ k1
  clear hE2 hO2 HS HO1 HX1 lw1
  go_wp2_with fail
  obtain ⟨q, hq⟩ : ∃ q, ps.length = q := ⟨_, rfl⟩
  have hql : q ≤ l.length := by omega
  have HQ := Lib.hid hq
  clear hpl
  go_cut [13, 14, 10] (fun p s e wx => ∃ (L : Option Addr) (l : Nat), p = .slice L q l ∧ s = .int .i64 s2 ∧ e = .int .i64 0 ∧ Rd kInt wx (.slice L q l) (zs ps) ∧ Ext w2 wx)
  case first =>
    clear hs3 hs4 hs5 hs6 hql
    go_region_law (first
      | (go_simp; go_at_call 23
         have hh := pfirsts_any ks L2 l2 (w2.drew) (by rw [HRS.out]; exact HO2.out.ext (Ext.refl _).drew) (by rw [HRS.out]; exact hl)
         rw [HRS.out] at hh
         refine hh.mono ?_
         rintro ed w5 ⟨L5, rfl, hO5, hE5⟩
         have k1' := Ext.cell hE5 k1
         have k2' := Ext.cell hE5 k2
         have k3' := Ext.cell hE5 k3
         have k4' := Ext.cell hE5 k4)
      | (go_simp; go_at_call 22
         have hh := pwhere_any (firstsL ks) L5 l.length blk g m Ap cp picks w5 (by rw [firstsL_len, HRS.out]; exact hO5.rd) (HP.out.ext (HX2.out.trans ((Ext.refl _).drew.trans hE5))) (by rw [firstsL_len, HRS.out]; exact hl) HG.out.2.2.2 HG.out.1 HG.out.2.1
         rw [firstsL_len, HRS.out, HW.out] at hh
         unfold OrdSaid at hh
         simp only at hh
         rw [HQ.out] at hh
         refine hh.mono ?_
         rintro ed w6 ⟨L6, l6, rfl, hO6, hE6⟩))
    all_goals go_wp2_with fail
    all_goals (go_simp; go_meet)
    all_goals exact ⟨L6, l6, rfl, rfl, rfl, hO6.rd, ((Ext.refl w2).drew.trans hE5).trans hE6⟩
  case rest =>
  obtain ⟨L6, l6, rfl, rfl, rfl, hO6, hE6⟩ := hcut
  generalize wc = w3 at *
  have HX3 := Lib.hid (HX2.out.trans hE6)
  have HO3 := Lib.hid (HO2.out.ext hE6)
  have HP3 := Lib.hid hO6
  have hz3 := HX3.out.size
  clear hE6 hO6 HO2 HX2 k1 k2 k3 k4 lw2 HW HL HP
  obtain ⟨C1, hmk1, hmo1⟩ := kU32.make 0 rfl (show (0 : Int) ≤ 0 ∧ (0 : Int) ≤ 4294967295 by omega) q (by omega)
  obtain ⟨C2, hmk2, hmo2⟩ := kInt.make 0 rfl (show in64 0 by decide) q (by omega)
  have HM1 := Lib.hid hmo1
  have HM2 := Lib.hid hmo2
  have hma : ∀ w : World, (Instr.makeSlice 22 (.int .i64 q) (.int .i64 q)).run Tryz.prog w = .ok (.slice (some ⟨w.heap.size, 0, none⟩) q q) (w.alloc (.cells C1 42)) := hmk1
  have hmb : ∀ w : World, (Instr.makeSlice 29 (.int .i64 q) (.int .i64 q)).run Tryz.prog w = .ok (.slice (some ⟨w.heap.size, 0, none⟩) q q) (w.alloc (.cells C2 3)) := hmk2
  clear hmk1 hmk2 hmo1 hmo2
  go_wp2_with fail
  go_cut [15, 16] (fun p r wx => ∃ (G1 G2 : Nat), p = .slice (some ⟨G1, 0, none⟩) q q ∧ r = .slice (some ⟨G2, 0, none⟩) q q ∧ (w3.heap.size ≤ G1 ∧ w3.heap.size ≤ G2 ∧ G1 ≠ G2) ∧ Ow kU32 w3.heap.size wx (.slice (some ⟨G1, 0, none⟩) q q) (List.replicate q (0 : Int)) ∧ Ow kInt w3.heap.size wx (.slice (some ⟨G2, 0, none⟩) q q) (List.replicate q (0 : Int)) ∧ Ext w3 wx)
  case first =>
    go_region_law (fail)
    all_goals go_wp2_with fail
    all_goals go_meet
    all_goals first
      | (refine ⟨w3.heap.size, w3.heap.size + 1, rfl, rfl, ⟨by omega, by omega, by omega⟩, ?_, ?_, ?_⟩)
      | (refine ⟨w3.heap.size + 1, w3.heap.size, rfl, rfl, ⟨by omega, by omega, by omega⟩, ?_, ?_, ?_⟩)
      | fail
    all_goals first
      | (refine Ow.atRow9 (HM1.out w3 0 w3.heap.size rfl (Nat.zero_le _)) rfl ?_ (by omega); rw [heap_drew])
      | (refine Ow.atRow9 (HM2.out w3 0 w3.heap.size rfl (Nat.zero_le _)) rfl ?_ (by omega); rw [heap_drew])
      | (refine Ext.drew ?_; repeat (first | (with_reducible exact Ext.refl _) | refine Ext.alloc ?_ _))
      | fail
    all_goals repeat (first | exact heap_alloc_at (by first | (simp; done) | (simp; omega) | fail) | refine (heap_alloc_old _ _ (by first | (simp; done) | (simp; omega) | fail)).trans ?_)
  case rest =>
  obtain ⟨G1, G2, rfl, rfl, ⟨g1, g2, g3⟩, hO1, hO2, hX4⟩ := hcut
  generalize wc = w4 at *
  have HLO : Hid (o.length = q ∧ t.length = q) := Lib.hid ⟨by rw [HFS.out.lo, HQ.out], by rw [HFS.out.lt, HQ.out]⟩
  have zr : ∀ n : Nat, zs (List.replicate n 0) = List.replicate n (0 : Int) := fun n => by unfold zs; rw [List.map_replicate]; rfl
  have H1 : Hid (Ow kU32 w3.heap.size w4 (.slice (some ⟨G1, 0, none⟩) q q) (zs (lastsL o q))) := Lib.hid (by
    rw [show lastsL o q = List.replicate q 0 by rw [← HLO.out.1]; exact lastsL_none o, zr]; exact hO1)
  have H2 : Hid (Ow kInt w3.heap.size w4 (.slice (some ⟨G2, 0, none⟩) q q) (zs (lastsL t q))) := Lib.hid (by
    rw [show lastsL t q = List.replicate q 0 by rw [← HLO.out.2]; exact lastsL_none t, zr]; exact hO2)
  have HX4 := Lib.hid hX4
  have hz4 := HX4.out.size
  have hqw : IntKind.i64.wrap ((q : Int) - 1) = (q : Int) - 1 := IntWalk.i64_in _ (by omega)
  have HNE : Hid (nxt ps l.length q = l.length) := Lib.hid (nxt_end _ _ _ HQ.out)
  clear hO1 hO2 hX4 hma hmb HM1 HM2 zr
  go_wp2_with fail
  go_loopw [17, 18] (fun e i wr => ∃ (j : Nat) (z : Int), j ≤ q ∧ z + 1 = j ∧ i = .int .i64 z ∧ e = .int .i64 (nxt ps l.length j : Nat) ∧ Ow kU32 w3.heap.size wr (.slice (some ⟨G1, 0, none⟩) q q) (zs (lastsL o j)) ∧ Ow kInt w3.heap.size wr (.slice (some ⟨G2, 0, none⟩) q q) (zs (lastsL t j)) ∧ Ext w3 wr) (fun _ i _ => (intOf i + 1).toNat)
  case atStart => exact ⟨q, (q : Int) - 1, Nat.le_refl _, by omega, rfl, by rw [HNE.out], H1.out, H2.out, HX4.out⟩
  case round =>
    obtain ⟨j, z, hj, hz, rfl, rfl, hA, hB, hX⟩ := hrel
    have HA := Lib.hid hA
    have HB := Lib.hid hB
    have HX := Lib.hid hX
    have hzx := HX.out.size
    clear hA hB hX hqw H1 H2 HX4 HNE
    rcases j with _ | k
    · have hz0 : z < 0 := by omega
      have hd : decide (0 ≤ z) = false := decide_eq_false (by omega)
      rw [lastsL_all] at HA HB
      have HXX := Lib.hid (HX3.out.trans HX.out)
      clear hz
      go_wp2_with fail
      refine bodyPost_ret (v := .tuple #[.slice (some ⟨G1, 0, none⟩) q q, .slice (some ⟨G2, 0, none⟩) q q, .int .i64 ((st : Int) + s2), .int .i64 0]) (by simp [results, Tryz.results6, go_sem]) rfl (by rw [HF.out]; exact ⟨some ⟨G1, 0, none⟩, some ⟨G2, 0, none⟩, q, q, by simp only [HLO.out.1, HLO.out.2]; simp, by simp only [HLO.out.1]; exact HA.out.mono hz3, by simp only [HLO.out.2]; exact HB.out.mono hz3, HXX.out⟩)
    · obtain rfl : z = (k : Int) := by omega
      have hkq : k < q := hj
      obtain ⟨e1, e2, e3⟩ := HFS.out.each k (by rw [HQ.out]; exact hkq)
      obtain ⟨bp, op, rfl, hcp⟩ := (ints_of_rd (HP3.out.ext HX.out)).cells (by rw [zs_len, HQ.out]; omega)
      have y0 := hcp k (by rw [zs_len, HQ.out]; exact hkq)
      rw [zs_getD] at y0
      have hkn : nxt ps l.length k = ps.getD k 0 := by unfold nxt; rw [if_pos (by rw [HQ.out]; exact hkq)]
      obtain ⟨p, hp⟩ : ∃ p, ps.getD k 0 = p := ⟨_, rfl⟩
      rw [hp] at y0 e1 e2 e3 hkn
      have hrdS := HO3.out.ext HX.out
      rw [← HRS.out] at hrdS
      obtain ⟨bs, os_, rfl, z0, hxl⟩ := u32_at hrdS p (by rw [HRS.out]; exact e1)
      rw [← e2] at z0 hxl
      obtain ⟨m1, m2, _, _, _⟩ := HA.out.atN (u := k) (by rw [lastsL_len, HLO.out.1]; exact hkq)
      obtain ⟨n1, n2, _, _⟩ := HB.out.atI (u := k) (by rw [lastsL_len, HLO.out.2]; exact hkq)
      have m2' := m2 k
      have n2' := n2 k
      have hsA := HA.out.setN (u := k) (v := o.getD k 0) (by rw [lastsL_len, HLO.out.1]; exact hkq) hxl
      rw [lastsL_set o k (by rw [HLO.out.1]; exact hkq)] at hsA
      have htb : t.getD k 0 ≤ 900 := by
        unfold nxt at e3
        split at e3
        · rename_i h9
          have := (HFS.out.each (k + 1) h9).1
          omega
        · omega
      have hsB := HB.out.setI (u := k) (v := t.getD k 0) (by rw [lastsL_len, HLO.out.2]; exact hkq) (by omega)
      rw [lastsL_set t k (by rw [HLO.out.2]; exact hkq)] at hsB
      obtain ⟨x, hx⟩ : ∃ x, o.getD k 0 = x := ⟨_, rfl⟩
      obtain ⟨tv, htv⟩ : ∃ x, t.getD k 0 = x := ⟨_, rfl⟩
      obtain ⟨ev, hev⟩ : ∃ x, nxt ps l.length (k + 1) = x := ⟨_, rfl⟩
      obtain ⟨mo, hmo⟩ : ∃ mo, (lastsL o (k + 1)).getD k 0 = mo := ⟨_, rfl⟩
      obtain ⟨no, hno⟩ : ∃ mo, (lastsL t (k + 1)).getD k 0 = mo := ⟨_, rfl⟩
      rw [hmo] at m1
      rw [hno] at n1
      rw [hx] at hsA z0 hxl
      rw [htv] at hsB e3 htb
      rw [hev] at e3 ⊢
      have hoA : ∀ W' : World, Ow kU32 w3.heap.size W' (.slice (some ⟨G1, 0, none⟩) q q) (zs (lastsL o k)) → Ow kU32 w3.heap.size (W'.setCell ⟨G2, k, none⟩ (.int .i64 tv)) (.slice (some ⟨G1, 0, none⟩) q q) (zs (lastsL o k)) := fun W' h => h.setOther (p := ⟨G2, k, none⟩) (fun e => by cases e; exact g3 rfl) _
      have hoB : ∀ W' : World, Ow kInt w3.heap.size W' (.slice (some ⟨G2, 0, none⟩) q q) (zs (lastsL t k)) → Ow kInt w3.heap.size (W'.setCell ⟨G1, k, none⟩ (.int .u32 x)) (.slice (some ⟨G2, 0, none⟩) q q) (zs (lastsL t k)) := fun W' h => h.setOther (p := ⟨G1, k, none⟩) (fun e => by cases e; exact g3 rfl) _
      have hA2 : Ow kU32 w3.heap.size ((wr.setCell ⟨G2, k, none⟩ (.int .i64 tv)).setCell ⟨G1, k, none⟩ (.int .u32 x)) (.slice (some ⟨G1, 0, none⟩) q q) (zs (lastsL o k)) := by
        have h9 := (HA.out.setOther (p := ⟨G2, k, none⟩) (fun e => by cases e; exact g3 rfl) (.int .i64 tv)).setN (u := k) (v := x) (by rw [lastsL_len, HLO.out.1]; exact hkq) hxl
        rw [← hx, lastsL_set o k (by rw [HLO.out.1]; exact hkq)] at h9
        rw [hx] at h9
        exact h9
      have hB2 : Ow kInt w3.heap.size ((wr.setCell ⟨G1, k, none⟩ (.int .u32 x)).setCell ⟨G2, k, none⟩ (.int .i64 tv)) (.slice (some ⟨G2, 0, none⟩) q q) (zs (lastsL t k)) := by
        have h9 := (HB.out.setOther (p := ⟨G1, k, none⟩) (fun e => by cases e; exact g3 rfl) (.int .u32 x)).setI (u := k) (v := tv) (by rw [lastsL_len, HLO.out.2]; exact hkq) (by omega)
        rw [← htv, lastsL_set t k (by rw [HLO.out.2]; exact hkq)] at h9
        rw [htv] at h9
        exact h9
      have HS1 : Hid (Ow kU32 w3.heap.size ((wr.setCell ⟨G1, k, none⟩ (.int .u32 x)).setCell ⟨G2, k, none⟩ (.int .i64 tv)) (.slice (some ⟨G1, 0, none⟩) q q) (zs (lastsL o k)) ∧ Ow kInt w3.heap.size ((wr.setCell ⟨G1, k, none⟩ (.int .u32 x)).setCell ⟨G2, k, none⟩ (.int .i64 tv)) (.slice (some ⟨G2, 0, none⟩) q q) (zs (lastsL t k)) ∧ Ext w3 ((wr.setCell ⟨G1, k, none⟩ (.int .u32 x)).setCell ⟨G2, k, none⟩ (.int .i64 tv))) := Lib.hid ⟨hoA _ hsA, hB2, (HX.out.setCell (p := ⟨G1, k, none⟩) g1 _).setCell (p := ⟨G2, k, none⟩) g2 _⟩
      have HS2 : Hid (Ow kU32 w3.heap.size ((wr.setCell ⟨G2, k, none⟩ (.int .i64 tv)).setCell ⟨G1, k, none⟩ (.int .u32 x)) (.slice (some ⟨G1, 0, none⟩) q q) (zs (lastsL o k)) ∧ Ow kInt w3.heap.size ((wr.setCell ⟨G2, k, none⟩ (.int .i64 tv)).setCell ⟨G1, k, none⟩ (.int .u32 x)) (.slice (some ⟨G2, 0, none⟩) q q) (zs (lastsL t k)) ∧ Ext w3 ((wr.setCell ⟨G2, k, none⟩ (.int .i64 tv)).setCell ⟨G1, k, none⟩ (.int .u32 x))) := Lib.hid ⟨hA2, hoB _ hsB, (HX.out.setCell (p := ⟨G2, k, none⟩) g2 _).setCell (p := ⟨G1, k, none⟩) g1 _⟩
      have lbp : bp < wr.heap.size := World.block_lt_of_cell? _ _ y0
      have lbs : bs < wr.heap.size := World.block_lt_of_cell? _ _ z0
      have hbp3 : bp < w3.heap.size := by
        obtain ⟨b9, o9, e9, h9⟩ := (ints_of_rd HP3.out).cells (by rw [zs_len, HQ.out]; omega)
        cases e9
        exact World.block_lt_of_cell? _ _ (h9 k (by rw [zs_len, HQ.out]; exact hkq))
      have hpg1 : bp ≠ G1 := by omega
      have hpg2 : bp ≠ G2 := by omega
      have hpg3 : G1 ≠ bp := by omega
      have hpg4 : G2 ≠ bp := by omega
      have hg31 : G2 ≠ G1 := fun e => g3 e.symm
      have hdv : (ev : Int) - (p : Int) = (tv : Int) := by omega
      have hdw : IntKind.i64.wrap (tv : Int) = (tv : Int) := IntWalk.i64_in _ (by omega)
      obtain ⟨z9, hz9⟩ : ∃ z9 : Int, (k : Int) - 1 = z9 := ⟨_, rfl⟩
      have hzw : IntKind.i64.wrap z9 = z9 := IntWalk.i64_in _ (by omega)
      have HZ9 : Hid (z9 + 1 = (k : Int)) := Lib.hid (by omega)
      have HKN := Lib.hid hkn
      have hk0 : (0 : Int) ≤ k := by omega
      have hk1 : (k : Int) < q := by omega
      have hp0 : (0 : Int) ≤ p := by omega
      have hp1 : (p : Int) < l.length := by omega
      clear hcp e1 e2 e3 hp hx htv hev hmo hno hsA hsB hoA hoB hA2 hB2 m2 n2 hxl htb hrdS hkn hz hbp3 hkq hj
      go_wp2_with fail
      go_region_law (fail)
      all_goals go_wp2_with fail
      all_goals go_roundw
      all_goals first
        | exact ⟨k, z9, by omega, HZ9.out, by go_num, by rw [HKN.out], HS1.out.1, HS1.out.2.1, HS1.out.2.2⟩
        | exact ⟨k, z9, by omega, HZ9.out, by go_num, by rw [HKN.out], HS2.out.1, HS2.out.2.1, HS2.out.2.2⟩
        | exact ⟨k, z9, by omega, HZ9.out, by go_num, by rw [HKN.out], HS1.out.1.ext (Ext.refl _).drew, HS1.out.2.1.ext (Ext.refl _).drew, HS1.out.2.2.drew⟩
        | exact ⟨k, z9, by omega, HZ9.out, by go_num, by rw [HKN.out], HS2.out.1.ext (Ext.refl _).drew, HS2.out.2.1.ext (Ext.refl _).drew, HS2.out.2.2.drew⟩
        | (simp [intOf]; omega)
        | fail
set_option maxHeartbeats 12800000 in
set_option maxRecDepth 100000 in
theorem ponce11_any (l : List Nat) (L : Option Addr) (lc : Nat) (b blk g m : Int) (Ap : Option Addr) (cp : Nat) (picks : List (Int × Int)) (w : World) (hL : Rd kU32 w (.slice L l.length lc) (zs l)) (hp : Rd kPk w (.slice Ap picks.length cp) picks) (hl : l.length ≤ 900) (hb : in64 b) (hk : in64 blk) (hg : in64 g) (hm : in64 m) :
    Calls Tryz.prog 8 #[.slice L l.length lc, wayV b blk g m Ap picks.length cp] w (WordsSaid (once11P l b blk g m picks) w) := by
  have hh := pgroups_any l L lc b blk g m Ap cp picks (w.alloc (.cells #[.int .i64 b, .int .i64 blk, .int .i64 g, .int .i64 m, .slice Ap picks.length cp] 27)) (hL.ext ((Ext.refl _).alloc _)) (hp.ext ((Ext.refl _).alloc _)) hl hb hk hg hm
  have HH := Lib.hid hh
  clear hh hL hp hl hb hk hg hm
  go_enter Tryz.func8, Tryz.ntmps8
  go_wp2_with fail
  obtain ⟨⟨o, t, st, er⟩, hr⟩ : ∃ r, groupsP l b blk g m picks = r := ⟨_, rfl⟩
  have HR : Hid (once11P l b blk g m picks = (o, st, er)) := Lib.hid (by unfold once11P; rw [hr])
  rw [hr] at HH
  clear hr
  refine HH.out.mono ?_
  rintro ed w1 ⟨L1, T1, l1, t1, rfl, hO, _, hE⟩
  simp only at hO ⊢
  have HO := Lib.hid (And.intro hO hE)
  clear hO hE HH
  go_wp2_with fail
  exact bodyPost_ret (v := .tuple #[.slice L1 o.length l1, .int .i64 st, .int .i64 er]) (by simp [results, Tryz.results8, go_sem]) rfl (by rw [HR.out]; exact ⟨L1, l1, rfl, HO.out.1.mono (B' := w.heap.size) (by simp), ((Ext.refl _).alloc _).trans HO.out.2⟩)
end Go.Proofs.YtkpbanfpnilifaaGreat

/- The program's keysOf, Edges (dedup, real code). Written by wip/mk_r11w.py. -/
namespace Go.Proofs.YtkpbanfpnilifaaGreat
open Go.BigFrame
open Go.RowKit Go.Proofs.YtkpbanfpnilifaaGreat.Plain

/-- keys of edges, or not -/
def Plain.keysR (l : List (Int × Int)) : List Nat × Bool := if allOk l = true then (keysOf l, true) else ([], false)
set_option maxHeartbeats 3200000 in
set_option maxRecDepth 100000 in
theorem pkeysof_any (l : List (Int × Int)) (L : Option Addr) (lc : Nat) (w : World) (hL : Rd kEdge w (.slice L l.length lc) l) (hl : l.length ≤ 900) :
    Calls Tryz.prog 27 #[.slice L l.length lc] w fun ed w' => ∃ (A : Option Addr) (c : Nat), ed = .returned (.tuple #[.slice A (keysR l).1.length c, .bool (keysR l).2]) ∧ Ow kU32 w.heap.size w' (.slice A (keysR l).1.length c) (zs (keysR l).1) ∧ Ext w w' := by
  have HL := Lib.hid hL
  have hl' : (l.length : Int) ≤ 900 := by omega
  clear hL
  go_enter Tryz.func27, Tryz.ntmps27
  go_wp2_with fail
  go_loopw [4, 11] (fun v i wr => ∃ k : Nat, k ≤ l.length ∧ i = .int .i64 k ∧ allOk (l.take k) = true ∧ Ow kU32 w.heap.size wr v (zs (keysOf (l.take k))) ∧ Ext w wr) (fun _ i _ => l.length - (intOf i).toNat)
  case atStart => exact ⟨0, Nat.zero_le _, rfl, rfl, Ow.nil _ _, Ext.refl _⟩
  case round =>
    obtain ⟨k, hk, rfl, hok, hO, hX⟩ := hrel
    have HO := Lib.hid hO
    have HX := Lib.hid hX
    have HOK := Lib.hid hok
    have hk0 : (0 : Int) ≤ k := by omega
    clear hO hX hok
    by_cases hlt : k < l.length
    · have hlt' : (k : Int) < l.length := by omega
      obtain ⟨bx, ox, rfl, hcx⟩ := Rd.edges (HL.out.ext HX.out) (by omega)
      obtain ⟨x0, x1⟩ := hcx k hlt
      have hin := HL.out.okAt k hlt
      have htk : l.take (k + 1) = l.take k ++ [l.getD k (0, 0)] := takeD_snoc (0, 0) hlt
      have hsn := keysOf_snoc (l.take k) (l.getD k (0, 0))
      rw [← htk] at hsn
      have hao : allOk (l.take (k + 1)) = keyOk (l.getD k (0, 0)).1 (l.getD k (0, 0)).2 := by
        have h9 := HOK.out
        unfold allOk at h9 ⊢
        rw [htk, List.all_append, h9]; simp
      have hbad : keyOk (l.getD k (0, 0)).1 (l.getD k (0, 0)).2 = false → allOk l = false := fun h => by
        unfold allOk
        rw [List.all_eq_false]
        exact ⟨l.getD k (0, 0), by rw [List.getD_eq_getElem?_getD, List.getElem?_eq_getElem hlt]; exact List.getElem_mem hlt, by rw [h]; decide⟩
      obtain ⟨⟨u, v⟩, huv⟩ : ∃ x, l.getD k (0, 0) = x := ⟨_, rfl⟩
      have hin' : in64 u ∧ in64 v := by
        have h9 : kEdge.ok (l.getD k (0, 0)) := hin
        rw [huv] at h9; exact h9
      rw [huv] at x0 x1 hsn hao hbad
      simp only at x0 x1 hsn hao hbad
      have HIN := Lib.hid hin'
      have HSN := Lib.hid hsn
      have HAO := Lib.hid hao
      have HBAD := Lib.hid hbad
      have hzx := HX.out.size
      have lbx : bx < wr.heap.size := World.block_lt_of_cell? _ _ x0
      clear hcx hin htk hsn hao hbad huv hin'
      go_wp2_with fail
      refine (pkey_any u v _ HIN.out.1 HIN.out.2).mono ?_
      obtain ⟨K, hK⟩ : ∃ K, keyP u v = K := ⟨_, rfl⟩
      have HKL : Hid (K < 4294967296) := Lib.hid (by rw [← hK]; exact keyP_lt u v)
      rw [hK] at HSN ⊢
      rintro ed w3 ⟨rfl, hE3⟩
      have HX3 := Lib.hid ((HX.out.alloc (.cells #[.int .i64 u, .int .i64 v] 46)).trans hE3)
      have HO3 := Lib.hid ((HO.out.ext ((Ext.refl _).alloc (.cells #[.int .i64 u, .int .i64 v] 46))).ext hE3)
      have hb3 := block_keep (heap_alloc_new wr (.cells #[.int .i64 u, .int .i64 v] 46)) hE3
      have y0 : w3.cell? ⟨wr.heap.size, 0, none⟩ = some (.int .i64 u) := (cell_of_row w3 wr.heap.size 0 _ _ _ hb3).trans rfl
      have y1 : w3.cell? ⟨wr.heap.size, 1, none⟩ = some (.int .i64 v) := (cell_of_row w3 wr.heap.size 1 _ _ _ hb3).trans rfl
      have lb3 : wr.heap.size < w3.heap.size := World.block_lt_of_cell? _ _ y0
      clear hb3 hE3
      clear x0 x1 hK HO HX
      cases hok : keyOk u v with
      | false =>
        have HE : Hid (keysR l = ([], false)) := Lib.hid (by unfold keysR; rw [if_neg (by rw [HBAD.out hok]; decide)])
        clear hok
        go_wp2_with fail
        exact bodyPost_ret (v := .tuple #[.slice none 0 0, .bool false]) (by simp [results, Tryz.results27, go_sem]) rfl (by rw [HE.out]; exact ⟨none, 0, rfl, Ow.nil _ _, HX3.out⟩)
      | true =>
        rw [hok] at HAO
        clear hok
        by_cases huv : u = v
        · subst huv
          rw [if_pos rfl, List.append_nil] at HSN
          have hn1 : (u != u) = false := by simp
          go_wp2_with fail
          go_roundw
          case rel => exact ⟨k + 1, by omega, by go_num, HAO.out, by rw [HSN.out]; exact HO3.out, HX3.out⟩
          case measure => simp [intOf]; omega
        · rw [if_neg huv] at HSN
          have hn1 : (u != v) = true := by simp [huv]
          have hn2 : (u == v) = false := by simp [huv]
          have HLL : Hid ((zs (keysOf (l.take k))).length + [(K : Int)].length ≤ 1048576) := Lib.hid (by have := keysOf_len (l.take k); rw [zs_len, List.length_singleton]; rw [List.length_take] at this; omega)
          have hz4 := HX3.out.size
          clear huv
          go_wp2_with (at_builtin; refine kU32.wpList_app (by rfl) (.tmp 27) (.tmp 29) (by rfl) (by rfl) w.heap.size _ (zs (keysOf (l.take k))) (by rfl) (HO3.out.ext ((Ext.refl _).alloc _)) _ [(K : Int)] (by rfl) (u32_lit _ K HKL.out) HLL.out (by simp; omega) ?_; intro v' w8 hown8 hgrow8 hat8)
          have H8 := Lib.hid (And.intro hown8 (And.intro hgrow8 hat8))
          clear hown8 hgrow8 hat8
          go_wp2_with fail
          go_roundw
          case rel =>
            obtain ⟨hown8, hgrow8, hat8⟩ := H8.out
            exact ⟨k + 1, by omega, by go_num, HAO.out, by rw [HSN.out, zs_app]; exact hown8, Ext.grown (HX3.out.alloc _) hgrow8 (fun q hq => (HO3.out.lt q hq).1)⟩
          case measure => simp [intOf]; omega
    · obtain rfl : k = l.length := by omega
      rw [List.take_length] at HO HOK
      have HE : Hid (keysR l = (keysOf l, true)) := Lib.hid (by unfold keysR; rw [if_pos HOK.out])
      obtain ⟨Lz, lz, hv, hlz⟩ := HO.out.slice
      subst hv
      go_wp2_with fail
      refine bodyPost_ret (v := .tuple #[.slice Lz (zs (keysOf l)).length lz, .bool true]) (by simp [results, Tryz.results27, go_sem]) rfl (by rw [HE.out]; exact ⟨Lz, lz, by rw [zs_len], by have := HO.out; rw [zs_len] at this; exact this, HX.out⟩)
/-- the first k edges told, the others nothing yet -/
def Plain.edgJ (os : List Nat) (k : Nat) : List (Int × Int) := (List.range os.length).map (fun i => if i < k then edgeP (os.getD i 0) else (0, 0))
theorem Plain.edgJ_len (os : List Nat) (k : Nat) : (edgJ os k).length = os.length := by unfold edgJ; rw [List.length_map, List.length_range]
theorem Plain.edgJ_zero (os : List Nat) : edgJ os 0 = List.replicate os.length (0, 0) := by
  unfold edgJ
  apply List.ext_getElem?
  intro i
  by_cases hi : i < os.length
  · rw [List.getElem?_map, List.getElem?_range hi, List.getElem?_replicate, if_pos hi]; rfl
  · rw [List.getElem?_eq_none (by simpa using hi), List.getElem?_eq_none (by simpa using hi)]
theorem Plain.edgJ_all (os : List Nat) : edgJ os os.length = os.map edgeP := by
  unfold edgJ
  apply List.ext_getElem?
  intro i
  by_cases hi : i < os.length
  · rw [List.getElem?_map, List.getElem?_range hi, List.getElem?_map, List.getElem?_eq_getElem hi, Option.map_some, Option.map_some, if_pos hi, List.getD_eq_getElem?_getD, List.getElem?_eq_getElem hi]; rfl
  · rw [List.getElem?_eq_none (by simpa using hi), List.getElem?_eq_none (by simpa using hi)]
theorem Plain.edgJ_set (os : List Nat) (j : Nat) : (edgJ os j).set j (edgeP (os.getD j 0)) = edgJ os (j + 1) := by
  unfold edgJ
  apply List.ext_getElem?
  intro i
  by_cases hi : i < os.length
  · rw [List.getElem?_set, List.getElem?_map, List.getElem?_map, List.getElem?_range hi, List.length_map, List.length_range, Option.map_some, Option.map_some]
    by_cases h : j = i
    · subst h; rw [if_pos rfl, if_pos hi, if_pos (by omega)]
    · rw [if_neg h]
      by_cases h2 : i < j
      · rw [if_pos h2, if_pos (by omega)]
      · rw [if_neg h2, if_neg (by omega)]
  · rw [List.getElem?_eq_none (by simp; omega), List.getElem?_eq_none (by simp; omega)]
/-- an edge of one's own is stored -/
theorem Ow.setE {B g n c : Nat} {w : World} {M : List (Int × Int)} (h : Ow kEdge B w (.slice (some ⟨g, 0, none⟩) n c) M) {j : Nat} {u v : Int} (hj : j < M.length) (hu : in64 u) (hv : in64 v) :
    Ow kEdge B ((w.setCell ⟨g, j * 2, none⟩ (.int .i64 u)).setCell ⟨g, j * 2 + 1, none⟩ (.int .i64 v)) (.slice (some ⟨g, 0, none⟩) n c) (M.set j (u, v)) := by
  have hok : in64 (M.getD j (0, 0)).1 ∧ in64 (M.getD j (0, 0)).2 := h.rd.okAt j hj
  have h1 := h.set (j := j) (i := 0) (x := (u, (M.getD j (0, 0)).2)) (u := .int .i64 u) hj (by decide) rfl ⟨hu, hok.2⟩
  have h2 := h1.set (j := j) (i := 1) (x := (u, v)) (u := .int .i64 v) (by rw [List.length_set]; exact hj) (by decide) (by
    rw [show (kEdge.d : Int × Int) = (0, 0) from rfl, List.getD_eq_getElem?_getD, List.getElem?_set, if_pos rfl, if_pos hj]; rfl) ⟨hu, hv⟩
  rw [List.set_set] at h2
  exact h2
theorem Ow.atE {B g n c : Nat} {w : World} {M : List (Int × Int)} (h : Ow kEdge B w (.slice (some ⟨g, 0, none⟩) n c) M) {j : Nat} (hj : j < M.length) :
    w.cell? ⟨g, j * 2, none⟩ = some (.int .i64 (M.getD j (0, 0)).1) ∧ w.cell? ⟨g, j * 2 + 1, none⟩ = some (.int .i64 (M.getD j (0, 0)).2) ∧ (∀ o, w.frozen? ⟨g, o, none⟩ = false) ∧ B ≤ g ∧ g < w.heap.size := by
  obtain ⟨g', eg, h1, h2, h3, h4⟩ := h.pos (by omega)
  cases eg
  exact ⟨h3 j hj 0 _ rfl, h3 j hj 1 _ rfl, h4, h1, h2⟩
set_option maxHeartbeats 3200000 in
set_option maxRecDepth 100000 in
theorem pedges_any (l : List (Int × Int)) (L : Option Addr) (lc : Nat) (b blk g m : Int) (Ap : Option Addr) (cp : Nat) (picks : List (Int × Int)) (w : World) (hL : Rd kEdge w (.slice L l.length lc) l) (hp : Rd kPk w (.slice Ap picks.length cp) picks) (hl : l.length ≤ 900) (hb : in64 b) (hk : in64 blk) (hg : in64 g) (hm : in64 m) :
    Calls Tryz.prog 13 #[.slice L l.length lc, wayV b blk g m Ap picks.length cp] w (EdgSaid (edgesP l b blk g m picks) w) := by
  have HP := Lib.hid hp
  have HL := Lib.hid hL
  have HG := Lib.hid (And.intro hg (And.intro hm (And.intro hb hk)))
  have hl' : (l.length : Int) ≤ 900 := by omega
  clear hp hL hg hm hb hk
  go_enter Tryz.func13, Tryz.ntmps13
  go_wp2_with fail
  have hh := pkeysof_any l L lc (w.alloc (.cells #[.int .i64 b, .int .i64 blk, .int .i64 g, .int .i64 m, .slice Ap picks.length cp] 27)) (HL.out.ext ((Ext.refl _).alloc _)) hl
  refine hh.mono ?_
  clear hh
  rintro ed w1 ⟨A1, c1, rfl, hO1, hE1⟩
  have HX1 := Lib.hid (((Ext.refl w).alloc (.cells #[.int .i64 b, .int .i64 blk, .int .i64 g, .int .i64 m, .slice Ap picks.length cp] 27)).trans hE1)
  have hb1 := block_keep (heap_alloc_new w (.cells #[.int .i64 b, .int .i64 blk, .int .i64 g, .int .i64 m, .slice Ap picks.length cp] 27)) hE1
  have k0 : w1.cell? ⟨w.heap.size, 0, none⟩ = some (.int .i64 b) := (cell_of_row w1 w.heap.size 0 _ _ _ hb1).trans rfl
  have k1 : w1.cell? ⟨w.heap.size, 1, none⟩ = some (.int .i64 blk) := (cell_of_row w1 w.heap.size 1 _ _ _ hb1).trans rfl
  have k2 : w1.cell? ⟨w.heap.size, 2, none⟩ = some (.int .i64 g) := (cell_of_row w1 w.heap.size 2 _ _ _ hb1).trans rfl
  have k3 : w1.cell? ⟨w.heap.size, 3, none⟩ = some (.int .i64 m) := (cell_of_row w1 w.heap.size 3 _ _ _ hb1).trans rfl
  have k4 : w1.cell? ⟨w.heap.size, 4, none⟩ = some (.slice Ap picks.length cp) := (cell_of_row w1 w.heap.size 4 _ _ _ hb1).trans rfl
  have lw : w.heap.size < w1.heap.size := World.block_lt_of_cell? _ _ k0
  have HO1 := Lib.hid hO1.rd
  clear hb1 hE1 hO1
  cases hao : allOk l with
  | false =>
    have HE : Hid (edgesP l b blk g m picks = ([], 0, 10)) := Lib.hid (by unfold edgesP; rw [if_pos hao])
    rw [show keysR l = ([], false) by unfold keysR; rw [if_neg (by rw [hao]; decide)]] at HO1 ⊢
    clear hao
    go_wp2_with fail
    exact bodyPost_ret (v := .tuple #[.slice none 0 0, .int .i64 0, .int .i64 10]) (by simp [results, Tryz.results13, go_sem]) rfl (by rw [HE.out]; exact ⟨none, 0, rfl, Ow.nil _ _, HX1.out⟩)
  | true =>
    have hF : edgesP l b blk g m picks = if (once11P (keysOf l) b blk g m picks).2.2 ≠ 0 then ([], 0, (once11P (keysOf l) b blk g m picks).2.2) else ((once11P (keysOf l) b blk g m picks).1.map edgeP, (once11P (keysOf l) b blk g m picks).2.1, 0) := by unfold edgesP; rw [if_neg (by rw [hao]; decide)]
    rw [show keysR l = (keysOf l, true) by unfold keysR; rw [if_pos hao]] at HO1 ⊢
    simp only at HO1 ⊢
    have hkl := keysOf_len l
    obtain ⟨ks, hks⟩ : ∃ x, keysOf l = x := ⟨_, rfl⟩
    rw [hks] at HO1 hF hkl ⊢
    have herr := once11P_err ks b blk g m picks
    obtain ⟨⟨os, st, er⟩, hr⟩ : ∃ x, once11P ks b blk g m picks = x := ⟨_, rfl⟩
    rw [hr] at hF herr
    simp only at hF herr
    have HF := Lib.hid hF
    have HR := Lib.hid hr
    clear hF hr hks hao
    go_wp2_with fail
    have hh := ponce11_any ks A1 c1 b blk g m Ap cp picks w1 HO1.out (HP.out.ext HX1.out) (by omega) HG.out.2.2.1 HG.out.2.2.2 HG.out.1 HG.out.2.1
    rw [HR.out] at hh
    refine hh.mono ?_
    clear hh
    rintro ed w5 ⟨L5, l5, rfl, hO5, hE5⟩
    simp only at hO5 ⊢
    have HO5 := Lib.hid hO5.rd
    have HX5 := Lib.hid (HX1.out.trans hE5)
    clear hO5 hE5 k0 k1 k2 k3 k4 lw
    rcases herr with rfl | rfl
    case inr =>
      rw [if_pos (by decide)] at HF
      go_wp2_with fail
      exact bodyPost_ret (v := .tuple #[.slice none 0 0, .int .i64 0, .int .i64 1]) (by simp [results, Tryz.results13, go_sem]) rfl (by rw [HF.out]; exact ⟨none, 0, rfl, Ow.nil _ _, HX5.out⟩)
    rw [if_neg (by simp)] at HF
    have hol : os.length ≤ 900 := by
      have h9 := HR.out
      have h8 : os = (grpL (risingL ks)).1 := by
        unfold once11P groupsP at h9
        rcases sortP_err ks b blk g m picks with ⟨h, _⟩ | h
        · rw [if_neg (by simp [h])] at h9
          exact (congrArg Prod.fst h9).symm
        · rw [if_pos (by simp [h])] at h9
          have := congrArg (fun x => x.2.2) h9
          simp [h] at this
      have h7 := grp_le (grp_take ks ks.length)
      rw [List.take_of_length_le (by rw [risingL_len]; exact Nat.le_refl _), risingL_len, ← h8] at h7
      omega
    have hol' : (os.length : Int) ≤ 900 := by omega
    have hz5 := HX5.out.size
    obtain ⟨C, hmk, hmown⟩ := kEdge.make (0, 0) rfl (show in64 0 ∧ in64 0 by decide) os.length (by omega)
    have HM : Hid (∀ w3 : World, Ow kEdge w3.heap.size (w3.alloc (.cells C 46)) (.slice (some ⟨w3.heap.size, 0, none⟩) os.length os.length) (edgJ os 0)) := Lib.hid fun w3 => by
      rw [edgJ_zero]
      exact hmown w3 w3.heap.size w3.heap.size rfl (Nat.le_refl _)
    have hmk2 : ∀ w : World, (Instr.makeSlice 39 (.int .i64 os.length) (.int .i64 os.length)).run Tryz.prog w = .ok (.slice (some ⟨w.heap.size, 0, none⟩) os.length os.length) (w.alloc (.cells C 46)) := hmk
    clear hmk hmown hkl
    go_wp2_with fail
    go_loopw [37] (fun i wr => ∃ k : Nat, k ≤ os.length ∧ i = .int .i64 k ∧ Ow kEdge w5.heap.size wr (.slice (some ⟨w5.heap.size, 0, none⟩) os.length os.length) (edgJ os k) ∧ Ext w5 wr) (fun i _ => os.length - (intOf i).toNat)
    case atStart => exact ⟨0, Nat.zero_le _, rfl, HM.out w5, (Ext.refl _).alloc _⟩
    case round =>
      obtain ⟨k, hk, rfl, hO, hX⟩ := hrel
      have HO := Lib.hid hO
      have HXa := Lib.hid hX
      have hk0 : (0 : Int) ≤ k := by omega
      clear hO hX hmk2
      by_cases hlt : k < os.length
      · have hlt' : (k : Int) < os.length := by omega
        obtain ⟨bx, ox, rfl, z0, hxl⟩ := u32_at (HO5.out.ext HXa.out) k hlt
        have hset := edgJ_set os k
        obtain ⟨x, hx⟩ : ∃ x, os.getD k 0 = x := ⟨_, rfl⟩
        rw [hx] at z0 hxl hset
        have hem := edgeP_in x hxl
        have HXL := Lib.hid hxl
        have HSET := Lib.hid hset
        clear hx hxl hset
        go_wp2_with fail
        refine (pedge_any x _ HXL.out).mono ?_
        obtain ⟨⟨eu, ev⟩, hev⟩ : ∃ y, edgeP x = y := ⟨_, rfl⟩
        rw [hev] at hem HSET ⊢
        have HEM := Lib.hid hem
        rintro ed w6 ⟨rfl, hE6⟩
        simp only
        have HX6 := Lib.hid (HXa.out.trans hE6)
        have HO6 := Lib.hid (HO.out.ext hE6)
        obtain ⟨m0, m1, m2, _, hgl⟩ := HO6.out.atE (j := k) (by rw [edgJ_len]; exact hlt)
        obtain ⟨⟨pu, pv⟩, hpq⟩ : ∃ y, (edgJ os k).getD k (0, 0) = y := ⟨_, rfl⟩
        rw [hpq] at m0 m1
        simp only at m0 m1
        have m2a := m2 (k * 2)
        have m2b := m2 (k * 2 + 1)
        clear hE6 hem hev HXa HO z0 m2 hpq
        go_wp2_with fail
        go_roundw
        case rel => exact ⟨k + 1, by omega, by go_num, by rw [← HSET.out]; exact HO6.out.setE (by rw [edgJ_len]; exact hlt) HEM.out.1 HEM.out.2, (HX6.out.setCell (p := ⟨w5.heap.size, k * 2, none⟩) (Nat.le_refl _) _).setCell (p := ⟨w5.heap.size, k * 2 + 1, none⟩) (Nat.le_refl _) _⟩
        case measure => simp [intOf]; omega
      · obtain rfl : k = os.length := by omega
        have hT := HO.out
        rw [edgJ_all] at hT
        have HT := Lib.hid hT
        have HXX := Lib.hid (HX5.out.trans HXa.out)
        clear hT
        go_wp2_with fail
        refine bodyPost_ret (v := .tuple #[.slice (some ⟨w5.heap.size, 0, none⟩) os.length os.length, .int .i64 st, .int .i64 0]) (by simp [results, Tryz.results13, go_sem]) rfl (by rw [HF.out]; exact ⟨some ⟨w5.heap.size, 0, none⟩, os.length, by rw [List.length_map], by rw [List.length_map]; exact HT.out.mono (B' := w.heap.size) hz5, HXX.out⟩)
end Go.Proofs.YtkpbanfpnilifaaGreat

/- The program's Without (dedup, real code): a map as a set of words. Written by wip/mk_r11w.py. -/
namespace Go.Proofs.YtkpbanfpnilifaaGreat
open Go.BigFrame
open Go.RowKit Go.Proofs.YtkpbanfpnilifaaGreat.Plain

theorem run_makeMapN {P : Program} {t k e : TypeId} (hu : P.underlying t = some (.map k e)) (n : Int) (w : World) : (Instr.makeMap t (some (.int .i64 n))).run P w = .ok (.map (some w.heap.size)) (w.alloc (.map #[] 0)) := by
  simp [Instr.makeMap, run_underlying hu, asInt, asIntOf, Result.andThen]
/-- words of a list as keys of a set -/
def setU (xs : List Nat) : DataW Unit := Maps.setOf (.agg []) (xs.map fun x : Nat => Lit.int .u32 x)
theorem setU_nil : setU [] = .map [] := rfl
theorem setU_snoc (xs : List Nat) (x : Nat) : setU (xs ++ [x]) = (setU xs).put (.int .u32 x) (.agg []) := by simp [setU, Maps.setOf_snoc]
theorem has_setU (xs : List Nat) (c : Nat) : Maps.has (setU xs) (.int .u32 c) = decide (c ∈ xs) := by
  rw [setU, Maps.has_setOf _ _ _ (by intro x hx; obtain ⟨y, _, rfl⟩ := List.mem_map.1 hx; exact trivial)]
  rw [Bool.eq_iff_iff]
  simp only [List.any_map, List.any_eq_true, decide_eq_true_eq, Function.comp]
  constructor
  · rintro ⟨x, hx, h⟩
    have : (x : Int) = (c : Int) := by simpa [Lit.sameKey] using h
    have : x = c := by omega
    subst this; exact hx
  · exact fun h => ⟨c, h, by simp [Lit.sameKey]⟩
theorem u32_litP (w : World) (x p : Nat) (hp : p = w.heap.size) (hx : x < 4294967296) : Rd kU32 (w.alloc (.cells #[.int .u32 x] 42)) (.slice (some ⟨p, 0, none⟩) 1 1) [(x : Int)] := by subst hp; exact u32_lit w x hx
theorem keyedU : Maps.Keyed Tryz.prog 42 := Maps.int_keyed Tryz.underlying42
theorem keyU (x : Nat) (hx : x < 4294967296) : keyOf Tryz.prog 42 (.int .u32 x) = some (.int .u32 x) := Maps.keyOf_int_mk Tryz.underlying42 (by simp [Lit.wf, IntKind.min, IntKind.max, IntKind.signed, IntKind.bits]; omega)
theorem ownsMap_ext {w W : World} {b n : Nat} {k : TypeId} {R : Value → Option (DataW Unit × List MemPlace)} {D : DataW Unit} (h : w.ownsMap Tryz.prog k R b n D) (hE : Ext w W) : W.ownsMap Tryz.prog k R b n D := by
  obtain ⟨es, clock, hb, hr⟩ := h
  have hlt : b < w.heap.size := by
    rcases Nat.lt_or_ge b w.heap.size with hlt | hge
    · exact hlt
    · rw [Array.getElem?_eq_none hge] at hb; cases hb
  exact ⟨es, clock, (Below.block hE b hlt).trans hb, hr⟩
set_option maxHeartbeats 3200000 in
set_option maxRecDepth 100000 in
theorem pwithout_any (l r : List Nat) (L R : Option Addr) (lc rc : Nat) (w : World) (hL : Rd kU32 w (.slice L l.length lc) (zs l)) (hR : Rd kU32 w (.slice R r.length rc) (zs r)) (hl : l.length ≤ 900) (hr : r.length ≤ 900) :
    Calls Tryz.prog 11 #[.slice L l.length lc, .slice R r.length rc] w fun ed w' => ∃ (A : Option Addr) (c : Nat), ed = .returned (.slice A (withoutL l r).length c) ∧ Ow kU32 w.heap.size w' (.slice A (withoutL l r).length c) (zs (withoutL l r)) ∧ Ext w w' := by
  have HL := Lib.hid hL
  have HR := Lib.hid hR
  have hl' : (l.length : Int) ≤ 900 := by omega
  have hr' : (r.length : Int) ≤ 900 := by omega
  clear hL hR
  have hmm := @run_makeMapN Tryz.prog 57 _ _ Tryz.underlying57
  go_enter Tryz.func11, Tryz.ntmps11
  go_wp2_with fail
  go_loopw [18] (fun i wr => ∃ k : Nat, k ≤ r.length ∧ i = .int .i64 k ∧ wr.ownsMap Tryz.prog 42 unitElem w.heap.size k (setU (r.take k)) ∧ Ext w wr ∧ w.heap.size < wr.heap.size) (fun i _ => r.length - (intOf i).toNat)
  case atStart => exact ⟨0, Nat.zero_le _, rfl, by rw [List.take_zero, setU_nil]; exact World.ownsMap_made _ _ _ _, (Ext.refl w).alloc _, by simp⟩
  case round =>
    obtain ⟨k, hk, rfl, hown, hX, hsz⟩ := hrel
    have HX := Lib.hid hX
    have HOW := Lib.hid hown
    have hk0 : (0 : Int) ≤ k := by omega
    clear hX hmm hown
    by_cases hlt : k < r.length
    · have hlt' : (k : Int) < r.length := by omega
      obtain ⟨bx, ox, rfl, z0, hxl⟩ := u32_at (HR.out.ext HX.out) k hlt
      have htk := takeN_snoc hlt
      obtain ⟨x, hx⟩ : ∃ x, r.getD k 0 = x := ⟨_, rfl⟩
      rw [hx] at z0 hxl htk
      have HKEY := Lib.hid (keyU x hxl)
      have HTK := Lib.hid htk
      have HSN := Lib.hid (setU_snoc (r.take k) x)
      have lbx : bx < wr.heap.size := World.block_lt_of_cell? _ _ z0
      have HML : Hid (k < maxLen) := Lib.hid (by unfold maxLen; omega)
      clear htk hx hxl
      go_wp2_with (at_mapUpdate; refine wpList_mapUpdate_own _ rfl _ _ _ 57 rfl 42 58 keyedU Tryz.underlying57 (unitElem (H := Unit)) w.heap.size k _ rfl HOW.out HML.out _ _ _ rfl rfl HKEY.out _ [] unitElem_mk ?_; intro w1 hown1 hgrow1)
      have H1 := Lib.hid (And.intro hown1 hgrow1)
      clear hown1 hgrow1
      go_wp2_with fail
      go_roundw
      case rel => exact ⟨k + 1, by omega, by go_num, by rw [HTK.out, HSN.out]; exact H1.out.1, HX.out.grown H1.out.2 (fun j hj => by cases hj; exact Nat.le_refl _), by have := H1.out.2.size; omega⟩
      case measure => simp [intOf]; omega
    · obtain rfl : k = r.length := by omega
      have HMP : Hid (∀ W, Ext wr W → W.ownsMap Tryz.prog 42 unitElem w.heap.size r.length (setU r)) := Lib.hid fun W hE => ownsMap_ext (by have h9 := HOW.out; rw [List.take_length] at h9; exact h9) hE
      clear HOW hk hk0
      go_wp2_with fail
      generalize wr = wb at *
      go_loopw [8, 28] (fun v i wx => ∃ k : Nat, k ≤ l.length ∧ i = .int .i64 k ∧ Ow kU32 wb.heap.size wx v (zs (withoutL (l.take k) r)) ∧ Ext wb wx) (fun _ i _ => l.length - (intOf i).toNat)
      case atStart => exact ⟨0, Nat.zero_le _, rfl, Ow.nil _ _, Ext.refl _⟩
      case round =>
        obtain ⟨k, hk, rfl, hO, hX⟩ := hrel
        have HO := Lib.hid hO
        have HXX := Lib.hid hX
        have hk0 : (0 : Int) ≤ k := by omega
        clear hO hX
        by_cases hlt : k < l.length
        · have hlt' : (k : Int) < l.length := by omega
          obtain ⟨bx, ox, rfl, z0, hxl⟩ := u32_at (HL.out.ext (HX.out.trans HXX.out)) k hlt
          have lbx : bx < wr.heap.size := World.block_lt_of_cell? _ _ z0
          have htk := takeN_snoc hlt
          obtain ⟨x, hx⟩ : ∃ y, l.getD k 0 = y := ⟨_, rfl⟩
          rw [hx] at z0 htk hxl
          have hws := withoutL_snoc (l.take k) r x
          rw [← htk] at hws
          have hh := has_setU r x
          have HXL := Lib.hid hxl
          have HKEY := Lib.hid (keyU x hxl)
          have hzx := HXX.out.size
          clear htk hx hxl
          by_cases hxr : x ∈ r
          · rw [if_pos hxr, List.append_nil] at hws
            rw [decide_eq_true hxr] at hh
            have HWS := Lib.hid hws
            clear hws hxr
            go_wp2_with (at_lookup; refine wpList_lookup_own_unit _ rfl _ _ 57 rfl 42 58 keyedU Tryz.underlying57 (zeroUnit _) w.heap.size r.length _ rfl (HMP.out _ (by repeat (first | (with_reducible exact HXX.out) | refine Ext.alloc ?_ _))) _ _ rfl HKEY.out ?_)
            go_wp2_with fail
            go_roundw
            case rel => exact ⟨k + 1, by omega, by go_num, by rw [HWS.out]; exact HO.out.ext ((Ext.refl _).alloc _), HXX.out.alloc _⟩
            case measure => simp [intOf]; omega
          · rw [if_neg hxr] at hws
            rw [decide_eq_false hxr] at hh
            have HWS := Lib.hid hws
            have hwl : (withoutL (l.take k) r).length ≤ k := Nat.le_trans (List.length_filter_le _ _) (by rw [List.length_take]; omega)
            have HLL : Hid ((zs (withoutL (l.take k) r)).length + [(x : Int)].length ≤ 1048576) := Lib.hid (by rw [zs_len, List.length_singleton]; omega)
            clear hws hxr hwl
            go_wp2_with (first
              | (at_lookup; refine wpList_lookup_own_unit _ rfl _ _ 57 rfl 42 58 keyedU Tryz.underlying57 (zeroUnit _) w.heap.size r.length _ rfl (HMP.out _ (by repeat (first | (with_reducible exact HXX.out) | refine Ext.alloc ?_ _))) _ _ rfl HKEY.out ?_)
              | (at_builtin; refine kU32.wpList_app (by rfl) (.tmp 40) (.tmp 42) (by rfl) (by rfl) wb.heap.size _ (zs (withoutL (l.take k) r)) (by rfl) (HO.out.ext (((Ext.refl _).alloc _).alloc _)) _ [(x : Int)] (by rfl) (u32_litP _ x (wr.heap.size + 1) (by simp) HXL.out) HLL.out (by simp; omega) ?_; intro v' w8 hown8 hgrow8 hat8))
            have H8 := Lib.hid (And.intro hown8 (And.intro hgrow8 hat8))
            clear hown8 hgrow8 hat8
            go_wp2_with fail
            go_roundw
            case rel =>
              obtain ⟨hown8, hgrow8, hat8⟩ := H8.out
              exact ⟨k + 1, by omega, by go_num, by rw [HWS.out, zs_app]; exact hown8, Ext.grown ((HXX.out.alloc _).alloc _) hgrow8 (fun q hq => (HO.out.lt q hq).1)⟩
            case measure => simp [intOf]; omega
        · obtain rfl : k = l.length := by omega
          rw [List.take_length] at HO
          obtain ⟨Lz, lz, hv, hlz⟩ := HO.out.slice
          subst hv
          have hz := HX.out.size
          go_wp2_with fail
          refine bodyPost_ret (v := .slice Lz (zs (withoutL l r)).length lz) (by simp [results, Tryz.results11, go_sem]) rfl ⟨Lz, lz, by rw [zs_len], by have := HO.out.mono (B' := w.heap.size) hz; rw [zs_len] at this; exact this, HX.out.trans HXX.out⟩
end Go.Proofs.YtkpbanfpnilifaaGreat

/- The program's dedup: what each call leaves (real). -/
namespace Go.Proofs.YtkpbanfpnilifaaGreat
end Go.Proofs.YtkpbanfpnilifaaGreat

/- Literals of numbers of 32 bits. -/
namespace Go.Proofs.YtkpbanfpnilifaaGreat
open Go.BigFrame
open Go.RowKit Go.Proofs.YtkpbanfpnilifaaGreat.Plain
end Go.Proofs.YtkpbanfpnilifaaGreat

/- The fixed fact of dedup's statements. Written by wip/mk_r11.py. -/
namespace Go.Proofs.YtkpbanfpnilifaaGreat
open Go.BigFrame
open Go.RowKit Go.Proofs.YtkpbanfpnilifaaGreat.Plain

theorem ints_e' (v u : Value) (xs ys : List Int) (w : World) (h : Rd kInt w v xs) (h' : Rd kInt w u ys) :
    Calls Tryz.prog 10 #[v, u] w fun ed w' => ed = .returned (.bool (sameB xs ys)) ∧ Ext w w' :=
  (ints_any v u xs ys w (ints_of_rd h) (ints_of_rd h')).mono fun ed w' hh => ⟨hh.1, by obtain ⟨n, h9⟩ := hh.2; rw [h9]; exact (Ext.refl _).drewN _⟩
theorem flat_ints' (xs : List Int) : kInt.flat xs = xs.map (Value.int .i64) := by
  induction xs with
  | nil => rfl
  | cons a l ih =>
    show [Value.int .i64 a] ++ kInt.flat l = _
    rw [ih]; rfl
theorem int_list' (w : World) (xs : List Int) (p n : Nat) (cs : Array Value) (hcs : cs.toList = xs.map (Value.int .i64)) (hn : xs.length = n) (hp : p = w.heap.size) (hm : n ≤ 1000) (hx : ∀ x ∈ xs, in64 x) : Rd kInt (w.alloc (.cells cs 3)) (.slice (some ⟨p, 0, none⟩) n n) xs :=
  Ow.rd (K := kInt) (B := 0) (Ow.lit (K := kInt) w xs cs (by rw [hcs, flat_ints']) hn hp (Nat.zero_le _) (by unfold maxLen; omega) hx)
theorem edge_list (w : World) (xs : List (Int × Int)) (p n : Nat) (cs : Array Value) (hcs : cs.toList = kEdge.flat xs) (hn : xs.length = n) (hp : p = w.heap.size) (hm : n ≤ 1000) (hx : ∀ x ∈ xs, in64 x.1 ∧ in64 x.2) : Rd kEdge (w.alloc (.cells cs 46)) (.slice (some ⟨p, 0, none⟩) n n) xs :=
  Ow.rd (K := kEdge) (B := 0) (Ow.lit (K := kEdge) w xs cs hcs hn hp (Nat.zero_le _) (by unfold maxLen; omega) hx)
theorem pgroups_to (l : List Nat) (ln np : Nat) (L : Option Addr) (lc : Nat) (b blk g m : Int) (Ap : Option Addr) (cp : Nat) (picks : List (Int × Int)) (os ts : List Nat) (st k k2 : Nat) (er si : Int) (w : World) (hL : Rd kU32 w (.slice L ln lc) (zs l)) (hln : l.length = ln) (hp : Rd kPk w (.slice Ap np cp) picks) (hnp : picks.length = np) (hl : l.length ≤ 900) (hb : in64 b) (hbk : in64 blk) (hg : in64 g) (hm : in64 m) (he : groupsP l b blk g m picks = (os, ts, st, er)) (hk : os.length = k) (hk2 : ts.length = k2) (hs : (st : Int) = si) :
    Calls Tryz.prog 6 #[.slice L ln lc, wayV b blk g m Ap np cp] w fun ed w' => ∃ (L T : Option Addr) (l t : Nat), ed = .returned (.tuple #[.slice L k l, .slice T k2 t, .int .i64 si, .int .i64 er]) ∧ Ow kU32 w.heap.size w' (.slice L k l) (zs os) ∧ Ow kInt w.heap.size w' (.slice T k2 t) (zs ts) ∧ Ext w w' := by
  subst hln hnp hk hk2 hs
  have h := pgroups_any l L lc b blk g m Ap cp picks w hL hp hl hb hbk hg hm
  rw [he] at h
  exact h.mono fun _ _ hh => hh
theorem ponce11_to (l : List Nat) (ln np : Nat) (L : Option Addr) (lc : Nat) (b blk g m : Int) (Ap : Option Addr) (cp : Nat) (picks : List (Int × Int)) (os : List Nat) (st k : Nat) (er si : Int) (w : World) (hL : Rd kU32 w (.slice L ln lc) (zs l)) (hln : l.length = ln) (hp : Rd kPk w (.slice Ap np cp) picks) (hnp : picks.length = np) (hl : l.length ≤ 900) (hb : in64 b) (hbk : in64 blk) (hg : in64 g) (hm : in64 m) (he : once11P l b blk g m picks = (os, st, er)) (hk : os.length = k) (hs : (st : Int) = si) :
    Calls Tryz.prog 8 #[.slice L ln lc, wayV b blk g m Ap np cp] w fun ed w' => ∃ (L : Option Addr) (l : Nat), ed = .returned (.tuple #[.slice L k l, .int .i64 si, .int .i64 er]) ∧ Ow kU32 w.heap.size w' (.slice L k l) (zs os) ∧ Ext w w' := by
  subst hln hnp hk hs
  have h := ponce11_any l L lc b blk g m Ap cp picks w hL hp hl hb hbk hg hm
  rw [he] at h
  exact h.mono fun _ _ hh => hh
theorem pedges_to (l : List (Int × Int)) (ln np : Nat) (L : Option Addr) (lc : Nat) (b blk g m : Int) (Ap : Option Addr) (cp : Nat) (picks : List (Int × Int)) (os : List (Int × Int)) (st k : Nat) (er si : Int) (w : World) (hL : Rd kEdge w (.slice L ln lc) l) (hln : l.length = ln) (hp : Rd kPk w (.slice Ap np cp) picks) (hnp : picks.length = np) (hl : l.length ≤ 900) (hb : in64 b) (hbk : in64 blk) (hg : in64 g) (hm : in64 m) (he : edgesP l b blk g m picks = (os, st, er)) (hk : os.length = k) (hs : (st : Int) = si) :
    Calls Tryz.prog 13 #[.slice L ln lc, wayV b blk g m Ap np cp] w fun ed w' => ∃ (L : Option Addr) (l : Nat), ed = .returned (.tuple #[.slice L k l, .int .i64 si, .int .i64 er]) ∧ Ow kEdge w.heap.size w' (.slice L k l) os ∧ Ext w w' := by
  subst hln hnp hk hs
  have h := pedges_any l L lc b blk g m Ap cp picks w hL hp hl hb hbk hg hm
  rw [he] at h
  exact h.mono fun _ _ hh => hh
theorem pwithout_to (l r : List Nat) (ln rn : Nat) (L R : Option Addr) (lc rc : Nat) (os : List Nat) (k : Nat) (w : World) (hL : Rd kU32 w (.slice L ln lc) (zs l)) (hln : l.length = ln) (hR : Rd kU32 w (.slice R rn rc) (zs r)) (hrn : r.length = rn) (hl : l.length ≤ 900) (hr : r.length ≤ 900) (he : withoutL l r = os) (hk : os.length = k) :
    Calls Tryz.prog 11 #[.slice L ln lc, .slice R rn rc] w fun ed w' => ∃ (A : Option Addr) (c : Nat), ed = .returned (.slice A k c) ∧ Ow kU32 w.heap.size w' (.slice A k c) (zs os) ∧ Ext w w' := by
  subst hln hrn hk
  have h := pwithout_any l r L R lc rc w hL hR hl hr
  rw [he] at h
  exact h.mono fun _ _ hh => hh
theorem rsame_to (l r : List (Int × Int)) (ln rn : Nat) (L R : Option Addr) (lc rc : Nat) (w : World) (hL : Rd kEdge w (.slice L ln lc) l) (hln : l.length = ln) (hR : Rd kEdge w (.slice R rn rc) r) (hrn : r.length = rn) (hl : l.length ≤ 900) (he : l = r) :
    Calls Tryz.prog 19 #[.slice L ln lc, .slice R rn rc] w fun ed w' => ed = .returned (.bool true) ∧ Ext w w' := by
  subst hln hrn
  have h := rsame11_any l r L R lc rc w hL hR hl
  rw [decide_eq_true he] at h
  exact h
set_option maxHeartbeats 3200000 in
set_option maxRecDepth 100000 in
theorem dalive_any (w : World) : Calls Tryz.prog 5 #[] w fun ed w' => ed = .returned (.bool true) ∧ Ext w w' := by
  have he1 : edgesP [(2, 1), (1, 2), (3, 3), (0, 7)] 8 2 1 1 [] = ([(0, 7), (1, 2)], 35, 0) := by decide +kernel
  have he2 : groupsP [9, 2, 9] 8 2 1 1 [] = ([2, 9], [1, 2], 35, 0) := by decide +kernel
  have he3 : once11P [9, 2, 9] 8 2 1 1 [] = ([2, 9], 35, 0) := by decide +kernel
  have he4 : edgesP [(-1, 0)] 8 2 1 1 [] = ([], 0, 10) := by decide +kernel
  have he5 : keyP 5 3 = 196613 ∧ keyOk 5 3 = true := by decide +kernel
  have he6 : edgeP 196613 = (3, 5) := by decide +kernel
  have he7 : withoutL [1, 2, 3] [2] = [1, 3] := by decide +kernel
  have H1 := Lib.hid he1
  have H2 := Lib.hid he2
  have H3 := Lib.hid he3
  have H4 := Lib.hid he4
  have H5 := Lib.hid he5
  have H6 := Lib.hid he6
  have H7 := Lib.hid he7
  clear he1 he2 he3 he4 he5 he6 he7
  go_enter Tryz.func5, Tryz.ntmps5
  go_wp2_with fail
  have hh := pedges_to [(2, 1), (1, 2), (3, 3), (0, 7)] 4 0 (some ⟨w.heap.size + 1, 0, none⟩) 4 8 2 1 1 none 0 [] [(0, 7), (1, 2)] 35 2 0 35 ((w.alloc (.cells #[.int .i64 8, .int .i64 2, .int .i64 1, .int .i64 1, .slice none 0 0] 27)).alloc (.cells #[.int .i64 2, .int .i64 1, .int .i64 1, .int .i64 2, .int .i64 3, .int .i64 3, .int .i64 0, .int .i64 7] 46)) (edge_list (w.alloc (.cells #[.int .i64 8, .int .i64 2, .int .i64 1, .int .i64 1, .slice none 0 0] 27)) [(2, 1), (1, 2), (3, 3), (0, 7)] (w.heap.size + 1) 4 #[.int .i64 2, .int .i64 1, .int .i64 1, .int .i64 2, .int .i64 3, .int .i64 3, .int .i64 0, .int .i64 7] rfl rfl (by simp) (by decide) (by decide)) rfl (Rd.nil _ _ _) rfl (by decide) (by decide) (by decide) (by decide) (by decide) H1.out rfl rfl
  refine hh.mono ?_
  clear hh
  rintro ed w1 ⟨La, la, rfl, hOa, hE1⟩
  have hF1 := (((Ext.refl w).alloc (.cells #[.int .i64 8, .int .i64 2, .int .i64 1, .int .i64 1, .slice none 0 0] 27)).alloc (.cells #[.int .i64 2, .int .i64 1, .int .i64 1, .int .i64 2, .int .i64 3, .int .i64 3, .int .i64 0, .int .i64 7] 46)).trans hE1
  have hb := block_keep (heap_alloc_new w (.cells #[.int .i64 8, .int .i64 2, .int .i64 1, .int .i64 1, .slice none 0 0] 27)) (((Ext.refl _).alloc (.cells #[.int .i64 2, .int .i64 1, .int .i64 1, .int .i64 2, .int .i64 3, .int .i64 3, .int .i64 0, .int .i64 7] 46)).trans hE1)
  have k0 : w1.cell? ⟨w.heap.size, 0, none⟩ = some (.int .i64 8) := (cell_of_row w1 w.heap.size 0 _ _ _ hb).trans rfl
  have k1 : w1.cell? ⟨w.heap.size, 1, none⟩ = some (.int .i64 2) := (cell_of_row w1 w.heap.size 1 _ _ _ hb).trans rfl
  have k2 : w1.cell? ⟨w.heap.size, 2, none⟩ = some (.int .i64 1) := (cell_of_row w1 w.heap.size 2 _ _ _ hb).trans rfl
  have k3 : w1.cell? ⟨w.heap.size, 3, none⟩ = some (.int .i64 1) := (cell_of_row w1 w.heap.size 3 _ _ _ hb).trans rfl
  have k4 : w1.cell? ⟨w.heap.size, 4, none⟩ = some (.slice none 0 0) := (cell_of_row w1 w.heap.size 4 _ _ _ hb).trans rfl
  have l0 : w.heap.size < w1.heap.size := World.block_lt_of_cell? _ _ k0
  have HX1 := Lib.hid hF1
  have Ha_1 := Lib.hid hOa.rd
  clear hF1 hb hE1 hOa
  go_wp2_with fail
  refine (pgroups_to [9, 2, 9] 3 0 (some ⟨w1.heap.size, 0, none⟩) 3 8 2 1 1 none 0 [] [2, 9] [1, 2] 35 2 2 0 35 _ (u32_list w1 [9, 2, 9] _ 3 #[.int .u32 9, .int .u32 2, .int .u32 9] rfl rfl rfl (by decide) (by decide)) rfl (Rd.nil _ _ _) rfl (by decide) (by decide) (by decide) (by decide) (by decide) H2.out rfl rfl rfl).mono ?_
  rintro ed w2 ⟨Lb, Tb, lb, tb, rfl, hOb, hTb, hE2⟩
  have hF2 := ((Ext.refl w1).alloc (.cells #[.int .u32 9, .int .u32 2, .int .u32 9] 42)).trans hE2
  replace k0 := Ext.cell hF2 k0
  replace k1 := Ext.cell hF2 k1
  replace k2 := Ext.cell hF2 k2
  replace k3 := Ext.cell hF2 k3
  replace k4 := Ext.cell hF2 k4
  have lb2_0 : w.heap.size < w2.heap.size := by have := Ext.size hF2; omega
  have HX2 := Lib.hid (HX1.out.trans hF2)
  have Ha_2 := Lib.hid (Ha_1.out.ext hF2)
  have Hb_2 := Lib.hid (hOb.rd)
  have Ht_2 := Lib.hid (hTb.rd)
  clear hE2 hF2 HX1 Ha_1 l0
  go_wp2_with fail
  refine (ponce11_to [9, 2, 9] 3 0 (some ⟨w2.heap.size, 0, none⟩) 3 8 2 1 1 none 0 [] [2, 9] 35 2 0 35 _ (u32_list w2 [9, 2, 9] _ 3 #[.int .u32 9, .int .u32 2, .int .u32 9] rfl rfl rfl (by decide) (by decide)) rfl (Rd.nil _ _ _) rfl (by decide) (by decide) (by decide) (by decide) (by decide) H3.out rfl rfl).mono ?_
  rintro ed w3 ⟨Lo, lo, rfl, hOo, hE3⟩
  have hF3 := ((Ext.refl w2).alloc (.cells #[.int .u32 9, .int .u32 2, .int .u32 9] 42)).trans hE3
  replace k0 := Ext.cell hF3 k0
  replace k1 := Ext.cell hF3 k1
  replace k2 := Ext.cell hF3 k2
  replace k3 := Ext.cell hF3 k3
  replace k4 := Ext.cell hF3 k4
  have lb3_0 : w.heap.size < w3.heap.size := by have := Ext.size hF3; omega
  have HX3 := Lib.hid (HX2.out.trans hF3)
  have Ha_3 := Lib.hid (Ha_2.out.ext hF3)
  have Hb_3 := Lib.hid (Hb_2.out.ext hF3)
  have Ht_3 := Lib.hid (Ht_2.out.ext hF3)
  have Ho_3 := Lib.hid (hOo.rd)
  clear hE3 hF3 HX2 Ha_2 Hb_2 Ht_2 lb2_0
  go_wp2_with fail
  refine (pedges_to [(-1, 0)] 1 0 (some ⟨w3.heap.size, 0, none⟩) 1 8 2 1 1 none 0 [] [] 0 0 10 0 _ (edge_list w3 [(-1, 0)] _ 1 #[.int .i64 (-1), .int .i64 0] rfl rfl rfl (by decide) (by decide)) rfl (Rd.nil _ _ _) rfl (by decide) (by decide) (by decide) (by decide) (by decide) H4.out rfl rfl).mono ?_
  rintro ed w4 ⟨Ln, ln, rfl, hOn, hE4⟩
  have hF4 := ((Ext.refl w3).alloc (.cells #[.int .i64 (-1), .int .i64 0] 46)).trans hE4
  replace k0 := Ext.cell hF4 k0
  replace k1 := Ext.cell hF4 k1
  replace k2 := Ext.cell hF4 k2
  replace k3 := Ext.cell hF4 k3
  replace k4 := Ext.cell hF4 k4
  have lb4_0 : w.heap.size < w4.heap.size := by have := Ext.size hF4; omega
  have HX4 := Lib.hid (HX3.out.trans hF4)
  have Ha_4 := Lib.hid (Ha_3.out.ext hF4)
  have Hb_4 := Lib.hid (Hb_3.out.ext hF4)
  have Ht_4 := Lib.hid (Ht_3.out.ext hF4)
  have Ho_4 := Lib.hid (Ho_3.out.ext hF4)
  clear hE4 hF4 HX3 Ha_3 Hb_3 Ht_3 Ho_3 lb3_0
  go_wp2_with fail
  clear k0 k1 k2 k3 k4
  refine (pkey_any 5 3 _ (by decide) (by decide)).mono ?_
  rw [H5.out.1, H5.out.2]
  rintro ed w5 ⟨rfl, hE5⟩
  have HX5 := Lib.hid (HX4.out.trans hE5)
  have Ha_5 := Lib.hid (Ha_4.out.ext hE5)
  have Hb_5 := Lib.hid (Hb_4.out.ext hE5)
  have Ht_5 := Lib.hid (Ht_4.out.ext hE5)
  have Ho_5 := Lib.hid (Ho_4.out.ext hE5)
  clear hE5 HX4 Ha_4 Hb_4 Ht_4 Ho_4 lb4_0
  go_wp2_with fail
  refine (rsame_to [(0, 7), (1, 2)] [(0, 7), (1, 2)] 2 2 La (some ⟨w5.heap.size, 0, none⟩) la 2 _ (Ha_5.out.ext ((Ext.refl _).alloc _)) rfl (edge_list w5 [(0, 7), (1, 2)] _ 2 #[.int .i64 0, .int .i64 7, .int .i64 1, .int .i64 2] rfl rfl rfl (by decide) (by decide)) rfl (by decide) rfl).mono ?_
  rintro ed w6 ⟨rfl, hE6⟩
  have hF6 := ((Ext.refl w5).alloc (.cells #[.int .i64 0, .int .i64 7, .int .i64 1, .int .i64 2] 46)).trans hE6
  have HX6 := Lib.hid (HX5.out.trans hF6)
  have Ha_6 := Lib.hid (Ha_5.out.ext hF6)
  have Hb_6 := Lib.hid (Hb_5.out.ext hF6)
  have Ht_6 := Lib.hid (Ht_5.out.ext hF6)
  have Ho_6 := Lib.hid (Ho_5.out.ext hF6)
  clear hE6 hF6 HX5 Ha_5 Hb_5 Ht_5 Ho_5
  go_wp2_with fail
  clear Ha_6
  refine (rwords_any _ _ _ (zs [2, 9]) _ (Hb_6.out.ext ((Ext.refl _).alloc _)) (u32_list w6 [2, 9] _ 2 #[.int .u32 2, .int .u32 9] rfl rfl rfl (by decide) (by decide))).mono ?_
  rintro ed w7 ⟨rfl, hE7⟩
  rw [show sameB (zs [2, 9]) (zs [2, 9]) = true by decide +kernel]
  have hF7 := ((Ext.refl w6).alloc (.cells #[.int .u32 2, .int .u32 9] 42)).trans hE7
  have HX7 := Lib.hid (HX6.out.trans hF7)
  have Hb_7 := Lib.hid (Hb_6.out.ext hF7)
  have Ht_7 := Lib.hid (Ht_6.out.ext hF7)
  have Ho_7 := Lib.hid (Ho_6.out.ext hF7)
  clear hE7 hF7 HX6 Hb_6 Ht_6 Ho_6
  go_wp2_with fail
  refine (ints_e' _ _ (zs [1, 2]) [1, 2] _ (Ht_7.out.ext ((Ext.refl _).alloc _)) (int_list' w7 [1, 2] _ 2 #[.int .i64 1, .int .i64 2] rfl rfl rfl (by decide) (by decide))).mono ?_
  rintro ed w8 ⟨rfl, hE8⟩
  rw [show sameB (zs [1, 2]) [1, 2] = true by decide +kernel]
  have hF8 := ((Ext.refl w7).alloc (.cells #[.int .i64 1, .int .i64 2] 3)).trans hE8
  have HX8 := Lib.hid (HX7.out.trans hF8)
  have Hb_8 := Lib.hid (Hb_7.out.ext hF8)
  have Ht_8 := Lib.hid (Ht_7.out.ext hF8)
  have Ho_8 := Lib.hid (Ho_7.out.ext hF8)
  clear hE8 hF8 HX7 Hb_7 Ht_7 Ho_7
  go_wp2_with fail
  clear Ht_8
  refine (rwords_any _ _ _ _ _ Ho_8.out Hb_8.out).mono ?_
  rintro ed w9 ⟨rfl, hE9⟩
  rw [sameB_refl]
  have HX9 := Lib.hid (HX8.out.trans hE9)
  have Hb_9 := Lib.hid (Hb_8.out.ext hE9)
  have Ho_9 := Lib.hid (Ho_8.out.ext hE9)
  clear hE9 HX8 Hb_8 Ho_8
  go_wp2_with fail
  clear Ho_9
  clear Hb_9
  refine (pedge_any 196613 _ (by decide)).mono ?_
  rw [H6.out]
  rintro ed w10 ⟨rfl, hE10⟩
  simp only
  have HX10 := Lib.hid (HX9.out.trans hE10)
  clear hE10 HX9
  go_wp2_with fail
  refine (pwithout_to [1, 2, 3] [2] 3 1 (some ⟨w10.heap.size, 0, none⟩) (some ⟨w10.heap.size + 1, 0, none⟩) 3 1 [1, 3] 2 _ ((u32_list w10 [1, 2, 3] _ 3 #[.int .u32 1, .int .u32 2, .int .u32 3] rfl rfl rfl (by decide) (by decide)).ext ((Ext.refl _).alloc _)) rfl (u32_list (w10.alloc (.cells #[.int .u32 1, .int .u32 2, .int .u32 3] 42)) [2] (w10.heap.size + 1) 1 #[.int .u32 2] rfl rfl (by simp) (by decide) (by decide)) rfl (by decide) (by decide) H7.out rfl).mono ?_
  rintro ed w11 ⟨Lw, lw, rfl, hOw, hE11⟩
  have hF11 := (((Ext.refl w10).alloc (.cells #[.int .u32 1, .int .u32 2, .int .u32 3] 42)).alloc (.cells #[.int .u32 2] 42)).trans hE11
  have HX11 := Lib.hid (HX10.out.trans hF11)
  have Hw_11 := Lib.hid (hOw.rd)
  clear hE11 hF11 HX10
  go_wp2_with fail
  refine (rwords_any _ _ _ (zs [1, 3]) _ (Hw_11.out.ext ((Ext.refl _).alloc _)) (u32_list w11 [1, 3] _ 2 #[.int .u32 1, .int .u32 3] rfl rfl rfl (by decide) (by decide))).mono ?_
  rintro ed w12 ⟨rfl, hE12⟩
  rw [show sameB (zs [1, 3]) (zs [1, 3]) = true by decide +kernel]
  have hF12 := ((Ext.refl w11).alloc (.cells #[.int .u32 1, .int .u32 3] 42)).trans hE12
  have HX12 := Lib.hid (HX11.out.trans hF12)
  have Hw_12 := Lib.hid (Hw_11.out.ext hF12)
  clear hE12 hF12 HX11 Hw_11
  go_wp2_with fail
  go_ret
  exact ⟨rfl, HX12.out⟩
end Go.Proofs.YtkpbanfpnilifaaGreat
