/- Lists of handles, two cells each: what reads as one, and what a call has made; a pool in a block of its own. -/
import Derived.Test.YtbkheglogmkbgaaTo
import Derived.Deep.AppendLies
import Derived.Deep.RegionHeld3
import Derived.Deep.RegionLaw
import Derived.Deep.DeepCutAuto
import Derived.WalkSpells
import Derived.Outline
namespace Go.Proofs.Ytbkheglogmkbgaa
open Go.RowKit Go.Proofs.Ytbkheglogmkbgaa.Plain

def hCells (hs : List (Int × Int)) : List Value := hs.flatMap fun h => [.int .i64 h.1, .int .i64 h.2]
theorem hCells_len (hs : List (Int × Int)) : (hCells hs).length = hs.length * 2 := by
  unfold hCells
  induction hs with
  | nil => rfl
  | cons h t ih => simp only [List.flatMap_cons, List.length_append, ih, List.length_cons, List.length_nil]; omega
theorem hCells_app (hs ks : List (Int × Int)) : hCells (hs ++ ks) = hCells hs ++ hCells ks := by simp [hCells]
theorem hCells_fst (hs : List (Int × Int)) (j : Nat) (hj : j < hs.length) : (hCells hs)[j * 2]? = some (.int .i64 (hs.getD j (0, 0)).1) ∧ (hCells hs)[j * 2 + 1]? = some (.int .i64 (hs.getD j (0, 0)).2) := by
  induction hs generalizing j with
  | nil => simp at hj
  | cons h t ih =>
    cases j with
    | zero => exact ⟨rfl, rfl⟩
    | succ j =>
      have := ih j (by simpa using hj)
      have e : hCells (h :: t) = [.int .i64 h.1, .int .i64 h.2] ++ hCells t := rfl
      rw [e]
      constructor
      · rw [List.getElem?_append_right (by simp; omega), show (j + 1) * 2 - [Value.int .i64 h.1, .int .i64 h.2].length = j * 2 by simp; omega]
        simpa using this.1
      · rw [List.getElem?_append_right (by simp; omega), show (j + 1) * 2 + 1 - [Value.int .i64 h.1, .int .i64 h.2].length = j * 2 + 1 by simp; omega]
        simpa using this.2
def bd64 (h : Int × Int) : Prop := (-9223372036854775808 ≤ h.1 ∧ h.1 ≤ 9223372036854775807) ∧ (-9223372036854775808 ≤ h.2 ∧ h.2 ≤ 9223372036854775807)

theorem hInfo : (Try.prog.info? 32).map (fun i => (i.zero, i.size, i.bytes)) = some (some (.agg #[.int .i64 0, .int .i64 0]), 2, 16) := by kernel_rfl

/-- a list of handles that a call has made: it lies in blocks from B on -/
def Hs (B : Nat) (w : World) (v : Value) (hs : List (Int × Int)) : Prop := w.ownsRow B 32 2 v hs.length (hCells hs) ∧ ∀ h ∈ hs, bd64 h
/-- a slice value that reads as these handles -/
def HR (w : World) (v : Value) (hs : List (Int × Int)) : Prop :=
  hs.length ≤ maxLen ∧ (∀ h ∈ hs, bd64 h) ∧ ∃ A cap, v = .slice A hs.length cap ∧ hs.length ≤ cap ∧
    (0 < hs.length → ∃ b off, A = some ⟨b, off, none⟩ ∧ ∀ j, j < hs.length → w.cell? ⟨b, off + j * 2, none⟩ = some (.int .i64 (hs.getD j (0, 0)).1) ∧ w.cell? ⟨b, off + j * 2 + 1, none⟩ = some (.int .i64 (hs.getD j (0, 0)).2))
theorem HR.ext {w W : World} {v : Value} {hs : List (Int × Int)} (h : HR w v hs) (hE : Ext w W) : HR W v hs := by
  obtain ⟨h1, h2, A, cap, rfl, hc, h3⟩ := h
  refine ⟨h1, h2, A, cap, rfl, hc, fun hl => ?_⟩
  obtain ⟨b, off, rfl, hcc⟩ := h3 hl
  exact ⟨b, off, rfl, fun j hj => ⟨hE.cell (hcc j hj).1, hE.cell (hcc j hj).2⟩⟩
theorem HR.cells {w : World} {A : Option Addr} {n c : Nat} {hs : List (Int × Int)} (h : HR w (.slice A n c) hs) (hl : 0 < hs.length) :
    ∃ b off, A = some ⟨b, off, none⟩ ∧ ∀ j, j < hs.length → w.cell? ⟨b, off + j * 2, none⟩ = some (.int .i64 (hs.getD j (0, 0)).1) ∧ w.cell? ⟨b, off + j * 2 + 1, none⟩ = some (.int .i64 (hs.getD j (0, 0)).2) := by
  obtain ⟨_, _, A', c', hv, _, h3⟩ := h
  cases hv
  exact h3 hl
theorem HR.nil (w : World) (A : Option Addr) (c : Nat) : HR w (.slice A 0 c) [] := ⟨by simp, by simp, A, c, rfl, by simp, by simp⟩
theorem HR.slice {w : World} {v : Value} {hs : List (Int × Int)} (h : HR w v hs) : ∃ A c, v = .slice A hs.length c ∧ hs.length ≤ c := by
  obtain ⟨_, _, A, c, rfl, hc, _⟩ := h
  exact ⟨A, c, rfl, hc⟩
theorem HR.bd {w : World} {v : Value} {hs : List (Int × Int)} (h : HR w v hs) (j : Nat) : bd64 (hs.getD j (0, 0)) := by
  rw [List.getD_eq_getElem?_getD]
  by_cases hj : j < hs.length
  · rw [List.getElem?_eq_getElem hj]; exact h.2.1 _ (List.getElem_mem _)
  · rw [List.getElem?_eq_none (by omega)]; simp [bd64]
theorem Hs.len {B : Nat} {w : World} {v : Value} {hs : List (Int × Int)} (h : Hs B w v hs) : hs.length ≤ maxLen := by
  rcases h.1.2 with ⟨_, hx⟩ | ⟨g, cap, cur, hv, hg, hh, hnc, h4, _⟩ <;> omega
theorem Hs.hr {B : Nat} {w : World} {v : Value} {hs : List (Int × Int)} (h : Hs B w v hs) : HR w v hs := by
  have hm := h.len
  obtain ⟨h1, hb⟩ := h
  have hh := h1
  rcases h1.2 with ⟨rfl, hx⟩ | ⟨g, cap, cur, hv, hg, hh', hnc, h4, h5, h6⟩
  · obtain rfl : hs = [] := List.eq_nil_of_length_eq_zero hx
    exact HR.nil w _ _
  · subst hv
    refine ⟨hm, hb, some ⟨g, 0, none⟩, cap, rfl, hnc, fun hl => ⟨g, 0, rfl, fun j hj => ?_⟩⟩
    have := hCells_fst hs j hj
    constructor
    · rw [Nat.zero_add, World.ownsRow.cellAt hh (j * 2) (by omega)]; exact this.1
    · rw [Nat.zero_add, World.ownsRow.cellAt hh (j * 2 + 1) (by omega)]; exact this.2
theorem Hs.lt {B : Nat} {w : World} {v : Value} {hs : List (Int × Int)} (h : Hs B w v hs) : ∀ k, v.ownBlock = some k → B ≤ k ∧ k < w.heap.size := h.1.lt
theorem Hs.ext {B : Nat} {w W : World} {v : Value} {hs : List (Int × Int)} (h : Hs B w v hs) (hE : Ext w W) : Hs B W v hs := by
  obtain ⟨⟨h1, h2⟩, hb⟩ := h
  refine ⟨⟨h1, ?_⟩, hb⟩
  rcases h2 with h2 | ⟨g, cap, cur, hv, hg, hh, hr⟩
  · exact .inl h2
  · have hlt : g < w.heap.size := by
      rcases Nat.lt_or_ge g w.heap.size with hlt | hge
      · exact hlt
      · rw [Array.getElem?_eq_none hge] at hh; cases hh
    exact .inr ⟨g, cap, cur, hv, hg, (Below.block hE g hlt).trans hh, hr⟩
theorem Hs.nil (B : Nat) (w : World) : Hs B w (.slice none 0 0) [] := ⟨World.ownsRow_nil _ _ _ _, by simp⟩
theorem Hs.setOther {B : Nat} {w : World} {v : Value} {hs : List (Int × Int)} (h : Hs B w v hs) {p : Addr} (hp : v.ownBlock ≠ some p.block) (u : Value) : Hs B (w.setCell p u) v hs := by
  obtain ⟨⟨h1, h2⟩, hb⟩ := h
  refine ⟨⟨h1, ?_⟩, hb⟩
  rcases h2 with h2 | ⟨g, cap, cur, rfl, hg, hh, hr⟩
  · exact .inl h2
  · exact .inr ⟨g, cap, cur, rfl, hg, (Below.heap_setCell _ _ _ _ (fun e => hp (by simp [Value.ownBlock, e]))).trans hh, hr⟩
theorem Hs.setBelow {B : Nat} {w : World} {v : Value} {hs : List (Int × Int)} (h : Hs B w v hs) {p : Addr} (hp : p.block < B) (u : Value) : Hs B (w.setCell p u) v hs :=
  h.setOther (fun e => by have := (h.lt _ e).1; omega) u
theorem HR.setNot {w : World} {v : Value} {hs : List (Int × Int)} (h : HR w v hs) {p : Addr} {u : Value} (hc : w.cell? p = some u) (hu : ∀ k n, u ≠ .int k n) (x : Value) : HR (w.setCell p x) v hs := by
  obtain ⟨h1, h2, A, cap, rfl, hcap, h3⟩ := h
  refine ⟨h1, h2, A, cap, rfl, hcap, fun hl => ?_⟩
  obtain ⟨b, off, rfl, hcc⟩ := h3 hl
  refine ⟨b, off, rfl, fun j hj => ⟨?_, ?_⟩⟩
  · rw [World.cell?_setCell_other _ _ _ _ (fun e => by subst e; rw [(hcc j hj).1] at hc; cases hc; exact hu _ _ rfl)]
    exact (hcc j hj).1
  · rw [World.cell?_setCell_other _ _ _ _ (fun e => by subst e; rw [(hcc j hj).2] at hc; cases hc; exact hu _ _ rfl)]
    exact (hcc j hj).2

/-- the cells of handles, at their address -/
theorem HR.at_ {w : World} {ad : Addr} {n c : Nat} {hs : List (Int × Int)} (h : HR w (.slice (some ad) n c) hs) : ∀ j u, (hCells hs)[j]? = some u → w.cell? (ad.add j) = some u := by
  intro j u hu
  have hj : j < hs.length * 2 := by
    rw [← hCells_len]
    rcases Nat.lt_or_ge j (hCells hs).length with hlt | hge
    · exact hlt
    · rw [List.getElem?_eq_none hge] at hu; cases hu
  obtain ⟨b, off, he, hcc⟩ := h.cells (by omega)
  cases he
  have e : (⟨b, off, none⟩ : Addr).add j = ⟨b, off + j, none⟩ := by
    by_cases h0 : j = 0
    · subst h0; rfl
    · simp [Addr.add, h0]
  rw [e]
  have h2 := hCells_fst hs (j / 2) (by omega)
  have h3 := hcc (j / 2) (by omega)
  by_cases hp : j % 2 = 0
  · rw [show j = j / 2 * 2 by omega] at hu ⊢
    rw [h2.1] at hu
    cases hu
    exact h3.1
  · rw [show j = j / 2 * 2 + 1 by omega] at hu ⊢
    rw [h2.2] at hu
    cases hu
    exact h3.2

theorem run_happ (w : World) (B : Nat) (v : Value) (hs : List (Int × Int)) (hown : Hs B w v hs) (y : Value) (ks : List (Int × Int)) (hy : HR w y ks) (hl : hs.length + ks.length ≤ 1048576) (hB : B ≤ w.heap.size) :
    ∃ v' w', (Builtin.append_ #[30, 30] 30 #[v, y]).run Try.prog w = .ok v' w' ∧ Hs B w' v' (hs ++ ks) ∧ w.grownBy w' v.ownBlock ∧ (v'.ownBlock = v.ownBlock ∨ v'.ownBlock = some w.heap.size) := by
  have hy' := hy
  obtain ⟨hm, hb, A, cap, rfl, hcap, hc⟩ := hy
  obtain ⟨i0, hi, hz0, hz1, hz2⟩ := info_parts hInfo
  rcases A with _ | ad
  · have h0 : ks = [] := by
      cases ks with
      | nil => rfl
      | cons a l => obtain ⟨b, off, h, _⟩ := hc (by simp); cases h
    subst h0
    have hr : (Builtin.append_ #[30, 30] 30 #[v, .slice none 0 cap]).run Try.prog w = .ok v w := by
      rcases hown.1.2 with ⟨rfl, _⟩ | ⟨g, cap', cur, rfl, _, _, hnc, _⟩
      · simp [Builtin.append_, run_underlying Try.underlying30, sizeOf, typeInfo, hi, Builtin.lenOf, Builtin.firstCells]
      · simp [Builtin.append_, run_underlying Try.underlying30, sizeOf, typeInfo, hi, Builtin.lenOf, Builtin.firstCells, hnc, storeCells]
    exact ⟨v, w, hr, by simpa using hown, World.grownBy.refl w _, .inl rfl⟩
  · obtain ⟨v', w', hr, h2, h3, _, h5⟩ := run_append_own_at (P := Try.prog) w B 30 30 32 i0 (.agg #[.int .i64 0, .int .i64 0]) 2 16 Try.underlying30 hi hz0 hz1 hz2 rfl (by decide) v hs.length _ hown.1 ad ks.length cap (hCells ks) (hCells_len ks) hy'.at_
      (by intro u hu; obtain ⟨z, _, hz⟩ := List.mem_flatMap.1 hu; simp only [List.mem_cons, List.not_mem_nil, or_false] at hz; rcases hz with rfl | rfl <;> rfl) (by unfold maxLen; omega) (by omega) hB
    exact ⟨v', w', hr, ⟨by simpa [hCells_app] using h2, by
      intro n hn
      rcases List.mem_append.1 hn with h | h
      · exact hown.2 n h
      · exact hb n h⟩, h3, h5⟩

theorem wp_happ {o : Oper} {a : Act} {w : World} {K : Act → World → Prop} {Q : Exit → Act → World → Prop} (s x : Operand)
    (ho : o.op = .call { callee := .builtin .append, args := #[s, x], argTypes := #[30, 30] }) (hty : o.type = 30)
    (B : Nat) (v : Value) (hs : List (Int × Int)) (h1 : a.eval s = v) (hown : Hs B w v hs) (y : Value) (ks : List (Int × Int)) (hx : a.eval x = y) (hy : HR w y ks) (hl : hs.length + ks.length ≤ 1048576) (hB : B ≤ w.heap.size)
    (h : ∀ v' w', Hs B w' v' (hs ++ ks) → w.grownBy w' v.ownBlock → (v'.ownBlock = v.ownBlock ∨ v'.ownBlock = some w.heap.size) → K (a.put o.dst v') w') : o.wp Try.prog a w K Q := by
  obtain ⟨v', w', hr, h2, h3, h4⟩ := run_happ w B v hs hown y ks hy hl hB
  unfold Oper.wp execOp
  simp only [ho, hty, resolve, invoke, builtin, Sem.run_bind, Sem.run_pure, Result.andThen_ok, List.map_toArray, List.map_cons, List.map_nil, h1, hx, hr]
  exact h v' w' h2 h3 h4
theorem wpList_happ {ops : Array Oper} {rest : List Oper} {o : Oper} {a : Act} {w : World} {Q : Exit → Act → World → Prop} (hw : Region.wanted o (yielded ops a.tmps) = true) (s x : Operand)
    (ho : o.op = .call { callee := .builtin .append, args := #[s, x], argTypes := #[30, 30] }) (hty : o.type = 30)
    (B : Nat) (v : Value) (hs : List (Int × Int)) (h1 : a.eval s = v) (hown : Hs B w v hs) (y : Value) (ks : List (Int × Int)) (hx : a.eval x = y) (hy : HR w y ks) (hl : hs.length + ks.length ≤ 1048576) (hB : B ≤ w.heap.size)
    (h : ∀ v' w', Hs B w' v' (hs ++ ks) → w.grownBy w' v.ownBlock → (v'.ownBlock = v.ownBlock ∨ v'.ownBlock = some w.heap.size) → wpList Try.prog ops Q rest (a.put o.dst v') w') : wpList Try.prog ops Q (o :: rest) a w :=
  wpList_step fun _ hK => by
    rw [if_pos hw]
    exact wp_happ s x ho hty B v hs h1 hown y ks hx hy hl hB fun v' w' h2 h3 h4 => hK _ _ (h v' w' h2 h3 h4)
theorem step_happ {ops : Array Oper} {o : Oper} {a : Act} {w : World} {K : Act → World → Prop} {Q : Exit → Act → World → Prop} {E : Prop} (hw : Region.wanted o (yielded ops a.tmps) = true) (s x : Operand)
    (ho : o.op = .call { callee := .builtin .append, args := #[s, x], argTypes := #[30, 30] }) (hty : o.type = 30)
    (B : Nat) (v : Value) (hs : List (Int × Int)) (h1 : a.eval s = v) (hown : Hs B w v hs) (y : Value) (ks : List (Int × Int)) (hx : a.eval x = y) (hy : HR w y ks) (hl : hs.length + ks.length ≤ 1048576) (hB : B ≤ w.heap.size)
    (h : ∀ v' w', Hs B w' v' (hs ++ ks) → w.grownBy w' v.ownBlock → (v'.ownBlock = v.ownBlock ∨ v'.ownBlock = some w.heap.size) → K (a.put o.dst v') w') :
    if Region.wanted o (yielded ops a.tmps) = true then Oper.wp Try.prog o a w K Q else E := by
  rw [if_pos hw]
  exact wp_happ s x ho hty B v hs h1 hown y ks hx hy hl hB h
/-- one handle, laid in a block of its own -/
theorem HR.one (w : World) (p : Nat) (x y : Int) (c : Nat) (hp : p = w.heap.size) (hc : 1 ≤ c) (hx : bd64 (x, y)) :
    HR (w.alloc (.cells #[.int .i64 x, .int .i64 y] 32)) (.slice (some ⟨p, 0, none⟩) 1 c) [(x, y)] := by
  subst hp
  refine ⟨by simp [maxLen], by simpa using hx, _, c, rfl, hc, fun _ => ⟨w.heap.size, 0, rfl, fun j hj => ?_⟩⟩
  obtain rfl : j = 0 := by simp at hj; omega
  constructor <;> simp
end Go.Proofs.Ytbkheglogmkbgaa
