/- Joined by wip/merge.py: Row, Data, Kinds, Grew, Mono, RowM, Num, LwI, T13R, LwJ, RowZ, T13L. -/
import Derived.Test.YtllpfegnpakadaaJ1
import Derived.Laws.MakeOwn
import Derived.Deep.AppendSrc
import Derived.Deep.RegionLaw
import Derived.Lib.SliceRun
import Derived.Lib.AppendZeros
import Derived.Deep.QuietTactic
import Derived.BigQuiet
import Derived.Deep.CutBlock
set_option linter.unusedVariables false
set_option linter.unusedSimpArgs false
set_option linter.unnecessarySimpa false
/- Lists of elements of any kind (integers of a kind, bools, structs of one-cell fields): what reads as one, and what a call has made; append, for any of them. -/
namespace Go.Proofs.Ytllpfegnpakadaa
open Go.RowKit

/-- a kind of elements: their types, cells, bounds -/
structure Kd (α : Type) where
  t : TypeId
  e : TypeId
  n : Nat
  cells : α → List Value
  ok : α → Prop
  d : α
  z : Value
  bytes : Nat
  ht : Try.prog.underlying t = some (.slice e)
  info : (Try.prog.info? e).map (fun i => (i.zero, i.size, i.bytes)) = some (some z, n, bytes)
  hzs : z.cells.size = n
  pos : 0 < n
  small : bytes ≤ 256
  len : ∀ a, (cells a).length = n
  one : ∀ a, ∀ u ∈ cells a, u.oneCell' = true

section
variable {α : Type} (K : Kd α)

def Kd.flat (xs : List α) : List Value := xs.flatMap K.cells
theorem Kd.flat_len (xs : List α) : (K.flat xs).length = xs.length * K.n := by
  unfold Kd.flat
  induction xs with
  | nil => simp
  | cons h t ih => rw [List.flatMap_cons, List.length_append, ih, K.len, List.length_cons, Nat.add_mul, Nat.one_mul, Nat.add_comm]
theorem Kd.flat_app (xs ys : List α) : K.flat (xs ++ ys) = K.flat xs ++ K.flat ys := by simp [Kd.flat]
theorem Kd.flat_at (xs : List α) (j i : Nat) (hj : j < xs.length) (hi : i < K.n) : (K.flat xs)[j * K.n + i]? = (K.cells (xs.getD j K.d))[i]? := by
  induction xs generalizing j with
  | nil => simp at hj
  | cons h t ih =>
    have e : K.flat (h :: t) = K.cells h ++ K.flat t := by simp [Kd.flat]
    cases j with
    | zero => rw [e, Nat.zero_mul, Nat.zero_add, List.getElem?_append_left (by rw [K.len]; exact hi)]; rfl
    | succ j =>
      have := ih j (by simpa using hj)
      rw [e, List.getElem?_append_right (by rw [K.len, Nat.add_mul, Nat.one_mul]; omega), K.len, show (j + 1) * K.n + i - K.n = j * K.n + i by rw [Nat.add_mul, Nat.one_mul]; omega, this]
      rfl
theorem Kd.flat_mem {xs : List α} {u : Value} (h : u ∈ K.flat xs) : u.oneCell' = true := by
  obtain ⟨a, _, ha⟩ := List.mem_flatMap.1 h
  exact K.one a u ha
/-- a place in the cells: of which element, which cell of it -/
theorem Kd.split (j m : Nat) (h : j < m * K.n) : j / K.n < m ∧ j % K.n < K.n ∧ j = j / K.n * K.n + j % K.n := by
  have hp := K.pos
  refine ⟨Nat.div_lt_of_lt_mul (by rw [Nat.mul_comm]; exact h), Nat.mod_lt _ hp, ?_⟩
  rw [Nat.mul_comm]
  exact (Nat.div_add_mod j K.n).symm

/-- a slice value that reads as these -/
def Rd (w : World) (v : Value) (xs : List α) : Prop :=
  xs.length ≤ maxLen ∧ (∀ x ∈ xs, K.ok x) ∧ ∃ A cap, v = .slice A xs.length cap ∧ xs.length ≤ cap ∧
    (0 < xs.length → ∃ b off, A = some ⟨b, off, none⟩ ∧ ∀ j, j < xs.length → ∀ i u, (K.cells (xs.getD j K.d))[i]? = some u → w.cell? ⟨b, off + j * K.n + i, none⟩ = some u)
/-- a list that a call has made: it lies in blocks from B on -/
def Ow (B : Nat) (w : World) (v : Value) (xs : List α) : Prop := w.ownsRow B K.e K.n v xs.length (K.flat xs) ∧ ∀ x ∈ xs, K.ok x

variable {K}
theorem Rd.ext {w W : World} {v : Value} {xs : List α} (h : Rd K w v xs) (hE : Ext w W) : Rd K W v xs := by
  obtain ⟨h1, h2, A, cap, rfl, hc, h3⟩ := h
  refine ⟨h1, h2, A, cap, rfl, hc, fun hl => ?_⟩
  obtain ⟨b, off, rfl, hcc⟩ := h3 hl
  exact ⟨b, off, rfl, fun j hj i u hu => hE.cell (hcc j hj i u hu)⟩
theorem Rd.cells {w : World} {A : Option Addr} {n c : Nat} {xs : List α} (h : Rd K w (.slice A n c) xs) (hl : 0 < xs.length) :
    ∃ b off, A = some ⟨b, off, none⟩ ∧ ∀ j, j < xs.length → ∀ i u, (K.cells (xs.getD j K.d))[i]? = some u → w.cell? ⟨b, off + j * K.n + i, none⟩ = some u := by
  obtain ⟨_, _, A', c', hv, _, h3⟩ := h
  cases hv
  exact h3 hl
theorem Rd.nil (w : World) (A : Option Addr) (c : Nat) : Rd K w (.slice A 0 c) [] := ⟨by simp, by simp, A, c, rfl, by simp, by simp⟩
theorem Rd.slice {w : World} {v : Value} {xs : List α} (h : Rd K w v xs) : ∃ A c, v = .slice A xs.length c ∧ xs.length ≤ c := by
  obtain ⟨_, _, A, c, rfl, hc, _⟩ := h
  exact ⟨A, c, rfl, hc⟩
theorem Rd.okAt {w : World} {v : Value} {xs : List α} (h : Rd K w v xs) (j : Nat) (hj : j < xs.length) : K.ok (xs.getD j K.d) := by
  rw [List.getD_eq_getElem?_getD, List.getElem?_eq_getElem hj]; exact h.2.1 _ (List.getElem_mem _)
theorem Rd.len {w : World} {v : Value} {xs : List α} (h : Rd K w v xs) : xs.length ≤ 9223372036854775807 := by have := h.1; unfold maxLen at this; omega
theorem getDk_take (d : α) (l : List α) (k j : Nat) (h : j < k) : (l.take k).getD j d = l.getD j d := by
  simp [List.getD_eq_getElem?_getD, List.getElem?_take_of_lt h]
theorem getDk_drop (d : α) (l : List α) (k j : Nat) : (l.drop k).getD j d = l.getD (k + j) d := by
  simp [List.getD_eq_getElem?_getD, List.getElem?_drop]
theorem Rd.take {w : World} {A : Option Addr} {n c : Nat} {xs : List α} (h : Rd K w (.slice A n c) xs) (k c' : Nat) (hk : k ≤ xs.length) (hc : k ≤ c') : Rd K w (.slice A k c') (xs.take k) := by
  obtain ⟨h1, h2, A', cap, hv, hcap, h3⟩ := h
  cases hv
  have hl : (xs.take k).length = k := by rw [List.length_take]; omega
  refine ⟨by rw [hl]; omega, fun n hn => h2 n (List.mem_of_mem_take hn), A, c', by rw [hl], by omega, fun hp => ?_⟩
  rw [hl] at hp
  obtain ⟨b, off, rfl, hcc⟩ := h3 (by omega)
  refine ⟨b, off, rfl, fun j hj i u hu => ?_⟩
  rw [hl] at hj
  rw [getDk_take _ _ _ _ hj] at hu
  exact hcc j (by omega) i u hu
theorem Rd.drop {w : World} {b off n c : Nat} {xs : List α} (h : Rd K w (.slice (some ⟨b, off, none⟩) n c) xs) (k m c' : Nat) (hm : m = xs.length - k) (hc : m ≤ c') : Rd K w (.slice (some ⟨b, off + k * K.n, none⟩) m c') (xs.drop k) := by
  obtain ⟨h1, h2, A', cap, hv, hcap, h3⟩ := h
  cases hv
  have hl : (xs.drop k).length = m := by rw [List.length_drop]; omega
  refine ⟨by rw [hl]; omega, fun n hn => h2 n (List.mem_of_mem_drop hn), _, c', by rw [hl], by omega, fun hp => ?_⟩
  obtain ⟨b', off', he, hcc⟩ := h3 (by omega)
  cases he
  refine ⟨b, off + k * K.n, rfl, fun j hj i u hu => ?_⟩
  rw [hl] at hj
  rw [getDk_drop] at hu
  have := hcc (k + j) (by omega) i u hu
  rw [Nat.add_mul] at this
  rw [show off + k * K.n + j * K.n + i = off + (k * K.n + j * K.n) + i by omega]
  exact this
theorem add_atk (b off j : Nat) : (⟨b, off, none⟩ : Addr).add j = ⟨b, off + j, none⟩ := by
  by_cases h0 : j = 0
  · subst h0; rfl
  · simp [Addr.add, h0]
/-- .. as the walk writes it, where the address is open -/
theorem Rd.dropAdd {w : World} {ad : Addr} {n c : Nat} {xs : List α} (h : Rd K w (.slice (some ad) n c) xs) (k s m c' : Nat) (hs : s = k * K.n) (hm : m = xs.length - k) (hc : m ≤ c') : Rd K w (.slice (some (ad.add s)) m c') (xs.drop k) := by
  subst hs
  by_cases h0 : xs.drop k = []
  · have : m = 0 := by have := congrArg List.length h0; rw [List.length_drop] at this; simp at this; omega
    subst this
    rw [h0]
    exact Rd.nil _ _ _
  · have hl : 0 < xs.length := by
      cases xs with
      | nil => simp at h0
      | cons a l => simp
    obtain ⟨b, off, he, _⟩ := h.cells hl
    cases he
    rw [add_atk]
    exact h.drop k m c' hm hc
/-- the cells, at their address -/
theorem Rd.at_ {w : World} {ad : Addr} {n c : Nat} {xs : List α} (h : Rd K w (.slice (some ad) n c) xs) : ∀ j u, (K.flat xs)[j]? = some u → w.cell? (ad.add j) = some u := by
  intro j u hu
  have hj : j < xs.length * K.n := by
    rw [← K.flat_len]
    rcases Nat.lt_or_ge j (K.flat xs).length with hlt | hge
    · exact hlt
    · rw [List.getElem?_eq_none hge] at hu; cases hu
  obtain ⟨h1, h2, h3⟩ := K.split j xs.length hj
  obtain ⟨b, off, he, hcc⟩ := h.cells (Nat.lt_of_le_of_lt (Nat.zero_le _) h1)
  cases he
  rw [add_atk]
  rw [h3, K.flat_at xs _ _ h1 h2] at hu
  have := hcc _ h1 _ u hu
  rw [show off + j = off + j / K.n * K.n + j % K.n by omega]
  exact this
theorem Rd.grown {w w' : World} {A : Option Addr} {n c : Nat} {xs : List α} {row : Option Nat} (h : Rd K w (.slice A n c) xs) (hg : w.grownBy w' row) (hne : ∀ a, A = some a → some a.block ≠ row) : Rd K w' (.slice A n c) xs := by
  obtain ⟨h1, h2, A', cap, hv, hcap, h3⟩ := h
  cases hv
  refine ⟨h1, h2, A, c, rfl, hcap, fun hl => ?_⟩
  obtain ⟨b, off, rfl, hcc⟩ := h3 hl
  exact ⟨b, off, rfl, fun j hj i u hu => hg.cell (hcc j hj i u hu) (hne ⟨b, off, none⟩ rfl)⟩

theorem Ow.len {B : Nat} {w : World} {v : Value} {xs : List α} (h : Ow K B w v xs) : xs.length ≤ maxLen := by
  rcases h.1.2 with ⟨_, hx⟩ | ⟨g, cap, cur, hv, hg, hh, hnc, h4, _⟩ <;> omega
theorem Ow.lt {B : Nat} {w : World} {v : Value} {xs : List α} (h : Ow K B w v xs) : ∀ k, v.ownBlock = some k → B ≤ k ∧ k < w.heap.size := h.1.lt
theorem mul_at {n m j i : Nat} (hj : j < m) (hi : i < n) : j * n + i < m * n := by
  have : (j + 1) * n ≤ m * n := Nat.mul_le_mul_right _ hj
  rw [Nat.add_mul, Nat.one_mul] at this
  omega
theorem Ow.rd {B : Nat} {w : World} {v : Value} {xs : List α} (h : Ow K B w v xs) : Rd K w v xs := by
  have hm := h.len
  obtain ⟨h1, hb⟩ := h
  have hh := h1
  rcases h1.2 with ⟨rfl, hx⟩ | ⟨g, cap, cur, hv, hg, hh', hnc, h4, h5, h6⟩
  · obtain rfl : xs = [] := List.eq_nil_of_length_eq_zero hx
    exact Rd.nil w _ _
  · subst hv
    refine ⟨hm, hb, some ⟨g, 0, none⟩, cap, rfl, hnc, fun hl => ⟨g, 0, rfl, fun j hj i u hu => ?_⟩⟩
    have hi : i < K.n := by
      rw [← K.len (xs.getD j K.d)]
      rcases Nat.lt_or_ge i (K.cells (xs.getD j K.d)).length with hlt | hge
      · exact hlt
      · rw [List.getElem?_eq_none hge] at hu; cases hu
    rw [Nat.zero_add, World.ownsRow.cellAt hh _ (mul_at hj hi), K.flat_at xs j i hj hi]
    exact hu
theorem Ow.slice {B : Nat} {w : World} {v : Value} {xs : List α} (h : Ow K B w v xs) : ∃ A c, v = .slice A xs.length c ∧ xs.length ≤ c := h.rd.slice
theorem Ow.ext {B : Nat} {w W : World} {v : Value} {xs : List α} (h : Ow K B w v xs) (hE : Ext w W) : Ow K B W v xs := by
  obtain ⟨⟨h1, h2⟩, hb⟩ := h
  refine ⟨⟨h1, ?_⟩, hb⟩
  rcases h2 with h2 | ⟨g, cap, cur, hv, hg, hh, hr⟩
  · exact .inl h2
  · have hlt : g < w.heap.size := by
      rcases Nat.lt_or_ge g w.heap.size with hlt | hge
      · exact hlt
      · rw [Array.getElem?_eq_none hge] at hh; cases hh
    exact .inr ⟨g, cap, cur, hv, hg, (Below.block hE g hlt).trans hh, hr⟩
theorem Ow.nil (B : Nat) (w : World) : Ow K B w (.slice none 0 0) [] := ⟨World.ownsRow_nil _ _ _ _, by simp⟩
/-- a literal, in a block of its own -/
theorem Ow.lit (w : World) (xs : List α) {B p n : Nat} (cs : Array Value) (hcs : cs.toList = K.flat xs) (hn : xs.length = n) (hp : p = w.heap.size) (hB : B ≤ p) (hm : n ≤ maxLen) (hok : ∀ x ∈ xs, K.ok x) :
    Ow K B (w.alloc (.cells cs K.e)) (.slice (some ⟨p, 0, none⟩) n n) xs := by
  subst hp hn
  have h := World.ownsRow_lit (e := K.e) (size := K.n) w cs xs.length hB hm (by rw [← Array.length_toList, hcs, K.flat_len])
  rw [hcs] at h
  exact ⟨h, hok⟩
theorem Ow.mono {B B' : Nat} {w : World} {v : Value} {xs : List α} (h : Ow K B w v xs) (hB : B' ≤ B) : Ow K B' w v xs := by
  obtain ⟨⟨h1, h2⟩, hb⟩ := h
  refine ⟨⟨h1, ?_⟩, hb⟩
  rcases h2 with h2 | ⟨g, cap, cur, hv, hg, hr⟩
  · exact .inl h2
  · exact .inr ⟨g, cap, cur, hv, by omega, hr⟩
theorem Ow.kept {B : Nat} {w w' : World} {v : Value} {xs : List α} {row : Option Nat} (h : Ow K B w v xs) (hg : w.grownBy w' row) (hne : v.ownBlock = none ∨ v.ownBlock ≠ row) : Ow K B w' v xs := ⟨h.1.kept hg hne, h.2⟩
theorem Ow.setOther {B : Nat} {w : World} {v : Value} {xs : List α} (h : Ow K B w v xs) {p : Addr} (hp : v.ownBlock ≠ some p.block) (u : Value) : Ow K B (w.setCell p u) v xs := by
  obtain ⟨⟨h1, h2⟩, hb⟩ := h
  refine ⟨⟨h1, ?_⟩, hb⟩
  rcases h2 with h2 | ⟨g, cap, cur, rfl, hg, hh, hr⟩
  · exact .inl h2
  · exact .inr ⟨g, cap, cur, rfl, hg, (Below.heap_setCell _ _ _ _ (fun e => hp (by simp [Value.ownBlock, e]))).trans hh, hr⟩
theorem Ow.setBelow {B : Nat} {w : World} {v : Value} {xs : List α} (h : Ow K B w v xs) {p : Addr} (hp : p.block < B) (u : Value) : Ow K B (w.setCell p u) v xs :=
  h.setOther (fun e => by have := (h.lt _ e).1; omega) u
theorem Ow.from {B n c : Nat} {A : Option Addr} {w : World} {xs : List α} (h : Ow K B w (.slice A n c) xs) : From B A := fun a ha => by
  subst ha
  rcases h.1.2 with ⟨h0, _⟩ | ⟨g, cap, cur, hv, hg, _⟩
  · cases h0
  · cases hv; exact hg
/-- one that isn't empty, with its block -/
theorem Ow.pos {B : Nat} {w : World} {A : Option Addr} {n c : Nat} {xs : List α} (h : Ow K B w (.slice A n c) xs) (hl : 0 < xs.length) :
    ∃ g, A = some ⟨g, 0, none⟩ ∧ B ≤ g ∧ g < w.heap.size ∧ (∀ j, j < xs.length → ∀ i u, (K.cells (xs.getD j K.d))[i]? = some u → w.cell? ⟨g, j * K.n + i, none⟩ = some u) ∧ ∀ j, w.frozen? ⟨g, j, none⟩ = false := by
  have hr := h.rd
  obtain ⟨h1, hb⟩ := h
  have hh := h1
  rcases h1.2 with ⟨_, hx⟩ | ⟨g, cap, cur, hv, hg, hh', hnc, h4, h5, h6⟩
  · omega
  · cases hv
    obtain ⟨b, off, he, hcc⟩ := hr.cells hl
    cases he
    exact ⟨g, rfl, hg, (hh.lt g rfl).2, fun j hj i u hu => by have := hcc j hj i u hu; rw [Nat.zero_add] at this; exact this, fun j => World.ownsRow.frozenAt hh j⟩
theorem Kd.flat_set (K : Kd α) (xs : List α) (j i : Nat) (hj : j < xs.length) (hi : i < K.n) (x : α) (u : Value) (hx : K.cells x = (K.cells (xs.getD j K.d)).set i u) : (K.flat xs).set (j * K.n + i) u = K.flat (xs.set j x) := by
  induction xs generalizing j with
  | nil => simp at hj
  | cons h t ih =>
    have e : ∀ a, K.flat (a :: t) = K.cells a ++ K.flat t := fun a => by simp [Kd.flat]
    cases j with
    | zero =>
      rw [Nat.zero_mul, Nat.zero_add, List.set_cons_zero, e, e, hx, List.set_append_left _ _ (by rw [K.len]; exact hi)]
      rfl
    | succ j =>
      have := ih j (by simpa using hj) (by simpa using hx)
      have e2 : K.flat (h :: t.set j x) = K.cells h ++ K.flat (t.set j x) := by simp [Kd.flat]
      rw [List.set_cons_succ, e, e2, List.set_append_right _ _ (by rw [K.len, Nat.add_mul, Nat.one_mul]; omega), K.len, show (j + 1) * K.n + i - K.n = j * K.n + i by rw [Nat.add_mul, Nat.one_mul]; omega, this]
/-- a cell of an element is stored -/
theorem Ow.set {B g n c : Nat} {w : World} {xs : List α} (h : Ow K B w (.slice (some ⟨g, 0, none⟩) n c) xs) {j i : Nat} (hj : j < xs.length) (hi : i < K.n) {x : α} {u : Value} (hx : K.cells x = (K.cells (xs.getD j K.d)).set i u) (hok : K.ok x) :
    Ow K B (w.setCell ⟨g, j * K.n + i, none⟩ u) (.slice (some ⟨g, 0, none⟩) n c) (xs.set j x) := by
  have hh := h.1
  have hn : n = xs.length := by
    rcases hh.2 with ⟨h0, _⟩ | ⟨g', cap, cur, hv, _⟩
    · cases h0
    · cases hv; rfl
  subst hn
  refine ⟨?_, fun y hy => ?_⟩
  · rw [List.length_set, ← K.flat_set xs j i hj hi x u hx]
    exact (World.ownsRow.stored hh (j * K.n + i) u).1
  · rcases List.mem_or_eq_of_mem_set hy with h' | h'
    · exact h.2 y h'
    · subst h'; exact hok
theorem Ow.take {B : Nat} {w : World} {A : Option Addr} {n c : Nat} {xs : List α} (h : Ow K B w (.slice A n c) xs) (k : Nat) (hk : k ≤ xs.length) (h0 : 0 < xs.length) : Ow K B w (.slice A k c) (xs.take k) := by
  obtain ⟨⟨h1, h2⟩, hb⟩ := h
  have hl : (xs.take k).length = k := by simp; omega
  have hf : K.flat (xs.take k) = (K.flat xs).take (k * K.n) := by
    have e : K.flat xs = K.flat (xs.take k) ++ K.flat (xs.drop k) := by rw [← K.flat_app, List.take_append_drop]
    rw [e, List.take_left' (by rw [K.flat_len, hl])]
  refine ⟨⟨by rw [K.flat_len], ?_⟩, fun n hn => hb n (List.mem_of_mem_take hn)⟩
  rw [hl]
  rcases h2 with ⟨_, h2⟩ | ⟨g, cap, cur, hv, hg, hh, hnc, hcm, hcs, ht⟩
  · omega
  · cases hv
    refine .inr ⟨g, _, cur, rfl, hg, hh, by omega, hcm, hcs, ?_⟩
    rw [hf, ← ht, List.take_take, Nat.min_eq_left (Nat.mul_le_mul_right _ hk)]
/-- two lists of a call's own, of two kinds: not one block -/
theorem Ow.far {β : Type} {K' : Kd β} (hne : K.e ≠ K'.e) {B B' : Nat} {w : World} {v u : Value} {xs : List α} {ys : List β} (h : Ow K B w v xs) (h' : Ow K' B' w u ys) : ∀ k, v.ownBlock = some k → u.ownBlock ≠ some k := by
  intro k hk hk'
  rcases h.1.2 with ⟨rfl, _⟩ | ⟨g, cap, cur, rfl, _, hh, _⟩
  · simp [Value.ownBlock] at hk
  · rcases h'.1.2 with ⟨rfl, _⟩ | ⟨g', cap', cur', rfl, _, hh', _⟩
    · simp [Value.ownBlock] at hk'
    · simp only [Value.ownBlock, Option.some.injEq] at hk hk'
      subst hk
      subst hk'
      rw [hh] at hh'
      simp at hh'
      exact hne hh'.2

theorem Kd.run_app (K : Kd α) (w : World) (B : Nat) (v : Value) (xs : List α) (hown : Ow K B w v xs) (y : Value) (ys : List α) (hy : Rd K w y ys) (hl : xs.length + ys.length ≤ 1048576) (hB : B ≤ w.heap.size) :
    ∃ v' w', (Builtin.append_ #[K.t, K.t] K.t #[v, y]).run Try.prog w = .ok v' w' ∧ Ow K B w' v' (xs ++ ys) ∧ w.grownBy w' v.ownBlock ∧ (v'.ownBlock = v.ownBlock ∨ v'.ownBlock = some w.heap.size) := by
  have hy' := hy
  obtain ⟨i0, hi, hz0, hz1, hz2⟩ := info_parts K.info
  obtain ⟨hm, hb, A, cap, rfl, hcap, hc⟩ := hy
  rcases A with _ | ad
  · have h0 : ys = [] := by
      cases ys with
      | nil => rfl
      | cons a l => obtain ⟨b, off, h, _⟩ := hc (by simp); cases h
    subst h0
    have hr : (Builtin.append_ #[K.t, K.t] K.t #[v, .slice none 0 cap]).run Try.prog w = .ok v w := by
      rcases hown.1.2 with ⟨rfl, _⟩ | ⟨g, cap', cur, rfl, _, _, hnc, _⟩
      · simp [Builtin.append_, run_underlying K.ht, sizeOf, typeInfo, hi, Builtin.lenOf, Builtin.firstCells]
      · simp [Builtin.append_, run_underlying K.ht, sizeOf, typeInfo, hi, Builtin.lenOf, Builtin.firstCells, hnc, storeCells]
    exact ⟨v, w, hr, by simpa using hown, World.grownBy.refl w _, .inl rfl⟩
  · have hsm := K.small
    obtain ⟨v', w', hr, h2, h3, _, h5⟩ := run_append_own_at (P := Try.prog) w B K.t K.t K.e i0 K.z K.n K.bytes K.ht hi hz0 hz1 hz2 K.hzs K.pos v xs.length _ hown.1 ad ys.length cap (K.flat ys) (K.flat_len ys) hy'.at_
      (fun u hu => K.flat_mem hu) (by unfold maxLen; omega) (Nat.le_trans (Nat.mul_le_mul hl hsm) (by omega)) hB
    exact ⟨v', w', hr, ⟨by rw [List.length_append, K.flat_app]; exact h2, by
      intro n hn
      rcases List.mem_append.1 hn with h | h
      · exact hown.2 n h
      · exact hb n h⟩, h3, h5⟩
theorem Kd.wp_app (K : Kd α) {o : Oper} {a : Act} {w : World} {C : Act → World → Prop} {Q : Exit → Act → World → Prop} (s x : Operand)
    (ho : o.op = .call { callee := .builtin .append, args := #[s, x], argTypes := #[K.t, K.t] }) (hty : o.type = K.t)
    (B : Nat) (v : Value) (xs : List α) (h1 : a.eval s = v) (hown : Ow K B w v xs) (y : Value) (ys : List α) (hx : a.eval x = y) (hy : Rd K w y ys) (hl : xs.length + ys.length ≤ 1048576) (hB : B ≤ w.heap.size)
    (h : ∀ v' w', Ow K B w' v' (xs ++ ys) → w.grownBy w' v.ownBlock → (v'.ownBlock = v.ownBlock ∨ v'.ownBlock = some w.heap.size) → C (a.put o.dst v') w') : o.wp Try.prog a w C Q := by
  obtain ⟨v', w', hr, h2, h3, h4⟩ := K.run_app w B v xs hown y ys hy hl hB
  unfold Oper.wp execOp
  simp only [ho, hty, resolve, invoke, builtin, Sem.run_bind, Sem.run_pure, Result.andThen_ok, List.map_toArray, List.map_cons, List.map_nil, h1, hx, hr]
  exact h v' w' h2 h3 h4
/-- append, as the walk meets it: 'at_builtin; refine K.wpList_app (by rfl) (.tmp _) (.tmp _) (by rfl) (by rfl) BASE _ xs (by rfl) hown _ ys (by rfl) hy hl hB ?_; intro v' w' hown' hgrow' hat'' -/
theorem Kd.wpList_app (K : Kd α) {ops : Array Oper} {rest : List Oper} {o : Oper} {a : Act} {w : World} {Q : Exit → Act → World → Prop} (hw : Region.wanted o (yielded ops a.tmps) = true) (s x : Operand)
    (ho : o.op = .call { callee := .builtin .append, args := #[s, x], argTypes := #[K.t, K.t] }) (hty : o.type = K.t)
    (B : Nat) (v : Value) (xs : List α) (h1 : a.eval s = v) (hown : Ow K B w v xs) (y : Value) (ys : List α) (hx : a.eval x = y) (hy : Rd K w y ys) (hl : xs.length + ys.length ≤ 1048576) (hB : B ≤ w.heap.size)
    (h : ∀ v' w', Ow K B w' v' (xs ++ ys) → w.grownBy w' v.ownBlock → (v'.ownBlock = v.ownBlock ∨ v'.ownBlock = some w.heap.size) → wpList Try.prog ops Q rest (a.put o.dst v') w') : wpList Try.prog ops Q (o :: rest) a w :=
  wpList_step fun _ hK => by
    rw [if_pos hw]
    exact K.wp_app s x ho hty B v xs h1 hown y ys hx hy hl hB fun v' w' h2 h3 h4 => hK _ _ (h v' w' h2 h3 h4)
/-- append in a region whose order is open (an arm of 'go_region_held3', 'go_region_law') -/
theorem Kd.step_app (K : Kd α) {ops : Array Oper} {o : Oper} {a : Act} {w : World} {C : Act → World → Prop} {Q : Exit → Act → World → Prop} {E : Prop} (hw : Region.wanted o (yielded ops a.tmps) = true) (s x : Operand)
    (ho : o.op = .call { callee := .builtin .append, args := #[s, x], argTypes := #[K.t, K.t] }) (hty : o.type = K.t)
    (B : Nat) (v : Value) (xs : List α) (h1 : a.eval s = v) (hown : Ow K B w v xs) (y : Value) (ys : List α) (hx : a.eval x = y) (hy : Rd K w y ys) (hl : xs.length + ys.length ≤ 1048576) (hB : B ≤ w.heap.size)
    (h : ∀ v' w', Ow K B w' v' (xs ++ ys) → w.grownBy w' v.ownBlock → (v'.ownBlock = v.ownBlock ∨ v'.ownBlock = some w.heap.size) → C (a.put o.dst v') w') :
    if Region.wanted o (yielded ops a.tmps) = true then Oper.wp Try.prog o a w C Q else E := by
  rw [if_pos hw]
  exact K.wp_app s x ho hty B v xs h1 hown y ys hx hy hl hB h
theorem Kd.made (K : Kd α) (o : α) (ho : K.cells o = K.z.cells.toList) (n : Nat) : (madeCells K.z.cells (n * K.n)).toList = K.flat (List.replicate n o) := by
  apply List.ext_getElem?
  intro m
  by_cases hm : m < n * K.n
  · obtain ⟨h1, h2, h3⟩ := K.split m n hm
    have h4 := K.flat_at (List.replicate n o) (m / K.n) (m % K.n) (by rw [List.length_replicate]; exact h1) h2
    rw [← h3] at h4
    rw [h4, List.getD_eq_getElem?_getD, List.getElem?_replicate, if_pos h1, Option.getD_some, ho]
    have hz := K.hzs
    unfold madeCells
    rw [Array.toList_map, Array.toList_range, List.getElem?_map, List.getElem?_range hm, Option.map_some, hz, Array.getElem?_toList]
    rw [getElem!_pos K.z.cells (m % K.n) (by rw [hz]; exact h2), Array.getElem?_eq_getElem (by rw [hz]; exact h2)]
  · rw [List.getElem?_eq_none (by rw [Array.length_toList, size_madeCells]; omega), List.getElem?_eq_none (by rw [K.flat_len, List.length_replicate]; omega)]
/-- make([]T, n): lay what it gives ahead of the walk ('obtain ⟨C, hmk, hown⟩ := K.make ..') -/
theorem Kd.make (K : Kd α) (o : α) (ho : K.cells o = K.z.cells.toList) (hok : K.ok o) (n : Nat) (hn : n ≤ 1048576) :
    ∃ C : Array Value, (∀ w : World, (Instr.makeSlice K.t (.int .i64 n) (.int .i64 n)).run Try.prog w = .ok (.slice (some ⟨w.heap.size, 0, none⟩) n n) (w.alloc (.cells C K.e))) ∧
      ∀ (w : World) (B p : Nat), p = w.heap.size → B ≤ p → Ow K B (w.alloc (.cells C K.e)) (.slice (some ⟨p, 0, none⟩) n n) (List.replicate n o) := by
  refine ⟨madeCells K.z.cells (n * K.n), fun w => ?_, fun w B p hp hB => Ow.lit w _ _ (K.made o ho n) (by simp) hp hB (by unfold maxLen; omega) (fun x hx => by rw [List.mem_replicate] at hx; rw [hx.2]; exact hok)⟩
  obtain ⟨i0, hi, hz0, hz1, hz2⟩ := info_parts K.info
  have hsm := K.small
  have hb : K.bytes * n ≤ 256 * 1048576 := Nat.mul_le_mul hsm hn
  have h := run_make (P := Try.prog) w K.t K.e i0 K.z K.ht hi hz0 .i64 .i64 n n (by omega) (by omega) (by rw [hz2, ← Int.natCast_mul]; omega) (by omega)
  simp only [Int.toNat_natCast, hz1] at h
  exact h
end
end Go.Proofs.Ytllpfegnpakadaa

/- The plain data of the layers. No program in it. -/
namespace Go.Proofs.Ytllpfegnpakadaa
/-- a task: from where, up to where, whom it belongs to, for how many it waits -/
structure Tk where
  lo : Int
  hi : Int
  up : Int
  wt : Int
instance : DecidableEq Tk := fun a b => decidable_of_iff (a.lo = b.lo ∧ a.hi = b.hi ∧ a.up = b.up ∧ a.wt = b.wt) (by cases a; cases b; simp)
end Go.Proofs.Ytllpfegnpakadaa

/- The kinds of elements of this program, and their cells as the walk spells them. -/
namespace Go.Proofs.Ytllpfegnpakadaa
open Go.RowKit

def in64 (x : Int) : Prop := -9223372036854775808 ≤ x ∧ x ≤ 9223372036854775807
/-- integers -/
def kInt : Kd Int where
  t := 22
  e := 3
  n := 1
  cells := fun x => [.int .i64 x]
  ok := in64
  d := 0
  z := .int .i64 0
  bytes := 8
  ht := Try.underlying22
  info := intInfo
  hzs := rfl
  pos := by decide
  small := by decide
  len := fun _ => rfl
  one := fun a u hu => by simp at hu; subst hu; rfl
end Go.Proofs.Ytllpfegnpakadaa

/- Worlds that grew, but for the blocks of a set; lists that read the same whatever becomes of these blocks. -/
namespace Go.Proofs.Ytllpfegnpakadaa
open Go.RowKit

/-- the other world has all blocks as they were, but those of S -/
structure Grew (S : Nat → Prop) (w W : World) : Prop where
  os : W.os = w.os
  tape : W.tape = w.tape
  output : W.output = w.output
  size : w.heap.size ≤ W.heap.size
  block : ∀ b, b < w.heap.size → ¬ S b → W.heap[b]? = w.heap[b]?
theorem Grew.refl (S : Nat → Prop) (w : World) : Grew S w w := ⟨rfl, rfl, rfl, Nat.le_refl _, fun _ _ _ => rfl⟩
theorem Grew.of {S : Nat → Prop} {w W : World} (h : Ext w W) : Grew S w W := ⟨h.os, h.tape, h.output, h.size, fun b hb _ => h.block b hb⟩
theorem Grew.trans {S : Nat → Prop} {a b c : World} (h : Grew S a b) (k : Grew S b c) : Grew S a c :=
  ⟨k.os.trans h.os, k.tape.trans h.tape, k.output.trans h.output, Nat.le_trans h.size k.size, fun i hi hS => (k.block i (Nat.lt_of_lt_of_le hi h.size) hS).trans (h.block i hi hS)⟩
theorem Grew.ext {S : Nat → Prop} {a b c : World} (h : Grew S a b) (k : Ext b c) : Grew S a c := h.trans (Grew.of k)
theorem Grew.alloc {S : Nat → Prop} {w W : World} (h : Grew S w W) (o : Obj) : Grew S w (W.alloc o) := h.ext ((Ext.refl _).alloc _)
theorem Grew.drew {S : Nat → Prop} {w W : World} (h : Grew S w W) : Grew S w W.drew := h.ext (Ext.refl _).drew
theorem Grew.drewN {S : Nat → Prop} {w W : World} (h : Grew S w W) (n : Nat) : Grew S w (W.drewN n) := h.ext ((Ext.refl _).drewN n)
theorem Grew.setCell {S : Nat → Prop} {w W : World} (h : Grew S w W) {p : Addr} (hp : S p.block) (u : Value) : Grew S w (W.setCell p u) :=
  ⟨h.os, h.tape, h.output, by rw [World.size_setCell]; exact h.size, fun b hb hS => (Below.heap_setCell _ _ _ _ (fun e => hS (by first | exact e ▸ hp | (rw [e]; exact hp) | (rw [← e]; exact hp)))).trans (h.block b hb hS)⟩
theorem Grew.mono {S T : Nat → Prop} {w W : World} (h : Grew S w W) (hS : ∀ b, b < w.heap.size → S b → T b) : Grew T w W :=
  ⟨h.os, h.tape, h.output, h.size, fun b hb hT => h.block b hb (fun hs => hT (hS b hb hs))⟩
theorem Grew.cell {S : Nat → Prop} {w W : World} (h : Grew S w W) {b o : Nat} {v : Value} (hc : w.cell? ⟨b, o, none⟩ = some v) (hS : ¬ S b) : W.cell? ⟨b, o, none⟩ = some v := by
  have hb := h.block b (World.block_lt_of_cell? _ _ hc) hS
  rw [← hc]
  simp only [World.cell?, hb]
theorem Grew.frozen {S : Nat → Prop} {w W : World} (h : Grew S w W) {b : Nat} (hb : b < w.heap.size) (hS : ¬ S b) (o : Nat) : W.frozen? ⟨b, o, none⟩ = w.frozen? ⟨b, o, none⟩ := by
  have hb := h.block b hb hS
  simp only [World.frozen?, hb]
/-- a list that reads as these whatever becomes of the blocks of S -/
def RdO {α : Type} (K : Kd α) (S : Nat → Prop) (w : World) (v : Value) (xs : List α) : Prop := ∀ W, Grew S w W → Rd K W v xs
theorem RdO.rd {α : Type} {K : Kd α} {S : Nat → Prop} {w : World} {v : Value} {xs : List α} (h : RdO K S w v xs) : Rd K w v xs := h w (Grew.refl S w)
theorem RdO.grew {α : Type} {K : Kd α} {S : Nat → Prop} {w W : World} {v : Value} {xs : List α} (h : RdO K S w v xs) (hG : Grew S w W) : RdO K S W v xs := fun W' hW => h W' (hG.trans hW)
theorem RdO.ext {α : Type} {K : Kd α} {S : Nat → Prop} {w W : World} {v : Value} {xs : List α} (h : RdO K S w v xs) (hE : Ext w W) : RdO K S W v xs := h.grew (Grew.of hE)
theorem RdO.setCell {α : Type} {K : Kd α} {S : Nat → Prop} {w : World} {v : Value} {xs : List α} (h : RdO K S w v xs) {p : Addr} (hp : S p.block) (u : Value) : RdO K S (w.setCell p u) v xs := h.grew ((Grew.refl S w).setCell hp u)
/-- of fewer blocks -/
theorem RdO.mono {α : Type} {K : Kd α} {S T : Nat → Prop} {w : World} {v : Value} {xs : List α} (h : RdO K S w v xs) (hT : ∀ b, b < w.heap.size → T b → S b) : RdO K T w v xs := fun W hW => h W (hW.mono hT)
theorem Rd.off {α : Type} {K : Kd α} {S : Nat → Prop} {w : World} {A : Option Addr} {n c : Nat} {xs : List α} (h : Rd K w (.slice A n c) xs) (hS : ∀ a, A = some a → ¬ S a.block) : RdO K S w (.slice A n c) xs := by
  intro W hW
  obtain ⟨h1, h2, A', cap, hv, hcap, h3⟩ := h
  cases hv
  refine ⟨h1, h2, A, c, rfl, hcap, fun hl => ?_⟩
  obtain ⟨b, off, rfl, hcc⟩ := h3 hl
  exact ⟨b, off, rfl, fun j hj i u hu => hW.cell (hcc j hj i u hu) (hS _ rfl)⟩
theorem RdO.nil {α : Type} {K : Kd α} (S : Nat → Prop) (w : World) (A : Option Addr) (c : Nat) : RdO K S w (.slice A 0 c) [] := fun W _ => Rd.nil W A c
theorem ints_of_rd {w : World} {v : Value} {xs : List Int} (h : Rd kInt w v xs) : Ints w v xs := by
  obtain ⟨h1, h2, A, cap, rfl, hc, h3⟩ := h
  refine ⟨h1, h2, A, cap, rfl, hc, fun hl => ?_⟩
  obtain ⟨b, off, rfl, hcc⟩ := h3 hl
  exact ⟨b, off, rfl, fun j hj => by have := hcc j hj 0 _ rfl; simpa [kInt] using this⟩
end Go.Proofs.Ytllpfegnpakadaa

/- A region whose order is open and whose operations, but a tail in one order, leave all that was there as it was: what each of them leaves is said once, whatever the order. -/
namespace Go.Proofs.Ytllpfegnpakadaa.Mono
open Go.RowKit Go.Proofs.Ytllpfegnpakadaa

/-- what an operation waits for -/
def deps (l : List Oper) (i : Nat) : List Nat :=
  match l[i]? with
  | some o => (o.after.toList.filter (fun e => Region.binds .any e)).map (·.on)
  | none => []
/-- .. and what these wait for -/
def clo (l : List Oper) : Nat → Nat → List Nat
  | 0, _ => []
  | n + 1, i => deps l i ++ (deps l i).flatMap (clo l n)

def isSelect : Op → Bool
  | .select _ _ => true
  | _ => false

/-- i waits for j, at once or by way of one or two others -/
def nearB (l : List Oper) (i j : Nat) : Bool := (deps l i).contains j || (deps l i).any (fun k => (deps l k).contains j || (deps l k).any fun q => (deps l q).contains j)
theorem near_cases {l : List Oper} {i j : Nat} (h : nearB l i j = true) : j ∈ deps l i ∨ ∃ k ∈ deps l i, j ∈ deps l k ∨ ∃ q ∈ deps l k, j ∈ deps l q := by
  unfold nearB at h
  simp only [Bool.or_eq_true, List.any_eq_true, List.contains_iff_mem] at h
  exact h
def okAt (l : List Oper) (m i : Nat) : Bool :=
  match l[i]? with
  | none => true
  | some o => (deps l i).all (fun j => decide (j < i)) && !(isSelect o.op) &&
      (!(decide (i < m)) || (List.range m).all (fun j => (deps l i).contains j || (match (l[j]?).bind (·.dst) with | some d => !(o.looksAt l.toArray).contains d | none => true))) &&
      (!(decide (i < m)) || (List.range m).all (fun j => j == i || (match (l[j]?).bind (·.dst) with | some d => o.dst != some d | none => true))) &&
      (decide (i < m) || (List.range i).all (fun j => nearB l i j))
def monoB (l : List Oper) (m : Nat) : Bool := decide (m ≤ l.length) && (List.range l.length).all (okAt l m)

/-- the frame behind all of them -/
def all (vals : Nat → Value) : List Oper → Nat → Act → Act
  | [], _, a => a
  | o :: r, k, a => all vals r (k + 1) (a.put o.dst (vals k))
/-- .. behind those that have come up -/
def sel (listed : Array Bool) (vals : Nat → Value) : List Oper → Nat → Act → Act
  | [], _, a => a
  | o :: r, k, a => sel listed vals r (k + 1) (if listed.getD k false = true then a.put o.dst (vals k) else a)
def uns (listed : Array Bool) (vals : Nat → Value) : List Oper → Nat → Act → Act
  | [], _, a => a
  | o :: r, k, a => uns listed vals r (k + 1) (if listed.getD k false = true then a else a.put o.dst (vals k))
def upd (vals : Nat → Value) (i : Nat) (v : Value) : Nat → Value := fun j => if j = i then v else vals j

theorem sel_put {listed : Array Bool} {vals : Nat → Value} {x : Option Tmp} {v : Value} : ∀ (r : List Oper) (k : Nat) (a : Act), (∀ o ∈ r, ∀ d, x = some d → o.dst ≠ some d) →
    sel listed vals r k (a.put x v) = (sel listed vals r k a).put x v
  | [], _, _, _ => rfl
  | o :: r, k, a, h => by
    simp only [sel]
    split
    · rw [Act.put_comm a v (vals k) (h o (by simp))]
      exact sel_put r (k + 1) _ (fun o ho => h o (by simp [ho]))
    · exact sel_put r (k + 1) _ (fun o ho => h o (by simp [ho]))

theorem sel_congr {listed listed' : Array Bool} {vals vals' : Nat → Value} : ∀ (r : List Oper) (k : Nat) (a : Act), (∀ j, k ≤ j → listed.getD j false = listed'.getD j false ∧ vals j = vals' j) →
    sel listed vals r k a = sel listed' vals' r k a
  | [], _, _, _ => rfl
  | o :: r, k, a, h => by
    simp only [sel]
    rw [(h k (Nat.le_refl _)).1, (h k (Nat.le_refl _)).2]
    exact sel_congr r (k + 1) _ (fun j hj => h j (by omega))

theorem set_getD {listed : Array Bool} {i j : Nat} (hi : i < listed.size) : (listed.setIfInBounds i true).getD j false = if j = i then true else listed.getD j false := by
  by_cases h : j = i
  · subst h; simp [hi]
  · rw [if_neg h, getD_set_ne false (Ne.symm h)]

theorem sel_set {listed : Array Bool} {vals : Nat → Value} {i : Nat} {v : Value} {oi : Oper} (hi : i < listed.size) (hun : listed.getD i false = false) :
    ∀ (r : List Oper) (k : Nat) (a : Act), k ≤ i → r[i - k]? = some oi → (∀ (p q : Nat) (op oq : Oper), p < q → r[p]? = some op → r[q]? = some oq → ∀ d, op.dst = some d → oq.dst ≠ some d) →
      sel (listed.setIfInBounds i true) (upd vals i v) r k a = (sel listed vals r k a).put oi.dst v
  | [], k, a, _, ho, _ => by simp at ho
  | o :: r, k, a, hk, ho, hd => by
    simp only [sel]
    by_cases hki : k = i
    · subst hki
      simp at ho
      subst ho
      rw [set_getD hi, if_pos rfl, if_pos rfl, hun]
      simp only [upd, if_true, Bool.false_eq_true, if_false]
      rw [sel_congr (listed' := listed) (vals' := vals) r (k + 1) _ (fun j hj => ⟨by rw [set_getD hi, if_neg (by omega)], by simp [upd]; omega⟩)]
      refine sel_put r (k + 1) a (fun o' ho' d hd' => ?_)
      obtain ⟨q, hq⟩ := List.getElem?_of_mem ho'
      exact hd 0 (q + 1) o o' (by omega) (by simp) (by simpa using hq) d hd'
    · rw [set_getD hi, if_neg hki]
      have hv : upd vals i v k = vals k := by simp [upd, hki]
      rw [hv]
      refine sel_set hi hun r (k + 1) _ (by omega) (by rw [show i - k = (i - (k + 1)) + 1 from by omega] at ho; simpa using ho) (fun p q op oq hpq hp hq => hd (p + 1) (q + 1) op oq (by omega) (by simpa using hp) (by simpa using hq))

theorem all_eq {listed : Array Bool} {vals : Nat → Value} : ∀ (r : List Oper) (k : Nat) (a : Act), (∀ (p q : Nat) (op oq : Oper), p < q → r[p]? = some op → r[q]? = some oq → ∀ d, op.dst = some d → oq.dst ≠ some d) →
    all vals r k a = uns listed vals r k (sel listed vals r k a)
  | [], _, _, _ => rfl
  | o :: r, k, a, hd => by
    have hd' : ∀ (p q : Nat) (op oq : Oper), p < q → r[p]? = some op → r[q]? = some oq → ∀ d, op.dst = some d → oq.dst ≠ some d := fun p q op oq hpq hp hq => hd (p + 1) (q + 1) op oq (by omega) (by simpa using hp) (by simpa using hq)
    simp only [all, sel, uns]
    rw [all_eq (listed := listed) r (k + 1) _ hd']
    split
    · rfl
    · rw [sel_put r (k + 1) a (fun o' ho' d hd2 => by
        obtain ⟨q, hq⟩ := List.getElem?_of_mem ho'
        exact hd 0 (q + 1) o o' (by omega) (by simp) (by simpa using hq) d hd2)]

theorem uns_same {ops : Array Oper} {listed : Array Bool} {vals : Nat → Value} {x : Oper} (hs : ∀ cs b, x.op ≠ .select cs b) : ∀ (r : List Oper) (k : Nat) (a : Act),
    (∀ j o, r[j]? = some o → listed.getD (k + j) false = false → ∀ d, o.dst = some d → d ∉ x.looksAt ops) →
    execOp (uns listed vals r k a).eval x = execOp a.eval x ∧ Region.wanted x (yielded ops (uns listed vals r k a).tmps) = Region.wanted x (yielded ops a.tmps)
  | [], _, _, _ => ⟨rfl, rfl⟩
  | o :: r, k, a, h => by
    have h' : ∀ j o', r[j]? = some o' → listed.getD (k + 1 + j) false = false → ∀ d, o'.dst = some d → d ∉ x.looksAt ops := fun j o' hj hl => h (j + 1) o' (by simpa using hj) (by rw [show k + (j + 1) = k + 1 + j from by omega]; exact hl)
    simp only [uns]
    split
    · exact uns_same hs r (k + 1) a h'
    · rename_i hun
      have hl := h 0 o (by simp) (by simpa using hun)
      have := uns_same (vals := vals) hs r (k + 1) (a.put o.dst (vals k)) h'
      exact ⟨this.1.trans (execOp_put x hs a o.dst (vals k) hl), this.2.trans (wanted_put x a o.dst (vals k) hl)⟩

/-- what comes of an operation: a value, in a world -/
def YieldsAt (P : Program) (R : Value → World → Prop) : Result Next → Prop
  | .ok (.value v) w => R v w
  | .ok .skip w => R undef w
  | .ok (.enter f args) w => Calls P f args w fun e w' => ∃ v, e = .returned v ∧ R v w'
  | _ => False

/-- .. closed to the walk -/
structure Yields (P : Program) (R : Value → World → Prop) (r : Result Next) : Prop where
  out : YieldsAt P R r

theorem wp_of_yields {P : Program} {o : Oper} {a : Act} {w : World} {K : Act → World → Prop} {Q : Exit → Act → World → Prop} {R : Value → World → Prop} (h : Yields P R ((execOp a.eval o).run P w))
    (hK : ∀ v w', R v w' → K (a.put o.dst v) w') : o.wp P a w K Q := by
  obtain ⟨h⟩ := h
  unfold Oper.wp
  generalize (execOp a.eval o).run P w = r at *
  cases r with
  | ok n w' =>
    cases n <;> simp only [YieldsAt] at h <;> simp only [Oper.upon]
    case value u => exact hK _ _ h
    case skip => exact hK _ _ h
    case enter f args => exact h.mono fun e w'' ⟨v, he, hv⟩ => by subst he; exact hK _ _ hv
  | halt x w' => simp only [YieldsAt] at h

theorem yields_same {P : Program} {R : Value → World → Prop} {r : Result Next} (c : Value) (w : World) (h : r = .ok (.value c) w) (hR : R c w) : Yields P R r := by rw [h]; exact ⟨hR⟩
theorem yields_call {P : Program} {R : Value → World → Prop} {r : Result Next} (f : FuncId) (args : Array Value) (w : World) (h : r = .ok (.enter f args) w) (hR : Calls P f args w fun e w' => ∃ v, e = .returned v ∧ R v w') : Yields P R r := by rw [h]; exact ⟨hR⟩
theorem wanted_none {o : Oper} {f : Nat → Option Bool} (h : o.guard = none) : Region.wanted o f = true := by simp [Region.wanted, h]
section
variable {P : Program} {l : List Oper} {m : Nat} {Q : Exit → Act → World → Prop} {a0 : Act} {w0 : World} {V : Nat → World → List Value → Value → Prop}

def Inv (P : Program) (l : List Oper) (m : Nat) (Q : Exit → Act → World → Prop) (a0 : Act) (w0 : World) (V : Nat → World → List Value → Value → Prop) (listed : Array Bool) (a : Act) (w : World) : Prop :=
  listed.size = l.length ∧
  ((∃ vals : Nat → Value, Ext w0 w ∧ (∀ j, m ≤ j → listed.getD j false = false) ∧ (∀ i, listed.getD i false = true → ∀ j ∈ deps l i, listed.getD j false = true) ∧
      (∀ i, i < m → listed.getD i false = true → V i w ((deps l i).map vals) (vals i)) ∧ a = sel listed vals (l.take m) 0 a0) ∨
   (∃ k, m ≤ k ∧ k ≤ l.length ∧ (∀ j, j < l.length → (listed.getD j false = true ↔ j < k)) ∧ wpList P l.toArray Q (l.drop k) a w))

theorem ok_parts (hB : monoB l m = true) {i : Nat} {o : Oper} (ho : l[i]? = some o) :
    (∀ j ∈ deps l i, j < i) ∧ (∀ cs b, o.op ≠ .select cs b) ∧ (i < m → ∀ j oj, j < m → l[j]? = some oj → j ∉ deps l i → ∀ d, oj.dst = some d → d ∉ o.looksAt l.toArray) ∧
      (i < m → ∀ j oj, j < m → j ≠ i → l[j]? = some oj → ∀ d, oj.dst = some d → o.dst ≠ some d) ∧ (m ≤ i → ∀ j, j < i → nearB l i j = true) := by
  have hi : i < l.length := by
    rcases Nat.lt_or_ge i l.length with h | h
    · exact h
    · rw [List.getElem?_eq_none h] at ho; cases ho
  unfold monoB at hB
  simp only [Bool.and_eq_true, List.all_eq_true, List.mem_range] at hB
  have h := hB.2 i hi
  unfold okAt at h
  rw [ho] at h
  simp only [Bool.and_eq_true, Bool.or_eq_true, List.all_eq_true, List.mem_range, decide_eq_true_eq, Bool.not_eq_true', decide_eq_false_iff_not] at h
  obtain ⟨⟨⟨⟨h1, h2⟩, h3⟩, h4⟩, h5⟩ := h
  refine ⟨h1, fun cs b e => by rw [e] at h2; simp [isSelect] at h2, fun him j oj hj hoj hnd d hd => ?_, fun him j oj hj hji hoj d hd e => ?_, fun him j hj => ?_⟩
  · rcases h3 with h3 | h3
    · omega
    · have := h3 j hj
      rw [hoj] at this
      simp only [Option.bind_some, hd] at this
      rcases this with h | h
      · exact absurd (by simpa using h) hnd
      · simpa using h
  · rcases h4 with h4 | h4
    · omega
    · have := h4 j hj
      rw [hoj] at this
      simp only [Option.bind_some, hd] at this
      rcases this with h | h
      · simp at h; exact hji h
      · rw [e] at h; simp at h
  · rcases h5 with h5 | h5
    · omega
    · exact h5 j hj

theorem deps_lt (hB : monoB l m = true) {i j : Nat} (hj : j ∈ deps l i) : j < i := by
  cases ho : l[i]? with
  | none => unfold deps at hj; rw [ho] at hj; cases hj
  | some o => exact (ok_parts hB ho).1 j hj
theorem near_listed {listed : Array Bool} (hdc : ∀ i, listed.getD i false = true → ∀ j ∈ deps l i, listed.getD j false = true) {i j : Nat} (hdl : ∀ j ∈ deps l i, listed.getD j false = true) (h : nearB l i j = true) : listed.getD j false = true := by
  rcases near_cases h with h | ⟨k, hk, h | ⟨q, hq, h⟩⟩
  · exact hdl j h
  · exact hdc k (hdl k hk) j h
  · exact hdc q (hdc k (hdl k hk) q hq) j h
theorem near_tail (hB : monoB l m = true) {listed : Array Bool} {i k : Nat} (hk : k < l.length) (hi : i ≤ l.length) (hiff : ∀ j, j < l.length → (listed.getD j false = true ↔ j < k)) (hdl : ∀ j ∈ deps l i, listed.getD j false = true) (h : nearB l i k = true) : False := by
  have hlt : ∀ j, j ∈ deps l i → j < k := fun j hj => (hiff j (by have := deps_lt hB hj; omega)).1 (hdl j hj)
  rcases near_cases h with h | ⟨k', hk', h | ⟨q, hq, h⟩⟩
  · exact absurd (hlt k h) (by omega)
  · have := hlt k' hk'; have := deps_lt hB h; omega
  · have := hlt k' hk'; have := deps_lt hB hq; have := deps_lt hB h; omega

theorem distinct (hB : monoB l m = true) : ∀ (p q : Nat) (op oq : Oper), p < q → (l.take m)[p]? = some op → (l.take m)[q]? = some oq → ∀ d, op.dst = some d → oq.dst ≠ some d := by
  intro p q op oq hpq hp hq d hd
  rw [List.getElem?_take] at hp hq
  split at hp <;> rename_i hpm
  · split at hq <;> rename_i hqm
    · exact (ok_parts hB hq).2.2.2.1 hqm p op hpm (by omega) hp d hd
    · cases hq
  · cases hp

theorem deps_mem {i : Nat} {o : Oper} (ho : l[i]? = some o) {j : Nat} (hj : j ∈ deps l i) : ∃ e ∈ o.after, Region.binds .any e = true ∧ e.on = j := by
  unfold deps at hj
  rw [ho] at hj
  simp only [List.mem_map, List.mem_filter, Array.mem_toList_iff] at hj
  obtain ⟨e, ⟨h1, h2⟩, h3⟩ := hj
  exact ⟨e, h1, h2, h3⟩

theorem clo_listed {listed : Array Bool} (hdc : ∀ i, listed.getD i false = true → ∀ j ∈ deps l i, listed.getD j false = true) : ∀ (n i : Nat), (∀ j ∈ deps l i, listed.getD j false = true) → ∀ j ∈ clo l n i, listed.getD j false = true
  | 0, _, _, j, hj => by simp [clo] at hj
  | n + 1, i, h, j, hj => by
    simp only [clo, List.mem_append, List.mem_flatMap] at hj
    rcases hj with hj | ⟨k, hk, hj⟩
    · exact h j hj
    · exact clo_listed hdc n k (hdc k (h k hk)) j hj

theorem sel_all {listed : Array Bool} {vals : Nat → Value} : ∀ (r : List Oper) (k : Nat) (a : Act), (∀ j, k ≤ j → j < k + r.length → listed.getD j false = true) → sel listed vals r k a = all vals r k a
  | [], _, _, _ => rfl
  | o :: r, k, a, h => by
    simp only [sel, all]
    rw [if_pos (h k (Nat.le_refl _) (by simp))]
    exact sel_all r (k + 1) _ (fun j h1 h2 => h j (by omega) (by simp; omega))

theorem all_listed (hB : monoB l m = true) {listed : Array Bool} (hsz : listed.size = l.length) (hr : Region.ready .any l.toArray listed = []) : ∀ i, i < l.length → listed.getD i false = true := by
  intro i
  induction i using Nat.strongRecOn with
  | _ i ih =>
    intro hi
    cases hl : listed.getD i false with
    | true => rfl
    | false =>
      have ho : l[i]? = some l[i] := List.getElem?_eq_getElem hi
      have hm : i ∈ Region.ready .any l.toArray listed := by
        rw [mem_ready]
        refine ⟨?_, l[i], by simp, fun e he hb => ?_⟩
        · rw [← hl]; simp [show i < listed.size by omega]
        · have hd : e.on ∈ deps l i := by
            unfold deps
            rw [ho]
            simp only [List.mem_map, List.mem_filter, Array.mem_toList_iff]
            exact ⟨e, ⟨he, hb⟩, rfl⟩
          have := (ok_parts hB ho).1 _ hd
          exact ih _ this (by omega)
      rw [hr] at hm
      cases hm

theorem wpOp_list {o : Oper} {i : Nat} {rest : List Oper} {a : Act} {w : World} (ho : l[i]? = some o) (h : wpList P l.toArray Q (o :: rest) a w) : wpOp P l.toArray Q i (wpList P l.toArray Q rest) a w := by
  unfold wpOp
  have : l.toArray[i]? = some o := by simpa using ho
  rw [this]
  exact h

theorem step (hB : monoB l m = true) (hst : ∀ i w w' d v, V i w d v → Ext w w' → V i w' d v)
    (hop : ∀ i o, i < m → l[i]? = some o → ∀ (vals : Nat → Value) (w : World), Ext w0 w → (∀ j, (deps l i).contains j = true → V j w ((deps l j).map vals) (vals j)) →
      if Region.wanted o (yielded l.toArray (all vals (l.take m) 0 a0).tmps) = true
      then Yields P (fun v w' => Ext w w' ∧ V i w' ((deps l i).map vals) v) ((execOp (all vals (l.take m) 0 a0).eval o).run P w)
      else V i w ((deps l i).map vals) undef)
    (hend : ∀ (vals : Nat → Value) (w : World), Ext w0 w → (∀ j, j < m → V j w ((deps l j).map vals) (vals j)) → wpList P l.toArray Q (l.drop m) (all vals (l.take m) 0 a0) w)
    (listed : Array Bool) (a : Act) (w : World) (i : Nat) (hI : Inv P l m Q a0 w0 V listed a w) (hi : i ∈ Region.ready .any l.toArray listed) :
    wpOp P l.toArray Q i (Inv P l m Q a0 w0 V (listed.setIfInBounds i true)) a w := by
  obtain ⟨hsz, hI⟩ := hI
  obtain ⟨hun, o, ho', hall⟩ := mem_ready.1 hi
  have ho : l[i]? = some o := by simpa using ho'
  have hil : i < l.length := by
    rcases Nat.lt_or_ge i l.length with h | h
    · exact h
    · rw [List.getElem?_eq_none h] at ho; cases ho
  have hsi : i < listed.size := by omega
  have hunf : listed.getD i false = false := by
    rw [← hun]; simp [hsi]
  obtain ⟨k1, k2, k3, k4, k5⟩ := ok_parts hB ho
  have hdl : ∀ j ∈ deps l i, listed.getD j false = true := fun j hj => by
    obtain ⟨e, he, hb, rfl⟩ := deps_mem ho hj
    exact hall e he hb
  have hml : m ≤ l.length := by
    unfold monoB at hB
    simp only [Bool.and_eq_true, decide_eq_true_eq] at hB
    exact hB.1
  have hdrop : ∀ k, l[k]? = some o → l.drop k = o :: l.drop (k + 1) := fun k hk => by
    have hkl : k < l.length := by
      rcases Nat.lt_or_ge k l.length with h | h
      · exact h
      · rw [List.getElem?_eq_none h] at hk; cases hk
    rw [List.drop_eq_getElem_cons hkl]
    rw [List.getElem?_eq_getElem hkl] at hk
    cases hk; rfl
  rcases hI with ⟨vals, hE, htail, hdc, hV, ha⟩ | ⟨k, hmk, hkl, hiff, hw⟩
  · rcases Nat.lt_or_ge i m with him | him
    · have hcl := clo_listed hdc l.length i hdl
      have hjm : ∀ j, listed.getD j false = true → j < m := fun j hj => by
        rcases Nat.lt_or_ge j m with h | h
        · exact h
        · rw [htail j h] at hj; cases hj
      have hob := hop i o him ho vals w hE (fun j hj => hV j (hjm j (hdl j (by simpa using hj))) (hdl j (by simpa using hj)))
      have hsame := uns_same (ops := l.toArray) (listed := listed) (vals := vals) (x := o) k2 (l.take m) 0 a (fun j oj hj hlj d hd => by
        rw [List.getElem?_take] at hj
        split at hj
        · rename_i hjm'
          exact k3 him j oj hjm' hj (fun hmem => by have := hdl j hmem; rw [Nat.zero_add] at hlj; rw [hlj] at this; cases this) d hd
        · cases hj)
      rw [ha, ← all_eq (l.take m) 0 a0 (distinct hB)] at hsame
      rw [hsame.2, hsame.1, ← ha] at hob
      have hnew : ∀ v w', Ext w w' → V i w' ((deps l i).map vals) v → Inv P l m Q a0 w0 V (listed.setIfInBounds i true) (a.put o.dst v) w' := by
        intro v w' hE' hVi
        refine ⟨by simpa using hsz, .inl ⟨upd vals i v, hE.trans hE', fun j hj => ?_, fun i' hi' j hj => ?_, fun i' him' hi' => ?_, ?_⟩⟩
        · rw [set_getD hsi, if_neg (by omega)]; exact htail j hj
        · rw [set_getD hsi] at hi' ⊢
          by_cases e : i' = i
          · subst e
            split
            · rfl
            · exact hdl j hj
          · rw [if_neg e] at hi'
            split
            · rfl
            · exact hdc i' hi' j hj
        · rw [set_getD hsi] at hi'
          by_cases e : i' = i
          · subst e
            have : (deps l i').map (upd vals i' v) = (deps l i').map vals := List.map_congr_left fun j hj => by
              have := k1 j hj
              simp [upd]; omega
            rw [this]
            simpa [upd] using hVi
          · rw [if_neg e] at hi'
            have : (deps l i').map (upd vals i v) = (deps l i').map vals := List.map_congr_left fun j hj => by
              have hjl := hdc i' hi' j hj
              have : j ≠ i := fun h => by subst h; rw [hunf] at hjl; cases hjl
              simp [upd, this]
            rw [this]
            have h2 : upd vals i v i' = vals i' := by simp [upd, e]
            rw [h2]
            exact hst _ _ _ _ _ (hV i' him' hi') hE'
        · rw [ha]
          exact (sel_set hsi hunf (l.take m) 0 a0 (Nat.zero_le _) (by rw [Nat.sub_zero, List.getElem?_take, if_pos him]; exact ho) (distinct hB)).symm
      unfold wpOp
      simp only [ho']
      by_cases hwant : Region.wanted o (yielded l.toArray a.tmps) = true
      · rw [if_pos hwant] at hob ⊢
        exact .inl (wp_of_yields hob (fun v w' h => hnew v w' h.1 h.2))
      · rw [if_neg hwant] at hob ⊢
        exact hnew undef w (Ext.refl _) hob
    · have hmi : i = m := by
        rcases Nat.lt_or_ge m i with h | h
        · have := near_listed hdc hdl (k5 him m h)
          rw [htail m (Nat.le_refl _)] at this; cases this
        · omega
      subst hmi
      have hpre : ∀ j, j < i → listed.getD j false = true := fun j hj => near_listed hdc hdl (k5 him j hj)
      have hall' : a = all vals (l.take i) 0 a0 := by
        rw [ha]
        exact sel_all _ _ _ (fun j _ hj => hpre j (by simp at hj; omega))
      have hw := hend vals w hE (fun j hj => hV j hj (hpre j hj))
      rw [← hall', hdrop i ho] at hw
      refine wpOp_mono (fun a' w' h => ?_) (wpOp_list ho hw)
      refine ⟨by simpa using hsz, .inr ⟨i + 1, by omega, by omega, fun j hj => ?_, h⟩⟩
      rw [set_getD hsi]
      by_cases e : j = i
      · subst e; simp
      · rw [if_neg e]
        constructor
        · intro h
          rcases Nat.lt_or_ge j i with h' | h'
          · omega
          · rw [htail j h'] at h; cases h
        · intro h; exact hpre j (by omega)
  · have hki : k = i := by
      rcases Nat.lt_or_ge i k with h | h
      · have := (hiff i hil).2 h
        rw [hunf] at this; cases this
      · rcases Nat.lt_or_ge k i with h' | h'
        · exact (near_tail hB (by omega) (by omega) hiff hdl (k5 (by omega) k h')).elim
        · omega
    subst hki
    rw [hdrop k ho] at hw
    refine wpOp_mono (fun a' w' h => ?_) (wpOp_list ho hw)
    refine ⟨by simpa using hsz, .inr ⟨k + 1, by omega, by omega, fun j hj => ?_, h⟩⟩
    rw [set_getD hsi]
    by_cases e : j = k
    · subst e; simp
    · rw [if_neg e, hiff j hj]; omega

def count (listed : Array Bool) : Nat := (listed.toList.filter (fun b => !b)).length

theorem count_set {listed : Array Bool} {i : Nat} (hi : i < listed.size) (hun : listed.getD i true = false) : count (listed.setIfInBounds i true) + 1 = count listed := by
  have h : ∀ (xs : List Bool) (i : Nat), xs[i]? = some false → ((xs.set i true).filter (fun b => !b)).length + 1 = (xs.filter (fun b => !b)).length := by
    intro xs
    induction xs with
    | nil => intro i h; simp at h
    | cons b r ih =>
      intro i h
      cases i with
      | zero => simp at h; subst h; simp
      | succ i =>
        have := ih i (by simpa using h)
        cases b <;> simp <;> simpa using this
  unfold count
  rw [Array.toList_setIfInBounds]
  refine h _ _ ?_
  have : listed[i]? = some listed[i] := Array.getElem?_eq_getElem hi
  rw [Array.getElem?_toList, this]
  have e : listed.getD i true = listed[i] := by simp [Array.getD, hi]
  rw [e] at hun
  rw [hun]

theorem any_of_inv (I : Array Bool → Act → World → Prop) (hsz : ∀ listed a w, I listed a w → listed.size = l.length)
    (hstep : ∀ listed a w i, I listed a w → i ∈ Region.ready .any l.toArray listed → wpOp P l.toArray Q i (I (listed.setIfInBounds i true)) a w)
    (hend : ∀ listed a w, I listed a w → Region.ready .any l.toArray listed = [] → Q .normal a w) :
    ∀ (fuel : Nat) (listed : Array Bool) (a : Act) (w : World), count listed ≤ fuel → I listed a w → wpAny P .any l.toArray Q fuel listed a w
  | 0, listed, a, w, hc, hI => by
    have hr : Region.ready .any l.toArray listed = [] := by
      cases h : Region.ready .any l.toArray listed with
      | nil => rfl
      | cons i r =>
        have hi : i ∈ Region.ready .any l.toArray listed := by rw [h]; simp
        obtain ⟨hun, o, ho, _⟩ := mem_ready.1 hi
        have hil : i < l.toArray.size := (Array.getElem?_eq_some_iff.1 ho).1
        have := count_set (listed := listed) (i := i) (by rw [hsz _ _ _ hI]; simpa using hil) hun
        omega
    exact ⟨hr, hend _ _ _ hI hr⟩
  | fuel + 1, listed, a, w, hc, hI => by
    refine ⟨hend _ _ _ hI, fun i hi => wpOp_mono (fun a' w' h => ?_) (hstep _ _ _ _ hI hi)⟩
    obtain ⟨hun, o, ho, _⟩ := mem_ready.1 hi
    have hil : i < l.toArray.size := (Array.getElem?_eq_some_iff.1 ho).1
    have := count_set (listed := listed) (i := i) (by rw [hsz _ _ _ hI]; simpa using hil) hun
    exact any_of_inv I hsz hstep hend fuel _ a' w' (by omega) h

/-- a region whose order is open: what each operation leaves is said once -/
theorem wp_region_mono {id : Nat} (m : Nat) (V : Nat → World → List Value → Value → Prop) (hm : P.follows .mixedOrders = true) (hB : monoB l m = true)
    (hst : ∀ i w w' d v, V i w d v → Ext w w' → V i w' d v)
    (hop : ∀ i o, i < m → l[i]? = some o → ∀ (vals : Nat → Value) (w : World), Ext w0 w → (∀ j, (deps l i).contains j = true → V j w ((deps l j).map vals) (vals j)) →
      if Region.wanted o (yielded l.toArray (all vals (l.take m) 0 a0).tmps) = true
      then Yields P (fun v w' => Ext w w' ∧ V i w' ((deps l i).map vals) v) ((execOp (all vals (l.take m) 0 a0).eval o).run P w)
      else V i w ((deps l i).map vals) undef)
    (hend : ∀ (vals : Nat → Value) (w : World), Ext w0 w → (∀ j, j < m → V j w ((deps l j).map vals) (vals j)) → wpList P l.toArray Q (l.drop m) (all vals (l.take m) 0 a0) w) :
    (Code.region id l.toArray true).wp P Q a0 w0 := by
  have hml : m ≤ l.length := by
    unfold monoB at hB
    simp only [Bool.and_eq_true, decide_eq_true_eq] at hB
    exact hB.1
  refine wp_region_any hm (any_of_inv (Inv P l m Q a0 w0 V) (fun _ _ _ h => h.1) (step hB hst hop hend) (fun listed a w hI hr => ?_) _ _ _ _ ?_ ?_)
  · obtain ⟨hsz, hI⟩ := hI
    have hal := all_listed hB hsz hr
    rcases hI with ⟨vals, hE, htail, hdc, hV, ha⟩ | ⟨k, hmk, hkl, hiff, hw⟩
    · have hm' : m = l.length := by
        rcases Nat.lt_or_ge m l.length with h | h
        · have := hal m h
          rw [htail m (Nat.le_refl _)] at this; cases this
        · omega
      have hw := hend vals w hE (fun j hj => hV j hj (hal j (by omega)))
      rw [ha, sel_all _ _ _ (fun j _ hj => hal j (by simp at hj; omega))]
      rw [hm', List.drop_length] at hw
      rw [hm']
      exact hw
    · have hk : k = l.length := by
        rcases Nat.lt_or_ge k l.length with h | h
        · have := (hiff k h).1 (hal k h)
          omega
        · omega
      subst hk
      rw [List.drop_length] at hw
      exact hw
  · unfold count
    exact Nat.le_trans (List.length_filter_le (fun b => !b) (Array.replicate l.toArray.size false).toList) (by simp)
  · refine ⟨by simp, .inl ⟨fun _ => undef, (Ext.refl w0).drew, fun j _ => ?_, fun i hi => ?_, fun i _ hi => ?_, ?_⟩⟩
    · by_cases h : j < l.length <;> simp [h]
    · exfalso
      by_cases h : i < l.length <;> simp [h] at hi
    · exfalso
      by_cases h : i < l.length <;> simp [h] at hi
    · have : ∀ (r : List Oper) (k : Nat) (a : Act), sel (Array.replicate l.toArray.size false) (fun _ => undef) r k a = a := by
        intro r
        induction r with
        | nil => intro k a; rfl
        | cons o r ih =>
          intro k a
          simp only [sel]
          rw [if_neg (by by_cases h : k < l.length <;> simp [h])]
          exact ih _ _
      exact (this _ _ _).symm
end
end Go.Proofs.Ytllpfegnpakadaa.Mono

/- Appends to a new empty list, in a region whose order is open (for wp_region_mono): lists of any kind. -/
namespace Go.Proofs.Ytllpfegnpakadaa
open Go.RowKit
section
variable {α : Type} (K : Kd α)
/-- an empty list of the call's own -/
def NewAt (B : Nat) (w : World) (v : Value) : Prop := ∃ x, v = .slice (some ⟨x, 0, none⟩) 0 0 ∧ B ≤ x ∧ w.heap[x]? = some (.cells #[] K.e (0, 0))
/-- a list of the call's own -/
def OwAt (B : Nat) (w : World) (v : Value) (xs : List α) : Prop := ∃ A c, v = .slice A xs.length c ∧ Ow K B w (.slice A xs.length c) xs
variable {K}
theorem block_keep {w w' : World} {x : Nat} {o : Obj} (h : w.heap[x]? = some o) (hE : Ext w w') : w'.heap[x]? = some o := by
  have hlt : x < w.heap.size := by
    rcases Nat.lt_or_ge x w.heap.size with h' | h'
    · exact h'
    · rw [Array.getElem?_eq_none h'] at h; cases h
  exact (Below.block hE x hlt).trans h
theorem NewAt.ext {B : Nat} {w w' : World} {v : Value} (h : NewAt K B w v) (hE : Ext w w') : NewAt K B w' v := by
  obtain ⟨x, rfl, hB, hx⟩ := h
  exact ⟨x, rfl, hB, block_keep hx hE⟩
theorem NewAt.made (w : World) {B : Nat} (hB : B ≤ w.heap.size) : NewAt K B (w.alloc (.cells #[] K.e)) (.slice (some ⟨w.heap.size, 0, none⟩) 0 0) := ⟨w.heap.size, rfl, hB, heap_alloc_new w _⟩
theorem OwAt.ext {B : Nat} {w w' : World} {v : Value} {xs : List α} (h : OwAt K B w v xs) (hE : Ext w w') : OwAt K B w' v xs := by
  obtain ⟨A, c, rfl, h⟩ := h
  exact ⟨A, c, rfl, h.ext hE⟩
end
end Go.Proofs.Ytllpfegnpakadaa

/- Numbers, words, bools as lists (no program's own function but the document's Ints, Words). -/
namespace Go.Proofs.Ytllpfegnpakadaa
open Go.BigFrame
open Go.RowKit Go.Proofs.Ytllpfegnpakadaa.Plain

/-- numbers of tasks, as they lie -/
def zs (O : List Nat) : List Int := O.map fun k : Nat => (k : Int)
theorem in64_nat (k : Nat) (h : k ≤ 9223372036854775807) : in64 (k : Int) := by unfold in64; omega
instance (x : Int) : Decidable (in64 x) := by unfold in64; exact inferInstance
/-- a list of one's own stays, where one of another kind grows -/
theorem Ow.beside {α β : Type} {K : Kd α} {K' : Kd β} {B B' : Nat} {w w' : World} {v u : Value} {xs : List α} {ys : List β} (h : Ow K B w v xs) (h' : Ow K' B' w u ys) (hne : K.e ≠ K'.e) (hg : w.grownBy w' u.ownBlock) : Ow K B w' v xs :=
  h.kept hg (by
    cases hv : v.ownBlock with
    | none => exact .inl rfl
    | some k => exact .inr fun e => Ow.far hne h h' k hv e.symm)
theorem one_at {w : World} {q : Nat} {x : Int} (h : w.heap[q]? = some (.cells #[.int .i64 x] 3)) (hx : in64 x) : Rd kInt w (.slice (some ⟨q, 0, none⟩) 1 1) [x] :=
  ⟨by simp [maxLen], by intro y hy; rw [List.mem_singleton] at hy; rw [hy]; exact hx, _, 1, rfl, Nat.le_refl _, fun _ => ⟨q, 0, rfl, fun j hj i u hu => by
    obtain rfl : j = 0 := by simp at hj; omega
    have hi : i = 0 := by
      rcases i with _ | i
      · rfl
      · simp [kInt] at hu
    subst hi
    have hu' : Value.int IntKind.i64 x = u := by simpa [kInt] using hu
    subst hu'
    exact (cell_of_row w q 0 _ _ _ h).trans rfl⟩⟩
theorem empty_at {α : Type} {K : Kd α} {B p : Nat} {w : World} (h : w.heap[p]? = some (.cells #[] K.e)) (hB : B ≤ p) : Ow K B w (.slice (some ⟨p, 0, none⟩) 0 0) [] :=
  ⟨⟨by simp [Kd.flat], .inr ⟨p, 0, #[], rfl, hB, h, Nat.le_refl _, by simp [maxLen], by simp, by simp [Kd.flat]⟩⟩, by simp⟩
theorem heap_alloc_at {w : World} {o : Obj} {p : Nat} (h : p = w.heap.size) : (w.alloc o).heap[p]? = some o := by subst h; exact heap_alloc_new _ _
/-- what is left behind a place, as the walk writes it -/
theorem Rd.sliced {α : Type} {K : Kd α} {w : World} {A : Option Addr} {n c : Nat} {xs : List α} (h : Rd K w (.slice A n c) xs) (hK : K.n = 1) (q : Nat) (hq : q ≤ xs.length) : Rd K w (.slice (if c = q then A else Option.map (fun x => x.add q) A) (n - q) (c - q)) (xs.drop q) := by
  obtain ⟨h1, h2, A', c', hv, hc, h3⟩ := id h
  cases hv
  by_cases e : c = q
  · have hz : xs.drop q = [] := List.eq_nil_of_length_eq_zero (by rw [List.length_drop]; omega)
    rw [hz, show xs.length - q = 0 by omega]
    exact Rd.nil _ _ _
  · rw [if_neg e]
    rcases A with _ | ad
    · have hz : xs.drop q = [] := List.eq_nil_of_length_eq_zero (by
        rcases Nat.eq_zero_or_pos xs.length with h0 | h0
        · rw [List.length_drop]; omega
        · obtain ⟨_, _, h9, _⟩ := h3 h0; cases h9)
      have hl : xs.length - q = 0 := by rw [← List.length_drop, hz]; rfl
      rw [hz, hl]
      exact Rd.nil _ _ _
    · exact h.dropAdd q q (xs.length - q) (c - q) (by rw [hK, Nat.mul_one]) rfl (by omega)
theorem ints_e (v u : Value) (xs ys : List Int) (w : World) (h : Rd kInt w v xs) (h' : Rd kInt w u ys) :
    Calls Try.prog 27 #[v, u] w fun ed w' => ed = .returned (.bool (sameB xs ys)) ∧ Ext w w' :=
  (ints_any v u xs ys w (ints_of_rd h) (ints_of_rd h')).mono fun ed w' hh => ⟨hh.1, by obtain ⟨n, h9⟩ := hh.2; rw [h9]; exact (Ext.refl _).drewN _⟩
theorem flat_ints (xs : List Int) : kInt.flat xs = xs.map (Value.int .i64) := by
  induction xs with
  | nil => rfl
  | cons a l ih =>
    show [Value.int .i64 a] ++ kInt.flat l = _
    rw [ih]; rfl
theorem int_list (w : World) (xs : List Int) (p n : Nat) (cs : Array Value) (hcs : cs.toList = xs.map (Value.int .i64)) (hn : xs.length = n) (hp : p = w.heap.size) (hm : n ≤ 1000) (hx : ∀ x ∈ xs, in64 x) : Rd kInt (w.alloc (.cells cs 3)) (.slice (some ⟨p, 0, none⟩) n n) xs :=
  Ow.rd (K := kInt) (B := 0) (Ow.lit (K := kInt) w xs cs (by rw [hcs, flat_ints]) hn hp (Nat.zero_le _) (by unfold maxLen; omega) hx)
end Go.Proofs.Ytllpfegnpakadaa

/- The library at integers: Clone, Grow, Concat of any number, Equal. Written by wip/mk_lwi.py. -/
namespace Go.Proofs.Ytllpfegnpakadaa
open Go.BigFrame
open Go.RowKit Go.Proofs.Ytllpfegnpakadaa.Plain

/-- a cell of a list of integers -/
theorem int_at9 {w : World} {L : Option Addr} {n lc : Nat} {l : List Int} (h : Rd kInt w (.slice L n lc) l) (k : Nat) (hk : k < l.length) :
    ∃ bx ox, L = some ⟨bx, ox, none⟩ ∧ w.cell? ⟨bx, ox + k, none⟩ = some (.int .i64 (l.getD k 0)) := by
  obtain ⟨bl, ol, rfl, hcl⟩ := (ints_of_rd h).cells (by omega)
  exact ⟨bl, ol, rfl, hcl k hk⟩
set_option maxHeartbeats 3200000 in
set_option maxRecDepth 100000 in
theorem cloneI (v : Value) (xs : List Int) (w : World) (h : Rd kInt w v xs) (hl : xs.length ≤ 1048576) :
    Calls Try.prog 49 #[v] w fun e w' => ∃ A c, e = .returned (.slice A xs.length c) ∧ Ow kInt w.heap.size w' (.slice A xs.length c) xs ∧ Ext w w' := by
  have hi := Lib.hid h
  obtain ⟨hm, hb, A, cap, rfl, hcap, hc⟩ := h
  have HC := Lib.hid hc
  clear hc hb hm
  have hnil := fun (w : World) (a : Option Addr) (n c : Nat) => Lib.run_eql_slice_nil w 22 3 a n c 0 0 Try.underlying22
  cases A with
  | none =>
    have h0 : xs = [] := by
      cases xs with
      | nil => rfl
      | cons a l => obtain ⟨b, off, h, _⟩ := HC.out (by simp); cases h
    subst h0
    go_enter Try.func49, Try.ntmps49
    go_wp2_with fail
    go_ret
    exact ⟨_, _, rfl, Ow.nil _ _, Ext.refl _⟩
  | some ad =>
    go_enter Try.func49, Try.ntmps49
    go_wp2_with (at_builtin; refine kInt.wpList_app (by rfl) _ _ (by rfl) (by rfl) w.heap.size _ [] (by rfl) (empty_at (heap_alloc_new _ _) (Nat.le_refl _)) _ xs (by rfl) (hi.out.ext ((Ext.refl w).alloc _)) (by simpa using hl) (by simp) ?_; intro u w1 hown hgrow hat1)
    go_ret
    obtain ⟨A1, c1, rfl, _⟩ := hown.slice
    refine ⟨A1, c1, by simp, by simpa using hown, ((Ext.refl w).alloc _).grown hgrow (fun k hk => ?_)⟩
    cases hk; exact Nat.le_refl _
theorem int_zeros (w : World) (n : Nat) (h0 : 0 < n) (hn : n ≤ 1048576) :
    (Builtin.append_ #[22, 3] 22 #[.slice none 0 0, .int .i64 n]).run Try.prog w =
      .ok (.slice (some ⟨w.heap.size, 0, none⟩) n (grownCap w n 0 3)) (w.drew.alloc (.cells (Builtin.zeroCells #[.int .i64 0] n ++ Builtin.zeroCells #[.int .i64 0] (grownCap w n 0 3 - n)) 3)) := by
  obtain ⟨i0, hi, hz0, hz1, hz2⟩ := info_parts kInt.info
  exact Lib.run_append_nil_zeros w 22 3 22 3 i0 (.int .i64 0) .i64 .i64 Try.underlying22 Try.underlying3 hi hz0 n h0 (by rw [hz1]; decide) (by omega) (by rw [hz2]; show n * 8 ≤ _; omega)
theorem wpList_zerosI {ops : Array Oper} {rest : List Oper} {o : Oper} {a : Act} {w : World} {Q : Exit → Act → World → Prop} (hgd : o.guard = none) (s x : Operand)
    (ho : o.op = .call { callee := .builtin .append, args := #[s, x], argTypes := #[22, 3] }) (hty : o.type = 22) (n : Nat) (hs : a.eval s = .slice none 0 0) (hx : a.eval x = .int .i64 n) (h0 : 0 < n) (hn : n ≤ 1048576)
    (h : ∀ (cap : Nat) (cur : Array Value), (n : Int) ≤ cap → cap ≤ maxLen → cur.size = cap → wpList Try.prog ops Q rest (a.put o.dst (.slice (some ⟨w.heap.size, 0, none⟩) n cap)) (w.drew.alloc (.cells cur 3))) : wpList Try.prog ops Q (o :: rest) a w :=
  wpList_plain hgd fun K hK => by
    unfold Oper.wp execOp
    simp only [ho, hty, resolve, invoke, builtin, Sem.run_bind, Sem.run_pure, Result.andThen_ok, List.map_toArray, List.map_cons, List.map_nil, hs, hx, int_zeros w n h0 hn]
    have hge := grownCap_ge w n 0 3
    refine hK _ _ (h _ _ (by omega) (grownCap_le_maxLen w n 0 3 (by unfold maxLen; omega)) ?_)
    simp only [Array.size_append, size_zeroCells]
    simp
    omega
theorem owI_made (w : World) (cur : Array Value) (cap : Nat) {B : Nat} (hb : B ≤ w.heap.size) (hm : cap ≤ maxLen) (hs : cur.size = cap) :
    Ow kInt B (w.alloc (.cells cur 3)) (.slice (some ⟨w.heap.size, 0, none⟩) 0 cap) [] := ⟨World.ownsRow_made w cur cap hb hm (by show cur.size = cap * 1; omega), by simp⟩
set_option maxHeartbeats 3200000 in
set_option maxRecDepth 100000 in
theorem growI (n : Nat) (w : World) (hn : n ≤ 1048576) :
    Calls Try.prog 55 #[.slice none 0 0, .int .i64 n] w fun e w' => ∃ v, e = .returned v ∧ Ow kInt w.heap.size w' v [] ∧ Ext w w' := by
  by_cases h0 : 0 < n
  · have h0' : (0 : Int) < n := by omega
    go_enter Try.func55, Try.ntmps55
    go_wp2_with (at_builtin; refine wpList_zerosI rfl _ _ rfl rfl n rfl rfl h0 hn ?_; intro cap cur hc1 hc2 hc3)
    go_ret
    exact ⟨_, rfl, owI_made w.drew _ _ (Nat.le_refl _) hc2 hc3, (Ext.refl w).drew.alloc _⟩
  · obtain rfl : n = 0 := by omega
    go_enter Try.func55, Try.ntmps55
    go_wp2_with fail
    go_ret
    exact ⟨_, rfl, Ow.nil _ _, Ext.refl _⟩
theorem Plain.upI_succ (D : List (List Int)) (k : Nat) (hk : k < D.length) : (D.take (k + 1)).flatten = (D.take k).flatten ++ D.getD k [] := by
  rw [List.take_succ_eq_append_getElem hk, List.flatten_append, List.getD_eq_getElem?_getD, List.getElem?_eq_getElem hk]; simp
theorem Plain.upI_le (D : List (List Int)) (k : Nat) : (D.take k).flatten.length ≤ D.flatten.length := by
  have h : D.flatten = (D.take k).flatten ++ (D.drop k).flatten := by rw [← List.flatten_append, List.take_append_drop]
  rw [h, List.length_append]; omega
set_option maxHeartbeats 3200000 in
set_option maxRecDepth 100000 in
theorem concatI (b off m e : Nat) (vs : Nat → Value) (D : List (List Int)) (w : World) (hD : D.length = m) (h : ∀ k, k < m → w.cell? ⟨b, off + k, none⟩ = some (vs k) ∧ Rd kInt w (vs k) (D.getD k [])) (hm : m ≤ 8) (hl : D.flatten.length ≤ 1000000) :
    Calls Try.prog 45 #[.slice (some ⟨b, off, none⟩) m e] w fun ed w' => ∃ A c, ed = .returned (.slice A D.flatten.length c) ∧ Ow kInt w.heap.size w' (.slice A D.flatten.length c) D.flatten ∧ Ext w w' := by
  have H := Lib.hid h
  have HDL := Lib.hid hD
  have hm' : (m : Int) ≤ 8 := by omega
  obtain ⟨N, hN⟩ : ∃ N, D.flatten.length = N := ⟨_, rfl⟩
  rw [hN] at hl ⊢
  have HN := Lib.hid hN
  clear h hN hD
  go_enter Try.func45, Try.ntmps45
  go_wp2_with fail
  go_loop [3, 11] (fun s i => ∃ k : Nat, k ≤ m ∧ i = .int .i64 k ∧ s = .int .i64 ((D.take k).flatten.length : Nat)) (fun _ i => m - (intOf i).toNat)
  case atStart => exact ⟨0, Nat.zero_le _, rfl, rfl⟩
  case round =>
    obtain ⟨k, hk, rfl, rfl⟩ := hrel
    have hk0 : (0 : Int) ≤ k := by omega
    by_cases hlt : k < m
    · have hlt' : (k : Int) < m := by omega
      obtain ⟨z, zr⟩ := H.out k hlt
      obtain ⟨A, c, hv, _⟩ := zr.slice
      obtain ⟨u1, hu1⟩ : ∃ x, (D.take k).flatten.length = x := ⟨_, rfl⟩
      obtain ⟨u2, hu2⟩ : ∃ x, (D.getD k []).length = x := ⟨_, rfl⟩
      have hsucc : (D.take (k + 1)).flatten.length = u1 + u2 := by rw [upI_succ D k (by rw [HDL.out]; exact hlt), List.length_append, hu1, hu2]
      have hb := upI_le D (k + 1)
      rw [hsucc, HN.out] at hb
      have hb1 : (u1 : Int) ≤ 1000000 := by omega
      have hb2 : (u2 : Int) ≤ 1000000 := by omega
      have HS := Lib.hid hsucc
      rw [hv, hu2] at z
      rw [hu1]
      clear hsucc hb zr hv hu1 hu2
      go_wp2_with fail
      go_round
      case rel => exact ⟨k + 1, by omega, by go_num, by rw [HS.out]; go_num⟩
      case measure => simp [intOf]; omega
    · obtain rfl : k = m := by omega
      have hu : (D.take k).flatten.length = N := by rw [← HDL.out, List.take_length, HN.out]
      rw [hu]
      clear hu
      go_wp2_with fail
      refine (growI _ _ (by omega)).mono ?_
      rintro ed w1 ⟨z, rfl, hown, hE⟩
      have HO := Lib.hid hown
      have HE := Lib.hid hE
      clear hown hE
      go_wp2_with fail
      go_loopw [6, 27] (fun v i wr => ∃ j : Nat, j ≤ k ∧ i = .int .i64 j ∧ Ow kInt w.heap.size wr v (D.take j).flatten ∧ Ext w wr) (fun _ i _ => k - (intOf i).toNat)
      case atStart => exact ⟨0, Nat.zero_le _, rfl, HO.out, HE.out⟩
      case round =>
        obtain ⟨j, hj, rfl, hown, hX⟩ := hrel
        have hj0 : (0 : Int) ≤ j := by omega
        by_cases hlt2 : j < k
        · have hlt3 : (j : Int) < k := by omega
          obtain ⟨z, zr⟩ := H.out j hlt2
          obtain ⟨A, c, hv, _⟩ := zr.slice
          rw [hv] at z zr
          have z' := hX.cell z
          have hz := hX.size
          have HZ := Lib.hid (zr.ext hX)
          have hsucc := upI_succ D j (by rw [HDL.out]; exact hlt2)
          have hb := upI_le D (j + 1)
          have HB : Hid ((D.take j).flatten.length + (D.getD j []).length ≤ 1048576) := Lib.hid (by rw [← List.length_append, ← hsucc]; have := HN.out; omega)
          have HS := Lib.hid hsucc
          have HOW := Lib.hid hown
          have HX := Lib.hid hX
          obtain ⟨u2, hu2⟩ : ∃ x, (D.getD j []).length = x := ⟨_, rfl⟩
          have HU := Lib.hid hu2
          rw [hu2] at z'
          clear hsucc hb zr hv hu2 z hown hX
          go_wp2_with (at_builtin; refine kInt.wpList_app (by rfl) _ _ (by rfl) (by rfl) w.heap.size _ (D.take j).flatten (by rfl) HOW.out _ (D.getD j []) (by rfl) (by first | exact HZ.out | (rw [← HU.out]; exact HZ.out)) HB.out hz ?_; intro v' w2 hown2 hgrow2 hat2)
          go_roundw
          case rel => exact ⟨j + 1, by omega, by go_num, by rw [HS.out]; exact hown2, HX.out.grown hgrow2 (fun q hq => (HOW.out.lt q hq).1)⟩
          case measure => simp [intOf]; omega
        · obtain rfl : j = k := by omega
          rw [← HDL.out, List.take_length] at hown
          obtain ⟨A, c, hv, _⟩ := hown.slice
          rw [HN.out] at hv
          subst hv
          have HOW := Lib.hid hown
          have HX := Lib.hid hX
          clear hown hX
          go_wp2_with fail
          go_ret
          exact ⟨A, c, rfl, HOW.out, HX.out⟩
theorem concatI2 (b e : Nat) (u v : Value) (xs ys : List Int) (w : World) (c0 : w.cell? ⟨b, 0, none⟩ = some u) (c1 : w.cell? ⟨b, 1, none⟩ = some v) (h : Rd kInt w u xs) (h' : Rd kInt w v ys) (hl : xs.length + ys.length ≤ 1000000) :
    Calls Try.prog 45 #[.slice (some ⟨b, 0, none⟩) 2 e] w fun ed w' => ∃ A c, ed = .returned (.slice A (xs ++ ys).length c) ∧ Ow kInt w.heap.size w' (.slice A (xs ++ ys).length c) (xs ++ ys) ∧ Ext w w' := by
  have hf : [xs, ys].flatten = xs ++ ys := by simp
  have h9 := concatI b 0 2 e (fun k => if k = 0 then u else v) [xs, ys] w rfl (fun k hk => by
    rcases (by omega : k = 0 ∨ k = 1) with rfl | rfl
    · exact ⟨c0, h⟩
    · exact ⟨c1, h'⟩) (by omega) (by rw [hf, List.length_append]; exact hl)
  rw [hf] at h9
  exact h9
theorem concatI3 (b e : Nat) (u v z : Value) (xs ys zs : List Int) (w : World) (c0 : w.cell? ⟨b, 0, none⟩ = some u) (c1 : w.cell? ⟨b, 1, none⟩ = some v) (c2 : w.cell? ⟨b, 2, none⟩ = some z) (h : Rd kInt w u xs) (h' : Rd kInt w v ys) (h2 : Rd kInt w z zs) (hl : xs.length + ys.length + zs.length ≤ 1000000) :
    Calls Try.prog 45 #[.slice (some ⟨b, 0, none⟩) 3 e] w fun ed w' => ∃ A c, ed = .returned (.slice A (xs ++ ys ++ zs).length c) ∧ Ow kInt w.heap.size w' (.slice A (xs ++ ys ++ zs).length c) (xs ++ ys ++ zs) ∧ Ext w w' := by
  have hf : [xs, ys, zs].flatten = xs ++ ys ++ zs := by simp
  have h9 := concatI b 0 3 e (fun k => if k = 0 then u else if k = 1 then v else z) [xs, ys, zs] w rfl (fun k hk => by
    rcases (by omega : k = 0 ∨ k = 1 ∨ k = 2) with rfl | rfl | rfl
    · exact ⟨c0, h⟩
    · exact ⟨c1, h'⟩
    · exact ⟨c2, h2⟩) (by omega) (by rw [hf, List.length_append, List.length_append]; exact hl)
  rw [hf] at h9
  exact h9
theorem concatI2_to (b e : Nat) (u v : Value) (xs ys r : List Int) (k : Nat) (w : World) (c0 : w.cell? ⟨b, 0, none⟩ = some u) (c1 : w.cell? ⟨b, 1, none⟩ = some v) (h : Rd kInt w u xs) (h' : Rd kInt w v ys) (hl : xs.length + ys.length ≤ 1000000) (hr : xs ++ ys = r) (hk : r.length = k) :
    Calls Try.prog 45 #[.slice (some ⟨b, 0, none⟩) 2 e] w fun ed w' => ∃ A c, ed = .returned (.slice A k c) ∧ Ow kInt w.heap.size w' (.slice A k c) r ∧ Ext w w' := by
  subst hr; subst hk; exact concatI2 b e u v xs ys w c0 c1 h h' hl
theorem concatI3_to (b e : Nat) (u v z : Value) (xs ys zs r : List Int) (k : Nat) (w : World) (c0 : w.cell? ⟨b, 0, none⟩ = some u) (c1 : w.cell? ⟨b, 1, none⟩ = some v) (c2 : w.cell? ⟨b, 2, none⟩ = some z) (h : Rd kInt w u xs) (h' : Rd kInt w v ys) (h2 : Rd kInt w z zs) (hl : xs.length + ys.length + zs.length ≤ 1000000) (hr : xs ++ ys ++ zs = r) (hk : r.length = k) :
    Calls Try.prog 45 #[.slice (some ⟨b, 0, none⟩) 3 e] w fun ed w' => ∃ A c, ed = .returned (.slice A k c) ∧ Ow kInt w.heap.size w' (.slice A k c) r ∧ Ext w w' := by
  subst hr; subst hk; exact concatI3 b e u v z xs ys zs w c0 c1 c2 h h' h2 hl
theorem cloneI_to (v : Value) (xs : List Int) (k : Nat) (w : World) (h : Rd kInt w v xs) (hk : xs.length = k) (hl : k ≤ 1048576) :
    Calls Try.prog 49 #[v] w fun e w' => ∃ A c, e = .returned (.slice A k c) ∧ Ow kInt w.heap.size w' (.slice A k c) xs ∧ Ext w w' := by
  subst hk; exact cloneI v xs w h hl
set_option maxHeartbeats 3200000 in
set_option maxRecDepth 100000 in
theorem equalI (l1 l2 : List Int) (A1 A2 : Option Addr) (c1 c2 : Nat) (w : World) (h1 : Rd kInt w (.slice A1 l1.length c1) l1) (h2 : Rd kInt w (.slice A2 l2.length c2) l2) (hl : l1.length ≤ 1048576) :
    Calls Try.prog 52 #[.slice A1 l1.length c1, .slice A2 l2.length c2] w fun ed w' => ed = .returned (.bool (decide (l1 = l2))) ∧ Ext w w' := by
  have H1 := Lib.hid h1
  have H2 := Lib.hid h2
  have hl9 : (l1.length : Int) ≤ 1048576 := by omega
  clear h1 h2
  by_cases hlen : l1.length = l2.length
  · obtain ⟨n, hn⟩ : ∃ n, l1.length = n := ⟨_, rfl⟩
    have hn2 : l2.length = n := hlen ▸ hn
    have HN := Lib.hid (And.intro hn hn2)
    rw [hn] at hl9
    rw [hn, hn2]
    have hd0 : ((n : Int) != (n : Int)) = false := by simp
    have hd0N : (n != n) = false := by simp
    clear hlen hn hn2 hl
    go_enter Try.func52, Try.ntmps52
    go_wp2_with fail
    go_loopw [13] (fun v wr => ∃ k : Nat, v = .int .i64 k ∧ k ≤ n ∧ (∀ j, j < k → l1.getD j 0 = l2.getD j 0) ∧ Ext w wr) (fun v _ => n - (intOf v).toNat)
    case atStart => exact ⟨0, rfl, Nat.zero_le _, fun j hj => absurd hj (Nat.not_lt_zero _), Ext.refl _⟩
    case round =>
      obtain ⟨k, rfl, hk, hall, hX⟩ := hrel
      have HALL := Lib.hid hall
      have HX := Lib.hid hX
      have hk0 : (0 : Int) ≤ k := by omega
      clear hall hX
      by_cases hlt : k < n
      · have hlt' : (k : Int) < n := by omega
        have hd1 : decide (k < n) = true := decide_eq_true hlt
        obtain ⟨b1, o1, rfl, z1⟩ := int_at9 (H1.out.ext HX.out) k (by rw [HN.out.1]; exact hlt)
        obtain ⟨b2, o2, rfl, z2⟩ := int_at9 (H2.out.ext HX.out) k (by rw [HN.out.2]; exact hlt)
        obtain ⟨x, hx⟩ : ∃ x, l1.getD k 0 = x := ⟨_, rfl⟩
        obtain ⟨y, hy⟩ : ∃ y, l2.getD k 0 = y := ⟨_, rfl⟩
        change _ = some (Value.int .i64 (l1.getD k 0)) at z1
        change _ = some (Value.int .i64 (l2.getD k 0)) at z2
        rw [hx] at z1
        rw [hy] at z2
        have HXY := Lib.hid (And.intro hx hy)
        have lb1 : b1 < wr.heap.size := World.block_lt_of_cell? _ _ z1
        have lb2 : b2 < wr.heap.size := World.block_lt_of_cell? _ _ z2
        have KS := Lib.hid (fun w' (hE : Ext wr w') => And.intro (hE.cell z1) (hE.cell z2))
        clear hx hy z1 z2
        by_cases hxy : x = y
        · have HQ := Lib.hid hxy
          have hb : (x != x) = false := by simp
          subst hxy
          go_wp2_with fail
          refine wp_region_class (Ext wr) (by kernel_rfl) (by kernel_rfl) (Ext.refl _).drew ?_
          try simp only [List.append_eq, List.cons_append, List.nil_append]
          repeat (first
            | go_big_quiet_skip
            | (go_big_quiet_want
               first
               | (go_big_quiet_op; go_big_quiet_on)
               | (unfold Oper.quiet
                  apply Exists.intro
                  refine ⟨fun w' hC => ?_, ?_⟩
                  · (obtain ⟨k1, k2⟩ := KS.out w' hC
                     unfold Oper.quietAt
                     go_simp
                     first
                     | exact rfl)
                  go_simp
                  go_big_quiet_on)))
          refine wpQuiet_nil ?_
          intro w9 hC9
          go_wp2_with fail
          go_roundw
          case rel =>
            refine ⟨k + 1, by go_num, by omega, fun j hj => ?_, HX.out.trans hC9⟩
            rcases Nat.lt_or_ge j k with h9 | h9
            · exact HALL.out j h9
            · obtain rfl : j = k := by omega
              rw [HXY.out.1, HXY.out.2]
          case measure => first | (simp [intOf]; done) | (simp [intOf]; omega)
        · have hb1 : (x != y) = true := by simp [hxy]
          have HR : Hid (decide (l1 = l2) = false) := Lib.hid (decide_eq_false fun e => hxy (by rw [← HXY.out.1, ← HXY.out.2, e]))
          go_wp2_with fail
          refine wp_region_class (Ext wr) (by kernel_rfl) (by kernel_rfl) (Ext.refl _).drew ?_
          try simp only [List.append_eq, List.cons_append, List.nil_append]
          repeat (first
            | go_big_quiet_skip
            | (go_big_quiet_want
               first
               | (go_big_quiet_op; go_big_quiet_on)
               | (unfold Oper.quiet
                  apply Exists.intro
                  refine ⟨fun w' hC => ?_, ?_⟩
                  · (obtain ⟨k1, k2⟩ := KS.out w' hC
                     unfold Oper.quietAt
                     go_simp
                     first
                     | exact rfl)
                  go_simp
                  go_big_quiet_on)))
          refine wpQuiet_nil ?_
          intro w9 hC9
          go_wp2_with fail
          go_ret
          exact ⟨ret_bool HR.out.symm, HX.out.trans hC9⟩
      · obtain rfl : k = n := by omega
        have HR : Hid (decide (l1 = l2) = true) := Lib.hid (decide_eq_true (by
          apply List.ext_getElem (HN.out.1.trans HN.out.2.symm)
          intro j hj1 hj2
          have h9 := HALL.out j (by rw [← HN.out.1]; exact hj1)
          simp only [kept, List.getD_eq_getElem?_getD, List.getElem?_eq_getElem hj1, List.getElem?_eq_getElem hj2, Option.getD_some] at h9
          exact h9))
        go_wp2_with fail
        go_ret
        exact ⟨ret_bool HR.out.symm, HX.out⟩
  · have hd0 : ((l1.length : Int) != (l2.length : Int)) = true := by simp; omega
    have hd0N : (l1.length != l2.length) = true := by simp [hlen]
    have HR : Hid (decide (l1 = l2) = false) := Lib.hid (decide_eq_false fun e => hlen (by rw [e]))
    go_enter Try.func52, Try.ntmps52
    go_wp2_with fail
    go_ret
    exact ⟨ret_bool HR.out.symm, Ext.refl _⟩
end Go.Proofs.Ytllpfegnpakadaa

/- The document's Place, Right, From, Plain (ref13). -/
namespace Go.Proofs.Ytllpfegnpakadaa
open Go.BigFrame
open Go.RowKit Go.Proofs.Ytllpfegnpakadaa.Plain

theorem Plain.ints_take {l : List Int} {j : Nat} (h : j < l.length) : l.take (j + 1) = l.take j ++ [l.getD j 0] := by
  rw [List.take_succ_eq_append_getElem h, List.getD_eq_getElem?_getD, List.getElem?_eq_getElem h]; rfl
theorem Plain.ints_mem {l : List Int} {j : Nat} (h : j < l.length) : l.getD j 0 ∈ l := by
  rw [List.getD_eq_getElem?_getD, List.getElem?_eq_getElem h]; exact List.getElem_mem h
theorem Plain.place_is {l : List Int} {x : Int} {j : Nat} (h : x ∉ l.take j) (hj : j < l.length) (e : l.getD j 0 = x) : placeP l x = (j : Int) ∧ l.idxOf x = j := by
  have hs : l = l.take j ++ x :: l.drop (j + 1) := by
    have h1 := ints_take hj
    rw [e] at h1
    conv => lhs; rw [← List.take_append_drop (j + 1) l, h1]
    simp
  have hi : l.idxOf x = j := by
    rw [hs, idx_split h, List.length_take]; omega
  have hm : x ∈ l := by rw [← e]; exact ints_mem hj
  exact ⟨by unfold placeP; rw [if_pos hm, hi], hi⟩
theorem Plain.place_no {l : List Int} {x : Int} (h : x ∉ l) : placeP l x = -1 := if_neg h
theorem Plain.place_in {l : List Int} {x : Int} (h : x ∈ l) : placeP l x = (l.idxOf x : Nat) := if_pos h
theorem Plain.place_iff (l : List Int) (x : Int) : (0 ≤ placeP l x) ↔ x ∈ l := by
  unfold placeP
  split
  · rename_i h; exact ⟨fun _ => h, fun _ => by omega⟩
  · rename_i h; exact ⟨fun h1 => by omega, fun h1 => absurd h1 h⟩
theorem Plain.place_lt (l : List Int) (x : Int) : -1 ≤ placeP l x ∧ (placeP l x < l.length ∨ placeP l x = -1) := by
  unfold placeP
  split
  · rename_i h
    have := List.idxOf_lt_length_of_mem h
    omega
  · omega

set_option maxHeartbeats 1600000 in
set_option maxRecDepth 100000 in
theorem rplace_any (l : List Int) (L : Option Addr) (lc : Nat) (x : Int) (w : World) (hL : Rd kInt w (.slice L l.length lc) l) :
    Calls Try.prog 39 #[.slice L l.length lc, .int .i64 x] w fun ed w' => ed = .returned (.int .i64 (placeP l x)) ∧ w = w' := by
  have HL := Lib.hid hL
  have hm := hL.len
  have hm' : (l.length : Int) ≤ 9223372036854775807 := by omega
  clear hL hm
  go_enter Try.func39, Try.ntmps39
  go_wp2_with fail
  go_loopw [5] (fun i wr => ∃ j : Nat, j ≤ l.length ∧ i = .int .i64 j ∧ x ∉ l.take j ∧ w = wr) (fun i _ => l.length - (intOf i).toNat)
  case atStart => exact ⟨0, Nat.zero_le _, rfl, by simp, rfl⟩
  case round =>
    obtain ⟨j, hj, rfl, hno, rfl⟩ := hrel
    have hj0 : (0 : Int) ≤ j := by omega
    by_cases hlt : j < l.length
    · have hlt' : (j : Int) < l.length := by omega
      obtain ⟨bl, ol, rfl, hcl⟩ := (ints_of_rd HL.out).cells (by omega)
      have z0 := hcl j hlt
      have htk := ints_take hlt
      have hpl := fun e => place_is hno hlt e
      obtain ⟨y, hy⟩ : ∃ y, l.getD j 0 = y := ⟨_, rfl⟩
      rw [hy] at z0 htk hpl
      by_cases he : y = x
      · have HR := Lib.hid (hpl he).1
        have e1 : (y == x) = true := by simp [he]
        clear hcl htk hpl hy he hno
        go_wp2_with fail
        go_ret
        exact ⟨ret_int HR.out.symm, rfl⟩
      · have e1 : (y == x) = false := by simp [he]
        have HNO : Hid (x ∉ l.take (j + 1)) := Lib.hid (by
          rw [htk, List.mem_append, List.mem_singleton]
          rintro (h | h)
          · exact hno h
          · exact he h.symm)
        clear hcl htk hpl hy he hno
        go_wp2_with fail
        go_roundw
        case rel => exact ⟨j + 1, by omega, by go_num, HNO.out, by first | rfl | trivial⟩
        case measure => simp [intOf]; omega
    · obtain rfl : j = l.length := by omega
      have HR : Hid (placeP l x = -1) := Lib.hid (place_no (by rw [List.take_length] at hno; exact hno))
      clear hno
      go_wp2_with fail
      go_ret
      exact ⟨ret_int HR.out.symm, rfl⟩
theorem rplace_to (l : List Int) (n : Nat) (L : Option Addr) (lc : Nat) (x : Int) (w : World) (hL : Rd kInt w (.slice L n lc) l) (hn : l.length = n) :
    Calls Try.prog 39 #[.slice L n lc, .int .i64 x] w fun ed w' => ed = .returned (.int .i64 (placeP l x)) ∧ w = w' := by
  subst hn; exact rplace_any l L lc x w hL

theorem Plain.right_out (l : List Int) (x : Int) (hx : x ∈ l) (h : x < 0 ∨ 10000 < x) : rightL l = false := by
  rw [← Bool.not_eq_true, rightL_iff]
  intro h9
  have := h9.2.1 x hx
  omega
theorem Plain.right_twice (l : List Int) (j : Nat) (x : Int) (h : l.take (j + 1) = l.take j ++ [x]) (hx : x ∈ l.take j) : rightL l = false := by
  rw [← Bool.not_eq_true, rightL_iff]
  intro h9
  have h1 := h9.2.2
  rw [← List.take_append_drop (j + 1) l, h, List.nodup_append] at h1
  have h2 := h1.1
  rw [List.nodup_append] at h2
  exact h2.2.2 x hx x (by simp) rfl
theorem Plain.ints_snoc (l : List Int) (x : Int) (h : l.Nodup) (hx : x ∉ l) : (l ++ [x]).Nodup := by
  rw [List.nodup_append]
  refine ⟨h, by simp, fun a ha b hb => ?_⟩
  rw [List.mem_singleton] at hb
  subst hb
  exact fun e => hx (e ▸ ha)
set_option maxHeartbeats 1600000 in
set_option maxRecDepth 100000 in
theorem rright13_any (l : List Int) (L : Option Addr) (lc : Nat) (w : World) (hL : Rd kInt w (.slice L l.length lc) l) :
    Calls Try.prog 42 #[.slice L l.length lc] w fun ed w' => ed = .returned (.bool (rightL l)) ∧ Ext w w' := by
  have HL := Lib.hid hL
  obtain ⟨_, _, hsl, hlc⟩ := hL.slice
  cases hsl
  clear hL
  by_cases hbig : 1000 < l.length
  · have HR : Hid (rightL l = false) := Lib.hid (by rw [← Bool.not_eq_true, rightL_iff]; omega)
    have hd : decide ((1000 : Int) < l.length) = true := decide_eq_true (by omega)
    go_enter Try.func42, Try.ntmps42
    go_wp2_with fail
    go_ret
    exact ⟨ret_bool HR.out.symm, Ext.refl _⟩
  have hd : decide ((1000 : Int) < l.length) = false := decide_eq_false (by omega)
  have hl1 : (l.length : Int) ≤ 1000 := by omega
  have hlc' : (l.length : Int) ≤ lc := by omega
  go_enter Try.func42, Try.ntmps42
  go_wp2_with fail
  go_loopw [3] (fun i wr => ∃ j : Nat, j ≤ l.length ∧ i = .int .i64 j ∧ (∀ x ∈ l.take j, 0 ≤ x ∧ x ≤ 10000) ∧ (l.take j).Nodup ∧ Ext w wr) (fun i _ => l.length - (intOf i).toNat)
  case atStart => exact ⟨0, Nat.zero_le _, rfl, by simp, by simp, Ext.refl _⟩
  case round =>
    obtain ⟨j, hj, rfl, hin, hnd, hX⟩ := hrel
    have HX := Lib.hid hX
    have HIN := Lib.hid (And.intro hin hnd)
    have hj0 : (0 : Int) ≤ j := by omega
    clear hX hin hnd
    by_cases hlt : j < l.length
    · have hlt' : (j : Int) < l.length := by omega
      obtain ⟨bl, ol, rfl, hcl⟩ := (ints_of_rd (HL.out.ext HX.out)).cells (by omega)
      have z0 := hcl j hlt
      have htk := ints_take hlt
      have hmem := ints_mem hlt
      obtain ⟨x, hx⟩ : ∃ x, l.getD j 0 = x := ⟨_, rfl⟩
      rw [hx] at z0 htk hmem
      have KS : Hid (∀ w', Ext wr w' → w'.cell? ⟨bl, ol + j, none⟩ = some (.int .i64 x) ∧ True) := Lib.hid (fun w' hE => ⟨hE.cell z0, trivial⟩)
      obtain ⟨q, hq⟩ : ∃ q, placeP (l.take j) x = q := ⟨_, rfl⟩
      have HF1 : Hid (∀ w', Ext wr w' → Calls Try.prog 39 #[.slice (some ⟨bl, ol, none⟩) j lc, .int .i64 x] w' fun ed w'' => ed = .returned (.int .i64 q) ∧ Ext wr w'') := Lib.hid fun w' hE => by
        rw [← hq]
        refine (rplace_to (l.take j) j _ lc x w' (Rd.take ((HL.out.ext HX.out).ext hE) j lc (by omega) (by omega)) (by rw [List.length_take]; omega)).mono ?_
        rintro ed w'' ⟨rfl, rfl⟩
        exact ⟨rfl, hE⟩
      have hqi := place_iff (l.take j) x
      rw [hq] at hqi
      have hjc : (j : Int) ≤ lc := by omega
      have lbl : bl < wr.heap.size := World.block_lt_of_cell? _ _ z0
      clear hcl hx z0 hq
      by_cases h1 : x < 0
      · have hd1 : decide (x < 0) = true := decide_eq_true h1
        have HR := Lib.hid (right_out l x hmem (.inl h1))
        clear htk hmem hqi h1
        go_wp2_with fail
        refine wp_region_class (Ext wr) (by kernel_rfl) (by kernel_rfl) (Ext.refl _).drew ?_
        try simp only [List.append_eq, List.cons_append, List.nil_append]
        repeat (first
          | go_big_quiet_skip
          | (go_big_quiet_want
             first
             | (go_big_quiet_op; go_big_quiet_on)
             | (unfold Oper.quiet
                apply Exists.intro
                refine ⟨fun w' hC => ?_, ?_⟩
                · (obtain ⟨k1, k2⟩ := KS.out w' hC
                   unfold Oper.quietAt
                   go_simp
                   first
                   | exact rfl
                   | (with_reducible exact HF1.out w' hC))
                go_simp
                go_big_quiet_on)
             | (go_big_quiet_op
                apply Exists.intro
                refine ⟨fun w' hC => ?_, ?_⟩
                · exact HF1.out w' hC
                go_big_quiet_on)))
        refine wpQuiet_nil ?_
        intro w9 hC9
        go_wp2_with fail
        go_ret
        exact ⟨ret_bool HR.out.symm, HX.out.trans hC9⟩
      have hd1 : decide (x < 0) = false := decide_eq_false h1
      by_cases h2 : 10000 < x
      · have hd2 : decide (10000 < x) = true := decide_eq_true h2
        have HR := Lib.hid (right_out l x hmem (.inr h2))
        clear htk hmem hqi h1 h2
        go_wp2_with fail
        refine wp_region_class (Ext wr) (by kernel_rfl) (by kernel_rfl) (Ext.refl _).drew ?_
        try simp only [List.append_eq, List.cons_append, List.nil_append]
        repeat (first
          | go_big_quiet_skip
          | (go_big_quiet_want
             first
             | (go_big_quiet_op; go_big_quiet_on)
             | (unfold Oper.quiet
                apply Exists.intro
                refine ⟨fun w' hC => ?_, ?_⟩
                · (obtain ⟨k1, k2⟩ := KS.out w' hC
                   unfold Oper.quietAt
                   go_simp
                   first
                   | exact rfl
                   | (with_reducible exact HF1.out w' hC))
                go_simp
                go_big_quiet_on)
             | (go_big_quiet_op
                apply Exists.intro
                refine ⟨fun w' hC => ?_, ?_⟩
                · exact HF1.out w' hC
                go_big_quiet_on)))
        refine wpQuiet_nil ?_
        intro w9 hC9
        go_wp2_with fail
        go_ret
        exact ⟨ret_bool HR.out.symm, HX.out.trans hC9⟩
      have hd2 : decide (10000 < x) = false := decide_eq_false h2
      by_cases h3 : x ∈ l.take j
      · have hd3 : decide (0 ≤ q) = true := decide_eq_true (hqi.2 h3)
        have HR := Lib.hid (right_twice l j x htk h3)
        clear htk hmem hqi h1 h2 h3
        go_wp2_with fail
        refine wp_region_class (Ext wr) (by kernel_rfl) (by kernel_rfl) (Ext.refl _).drew ?_
        try simp only [List.append_eq, List.cons_append, List.nil_append]
        repeat (first
          | go_big_quiet_skip
          | (go_big_quiet_want
             first
             | (go_big_quiet_op; go_big_quiet_on)
             | (unfold Oper.quiet
                apply Exists.intro
                refine ⟨fun w' hC => ?_, ?_⟩
                · (obtain ⟨k1, k2⟩ := KS.out w' hC
                   unfold Oper.quietAt
                   go_simp
                   first
                   | exact rfl
                   | (with_reducible exact HF1.out w' hC))
                go_simp
                go_big_quiet_on)
             | (go_big_quiet_op
                apply Exists.intro
                refine ⟨fun w' hC => ?_, ?_⟩
                · exact HF1.out w' hC
                go_big_quiet_on)))
        refine wpQuiet_nil ?_
        intro w9 hC9
        go_wp2_with fail
        go_ret
        exact ⟨ret_bool HR.out.symm, HX.out.trans hC9⟩
      · have hd3 : decide (0 ≤ q) = false := decide_eq_false (fun h => h3 (hqi.1 h))
        have HIN2 : Hid ((∀ x ∈ l.take (j + 1), 0 ≤ x ∧ x ≤ 10000) ∧ (l.take (j + 1)).Nodup) := Lib.hid (by
          rw [htk]
          refine ⟨fun y hy => ?_, ints_snoc _ _ HIN.out.2 h3⟩
          rw [List.mem_append, List.mem_singleton] at hy
          rcases hy with hy | hy
          · exact HIN.out.1 y hy
          · rw [hy]; omega)
        clear htk hmem hqi h1 h2 h3
        go_wp2_with fail
        refine wp_region_class (Ext wr) (by kernel_rfl) (by kernel_rfl) (Ext.refl _).drew ?_
        try simp only [List.append_eq, List.cons_append, List.nil_append]
        repeat (first
          | go_big_quiet_skip
          | (go_big_quiet_want
             first
             | (go_big_quiet_op; go_big_quiet_on)
             | (unfold Oper.quiet
                apply Exists.intro
                refine ⟨fun w' hC => ?_, ?_⟩
                · (obtain ⟨k1, k2⟩ := KS.out w' hC
                   unfold Oper.quietAt
                   go_simp
                   first
                   | exact rfl
                   | (with_reducible exact HF1.out w' hC))
                go_simp
                go_big_quiet_on)
             | (go_big_quiet_op
                apply Exists.intro
                refine ⟨fun w' hC => ?_, ?_⟩
                · exact HF1.out w' hC
                go_big_quiet_on)))
        refine wpQuiet_nil ?_
        intro w9 hC9
        go_wp2_with fail
        go_roundw
        case rel => exact ⟨j + 1, by omega, by go_num, HIN2.out.1, HIN2.out.2, HX.out.trans hC9⟩
        case measure => simp [intOf]; omega
    · obtain rfl : j = l.length := by omega
      have HR : Hid (rightL l = true) := Lib.hid (by
        have h1 := HIN.out
        rw [List.take_length] at h1
        exact (rightL_iff l).2 ⟨by omega, h1.1, h1.2⟩)
      go_wp2_with fail
      go_ret
      exact ⟨ret_bool HR.out.symm, HX.out⟩

/-- tokens, or not -/
def LbSaid (r : List Int × Bool) (w : World) (ed : Ending) (w' : World) : Prop :=
  ∃ (L : Option Addr) (c : Nat), ed = .returned (.tuple #[.slice L r.1.length c, .bool r.2]) ∧ Ow kInt w.heap.size w' (.slice L r.1.length c) r.1 ∧ Ext w w'
/-- tokens -/
def LsSaid (r : List Int) (w : World) (ed : Ending) (w' : World) : Prop :=
  ∃ (L : Option Addr) (c : Nat), ed = .returned (.slice L r.length c) ∧ Ow kInt w.heap.size w' (.slice L r.length c) r ∧ Ext w w'
set_option maxHeartbeats 1600000 in
set_option maxRecDepth 100000 in
theorem rfrom_any (l : List Int) (L : Option Addr) (lc : Nat) (x : Int) (w : World) (hL : Rd kInt w (.slice L l.length lc) l) :
    Calls Try.prog 36 #[.slice L l.length lc, .int .i64 x] w (LbSaid (fromR l x) w) := by
  have HL := Lib.hid hL
  obtain ⟨_, _, hsl, hlc⟩ := hL.slice
  cases hsl
  clear hL
  go_enter Try.func36, Try.ntmps36
  go_wp2_with fail
  refine (rplace_any l L lc x _ HL.out).mono ?_
  rintro ed w1 ⟨rfl, rfl⟩
  have hpi := place_iff l x
  have hin := fun h : x ∈ l => place_in h
  obtain ⟨p, hp⟩ : ∃ p, placeP l x = p := ⟨_, rfl⟩
  rw [hp] at hpi hin ⊢
  clear hp
  go_wp2_with fail
  refine (rright13_any l L lc _ HL.out).mono ?_
  rintro ed w2 ⟨rfl, hE2⟩
  have HX2 := Lib.hid hE2
  clear hE2
  cases hr : rightL l with
  | false =>
    have HR : Hid (fromR l x = ([], false)) := Lib.hid (by unfold fromR; rw [if_neg (by rw [hr]; simp)])
    clear hr hpi hin
    go_wp2_with fail
    exact bodyPost_ret (v := .tuple #[.slice none 0 0, .bool false]) (by simp [results, Try.results36, go_sem]) rfl (by rw [HR.out]; exact ⟨none, 0, rfl, Ow.nil _ _, HX2.out⟩)
  | true =>
    by_cases hx : x ∈ l
    · have hd : decide (p < 0) = false := decide_eq_false (by have := hpi.2 hx; omega)
      have HR : Hid (fromR l x = (l.drop (l.idxOf x) ++ l.take (l.idxOf x), true)) := Lib.hid (by unfold fromR fromL; rw [if_pos ⟨hr, hx⟩])
      have hil := List.idxOf_lt_length_of_mem hx
      have hl9 := ((rightL_iff l).1 hr).1
      have hpx := hin hx
      obtain ⟨q, hq⟩ : ∃ q, l.idxOf x = q := ⟨_, rfl⟩
      rw [hq] at HR hil hpx
      subst hpx
      have hq0 : (0 : Int) ≤ q := by omega
      have hq1 : (q : Int) ≤ l.length := by omega
      have hq2 : (q : Int) ≤ lc := by omega
      have hl2 : (l.length : Int) ≤ lc := by omega
      have HD : Hid (Rd kInt w2 (.slice (if lc = q then L else Option.map (fun x => x.add q) L) (l.length - q) (lc - q)) (l.drop q)) := Lib.hid (Rd.sliced (HL.out.ext HX2.out) rfl q (by omega))
      have HT : Hid (Rd kInt w2 (.slice L q lc) (l.take q)) := Lib.hid (Rd.take (HL.out.ext HX2.out) q lc (by omega) (by omega))
      have HLL : Hid (l.length ≤ 1000 ∧ q ≤ l.length) := Lib.hid ⟨hl9, by omega⟩
      have hz2 := HX2.out.size
      clear hr hpi hin hx hq hl9 hil
      go_upto_region 1 with fail
      go_region_law (first
        | (refine kInt.step_app (by rfl) (.tmp 17) (.tmp 20) (by rfl) (by rfl) w2.heap.size _ [] (by rfl) (empty_at (by first | exact heap_alloc_new _ _ | exact (heap_alloc_old _ _ (by first | (simp; done) | (simp; omega) | omega)).trans (heap_alloc_new _ _) | exact heap_alloc_at (by first | (simp; done) | (simp; omega) | omega)) (by first | omega | (simp; done) | (simp; omega))) _ (l.drop q) (by rfl) (Rd.ext HD.out (by repeat (first | (with_reducible exact Ext.refl _) | (with_reducible assumption) | refine Ext.alloc ?_ _ | refine Ext.drew ?_ | refine Ext.drewN ?_ _))) (by rw [List.length_drop, List.length_nil]; have := HLL.out; omega) (by first | omega | (simp; done) | (simp; omega)) ?_
           intro v5 w5 hown5 hgrow5 hat5
           have hx5 : Ext w2 w5 := Ext.grown (by repeat (first | (with_reducible exact Ext.refl _) | (with_reducible assumption) | refine Ext.alloc ?_ _ | refine Ext.drew ?_ | refine Ext.drewN ?_ _)) hgrow5 (fun b hb => by cases hb; simp)
           rw [List.nil_append] at hown5
           have hs5 := hx5.size)
        | (refine kInt.step_app (by rfl) (.tmp 21) (.tmp 24) (by rfl) (by rfl) w2.heap.size _ (l.drop q) (by rfl) (Ow.ext hown5 (by repeat (first | (with_reducible exact Ext.refl _) | (with_reducible assumption) | refine Ext.alloc ?_ _ | refine Ext.drew ?_ | refine Ext.drewN ?_ _))) _ (l.take q) (by rfl) (Rd.ext HT.out (by repeat (first | (with_reducible exact Ext.refl _) | (with_reducible assumption) | refine Ext.alloc ?_ _ | refine Ext.drew ?_ | refine Ext.drewN ?_ _))) (by rw [List.length_drop, List.length_take]; have := HLL.out; omega) (by first | omega | (simp; omega)) ?_
           intro v6 w6 hown6 hgrow6 hat6
           have hx6 : Ext w2 w6 := Ext.grown (by repeat (first | (with_reducible exact Ext.refl _) | (with_reducible assumption) | refine Ext.alloc ?_ _ | refine Ext.drew ?_ | refine Ext.drewN ?_ _)) hgrow6 (fun b hb => (hown5.lt b hb).1)
           obtain ⟨A6, c6, hv6, hc6⟩ := hown6.slice
           subst hv6)
        | fail)
      all_goals go_wp2_with fail
      all_goals exact bodyPost_ret (v := .tuple #[.slice A6 (l.drop q ++ l.take q).length c6, .bool true]) (by simp [results, Try.results36, go_sem]) rfl (by rw [HR.out]; exact ⟨A6, c6, rfl, hown6.mono hz2, HX2.out.trans hx6⟩)
    · have hd : decide (p < 0) = true := decide_eq_true (by
        refine Decidable.byContradiction fun h => hx (hpi.1 (by omega)))
      have HR : Hid (fromR l x = ([], false)) := Lib.hid (by unfold fromR; rw [if_neg (fun h => hx h.2)])
      clear hr hpi hin hx
      go_wp2_with fail
      exact bodyPost_ret (v := .tuple #[.slice none 0 0, .bool false]) (by simp [results, Try.results36, go_sem]) rfl (by rw [HR.out]; exact ⟨none, 0, rfl, Ow.nil _ _, HX2.out⟩)
end Go.Proofs.Ytllpfegnpakadaa

/- The library at integers: Index, Min. Written by wip/mk_lwi.py. -/
namespace Go.Proofs.Ytllpfegnpakadaa
open Go.BigFrame
open Go.RowKit Go.Proofs.Ytllpfegnpakadaa.Plain

set_option maxHeartbeats 3200000 in
set_option maxRecDepth 100000 in
theorem indexI (l : List Int) (L : Option Addr) (lc : Nat) (x : Int) (w : World) (hL : Rd kInt w (.slice L l.length lc) l) :
    Calls Try.prog 53 #[.slice L l.length lc, .int .i64 x] w fun ed w' => ed = .returned (.int .i64 (placeP l x)) ∧ w = w' := by
  have HL := Lib.hid hL
  have hm := hL.len
  have hm' : (l.length : Int) ≤ 9223372036854775807 := by omega
  clear hL hm
  go_enter Try.func53, Try.ntmps53
  go_wp2_with fail
  go_loopw [8] (fun i wr => ∃ j : Nat, j ≤ l.length ∧ i = .int .i64 j ∧ x ∉ l.take j ∧ w = wr) (fun i _ => l.length - (intOf i).toNat)
  case atStart => exact ⟨0, Nat.zero_le _, rfl, by simp, rfl⟩
  case round =>
    obtain ⟨j, hj, rfl, hno, rfl⟩ := hrel
    have hj0 : (0 : Int) ≤ j := by omega
    by_cases hlt : j < l.length
    · have hlt' : (j : Int) < l.length := by omega
      obtain ⟨bl, ol, rfl, z0⟩ := int_at9 HL.out j hlt
      have htk := ints_take hlt
      have hpl := fun e => place_is hno hlt e
      obtain ⟨y, hy⟩ : ∃ y, l.getD j 0 = y := ⟨_, rfl⟩
      rw [hy] at z0 htk hpl
      by_cases he : y = x
      · have HR := Lib.hid (hpl he).1
        have e1 : (x == y) = true := by simp [he]
        clear htk hpl hy he hno
        go_wp2_with fail
        go_ret
        exact ⟨ret_int HR.out.symm, rfl⟩
      · have e1 : (x == y) = false := by simp [Ne.symm he]
        have HNO : Hid (x ∉ l.take (j + 1)) := Lib.hid (by
          rw [htk, List.mem_append, List.mem_singleton]
          rintro (h | h)
          · exact hno h
          · exact he h.symm)
        clear htk hpl hy he hno
        go_wp2_with fail
        go_roundw
        case rel => exact ⟨j + 1, by omega, by go_num, HNO.out, by first | rfl | trivial⟩
        case measure => simp [intOf]; omega
    · obtain rfl : j = l.length := by omega
      have HR : Hid (placeP l x = -1) := Lib.hid (place_no (by rw [List.take_length] at hno; exact hno))
      clear hno
      go_wp2_with fail
      go_ret
      exact ⟨ret_int HR.out.symm, rfl⟩
theorem Plain.fold_min_take (l : List Int) (j : Nat) (h : j < l.length) (a : Int) : (l.take (j + 1)).foldl min a = min ((l.take j).foldl min a) (l.getD j 0) := by
  rw [ints_take h, List.foldl_append]; rfl
set_option maxHeartbeats 3200000 in
set_option maxRecDepth 100000 in
theorem minI (l : List Int) (L : Option Addr) (lc : Nat) (w : World) (hL : Rd kInt w (.slice L l.length lc) l) (hne : l ≠ []) (hl : l.length ≤ 1000000) :
    Calls Try.prog 54 #[.slice L l.length lc] w fun ed w' => ed = .returned (.int .i64 (leastL l)) ∧ w = w' := by
  have HL := Lib.hid hL
  have hpos : 0 < l.length := List.length_pos_iff.2 hne
  have hpos' : (1 : Int) ≤ l.length := by omega
  have hl' : (l.length : Int) ≤ 1000000 := by omega
  have hd0 : decide ((l.length : Int) < 1) = false := decide_eq_false (by omega)
  have hd0N : decide (l.length < 1) = false := decide_eq_false (by omega)
  obtain ⟨b0, o0, hb0, z00⟩ := int_at9 hL 0 hpos
  have z0 : w.cell? ⟨b0, o0, none⟩ = some (.int .i64 (l.getD 0 0)) := z00
  subst hb0
  have HNE := Lib.hid hne
  obtain ⟨h0, hh0⟩ : ∃ h, l.getD 0 0 = h := ⟨_, rfl⟩
  have HH0 := Lib.hid hh0
  rw [hh0] at z0
  have H1 : Hid ((l.take 1).foldl min h0 = h0) := Lib.hid (by
    have e := fold_min_take l 0 hpos h0
    rw [hh0] at e
    rw [show (1 : Nat) = 0 + 1 from rfl, e]
    simp)
  clear hL hne z00 hh0
  have lb0 : b0 < w.heap.size := World.block_lt_of_cell? _ _ z0
  go_enter Try.func54, Try.ntmps54
  go_wp2_with fail
  clear z0
  go_loopw [3, 4] (fun m i wr => ∃ j : Nat, (1 ≤ j ∧ j ≤ l.length) ∧ i = .int .i64 j ∧ m = .int .i64 ((l.take j).foldl min h0) ∧ w = wr) (fun _ i _ => l.length - (intOf i).toNat)
  case atStart => exact ⟨1, ⟨Nat.le_refl _, hpos⟩, rfl, by rw [H1.out], rfl⟩
  case round =>
    obtain ⟨j, ⟨hj1, hj⟩, rfl, rfl, rfl⟩ := hrel
    have hj0 : (0 : Int) ≤ j := by omega
    by_cases hlt : j < l.length
    · have hlt' : (j : Int) < l.length := by omega
      obtain ⟨b1, o1, hb1, z1⟩ := int_at9 HL.out j hlt
      cases hb1
      have htk := fold_min_take l j hlt h0
      obtain ⟨y, hy⟩ : ∃ y, l.getD j 0 = y := ⟨_, rfl⟩
      obtain ⟨a, ha⟩ : ∃ a, (l.take j).foldl min h0 = a := ⟨_, rfl⟩
      rw [hy, ha] at htk
      rw [hy] at z1
      rw [ha]
      clear hy ha
      rcases Int.lt_trichotomy a y with hc | hc | hc
      · have HTK : Hid ((l.take (j + 1)).foldl min h0 = a) := Lib.hid (by rw [htk]; omega)
        clear htk
        go_wp2_with fail
        go_roundw
        case rel => exact ⟨j + 1, ⟨by omega, by omega⟩, by go_num, by rw [HTK.out], by first | rfl | trivial⟩
        case measure => simp [intOf]; omega
      · have HTK : Hid ((l.take (j + 1)).foldl min h0 = y) := Lib.hid (by rw [htk]; omega)
        subst hc
        clear htk
        go_wp2_with fail
        go_roundw
        case rel => exact ⟨j + 1, ⟨by omega, by omega⟩, by go_num, by rw [HTK.out], by first | rfl | trivial⟩
        case measure => simp [intOf]; omega
      · have HTK : Hid ((l.take (j + 1)).foldl min h0 = y) := Lib.hid (by rw [htk]; omega)
        clear htk
        go_wp2_with fail
        go_roundw
        case rel => exact ⟨j + 1, ⟨by omega, by omega⟩, by go_num, by rw [HTK.out], by first | rfl | trivial⟩
        case measure => simp [intOf]; omega
    · obtain rfl : j = l.length := by omega
      have hll : (l.take l.length).foldl min h0 = leastL l := by
        rw [List.take_length, ← HH0.out]
        unfold leastL
        obtain ⟨a, t, rfl⟩ := List.exists_cons_of_ne_nil HNE.out
        rfl
      have HLL := Lib.hid hll
      rw [hll]
      clear hll
      go_wp2_with fail
      go_ret
      exact ⟨rfl, rfl⟩
end Go.Proofs.Ytllpfegnpakadaa

/- Integers of one's own: a cell is stored, read. Written by wip/tools/pp.py out of wip/raw. -/
namespace Go.Proofs.Ytllpfegnpakadaa
open Go.BigFrame
open Go.RowKit Go.Proofs.Ytllpfegnpakadaa.Plain

/-- an integer of one's own is stored -/
theorem Ow.setZ {B g n c : Nat} {w : World} {M : List Int} (h : Ow kInt B w (.slice (some ⟨g, 0, none⟩) n c) M) {u : Nat} {v : Int} (hu : u < M.length) (hv : in64 v) :
    Ow kInt B (w.setCell ⟨g, u, none⟩ (.int .i64 v)) (.slice (some ⟨g, 0, none⟩) n c) (M.set u v) := by
  have h1 := h.set (j := u) (i := 0) (x := v) (u := .int .i64 v) hu (by decide) rfl hv
  rw [show u * kInt.n + 0 = u from by show u * 1 + 0 = u; omega] at h1
  exact h1
theorem Ow.atZ {B g n c : Nat} {w : World} {M : List Int} (h : Ow kInt B w (.slice (some ⟨g, 0, none⟩) n c) M) {u : Nat} (hu : u < M.length) :
    w.cell? ⟨g, u, none⟩ = some (.int .i64 (M.getD u 0)) ∧ (∀ j, w.frozen? ⟨g, j, none⟩ = false) ∧ B ≤ g ∧ g < w.heap.size := by
  obtain ⟨g', eg, h1, h2, h3, h4⟩ := h.pos (by omega)
  cases eg
  have z := h3 u hu 0 _ rfl
  rw [show u * kInt.n + 0 = u from by show u * 1 + 0 = u; omega] at z
  exact ⟨z, h4, h1, h2⟩
end Go.Proofs.Ytllpfegnpakadaa

/- Plain words of rings by places: what is cut out is what is between. No program in it. -/
namespace Go.Proofs.Ytllpfegnpakadaa.Plain
theorem cut_of {l : List Int} {x y : Int} (hx : x ∈ l) {p s : List Int} (h : l.drop (l.idxOf x + 1) ++ l.take (l.idxOf x + 1) = p ++ y :: s) (hp : y ∉ p) : cutPart l x y = p ++ [y] := by
  obtain ⟨u, v, rfl, hu⟩ := at_split hx
  rw [idx_split hu] at h
  have e1 : (u ++ x :: v).drop (u.length + 1) = v := by
    rw [show u ++ x :: v = (u ++ [x]) ++ v by simp, show u.length + 1 = (u ++ [x]).length by simp, List.drop_left]
  have e2 : (u ++ x :: v).take (u.length + 1) = u ++ [x] := by
    rw [show u ++ x :: v = (u ++ [x]) ++ v by simp, show u.length + 1 = (u ++ [x]).length by simp, List.take_left]
  rw [e1, e2] at h
  unfold cutPart
  rw [behind_split hu, show v ++ u ++ [x] = v ++ (u ++ [x]) by simp, h, idx_split hp]
  rw [show p ++ y :: s = (p ++ [y]) ++ s by simp, show p.length + 1 = (p ++ [y]).length by simp, List.take_left]
theorem filter_app3 {a p b : List Int} (ha : ∀ t ∈ a, t ∉ p) (hb : ∀ t ∈ b, t ∉ p) : (a ++ p ++ b).filter (fun t => !p.contains t) = a ++ b := by
  rw [List.filter_append, List.filter_append, filter_out ha, filter_in (fun t ht => ht), filter_out hb, List.append_nil]
theorem cut_fwd {l : List Int} {x y : Int} (hn : l.Nodup) (hx : x ∈ l) (hy : y ∈ l) (hlt : l.idxOf x < l.idxOf y) :
    cutPart l x y = (l.drop (l.idxOf x + 1)).take (l.idxOf y - l.idxOf x) ∧ l.filter (fun t => !(cutPart l x y).contains t) = l.take (l.idxOf x + 1) ++ l.drop (l.idxOf y + 1) := by
  obtain ⟨u, v, rfl, hu⟩ := at_split hx
  have hi := idx_split (v := v) hu
  rw [hi] at hlt
  have hyu : y ∉ u := fun h => by
    obtain ⟨a, b, rfl, ha⟩ := at_split h
    rw [show (a ++ y :: b) ++ x :: v = a ++ y :: (b ++ x :: v) by simp, idx_split ha] at hlt
    simp at hlt; omega
  have hyx : y ≠ x := fun h => by rw [h, hi] at hlt; omega
  have hyv : y ∈ v := by
    rw [List.mem_append, List.mem_cons] at hy
    rcases hy with h | h | h
    · exact absurd h hyu
    · exact absurd h hyx
    · exact h
  obtain ⟨p, q, rfl, hp⟩ := at_split hyv
  have hj : (u ++ x :: (p ++ y :: q)).idxOf y = u.length + 1 + p.length := by
    rw [show u ++ x :: (p ++ y :: q) = (u ++ x :: p) ++ y :: q by simp, idx_split (by simp [hyu, hyx, hp])]
    simp; omega
  have e1 : (u ++ x :: (p ++ y :: q)).drop (u.length + 1) = p ++ y :: q := by
    rw [show u ++ x :: (p ++ y :: q) = (u ++ [x]) ++ (p ++ y :: q) by simp, show u.length + 1 = (u ++ [x]).length by simp, List.drop_left]
  have e2 : (u ++ x :: (p ++ y :: q)).take (u.length + 1) = u ++ [x] := by
    rw [show u ++ x :: (p ++ y :: q) = (u ++ [x]) ++ (p ++ y :: q) by simp, show u.length + 1 = (u ++ [x]).length by simp, List.take_left]
  have hc : cutPart (u ++ x :: (p ++ y :: q)) x y = p ++ [y] := cut_of (s := q ++ (u ++ [x])) hx (by rw [hi, e1, e2]; simp) hp
  rw [hc, hi, hj, e1, e2]
  refine ⟨?_, ?_⟩
  · rw [show u.length + 1 + p.length - u.length = (p ++ [y]).length by simp; omega, show p ++ y :: q = (p ++ [y]) ++ q by simp, List.take_left]
  · have e3 : (u ++ x :: (p ++ y :: q)).drop (u.length + 1 + p.length + 1) = q := by
      rw [show u ++ x :: (p ++ y :: q) = (u ++ [x] ++ (p ++ [y])) ++ q by simp, show u.length + 1 + p.length + 1 = (u ++ [x] ++ (p ++ [y])).length by simp; omega, List.drop_left]
    rw [e3, show u ++ x :: (p ++ y :: q) = (u ++ [x]) ++ (p ++ [y]) ++ q by simp]
    rw [show u ++ x :: (p ++ y :: q) = (u ++ [x]) ++ (p ++ [y]) ++ q by simp, List.nodup_append, List.nodup_append] at hn
    obtain ⟨⟨_, _, h1⟩, _, h2⟩ := hn
    exact filter_app3 (fun t ht ht2 => h1 t ht t ht2 rfl) (fun t ht ht2 => h2 t (List.mem_append.2 (.inr ht2)) t ht rfl)
theorem cut_bwd {l : List Int} {x y : Int} (hn : l.Nodup) (hx : x ∈ l) (hy : y ∈ l) (hle : l.idxOf y ≤ l.idxOf x) :
    cutPart l x y = l.drop (l.idxOf x + 1) ++ l.take (l.idxOf y + 1) ∧ l.filter (fun t => !(cutPart l x y).contains t) = (l.drop (l.idxOf y + 1)).take (l.idxOf x - l.idxOf y) := by
  obtain ⟨u, v, rfl, hu⟩ := at_split hy
  have hj := idx_split (v := v) hu
  have e1 : (u ++ y :: v).drop (u.length + 1) = v := by
    rw [show u ++ y :: v = (u ++ [y]) ++ v by simp, show u.length + 1 = (u ++ [y]).length by simp, List.drop_left]
  have e2 : (u ++ y :: v).take (u.length + 1) = u ++ [y] := by
    rw [show u ++ y :: v = (u ++ [y]) ++ v by simp, show u.length + 1 = (u ++ [y]).length by simp, List.take_left]
  rw [hj] at hle
  obtain ⟨i, hi⟩ : ∃ i, (u ++ y :: v).idxOf x = i := ⟨_, rfl⟩
  have hil := List.idxOf_lt_length_of_mem hx
  rw [hi] at hle hil
  have hil2 : i < u.length + (v.length + 1) := by simpa using hil
  obtain ⟨k, rfl⟩ : ∃ k, i = u.length + k := ⟨i - u.length, by omega⟩
  have f1 : (u ++ y :: v).drop (u.length + k + 1) = v.drop k := by
    rw [show u.length + k + 1 = (u ++ [y]).length + k by simp; omega, show u ++ y :: v = (u ++ [y]) ++ v by simp, List.drop_append]
    simp
  have f2 : (u ++ y :: v).take (u.length + k + 1) = u ++ y :: v.take k := by
    rw [show u.length + k + 1 = (u ++ [y]).length + k by simp; omega, show u ++ y :: v = (u ++ [y]) ++ v by simp, List.take_append, List.take_of_length_le (by simp)]
    simp
  have hn2 := hn
  rw [List.nodup_append, List.nodup_cons] at hn2
  obtain ⟨_, ⟨hyv, _⟩, huv⟩ := hn2
  have hc : cutPart (u ++ y :: v) x y = (v.drop k ++ u) ++ [y] := by
    refine cut_of (s := v.take k) hx (by rw [hi, f1, f2]; simp) ?_
    rw [List.mem_append]
    rintro (h | h)
    · exact hyv (List.mem_of_mem_drop h)
    · exact hu h
  rw [hi, hj, f1, e2, e1, hc, show u.length + k - u.length = k by omega]
  refine ⟨by simp, ?_⟩
  have hs : u ++ y :: v = (u ++ [y]) ++ v.take k ++ v.drop k := by simp
  have hn3 := hn
  rw [hs, List.nodup_append, List.nodup_append] at hn3
  obtain ⟨⟨_, _, h1⟩, _, h2⟩ := hn3
  rw [hs, List.filter_append, List.filter_append, filter_in (s := u ++ [y]) (fun t ht => by
      rw [List.mem_append] at ht ⊢
      rcases ht with ht | ht
      · exact .inl (List.mem_append.2 (.inr ht))
      · exact .inr ht), filter_in (s := v.drop k) (fun t ht => List.mem_append.2 (.inl (List.mem_append.2 (.inl ht)))), filter_out]
  · simp
  · intro t ht h9
    rw [List.mem_append, List.mem_append] at h9
    rcases h9 with (h9 | h9) | h9
    · exact h2 t (List.mem_append.2 (.inr ht)) t h9 rfl
    · exact h1 t (List.mem_append.2 (.inl h9)) t ht rfl
    · exact h1 t (List.mem_append.2 (.inr h9)) t ht rfl
/-- where tokens stand, if all are there -/
def placesP (l ts : List Int) : List Int × Bool := if rightL l = true ∧ ∀ t ∈ ts, t ∈ l then (ts.map (fun t => ((l.idxOf t : Nat) : Int)), true) else ([], false)
theorem places_yes {l ts : List Int} (h : rightL l = true) (ht : ∀ t ∈ ts, t ∈ l) : placesP l ts = (ts.map (fun t => ((l.idxOf t : Nat) : Int)), true) := if_pos ⟨h, ht⟩
theorem places_no {l ts : List Int} (h : ¬ (rightL l = true ∧ ∀ t ∈ ts, t ∈ l)) : placesP l ts = ([], false) := if_neg h
end Go.Proofs.Ytllpfegnpakadaa.Plain
