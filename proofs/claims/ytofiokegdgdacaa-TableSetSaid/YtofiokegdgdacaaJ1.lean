/- Joined by wip/merge.py: NPlain, T12P, T12Q, Mem, CPlain, CBase, Row, Data, Kinds, Grew, Mono, RowM. -/
import Derived.Test.YtofiokegdgdacaaRows
import Derived.WalkKit
import Derived.Below
import Derived.Laws.OwnMore
import Derived.Deep.Draws
import Derived.Lib.Hide
import Derived.Maps.OwnSet
import Derived.Maps.AppendAt
import Derived.Deep.AppendLies
import Derived.OwnWalk
import Derived.BigQuiet
import Derived.Outline
import Derived.LoopTactic
import Derived.WalkSpells
import Derived.Deep.QuietTactic
import Derived.Lib.SliceRun
import Derived.Deep.RegionHeld3
import Derived.Laws.MakeOwn
import Derived.Deep.AppendSrc
set_option linter.unusedVariables false
set_option linter.unusedSimpArgs false
set_option linter.unnecessarySimpa false
/- Plain words of lists by a rule. No program in it. -/
namespace Go.Proofs.Ytofiokegdgdacaa.Plain
abbrev kept (keep : List Bool) (i : Nat) : Bool := keep.getD i false
theorem takeN_snoc {l : List Nat} {k : Nat} (h : k < l.length) : l.take (k + 1) = l.take k ++ [l.getD k 0] := by
  rw [List.take_succ_eq_append_getElem h, List.getD_eq_getElem?_getD, List.getElem?_eq_getElem h]; rfl
end Go.Proofs.Ytofiokegdgdacaa.Plain

/- Plain words of tables: rising lists, homes, probing. No program in it. -/
namespace Go.Proofs.Ytofiokegdgdacaa.Plain
/-- a key's home -/
def homeN (B key : Nat) : Nat := key * 2654435761 % 4294967296 / 2 ^ (32 - B)
def homeP (b : Int) (key : Nat) : Int := if b < 1 ∨ 10 < b then -1 else (homeN b.toNat key : Nat)
theorem homeN_lt (B key : Nat) (h2 : B ≤ 10) : homeN B key < 2 ^ B := by
  unfold homeN
  refine Nat.div_lt_of_lt_mul ?_
  rw [← Nat.pow_add, show 32 - B + B = 32 by omega]
  exact Nat.mod_lt _ (by decide)
/-- how many ahead are less -/
def upTo (out : List Nat) (x : Nat) : Nat := (out.takeWhile (fun y => decide (y < x))).length
theorem upTo_le (out : List Nat) (x : Nat) : upTo out x ≤ out.length := by
  unfold upTo
  exact (List.takeWhile_sublist _).length_le
theorem upTo_less : ∀ (out : List Nat) (x j : Nat), j < upTo out x → out.getD j 0 < x
  | [], x, j, h => by simp [upTo] at h
  | y :: out, x, j, h => by
    unfold upTo at h
    rw [List.takeWhile_cons] at h
    by_cases hy : y < x
    · rw [if_pos (by simpa using hy)] at h
      cases j with
      | zero => simpa using hy
      | succ j => rw [List.getD_cons_succ]; exact upTo_less out x j (by simpa [upTo] using h)
    · rw [if_neg (by simpa using hy)] at h; simp at h
theorem upTo_stop : ∀ (out : List Nat) (x : Nat), upTo out x < out.length → ¬ out.getD (upTo out x) 0 < x
  | [], x, h => by simp at h
  | y :: out, x, h => by
    unfold upTo at h ⊢
    rw [List.takeWhile_cons] at h ⊢
    by_cases hy : y < x
    · rw [if_pos (by simpa using hy)] at h ⊢
      rw [List.length_cons, List.getD_cons_succ]
      exact upTo_stop out x (by simpa [upTo] using h)
    · rw [if_neg (by simpa using hy)] at h ⊢
      simpa using hy
/-- what is found by looking on -/
theorem upTo_of (out : List Nat) (x k : Nat) (hk : k ≤ out.length) (h1 : ∀ j, j < k → out.getD j 0 < x) (h2 : k < out.length → ¬ out.getD k 0 < x) : upTo out x = k := by
  rcases Nat.lt_trichotomy (upTo out x) k with h | h | h
  · exact absurd (h1 _ h) (upTo_stop out x (by omega))
  · exact h
  · have := upTo_le out x
    exact absurd (upTo_less out x k h) (h2 (by omega))
/-- a word more of a rising list -/
def insR (out : List Nat) (x : Nat) : List Nat := if upTo out x < out.length ∧ out.getD (upTo out x) 0 = x then out else out.take (upTo out x) ++ [x] ++ out.drop (upTo out x)
def risingR (l : List Nat) : List Nat := l.foldl insR []
theorem risingR_snoc (l : List Nat) (x : Nat) : risingR (l ++ [x]) = insR (risingR l) x := by unfold risingR; rw [List.foldl_append]; rfl
theorem insR_len (out : List Nat) (x : Nat) : (insR out x).length ≤ out.length + 1 := by
  unfold insR
  split
  · omega
  · have := upTo_le out x
    simp only [List.length_append, List.length_take, List.length_drop, List.length_singleton]; omega
theorem insR_mem (out : List Nat) (x y : Nat) : y ∈ insR out x ↔ y ∈ out ∨ y = x := by
  unfold insR
  split
  · rename_i h
    constructor
    · exact .inl
    · rintro (h1 | rfl)
      · exact h1
      · rw [← h.2, List.getD_eq_getElem?_getD, List.getElem?_eq_getElem h.1]; exact List.getElem_mem h.1
  · have e := List.take_append_drop (upTo out x) out
    rw [List.append_assoc, List.mem_append, List.mem_append, List.mem_singleton]
    conv => rhs; rw [← e, List.mem_append]
    constructor
    · rintro (h | h | h)
      · exact .inl (.inl h)
      · exact .inr h
      · exact .inl (.inr h)
    · rintro ((h | h) | h)
      · exact .inl h
      · exact .inr (.inr h)
      · exact .inr (.inl h)
theorem insR_rise (out : List Nat) (x : Nat) (h : out.Pairwise (· < ·)) : (insR out x).Pairwise (· < ·) := by
  have hle := upTo_le out x
  have hless := upTo_less out x
  have hstop := upTo_stop out x
  unfold insR
  split
  · exact h
  · rename_i hno
    obtain ⟨k, hk⟩ : ∃ k, upTo out x = k := ⟨_, rfl⟩
    rw [hk] at hle hless hstop hno ⊢
    have h' := h
    rw [List.pairwise_iff_getElem] at h'
    have hbefore : ∀ y ∈ out.take k, y < x := by
      intro y hy
      obtain ⟨j, hj, rfl⟩ := List.getElem_of_mem hy
      rw [List.length_take] at hj
      have := hless j (by omega)
      rw [List.getD_eq_getElem?_getD, List.getElem?_eq_getElem (by omega)] at this
      rw [List.getElem_take]; exact this
    have hafter : ∀ y ∈ out.drop k, x < y := by
      intro y hy
      obtain ⟨j, hj, rfl⟩ := List.getElem_of_mem hy
      rw [List.length_drop] at hj
      rw [List.getElem_drop]
      have h1 := hstop (by omega)
      have h2 : out.getD k 0 ≠ x := fun e => hno ⟨by omega, e⟩
      have e1 : out.getD k 0 = out[k]'(by omega) := by rw [List.getD_eq_getElem?_getD, List.getElem?_eq_getElem (by omega)]; rfl
      rw [e1] at h1 h2
      rcases Nat.eq_zero_or_pos j with h0 | h0
      · subst h0
        have : x < out[k]'(by omega) := by omega
        simpa using this
      · have := h' k (k + j) (by omega) (by omega) (by omega)
        omega
    rw [List.pairwise_append, List.pairwise_append]
    refine ⟨⟨h.sublist (List.take_sublist _ _), List.pairwise_singleton _ _, fun a ha b hb => by rw [List.mem_singleton] at hb; subst hb; exact hbefore a ha⟩, h.sublist (List.drop_sublist _ _), fun a ha b hb => ?_⟩
    have h3 := hafter b hb
    rcases List.mem_append.1 ha with h4 | h4
    · have := hbefore a h4; omega
    · rw [List.mem_singleton] at h4; omega
theorem risingR_good : ∀ (n : Nat) (l : List Nat), l.length = n → (risingR l).Pairwise (· < ·) ∧ (∀ y, y ∈ risingR l ↔ y ∈ l) ∧ (risingR l).length ≤ n
  | 0, l, h => by
    obtain rfl : l = [] := List.eq_nil_of_length_eq_zero h
    exact ⟨List.Pairwise.nil, fun y => Iff.rfl, Nat.le_refl _⟩
  | n + 1, l, h => by
    obtain ⟨m, x, rfl⟩ : ∃ m x, l = m ++ [x] := ⟨l.dropLast, l.getLast (by intro e; subst e; simp at h), (List.dropLast_concat_getLast _).symm⟩
    rw [List.length_append, List.length_singleton] at h
    obtain ⟨h1, h2, h3⟩ := risingR_good n m (by omega)
    rw [risingR_snoc]
    refine ⟨insR_rise _ _ h1, fun y => ?_, Nat.le_trans (insR_len _ _) (by omega)⟩
    rw [insR_mem, h2, List.mem_append, List.mem_singleton]
theorem rising_one {a b : List Nat} (ha : a.Pairwise (· < ·)) (hb : b.Pairwise (· < ·)) (h : ∀ y, y ∈ a ↔ y ∈ b) : a = b := by
  have na : a.Nodup := ha.imp fun {x y} h => by omega
  have nb : b.Nodup := hb.imp fun {x y} h => by omega
  have hp : a.Perm b := (List.perm_ext_iff_of_nodup na nb).2 h
  exact hp.eq_of_pairwise (fun x y _ _ h1 h2 => by omega) ha hb
theorem risingR_self {l : List Nat} (h : l.Pairwise (· < ·)) : risingR l = l := rising_one (risingR_good _ l rfl).1 h (risingR_good _ l rfl).2.1

/-- how far from a place on until one stops -/
def probeD (stop : Option Nat → Bool) (tab : List (Option Nat)) (h : Nat) : Nat := ((List.range tab.length).find? (fun d => stop (tab.getD ((h + d) % tab.length) none))).getD 0
theorem probeD_of (stop : Option Nat → Bool) (tab : List (Option Nat)) (h d : Nat) (hd : d < tab.length) (h1 : ∀ j, j < d → stop (tab.getD ((h + j) % tab.length) none) = false) (h2 : stop (tab.getD ((h + d) % tab.length) none) = true) : probeD stop tab h = d := by
  unfold probeD
  have : (List.range tab.length).find? (fun d => stop (tab.getD ((h + d) % tab.length) none)) = some d := by
    rw [List.find?_range_eq_some]
    refine ⟨h2, List.mem_range.2 hd, fun j hj => ?_⟩
    rw [h1 j hj]; rfl
  rw [this]; rfl
theorem probe_some (stop : Option Nat → Bool) (tab : List (Option Nat)) (h : Nat) (hex : ∃ p, p < tab.length ∧ stop (tab.getD p none) = true) :
    probeD stop tab h < tab.length ∧ stop (tab.getD ((h + probeD stop tab h) % tab.length) none) = true ∧ ∀ j, j < probeD stop tab h → stop (tab.getD ((h + j) % tab.length) none) = false := by
  obtain ⟨p, hp, hs⟩ := hex
  have hn : 0 < tab.length := by omega
  have hd : ∃ d, d < tab.length ∧ stop (tab.getD ((h + d) % tab.length) none) = true := by
    refine ⟨(p + (tab.length - h % tab.length)) % tab.length, Nat.mod_lt _ hn, ?_⟩
    have hh := Nat.mod_lt h hn
    have e : (h + (p + (tab.length - h % tab.length)) % tab.length) % tab.length = p := by
      rw [Nat.add_mod, Nat.mod_mod, ← Nat.add_mod, Nat.add_mod]
      have e2 : h % tab.length + (p + (tab.length - h % tab.length)) = p + tab.length := by omega
      rw [← Nat.add_mod, Nat.add_comm h, Nat.add_assoc]
      have e3 : tab.length - h % tab.length + h = tab.length * (h / tab.length + 1) := by
        have := Nat.div_add_mod h tab.length
        rw [Nat.mul_add, Nat.mul_one]; omega
      rw [e3, Nat.add_mul_mod_self_left]
      exact Nat.mod_eq_of_lt hp
    rw [e]; exact hs
  cases hf : (List.range tab.length).find? (fun d => stop (tab.getD ((h + d) % tab.length) none)) with
  | none =>
    exfalso
    obtain ⟨d, hd1, hd2⟩ := hd
    rw [List.find?_eq_none] at hf
    exact hf d (List.mem_range.2 hd1) hd2
  | some d =>
    have he : probeD stop tab h = d := by unfold probeD; rw [hf]; rfl
    rw [he]
    rw [List.find?_range_eq_some] at hf
    refine ⟨List.mem_range.1 hf.2.1, hf.1, fun j hj => ?_⟩
    have := hf.2.2 j hj
    simpa using this
end Go.Proofs.Ytofiokegdgdacaa.Plain

/- Plain words of tables: filled, made, keys, what is found. No program in it. -/
namespace Go.Proofs.Ytofiokegdgdacaa.Plain
abbrev Tab := List (Option Nat)
def cellsT (tab : Tab) : List Nat := tab.map (fun o => o.getD 0)
def fullT (tab : Tab) : List Bool := tab.map Option.isSome
theorem cellsT_len (tab : Tab) : (cellsT tab).length = tab.length := List.length_map ..
theorem fullT_len (tab : Tab) : (fullT tab).length = tab.length := List.length_map ..
theorem cellsT_set (tab : Tab) (p x : Nat) : cellsT (tab.set p (some x)) = (cellsT tab).set p x := by unfold cellsT; rw [List.map_set]; rfl
theorem fullT_set (tab : Tab) (p x : Nat) : fullT (tab.set p (some x)) = (fullT tab).set p true := by unfold fullT; rw [List.map_set]; rfl
theorem fullT_at (tab : Tab) (p : Nat) : (fullT tab).getD p false = (tab.getD p none).isSome := by
  unfold fullT
  rw [List.getD_eq_getElem?_getD, List.getD_eq_getElem?_getD, List.getElem?_map]
  cases tab[p]? <;> rfl
theorem cellsT_at (tab : Tab) (p : Nat) : (cellsT tab).getD p 0 = (tab.getD p none).getD 0 := by
  unfold cellsT
  rw [List.getD_eq_getElem?_getD, List.getD_eq_getElem?_getD, List.getElem?_map]
  cases tab[p]? <;> rfl
def isNo (o : Option Nat) : Bool := o.isNone
/-- where a word goes -/
def spotT (B : Nat) (tab : Tab) (x : Nat) : Nat := (homeN B x + probeD isNo tab (homeN B x)) % tab.length
def putT (B : Nat) (tab : Tab) (x : Nat) : Tab := tab.set (spotT B tab x) (some x)
def fillT (B : Nat) (l : List Nat) : Tab := l.foldl (putT B) (List.replicate (2 ^ B) none)
theorem fillT_snoc (B : Nat) (l : List Nat) (x : Nat) : fillT B (l ++ [x]) = putT B (fillT B l) x := by unfold fillT; rw [List.foldl_append]; rfl
theorem getT_set (tab : Tab) (p q x : Nat) (hp : p < tab.length) : (tab.set p (some x)).getD q none = if p = q then some x else tab.getD q none := by
  rw [List.getD_eq_getElem?_getD, List.getElem?_set]
  by_cases h : p = q
  · subst h; rw [if_pos rfl, if_pos hp, if_pos rfl]; rfl
  · rw [if_neg h, if_neg h, List.getD_eq_getElem?_getD]
structure Inv (B : Nat) (tab : Tab) (pre : List Nat) : Prop where
  len : tab.length = 2 ^ B
  cnt : tab.countP Option.isSome = pre.length
  mem1 : ∀ p x, tab.getD p none = some x → x ∈ pre
  mem2 : ∀ x, x ∈ pre → ∃ p, p < tab.length ∧ tab.getD p none = some x
  inj : ∀ p q x, tab.getD p none = some x → tab.getD q none = some x → p = q
  reach : ∀ p x, tab.getD p none = some x → ∃ d, d < tab.length ∧ p = (homeN B x + d) % tab.length ∧ ∀ j, j < d → (tab.getD ((homeN B x + j) % tab.length) none).isSome = true
theorem Inv.room {B : Nat} {tab : Tab} {pre : List Nat} (h : Inv B tab pre) (hr : pre.length < 2 ^ B) : ∃ p, p < tab.length ∧ isNo (tab.getD p none) = true := by
  refine Decidable.byContradiction fun hno => ?_
  have hall : ∀ o ∈ tab, Option.isSome o = true := by
    intro o ho
    obtain ⟨p, hp, rfl⟩ := List.getElem_of_mem ho
    refine Decidable.byContradiction fun hs => hno ⟨p, hp, ?_⟩
    unfold isNo
    rw [List.getD_eq_getElem?_getD, List.getElem?_eq_getElem hp]
    simpa using hs
  have h1 := h.cnt
  rw [List.countP_eq_length.2 hall, h.len] at h1
  omega
theorem inv_nil (B : Nat) : Inv B (List.replicate (2 ^ B) none) [] := by
  have hno : ∀ p x, (List.replicate (2 ^ B) (none : Option Nat)).getD p none = some x → False := by
    intro p x h
    rw [List.getD_eq_getElem?_getD, List.getElem?_replicate] at h
    split at h <;> cases h
  refine ⟨List.length_replicate .., ?_, fun p x h => (hno p x h).elim, by simp, fun p q x h _ => (hno p x h).elim, fun p x h => (hno p x h).elim⟩
  rw [List.countP_replicate]; rfl
theorem Inv.put {B : Nat} {tab : Tab} {pre : List Nat} (h : Inv B tab pre) {x : Nat} (hx : x ∉ pre) (hr : pre.length < 2 ^ B) : Inv B (putT B tab x) (pre ++ [x]) := by
  obtain ⟨d1, d2, d3⟩ := probe_some isNo tab (homeN B x) (h.room hr)
  have hn : 0 < tab.length := by omega
  have hs : spotT B tab x < tab.length := Nat.mod_lt _ hn
  have hfree : tab.getD (spotT B tab x) none = none := by
    have : isNo (tab.getD (spotT B tab x) none) = true := d2
    unfold isNo at this
    simpa using this
  obtain ⟨s, hsp⟩ : ∃ s, spotT B tab x = s := ⟨_, rfl⟩
  have hsd : s = (homeN B x + probeD isNo tab (homeN B x)) % tab.length := hsp.symm
  unfold putT
  rw [hsp] at hs hfree ⊢
  have hg : ∀ q, (tab.set s (some x)).getD q none = if s = q then some x else tab.getD q none := fun q => getT_set tab s q x hs
  have hlen : (tab.set s (some x)).length = tab.length := List.length_set ..
  have hxno : ∀ q, tab.getD q none ≠ some x := fun q e => hx (h.mem1 q x e)
  refine ⟨hlen.trans h.len, ?_, fun p y hp => ?_, fun y hy => ?_, fun p q y hp hq => ?_, fun p y hp => ?_⟩
  · rw [List.countP_set hs, h.cnt]
    have : tab[s] = none := by
      rw [List.getD_eq_getElem?_getD, List.getElem?_eq_getElem hs] at hfree
      exact hfree
    rw [this]; simp
  · rw [hg] at hp
    split at hp
    · cases hp; simp
    · exact List.mem_append_left _ (h.mem1 p y hp)
  · rw [List.mem_append, List.mem_singleton] at hy
    rcases hy with hy | rfl
    · obtain ⟨p, hp, hpy⟩ := h.mem2 y hy
      refine ⟨p, by rw [hlen]; exact hp, ?_⟩
      rw [hg, if_neg (fun e => by subst e; rw [hfree] at hpy; cases hpy)]
      exact hpy
    · exact ⟨s, by rw [hlen]; exact hs, by rw [hg, if_pos rfl]⟩
  · rw [hg] at hp hq
    split at hp
    · cases hp
      split at hq
      · omega
      · exact absurd hq (hxno q)
    · split at hq
      · cases hq; exact absurd hp (hxno p)
      · exact h.inj p q y hp hq
  · rw [hlen]
    rw [hg] at hp
    have hkeep : ∀ q, (tab.getD q none).isSome = true → ((tab.set s (some x)).getD q none).isSome = true := by
      intro q hq
      rw [hg]
      split
      · rfl
      · exact hq
    split at hp
    · rename_i e
      cases hp
      refine ⟨probeD isNo tab (homeN B x), d1, by rw [← e]; exact hsd, fun j hj => hkeep _ ?_⟩
      have := d3 j hj
      unfold isNo at this
      cases ho : tab.getD ((homeN B x + j) % tab.length) none with
      | none => rw [ho] at this; cases this
      | some _ => rfl
    · obtain ⟨d, e1, e2, e3⟩ := h.reach p y hp
      exact ⟨d, e1, e2, fun j hj => hkeep _ (e3 j hj)⟩
theorem fill_inv (B : Nat) : ∀ (n : Nat) (l : List Nat), l.length = n → l.Nodup → n < 2 ^ B → Inv B (fillT B l) l
  | 0, l, h, _, _ => by
    obtain rfl : l = [] := List.eq_nil_of_length_eq_zero h
    exact inv_nil B
  | n + 1, l, h, hnd, hr => by
    obtain ⟨m, x, rfl⟩ : ∃ m x, l = m ++ [x] := ⟨l.dropLast, l.getLast (by intro e; subst e; simp at h), (List.dropLast_concat_getLast _).symm⟩
    rw [List.length_append, List.length_singleton] at h
    rw [List.nodup_append] at hnd
    rw [fillT_snoc]
    refine (fill_inv B n m (by omega) hnd.1 (by omega)).put (fun hx => ?_) (by omega)
    exact hnd.2.2 x hx x (by simp) rfl
/-- a table, as it is handed in -/
structure Tb where
  bits : Int
  cells : List Nat
  full : List Bool
deriving DecidableEq
def noTb : Tb := ⟨0, [], []⟩
def tbOf (B : Nat) (l : List Nat) : Tb := ⟨B, cellsT (fillT B l), fullT (fillT B l)⟩
def makeP (b : Int) (keys : List Nat) : Tb × Int :=
  if b < 1 ∨ 10 < b then (noTb, 1) else if 2 ^ b.toNat * 3 / 4 < (risingR keys).length then (noTb, 2) else (tbOf b.toNat (risingR keys), 0)
def keysT (cells : List Nat) (full : List Bool) (n : Nat) : List Nat := ((List.range n).filter (fun i => full.getD i false)).map (fun i => cells.getD i 0)
theorem keysT_succ (cells : List Nat) (full : List Bool) (n : Nat) : keysT cells full (n + 1) = keysT cells full n ++ (if full.getD n false = true then [cells.getD n 0] else []) := by
  unfold keysT
  rw [List.range_succ, List.filter_append, List.map_append]
  congr 1
  by_cases h : full.getD n false = true
  · rw [if_pos h, List.filter_cons, if_pos h]; rfl
  · rw [if_neg h, List.filter_cons, if_neg h]; rfl
def keysP (t : Tb) : List Nat := risingR (keysT t.cells t.full (min t.full.length t.cells.length))
def sameTb (a b : Tb) : Bool := decide (a.bits = b.bits) && decide (a.full = b.full) && decide (a.cells = b.cells)
theorem sameTb_iff (a b : Tb) : sameTb a b = true ↔ a = b := by
  unfold sameTb
  rw [Bool.and_eq_true, Bool.and_eq_true, decide_eq_true_eq, decide_eq_true_eq, decide_eq_true_eq]
  constructor
  · rintro ⟨⟨h1, h2⟩, h3⟩
    cases a; cases b; simp_all
  · rintro rfl; exact ⟨⟨rfl, rfl⟩, rfl⟩
def rightP (t : Tb) : Bool := decide ((makeP t.bits (keysP t)).2 = 0) && sameTb (makeP t.bits (keysP t)).1 t
theorem rightP_iff (t : Tb) : rightP t = true ↔ makeP t.bits (keysP t) = (t, 0) := by
  unfold rightP
  rw [Bool.and_eq_true, decide_eq_true_eq, sameTb_iff]
  constructor
  · rintro ⟨h1, h2⟩; exact Prod.ext h2 h1
  · intro h; rw [h]; exact ⟨rfl, rfl⟩
/-- a right table is the table of a rising list -/
theorem right_of (t : Tb) (h : rightP t = true) : ∃ B : Nat, 1 ≤ B ∧ B ≤ 10 ∧ t.bits = B ∧ (keysP t).Pairwise (· < ·) ∧ (keysP t).length ≤ 2 ^ B * 3 / 4 ∧ t = tbOf B (keysP t) := by
  have hm := (rightP_iff t).1 h
  have hr : (keysP t).Pairwise (· < ·) := (risingR_good _ _ rfl).1
  unfold makeP at hm
  rw [risingR_self hr] at hm
  split at hm
  · cases hm
  · rename_i h1
    split at hm
    · cases hm
    · rename_i h2
      refine ⟨t.bits.toNat, by omega, by omega, by omega, hr, by omega, ?_⟩
      exact (congrArg Prod.fst hm).symm
theorem inv_of {B : Nat} {l : List Nat} (hl : l.Pairwise (· < ·)) (hr : l.length ≤ 2 ^ B * 3 / 4) : Inv B (fillT B l) l := by
  have h0 : 0 < 2 ^ B := Nat.two_pow_pos B
  exact fill_inv B _ l rfl (hl.imp fun {a b} h => by omega) (by omega)
/-- the keys of a table of a rising list are the list -/
theorem keys_of {B : Nat} {l : List Nat} (hl : l.Pairwise (· < ·)) (hr : l.length ≤ 2 ^ B * 3 / 4) : keysP (tbOf B l) = l := by
  have hi := inv_of hl hr
  refine rising_one (risingR_good _ _ rfl).1 hl fun y => ?_
  show y ∈ risingR _ ↔ _
  rw [(risingR_good _ _ rfl).2.1]
  have hmin : min (tbOf B l).full.length (tbOf B l).cells.length = (fillT B l).length := by
    show min (fullT _).length (cellsT _).length = _
    rw [fullT_len, cellsT_len, Nat.min_self]
  rw [hmin]
  unfold keysT
  rw [List.mem_map]
  constructor
  · rintro ⟨i, hi1, hi2⟩
    rw [List.mem_filter, List.mem_range] at hi1
    have hf : ((fillT B l).getD i none).isSome = true := by rw [← fullT_at]; exact hi1.2
    have hc : (cellsT (fillT B l)).getD i 0 = y := hi2
    rw [cellsT_at] at hc
    cases ho : (fillT B l).getD i none with
    | none => rw [ho] at hf; cases hf
    | some z =>
      rw [ho] at hc
      have : z = y := hc
      subst this
      exact hi.mem1 i z ho
  · intro hy
    obtain ⟨p, hp, hpy⟩ := hi.mem2 y hy
    refine ⟨p, List.mem_filter.2 ⟨List.mem_range.2 hp, ?_⟩, ?_⟩
    · show (fullT _).getD p false = true
      rw [fullT_at, hpy]; rfl
    · show (cellsT _).getD p 0 = y
      rw [cellsT_at, hpy]; rfl
theorem right_made {B : Nat} {l : List Nat} (h1 : 1 ≤ B) (h2 : B ≤ 10) (hl : l.Pairwise (· < ·)) (hr : l.length ≤ 2 ^ B * 3 / 4) : rightP (tbOf B l) = true := by
  rw [rightP_iff, keys_of hl hr]
  unfold makeP
  rw [risingR_self hl, if_neg (by show ¬ ((B : Int) < 1 ∨ 10 < (B : Int)); omega), if_neg (by show ¬ (2 ^ ((B : Int)).toNat * 3 / 4 < l.length); rw [Int.toNat_natCast]; omega)]
  show (tbOf ((B : Int)).toNat l, (0 : Int)) = _
  rw [Int.toNat_natCast]
/-- what one looks for: an empty place, or the key -/
def stopF (key : Nat) (o : Option Nat) : Bool := o.isNone || decide (o = some key)
def findT (B : Nat) (tab : Tab) (key : Nat) : Nat × Nat × Bool :=
  if tab.getD ((homeN B key + probeD (stopF key) tab (homeN B key)) % tab.length) none = some key then ((homeN B key + probeD (stopF key) tab (homeN B key)) % tab.length, probeD (stopF key) tab (homeN B key) + 1, true)
  else (0, probeD (stopF key) tab (homeN B key) + 1, false)
def findP (t : Tb) (key : Nat) : Nat × Nat × Bool := if rightP t = true then findT t.bits.toNat (fillT t.bits.toNat (keysP t)) key else (0, 0, false)
/-- what is there is found, and nothing else -/
theorem find_good {B : Nat} {tab : Tab} {pre : List Nat} (h : Inv B tab pre) (hr : pre.length < 2 ^ B) (key : Nat) :
    (findT B tab key).2.2 = decide (key ∈ pre) ∧ 1 ≤ (findT B tab key).2.1 ∧ (findT B tab key).2.1 ≤ tab.length ∧
    (∀ j, j + 1 < (findT B tab key).2.1 → ∃ y, y ≠ key ∧ tab.getD ((homeN B key + j) % tab.length) none = some y) ∧
    (key ∈ pre → (findT B tab key).1 = (homeN B key + ((findT B tab key).2.1 - 1)) % tab.length ∧ tab.getD (findT B tab key).1 none = some key) ∧
    (key ∉ pre → tab.getD ((homeN B key + ((findT B tab key).2.1 - 1)) % tab.length) none = none) := by
  obtain ⟨p0, hp0, hno⟩ := h.room hr
  obtain ⟨d1, d2, d3⟩ := probe_some (stopF key) tab (homeN B key) ⟨p0, hp0, by unfold isNo at hno; unfold stopF; rw [hno]; rfl⟩
  obtain ⟨d, hd⟩ : ∃ d, probeD (stopF key) tab (homeN B key) = d := ⟨_, rfl⟩
  have hbefore : ∀ j, j < d → ∃ y, y ≠ key ∧ tab.getD ((homeN B key + j) % tab.length) none = some y := by
    intro j hj
    have := d3 j (by rw [hd]; exact hj)
    unfold stopF at this
    rw [Bool.or_eq_false_iff, decide_eq_false_iff_not] at this
    cases ho : tab.getD ((homeN B key + j) % tab.length) none with
    | none => rw [ho] at this; cases this.1
    | some y => exact ⟨y, fun e => this.2 (by rw [ho, e]), rfl⟩
  unfold findT
  rw [hd] at d1 d2 ⊢
  by_cases hf : tab.getD ((homeN B key + d) % tab.length) none = some key
  · have hin := h.mem1 _ _ hf
    rw [if_pos hf]
    refine ⟨(decide_eq_true hin).symm, by simp, by simp; omega, fun j hj => hbefore j (by simp at hj; omega), fun _ => ⟨by simp, hf⟩, fun hn => absurd hin hn⟩
  · have hnone : tab.getD ((homeN B key + d) % tab.length) none = none := by
      unfold stopF at d2
      rw [Bool.or_eq_true, decide_eq_true_eq] at d2
      rcases d2 with h9 | h9
      · simpa using h9
      · exact absurd h9 hf
    have hnin : key ∉ pre := by
      intro hin
      obtain ⟨p, hp, hpk⟩ := h.mem2 key hin
      obtain ⟨e, he1, he2, he3⟩ := h.reach p key hpk
      rcases Nat.lt_trichotomy e d with hlt | heq | hgt
      · obtain ⟨y, hy1, hy2⟩ := hbefore e hlt
        rw [← he2, hpk] at hy2
        cases hy2
        exact hy1 rfl
      · subst heq
        rw [← he2, hpk] at hnone
        cases hnone
      · have := he3 d hgt
        rw [hnone] at this
        cases this
    rw [if_neg hf]
    exact ⟨(decide_eq_false hnin).symm, by simp, by simp; omega, fun j hj => hbefore j (by simp at hj; omega), fun hin => absurd hin hnin, fun _ => by simpa using hnone⟩
end Go.Proofs.Ytofiokegdgdacaa.Plain

/- Words for memory: a slice value that reads as a list of integers; what stays of it. -/
namespace Go.Proofs.Ytofiokegdgdacaa
open Go.RowKit

/-- all blocks of the one world are in the other as they were -/
def Ext (w W : World) : Prop := Below w.heap.size w W
theorem Ext.refl (w : World) : Ext w w := Below.refl _ _
theorem Ext.trans {a b c : World} (h : Ext a b) (k : Ext b c) : Ext a c := Below.trans h (Below.mono k h.size)
theorem Ext.alloc {w W : World} (h : Ext w W) (o : Obj) : Ext w (W.alloc o) := Below.alloc h h.size o
theorem Ext.drewN {w W : World} (h : Ext w W) (n : Nat) : Ext w (W.drewN n) := ⟨h.os, h.tape, h.output, h.size, h.block⟩
theorem Ext.drew {w W : World} (h : Ext w W) : Ext w W.drew := Below.drew h
theorem Ext.setCell {w W : World} (h : Ext w W) {p : Addr} (hp : w.heap.size ≤ p.block) (u : Value) : Ext w (W.setCell p u) := Below.setCell h hp u
theorem Ext.cell {w W : World} (h : Ext w W) {a : Addr} {v : Value} (hv : w.cell? a = some v) : W.cell? a = some v := (Below.cell h (World.block_lt_of_cell? _ _ hv)).trans hv
theorem Ext.grown {w W W' : World} (h : Ext w W) {row : Option Nat} (hg : W.grownBy W' row) (hr : ∀ k, row = some k → w.heap.size ≤ k) : Ext w W' := Below.grown h hg h.size hr
theorem Ext.size {w W : World} (h : Ext w W) : w.heap.size ≤ W.heap.size := Below.size h

/-- a slice value that reads as these integers -/
def Ints (w : World) (v : Value) (xs : List Int) : Prop :=
  xs.length ≤ maxLen ∧ (∀ n ∈ xs, -9223372036854775808 ≤ n ∧ n ≤ 9223372036854775807) ∧
  ∃ A cap, v = .slice A xs.length cap ∧ xs.length ≤ cap ∧
    (0 < xs.length → ∃ b off, A = some ⟨b, off, none⟩ ∧ ∀ j, j < xs.length → w.cell? ⟨b, off + j, none⟩ = some (.int .i64 (xs.getD j 0)))

theorem Ints.ext {w W : World} {v : Value} {xs : List Int} (h : Ints w v xs) (hE : Ext w W) : Ints W v xs := by
  obtain ⟨h1, h2, A, cap, rfl, hc, h3⟩ := h
  refine ⟨h1, h2, A, cap, rfl, hc, fun hl => ?_⟩
  obtain ⟨b, off, rfl, hc⟩ := h3 hl
  exact ⟨b, off, rfl, fun j hj => hE.cell (hc j hj)⟩
theorem Ints.cells {w : World} {A : Option Addr} {n c : Nat} {xs : List Int} (h : Ints w (.slice A n c) xs) (hl : 0 < xs.length) :
    ∃ b off, A = some ⟨b, off, none⟩ ∧ ∀ j, j < xs.length → w.cell? ⟨b, off + j, none⟩ = some (.int .i64 (xs.getD j 0)) := by
  obtain ⟨_, _, A', c', hv, _, h3⟩ := h
  cases hv
  exact h3 hl
theorem Ints.nil (w : World) (A : Option Addr) (c : Nat) : Ints w (.slice A 0 c) [] := ⟨by simp, by simp, A, c, rfl, by simp, by simp⟩

/-- a store where no integer lies -/
theorem Ints.setNot {w : World} {v : Value} {xs : List Int} (h : Ints w v xs) {p : Addr} {u : Value} (hc : w.cell? p = some u) (hu : ∀ k n, u ≠ .int k n) (x : Value) : Ints (w.setCell p x) v xs := by
  obtain ⟨h1, h2, A, cap, rfl, hcap, h3⟩ := h
  refine ⟨h1, h2, A, cap, rfl, hcap, fun hl => ?_⟩
  obtain ⟨b, off, rfl, hcc⟩ := h3 hl
  refine ⟨b, off, rfl, fun j hj => ?_⟩
  rw [World.cell?_setCell_other _ _ _ _ (fun e => by subst e; rw [hcc j hj] at hc; cases hc; exact hu _ _ rfl)]
  exact hcc j hj
/-- integers that a call's own row holds -/
theorem Ints.own {w : World} {base : Nat} {e : TypeId} {v : Value} {xs : List Int} (h : w.ownsRow base e 1 v xs.length (xs.map (Value.int .i64))) (hm : xs.length ≤ maxLen)
    (hb : ∀ n ∈ xs, -9223372036854775808 ≤ n ∧ n ≤ 9223372036854775807) : Ints w v xs := by
  rcases h.2 with ⟨rfl, hx⟩ | ⟨g, cap, cur, hv, hg, hh, hnc, h4⟩
  · obtain rfl : xs = [] := by simpa using hx
    exact Ints.nil w _ _
  · refine ⟨hm, hb, some ⟨g, 0, none⟩, cap, hv, hnc, fun hl => ⟨g, 0, rfl, fun j hj => ?_⟩⟩
    have hx := h.cells (g := g) (by rw [hv]; rfl) j (.int .i64 (xs.getD j 0)) (by
      rw [List.getElem?_map, List.getD_eq_getElem?_getD, List.getElem?_eq_getElem hj]; rfl)
    have e : (⟨g, 0, none⟩ : Addr).add j = ⟨g, 0 + j, none⟩ := by
      by_cases h0 : j = 0
      · subst h0; rfl
      · simp [Addr.add, h0]
    rw [e] at hx
    exact hx

/-- a region whose order is open, over a class of worlds -/
theorem wp_region_class {P : Program} {id : Nat} {Q : Exit → Act → World → Prop} {a : Act} {w : World} {l : List Oper} (C : World → Prop) (hm : P.follows .mixedOrders = true) (hB : Region.lexB .any l.toArray = true) (hC : C w.drew)
    (h : wpQuiet P l.toArray C (fun a' => ∀ w', C w' → Q .normal a' w') l a) : (Code.region id l.toArray true).wp P Q a w :=
  wp_region_quiet (C := C) hm hB hC (by simpa using h)
theorem ret_bool {a b : Bool} (h : a = b) : Ending.returned (.bool a) = .returned (.bool b) := by rw [h]
theorem ret_int {k : IntKind} {a b : Int} (h : a = b) : Ending.returned (.int k a) = .returned (.int k b) := by rw [h]
/-- a slice of integers that a call has made: it lies in blocks from B on -/
def Own (B : Nat) (w : World) (v : Value) (xs : List Int) : Prop :=
  w.ownsRow B 3 1 v xs.length (xs.map (Value.int .i64)) ∧ ∀ n ∈ xs, -9223372036854775808 ≤ n ∧ n ≤ 9223372036854775807
theorem Own.len {B : Nat} {w : World} {v : Value} {xs : List Int} (h : Own B w v xs) : xs.length ≤ maxLen := by
  rcases h.1.2 with ⟨_, hx⟩ | ⟨g, cap, cur, hv, hg, hh, hnc, h4, _⟩ <;> omega
theorem Own.lt {B : Nat} {w : World} {v : Value} {xs : List Int} (h : Own B w v xs) : ∀ k, v.ownBlock = some k → B ≤ k ∧ k < w.heap.size := h.1.lt
theorem Own.ext {B : Nat} {w W : World} {v : Value} {xs : List Int} (h : Own B w v xs) (hE : Ext w W) : Own B W v xs := by
  obtain ⟨⟨h1, h2⟩, hb⟩ := h
  refine ⟨⟨h1, ?_⟩, hb⟩
  rcases h2 with h2 | ⟨g, cap, cur, hv, hg, hh, hr⟩
  · exact .inl h2
  · have hlt : g < w.heap.size := by
      rcases Nat.lt_or_ge g w.heap.size with hlt | hge
      · exact hlt
      · rw [Array.getElem?_eq_none hge] at hh; cases hh
    exact .inr ⟨g, cap, cur, hv, hg, (Below.block hE g hlt).trans hh, hr⟩
theorem Own.nil (B : Nat) (w : World) : Own B w (.slice none 0 0) [] := ⟨World.ownsRow_nil _ _ _ _, by simp⟩
theorem Own.made (w : World) (cur : Array Value) (cap : Nat) {B : Nat} (hb : B ≤ w.heap.size) (hm : cap ≤ maxLen) (hs : cur.size = cap) :
    Own B (w.alloc (.cells cur 3)) (.slice (some ⟨w.heap.size, 0, none⟩) 0 cap) [] := ⟨World.ownsRow_made w cur cap hb hm (by omega), by simp⟩
theorem Own.lit (w : World) (xs : List Int) {B : Nat} (hb : B ≤ w.heap.size) (hm : xs.length ≤ maxLen) (hx : ∀ n ∈ xs, -9223372036854775808 ≤ n ∧ n ≤ 9223372036854775807) :
    Own B (w.alloc (.cells (xs.map (Value.int .i64)).toArray 3)) (.slice (some ⟨w.heap.size, 0, none⟩) xs.length xs.length) xs := by
  have h := World.ownsRow_lit (e := 3) (size := 1) w (xs.map (Value.int .i64)).toArray xs.length hb hm (by simp)
  exact ⟨by simpa using h, hx⟩
/-- a row that isn't empty, with its block -/
theorem Own.pos {B : Nat} {w : World} {A : Option Addr} {n c : Nat} {xs : List Int} (h : Own B w (.slice A n c) xs) (hl : 0 < xs.length) :
    ∃ g, A = some ⟨g, 0, none⟩ ∧ B ≤ g ∧ g < w.heap.size ∧ (∀ j, j < xs.length → w.cell? ⟨g, j, none⟩ = some (.int .i64 (xs.getD j 0))) ∧ (∀ j, w.frozen? ⟨g, j, none⟩ = false) ∧
      (∀ j u, j < xs.length → (-9223372036854775808 ≤ u ∧ u ≤ 9223372036854775807) → Own B (w.setCell ⟨g, j, none⟩ (.int .i64 u)) (.slice A n c) (xs.set j u)) := by
  obtain ⟨h1, hb⟩ := h
  have hh := h1
  rcases h1.2 with ⟨_, hx⟩ | ⟨g, cap, cur, hv, hg, hh', hnc, h4, h5, h6⟩
  · omega
  · cases hv
    refine ⟨g, rfl, hg, (hh.lt g rfl).2, fun j hj => ?_, fun j => World.ownsRow.frozenAt hh j, fun j u hj hu => ?_⟩
    · rw [World.ownsRow.cellAt hh j (by omega), List.getElem?_map, List.getD_eq_getElem?_getD, List.getElem?_eq_getElem hj]; rfl
    · have hs := World.ownsRow.stored hh j (.int .i64 u)
      refine ⟨?_, ?_⟩
      · rw [List.map_set, List.length_set]; exact hs.1
      · intro n hn
        rcases List.mem_or_eq_of_mem_set hn with h | h
        · exact hb n h
        · subst h; exact hu
theorem Own.set {B g n c : Nat} {w : World} {xs : List Int} (h : Own B w (.slice (some ⟨g, 0, none⟩) n c) xs) {j : Nat} (hj : j < xs.length) {u : Int} (hu : -9223372036854775808 ≤ u ∧ u ≤ 9223372036854775807) :
    Own B (w.setCell ⟨g, j, none⟩ (.int .i64 u)) (.slice (some ⟨g, 0, none⟩) n c) (xs.set j u) := by
  obtain ⟨g', he, _, _, _, _, hs⟩ := h.pos (by omega)
  cases he
  exact hs j u hj hu
theorem Own.setOther {B : Nat} {w : World} {v : Value} {xs : List Int} (h : Own B w v xs) {p : Addr} (hp : v.ownBlock ≠ some p.block) (u : Value) : Own B (w.setCell p u) v xs := by
  obtain ⟨⟨h1, h2⟩, hb⟩ := h
  refine ⟨⟨h1, ?_⟩, hb⟩
  rcases h2 with h2 | ⟨g, cap, cur, rfl, hg, hh, hr⟩
  · exact .inl h2
  · exact .inr ⟨g, cap, cur, rfl, hg, (Below.heap_setCell _ _ _ _ (fun e => hp (by simp [Value.ownBlock, e]))).trans hh, hr⟩
theorem Own.take {B : Nat} {w : World} {A : Option Addr} {n c : Nat} {xs : List Int} (h : Own B w (.slice A n c) xs) (k : Nat) (hk : k ≤ xs.length) (h0 : 0 < xs.length) : Own B w (.slice A k c) (xs.take k) := by
  obtain ⟨⟨h1, h2⟩, hb⟩ := h
  have hl : (xs.take k).length = k := by simp; omega
  refine ⟨⟨by simp, ?_⟩, fun n hn => hb n (List.mem_of_mem_take hn)⟩
  rw [hl]
  rcases h2 with ⟨_, h2⟩ | ⟨g, cap, cur, hv, hg, hh, hnc, hcm, hcs, ht⟩
  · omega
  · cases hv
    refine .inr ⟨g, _, cur, rfl, hg, hh, by omega, hcm, hcs, ?_⟩
    rw [List.map_take, ← ht, List.take_take, Nat.min_eq_left (by omega), Nat.mul_one]
theorem Own.mono {B B' : Nat} {w : World} {v : Value} {xs : List Int} (h : Own B w v xs) (hB : B' ≤ B) : Own B' w v xs := by
  obtain ⟨⟨h1, h2⟩, hb⟩ := h
  refine ⟨⟨h1, ?_⟩, hb⟩
  rcases h2 with h2 | ⟨g, cap, cur, hv, hg, hr⟩
  · exact .inl h2
  · exact .inr ⟨g, cap, cur, hv, by omega, hr⟩
theorem Own.setBelow {B : Nat} {w : World} {v : Value} {xs : List Int} (h : Own B w v xs) {p : Addr} (hp : p.block < B) (u : Value) : Own B (w.setCell p u) v xs :=
  ⟨ownsRow_setCell_below h.1 hp u, h.2⟩
/-- a step that writes nothing of it leaves it -/
theorem Own.kept {B : Nat} {w w' : World} {v : Value} {xs : List Int} {row : Option Nat} (h : Own B w v xs) (hg : w.grownBy w' row) (hne : v.ownBlock = none ∨ v.ownBlock ≠ row) : Own B w' v xs := ⟨h.1.kept hg hne, h.2⟩

/-- a slice of a block from B on -/
def From (B : Nat) (A : Option Addr) : Prop := ∀ a, A = some a → B ≤ a.block
theorem From.none (B : Nat) : From B none := fun a h => by cases h
theorem Own.from {B n c : Nat} {A : Option Addr} {w : World} {xs : List Int} (h : Own B w (.slice A n c) xs) : From B A := fun a ha => by
  subst ha
  rcases h.1.2 with ⟨h0, _⟩ | ⟨g, cap, cur, hv, hg, _⟩
  · cases h0
  · cases hv; exact hg
theorem From.mono {B B' : Nat} {A : Option Addr} (h : From B A) (hB : B' ≤ B) : From B' A := fun a ha => Nat.le_trans hB (h a ha)

theorem Ints.grown {w w' : World} {A : Option Addr} {n c : Nat} {xs : List Int} {row : Option Nat} (h : Ints w (.slice A n c) xs) (hg : w.grownBy w' row) (hne : ∀ a, A = some a → some a.block ≠ row) : Ints w' (.slice A n c) xs := by
  obtain ⟨h1, h2, A', cap, hv, hcap, h3⟩ := h
  cases hv
  refine ⟨h1, h2, A, c, rfl, hcap, fun hl => ?_⟩
  obtain ⟨b, off, rfl, hcc⟩ := h3 hl
  exact ⟨b, off, rfl, fun j hj => hg.cell (hcc j hj) (hne ⟨b, off, none⟩ rfl)⟩

/-- one integer, laid in a block of its own -/
theorem Ints.one (w : World) (x : Int) (c : Nat) (hc : 1 ≤ c) (hx : -9223372036854775808 ≤ x ∧ x ≤ 9223372036854775807) :
    Ints (w.alloc (.cells #[.int .i64 x] 3)) (.slice (some ⟨w.heap.size, 0, none⟩) 1 c) [x] := by
  refine ⟨by simp [maxLen], by simpa using hx, _, c, rfl, hc, fun _ => ⟨w.heap.size, 0, rfl, fun j hj => ?_⟩⟩
  obtain rfl : j = 0 := by simp at hj; omega
  simp

/-- a map value that is the set of these integers -/
def SetIs (w : World) (v : Value) (xs : List Int) : Prop :=
  ∃ (b n : Nat) (D : DataW Unit), v = .map (some b) ∧ w.ownsMap Try.prog 3 unitElem b n D ∧ ∀ c : Int, Maps.has D (.int .i64 c) = decide (c ∈ xs)
theorem SetIs.ext {w W : World} {v : Value} {xs : List Int} (h : SetIs w v xs) (hE : Ext w W) : SetIs W v xs := by
  obtain ⟨b, n, D, rfl, ⟨es, clock, hb, hr⟩, hD⟩ := h
  have hlt : b < w.heap.size := by
    rcases Nat.lt_or_ge b w.heap.size with hlt | hge
    · exact hlt
    · rw [Array.getElem?_eq_none hge] at hb; cases hb
  exact ⟨b, n, D, rfl, ⟨es, clock, (Below.block hE b hlt).trans hb, hr⟩, hD⟩
end Go.Proofs.Ytofiokegdgdacaa

/- Plain words on lists of integers: no program in it. -/
namespace Go.Proofs.Ytofiokegdgdacaa.Plain
theorem eq_of_all (xs ys : List Int) (hl : xs.length = ys.length) (h : ∀ j, j < xs.length → xs.getD j 0 = ys.getD j 0) : xs = ys := by
  apply List.ext_getElem hl
  intro i h1 h2
  have := h i h1
  simpa [List.getD_eq_getElem?_getD, List.getElem?_eq_getElem h1, List.getElem?_eq_getElem h2] using this
end Go.Proofs.Ytofiokegdgdacaa.Plain

/- Whether two lists are the same; a clone. -/
namespace Go.Proofs.Ytofiokegdgdacaa
open Go.RowKit Go.Proofs.Ytofiokegdgdacaa.Plain

def sameB (xs ys : List Int) : Bool := decide (xs = ys)

end Go.Proofs.Ytofiokegdgdacaa

/- Lists of elements of any kind (integers of a kind, bools, structs of one-cell fields): what reads as one, and what a call has made; append, for any of them. -/
namespace Go.Proofs.Ytofiokegdgdacaa
open Go.RowKit

/-- a kind of elements: their types, cells, bounds -/
structure Kd (α : Type) where
  t : TypeId
  e : TypeId
  n : Nat
  cells : α → List Value
  ok : α → Prop
  d : α
  z : Value
  bytes : Nat
  ht : Try.prog.underlying t = some (.slice e)
  info : (Try.prog.info? e).map (fun i => (i.zero, i.size, i.bytes)) = some (some z, n, bytes)
  hzs : z.cells.size = n
  pos : 0 < n
  small : bytes ≤ 256
  len : ∀ a, (cells a).length = n
  one : ∀ a, ∀ u ∈ cells a, u.oneCell' = true

section
variable {α : Type} (K : Kd α)

def Kd.flat (xs : List α) : List Value := xs.flatMap K.cells
theorem Kd.flat_len (xs : List α) : (K.flat xs).length = xs.length * K.n := by
  unfold Kd.flat
  induction xs with
  | nil => simp
  | cons h t ih => rw [List.flatMap_cons, List.length_append, ih, K.len, List.length_cons, Nat.add_mul, Nat.one_mul, Nat.add_comm]
theorem Kd.flat_app (xs ys : List α) : K.flat (xs ++ ys) = K.flat xs ++ K.flat ys := by simp [Kd.flat]
theorem Kd.flat_at (xs : List α) (j i : Nat) (hj : j < xs.length) (hi : i < K.n) : (K.flat xs)[j * K.n + i]? = (K.cells (xs.getD j K.d))[i]? := by
  induction xs generalizing j with
  | nil => simp at hj
  | cons h t ih =>
    have e : K.flat (h :: t) = K.cells h ++ K.flat t := by simp [Kd.flat]
    cases j with
    | zero => rw [e, Nat.zero_mul, Nat.zero_add, List.getElem?_append_left (by rw [K.len]; exact hi)]; rfl
    | succ j =>
      have := ih j (by simpa using hj)
      rw [e, List.getElem?_append_right (by rw [K.len, Nat.add_mul, Nat.one_mul]; omega), K.len, show (j + 1) * K.n + i - K.n = j * K.n + i by rw [Nat.add_mul, Nat.one_mul]; omega, this]
      rfl
theorem Kd.flat_mem {xs : List α} {u : Value} (h : u ∈ K.flat xs) : u.oneCell' = true := by
  obtain ⟨a, _, ha⟩ := List.mem_flatMap.1 h
  exact K.one a u ha
/-- a place in the cells: of which element, which cell of it -/
theorem Kd.split (j m : Nat) (h : j < m * K.n) : j / K.n < m ∧ j % K.n < K.n ∧ j = j / K.n * K.n + j % K.n := by
  have hp := K.pos
  refine ⟨Nat.div_lt_of_lt_mul (by rw [Nat.mul_comm]; exact h), Nat.mod_lt _ hp, ?_⟩
  rw [Nat.mul_comm]
  exact (Nat.div_add_mod j K.n).symm

/-- a slice value that reads as these -/
def Rd (w : World) (v : Value) (xs : List α) : Prop :=
  xs.length ≤ maxLen ∧ (∀ x ∈ xs, K.ok x) ∧ ∃ A cap, v = .slice A xs.length cap ∧ xs.length ≤ cap ∧
    (0 < xs.length → ∃ b off, A = some ⟨b, off, none⟩ ∧ ∀ j, j < xs.length → ∀ i u, (K.cells (xs.getD j K.d))[i]? = some u → w.cell? ⟨b, off + j * K.n + i, none⟩ = some u)
/-- a list that a call has made: it lies in blocks from B on -/
def Ow (B : Nat) (w : World) (v : Value) (xs : List α) : Prop := w.ownsRow B K.e K.n v xs.length (K.flat xs) ∧ ∀ x ∈ xs, K.ok x

variable {K}
theorem Rd.ext {w W : World} {v : Value} {xs : List α} (h : Rd K w v xs) (hE : Ext w W) : Rd K W v xs := by
  obtain ⟨h1, h2, A, cap, rfl, hc, h3⟩ := h
  refine ⟨h1, h2, A, cap, rfl, hc, fun hl => ?_⟩
  obtain ⟨b, off, rfl, hcc⟩ := h3 hl
  exact ⟨b, off, rfl, fun j hj i u hu => hE.cell (hcc j hj i u hu)⟩
theorem Rd.cells {w : World} {A : Option Addr} {n c : Nat} {xs : List α} (h : Rd K w (.slice A n c) xs) (hl : 0 < xs.length) :
    ∃ b off, A = some ⟨b, off, none⟩ ∧ ∀ j, j < xs.length → ∀ i u, (K.cells (xs.getD j K.d))[i]? = some u → w.cell? ⟨b, off + j * K.n + i, none⟩ = some u := by
  obtain ⟨_, _, A', c', hv, _, h3⟩ := h
  cases hv
  exact h3 hl
theorem Rd.nil (w : World) (A : Option Addr) (c : Nat) : Rd K w (.slice A 0 c) [] := ⟨by simp, by simp, A, c, rfl, by simp, by simp⟩
theorem Rd.slice {w : World} {v : Value} {xs : List α} (h : Rd K w v xs) : ∃ A c, v = .slice A xs.length c ∧ xs.length ≤ c := by
  obtain ⟨_, _, A, c, rfl, hc, _⟩ := h
  exact ⟨A, c, rfl, hc⟩
theorem Rd.okAt {w : World} {v : Value} {xs : List α} (h : Rd K w v xs) (j : Nat) (hj : j < xs.length) : K.ok (xs.getD j K.d) := by
  rw [List.getD_eq_getElem?_getD, List.getElem?_eq_getElem hj]; exact h.2.1 _ (List.getElem_mem _)
theorem Rd.len {w : World} {v : Value} {xs : List α} (h : Rd K w v xs) : xs.length ≤ 9223372036854775807 := by have := h.1; unfold maxLen at this; omega
theorem getDk_take (d : α) (l : List α) (k j : Nat) (h : j < k) : (l.take k).getD j d = l.getD j d := by
  simp [List.getD_eq_getElem?_getD, List.getElem?_take_of_lt h]
theorem getDk_drop (d : α) (l : List α) (k j : Nat) : (l.drop k).getD j d = l.getD (k + j) d := by
  simp [List.getD_eq_getElem?_getD, List.getElem?_drop]
theorem Rd.take {w : World} {A : Option Addr} {n c : Nat} {xs : List α} (h : Rd K w (.slice A n c) xs) (k c' : Nat) (hk : k ≤ xs.length) (hc : k ≤ c') : Rd K w (.slice A k c') (xs.take k) := by
  obtain ⟨h1, h2, A', cap, hv, hcap, h3⟩ := h
  cases hv
  have hl : (xs.take k).length = k := by rw [List.length_take]; omega
  refine ⟨by rw [hl]; omega, fun n hn => h2 n (List.mem_of_mem_take hn), A, c', by rw [hl], by omega, fun hp => ?_⟩
  rw [hl] at hp
  obtain ⟨b, off, rfl, hcc⟩ := h3 (by omega)
  refine ⟨b, off, rfl, fun j hj i u hu => ?_⟩
  rw [hl] at hj
  rw [getDk_take _ _ _ _ hj] at hu
  exact hcc j (by omega) i u hu
theorem Rd.drop {w : World} {b off n c : Nat} {xs : List α} (h : Rd K w (.slice (some ⟨b, off, none⟩) n c) xs) (k m c' : Nat) (hm : m = xs.length - k) (hc : m ≤ c') : Rd K w (.slice (some ⟨b, off + k * K.n, none⟩) m c') (xs.drop k) := by
  obtain ⟨h1, h2, A', cap, hv, hcap, h3⟩ := h
  cases hv
  have hl : (xs.drop k).length = m := by rw [List.length_drop]; omega
  refine ⟨by rw [hl]; omega, fun n hn => h2 n (List.mem_of_mem_drop hn), _, c', by rw [hl], by omega, fun hp => ?_⟩
  obtain ⟨b', off', he, hcc⟩ := h3 (by omega)
  cases he
  refine ⟨b, off + k * K.n, rfl, fun j hj i u hu => ?_⟩
  rw [hl] at hj
  rw [getDk_drop] at hu
  have := hcc (k + j) (by omega) i u hu
  rw [Nat.add_mul] at this
  rw [show off + k * K.n + j * K.n + i = off + (k * K.n + j * K.n) + i by omega]
  exact this
theorem add_atk (b off j : Nat) : (⟨b, off, none⟩ : Addr).add j = ⟨b, off + j, none⟩ := by
  by_cases h0 : j = 0
  · subst h0; rfl
  · simp [Addr.add, h0]
/-- .. as the walk writes it, where the address is open -/
theorem Rd.dropAdd {w : World} {ad : Addr} {n c : Nat} {xs : List α} (h : Rd K w (.slice (some ad) n c) xs) (k s m c' : Nat) (hs : s = k * K.n) (hm : m = xs.length - k) (hc : m ≤ c') : Rd K w (.slice (some (ad.add s)) m c') (xs.drop k) := by
  subst hs
  by_cases h0 : xs.drop k = []
  · have : m = 0 := by have := congrArg List.length h0; rw [List.length_drop] at this; simp at this; omega
    subst this
    rw [h0]
    exact Rd.nil _ _ _
  · have hl : 0 < xs.length := by
      cases xs with
      | nil => simp at h0
      | cons a l => simp
    obtain ⟨b, off, he, _⟩ := h.cells hl
    cases he
    rw [add_atk]
    exact h.drop k m c' hm hc
/-- the cells, at their address -/
theorem Rd.at_ {w : World} {ad : Addr} {n c : Nat} {xs : List α} (h : Rd K w (.slice (some ad) n c) xs) : ∀ j u, (K.flat xs)[j]? = some u → w.cell? (ad.add j) = some u := by
  intro j u hu
  have hj : j < xs.length * K.n := by
    rw [← K.flat_len]
    rcases Nat.lt_or_ge j (K.flat xs).length with hlt | hge
    · exact hlt
    · rw [List.getElem?_eq_none hge] at hu; cases hu
  obtain ⟨h1, h2, h3⟩ := K.split j xs.length hj
  obtain ⟨b, off, he, hcc⟩ := h.cells (Nat.lt_of_le_of_lt (Nat.zero_le _) h1)
  cases he
  rw [add_atk]
  rw [h3, K.flat_at xs _ _ h1 h2] at hu
  have := hcc _ h1 _ u hu
  rw [show off + j = off + j / K.n * K.n + j % K.n by omega]
  exact this
/-- a store into a cell that holds what no element's cell holds -/
theorem Rd.setNot {w : World} {v : Value} {xs : List α} (h : Rd K w v xs) {p : Addr} {u : Value} (hc : w.cell? p = some u) (hu : ∀ a, u ∉ K.cells a) (x : Value) : Rd K (w.setCell p x) v xs := by
  obtain ⟨h1, h2, A, cap, rfl, hcap, h3⟩ := h
  refine ⟨h1, h2, A, cap, rfl, hcap, fun hl => ?_⟩
  obtain ⟨b, off, rfl, hcc⟩ := h3 hl
  refine ⟨b, off, rfl, fun j hj i z hz => ?_⟩
  have hk := hcc j hj i z hz
  rw [World.cell?_setCell_other _ _ _ _ (fun e => by subst e; rw [hk] at hc; cases hc; exact hu _ (List.mem_of_getElem? hz))]
  exact hk
theorem Rd.grown {w w' : World} {A : Option Addr} {n c : Nat} {xs : List α} {row : Option Nat} (h : Rd K w (.slice A n c) xs) (hg : w.grownBy w' row) (hne : ∀ a, A = some a → some a.block ≠ row) : Rd K w' (.slice A n c) xs := by
  obtain ⟨h1, h2, A', cap, hv, hcap, h3⟩ := h
  cases hv
  refine ⟨h1, h2, A, c, rfl, hcap, fun hl => ?_⟩
  obtain ⟨b, off, rfl, hcc⟩ := h3 hl
  exact ⟨b, off, rfl, fun j hj i u hu => hg.cell (hcc j hj i u hu) (hne ⟨b, off, none⟩ rfl)⟩

theorem Ow.len {B : Nat} {w : World} {v : Value} {xs : List α} (h : Ow K B w v xs) : xs.length ≤ maxLen := by
  rcases h.1.2 with ⟨_, hx⟩ | ⟨g, cap, cur, hv, hg, hh, hnc, h4, _⟩ <;> omega
theorem Ow.lt {B : Nat} {w : World} {v : Value} {xs : List α} (h : Ow K B w v xs) : ∀ k, v.ownBlock = some k → B ≤ k ∧ k < w.heap.size := h.1.lt
theorem mul_at {n m j i : Nat} (hj : j < m) (hi : i < n) : j * n + i < m * n := by
  have : (j + 1) * n ≤ m * n := Nat.mul_le_mul_right _ hj
  rw [Nat.add_mul, Nat.one_mul] at this
  omega
theorem Ow.rd {B : Nat} {w : World} {v : Value} {xs : List α} (h : Ow K B w v xs) : Rd K w v xs := by
  have hm := h.len
  obtain ⟨h1, hb⟩ := h
  have hh := h1
  rcases h1.2 with ⟨rfl, hx⟩ | ⟨g, cap, cur, hv, hg, hh', hnc, h4, h5, h6⟩
  · obtain rfl : xs = [] := List.eq_nil_of_length_eq_zero hx
    exact Rd.nil w _ _
  · subst hv
    refine ⟨hm, hb, some ⟨g, 0, none⟩, cap, rfl, hnc, fun hl => ⟨g, 0, rfl, fun j hj i u hu => ?_⟩⟩
    have hi : i < K.n := by
      rw [← K.len (xs.getD j K.d)]
      rcases Nat.lt_or_ge i (K.cells (xs.getD j K.d)).length with hlt | hge
      · exact hlt
      · rw [List.getElem?_eq_none hge] at hu; cases hu
    rw [Nat.zero_add, World.ownsRow.cellAt hh _ (mul_at hj hi), K.flat_at xs j i hj hi]
    exact hu
theorem Ow.slice {B : Nat} {w : World} {v : Value} {xs : List α} (h : Ow K B w v xs) : ∃ A c, v = .slice A xs.length c ∧ xs.length ≤ c := h.rd.slice
theorem Ow.ext {B : Nat} {w W : World} {v : Value} {xs : List α} (h : Ow K B w v xs) (hE : Ext w W) : Ow K B W v xs := by
  obtain ⟨⟨h1, h2⟩, hb⟩ := h
  refine ⟨⟨h1, ?_⟩, hb⟩
  rcases h2 with h2 | ⟨g, cap, cur, hv, hg, hh, hr⟩
  · exact .inl h2
  · have hlt : g < w.heap.size := by
      rcases Nat.lt_or_ge g w.heap.size with hlt | hge
      · exact hlt
      · rw [Array.getElem?_eq_none hge] at hh; cases hh
    exact .inr ⟨g, cap, cur, hv, hg, (Below.block hE g hlt).trans hh, hr⟩
theorem Ow.nil (B : Nat) (w : World) : Ow K B w (.slice none 0 0) [] := ⟨World.ownsRow_nil _ _ _ _, by simp⟩
/-- a literal, in a block of its own -/
theorem Ow.lit (w : World) (xs : List α) {B p n : Nat} (cs : Array Value) (hcs : cs.toList = K.flat xs) (hn : xs.length = n) (hp : p = w.heap.size) (hB : B ≤ p) (hm : n ≤ maxLen) (hok : ∀ x ∈ xs, K.ok x) :
    Ow K B (w.alloc (.cells cs K.e)) (.slice (some ⟨p, 0, none⟩) n n) xs := by
  subst hp hn
  have h := World.ownsRow_lit (e := K.e) (size := K.n) w cs xs.length hB hm (by rw [← Array.length_toList, hcs, K.flat_len])
  rw [hcs] at h
  exact ⟨h, hok⟩
theorem Ow.mono {B B' : Nat} {w : World} {v : Value} {xs : List α} (h : Ow K B w v xs) (hB : B' ≤ B) : Ow K B' w v xs := by
  obtain ⟨⟨h1, h2⟩, hb⟩ := h
  refine ⟨⟨h1, ?_⟩, hb⟩
  rcases h2 with h2 | ⟨g, cap, cur, hv, hg, hr⟩
  · exact .inl h2
  · exact .inr ⟨g, cap, cur, hv, by omega, hr⟩
theorem Ow.kept {B : Nat} {w w' : World} {v : Value} {xs : List α} {row : Option Nat} (h : Ow K B w v xs) (hg : w.grownBy w' row) (hne : v.ownBlock = none ∨ v.ownBlock ≠ row) : Ow K B w' v xs := ⟨h.1.kept hg hne, h.2⟩
theorem Ow.setOther {B : Nat} {w : World} {v : Value} {xs : List α} (h : Ow K B w v xs) {p : Addr} (hp : v.ownBlock ≠ some p.block) (u : Value) : Ow K B (w.setCell p u) v xs := by
  obtain ⟨⟨h1, h2⟩, hb⟩ := h
  refine ⟨⟨h1, ?_⟩, hb⟩
  rcases h2 with h2 | ⟨g, cap, cur, rfl, hg, hh, hr⟩
  · exact .inl h2
  · exact .inr ⟨g, cap, cur, rfl, hg, (Below.heap_setCell _ _ _ _ (fun e => hp (by simp [Value.ownBlock, e]))).trans hh, hr⟩
theorem Ow.setBelow {B : Nat} {w : World} {v : Value} {xs : List α} (h : Ow K B w v xs) {p : Addr} (hp : p.block < B) (u : Value) : Ow K B (w.setCell p u) v xs :=
  h.setOther (fun e => by have := (h.lt _ e).1; omega) u
theorem Ow.from {B n c : Nat} {A : Option Addr} {w : World} {xs : List α} (h : Ow K B w (.slice A n c) xs) : From B A := fun a ha => by
  subst ha
  rcases h.1.2 with ⟨h0, _⟩ | ⟨g, cap, cur, hv, hg, _⟩
  · cases h0
  · cases hv; exact hg
/-- one that isn't empty, with its block -/
theorem Ow.pos {B : Nat} {w : World} {A : Option Addr} {n c : Nat} {xs : List α} (h : Ow K B w (.slice A n c) xs) (hl : 0 < xs.length) :
    ∃ g, A = some ⟨g, 0, none⟩ ∧ B ≤ g ∧ g < w.heap.size ∧ (∀ j, j < xs.length → ∀ i u, (K.cells (xs.getD j K.d))[i]? = some u → w.cell? ⟨g, j * K.n + i, none⟩ = some u) ∧ ∀ j, w.frozen? ⟨g, j, none⟩ = false := by
  have hr := h.rd
  obtain ⟨h1, hb⟩ := h
  have hh := h1
  rcases h1.2 with ⟨_, hx⟩ | ⟨g, cap, cur, hv, hg, hh', hnc, h4, h5, h6⟩
  · omega
  · cases hv
    obtain ⟨b, off, he, hcc⟩ := hr.cells hl
    cases he
    exact ⟨g, rfl, hg, (hh.lt g rfl).2, fun j hj i u hu => by have := hcc j hj i u hu; rw [Nat.zero_add] at this; exact this, fun j => World.ownsRow.frozenAt hh j⟩
theorem Kd.flat_set (K : Kd α) (xs : List α) (j i : Nat) (hj : j < xs.length) (hi : i < K.n) (x : α) (u : Value) (hx : K.cells x = (K.cells (xs.getD j K.d)).set i u) : (K.flat xs).set (j * K.n + i) u = K.flat (xs.set j x) := by
  induction xs generalizing j with
  | nil => simp at hj
  | cons h t ih =>
    have e : ∀ a, K.flat (a :: t) = K.cells a ++ K.flat t := fun a => by simp [Kd.flat]
    cases j with
    | zero =>
      rw [Nat.zero_mul, Nat.zero_add, List.set_cons_zero, e, e, hx, List.set_append_left _ _ (by rw [K.len]; exact hi)]
      rfl
    | succ j =>
      have := ih j (by simpa using hj) (by simpa using hx)
      have e2 : K.flat (h :: t.set j x) = K.cells h ++ K.flat (t.set j x) := by simp [Kd.flat]
      rw [List.set_cons_succ, e, e2, List.set_append_right _ _ (by rw [K.len, Nat.add_mul, Nat.one_mul]; omega), K.len, show (j + 1) * K.n + i - K.n = j * K.n + i by rw [Nat.add_mul, Nat.one_mul]; omega, this]
/-- a cell of an element is stored -/
theorem Ow.set {B g n c : Nat} {w : World} {xs : List α} (h : Ow K B w (.slice (some ⟨g, 0, none⟩) n c) xs) {j i : Nat} (hj : j < xs.length) (hi : i < K.n) {x : α} {u : Value} (hx : K.cells x = (K.cells (xs.getD j K.d)).set i u) (hok : K.ok x) :
    Ow K B (w.setCell ⟨g, j * K.n + i, none⟩ u) (.slice (some ⟨g, 0, none⟩) n c) (xs.set j x) := by
  have hh := h.1
  have hn : n = xs.length := by
    rcases hh.2 with ⟨h0, _⟩ | ⟨g', cap, cur, hv, _⟩
    · cases h0
    · cases hv; rfl
  subst hn
  refine ⟨?_, fun y hy => ?_⟩
  · rw [List.length_set, ← K.flat_set xs j i hj hi x u hx]
    exact (World.ownsRow.stored hh (j * K.n + i) u).1
  · rcases List.mem_or_eq_of_mem_set hy with h' | h'
    · exact h.2 y h'
    · subst h'; exact hok
theorem Ow.take {B : Nat} {w : World} {A : Option Addr} {n c : Nat} {xs : List α} (h : Ow K B w (.slice A n c) xs) (k : Nat) (hk : k ≤ xs.length) (h0 : 0 < xs.length) : Ow K B w (.slice A k c) (xs.take k) := by
  obtain ⟨⟨h1, h2⟩, hb⟩ := h
  have hl : (xs.take k).length = k := by simp; omega
  have hf : K.flat (xs.take k) = (K.flat xs).take (k * K.n) := by
    have e : K.flat xs = K.flat (xs.take k) ++ K.flat (xs.drop k) := by rw [← K.flat_app, List.take_append_drop]
    rw [e, List.take_left' (by rw [K.flat_len, hl])]
  refine ⟨⟨by rw [K.flat_len], ?_⟩, fun n hn => hb n (List.mem_of_mem_take hn)⟩
  rw [hl]
  rcases h2 with ⟨_, h2⟩ | ⟨g, cap, cur, hv, hg, hh, hnc, hcm, hcs, ht⟩
  · omega
  · cases hv
    refine .inr ⟨g, _, cur, rfl, hg, hh, by omega, hcm, hcs, ?_⟩
    rw [hf, ← ht, List.take_take, Nat.min_eq_left (Nat.mul_le_mul_right _ hk)]
/-- two lists of a call's own, of two kinds: not one block -/
theorem Ow.far {β : Type} {K' : Kd β} (hne : K.e ≠ K'.e) {B B' : Nat} {w : World} {v u : Value} {xs : List α} {ys : List β} (h : Ow K B w v xs) (h' : Ow K' B' w u ys) : ∀ k, v.ownBlock = some k → u.ownBlock ≠ some k := by
  intro k hk hk'
  rcases h.1.2 with ⟨rfl, _⟩ | ⟨g, cap, cur, rfl, _, hh, _⟩
  · simp [Value.ownBlock] at hk
  · rcases h'.1.2 with ⟨rfl, _⟩ | ⟨g', cap', cur', rfl, _, hh', _⟩
    · simp [Value.ownBlock] at hk'
    · simp only [Value.ownBlock, Option.some.injEq] at hk hk'
      subst hk
      subst hk'
      rw [hh] at hh'
      simp at hh'
      exact hne hh'.2

theorem Kd.run_app (K : Kd α) (w : World) (B : Nat) (v : Value) (xs : List α) (hown : Ow K B w v xs) (y : Value) (ys : List α) (hy : Rd K w y ys) (hl : xs.length + ys.length ≤ 1048576) (hB : B ≤ w.heap.size) :
    ∃ v' w', (Builtin.append_ #[K.t, K.t] K.t #[v, y]).run Try.prog w = .ok v' w' ∧ Ow K B w' v' (xs ++ ys) ∧ w.grownBy w' v.ownBlock ∧ (v'.ownBlock = v.ownBlock ∨ v'.ownBlock = some w.heap.size) := by
  have hy' := hy
  obtain ⟨i0, hi, hz0, hz1, hz2⟩ := info_parts K.info
  obtain ⟨hm, hb, A, cap, rfl, hcap, hc⟩ := hy
  rcases A with _ | ad
  · have h0 : ys = [] := by
      cases ys with
      | nil => rfl
      | cons a l => obtain ⟨b, off, h, _⟩ := hc (by simp); cases h
    subst h0
    have hr : (Builtin.append_ #[K.t, K.t] K.t #[v, .slice none 0 cap]).run Try.prog w = .ok v w := by
      rcases hown.1.2 with ⟨rfl, _⟩ | ⟨g, cap', cur, rfl, _, _, hnc, _⟩
      · simp [Builtin.append_, run_underlying K.ht, sizeOf, typeInfo, hi, Builtin.lenOf, Builtin.firstCells]
      · simp [Builtin.append_, run_underlying K.ht, sizeOf, typeInfo, hi, Builtin.lenOf, Builtin.firstCells, hnc, storeCells]
    exact ⟨v, w, hr, by simpa using hown, World.grownBy.refl w _, .inl rfl⟩
  · have hsm := K.small
    obtain ⟨v', w', hr, h2, h3, _, h5⟩ := run_append_own_at (P := Try.prog) w B K.t K.t K.e i0 K.z K.n K.bytes K.ht hi hz0 hz1 hz2 K.hzs K.pos v xs.length _ hown.1 ad ys.length cap (K.flat ys) (K.flat_len ys) hy'.at_
      (fun u hu => K.flat_mem hu) (by unfold maxLen; omega) (Nat.le_trans (Nat.mul_le_mul hl hsm) (by omega)) hB
    exact ⟨v', w', hr, ⟨by rw [List.length_append, K.flat_app]; exact h2, by
      intro n hn
      rcases List.mem_append.1 hn with h | h
      · exact hown.2 n h
      · exact hb n h⟩, h3, h5⟩
theorem Kd.wp_app (K : Kd α) {o : Oper} {a : Act} {w : World} {C : Act → World → Prop} {Q : Exit → Act → World → Prop} (s x : Operand)
    (ho : o.op = .call { callee := .builtin .append, args := #[s, x], argTypes := #[K.t, K.t] }) (hty : o.type = K.t)
    (B : Nat) (v : Value) (xs : List α) (h1 : a.eval s = v) (hown : Ow K B w v xs) (y : Value) (ys : List α) (hx : a.eval x = y) (hy : Rd K w y ys) (hl : xs.length + ys.length ≤ 1048576) (hB : B ≤ w.heap.size)
    (h : ∀ v' w', Ow K B w' v' (xs ++ ys) → w.grownBy w' v.ownBlock → (v'.ownBlock = v.ownBlock ∨ v'.ownBlock = some w.heap.size) → C (a.put o.dst v') w') : o.wp Try.prog a w C Q := by
  obtain ⟨v', w', hr, h2, h3, h4⟩ := K.run_app w B v xs hown y ys hy hl hB
  unfold Oper.wp execOp
  simp only [ho, hty, resolve, invoke, builtin, Sem.run_bind, Sem.run_pure, Result.andThen_ok, List.map_toArray, List.map_cons, List.map_nil, h1, hx, hr]
  exact h v' w' h2 h3 h4
/-- append, as the walk meets it: 'at_builtin; refine K.wpList_app (by rfl) (.tmp _) (.tmp _) (by rfl) (by rfl) BASE _ xs (by rfl) hown _ ys (by rfl) hy hl hB ?_; intro v' w' hown' hgrow' hat'' -/
theorem Kd.wpList_app (K : Kd α) {ops : Array Oper} {rest : List Oper} {o : Oper} {a : Act} {w : World} {Q : Exit → Act → World → Prop} (hw : Region.wanted o (yielded ops a.tmps) = true) (s x : Operand)
    (ho : o.op = .call { callee := .builtin .append, args := #[s, x], argTypes := #[K.t, K.t] }) (hty : o.type = K.t)
    (B : Nat) (v : Value) (xs : List α) (h1 : a.eval s = v) (hown : Ow K B w v xs) (y : Value) (ys : List α) (hx : a.eval x = y) (hy : Rd K w y ys) (hl : xs.length + ys.length ≤ 1048576) (hB : B ≤ w.heap.size)
    (h : ∀ v' w', Ow K B w' v' (xs ++ ys) → w.grownBy w' v.ownBlock → (v'.ownBlock = v.ownBlock ∨ v'.ownBlock = some w.heap.size) → wpList Try.prog ops Q rest (a.put o.dst v') w') : wpList Try.prog ops Q (o :: rest) a w :=
  wpList_step fun _ hK => by
    rw [if_pos hw]
    exact K.wp_app s x ho hty B v xs h1 hown y ys hx hy hl hB fun v' w' h2 h3 h4 => hK _ _ (h v' w' h2 h3 h4)
/-- append in a region whose order is open (an arm of 'go_region_held3', 'go_region_law') -/
theorem Kd.step_app (K : Kd α) {ops : Array Oper} {o : Oper} {a : Act} {w : World} {C : Act → World → Prop} {Q : Exit → Act → World → Prop} {E : Prop} (hw : Region.wanted o (yielded ops a.tmps) = true) (s x : Operand)
    (ho : o.op = .call { callee := .builtin .append, args := #[s, x], argTypes := #[K.t, K.t] }) (hty : o.type = K.t)
    (B : Nat) (v : Value) (xs : List α) (h1 : a.eval s = v) (hown : Ow K B w v xs) (y : Value) (ys : List α) (hx : a.eval x = y) (hy : Rd K w y ys) (hl : xs.length + ys.length ≤ 1048576) (hB : B ≤ w.heap.size)
    (h : ∀ v' w', Ow K B w' v' (xs ++ ys) → w.grownBy w' v.ownBlock → (v'.ownBlock = v.ownBlock ∨ v'.ownBlock = some w.heap.size) → C (a.put o.dst v') w') :
    if Region.wanted o (yielded ops a.tmps) = true then Oper.wp Try.prog o a w C Q else E := by
  rw [if_pos hw]
  exact K.wp_app s x ho hty B v xs h1 hown y ys hx hy hl hB h
theorem Kd.made (K : Kd α) (o : α) (ho : K.cells o = K.z.cells.toList) (n : Nat) : (madeCells K.z.cells (n * K.n)).toList = K.flat (List.replicate n o) := by
  apply List.ext_getElem?
  intro m
  by_cases hm : m < n * K.n
  · obtain ⟨h1, h2, h3⟩ := K.split m n hm
    have h4 := K.flat_at (List.replicate n o) (m / K.n) (m % K.n) (by rw [List.length_replicate]; exact h1) h2
    rw [← h3] at h4
    rw [h4, List.getD_eq_getElem?_getD, List.getElem?_replicate, if_pos h1, Option.getD_some, ho]
    have hz := K.hzs
    unfold madeCells
    rw [Array.toList_map, Array.toList_range, List.getElem?_map, List.getElem?_range hm, Option.map_some, hz, Array.getElem?_toList]
    rw [getElem!_pos K.z.cells (m % K.n) (by rw [hz]; exact h2), Array.getElem?_eq_getElem (by rw [hz]; exact h2)]
  · rw [List.getElem?_eq_none (by rw [Array.length_toList, size_madeCells]; omega), List.getElem?_eq_none (by rw [K.flat_len, List.length_replicate]; omega)]
/-- make([]T, n): lay what it gives ahead of the walk ('obtain ⟨C, hmk, hown⟩ := K.make ..') -/
theorem Kd.make (K : Kd α) (o : α) (ho : K.cells o = K.z.cells.toList) (hok : K.ok o) (n : Nat) (hn : n ≤ 1048576) :
    ∃ C : Array Value, (∀ w : World, (Instr.makeSlice K.t (.int .i64 n) (.int .i64 n)).run Try.prog w = .ok (.slice (some ⟨w.heap.size, 0, none⟩) n n) (w.alloc (.cells C K.e))) ∧
      ∀ (w : World) (B p : Nat), p = w.heap.size → B ≤ p → Ow K B (w.alloc (.cells C K.e)) (.slice (some ⟨p, 0, none⟩) n n) (List.replicate n o) := by
  refine ⟨madeCells K.z.cells (n * K.n), fun w => ?_, fun w B p hp hB => Ow.lit w _ _ (K.made o ho n) (by simp) hp hB (by unfold maxLen; omega) (fun x hx => by rw [List.mem_replicate] at hx; rw [hx.2]; exact hok)⟩
  obtain ⟨i0, hi, hz0, hz1, hz2⟩ := info_parts K.info
  have hsm := K.small
  have hb : K.bytes * n ≤ 256 * 1048576 := Nat.mul_le_mul hsm hn
  have h := run_make (P := Try.prog) w K.t K.e i0 K.z K.ht hi hz0 .i64 .i64 n n (by omega) (by omega) (by rw [hz2, ← Int.natCast_mul]; omega) (by omega)
  simp only [Int.toNat_natCast, hz1] at h
  exact h
end
end Go.Proofs.Ytofiokegdgdacaa

/- The plain data of the layers. No program in it. -/
namespace Go.Proofs.Ytofiokegdgdacaa
/-- a task: from where, up to where, whom it belongs to, for how many it waits -/
structure Tk where
  lo : Int
  hi : Int
  up : Int
  wt : Int
instance : DecidableEq Tk := fun a b => decidable_of_iff (a.lo = b.lo ∧ a.hi = b.hi ∧ a.up = b.up ∧ a.wt = b.wt) (by cases a; cases b; simp)
end Go.Proofs.Ytofiokegdgdacaa

/- The kinds of elements of this program, and their cells as the walk spells them. -/
namespace Go.Proofs.Ytofiokegdgdacaa
open Go.RowKit

def in64 (x : Int) : Prop := -9223372036854775808 ≤ x ∧ x ≤ 9223372036854775807
/-- bools -/
def kBool : Kd Bool where
  t := 23
  e := 4
  n := 1
  cells := fun x => [.bool x]
  ok := fun _ => True
  d := false
  z := .bool false
  bytes := 1
  ht := Try.underlying23
  info := by kernel_rfl
  hzs := rfl
  pos := by decide
  small := by decide
  len := fun _ => rfl
  one := fun a u hu => by simp at hu; subst hu; rfl
theorem Rd.bools {w : World} {A : Option Addr} {n c : Nat} {xs : List Bool} (h : Rd kBool w (.slice A n c) xs) (hl : 0 < xs.length) : ∃ b off, A = some ⟨b, off, none⟩ ∧ ∀ j, j < xs.length → w.cell? ⟨b, off + j, none⟩ = some (.bool (xs.getD j false)) := by
  obtain ⟨b, off, rfl, hcc⟩ := h.cells hl
  exact ⟨b, off, rfl, fun j hj => by have := hcc j hj 0 _ rfl; simpa [kBool] using this⟩
end Go.Proofs.Ytofiokegdgdacaa

/- Worlds that grew, but for the blocks of a set; lists that read the same whatever becomes of these blocks. -/
namespace Go.Proofs.Ytofiokegdgdacaa
open Go.RowKit

/-- the other world has all blocks as they were, but those of S -/
structure Grew (S : Nat → Prop) (w W : World) : Prop where
  os : W.os = w.os
  tape : W.tape = w.tape
  output : W.output = w.output
  size : w.heap.size ≤ W.heap.size
  block : ∀ b, b < w.heap.size → ¬ S b → W.heap[b]? = w.heap[b]?
theorem Grew.refl (S : Nat → Prop) (w : World) : Grew S w w := ⟨rfl, rfl, rfl, Nat.le_refl _, fun _ _ _ => rfl⟩
theorem Grew.of {S : Nat → Prop} {w W : World} (h : Ext w W) : Grew S w W := ⟨h.os, h.tape, h.output, h.size, fun b hb _ => h.block b hb⟩
theorem Grew.trans {S : Nat → Prop} {a b c : World} (h : Grew S a b) (k : Grew S b c) : Grew S a c :=
  ⟨k.os.trans h.os, k.tape.trans h.tape, k.output.trans h.output, Nat.le_trans h.size k.size, fun i hi hS => (k.block i (Nat.lt_of_lt_of_le hi h.size) hS).trans (h.block i hi hS)⟩
theorem Grew.ext {S : Nat → Prop} {a b c : World} (h : Grew S a b) (k : Ext b c) : Grew S a c := h.trans (Grew.of k)
theorem Grew.alloc {S : Nat → Prop} {w W : World} (h : Grew S w W) (o : Obj) : Grew S w (W.alloc o) := h.ext ((Ext.refl _).alloc _)
theorem Grew.drew {S : Nat → Prop} {w W : World} (h : Grew S w W) : Grew S w W.drew := h.ext (Ext.refl _).drew
theorem Grew.drewN {S : Nat → Prop} {w W : World} (h : Grew S w W) (n : Nat) : Grew S w (W.drewN n) := h.ext ((Ext.refl _).drewN n)
theorem Grew.setCell {S : Nat → Prop} {w W : World} (h : Grew S w W) {p : Addr} (hp : S p.block) (u : Value) : Grew S w (W.setCell p u) :=
  ⟨h.os, h.tape, h.output, by rw [World.size_setCell]; exact h.size, fun b hb hS => (Below.heap_setCell _ _ _ _ (fun e => hS (by first | exact e ▸ hp | (rw [e]; exact hp) | (rw [← e]; exact hp)))).trans (h.block b hb hS)⟩
theorem Grew.mono {S T : Nat → Prop} {w W : World} (h : Grew S w W) (hS : ∀ b, b < w.heap.size → S b → T b) : Grew T w W :=
  ⟨h.os, h.tape, h.output, h.size, fun b hb hT => h.block b hb (fun hs => hT (hS b hb hs))⟩
theorem Grew.cell {S : Nat → Prop} {w W : World} (h : Grew S w W) {b o : Nat} {v : Value} (hc : w.cell? ⟨b, o, none⟩ = some v) (hS : ¬ S b) : W.cell? ⟨b, o, none⟩ = some v := by
  have hb := h.block b (World.block_lt_of_cell? _ _ hc) hS
  rw [← hc]
  simp only [World.cell?, hb]
theorem Grew.frozen {S : Nat → Prop} {w W : World} (h : Grew S w W) {b : Nat} (hb : b < w.heap.size) (hS : ¬ S b) (o : Nat) : W.frozen? ⟨b, o, none⟩ = w.frozen? ⟨b, o, none⟩ := by
  have hb := h.block b hb hS
  simp only [World.frozen?, hb]
/-- a list that reads as these whatever becomes of the blocks of S -/
def RdO {α : Type} (K : Kd α) (S : Nat → Prop) (w : World) (v : Value) (xs : List α) : Prop := ∀ W, Grew S w W → Rd K W v xs
theorem RdO.rd {α : Type} {K : Kd α} {S : Nat → Prop} {w : World} {v : Value} {xs : List α} (h : RdO K S w v xs) : Rd K w v xs := h w (Grew.refl S w)
theorem RdO.grew {α : Type} {K : Kd α} {S : Nat → Prop} {w W : World} {v : Value} {xs : List α} (h : RdO K S w v xs) (hG : Grew S w W) : RdO K S W v xs := fun W' hW => h W' (hG.trans hW)
theorem RdO.ext {α : Type} {K : Kd α} {S : Nat → Prop} {w W : World} {v : Value} {xs : List α} (h : RdO K S w v xs) (hE : Ext w W) : RdO K S W v xs := h.grew (Grew.of hE)
theorem RdO.setCell {α : Type} {K : Kd α} {S : Nat → Prop} {w : World} {v : Value} {xs : List α} (h : RdO K S w v xs) {p : Addr} (hp : S p.block) (u : Value) : RdO K S (w.setCell p u) v xs := h.grew ((Grew.refl S w).setCell hp u)
/-- of fewer blocks -/
theorem RdO.mono {α : Type} {K : Kd α} {S T : Nat → Prop} {w : World} {v : Value} {xs : List α} (h : RdO K S w v xs) (hT : ∀ b, b < w.heap.size → T b → S b) : RdO K T w v xs := fun W hW => h W (hW.mono hT)
theorem Rd.off {α : Type} {K : Kd α} {S : Nat → Prop} {w : World} {A : Option Addr} {n c : Nat} {xs : List α} (h : Rd K w (.slice A n c) xs) (hS : ∀ a, A = some a → ¬ S a.block) : RdO K S w (.slice A n c) xs := by
  intro W hW
  obtain ⟨h1, h2, A', cap, hv, hcap, h3⟩ := h
  cases hv
  refine ⟨h1, h2, A, c, rfl, hcap, fun hl => ?_⟩
  obtain ⟨b, off, rfl, hcc⟩ := h3 hl
  exact ⟨b, off, rfl, fun j hj i u hu => hW.cell (hcc j hj i u hu) (hS _ rfl)⟩
theorem RdO.nil {α : Type} {K : Kd α} (S : Nat → Prop) (w : World) (A : Option Addr) (c : Nat) : RdO K S w (.slice A 0 c) [] := fun W _ => Rd.nil W A c
end Go.Proofs.Ytofiokegdgdacaa

/- A region whose order is open and whose operations, but a tail in one order, leave all that was there as it was: what each of them leaves is said once, whatever the order. -/
namespace Go.Proofs.Ytofiokegdgdacaa.Mono
open Go.RowKit Go.Proofs.Ytofiokegdgdacaa

/-- what an operation waits for -/
def deps (l : List Oper) (i : Nat) : List Nat :=
  match l[i]? with
  | some o => (o.after.toList.filter (fun e => Region.binds .any e)).map (·.on)
  | none => []
/-- .. and what these wait for -/
def clo (l : List Oper) : Nat → Nat → List Nat
  | 0, _ => []
  | n + 1, i => deps l i ++ (deps l i).flatMap (clo l n)

def isSelect : Op → Bool
  | .select _ _ => true
  | _ => false

/-- i waits for j, at once or by way of one or two others -/
def nearB (l : List Oper) (i j : Nat) : Bool := (deps l i).contains j || (deps l i).any (fun k => (deps l k).contains j || (deps l k).any fun q => (deps l q).contains j)
theorem near_cases {l : List Oper} {i j : Nat} (h : nearB l i j = true) : j ∈ deps l i ∨ ∃ k ∈ deps l i, j ∈ deps l k ∨ ∃ q ∈ deps l k, j ∈ deps l q := by
  unfold nearB at h
  simp only [Bool.or_eq_true, List.any_eq_true, List.contains_iff_mem] at h
  exact h
def okAt (l : List Oper) (m i : Nat) : Bool :=
  match l[i]? with
  | none => true
  | some o => (deps l i).all (fun j => decide (j < i)) && !(isSelect o.op) &&
      (!(decide (i < m)) || (List.range m).all (fun j => (deps l i).contains j || (match (l[j]?).bind (·.dst) with | some d => !(o.looksAt l.toArray).contains d | none => true))) &&
      (!(decide (i < m)) || (List.range m).all (fun j => j == i || (match (l[j]?).bind (·.dst) with | some d => o.dst != some d | none => true))) &&
      (decide (i < m) || (List.range i).all (fun j => nearB l i j))
def monoB (l : List Oper) (m : Nat) : Bool := decide (m ≤ l.length) && (List.range l.length).all (okAt l m)

/-- the frame behind all of them -/
def all (vals : Nat → Value) : List Oper → Nat → Act → Act
  | [], _, a => a
  | o :: r, k, a => all vals r (k + 1) (a.put o.dst (vals k))
/-- .. behind those that have come up -/
def sel (listed : Array Bool) (vals : Nat → Value) : List Oper → Nat → Act → Act
  | [], _, a => a
  | o :: r, k, a => sel listed vals r (k + 1) (if listed.getD k false = true then a.put o.dst (vals k) else a)
def uns (listed : Array Bool) (vals : Nat → Value) : List Oper → Nat → Act → Act
  | [], _, a => a
  | o :: r, k, a => uns listed vals r (k + 1) (if listed.getD k false = true then a else a.put o.dst (vals k))
def upd (vals : Nat → Value) (i : Nat) (v : Value) : Nat → Value := fun j => if j = i then v else vals j

theorem sel_put {listed : Array Bool} {vals : Nat → Value} {x : Option Tmp} {v : Value} : ∀ (r : List Oper) (k : Nat) (a : Act), (∀ o ∈ r, ∀ d, x = some d → o.dst ≠ some d) →
    sel listed vals r k (a.put x v) = (sel listed vals r k a).put x v
  | [], _, _, _ => rfl
  | o :: r, k, a, h => by
    simp only [sel]
    split
    · rw [Act.put_comm a v (vals k) (h o (by simp))]
      exact sel_put r (k + 1) _ (fun o ho => h o (by simp [ho]))
    · exact sel_put r (k + 1) _ (fun o ho => h o (by simp [ho]))

theorem sel_congr {listed listed' : Array Bool} {vals vals' : Nat → Value} : ∀ (r : List Oper) (k : Nat) (a : Act), (∀ j, k ≤ j → listed.getD j false = listed'.getD j false ∧ vals j = vals' j) →
    sel listed vals r k a = sel listed' vals' r k a
  | [], _, _, _ => rfl
  | o :: r, k, a, h => by
    simp only [sel]
    rw [(h k (Nat.le_refl _)).1, (h k (Nat.le_refl _)).2]
    exact sel_congr r (k + 1) _ (fun j hj => h j (by omega))

theorem set_getD {listed : Array Bool} {i j : Nat} (hi : i < listed.size) : (listed.setIfInBounds i true).getD j false = if j = i then true else listed.getD j false := by
  by_cases h : j = i
  · subst h; simp [hi]
  · rw [if_neg h, getD_set_ne false (Ne.symm h)]

theorem sel_set {listed : Array Bool} {vals : Nat → Value} {i : Nat} {v : Value} {oi : Oper} (hi : i < listed.size) (hun : listed.getD i false = false) :
    ∀ (r : List Oper) (k : Nat) (a : Act), k ≤ i → r[i - k]? = some oi → (∀ (p q : Nat) (op oq : Oper), p < q → r[p]? = some op → r[q]? = some oq → ∀ d, op.dst = some d → oq.dst ≠ some d) →
      sel (listed.setIfInBounds i true) (upd vals i v) r k a = (sel listed vals r k a).put oi.dst v
  | [], k, a, _, ho, _ => by simp at ho
  | o :: r, k, a, hk, ho, hd => by
    simp only [sel]
    by_cases hki : k = i
    · subst hki
      simp at ho
      subst ho
      rw [set_getD hi, if_pos rfl, if_pos rfl, hun]
      simp only [upd, if_true, Bool.false_eq_true, if_false]
      rw [sel_congr (listed' := listed) (vals' := vals) r (k + 1) _ (fun j hj => ⟨by rw [set_getD hi, if_neg (by omega)], by simp [upd]; omega⟩)]
      refine sel_put r (k + 1) a (fun o' ho' d hd' => ?_)
      obtain ⟨q, hq⟩ := List.getElem?_of_mem ho'
      exact hd 0 (q + 1) o o' (by omega) (by simp) (by simpa using hq) d hd'
    · rw [set_getD hi, if_neg hki]
      have hv : upd vals i v k = vals k := by simp [upd, hki]
      rw [hv]
      refine sel_set hi hun r (k + 1) _ (by omega) (by rw [show i - k = (i - (k + 1)) + 1 from by omega] at ho; simpa using ho) (fun p q op oq hpq hp hq => hd (p + 1) (q + 1) op oq (by omega) (by simpa using hp) (by simpa using hq))

theorem all_eq {listed : Array Bool} {vals : Nat → Value} : ∀ (r : List Oper) (k : Nat) (a : Act), (∀ (p q : Nat) (op oq : Oper), p < q → r[p]? = some op → r[q]? = some oq → ∀ d, op.dst = some d → oq.dst ≠ some d) →
    all vals r k a = uns listed vals r k (sel listed vals r k a)
  | [], _, _, _ => rfl
  | o :: r, k, a, hd => by
    have hd' : ∀ (p q : Nat) (op oq : Oper), p < q → r[p]? = some op → r[q]? = some oq → ∀ d, op.dst = some d → oq.dst ≠ some d := fun p q op oq hpq hp hq => hd (p + 1) (q + 1) op oq (by omega) (by simpa using hp) (by simpa using hq)
    simp only [all, sel, uns]
    rw [all_eq (listed := listed) r (k + 1) _ hd']
    split
    · rfl
    · rw [sel_put r (k + 1) a (fun o' ho' d hd2 => by
        obtain ⟨q, hq⟩ := List.getElem?_of_mem ho'
        exact hd 0 (q + 1) o o' (by omega) (by simp) (by simpa using hq) d hd2)]

theorem uns_same {ops : Array Oper} {listed : Array Bool} {vals : Nat → Value} {x : Oper} (hs : ∀ cs b, x.op ≠ .select cs b) : ∀ (r : List Oper) (k : Nat) (a : Act),
    (∀ j o, r[j]? = some o → listed.getD (k + j) false = false → ∀ d, o.dst = some d → d ∉ x.looksAt ops) →
    execOp (uns listed vals r k a).eval x = execOp a.eval x ∧ Region.wanted x (yielded ops (uns listed vals r k a).tmps) = Region.wanted x (yielded ops a.tmps)
  | [], _, _, _ => ⟨rfl, rfl⟩
  | o :: r, k, a, h => by
    have h' : ∀ j o', r[j]? = some o' → listed.getD (k + 1 + j) false = false → ∀ d, o'.dst = some d → d ∉ x.looksAt ops := fun j o' hj hl => h (j + 1) o' (by simpa using hj) (by rw [show k + (j + 1) = k + 1 + j from by omega]; exact hl)
    simp only [uns]
    split
    · exact uns_same hs r (k + 1) a h'
    · rename_i hun
      have hl := h 0 o (by simp) (by simpa using hun)
      have := uns_same (vals := vals) hs r (k + 1) (a.put o.dst (vals k)) h'
      exact ⟨this.1.trans (execOp_put x hs a o.dst (vals k) hl), this.2.trans (wanted_put x a o.dst (vals k) hl)⟩

/-- what comes of an operation: a value, in a world -/
def YieldsAt (P : Program) (R : Value → World → Prop) : Result Next → Prop
  | .ok (.value v) w => R v w
  | .ok .skip w => R undef w
  | .ok (.enter f args) w => Calls P f args w fun e w' => ∃ v, e = .returned v ∧ R v w'
  | _ => False

/-- .. closed to the walk -/
structure Yields (P : Program) (R : Value → World → Prop) (r : Result Next) : Prop where
  out : YieldsAt P R r

theorem wp_of_yields {P : Program} {o : Oper} {a : Act} {w : World} {K : Act → World → Prop} {Q : Exit → Act → World → Prop} {R : Value → World → Prop} (h : Yields P R ((execOp a.eval o).run P w))
    (hK : ∀ v w', R v w' → K (a.put o.dst v) w') : o.wp P a w K Q := by
  obtain ⟨h⟩ := h
  unfold Oper.wp
  generalize (execOp a.eval o).run P w = r at *
  cases r with
  | ok n w' =>
    cases n <;> simp only [YieldsAt] at h <;> simp only [Oper.upon]
    case value u => exact hK _ _ h
    case skip => exact hK _ _ h
    case enter f args => exact h.mono fun e w'' ⟨v, he, hv⟩ => by subst he; exact hK _ _ hv
  | halt x w' => simp only [YieldsAt] at h

section
variable {P : Program} {l : List Oper} {m : Nat} {Q : Exit → Act → World → Prop} {a0 : Act} {w0 : World} {V : Nat → World → List Value → Value → Prop}

def Inv (P : Program) (l : List Oper) (m : Nat) (Q : Exit → Act → World → Prop) (a0 : Act) (w0 : World) (V : Nat → World → List Value → Value → Prop) (listed : Array Bool) (a : Act) (w : World) : Prop :=
  listed.size = l.length ∧
  ((∃ vals : Nat → Value, Ext w0 w ∧ (∀ j, m ≤ j → listed.getD j false = false) ∧ (∀ i, listed.getD i false = true → ∀ j ∈ deps l i, listed.getD j false = true) ∧
      (∀ i, i < m → listed.getD i false = true → V i w ((deps l i).map vals) (vals i)) ∧ a = sel listed vals (l.take m) 0 a0) ∨
   (∃ k, m ≤ k ∧ k ≤ l.length ∧ (∀ j, j < l.length → (listed.getD j false = true ↔ j < k)) ∧ wpList P l.toArray Q (l.drop k) a w))

theorem ok_parts (hB : monoB l m = true) {i : Nat} {o : Oper} (ho : l[i]? = some o) :
    (∀ j ∈ deps l i, j < i) ∧ (∀ cs b, o.op ≠ .select cs b) ∧ (i < m → ∀ j oj, j < m → l[j]? = some oj → j ∉ deps l i → ∀ d, oj.dst = some d → d ∉ o.looksAt l.toArray) ∧
      (i < m → ∀ j oj, j < m → j ≠ i → l[j]? = some oj → ∀ d, oj.dst = some d → o.dst ≠ some d) ∧ (m ≤ i → ∀ j, j < i → nearB l i j = true) := by
  have hi : i < l.length := by
    rcases Nat.lt_or_ge i l.length with h | h
    · exact h
    · rw [List.getElem?_eq_none h] at ho; cases ho
  unfold monoB at hB
  simp only [Bool.and_eq_true, List.all_eq_true, List.mem_range] at hB
  have h := hB.2 i hi
  unfold okAt at h
  rw [ho] at h
  simp only [Bool.and_eq_true, Bool.or_eq_true, List.all_eq_true, List.mem_range, decide_eq_true_eq, Bool.not_eq_true', decide_eq_false_iff_not] at h
  obtain ⟨⟨⟨⟨h1, h2⟩, h3⟩, h4⟩, h5⟩ := h
  refine ⟨h1, fun cs b e => by rw [e] at h2; simp [isSelect] at h2, fun him j oj hj hoj hnd d hd => ?_, fun him j oj hj hji hoj d hd e => ?_, fun him j hj => ?_⟩
  · rcases h3 with h3 | h3
    · omega
    · have := h3 j hj
      rw [hoj] at this
      simp only [Option.bind_some, hd] at this
      rcases this with h | h
      · exact absurd (by simpa using h) hnd
      · simpa using h
  · rcases h4 with h4 | h4
    · omega
    · have := h4 j hj
      rw [hoj] at this
      simp only [Option.bind_some, hd] at this
      rcases this with h | h
      · simp at h; exact hji h
      · rw [e] at h; simp at h
  · rcases h5 with h5 | h5
    · omega
    · exact h5 j hj

theorem deps_lt (hB : monoB l m = true) {i j : Nat} (hj : j ∈ deps l i) : j < i := by
  cases ho : l[i]? with
  | none => unfold deps at hj; rw [ho] at hj; cases hj
  | some o => exact (ok_parts hB ho).1 j hj
theorem near_listed {listed : Array Bool} (hdc : ∀ i, listed.getD i false = true → ∀ j ∈ deps l i, listed.getD j false = true) {i j : Nat} (hdl : ∀ j ∈ deps l i, listed.getD j false = true) (h : nearB l i j = true) : listed.getD j false = true := by
  rcases near_cases h with h | ⟨k, hk, h | ⟨q, hq, h⟩⟩
  · exact hdl j h
  · exact hdc k (hdl k hk) j h
  · exact hdc q (hdc k (hdl k hk) q hq) j h
theorem near_tail (hB : monoB l m = true) {listed : Array Bool} {i k : Nat} (hk : k < l.length) (hi : i ≤ l.length) (hiff : ∀ j, j < l.length → (listed.getD j false = true ↔ j < k)) (hdl : ∀ j ∈ deps l i, listed.getD j false = true) (h : nearB l i k = true) : False := by
  have hlt : ∀ j, j ∈ deps l i → j < k := fun j hj => (hiff j (by have := deps_lt hB hj; omega)).1 (hdl j hj)
  rcases near_cases h with h | ⟨k', hk', h | ⟨q, hq, h⟩⟩
  · exact absurd (hlt k h) (by omega)
  · have := hlt k' hk'; have := deps_lt hB h; omega
  · have := hlt k' hk'; have := deps_lt hB hq; have := deps_lt hB h; omega

theorem distinct (hB : monoB l m = true) : ∀ (p q : Nat) (op oq : Oper), p < q → (l.take m)[p]? = some op → (l.take m)[q]? = some oq → ∀ d, op.dst = some d → oq.dst ≠ some d := by
  intro p q op oq hpq hp hq d hd
  rw [List.getElem?_take] at hp hq
  split at hp <;> rename_i hpm
  · split at hq <;> rename_i hqm
    · exact (ok_parts hB hq).2.2.2.1 hqm p op hpm (by omega) hp d hd
    · cases hq
  · cases hp

theorem deps_mem {i : Nat} {o : Oper} (ho : l[i]? = some o) {j : Nat} (hj : j ∈ deps l i) : ∃ e ∈ o.after, Region.binds .any e = true ∧ e.on = j := by
  unfold deps at hj
  rw [ho] at hj
  simp only [List.mem_map, List.mem_filter, Array.mem_toList_iff] at hj
  obtain ⟨e, ⟨h1, h2⟩, h3⟩ := hj
  exact ⟨e, h1, h2, h3⟩

theorem clo_listed {listed : Array Bool} (hdc : ∀ i, listed.getD i false = true → ∀ j ∈ deps l i, listed.getD j false = true) : ∀ (n i : Nat), (∀ j ∈ deps l i, listed.getD j false = true) → ∀ j ∈ clo l n i, listed.getD j false = true
  | 0, _, _, j, hj => by simp [clo] at hj
  | n + 1, i, h, j, hj => by
    simp only [clo, List.mem_append, List.mem_flatMap] at hj
    rcases hj with hj | ⟨k, hk, hj⟩
    · exact h j hj
    · exact clo_listed hdc n k (hdc k (h k hk)) j hj

theorem sel_all {listed : Array Bool} {vals : Nat → Value} : ∀ (r : List Oper) (k : Nat) (a : Act), (∀ j, k ≤ j → j < k + r.length → listed.getD j false = true) → sel listed vals r k a = all vals r k a
  | [], _, _, _ => rfl
  | o :: r, k, a, h => by
    simp only [sel, all]
    rw [if_pos (h k (Nat.le_refl _) (by simp))]
    exact sel_all r (k + 1) _ (fun j h1 h2 => h j (by omega) (by simp; omega))

theorem all_listed (hB : monoB l m = true) {listed : Array Bool} (hsz : listed.size = l.length) (hr : Region.ready .any l.toArray listed = []) : ∀ i, i < l.length → listed.getD i false = true := by
  intro i
  induction i using Nat.strongRecOn with
  | _ i ih =>
    intro hi
    cases hl : listed.getD i false with
    | true => rfl
    | false =>
      have ho : l[i]? = some l[i] := List.getElem?_eq_getElem hi
      have hm : i ∈ Region.ready .any l.toArray listed := by
        rw [mem_ready]
        refine ⟨?_, l[i], by simp, fun e he hb => ?_⟩
        · rw [← hl]; simp [show i < listed.size by omega]
        · have hd : e.on ∈ deps l i := by
            unfold deps
            rw [ho]
            simp only [List.mem_map, List.mem_filter, Array.mem_toList_iff]
            exact ⟨e, ⟨he, hb⟩, rfl⟩
          have := (ok_parts hB ho).1 _ hd
          exact ih _ this (by omega)
      rw [hr] at hm
      cases hm

theorem wpOp_list {o : Oper} {i : Nat} {rest : List Oper} {a : Act} {w : World} (ho : l[i]? = some o) (h : wpList P l.toArray Q (o :: rest) a w) : wpOp P l.toArray Q i (wpList P l.toArray Q rest) a w := by
  unfold wpOp
  have : l.toArray[i]? = some o := by simpa using ho
  rw [this]
  exact h

theorem step (hB : monoB l m = true) (hst : ∀ i w w' d v, V i w d v → Ext w w' → V i w' d v)
    (hop : ∀ i o, i < m → l[i]? = some o → ∀ (vals : Nat → Value) (w : World), Ext w0 w → (∀ j, (deps l i).contains j = true → V j w ((deps l j).map vals) (vals j)) →
      if Region.wanted o (yielded l.toArray (all vals (l.take m) 0 a0).tmps) = true
      then Yields P (fun v w' => Ext w w' ∧ V i w' ((deps l i).map vals) v) ((execOp (all vals (l.take m) 0 a0).eval o).run P w)
      else V i w ((deps l i).map vals) undef)
    (hend : ∀ (vals : Nat → Value) (w : World), Ext w0 w → (∀ j, j < m → V j w ((deps l j).map vals) (vals j)) → wpList P l.toArray Q (l.drop m) (all vals (l.take m) 0 a0) w)
    (listed : Array Bool) (a : Act) (w : World) (i : Nat) (hI : Inv P l m Q a0 w0 V listed a w) (hi : i ∈ Region.ready .any l.toArray listed) :
    wpOp P l.toArray Q i (Inv P l m Q a0 w0 V (listed.setIfInBounds i true)) a w := by
  obtain ⟨hsz, hI⟩ := hI
  obtain ⟨hun, o, ho', hall⟩ := mem_ready.1 hi
  have ho : l[i]? = some o := by simpa using ho'
  have hil : i < l.length := by
    rcases Nat.lt_or_ge i l.length with h | h
    · exact h
    · rw [List.getElem?_eq_none h] at ho; cases ho
  have hsi : i < listed.size := by omega
  have hunf : listed.getD i false = false := by
    rw [← hun]; simp [hsi]
  obtain ⟨k1, k2, k3, k4, k5⟩ := ok_parts hB ho
  have hdl : ∀ j ∈ deps l i, listed.getD j false = true := fun j hj => by
    obtain ⟨e, he, hb, rfl⟩ := deps_mem ho hj
    exact hall e he hb
  have hml : m ≤ l.length := by
    unfold monoB at hB
    simp only [Bool.and_eq_true, decide_eq_true_eq] at hB
    exact hB.1
  have hdrop : ∀ k, l[k]? = some o → l.drop k = o :: l.drop (k + 1) := fun k hk => by
    have hkl : k < l.length := by
      rcases Nat.lt_or_ge k l.length with h | h
      · exact h
      · rw [List.getElem?_eq_none h] at hk; cases hk
    rw [List.drop_eq_getElem_cons hkl]
    rw [List.getElem?_eq_getElem hkl] at hk
    cases hk; rfl
  rcases hI with ⟨vals, hE, htail, hdc, hV, ha⟩ | ⟨k, hmk, hkl, hiff, hw⟩
  · rcases Nat.lt_or_ge i m with him | him
    · have hcl := clo_listed hdc l.length i hdl
      have hjm : ∀ j, listed.getD j false = true → j < m := fun j hj => by
        rcases Nat.lt_or_ge j m with h | h
        · exact h
        · rw [htail j h] at hj; cases hj
      have hob := hop i o him ho vals w hE (fun j hj => hV j (hjm j (hdl j (by simpa using hj))) (hdl j (by simpa using hj)))
      have hsame := uns_same (ops := l.toArray) (listed := listed) (vals := vals) (x := o) k2 (l.take m) 0 a (fun j oj hj hlj d hd => by
        rw [List.getElem?_take] at hj
        split at hj
        · rename_i hjm'
          exact k3 him j oj hjm' hj (fun hmem => by have := hdl j hmem; rw [Nat.zero_add] at hlj; rw [hlj] at this; cases this) d hd
        · cases hj)
      rw [ha, ← all_eq (l.take m) 0 a0 (distinct hB)] at hsame
      rw [hsame.2, hsame.1, ← ha] at hob
      have hnew : ∀ v w', Ext w w' → V i w' ((deps l i).map vals) v → Inv P l m Q a0 w0 V (listed.setIfInBounds i true) (a.put o.dst v) w' := by
        intro v w' hE' hVi
        refine ⟨by simpa using hsz, .inl ⟨upd vals i v, hE.trans hE', fun j hj => ?_, fun i' hi' j hj => ?_, fun i' him' hi' => ?_, ?_⟩⟩
        · rw [set_getD hsi, if_neg (by omega)]; exact htail j hj
        · rw [set_getD hsi] at hi' ⊢
          by_cases e : i' = i
          · subst e
            split
            · rfl
            · exact hdl j hj
          · rw [if_neg e] at hi'
            split
            · rfl
            · exact hdc i' hi' j hj
        · rw [set_getD hsi] at hi'
          by_cases e : i' = i
          · subst e
            have : (deps l i').map (upd vals i' v) = (deps l i').map vals := List.map_congr_left fun j hj => by
              have := k1 j hj
              simp [upd]; omega
            rw [this]
            simpa [upd] using hVi
          · rw [if_neg e] at hi'
            have : (deps l i').map (upd vals i v) = (deps l i').map vals := List.map_congr_left fun j hj => by
              have hjl := hdc i' hi' j hj
              have : j ≠ i := fun h => by subst h; rw [hunf] at hjl; cases hjl
              simp [upd, this]
            rw [this]
            have h2 : upd vals i v i' = vals i' := by simp [upd, e]
            rw [h2]
            exact hst _ _ _ _ _ (hV i' him' hi') hE'
        · rw [ha]
          exact (sel_set hsi hunf (l.take m) 0 a0 (Nat.zero_le _) (by rw [Nat.sub_zero, List.getElem?_take, if_pos him]; exact ho) (distinct hB)).symm
      unfold wpOp
      simp only [ho']
      by_cases hwant : Region.wanted o (yielded l.toArray a.tmps) = true
      · rw [if_pos hwant] at hob ⊢
        exact .inl (wp_of_yields hob (fun v w' h => hnew v w' h.1 h.2))
      · rw [if_neg hwant] at hob ⊢
        exact hnew undef w (Ext.refl _) hob
    · have hmi : i = m := by
        rcases Nat.lt_or_ge m i with h | h
        · have := near_listed hdc hdl (k5 him m h)
          rw [htail m (Nat.le_refl _)] at this; cases this
        · omega
      subst hmi
      have hpre : ∀ j, j < i → listed.getD j false = true := fun j hj => near_listed hdc hdl (k5 him j hj)
      have hall' : a = all vals (l.take i) 0 a0 := by
        rw [ha]
        exact sel_all _ _ _ (fun j _ hj => hpre j (by simp at hj; omega))
      have hw := hend vals w hE (fun j hj => hV j hj (hpre j hj))
      rw [← hall', hdrop i ho] at hw
      refine wpOp_mono (fun a' w' h => ?_) (wpOp_list ho hw)
      refine ⟨by simpa using hsz, .inr ⟨i + 1, by omega, by omega, fun j hj => ?_, h⟩⟩
      rw [set_getD hsi]
      by_cases e : j = i
      · subst e; simp
      · rw [if_neg e]
        constructor
        · intro h
          rcases Nat.lt_or_ge j i with h' | h'
          · omega
          · rw [htail j h'] at h; cases h
        · intro h; exact hpre j (by omega)
  · have hki : k = i := by
      rcases Nat.lt_or_ge i k with h | h
      · have := (hiff i hil).2 h
        rw [hunf] at this; cases this
      · rcases Nat.lt_or_ge k i with h' | h'
        · exact (near_tail hB (by omega) (by omega) hiff hdl (k5 (by omega) k h')).elim
        · omega
    subst hki
    rw [hdrop k ho] at hw
    refine wpOp_mono (fun a' w' h => ?_) (wpOp_list ho hw)
    refine ⟨by simpa using hsz, .inr ⟨k + 1, by omega, by omega, fun j hj => ?_, h⟩⟩
    rw [set_getD hsi]
    by_cases e : j = k
    · subst e; simp
    · rw [if_neg e, hiff j hj]; omega

def count (listed : Array Bool) : Nat := (listed.toList.filter (fun b => !b)).length

theorem count_set {listed : Array Bool} {i : Nat} (hi : i < listed.size) (hun : listed.getD i true = false) : count (listed.setIfInBounds i true) + 1 = count listed := by
  have h : ∀ (xs : List Bool) (i : Nat), xs[i]? = some false → ((xs.set i true).filter (fun b => !b)).length + 1 = (xs.filter (fun b => !b)).length := by
    intro xs
    induction xs with
    | nil => intro i h; simp at h
    | cons b r ih =>
      intro i h
      cases i with
      | zero => simp at h; subst h; simp
      | succ i =>
        have := ih i (by simpa using h)
        cases b <;> simp <;> simpa using this
  unfold count
  rw [Array.toList_setIfInBounds]
  refine h _ _ ?_
  have : listed[i]? = some listed[i] := Array.getElem?_eq_getElem hi
  rw [Array.getElem?_toList, this]
  have e : listed.getD i true = listed[i] := by simp [Array.getD, hi]
  rw [e] at hun
  rw [hun]

theorem any_of_inv (I : Array Bool → Act → World → Prop) (hsz : ∀ listed a w, I listed a w → listed.size = l.length)
    (hstep : ∀ listed a w i, I listed a w → i ∈ Region.ready .any l.toArray listed → wpOp P l.toArray Q i (I (listed.setIfInBounds i true)) a w)
    (hend : ∀ listed a w, I listed a w → Region.ready .any l.toArray listed = [] → Q .normal a w) :
    ∀ (fuel : Nat) (listed : Array Bool) (a : Act) (w : World), count listed ≤ fuel → I listed a w → wpAny P .any l.toArray Q fuel listed a w
  | 0, listed, a, w, hc, hI => by
    have hr : Region.ready .any l.toArray listed = [] := by
      cases h : Region.ready .any l.toArray listed with
      | nil => rfl
      | cons i r =>
        have hi : i ∈ Region.ready .any l.toArray listed := by rw [h]; simp
        obtain ⟨hun, o, ho, _⟩ := mem_ready.1 hi
        have hil : i < l.toArray.size := (Array.getElem?_eq_some_iff.1 ho).1
        have := count_set (listed := listed) (i := i) (by rw [hsz _ _ _ hI]; simpa using hil) hun
        omega
    exact ⟨hr, hend _ _ _ hI hr⟩
  | fuel + 1, listed, a, w, hc, hI => by
    refine ⟨hend _ _ _ hI, fun i hi => wpOp_mono (fun a' w' h => ?_) (hstep _ _ _ _ hI hi)⟩
    obtain ⟨hun, o, ho, _⟩ := mem_ready.1 hi
    have hil : i < l.toArray.size := (Array.getElem?_eq_some_iff.1 ho).1
    have := count_set (listed := listed) (i := i) (by rw [hsz _ _ _ hI]; simpa using hil) hun
    exact any_of_inv I hsz hstep hend fuel _ a' w' (by omega) h

/-- a region whose order is open: what each operation leaves is said once -/
theorem wp_region_mono {id : Nat} (m : Nat) (V : Nat → World → List Value → Value → Prop) (hm : P.follows .mixedOrders = true) (hB : monoB l m = true)
    (hst : ∀ i w w' d v, V i w d v → Ext w w' → V i w' d v)
    (hop : ∀ i o, i < m → l[i]? = some o → ∀ (vals : Nat → Value) (w : World), Ext w0 w → (∀ j, (deps l i).contains j = true → V j w ((deps l j).map vals) (vals j)) →
      if Region.wanted o (yielded l.toArray (all vals (l.take m) 0 a0).tmps) = true
      then Yields P (fun v w' => Ext w w' ∧ V i w' ((deps l i).map vals) v) ((execOp (all vals (l.take m) 0 a0).eval o).run P w)
      else V i w ((deps l i).map vals) undef)
    (hend : ∀ (vals : Nat → Value) (w : World), Ext w0 w → (∀ j, j < m → V j w ((deps l j).map vals) (vals j)) → wpList P l.toArray Q (l.drop m) (all vals (l.take m) 0 a0) w) :
    (Code.region id l.toArray true).wp P Q a0 w0 := by
  have hml : m ≤ l.length := by
    unfold monoB at hB
    simp only [Bool.and_eq_true, decide_eq_true_eq] at hB
    exact hB.1
  refine wp_region_any hm (any_of_inv (Inv P l m Q a0 w0 V) (fun _ _ _ h => h.1) (step hB hst hop hend) (fun listed a w hI hr => ?_) _ _ _ _ ?_ ?_)
  · obtain ⟨hsz, hI⟩ := hI
    have hal := all_listed hB hsz hr
    rcases hI with ⟨vals, hE, htail, hdc, hV, ha⟩ | ⟨k, hmk, hkl, hiff, hw⟩
    · have hm' : m = l.length := by
        rcases Nat.lt_or_ge m l.length with h | h
        · have := hal m h
          rw [htail m (Nat.le_refl _)] at this; cases this
        · omega
      have hw := hend vals w hE (fun j hj => hV j hj (hal j (by omega)))
      rw [ha, sel_all _ _ _ (fun j _ hj => hal j (by simp at hj; omega))]
      rw [hm', List.drop_length] at hw
      rw [hm']
      exact hw
    · have hk : k = l.length := by
        rcases Nat.lt_or_ge k l.length with h | h
        · have := (hiff k h).1 (hal k h)
          omega
        · omega
      subst hk
      rw [List.drop_length] at hw
      exact hw
  · unfold count
    exact Nat.le_trans (List.length_filter_le (fun b => !b) (Array.replicate l.toArray.size false).toList) (by simp)
  · refine ⟨by simp, .inl ⟨fun _ => undef, (Ext.refl w0).drew, fun j _ => ?_, fun i hi => ?_, fun i _ hi => ?_, ?_⟩⟩
    · by_cases h : j < l.length <;> simp [h]
    · exfalso
      by_cases h : i < l.length <;> simp [h] at hi
    · exfalso
      by_cases h : i < l.length <;> simp [h] at hi
    · have : ∀ (r : List Oper) (k : Nat) (a : Act), sel (Array.replicate l.toArray.size false) (fun _ => undef) r k a = a := by
        intro r
        induction r with
        | nil => intro k a; rfl
        | cons o r ih =>
          intro k a
          simp only [sel]
          rw [if_neg (by by_cases h : k < l.length <;> simp [h])]
          exact ih _ _
      exact (this _ _ _).symm
end
end Go.Proofs.Ytofiokegdgdacaa.Mono

/- Appends to a new empty list, in a region whose order is open (for wp_region_mono): lists of any kind. -/
namespace Go.Proofs.Ytofiokegdgdacaa
open Go.RowKit
section
variable {α : Type} (K : Kd α)
/-- an empty list of the call's own -/
def NewAt (B : Nat) (w : World) (v : Value) : Prop := ∃ x, v = .slice (some ⟨x, 0, none⟩) 0 0 ∧ B ≤ x ∧ w.heap[x]? = some (.cells #[] K.e (0, 0))
/-- a list of the call's own -/
def OwAt (B : Nat) (w : World) (v : Value) (xs : List α) : Prop := ∃ A c, v = .slice A xs.length c ∧ Ow K B w (.slice A xs.length c) xs
variable {K}
theorem block_keep {w w' : World} {x : Nat} {o : Obj} (h : w.heap[x]? = some o) (hE : Ext w w') : w'.heap[x]? = some o := by
  have hlt : x < w.heap.size := by
    rcases Nat.lt_or_ge x w.heap.size with h' | h'
    · exact h'
    · rw [Array.getElem?_eq_none h'] at h; cases h
  exact (Below.block hE x hlt).trans h
theorem NewAt.ext {B : Nat} {w w' : World} {v : Value} (h : NewAt K B w v) (hE : Ext w w') : NewAt K B w' v := by
  obtain ⟨x, rfl, hB, hx⟩ := h
  exact ⟨x, rfl, hB, block_keep hx hE⟩
theorem NewAt.made (w : World) {B : Nat} (hB : B ≤ w.heap.size) : NewAt K B (w.alloc (.cells #[] K.e)) (.slice (some ⟨w.heap.size, 0, none⟩) 0 0) := ⟨w.heap.size, rfl, hB, heap_alloc_new w _⟩
theorem OwAt.ext {B : Nat} {w w' : World} {v : Value} {xs : List α} (h : OwAt K B w v xs) (hE : Ext w w') : OwAt K B w' v xs := by
  obtain ⟨A, c, rfl, h⟩ := h
  exact ⟨A, c, rfl, h.ext hE⟩
end
end Go.Proofs.Ytofiokegdgdacaa
