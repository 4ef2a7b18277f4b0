/- Joined by wip/merge.py: Mono, RowM, TCopy, TGreat, TPart, TPart2, TDo, TDo2, TDo3, TCop, TCnt. -/
import Derived.Test.YtjabahfkgaamdaaJ1
import Derived.Deep.AppendSrc
import Derived.Deep.DeepCutAuto
import Derived.BigQuiet
import Derived.IntWalk
import Derived.Deep.QuietTactic
import Derived.Laws.EntriesVeiled
/- A region whose order is open and whose operations, but a tail in one order, leave all that was there as it was: what each of them leaves is said once, whatever the order. -/
namespace Go.Proofs.Ytjabahfkgaamdaa.Mono
open Go.RowKit Go.Proofs.Ytjabahfkgaamdaa

/-- what an operation waits for -/
def deps (l : List Oper) (i : Nat) : List Nat :=
  match l[i]? with
  | some o => (o.after.toList.filter (fun e => Region.binds .any e)).map (·.on)
  | none => []
/-- .. and what these wait for -/
def clo (l : List Oper) : Nat → Nat → List Nat
  | 0, _ => []
  | n + 1, i => deps l i ++ (deps l i).flatMap (clo l n)

def isSelect : Op → Bool
  | .select _ _ => true
  | _ => false

/-- i waits for j, at once or by way of one or two others -/
def nearB (l : List Oper) (i j : Nat) : Bool := (deps l i).contains j || (deps l i).any (fun k => (deps l k).contains j || (deps l k).any fun q => (deps l q).contains j)
theorem near_cases {l : List Oper} {i j : Nat} (h : nearB l i j = true) : j ∈ deps l i ∨ ∃ k ∈ deps l i, j ∈ deps l k ∨ ∃ q ∈ deps l k, j ∈ deps l q := by
  unfold nearB at h
  simp only [Bool.or_eq_true, List.any_eq_true, List.contains_iff_mem] at h
  exact h
def okAt (l : List Oper) (m i : Nat) : Bool :=
  match l[i]? with
  | none => true
  | some o => (deps l i).all (fun j => decide (j < i)) && !(isSelect o.op) &&
      (!(decide (i < m)) || (List.range m).all (fun j => (deps l i).contains j || (match (l[j]?).bind (·.dst) with | some d => !(o.looksAt l.toArray).contains d | none => true))) &&
      (!(decide (i < m)) || (List.range m).all (fun j => j == i || (match (l[j]?).bind (·.dst) with | some d => o.dst != some d | none => true))) &&
      (decide (i < m) || (List.range i).all (fun j => nearB l i j))
def monoB (l : List Oper) (m : Nat) : Bool := decide (m ≤ l.length) && (List.range l.length).all (okAt l m)

/-- the frame behind all of them -/
def all (vals : Nat → Value) : List Oper → Nat → Act → Act
  | [], _, a => a
  | o :: r, k, a => all vals r (k + 1) (a.put o.dst (vals k))
/-- .. behind those that have come up -/
def sel (listed : Array Bool) (vals : Nat → Value) : List Oper → Nat → Act → Act
  | [], _, a => a
  | o :: r, k, a => sel listed vals r (k + 1) (if listed.getD k false = true then a.put o.dst (vals k) else a)
def uns (listed : Array Bool) (vals : Nat → Value) : List Oper → Nat → Act → Act
  | [], _, a => a
  | o :: r, k, a => uns listed vals r (k + 1) (if listed.getD k false = true then a else a.put o.dst (vals k))
def upd (vals : Nat → Value) (i : Nat) (v : Value) : Nat → Value := fun j => if j = i then v else vals j

theorem sel_put {listed : Array Bool} {vals : Nat → Value} {x : Option Tmp} {v : Value} : ∀ (r : List Oper) (k : Nat) (a : Act), (∀ o ∈ r, ∀ d, x = some d → o.dst ≠ some d) →
    sel listed vals r k (a.put x v) = (sel listed vals r k a).put x v
  | [], _, _, _ => rfl
  | o :: r, k, a, h => by
    simp only [sel]
    split
    · rw [Act.put_comm a v (vals k) (h o (by simp))]
      exact sel_put r (k + 1) _ (fun o ho => h o (by simp [ho]))
    · exact sel_put r (k + 1) _ (fun o ho => h o (by simp [ho]))

theorem sel_congr {listed listed' : Array Bool} {vals vals' : Nat → Value} : ∀ (r : List Oper) (k : Nat) (a : Act), (∀ j, k ≤ j → listed.getD j false = listed'.getD j false ∧ vals j = vals' j) →
    sel listed vals r k a = sel listed' vals' r k a
  | [], _, _, _ => rfl
  | o :: r, k, a, h => by
    simp only [sel]
    rw [(h k (Nat.le_refl _)).1, (h k (Nat.le_refl _)).2]
    exact sel_congr r (k + 1) _ (fun j hj => h j (by omega))

theorem set_getD {listed : Array Bool} {i j : Nat} (hi : i < listed.size) : (listed.setIfInBounds i true).getD j false = if j = i then true else listed.getD j false := by
  by_cases h : j = i
  · subst h; simp [hi]
  · rw [if_neg h, getD_set_ne false (Ne.symm h)]

theorem sel_set {listed : Array Bool} {vals : Nat → Value} {i : Nat} {v : Value} {oi : Oper} (hi : i < listed.size) (hun : listed.getD i false = false) :
    ∀ (r : List Oper) (k : Nat) (a : Act), k ≤ i → r[i - k]? = some oi → (∀ (p q : Nat) (op oq : Oper), p < q → r[p]? = some op → r[q]? = some oq → ∀ d, op.dst = some d → oq.dst ≠ some d) →
      sel (listed.setIfInBounds i true) (upd vals i v) r k a = (sel listed vals r k a).put oi.dst v
  | [], k, a, _, ho, _ => by simp at ho
  | o :: r, k, a, hk, ho, hd => by
    simp only [sel]
    by_cases hki : k = i
    · subst hki
      simp at ho
      subst ho
      rw [set_getD hi, if_pos rfl, if_pos rfl, hun]
      simp only [upd, if_true, Bool.false_eq_true, if_false]
      rw [sel_congr (listed' := listed) (vals' := vals) r (k + 1) _ (fun j hj => ⟨by rw [set_getD hi, if_neg (by omega)], by simp [upd]; omega⟩)]
      refine sel_put r (k + 1) a (fun o' ho' d hd' => ?_)
      obtain ⟨q, hq⟩ := List.getElem?_of_mem ho'
      exact hd 0 (q + 1) o o' (by omega) (by simp) (by simpa using hq) d hd'
    · rw [set_getD hi, if_neg hki]
      have hv : upd vals i v k = vals k := by simp [upd, hki]
      rw [hv]
      refine sel_set hi hun r (k + 1) _ (by omega) (by rw [show i - k = (i - (k + 1)) + 1 from by omega] at ho; simpa using ho) (fun p q op oq hpq hp hq => hd (p + 1) (q + 1) op oq (by omega) (by simpa using hp) (by simpa using hq))

theorem all_eq {listed : Array Bool} {vals : Nat → Value} : ∀ (r : List Oper) (k : Nat) (a : Act), (∀ (p q : Nat) (op oq : Oper), p < q → r[p]? = some op → r[q]? = some oq → ∀ d, op.dst = some d → oq.dst ≠ some d) →
    all vals r k a = uns listed vals r k (sel listed vals r k a)
  | [], _, _, _ => rfl
  | o :: r, k, a, hd => by
    have hd' : ∀ (p q : Nat) (op oq : Oper), p < q → r[p]? = some op → r[q]? = some oq → ∀ d, op.dst = some d → oq.dst ≠ some d := fun p q op oq hpq hp hq => hd (p + 1) (q + 1) op oq (by omega) (by simpa using hp) (by simpa using hq)
    simp only [all, sel, uns]
    rw [all_eq (listed := listed) r (k + 1) _ hd']
    split
    · rfl
    · rw [sel_put r (k + 1) a (fun o' ho' d hd2 => by
        obtain ⟨q, hq⟩ := List.getElem?_of_mem ho'
        exact hd 0 (q + 1) o o' (by omega) (by simp) (by simpa using hq) d hd2)]

theorem uns_same {ops : Array Oper} {listed : Array Bool} {vals : Nat → Value} {x : Oper} (hs : ∀ cs b, x.op ≠ .select cs b) : ∀ (r : List Oper) (k : Nat) (a : Act),
    (∀ j o, r[j]? = some o → listed.getD (k + j) false = false → ∀ d, o.dst = some d → d ∉ x.looksAt ops) →
    execOp (uns listed vals r k a).eval x = execOp a.eval x ∧ Region.wanted x (yielded ops (uns listed vals r k a).tmps) = Region.wanted x (yielded ops a.tmps)
  | [], _, _, _ => ⟨rfl, rfl⟩
  | o :: r, k, a, h => by
    have h' : ∀ j o', r[j]? = some o' → listed.getD (k + 1 + j) false = false → ∀ d, o'.dst = some d → d ∉ x.looksAt ops := fun j o' hj hl => h (j + 1) o' (by simpa using hj) (by rw [show k + (j + 1) = k + 1 + j from by omega]; exact hl)
    simp only [uns]
    split
    · exact uns_same hs r (k + 1) a h'
    · rename_i hun
      have hl := h 0 o (by simp) (by simpa using hun)
      have := uns_same (vals := vals) hs r (k + 1) (a.put o.dst (vals k)) h'
      exact ⟨this.1.trans (execOp_put x hs a o.dst (vals k) hl), this.2.trans (wanted_put x a o.dst (vals k) hl)⟩

/-- what comes of an operation: a value, in a world -/
def YieldsAt (P : Program) (R : Value → World → Prop) : Result Next → Prop
  | .ok (.value v) w => R v w
  | .ok .skip w => R undef w
  | .ok (.enter f args) w => Calls P f args w fun e w' => ∃ v, e = .returned v ∧ R v w'
  | _ => False

/-- .. closed to the walk -/
structure Yields (P : Program) (R : Value → World → Prop) (r : Result Next) : Prop where
  out : YieldsAt P R r

theorem wp_of_yields {P : Program} {o : Oper} {a : Act} {w : World} {K : Act → World → Prop} {Q : Exit → Act → World → Prop} {R : Value → World → Prop} (h : Yields P R ((execOp a.eval o).run P w))
    (hK : ∀ v w', R v w' → K (a.put o.dst v) w') : o.wp P a w K Q := by
  obtain ⟨h⟩ := h
  unfold Oper.wp
  generalize (execOp a.eval o).run P w = r at *
  cases r with
  | ok n w' =>
    cases n <;> simp only [YieldsAt] at h <;> simp only [Oper.upon]
    case value u => exact hK _ _ h
    case skip => exact hK _ _ h
    case enter f args => exact h.mono fun e w'' ⟨v, he, hv⟩ => by subst he; exact hK _ _ hv
  | halt x w' => simp only [YieldsAt] at h

theorem yields_same {P : Program} {R : Value → World → Prop} {r : Result Next} (c : Value) (w : World) (h : r = .ok (.value c) w) (hR : R c w) : Yields P R r := by rw [h]; exact ⟨hR⟩
theorem yields_call {P : Program} {R : Value → World → Prop} {r : Result Next} (f : FuncId) (args : Array Value) (w : World) (h : r = .ok (.enter f args) w) (hR : Calls P f args w fun e w' => ∃ v, e = .returned v ∧ R v w') : Yields P R r := by rw [h]; exact ⟨hR⟩
theorem wanted_none {o : Oper} {f : Nat → Option Bool} (h : o.guard = none) : Region.wanted o f = true := by simp [Region.wanted, h]
def asBool : Value → Option Bool
  | .bool b => some b
  | _ => none
/-- a guarded operation runs -/
theorem wanted_some {o : Oper} {f : Nat → Option Bool} {g : Nat} {b : Bool} {v : Value} (h : o.guard = some (g, b)) (hf : f g = asBool v) (hv : v = .bool b) : Region.wanted o f = true := by
  subst hv
  simp [Region.wanted, h, hf, asBool]
section
variable {P : Program} {l : List Oper} {m : Nat} {Q : Exit → Act → World → Prop} {a0 : Act} {w0 : World} {V : Nat → World → List Value → Value → Prop}

def Inv (P : Program) (l : List Oper) (m : Nat) (Q : Exit → Act → World → Prop) (a0 : Act) (w0 : World) (V : Nat → World → List Value → Value → Prop) (listed : Array Bool) (a : Act) (w : World) : Prop :=
  listed.size = l.length ∧
  ((∃ vals : Nat → Value, Ext w0 w ∧ (∀ j, m ≤ j → listed.getD j false = false) ∧ (∀ i, listed.getD i false = true → ∀ j ∈ deps l i, listed.getD j false = true) ∧
      (∀ i, i < m → listed.getD i false = true → V i w ((deps l i).map vals) (vals i)) ∧ a = sel listed vals (l.take m) 0 a0) ∨
   (∃ k, m ≤ k ∧ k ≤ l.length ∧ (∀ j, j < l.length → (listed.getD j false = true ↔ j < k)) ∧ wpList P l.toArray Q (l.drop k) a w))

theorem ok_parts (hB : monoB l m = true) {i : Nat} {o : Oper} (ho : l[i]? = some o) :
    (∀ j ∈ deps l i, j < i) ∧ (∀ cs b, o.op ≠ .select cs b) ∧ (i < m → ∀ j oj, j < m → l[j]? = some oj → j ∉ deps l i → ∀ d, oj.dst = some d → d ∉ o.looksAt l.toArray) ∧
      (i < m → ∀ j oj, j < m → j ≠ i → l[j]? = some oj → ∀ d, oj.dst = some d → o.dst ≠ some d) ∧ (m ≤ i → ∀ j, j < i → nearB l i j = true) := by
  have hi : i < l.length := by
    rcases Nat.lt_or_ge i l.length with h | h
    · exact h
    · rw [List.getElem?_eq_none h] at ho; cases ho
  unfold monoB at hB
  simp only [Bool.and_eq_true, List.all_eq_true, List.mem_range] at hB
  have h := hB.2 i hi
  unfold okAt at h
  rw [ho] at h
  simp only [Bool.and_eq_true, Bool.or_eq_true, List.all_eq_true, List.mem_range, decide_eq_true_eq, Bool.not_eq_true', decide_eq_false_iff_not] at h
  obtain ⟨⟨⟨⟨h1, h2⟩, h3⟩, h4⟩, h5⟩ := h
  refine ⟨h1, fun cs b e => by rw [e] at h2; simp [isSelect] at h2, fun him j oj hj hoj hnd d hd => ?_, fun him j oj hj hji hoj d hd e => ?_, fun him j hj => ?_⟩
  · rcases h3 with h3 | h3
    · omega
    · have := h3 j hj
      rw [hoj] at this
      simp only [Option.bind_some, hd] at this
      rcases this with h | h
      · exact absurd (by simpa using h) hnd
      · simpa using h
  · rcases h4 with h4 | h4
    · omega
    · have := h4 j hj
      rw [hoj] at this
      simp only [Option.bind_some, hd] at this
      rcases this with h | h
      · simp at h; exact hji h
      · rw [e] at h; simp at h
  · rcases h5 with h5 | h5
    · omega
    · exact h5 j hj

theorem deps_lt (hB : monoB l m = true) {i j : Nat} (hj : j ∈ deps l i) : j < i := by
  cases ho : l[i]? with
  | none => unfold deps at hj; rw [ho] at hj; cases hj
  | some o => exact (ok_parts hB ho).1 j hj
theorem near_listed {listed : Array Bool} (hdc : ∀ i, listed.getD i false = true → ∀ j ∈ deps l i, listed.getD j false = true) {i j : Nat} (hdl : ∀ j ∈ deps l i, listed.getD j false = true) (h : nearB l i j = true) : listed.getD j false = true := by
  rcases near_cases h with h | ⟨k, hk, h | ⟨q, hq, h⟩⟩
  · exact hdl j h
  · exact hdc k (hdl k hk) j h
  · exact hdc q (hdc k (hdl k hk) q hq) j h
theorem near_tail (hB : monoB l m = true) {listed : Array Bool} {i k : Nat} (hk : k < l.length) (hi : i ≤ l.length) (hiff : ∀ j, j < l.length → (listed.getD j false = true ↔ j < k)) (hdl : ∀ j ∈ deps l i, listed.getD j false = true) (h : nearB l i k = true) : False := by
  have hlt : ∀ j, j ∈ deps l i → j < k := fun j hj => (hiff j (by have := deps_lt hB hj; omega)).1 (hdl j hj)
  rcases near_cases h with h | ⟨k', hk', h | ⟨q, hq, h⟩⟩
  · exact absurd (hlt k h) (by omega)
  · have := hlt k' hk'; have := deps_lt hB h; omega
  · have := hlt k' hk'; have := deps_lt hB hq; have := deps_lt hB h; omega

theorem distinct (hB : monoB l m = true) : ∀ (p q : Nat) (op oq : Oper), p < q → (l.take m)[p]? = some op → (l.take m)[q]? = some oq → ∀ d, op.dst = some d → oq.dst ≠ some d := by
  intro p q op oq hpq hp hq d hd
  rw [List.getElem?_take] at hp hq
  split at hp <;> rename_i hpm
  · split at hq <;> rename_i hqm
    · exact (ok_parts hB hq).2.2.2.1 hqm p op hpm (by omega) hp d hd
    · cases hq
  · cases hp

theorem deps_mem {i : Nat} {o : Oper} (ho : l[i]? = some o) {j : Nat} (hj : j ∈ deps l i) : ∃ e ∈ o.after, Region.binds .any e = true ∧ e.on = j := by
  unfold deps at hj
  rw [ho] at hj
  simp only [List.mem_map, List.mem_filter, Array.mem_toList_iff] at hj
  obtain ⟨e, ⟨h1, h2⟩, h3⟩ := hj
  exact ⟨e, h1, h2, h3⟩

theorem clo_listed {listed : Array Bool} (hdc : ∀ i, listed.getD i false = true → ∀ j ∈ deps l i, listed.getD j false = true) : ∀ (n i : Nat), (∀ j ∈ deps l i, listed.getD j false = true) → ∀ j ∈ clo l n i, listed.getD j false = true
  | 0, _, _, j, hj => by simp [clo] at hj
  | n + 1, i, h, j, hj => by
    simp only [clo, List.mem_append, List.mem_flatMap] at hj
    rcases hj with hj | ⟨k, hk, hj⟩
    · exact h j hj
    · exact clo_listed hdc n k (hdc k (h k hk)) j hj

theorem sel_all {listed : Array Bool} {vals : Nat → Value} : ∀ (r : List Oper) (k : Nat) (a : Act), (∀ j, k ≤ j → j < k + r.length → listed.getD j false = true) → sel listed vals r k a = all vals r k a
  | [], _, _, _ => rfl
  | o :: r, k, a, h => by
    simp only [sel, all]
    rw [if_pos (h k (Nat.le_refl _) (by simp))]
    exact sel_all r (k + 1) _ (fun j h1 h2 => h j (by omega) (by simp; omega))

theorem all_listed (hB : monoB l m = true) {listed : Array Bool} (hsz : listed.size = l.length) (hr : Region.ready .any l.toArray listed = []) : ∀ i, i < l.length → listed.getD i false = true := by
  intro i
  induction i using Nat.strongRecOn with
  | _ i ih =>
    intro hi
    cases hl : listed.getD i false with
    | true => rfl
    | false =>
      have ho : l[i]? = some l[i] := List.getElem?_eq_getElem hi
      have hm : i ∈ Region.ready .any l.toArray listed := by
        rw [mem_ready]
        refine ⟨?_, l[i], by simp, fun e he hb => ?_⟩
        · rw [← hl]; simp [show i < listed.size by omega]
        · have hd : e.on ∈ deps l i := by
            unfold deps
            rw [ho]
            simp only [List.mem_map, List.mem_filter, Array.mem_toList_iff]
            exact ⟨e, ⟨he, hb⟩, rfl⟩
          have := (ok_parts hB ho).1 _ hd
          exact ih _ this (by omega)
      rw [hr] at hm
      cases hm

theorem wpOp_list {o : Oper} {i : Nat} {rest : List Oper} {a : Act} {w : World} (ho : l[i]? = some o) (h : wpList P l.toArray Q (o :: rest) a w) : wpOp P l.toArray Q i (wpList P l.toArray Q rest) a w := by
  unfold wpOp
  have : l.toArray[i]? = some o := by simpa using ho
  rw [this]
  exact h

theorem step (hB : monoB l m = true) (hst : ∀ i w w' d v, V i w d v → Ext w w' → V i w' d v)
    (hop : ∀ i o, i < m → l[i]? = some o → ∀ (vals : Nat → Value) (w : World), Ext w0 w → (∀ j, (deps l i).contains j = true → V j w ((deps l j).map vals) (vals j)) →
      if Region.wanted o (yielded l.toArray (all vals (l.take m) 0 a0).tmps) = true
      then Yields P (fun v w' => Ext w w' ∧ V i w' ((deps l i).map vals) v) ((execOp (all vals (l.take m) 0 a0).eval o).run P w)
      else V i w ((deps l i).map vals) undef)
    (hend : ∀ (vals : Nat → Value) (w : World), Ext w0 w → (∀ j, j < m → V j w ((deps l j).map vals) (vals j)) → wpList P l.toArray Q (l.drop m) (all vals (l.take m) 0 a0) w)
    (listed : Array Bool) (a : Act) (w : World) (i : Nat) (hI : Inv P l m Q a0 w0 V listed a w) (hi : i ∈ Region.ready .any l.toArray listed) :
    wpOp P l.toArray Q i (Inv P l m Q a0 w0 V (listed.setIfInBounds i true)) a w := by
  obtain ⟨hsz, hI⟩ := hI
  obtain ⟨hun, o, ho', hall⟩ := mem_ready.1 hi
  have ho : l[i]? = some o := by simpa using ho'
  have hil : i < l.length := by
    rcases Nat.lt_or_ge i l.length with h | h
    · exact h
    · rw [List.getElem?_eq_none h] at ho; cases ho
  have hsi : i < listed.size := by omega
  have hunf : listed.getD i false = false := by
    rw [← hun]; simp [hsi]
  obtain ⟨k1, k2, k3, k4, k5⟩ := ok_parts hB ho
  have hdl : ∀ j ∈ deps l i, listed.getD j false = true := fun j hj => by
    obtain ⟨e, he, hb, rfl⟩ := deps_mem ho hj
    exact hall e he hb
  have hml : m ≤ l.length := by
    unfold monoB at hB
    simp only [Bool.and_eq_true, decide_eq_true_eq] at hB
    exact hB.1
  have hdrop : ∀ k, l[k]? = some o → l.drop k = o :: l.drop (k + 1) := fun k hk => by
    have hkl : k < l.length := by
      rcases Nat.lt_or_ge k l.length with h | h
      · exact h
      · rw [List.getElem?_eq_none h] at hk; cases hk
    rw [List.drop_eq_getElem_cons hkl]
    rw [List.getElem?_eq_getElem hkl] at hk
    cases hk; rfl
  rcases hI with ⟨vals, hE, htail, hdc, hV, ha⟩ | ⟨k, hmk, hkl, hiff, hw⟩
  · rcases Nat.lt_or_ge i m with him | him
    · have hcl := clo_listed hdc l.length i hdl
      have hjm : ∀ j, listed.getD j false = true → j < m := fun j hj => by
        rcases Nat.lt_or_ge j m with h | h
        · exact h
        · rw [htail j h] at hj; cases hj
      have hob := hop i o him ho vals w hE (fun j hj => hV j (hjm j (hdl j (by simpa using hj))) (hdl j (by simpa using hj)))
      have hsame := uns_same (ops := l.toArray) (listed := listed) (vals := vals) (x := o) k2 (l.take m) 0 a (fun j oj hj hlj d hd => by
        rw [List.getElem?_take] at hj
        split at hj
        · rename_i hjm'
          exact k3 him j oj hjm' hj (fun hmem => by have := hdl j hmem; rw [Nat.zero_add] at hlj; rw [hlj] at this; cases this) d hd
        · cases hj)
      rw [ha, ← all_eq (l.take m) 0 a0 (distinct hB)] at hsame
      rw [hsame.2, hsame.1, ← ha] at hob
      have hnew : ∀ v w', Ext w w' → V i w' ((deps l i).map vals) v → Inv P l m Q a0 w0 V (listed.setIfInBounds i true) (a.put o.dst v) w' := by
        intro v w' hE' hVi
        refine ⟨by simpa using hsz, .inl ⟨upd vals i v, hE.trans hE', fun j hj => ?_, fun i' hi' j hj => ?_, fun i' him' hi' => ?_, ?_⟩⟩
        · rw [set_getD hsi, if_neg (by omega)]; exact htail j hj
        · rw [set_getD hsi] at hi' ⊢
          by_cases e : i' = i
          · subst e
            split
            · rfl
            · exact hdl j hj
          · rw [if_neg e] at hi'
            split
            · rfl
            · exact hdc i' hi' j hj
        · rw [set_getD hsi] at hi'
          by_cases e : i' = i
          · subst e
            have : (deps l i').map (upd vals i' v) = (deps l i').map vals := List.map_congr_left fun j hj => by
              have := k1 j hj
              simp [upd]; omega
            rw [this]
            simpa [upd] using hVi
          · rw [if_neg e] at hi'
            have : (deps l i').map (upd vals i v) = (deps l i').map vals := List.map_congr_left fun j hj => by
              have hjl := hdc i' hi' j hj
              have : j ≠ i := fun h => by subst h; rw [hunf] at hjl; cases hjl
              simp [upd, this]
            rw [this]
            have h2 : upd vals i v i' = vals i' := by simp [upd, e]
            rw [h2]
            exact hst _ _ _ _ _ (hV i' him' hi') hE'
        · rw [ha]
          exact (sel_set hsi hunf (l.take m) 0 a0 (Nat.zero_le _) (by rw [Nat.sub_zero, List.getElem?_take, if_pos him]; exact ho) (distinct hB)).symm
      unfold wpOp
      simp only [ho']
      by_cases hwant : Region.wanted o (yielded l.toArray a.tmps) = true
      · rw [if_pos hwant] at hob ⊢
        exact .inl (wp_of_yields hob (fun v w' h => hnew v w' h.1 h.2))
      · rw [if_neg hwant] at hob ⊢
        exact hnew undef w (Ext.refl _) hob
    · have hmi : i = m := by
        rcases Nat.lt_or_ge m i with h | h
        · have := near_listed hdc hdl (k5 him m h)
          rw [htail m (Nat.le_refl _)] at this; cases this
        · omega
      subst hmi
      have hpre : ∀ j, j < i → listed.getD j false = true := fun j hj => near_listed hdc hdl (k5 him j hj)
      have hall' : a = all vals (l.take i) 0 a0 := by
        rw [ha]
        exact sel_all _ _ _ (fun j _ hj => hpre j (by simp at hj; omega))
      have hw := hend vals w hE (fun j hj => hV j hj (hpre j hj))
      rw [← hall', hdrop i ho] at hw
      refine wpOp_mono (fun a' w' h => ?_) (wpOp_list ho hw)
      refine ⟨by simpa using hsz, .inr ⟨i + 1, by omega, by omega, fun j hj => ?_, h⟩⟩
      rw [set_getD hsi]
      by_cases e : j = i
      · subst e; simp
      · rw [if_neg e]
        constructor
        · intro h
          rcases Nat.lt_or_ge j i with h' | h'
          · omega
          · rw [htail j h'] at h; cases h
        · intro h; exact hpre j (by omega)
  · have hki : k = i := by
      rcases Nat.lt_or_ge i k with h | h
      · have := (hiff i hil).2 h
        rw [hunf] at this; cases this
      · rcases Nat.lt_or_ge k i with h' | h'
        · exact (near_tail hB (by omega) (by omega) hiff hdl (k5 (by omega) k h')).elim
        · omega
    subst hki
    rw [hdrop k ho] at hw
    refine wpOp_mono (fun a' w' h => ?_) (wpOp_list ho hw)
    refine ⟨by simpa using hsz, .inr ⟨k + 1, by omega, by omega, fun j hj => ?_, h⟩⟩
    rw [set_getD hsi]
    by_cases e : j = k
    · subst e; simp
    · rw [if_neg e, hiff j hj]; omega

def count (listed : Array Bool) : Nat := (listed.toList.filter (fun b => !b)).length

theorem count_set {listed : Array Bool} {i : Nat} (hi : i < listed.size) (hun : listed.getD i true = false) : count (listed.setIfInBounds i true) + 1 = count listed := by
  have h : ∀ (xs : List Bool) (i : Nat), xs[i]? = some false → ((xs.set i true).filter (fun b => !b)).length + 1 = (xs.filter (fun b => !b)).length := by
    intro xs
    induction xs with
    | nil => intro i h; simp at h
    | cons b r ih =>
      intro i h
      cases i with
      | zero => simp at h; subst h; simp
      | succ i =>
        have := ih i (by simpa using h)
        cases b <;> simp <;> simpa using this
  unfold count
  rw [Array.toList_setIfInBounds]
  refine h _ _ ?_
  have : listed[i]? = some listed[i] := Array.getElem?_eq_getElem hi
  rw [Array.getElem?_toList, this]
  have e : listed.getD i true = listed[i] := by simp [Array.getD, hi]
  rw [e] at hun
  rw [hun]

theorem any_of_inv (I : Array Bool → Act → World → Prop) (hsz : ∀ listed a w, I listed a w → listed.size = l.length)
    (hstep : ∀ listed a w i, I listed a w → i ∈ Region.ready .any l.toArray listed → wpOp P l.toArray Q i (I (listed.setIfInBounds i true)) a w)
    (hend : ∀ listed a w, I listed a w → Region.ready .any l.toArray listed = [] → Q .normal a w) :
    ∀ (fuel : Nat) (listed : Array Bool) (a : Act) (w : World), count listed ≤ fuel → I listed a w → wpAny P .any l.toArray Q fuel listed a w
  | 0, listed, a, w, hc, hI => by
    have hr : Region.ready .any l.toArray listed = [] := by
      cases h : Region.ready .any l.toArray listed with
      | nil => rfl
      | cons i r =>
        have hi : i ∈ Region.ready .any l.toArray listed := by rw [h]; simp
        obtain ⟨hun, o, ho, _⟩ := mem_ready.1 hi
        have hil : i < l.toArray.size := (Array.getElem?_eq_some_iff.1 ho).1
        have := count_set (listed := listed) (i := i) (by rw [hsz _ _ _ hI]; simpa using hil) hun
        omega
    exact ⟨hr, hend _ _ _ hI hr⟩
  | fuel + 1, listed, a, w, hc, hI => by
    refine ⟨hend _ _ _ hI, fun i hi => wpOp_mono (fun a' w' h => ?_) (hstep _ _ _ _ hI hi)⟩
    obtain ⟨hun, o, ho, _⟩ := mem_ready.1 hi
    have hil : i < l.toArray.size := (Array.getElem?_eq_some_iff.1 ho).1
    have := count_set (listed := listed) (i := i) (by rw [hsz _ _ _ hI]; simpa using hil) hun
    exact any_of_inv I hsz hstep hend fuel _ a' w' (by omega) h

/-- a region whose order is open: what each operation leaves is said once -/
theorem wp_region_mono {id : Nat} (m : Nat) (V : Nat → World → List Value → Value → Prop) (hm : P.follows .mixedOrders = true) (hB : monoB l m = true)
    (hst : ∀ i w w' d v, V i w d v → Ext w w' → V i w' d v)
    (hop : ∀ i o, i < m → l[i]? = some o → ∀ (vals : Nat → Value) (w : World), Ext w0 w → (∀ j, (deps l i).contains j = true → V j w ((deps l j).map vals) (vals j)) →
      if Region.wanted o (yielded l.toArray (all vals (l.take m) 0 a0).tmps) = true
      then Yields P (fun v w' => Ext w w' ∧ V i w' ((deps l i).map vals) v) ((execOp (all vals (l.take m) 0 a0).eval o).run P w)
      else V i w ((deps l i).map vals) undef)
    (hend : ∀ (vals : Nat → Value) (w : World), Ext w0 w → (∀ j, j < m → V j w ((deps l j).map vals) (vals j)) → wpList P l.toArray Q (l.drop m) (all vals (l.take m) 0 a0) w) :
    (Code.region id l.toArray true).wp P Q a0 w0 := by
  have hml : m ≤ l.length := by
    unfold monoB at hB
    simp only [Bool.and_eq_true, decide_eq_true_eq] at hB
    exact hB.1
  refine wp_region_any hm (any_of_inv (Inv P l m Q a0 w0 V) (fun _ _ _ h => h.1) (step hB hst hop hend) (fun listed a w hI hr => ?_) _ _ _ _ ?_ ?_)
  · obtain ⟨hsz, hI⟩ := hI
    have hal := all_listed hB hsz hr
    rcases hI with ⟨vals, hE, htail, hdc, hV, ha⟩ | ⟨k, hmk, hkl, hiff, hw⟩
    · have hm' : m = l.length := by
        rcases Nat.lt_or_ge m l.length with h | h
        · have := hal m h
          rw [htail m (Nat.le_refl _)] at this; cases this
        · omega
      have hw := hend vals w hE (fun j hj => hV j hj (hal j (by omega)))
      rw [ha, sel_all _ _ _ (fun j _ hj => hal j (by simp at hj; omega))]
      rw [hm', List.drop_length] at hw
      rw [hm']
      exact hw
    · have hk : k = l.length := by
        rcases Nat.lt_or_ge k l.length with h | h
        · have := (hiff k h).1 (hal k h)
          omega
        · omega
      subst hk
      rw [List.drop_length] at hw
      exact hw
  · unfold count
    exact Nat.le_trans (List.length_filter_le (fun b => !b) (Array.replicate l.toArray.size false).toList) (by simp)
  · refine ⟨by simp, .inl ⟨fun _ => undef, (Ext.refl w0).drew, fun j _ => ?_, fun i hi => ?_, fun i _ hi => ?_, ?_⟩⟩
    · by_cases h : j < l.length <;> simp [h]
    · exfalso
      by_cases h : i < l.length <;> simp [h] at hi
    · exfalso
      by_cases h : i < l.length <;> simp [h] at hi
    · have : ∀ (r : List Oper) (k : Nat) (a : Act), sel (Array.replicate l.toArray.size false) (fun _ => undef) r k a = a := by
        intro r
        induction r with
        | nil => intro k a; rfl
        | cons o r ih =>
          intro k a
          simp only [sel]
          rw [if_neg (by by_cases h : k < l.length <;> simp [h])]
          exact ih _ _
      exact (this _ _ _).symm
end
end Go.Proofs.Ytjabahfkgaamdaa.Mono

/- Appends to a new empty list, in a region whose order is open (for wp_region_mono): lists of any kind. -/
namespace Go.Proofs.Ytjabahfkgaamdaa
open Go.RowKit
section
variable {α : Type} (K : Kd α)
/-- an empty list of the call's own -/
def NewAt (B : Nat) (w : World) (v : Value) : Prop := ∃ x, v = .slice (some ⟨x, 0, none⟩) 0 0 ∧ B ≤ x ∧ w.heap[x]? = some (.cells #[] K.e (0, 0))
/-- a list of the call's own -/
def OwAt (B : Nat) (w : World) (v : Value) (xs : List α) : Prop := ∃ A c, v = .slice A xs.length c ∧ Ow K B w (.slice A xs.length c) xs
variable {K}
theorem block_keep {w w' : World} {x : Nat} {o : Obj} (h : w.heap[x]? = some o) (hE : Ext w w') : w'.heap[x]? = some o := by
  have hlt : x < w.heap.size := by
    rcases Nat.lt_or_ge x w.heap.size with h' | h'
    · exact h'
    · rw [Array.getElem?_eq_none h'] at h; cases h
  exact (Below.block hE x hlt).trans h
theorem NewAt.ext {B : Nat} {w w' : World} {v : Value} (h : NewAt K B w v) (hE : Ext w w') : NewAt K B w' v := by
  obtain ⟨x, rfl, hB, hx⟩ := h
  exact ⟨x, rfl, hB, block_keep hx hE⟩
theorem NewAt.made (w : World) {B : Nat} (hB : B ≤ w.heap.size) : NewAt K B (w.alloc (.cells #[] K.e)) (.slice (some ⟨w.heap.size, 0, none⟩) 0 0) := ⟨w.heap.size, rfl, hB, heap_alloc_new w _⟩
theorem OwAt.ext {B : Nat} {w w' : World} {v : Value} {xs : List α} (h : OwAt K B w v xs) (hE : Ext w w') : OwAt K B w' v xs := by
  obtain ⟨A, c, rfl, h⟩ := h
  exact ⟨A, c, rfl, h.ext hE⟩
theorem NewAt.ow {B : Nat} {w : World} {v : Value} (h : NewAt K B w v) : OwAt K B w v [] := by
  obtain ⟨x, rfl, hB, hx⟩ := h
  exact ⟨_, 0, rfl, ⟨by simp [Kd.flat], .inr ⟨x, 0, #[], rfl, hB, hx, Nat.le_refl _, by simp [maxLen], by simp, by simp [Kd.flat]⟩⟩, by simp⟩

set_option maxRecDepth 100000 in
/-- 'append([]T{}, ys...)': a list of its own; all that was stays; a block that is new, where it isn't empty -/
theorem Kd.app_new (K : Kd α) {B : Nat} {w : World} {v : Value} {y : Value} {ys : List α} (hv : NewAt K B w v) (hy : Rd K w y ys) (hl : ys.length ≤ 1048576) (hBw : B ≤ w.heap.size) :
    ∃ v' w', (Builtin.append_ #[K.t, K.t] K.t #[v, y]).run Try.prog w = .ok v' w' ∧ Ext w w' ∧ OwAt K B w' v' ys ∧ (0 < ys.length → v'.ownBlock = some w.heap.size) := by
  have hown := hv.ow
  obtain ⟨x, rfl, hB, hx⟩ := hv
  obtain ⟨i0, hi, hz0, hz1, hz2⟩ := info_parts K.info
  have hsm := K.small
  by_cases h0 : 0 < ys.length
  · obtain ⟨A, c, rfl, hc'⟩ := hy.slice
    obtain ⟨b, off, rfl, _⟩ := hy.cells h0
    have hr := run_append_grow (P := Try.prog) w K.t K.t K.e i0 K.z K.ht hi hz0 ⟨x, 0, none⟩ 0 0 [] (by simp) (by simp) ⟨b, off, none⟩ ys.length c (K.flat ys) (by rw [K.flat_len, hz1]) hy.at_ (by omega) (by omega)
      (growslice_fits (by omega) (by rw [hz2]; exact Nat.le_trans (Nat.mul_le_mul (by omega : 0 + ys.length ≤ 1048576) hsm) (by omega)))
    simp only [Nat.zero_add] at hr
    refine ⟨_, _, hr, (Ext.refl w).drew.alloc _, ⟨some ⟨w.heap.size, 0, none⟩, _, rfl, ⟨K.flat_len ys, .inr ⟨w.heap.size, _, _, rfl, hBw, heap_alloc_new w.drew _, grownCap_ge w _ _ _, grownCap_le_maxLen w _ _ _ (by unfold maxLen; omega), ?_, ?_⟩⟩, hy.2.1⟩, fun _ => rfl⟩
    · have := grownCap_ge w ys.length 0 K.e
      simp only [Array.size_append, List.size_toArray, size_zeroCells, K.hzs, K.flat_len, List.length_nil, Nat.zero_add, ← Nat.add_mul]
      congr 1
      omega
    · simp only [Array.toList_append, List.nil_append]
      exact List.take_left' (by rw [K.flat_len])
  · obtain rfl : ys = [] := List.eq_nil_of_length_eq_zero (by omega)
    obtain ⟨A, c, rfl, _⟩ := hy.slice
    rcases A with _ | ad
    · refine ⟨_, w, ?_, Ext.refl _, hown, by simp⟩
      simp [Builtin.append_, run_underlying K.ht, sizeOf, typeInfo, hi, Builtin.lenOf, Builtin.firstCells, storeCells]
    · have hr := run_append_room (P := Try.prog) w K.t K.t K.e i0 K.ht hi x 0 0 #[] hx ad 0 c [] (by simp) (by simp) (by simp) (by omega) (by simp)
      have hE : Ext w (w.setRow x #[]) := ⟨rfl, rfl, rfl, by simp [World.setRow], fun k hk => by
        by_cases e : k = x
        · subst e; rw [setRow_heap w k _ _ _ _ hx, hx]
        · exact setRow_other w x k _ e⟩
      exact ⟨_, _, by simpa using hr, hE, hown.ext hE, by simp⟩
theorem Kd.yields_app (K : Kd α) {o : Oper} {a : Act} {w w' : World} {R : Value → World → Prop} (s x : Operand) {v y v' : Value}
    (ho : o.op = .call { callee := .builtin .append, args := #[s, x], argTypes := #[K.t, K.t] }) (hty : o.type = K.t) (hs : a.eval s = v) (hx : a.eval x = y)
    (hr : (Builtin.append_ #[K.t, K.t] K.t #[v, y]).run Try.prog w = .ok v' w') (hR : R v' w') : Mono.Yields Try.prog R ((execOp a.eval o).run Try.prog w) := by
  unfold execOp
  simp only [ho, hty, resolve, invoke, builtin, Sem.run_bind, Sem.run_pure, Result.andThen_ok, List.map_toArray, List.map_cons, List.map_nil, hs, hx, hr]
  exact ⟨hR⟩
end
end Go.Proofs.Ytjabahfkgaamdaa

/- The document's Copy of work. -/
namespace Go.Proofs.Ytjabahfkgaamdaa
open Go.RowKit Go.Proofs.Ytjabahfkgaamdaa.Plain

def CopyV (w0 : World) (P : Nat) (A B : Option Addr) (c d : Nat) (ts : List Tk) (g : Int) (dn : List Bool) : Nat → World → List Value → Value → Prop
  | 0, w, _, v => NewAt kTask w0.heap.size w v
  | 1, _, _, v => v = .pointer (some ⟨P, 0, none⟩)
  | 2, _, _, v => v = .slice A ts.length c
  | 3, w, _, v => OwAt kTask w0.heap.size w v ts
  | 4, _, _, v => v = .pointer (some ⟨P, 1, none⟩)
  | 5, _, _, v => v = .int .i64 g
  | 6, w, _, v => NewAt kBool w0.heap.size w v
  | 7, _, _, v => v = .pointer (some ⟨P, 2, none⟩)
  | 8, _, _, v => v = .slice B dn.length d
  | 9, w, _, v => OwAt kBool w0.heap.size w v dn
  | 10, _, ds, v => v = .agg #[ds.getD 0 undef, ds.getD 1 undef, ds.getD 2 undef]
  | _, _, _, _ => True
theorem CopyV_ext (w0 : World) (P : Nat) (A B : Option Addr) (c d : Nat) (ts : List Tk) (g : Int) (dn : List Bool) : ∀ i w w' ds v, CopyV w0 P A B c d ts g dn i w ds v → Ext w w' → CopyV w0 P A B c d ts g dn i w' ds v
  | 0, _, _, _, _, h, hE => NewAt.ext h hE
  | 1, _, _, _, _, h, _ => h
  | 2, _, _, _, _, h, _ => h
  | 3, _, _, _, _, h, hE => OwAt.ext h hE
  | 4, _, _, _, _, h, _ => h
  | 5, _, _, _, _, h, _ => h
  | 6, _, _, _, _, h, hE => NewAt.ext h hE
  | 7, _, _, _, _, h, _ => h
  | 8, _, _, _, _, h, _ => h
  | 9, _, _, _, _, h, hE => OwAt.ext h hE
  | 10, _, _, _, _, h, _ => h
  | _ + 11, _, _, _, _, _, _ => trivial
section
variable (w0 : World) (P : Nat) (A B : Option Addr) (c d : Nat) (ts : List Tk) (g : Int) (dn : List Bool) (w : World) (ds : List Value) (v : Value)
theorem CopyV_i0 (h : NewAt kTask w0.heap.size w v) : CopyV w0 P A B c d ts g dn 0 w ds v := h
theorem CopyV_e0 (h : CopyV w0 P A B c d ts g dn 0 w ds v) : NewAt kTask w0.heap.size w v := h
theorem CopyV_i1 (h : v = .pointer (some ⟨P, 0, none⟩)) : CopyV w0 P A B c d ts g dn 1 w ds v := h
theorem CopyV_e1 (h : CopyV w0 P A B c d ts g dn 1 w ds v) : v = .pointer (some ⟨P, 0, none⟩) := h
theorem CopyV_i2 (h : v = .slice A ts.length c) : CopyV w0 P A B c d ts g dn 2 w ds v := h
theorem CopyV_e2 (h : CopyV w0 P A B c d ts g dn 2 w ds v) : v = .slice A ts.length c := h
theorem CopyV_i3 (h : OwAt kTask w0.heap.size w v ts) : CopyV w0 P A B c d ts g dn 3 w ds v := h
theorem CopyV_e3 (h : CopyV w0 P A B c d ts g dn 3 w ds v) : OwAt kTask w0.heap.size w v ts := h
theorem CopyV_i4 (h : v = .pointer (some ⟨P, 1, none⟩)) : CopyV w0 P A B c d ts g dn 4 w ds v := h
theorem CopyV_e4 (h : CopyV w0 P A B c d ts g dn 4 w ds v) : v = .pointer (some ⟨P, 1, none⟩) := h
theorem CopyV_i5 (h : v = .int .i64 g) : CopyV w0 P A B c d ts g dn 5 w ds v := h
theorem CopyV_e5 (h : CopyV w0 P A B c d ts g dn 5 w ds v) : v = .int .i64 g := h
theorem CopyV_i6 (h : NewAt kBool w0.heap.size w v) : CopyV w0 P A B c d ts g dn 6 w ds v := h
theorem CopyV_e6 (h : CopyV w0 P A B c d ts g dn 6 w ds v) : NewAt kBool w0.heap.size w v := h
theorem CopyV_i7 (h : v = .pointer (some ⟨P, 2, none⟩)) : CopyV w0 P A B c d ts g dn 7 w ds v := h
theorem CopyV_e7 (h : CopyV w0 P A B c d ts g dn 7 w ds v) : v = .pointer (some ⟨P, 2, none⟩) := h
theorem CopyV_i8 (h : v = .slice B dn.length d) : CopyV w0 P A B c d ts g dn 8 w ds v := h
theorem CopyV_e8 (h : CopyV w0 P A B c d ts g dn 8 w ds v) : v = .slice B dn.length d := h
theorem CopyV_i9 (h : OwAt kBool w0.heap.size w v dn) : CopyV w0 P A B c d ts g dn 9 w ds v := h
theorem CopyV_e9 (h : CopyV w0 P A B c d ts g dn 9 w ds v) : OwAt kBool w0.heap.size w v dn := h
theorem CopyV_i10 (h : v = .agg #[ds.getD 0 undef, ds.getD 1 undef, ds.getD 2 undef]) : CopyV w0 P A B c d ts g dn 10 w ds v := h
theorem CopyV_e10 (h : CopyV w0 P A B c d ts g dn 10 w ds v) : v = .agg #[ds.getD 0 undef, ds.getD 1 undef, ds.getD 2 undef] := h
end

set_option maxHeartbeats 3200000 in
set_option maxRecDepth 100000 in
theorem rcopy_any (A B : Option Addr) (c d : Nat) (ts : List Tk) (g : Int) (dn : List Bool) (w : World) (h : Rd kTask w (.slice A ts.length c) ts) (h' : Rd kBool w (.slice B dn.length d) dn) (hl : ts.length ≤ 4000) (hl' : dn.length ≤ 4000) :
    Calls Try.prog 58 #[.agg #[.slice A ts.length c, .int .i64 g, .slice B dn.length d]] w fun e w' => ∃ A c B d, e = .returned (.agg #[.slice A ts.length c, .int .i64 g, .slice B dn.length d]) ∧
      Ow kTask w.heap.size w' (.slice A ts.length c) ts ∧ Ow kBool w.heap.size w' (.slice B dn.length d) dn ∧ Ext w w' := by
  have H0 := Lib.hid h
  have HD0 := Lib.hid h'
  clear h h'
  go_enter Try.func58, Try.ntmps58
  go_wp2
  have q0 : ((w.alloc (.cells #[.slice A ts.length c, .int .i64 g, .slice B dn.length d] 54)).alloc (.cells #[.slice none 0 0, .int .i64 0, .slice none 0 0] 54)).cell? ⟨w.heap.size, 0, none⟩ = some (.slice A ts.length c) := by go_simp
  have q1 : ((w.alloc (.cells #[.slice A ts.length c, .int .i64 g, .slice B dn.length d] 54)).alloc (.cells #[.slice none 0 0, .int .i64 0, .slice none 0 0] 54)).cell? ⟨w.heap.size, 1, none⟩ = some (.int .i64 g) := by go_simp
  have q2 : ((w.alloc (.cells #[.slice A ts.length c, .int .i64 g, .slice B dn.length d] 54)).alloc (.cells #[.slice none 0 0, .int .i64 0, .slice none 0 0] 54)).cell? ⟨w.heap.size, 2, none⟩ = some (.slice B dn.length d) := by go_simp
  have r0 : ((w.alloc (.cells #[.slice A ts.length c, .int .i64 g, .slice B dn.length d] 54)).alloc (.cells #[.slice none 0 0, .int .i64 0, .slice none 0 0] 54)).heap[w.heap.size + 1]? = some (.cells #[.slice none 0 0, .int .i64 0, .slice none 0 0] 54 (0, 0)) := heap_alloc2_new w _ _
  have H := Lib.hid (H0.out.ext (((Ext.refl w).alloc (.cells #[.slice A ts.length c, .int .i64 g, .slice B dn.length d] 54)).alloc (.cells #[.slice none 0 0, .int .i64 0, .slice none 0 0] 54)))
  have HD := Lib.hid (HD0.out.ext (((Ext.refl w).alloc (.cells #[.slice A ts.length c, .int .i64 g, .slice B dn.length d] 54)).alloc (.cells #[.slice none 0 0, .int .i64 0, .slice none 0 0] 54)))
  have X := Lib.hid (((Ext.refl w).alloc (.cells #[.slice A ts.length c, .int .i64 g, .slice B dn.length d] 54)).alloc (.cells #[.slice none 0 0, .int .i64 0, .slice none 0 0] 54))
  have hz : ((w.alloc (.cells #[.slice A ts.length c, .int .i64 g, .slice B dn.length d] 54)).alloc (.cells #[.slice none 0 0, .int .i64 0, .slice none 0 0] 54)).heap.size = w.heap.size + 2 := by simp
  generalize (w.alloc (.cells #[.slice A ts.length c, .int .i64 g, .slice B dn.length d] 54)).alloc (.cells #[.slice none 0 0, .int .i64 0, .slice none 0 0] 54) = w0 at *
  obtain ⟨P, hP⟩ : ∃ P, w.heap.size = P := ⟨_, rfl⟩
  have HZ := Lib.hid hz
  have HP := Lib.hid hP
  rw [hP] at q0 q1 q2 r0 ⊢
  clear hz hP
  refine Mono.wp_region_mono 11 (CopyV w0 P A B c d ts g dn) (by kernel_rfl) (by kernel_rfl) (CopyV_ext w0 P A B c d ts g dn) ?_ ?_
  · intro i o hi ho vals w5 hE hcl
    have hi' : i = 0 ∨ i = 1 ∨ i = 2 ∨ i = 3 ∨ i = 4 ∨ i = 5 ∨ i = 6 ∨ i = 7 ∨ i = 8 ∨ i = 9 ∨ i = 10 := by omega
    rcases hi' with rfl | rfl | rfl | rfl | rfl | rfl | rfl | rfl | rfl | rfl | rfl
    · simp only [List.getElem?_cons_zero, Option.some.injEq] at ho
      subst ho
      rw [if_pos (Mono.wanted_none rfl)]
      clear hcl
      refine Mono.yields_same (.slice (some ⟨w5.heap.size, 0, none⟩) 0 0) (w5.alloc (.cells #[] kTask.e)) ?_ ⟨(Ext.refl _).alloc _, CopyV_i0 _ _ _ _ _ _ _ _ _ _ _ _ (NewAt.made w5 hE.size)⟩
      simp only [Mono.all, List.take, Act.put, kTask]
      go_simp
    · simp only [List.getElem?_cons_succ, List.getElem?_cons_zero, Option.some.injEq] at ho
      subst ho
      rw [if_pos (Mono.wanted_none rfl)]
      clear hcl
      refine Mono.yields_same (.pointer (some ⟨P, 0, none⟩)) w5 ?_ ⟨Ext.refl _, CopyV_i1 _ _ _ _ _ _ _ _ _ _ _ _ rfl⟩
      simp only [Mono.all, List.take, Act.put]
      go_simp
    · simp only [List.getElem?_cons_succ, List.getElem?_cons_zero, Option.some.injEq] at ho
      subst ho
      rw [if_pos (Mono.wanted_none rfl)]
      have h1 : vals 1 = .pointer (some ⟨P, 0, none⟩) := CopyV_e1 _ _ _ _ _ _ _ _ _ _ _ _ (hcl 1 (by kernel_rfl))
      have k1 := hE.cell q0
      clear hcl
      refine Mono.yields_same (.slice A ts.length c) w5 ?_ ⟨Ext.refl _, CopyV_i2 _ _ _ _ _ _ _ _ _ _ _ _ rfl⟩
      simp only [Mono.all, List.take, Act.put]
      go_simp
    · simp only [List.getElem?_cons_succ, List.getElem?_cons_zero, Option.some.injEq] at ho
      subst ho
      rw [if_pos (Mono.wanted_none rfl)]
      have h0 : NewAt kTask w0.heap.size w5 (vals 0) := CopyV_e0 _ _ _ _ _ _ _ _ _ _ _ _ (hcl 0 (by kernel_rfl))
      have h2 : vals 2 = .slice A ts.length c := CopyV_e2 _ _ _ _ _ _ _ _ _ _ _ _ (hcl 2 (by kernel_rfl))
      obtain ⟨v', w', hr, hX, hO, hb⟩ := Kd.app_new kTask h0 (H.out.ext hE) (by omega) hE.size
      exact Kd.yields_app kTask (v := vals 0) (y := .slice A ts.length c) (.tmp 3) (.tmp 5) rfl rfl (by kernel_rfl) (by rw [← h2]; kernel_rfl) hr ⟨hX, CopyV_i3 _ _ _ _ _ _ _ _ _ _ _ _ hO⟩
    · simp only [List.getElem?_cons_succ, List.getElem?_cons_zero, Option.some.injEq] at ho
      subst ho
      rw [if_pos (Mono.wanted_none rfl)]
      clear hcl
      refine Mono.yields_same (.pointer (some ⟨P, 1, none⟩)) w5 ?_ ⟨Ext.refl _, CopyV_i4 _ _ _ _ _ _ _ _ _ _ _ _ rfl⟩
      simp only [Mono.all, List.take, Act.put]
      go_simp
    · simp only [List.getElem?_cons_succ, List.getElem?_cons_zero, Option.some.injEq] at ho
      subst ho
      rw [if_pos (Mono.wanted_none rfl)]
      have h1 : vals 4 = .pointer (some ⟨P, 1, none⟩) := CopyV_e4 _ _ _ _ _ _ _ _ _ _ _ _ (hcl 4 (by kernel_rfl))
      have k1 := hE.cell q1
      clear hcl
      refine Mono.yields_same (.int .i64 g) w5 ?_ ⟨Ext.refl _, CopyV_i5 _ _ _ _ _ _ _ _ _ _ _ _ rfl⟩
      simp only [Mono.all, List.take, Act.put]
      go_simp
    · simp only [List.getElem?_cons_succ, List.getElem?_cons_zero, Option.some.injEq] at ho
      subst ho
      rw [if_pos (Mono.wanted_none rfl)]
      clear hcl
      refine Mono.yields_same (.slice (some ⟨w5.heap.size, 0, none⟩) 0 0) (w5.alloc (.cells #[] kBool.e)) ?_ ⟨(Ext.refl _).alloc _, CopyV_i6 _ _ _ _ _ _ _ _ _ _ _ _ (NewAt.made w5 hE.size)⟩
      simp only [Mono.all, List.take, Act.put, kBool]
      go_simp
    · simp only [List.getElem?_cons_succ, List.getElem?_cons_zero, Option.some.injEq] at ho
      subst ho
      rw [if_pos (Mono.wanted_none rfl)]
      clear hcl
      refine Mono.yields_same (.pointer (some ⟨P, 2, none⟩)) w5 ?_ ⟨Ext.refl _, CopyV_i7 _ _ _ _ _ _ _ _ _ _ _ _ rfl⟩
      simp only [Mono.all, List.take, Act.put]
      go_simp
    · simp only [List.getElem?_cons_succ, List.getElem?_cons_zero, Option.some.injEq] at ho
      subst ho
      rw [if_pos (Mono.wanted_none rfl)]
      have h1 : vals 7 = .pointer (some ⟨P, 2, none⟩) := CopyV_e7 _ _ _ _ _ _ _ _ _ _ _ _ (hcl 7 (by kernel_rfl))
      have k1 := hE.cell q2
      clear hcl
      refine Mono.yields_same (.slice B dn.length d) w5 ?_ ⟨Ext.refl _, CopyV_i8 _ _ _ _ _ _ _ _ _ _ _ _ rfl⟩
      simp only [Mono.all, List.take, Act.put]
      go_simp
    · simp only [List.getElem?_cons_succ, List.getElem?_cons_zero, Option.some.injEq] at ho
      subst ho
      rw [if_pos (Mono.wanted_none rfl)]
      have h0 : NewAt kBool w0.heap.size w5 (vals 6) := CopyV_e6 _ _ _ _ _ _ _ _ _ _ _ _ (hcl 6 (by kernel_rfl))
      have h2 : vals 8 = .slice B dn.length d := CopyV_e8 _ _ _ _ _ _ _ _ _ _ _ _ (hcl 8 (by kernel_rfl))
      obtain ⟨v', w', hr, hX, hO, hb⟩ := Kd.app_new kBool h0 (HD.out.ext hE) (by omega) hE.size
      exact Kd.yields_app kBool (v := vals 6) (y := .slice B dn.length d) (.tmp 9) (.tmp 11) rfl rfl (by kernel_rfl) (by rw [← h2]; kernel_rfl) hr ⟨hX, CopyV_i9 _ _ _ _ _ _ _ _ _ _ _ _ hO⟩
    · simp only [List.getElem?_cons_succ, List.getElem?_cons_zero, Option.some.injEq] at ho
      subst ho
      rw [if_pos (Mono.wanted_none rfl)]
      obtain ⟨A3, c3, e3, _⟩ : OwAt kTask w0.heap.size w5 (vals 3) ts := CopyV_e3 _ _ _ _ _ _ _ _ _ _ _ _ (hcl 3 (by kernel_rfl))
      have e5 : vals 5 = .int .i64 g := CopyV_e5 _ _ _ _ _ _ _ _ _ _ _ _ (hcl 5 (by kernel_rfl))
      obtain ⟨A9, c9, e9, _⟩ : OwAt kBool w0.heap.size w5 (vals 9) dn := CopyV_e9 _ _ _ _ _ _ _ _ _ _ _ _ (hcl 9 (by kernel_rfl))
      clear hcl
      refine Mono.yields_same (.agg #[vals 3, vals 5, vals 9]) w5 ?_ ⟨Ext.refl _, CopyV_i10 _ _ _ _ _ _ _ _ _ _ _ _ (by kernel_rfl)⟩
      rw [e3, e5, e9]
      simp only [Mono.all, List.take, Act.put]
      go_simp
  · intro vals w5 hE hv
    have e2 := CopyV_e2 _ _ _ _ _ _ _ _ _ _ _ _ (hv 2 (by omega))
    obtain ⟨A3, c3, e3, ho3⟩ := CopyV_e3 _ _ _ _ _ _ _ _ _ _ _ _ (hv 3 (by omega))
    have e5 := CopyV_e5 _ _ _ _ _ _ _ _ _ _ _ _ (hv 5 (by omega))
    have e8 := CopyV_e8 _ _ _ _ _ _ _ _ _ _ _ _ (hv 8 (by omega))
    obtain ⟨A9, c9, e9, ho9⟩ := CopyV_e9 _ _ _ _ _ _ _ _ _ _ _ _ (hv 9 (by omega))
    have e10 : vals 10 = .agg #[vals 3, vals 5, vals 9] := (CopyV_e10 _ _ _ _ _ _ _ _ _ _ _ _ (hv 10 (by omega))).trans (by kernel_rfl)
    rw [e3, e5, e9] at e10
    have HO3 := Lib.hid ho3
    have HO9 := Lib.hid ho9
    have HEE := Lib.hid hE
    have hblk := block_keep r0 hE
    have k0 : w5.cell? ⟨P + 1, 0, none⟩ = some (.slice none 0 0) := (cell_of_row w5 _ 0 _ _ _ hblk).trans rfl
    have k1 : w5.cell? ⟨P + 1, 1, none⟩ = some (.int .i64 0) := (cell_of_row w5 _ 1 _ _ _ hblk).trans rfl
    have k2 : w5.cell? ⟨P + 1, 2, none⟩ = some (.slice none 0 0) := (cell_of_row w5 _ 2 _ _ _ hblk).trans rfl
    have kf : ∀ o, w5.frozen? ⟨P + 1, o, none⟩ = false := fun o => frozen_of_row _ _ o _ _ hblk
    clear hv ho3 ho9 hblk hE r0 q0 q1 q2
    simp only [Mono.all, List.take, List.drop, Act.put]
    rw [e10]
    go_wp2
    have hz := HZ.out
    have hp := HP.out
    refine bodyPost_ret (v := .agg #[.slice A3 ts.length c3, .int .i64 g, .slice A9 dn.length c9]) (by simp [results, Try.results58, go_sem, k0, k1, k2]) rfl ⟨A3, c3, A9, c9, rfl, ?_, ?_, ?_⟩
    · exact ((((HO3.out.setBelow (p := ⟨P + 1, 0, none⟩) (by show P + 1 < _; omega) _).setBelow (p := ⟨P + 1, 1, none⟩) (by show P + 1 < _; omega) _).setBelow (p := ⟨P + 1, 2, none⟩) (by show P + 1 < _; omega) _).mono (by omega))
    · exact ((((HO9.out.setBelow (p := ⟨P + 1, 0, none⟩) (by show P + 1 < _; omega) _).setBelow (p := ⟨P + 1, 1, none⟩) (by show P + 1 < _; omega) _).setBelow (p := ⟨P + 1, 2, none⟩) (by show P + 1 < _; omega) _).mono (by omega))
    · exact (((X.out.trans HEE.out).setCell (p := ⟨P + 1, 0, none⟩) (by show _ ≤ P + 1; omega) _).setCell (p := ⟨P + 1, 1, none⟩) (by show _ ≤ P + 1; omega) _).setCell (p := ⟨P + 1, 2, none⟩) (by show _ ≤ P + 1; omega) _
end Go.Proofs.Ytjabahfkgaamdaa

/- The document's Great of work: is a task to be parted? -/
namespace Go.Proofs.Ytjabahfkgaamdaa
open Go.BigFrame
open Go.RowKit Go.Proofs.Ytjabahfkgaamdaa.Plain

set_option maxRecDepth 100000 in
theorem rhas_any (A B : Option Addr) (c d n m : Nat) (g i : Int) (w : World) (_hm : m ≤ 9223372036854775807) :
    Calls Try.prog 59 #[.agg #[.slice A m c, .int .i64 g, .slice B n d], .int .i64 i] w fun e w' => e = .returned (.bool (wHas m i)) ∧ Ext w w' := by
  by_cases h0 : 0 ≤ i
  · have HR : Hid (wHas m i = decide (i < (m : Int))) := Lib.hid (by unfold wHas; rw [decide_eq_true h0]; rfl)
    go_enter Try.func59, Try.ntmps59
    go_wp2
    all_goals (go_ret; exact ⟨ret_bool (by rw [HR.out]; try rfl), (Ext.refl w).alloc _⟩)
  · have HR : Hid (wHas m i = false) := Lib.hid (by unfold wHas; rw [decide_eq_false h0]; rfl)
    have h1 : i < 0 := by omega
    have h2 : decide (0 ≤ i) = false := decide_eq_false h0
    clear h0
    go_enter Try.func59, Try.ntmps59
    go_wp2
    all_goals (go_ret; exact ⟨ret_bool HR.out.symm, (Ext.refl w).alloc _⟩)

set_option maxHeartbeats 1600000 in
set_option maxRecDepth 100000 in
theorem rgreat_no (A B : Option Addr) (c d n : Nat) (ts : List Tk) (g i : Int) (w : World) (h : Rd kTask w (.slice A ts.length c) ts) (hn : n ≤ 9223372036854775807) (hg : -9223372036854775808 ≤ g ∧ g ≤ 9223372036854775807) (_hi : -9223372036854775808 ≤ i ∧ i ≤ 9223372036854775807) (hr : wRight ts g n = false) :
    Calls Try.prog 50 #[.agg #[.slice A ts.length c, .int .i64 g, .slice B n d], .int .i64 i] w fun e w' => e = .returned (.bool (wGreat ts g n i)) ∧ Ext w w' := by
  have H := Lib.hid h
  have hm := h.len
  have HR := Lib.hid hr
  have HS : Hid (wHas ts.length i = wHas ts.length i) := Lib.hid rfl
  have HW : Hid (wGreat ts g n i = false) := Lib.hid (by unfold wGreat; rw [hr]; rfl)
  clear h hr
  go_enter Try.func50, Try.ntmps50
  go_wp2
  have hall : ∀ w', Ext (w.alloc (.cells #[.slice A ts.length c, .int .i64 g, .slice B n d] 54)) w' → (w'.cell? ⟨w.heap.size, 0, none⟩ = some (.slice A ts.length c) ∧ w'.cell? ⟨w.heap.size, 1, none⟩ = some (.int .i64 g) ∧ w'.cell? ⟨w.heap.size, 2, none⟩ = some (.slice B n d)) :=
    fun w' hE => ⟨hE.cell (by go_simp), hE.cell (by go_simp), hE.cell (by go_simp)⟩
  have HALL := Lib.hid hall
  clear hall
  refine wp_region_class (fun w' => Ext (w.alloc (.cells #[.slice A ts.length c, .int .i64 g, .slice B n d] 54)) w') (by kernel_rfl) (by kernel_rfl) (Ext.refl _).drew ?_
  repeat (first
    | go_big_quiet_skip
    | (go_big_quiet_want
       first
       | (go_big_quiet_op; go_big_quiet_on)
       | (unfold Oper.quiet
          apply Exists.intro
          refine ⟨fun w' hC => ?_, ?_⟩
          · (obtain ⟨k1, k2, k3⟩ := HALL.out w' hC
             unfold Oper.quietAt
             go_simp
             exact rfl)
          go_simp
          go_big_quiet_on)
       | (go_big_quiet_op
          apply Exists.intro
          refine ⟨fun w' hC => ?_, ?_⟩
          · first
            | exact (rright_any _ _ _ _ _ _ _ _ (H.out.ext (((Ext.refl w).alloc _).trans hC)) hn hg).mono fun e w'' h => ⟨h.1.trans (ret_bool HR.out), hC.trans h.2⟩
            | exact (rhas_any _ _ _ _ _ _ _ _ _ hm).mono fun e w'' h => ⟨h.1.trans (ret_bool HS.out), hC.trans h.2⟩
          go_big_quiet_on)))
  refine wpQuiet_nil ?_
  intro w3 hC3
  go_wp2
  go_ret
  exact ⟨ret_bool HW.out.symm, ((Ext.refl w).alloc _).trans hC3⟩

set_option maxHeartbeats 1600000 in
set_option maxRecDepth 100000 in
theorem rgreat_none (A B : Option Addr) (c d n : Nat) (ts : List Tk) (g i : Int) (w : World) (h : Rd kTask w (.slice A ts.length c) ts) (hn : n ≤ 9223372036854775807) (hg : -9223372036854775808 ≤ g ∧ g ≤ 9223372036854775807) (_hi : -9223372036854775808 ≤ i ∧ i ≤ 9223372036854775807) (hr : wRight ts g n = true) (hs : wHas ts.length i = false) :
    Calls Try.prog 50 #[.agg #[.slice A ts.length c, .int .i64 g, .slice B n d], .int .i64 i] w fun e w' => e = .returned (.bool (wGreat ts g n i)) ∧ Ext w w' := by
  have H := Lib.hid h
  have hm := h.len
  have HR := Lib.hid hr
  have HS := Lib.hid hs
  have HW : Hid (wGreat ts g n i = false) := Lib.hid (by unfold wGreat; rw [hr, hs]; rfl)
  clear h hr hs
  go_enter Try.func50, Try.ntmps50
  go_wp2
  have hall : ∀ w', Ext (w.alloc (.cells #[.slice A ts.length c, .int .i64 g, .slice B n d] 54)) w' → (w'.cell? ⟨w.heap.size, 0, none⟩ = some (.slice A ts.length c) ∧ w'.cell? ⟨w.heap.size, 1, none⟩ = some (.int .i64 g) ∧ w'.cell? ⟨w.heap.size, 2, none⟩ = some (.slice B n d)) :=
    fun w' hE => ⟨hE.cell (by go_simp), hE.cell (by go_simp), hE.cell (by go_simp)⟩
  have HALL := Lib.hid hall
  clear hall
  refine wp_region_class (fun w' => Ext (w.alloc (.cells #[.slice A ts.length c, .int .i64 g, .slice B n d] 54)) w') (by kernel_rfl) (by kernel_rfl) (Ext.refl _).drew ?_
  repeat (first
    | go_big_quiet_skip
    | (go_big_quiet_want
       first
       | (go_big_quiet_op; go_big_quiet_on)
       | (unfold Oper.quiet
          apply Exists.intro
          refine ⟨fun w' hC => ?_, ?_⟩
          · (obtain ⟨k1, k2, k3⟩ := HALL.out w' hC
             unfold Oper.quietAt
             go_simp
             exact rfl)
          go_simp
          go_big_quiet_on)
       | (go_big_quiet_op
          apply Exists.intro
          refine ⟨fun w' hC => ?_, ?_⟩
          · first
            | exact (rright_any _ _ _ _ _ _ _ _ (H.out.ext (((Ext.refl w).alloc _).trans hC)) hn hg).mono fun e w'' h => ⟨h.1.trans (ret_bool HR.out), hC.trans h.2⟩
            | exact (rhas_any _ _ _ _ _ _ _ _ _ hm).mono fun e w'' h => ⟨h.1.trans (ret_bool HS.out), hC.trans h.2⟩
          go_big_quiet_on)))
  refine wpQuiet_nil ?_
  intro w3 hC3
  go_wp2
  go_ret
  exact ⟨ret_bool HW.out.symm, ((Ext.refl w).alloc _).trans hC3⟩

set_option maxHeartbeats 1600000 in
set_option maxRecDepth 100000 in
theorem rgreat_has (A B : Option Addr) (c d n : Nat) (ts : List Tk) (g i : Int) (w : World) (h : Rd kTask w (.slice A ts.length c) ts) (hn : n ≤ 9223372036854775807) (hg : -9223372036854775808 ≤ g ∧ g ≤ 9223372036854775807) (hi : -9223372036854775808 ≤ i ∧ i ≤ 9223372036854775807) (hr : wRight ts g n = true) (hs : wHas ts.length i = true) :
    Calls Try.prog 50 #[.agg #[.slice A ts.length c, .int .i64 g, .slice B n d], .int .i64 i] w fun e w' => e = .returned (.bool (wGreat ts g n i)) ∧ Ext w w' := by
  have H := Lib.hid h
  have hm := h.len
  have HR := Lib.hid hr
  have HS := Lib.hid hs
  have hsi : 0 ≤ i ∧ i < (ts.length : Int) := by unfold wHas at hs; simpa using hs
  obtain ⟨j, rfl⟩ : ∃ j : Nat, i = j := ⟨i.toNat, by omega⟩
  have hj : j < ts.length := by omega
  have hj' : (j : Int) < ts.length := by omega
  have hj0 : (0 : Int) ≤ j := by omega
  have HW : Hid (wGreat ts g n j = decide (g < (ts.getD j tk0).hi - (ts.getD j tk0).lo)) := Lib.hid (by unfold wGreat tkAt; rw [hr, hs, Int.toNat_natCast]; rfl)
  have hok := tkOk_iff n j (ts.getD j tk0) |>.1 (wOkTo_at ts n ts.length (by unfold wRight at hr; rw [Bool.and_eq_true] at hr; exact hr.2) j hj)
  have hnb : (n : Int) ≤ 1000 := by
    unfold wRight at hr
    rw [Bool.and_eq_true, wSized_iff] at hr
    omega
  obtain ⟨b, off, rfl, hcc⟩ := Rd.tasks H.out (by omega)
  obtain ⟨y0, y1, _, _⟩ := hcc j hj
  have e0 : ts.getD j ⟨0, 0, 0, 0⟩ = ts.getD j tk0 := rfl
  rw [e0] at y0 y1
  obtain ⟨lo, hlo⟩ : ∃ lo, (ts.getD j tk0).lo = lo := ⟨_, rfl⟩
  obtain ⟨hi', hhi⟩ : ∃ hi', (ts.getD j tk0).hi = hi' := ⟨_, rfl⟩
  rw [hlo] at y0 HW hok
  rw [hhi] at y1 HW hok
  obtain ⟨o1, o2, o3, _⟩ := hok
  have hw1 : IntKind.i64.wrap (hi' - lo) = hi' - lo := IntWalk.i64_in _ (by omega)
  clear h hr hs hsi hcc hlo hhi e0
  go_enter Try.func50, Try.ntmps50
  go_wp2
  have hall : ∀ w', Ext (w.alloc (.cells #[.slice (some ⟨b, off, none⟩) ts.length c, .int .i64 g, .slice B n d] 54)) w' → (w'.cell? ⟨w.heap.size, 0, none⟩ = some (.slice (some ⟨b, off, none⟩) ts.length c) ∧ w'.cell? ⟨w.heap.size, 1, none⟩ = some (.int .i64 g) ∧ w'.cell? ⟨w.heap.size, 2, none⟩ = some (.slice B n d) ∧ w'.cell? ⟨b, off + j * 4 + 1, none⟩ = some (.int .i64 hi') ∧ w'.cell? ⟨b, off + j * 4, none⟩ = some (.int .i64 lo)) :=
    fun w' hE => ⟨hE.cell (by go_simp), hE.cell (by go_simp), hE.cell (by go_simp), hE.cell (Lib.cell?_alloc_some _ y1), hE.cell (Lib.cell?_alloc_some _ y0)⟩
  have HALL := Lib.hid hall
  clear hall
  refine wp_region_class (fun w' => Ext (w.alloc (.cells #[.slice (some ⟨b, off, none⟩) ts.length c, .int .i64 g, .slice B n d] 54)) w') (by kernel_rfl) (by kernel_rfl) (Ext.refl _).drew ?_
  repeat (first
    | go_big_quiet_skip
    | (go_big_quiet_want
       first
       | (go_big_quiet_op; go_big_quiet_on)
       | (unfold Oper.quiet
          apply Exists.intro
          refine ⟨fun w' hC => ?_, ?_⟩
          · (obtain ⟨k1, k2, k3, k4, k5⟩ := HALL.out w' hC
             unfold Oper.quietAt
             go_simp
             exact rfl)
          go_simp
          go_big_quiet_on)
       | (go_big_quiet_op
          apply Exists.intro
          refine ⟨fun w' hC => ?_, ?_⟩
          · first
            | exact (rright_any _ _ _ _ _ _ _ _ (H.out.ext (((Ext.refl w).alloc _).trans hC)) hn hg).mono fun e w'' h => ⟨h.1.trans (ret_bool HR.out), hC.trans h.2⟩
            | exact (rhas_any _ _ _ _ _ _ _ _ _ hm).mono fun e w'' h => ⟨h.1.trans (ret_bool HS.out), hC.trans h.2⟩
          go_big_quiet_on)))
  refine wpQuiet_nil ?_
  intro w3 hC3
  go_wp2
  go_ret
  exact ⟨ret_bool (by rw [HW.out]), ((Ext.refl w).alloc _).trans hC3⟩

theorem rgreat_any (A B : Option Addr) (c d n : Nat) (ts : List Tk) (g i : Int) (w : World) (h : Rd kTask w (.slice A ts.length c) ts) (hn : n ≤ 9223372036854775807) (hg : -9223372036854775808 ≤ g ∧ g ≤ 9223372036854775807) (hi : -9223372036854775808 ≤ i ∧ i ≤ 9223372036854775807) :
    Calls Try.prog 50 #[.agg #[.slice A ts.length c, .int .i64 g, .slice B n d], .int .i64 i] w fun e w' => e = .returned (.bool (wGreat ts g n i)) ∧ Ext w w' := by
  cases hr : wRight ts g n with
  | false => exact rgreat_no A B c d n ts g i w h hn hg hi hr
  | true =>
    cases hs : wHas ts.length i with
    | false => exact rgreat_none A B c d n ts g i w h hn hg hi hr hs
    | true => exact rgreat_has A B c d n ts g i w h hn hg hi hr hs
end Go.Proofs.Ytjabahfkgaamdaa

/- The document's Part of work. -/
namespace Go.Proofs.Ytjabahfkgaamdaa
open Go.BigFrame
open Go.RowKit Go.Proofs.Ytjabahfkgaamdaa.Plain

/-- the frame of Part and of Do: its work, and its answer's cells -/
def PAt (w : World) (A B : Option Addr) (c d n m : Nat) (g : Int) (w' : World) : Prop := Ext ((w.alloc (.cells #[.slice A m c, .int .i64 g, .slice B n d] 54)).alloc (.cells #[.slice none 0 0, .int .i64 0, .slice none 0 0] 54)) w'
theorem PAt.cells {w : World} {A B : Option Addr} {c d n m : Nat} {g : Int} {w' : World} (h : PAt w A B c d n m g w') :
    w'.cell? ⟨w.heap.size, 0, none⟩ = some (.slice A m c) ∧ w'.cell? ⟨w.heap.size, 1, none⟩ = some (.int .i64 g) ∧ w'.cell? ⟨w.heap.size, 2, none⟩ = some (.slice B n d) := by
  unfold PAt at h
  exact ⟨h.cell (by go_simp), h.cell (by go_simp), h.cell (by go_simp)⟩
theorem PAt.out {w : World} {A B : Option Addr} {c d n m : Nat} {g : Int} {w' : World} (h : PAt w A B c d n m g w') :
    w'.cell? ⟨w.heap.size + 1, 0, none⟩ = some (.slice none 0 0) ∧ w'.cell? ⟨w.heap.size + 1, 1, none⟩ = some (.int .i64 0) ∧ w'.cell? ⟨w.heap.size + 1, 2, none⟩ = some (.slice none 0 0) ∧ ∀ o, w'.frozen? ⟨w.heap.size + 1, o, none⟩ = false := by
  unfold PAt at h
  exact ⟨h.cell (by go_simp), h.cell (by go_simp), h.cell (by go_simp), fun o => (Below.frozen h (p := ⟨w.heap.size + 1, o, none⟩) (by simp)).trans (by go_simp)⟩
theorem PAt.ext {w : World} {A B : Option Addr} {c d n m : Nat} {g : Int} {w' : World} (h : PAt w A B c d n m g w') : Ext w w' := by
  unfold PAt at h
  exact (((Ext.refl w).alloc _).alloc _).trans h
theorem PAt.go {w : World} {A B : Option Addr} {c d n m : Nat} {g : Int} {w' w'' : World} (h : PAt w A B c d n m g w') (hE : Ext w' w'') : PAt w A B c d n m g w'' := Ext.trans h hE
/-- what Part refuses -/
def PNo (w : World) (A B : Option Addr) (c d n m : Nat) (g k : Int) (e : Ending) (w' : World) : Prop :=
  e = .returned (.tuple #[.agg #[.slice A m c, .int .i64 g, .slice B n d], .int .i64 0, .int .i64 0, .int .i64 k]) ∧ Ext w w'

set_option maxHeartbeats 1600000 in
set_option maxRecDepth 100000 in
theorem rpart_no (A B : Option Addr) (c d n : Nat) (ts : List Tk) (g i : Int) (w : World) (h : Rd kTask w (.slice A ts.length c) ts) (hn : n ≤ 9223372036854775807) (hg : in64 g) (hi : in64 i) (hr : wRight ts g n = false) :
    Calls Try.prog 51 #[.agg #[.slice A ts.length c, .int .i64 g, .slice B n d], .int .i64 i] w (PNo w A B c d n ts.length g 1) := by
  have H := Lib.hid h
  have hm := h.len
  have HG := Lib.hid hg
  have HI := Lib.hid hi
  have HYR := Lib.hid hr
  clear h hg hi hr
  go_enter Try.func51, Try.ntmps51
  go_wp2_with fail
  have hP : PAt w A B c d n ts.length g ((w.alloc (.cells #[.slice A ts.length c, .int .i64 g, .slice B n d] 54)).alloc (.cells #[.slice none 0 0, .int .i64 0, .slice none 0 0] 54)) := Ext.refl _
  refine (rright_any _ _ _ _ _ _ _ _ (H.out.ext hP.ext) hn HG.out).mono ?_
  rintro e w1 ⟨he, hE⟩
  rw [HYR.out] at he
  subst he
  replace hP := hP.go hE
  obtain ⟨q0, q1, q2⟩ := hP.cells
  have HP := Lib.hid hP
  clear hE hP
  obtain ⟨s0, s1, s2, s3⟩ := HP.out.out
  go_wp2_with fail
  refine bodyPost_ret (v := .tuple #[.agg #[.slice A ts.length c, .int .i64 g, .slice B n d], .int .i64 0, .int .i64 0, .int .i64 1]) (by simp [results, Try.results51, go_sem]; go_simp) rfl ⟨rfl, ?_⟩
  exact ((HP.out.ext.setCell (by simp) _).setCell (by simp) _).setCell (by simp) _

set_option maxHeartbeats 1600000 in
set_option maxRecDepth 100000 in
theorem rpart_none (A B : Option Addr) (c d n : Nat) (ts : List Tk) (g i : Int) (w : World) (h : Rd kTask w (.slice A ts.length c) ts) (hn : n ≤ 9223372036854775807) (hg : in64 g) (hi : in64 i) (hr : wRight ts g n = true) (hs : wHas ts.length i = false) :
    Calls Try.prog 51 #[.agg #[.slice A ts.length c, .int .i64 g, .slice B n d], .int .i64 i] w (PNo w A B c d n ts.length g 6) := by
  have H := Lib.hid h
  have hm := h.len
  have HG := Lib.hid hg
  have HI := Lib.hid hi
  have HYR := Lib.hid hr
  have HYS := Lib.hid hs
  clear h hg hi hr hs
  go_enter Try.func51, Try.ntmps51
  go_wp2_with fail
  have hP : PAt w A B c d n ts.length g ((w.alloc (.cells #[.slice A ts.length c, .int .i64 g, .slice B n d] 54)).alloc (.cells #[.slice none 0 0, .int .i64 0, .slice none 0 0] 54)) := Ext.refl _
  refine (rright_any _ _ _ _ _ _ _ _ (H.out.ext hP.ext) hn HG.out).mono ?_
  rintro e w1 ⟨he, hE⟩
  rw [HYR.out] at he
  subst he
  replace hP := hP.go hE
  obtain ⟨q0, q1, q2⟩ := hP.cells
  have HP := Lib.hid hP
  clear hE hP
  go_wp2_with fail
  have hP := HP.out
  clear HP q0 q1 q2
  refine (rhas_any _ _ _ _ _ _ _ _ _ hm).mono ?_
  rintro e w1 ⟨he, hE⟩
  rw [HYS.out] at he
  subst he
  replace hP := hP.go hE
  obtain ⟨q0, q1, q2⟩ := hP.cells
  have HP := Lib.hid hP
  clear hE hP
  obtain ⟨s0, s1, s2, s3⟩ := HP.out.out
  go_wp2_with fail
  refine bodyPost_ret (v := .tuple #[.agg #[.slice A ts.length c, .int .i64 g, .slice B n d], .int .i64 0, .int .i64 0, .int .i64 6]) (by simp [results, Try.results51, go_sem]; go_simp) rfl ⟨rfl, ?_⟩
  exact ((HP.out.ext.setCell (by simp) _).setCell (by simp) _).setCell (by simp) _

set_option maxHeartbeats 1600000 in
set_option maxRecDepth 100000 in
theorem rpart_small (A B : Option Addr) (c d n : Nat) (ts : List Tk) (g i : Int) (w : World) (h : Rd kTask w (.slice A ts.length c) ts) (hn : n ≤ 9223372036854775807) (hg : in64 g) (hi : in64 i) (hr : wRight ts g n = true) (hs : wHas ts.length i = true) (ht : wGreat ts g n i = false) :
    Calls Try.prog 51 #[.agg #[.slice A ts.length c, .int .i64 g, .slice B n d], .int .i64 i] w (PNo w A B c d n ts.length g 5) := by
  have H := Lib.hid h
  have hm := h.len
  have HG := Lib.hid hg
  have HI := Lib.hid hi
  have HYR := Lib.hid hr
  have HYS := Lib.hid hs
  have HYT := Lib.hid ht
  clear h hg hi hr hs ht
  go_enter Try.func51, Try.ntmps51
  go_wp2_with fail
  have hP : PAt w A B c d n ts.length g ((w.alloc (.cells #[.slice A ts.length c, .int .i64 g, .slice B n d] 54)).alloc (.cells #[.slice none 0 0, .int .i64 0, .slice none 0 0] 54)) := Ext.refl _
  refine (rright_any _ _ _ _ _ _ _ _ (H.out.ext hP.ext) hn HG.out).mono ?_
  rintro e w1 ⟨he, hE⟩
  rw [HYR.out] at he
  subst he
  replace hP := hP.go hE
  obtain ⟨q0, q1, q2⟩ := hP.cells
  have HP := Lib.hid hP
  clear hE hP
  go_wp2_with fail
  have hP := HP.out
  clear HP q0 q1 q2
  refine (rhas_any _ _ _ _ _ _ _ _ _ hm).mono ?_
  rintro e w1 ⟨he, hE⟩
  rw [HYS.out] at he
  subst he
  replace hP := hP.go hE
  obtain ⟨q0, q1, q2⟩ := hP.cells
  have HP := Lib.hid hP
  clear hE hP
  go_wp2_with fail
  have hP := HP.out
  clear HP q0 q1 q2
  refine (rgreat_any _ _ _ _ _ _ _ _ _ (H.out.ext hP.ext) hn HG.out HI.out).mono ?_
  rintro e w1 ⟨he, hE⟩
  rw [HYT.out] at he
  subst he
  replace hP := hP.go hE
  obtain ⟨q0, q1, q2⟩ := hP.cells
  have HP := Lib.hid hP
  clear hE hP
  obtain ⟨s0, s1, s2, s3⟩ := HP.out.out
  go_wp2_with fail
  refine bodyPost_ret (v := .tuple #[.agg #[.slice A ts.length c, .int .i64 g, .slice B n d], .int .i64 0, .int .i64 0, .int .i64 5]) (by simp [results, Try.results51, go_sem]; go_simp) rfl ⟨rfl, ?_⟩
  exact ((HP.out.ext.setCell (by simp) _).setCell (by simp) _).setCell (by simp) _

set_option maxHeartbeats 1600000 in
set_option maxRecDepth 100000 in
theorem rpart_wait (A B : Option Addr) (c d n : Nat) (ts : List Tk) (g : Int) (j : Nat) (w : World) (h : Rd kTask w (.slice A ts.length c) ts) (hn : n ≤ 9223372036854775807) (hg : in64 g) (hr : wRight ts g n = true) (hj : j < ts.length) (ht : wGreat ts g n j = true) (h3 : (ts.getD j tk0).wt ≠ 0) :
    Calls Try.prog 51 #[.agg #[.slice A ts.length c, .int .i64 g, .slice B n d], .int .i64 j] w (PNo w A B c d n ts.length g 5) := by
  have H := Lib.hid h
  have hm := h.len
  have HG := Lib.hid hg
  have HI : Hid (in64 (j : Int)) := Lib.hid (by unfold in64; omega)
  have HYR := Lib.hid hr
  have HYS : Hid (wHas ts.length (j : Int) = true) := Lib.hid (by unfold wHas; simp; omega)
  have HYT := Lib.hid ht
  obtain ⟨b, off, rfl, hcc⟩ := Rd.tasks H.out (by omega)
  obtain ⟨_, _, _, y3⟩ := hcc j hj
  have e0 : ts.getD j ⟨0, 0, 0, 0⟩ = ts.getD j tk0 := rfl
  rw [e0] at y3
  have hbd : in64 (ts.getD j tk0).wt := (H.out.okAt j hj).2.2.2
  obtain ⟨wt, hwt⟩ : ∃ x, (ts.getD j tk0).wt = x := ⟨_, rfl⟩
  rw [hwt] at y3 hbd h3
  obtain ⟨b1, b2⟩ := hbd
  have Y3 := Lib.hid y3
  have hj' : (j : Int) < ts.length := by omega
  have hj0 : (0 : Int) ≤ j := by omega
  have hwe : (wt == 0) = false := by simpa using h3
  clear h hg hr ht hcc e0 hwt y3
  go_enter Try.func51, Try.ntmps51
  go_wp2_with fail
  have hP : PAt w (some ⟨b, off, none⟩) B c d n ts.length g ((w.alloc (.cells #[.slice (some ⟨b, off, none⟩) ts.length c, .int .i64 g, .slice B n d] 54)).alloc (.cells #[.slice none 0 0, .int .i64 0, .slice none 0 0] 54)) := Ext.refl _
  refine (rright_any _ _ _ _ _ _ _ _ (H.out.ext hP.ext) hn HG.out).mono ?_
  rintro e w1 ⟨he, hE⟩
  rw [HYR.out] at he
  subst he
  replace hP := hP.go hE
  obtain ⟨q0, q1, q2⟩ := hP.cells
  have HP := Lib.hid hP
  clear hE hP
  go_wp2_with fail
  have hP := HP.out
  clear HP q0 q1 q2
  refine (rhas_any _ _ _ _ _ _ _ _ _ hm).mono ?_
  rintro e w1 ⟨he, hE⟩
  rw [HYS.out] at he
  subst he
  replace hP := hP.go hE
  obtain ⟨q0, q1, q2⟩ := hP.cells
  have HP := Lib.hid hP
  clear hE hP
  go_wp2_with fail
  have hP := HP.out
  clear HP q0 q1 q2
  refine (rgreat_any _ _ _ _ _ _ _ _ _ (H.out.ext hP.ext) hn HG.out HI.out).mono ?_
  rintro e w1 ⟨he, hE⟩
  rw [HYT.out] at he
  subst he
  replace hP := hP.go hE
  obtain ⟨q0, q1, q2⟩ := hP.cells
  have HP := Lib.hid hP
  clear hE hP
  obtain ⟨s0, s1, s2, s3⟩ := HP.out.out
  have q3 := HP.out.ext.cell Y3.out
  go_wp2_with fail
  refine bodyPost_ret (v := .tuple #[.agg #[.slice (some ⟨b, off, none⟩) ts.length c, .int .i64 g, .slice B n d], .int .i64 0, .int .i64 0, .int .i64 5]) (by simp [results, Try.results51, go_sem]; go_simp) rfl ⟨rfl, ?_⟩
  exact ((HP.out.ext.setCell (by simp) _).setCell (by simp) _).setCell (by simp) _

set_option maxHeartbeats 1600000 in
set_option maxRecDepth 100000 in
theorem rpart_full (A B : Option Addr) (c d n : Nat) (ts : List Tk) (g : Int) (j : Nat) (w : World) (h : Rd kTask w (.slice A ts.length c) ts) (hn : n ≤ 9223372036854775807) (hg : in64 g) (hr : wRight ts g n = true) (hj : j < ts.length) (ht : wGreat ts g n j = true) (h3 : (ts.getD j tk0).wt = 0) (hf : 1998 < ts.length) :
    Calls Try.prog 51 #[.agg #[.slice A ts.length c, .int .i64 g, .slice B n d], .int .i64 j] w (PNo w A B c d n ts.length g 2) := by
  have H := Lib.hid h
  have hm := h.len
  have HG := Lib.hid hg
  have HI : Hid (in64 (j : Int)) := Lib.hid (by unfold in64; omega)
  have HYR := Lib.hid hr
  have HYS : Hid (wHas ts.length (j : Int) = true) := Lib.hid (by unfold wHas; simp; omega)
  have HYT := Lib.hid ht
  obtain ⟨b, off, rfl, hcc⟩ := Rd.tasks H.out (by omega)
  obtain ⟨_, _, _, y3⟩ := hcc j hj
  have e0 : ts.getD j ⟨0, 0, 0, 0⟩ = ts.getD j tk0 := rfl
  rw [e0] at y3
  have hbd : in64 (ts.getD j tk0).wt := (H.out.okAt j hj).2.2.2
  obtain ⟨wt, hwt⟩ : ∃ x, (ts.getD j tk0).wt = x := ⟨_, rfl⟩
  rw [hwt] at y3 hbd h3
  obtain ⟨b1, b2⟩ := hbd
  have Y3 := Lib.hid y3
  have hj' : (j : Int) < ts.length := by omega
  have hj0 : (0 : Int) ≤ j := by omega
  have hf2 : (1998 : Int) < ts.length := by omega
  subst h3
  clear h hg hr ht hcc e0 hwt y3
  go_enter Try.func51, Try.ntmps51
  go_wp2_with fail
  have hP : PAt w (some ⟨b, off, none⟩) B c d n ts.length g ((w.alloc (.cells #[.slice (some ⟨b, off, none⟩) ts.length c, .int .i64 g, .slice B n d] 54)).alloc (.cells #[.slice none 0 0, .int .i64 0, .slice none 0 0] 54)) := Ext.refl _
  refine (rright_any _ _ _ _ _ _ _ _ (H.out.ext hP.ext) hn HG.out).mono ?_
  rintro e w1 ⟨he, hE⟩
  rw [HYR.out] at he
  subst he
  replace hP := hP.go hE
  obtain ⟨q0, q1, q2⟩ := hP.cells
  have HP := Lib.hid hP
  clear hE hP
  go_wp2_with fail
  have hP := HP.out
  clear HP q0 q1 q2
  refine (rhas_any _ _ _ _ _ _ _ _ _ hm).mono ?_
  rintro e w1 ⟨he, hE⟩
  rw [HYS.out] at he
  subst he
  replace hP := hP.go hE
  obtain ⟨q0, q1, q2⟩ := hP.cells
  have HP := Lib.hid hP
  clear hE hP
  go_wp2_with fail
  have hP := HP.out
  clear HP q0 q1 q2
  refine (rgreat_any _ _ _ _ _ _ _ _ _ (H.out.ext hP.ext) hn HG.out HI.out).mono ?_
  rintro e w1 ⟨he, hE⟩
  rw [HYT.out] at he
  subst he
  replace hP := hP.go hE
  obtain ⟨q0, q1, q2⟩ := hP.cells
  have HP := Lib.hid hP
  clear hE hP
  obtain ⟨s0, s1, s2, s3⟩ := HP.out.out
  have q3 := HP.out.ext.cell Y3.out
  go_wp2_with fail
  refine bodyPost_ret (v := .tuple #[.agg #[.slice (some ⟨b, off, none⟩) ts.length c, .int .i64 g, .slice B n d], .int .i64 0, .int .i64 0, .int .i64 2]) (by simp [results, Try.results51, go_sem]; go_simp) rfl ⟨rfl, ?_⟩
  exact ((HP.out.ext.setCell (by simp) _).setCell (by simp) _).setCell (by simp) _

end Go.Proofs.Ytjabahfkgaamdaa

/- The document's Part of work, where it parts. -/
namespace Go.Proofs.Ytjabahfkgaamdaa
open Go.BigFrame
open Go.RowKit Go.Proofs.Ytjabahfkgaamdaa.Plain

/-- the walk stops here -/
def Stop (p : Prop) : Prop := p
theorem Stop.to {p : Prop} (h : Stop p) : p := h
theorem Stop.of {p : Prop} (h : p) : Stop p := h
theorem grown_far {w w' : World} {row : Option Nat} {b : Nat} (hg : w.grownBy w' row) (hb : b < w.heap.size) (hne : some b ≠ row) :
    (∀ o, w'.cell? ⟨b, o, none⟩ = w.cell? ⟨b, o, none⟩) ∧ (∀ o, w'.frozen? ⟨b, o, none⟩ = w.frozen? ⟨b, o, none⟩) :=
  ⟨fun o => World.cell?_of_block (a := ⟨b, o, none⟩) (hg.block b hb hne), fun o => World.frozen?_of_block (a := ⟨b, o, none⟩) (hg.block b hb hne)⟩
theorem PAt.two {w : World} {A B : Option Addr} {c d n m : Nat} {g : Int} {w' : World} (h : PAt w A B c d n m g w') : w.heap.size + 2 ≤ w'.heap.size := by
  have := Ext.size h
  simpa using this
theorem right_n {ts : List Tk} {g : Int} {n : Nat} (h : wRight ts g n = true) : 1 ≤ n ∧ n ≤ 1000 ∧ 1 ≤ ts.length ∧ ts.length ≤ 2000 ∧ 1 ≤ g ∧ g ≤ 100 := by
  unfold wRight at h
  rw [Bool.and_eq_true, wSized_iff] at h
  omega
theorem right_ok {ts : List Tk} {g : Int} {n : Nat} (h : wRight ts g n = true) (j : Nat) (hj : j < ts.length) : tkOk n j (ts.getD j tk0) = true := by
  unfold wRight at h
  rw [Bool.and_eq_true] at h
  exact wOkTo_at ts n ts.length h.2 j hj
/-- the tasks, the j-th of them parted -/
def partedTs (ts : List Tk) (j : Nat) : List Tk :=
  ts.set j ⟨(ts.getD j tk0).lo, (ts.getD j tk0).hi, (ts.getD j tk0).up, 2⟩ ++
    [⟨(ts.getD j tk0).lo, (ts.getD j tk0).lo + ((ts.getD j tk0).hi - (ts.getD j tk0).lo) / 2, j, 0⟩, ⟨(ts.getD j tk0).lo + ((ts.getD j tk0).hi - (ts.getD j tk0).lo) / 2, (ts.getD j tk0).hi, j, 0⟩]
/-- what Part gives -/
def PartSaid (w : World) (ts : List Tk) (g : Int) (dn : List Bool) (j : Nat) (e : Ending) (w' : World) : Prop :=
  ∃ A c B d, e = .returned (.tuple #[.agg #[.slice A (partedTs ts j).length c, .int .i64 g, .slice B dn.length d], .int .i64 ts.length, .int .i64 (ts.length + 1), .int .i64 0]) ∧
    Rd kTask w' (.slice A (partedTs ts j).length c) (partedTs ts j) ∧ Rd kBool w' (.slice B dn.length d) dn ∧ From w.heap.size A ∧ From w.heap.size B ∧ Ext w w'

set_option maxHeartbeats 1600000 in
set_option maxRecDepth 100000 in
theorem rpart_ok (A B : Option Addr) (c d : Nat) (ts : List Tk) (dn : List Bool) (g : Int) (j : Nat) (w : World) (h : Rd kTask w (.slice A ts.length c) ts) (hd : Rd kBool w (.slice B dn.length d) dn) (hg : in64 g) (hr : wRight ts g dn.length = true) (hj : j < ts.length) (ht : wGreat ts g dn.length j = true) (h3 : (ts.getD j tk0).wt = 0) (hf : ts.length ≤ 1998) :
    Calls Try.prog 51 #[.agg #[.slice A ts.length c, .int .i64 g, .slice B dn.length d], .int .i64 j] w (PartSaid w ts g dn j) := by
  have H := Lib.hid h
  have HD := Lib.hid hd
  have hn := hd.len
  have hnb := right_n hr
  have hm := h.len
  have HG := Lib.hid hg
  have HI : Hid (in64 (j : Int)) := Lib.hid (by unfold in64; omega)
  have HYR := Lib.hid hr
  have HYS : Hid (wHas ts.length (j : Int) = true) := Lib.hid (by unfold wHas; simp; omega)
  have HYT := Lib.hid ht
  obtain ⟨b, off, rfl, hcc⟩ := Rd.tasks H.out (by omega)
  obtain ⟨y0, y1, y2, y3⟩ := hcc j hj
  have e0 : ts.getD j ⟨0, 0, 0, 0⟩ = ts.getD j tk0 := rfl
  rw [e0] at y0 y1 y2 y3
  obtain ⟨o1, o2, o3, o4, o5, _⟩ := tkOk_iff dn.length j (ts.getD j tk0) |>.1 (right_ok hr j hj)
  obtain ⟨⟨lo, hi', up, wt⟩, htk⟩ : ∃ x, ts.getD j tk0 = x := ⟨_, rfl⟩
  have HTK := Lib.hid htk
  rw [htk] at y0 y1 y2 y3 h3 o1 o2 o3 o4 o5
  simp only at y0 y1 y2 y3 h3 o1 o2 o3 o4 o5
  have Y0 := Lib.hid y0
  have Y1 := Lib.hid y1
  have Y2 := Lib.hid y2
  have Y3 := Lib.hid y3
  have hj' : (j : Int) < ts.length := by omega
  have hj0 : (0 : Int) ≤ j := by omega
  have hf2 : ¬ (1998 : Int) < ts.length := by omega
  subst h3
  clear h hd hg hr ht hcc e0 htk y0 y1 y2 y3
  go_enter Try.func51, Try.ntmps51
  go_wp2_with fail
  have hP : PAt w (some ⟨b, off, none⟩) B c d dn.length ts.length g ((w.alloc (.cells #[.slice (some ⟨b, off, none⟩) ts.length c, .int .i64 g, .slice B dn.length d] 54)).alloc (.cells #[.slice none 0 0, .int .i64 0, .slice none 0 0] 54)) := Ext.refl _
  refine (rright_any _ _ _ _ _ _ _ _ (H.out.ext hP.ext) hn HG.out).mono ?_
  rintro e w1 ⟨he, hE⟩
  rw [HYR.out] at he
  subst he
  replace hP := hP.go hE
  obtain ⟨q0, q1, q2⟩ := hP.cells
  have HP := Lib.hid hP
  clear hE hP
  go_wp2_with fail
  have hP := HP.out
  clear HP q0 q1 q2
  refine (rhas_any _ _ _ _ _ _ _ _ _ hm).mono ?_
  rintro e w1 ⟨he, hE⟩
  rw [HYS.out] at he
  subst he
  replace hP := hP.go hE
  obtain ⟨q0, q1, q2⟩ := hP.cells
  have HP := Lib.hid hP
  clear hE hP
  go_wp2_with fail
  have hP := HP.out
  clear HP q0 q1 q2
  refine (rgreat_any _ _ _ _ _ _ _ _ _ (H.out.ext hP.ext) hn HG.out HI.out).mono ?_
  rintro e w1 ⟨he, hE⟩
  rw [HYT.out] at he
  subst he
  replace hP := hP.go hE
  obtain ⟨q0, q1, q2⟩ := hP.cells
  have HP := Lib.hid hP
  clear hE hP
  obtain ⟨s0, s1, s2, s3⟩ := HP.out.out
  have q3 := HP.out.ext.cell Y3.out
  have q4 := HP.out.ext.cell Y0.out
  have q5 := HP.out.ext.cell Y1.out
  go_wp2_with fail
  have hP1 := HP.out
  have HW1 := Lib.hid hP1.ext.size
  have hW1 := Lib.hid hP1.two
  clear s0 s1 s2 s3 q0 q1 q2 q3 q4 q5 HP
  refine (rcopy_any _ _ _ _ _ _ _ _ (H.out.ext hP1.ext) (HD.out.ext hP1.ext) (by omega) (by omega)).mono ?_
  rintro e w2 ⟨A3, c3, B3, d3, rfl, hO, hOD, hE⟩
  have hP := hP1.go hE
  obtain ⟨q0, q1, q2⟩ := hP.cells
  obtain ⟨s0, s1, s2, s3⟩ := hP.out
  have q3 := hP.ext.cell Y3.out
  have q4 := hP.ext.cell Y0.out
  have q5 := hP.ext.cell Y1.out
  have q6 := hP.ext.cell Y2.out
  have HP := Lib.hid hP
  have HO := Lib.hid hO
  have HOD := Lib.hid hOD
  obtain ⟨ga, rfl, ga1, ga2, ga3, ga4⟩ := Ow.pos hO (by omega)
  have gf : w2.frozen? ⟨ga, j * 4 + 3, none⟩ = false := ga4 (j * 4 + 3)
  have z2 := hE.size
  have gne0 : ga ≠ w.heap.size := by have := HW1.out; have := hP1.two; omega
  have gne1 : ga ≠ w.heap.size + 1 := by have := HW1.out; have := hP1.two; omega
  have v3 : w2.cell? ⟨ga, j * 4 + 3, none⟩ = some (.int .i64 0) := ga3 j hj 3 (.int .i64 0) (by have e : ts.getD j kTask.d = ts.getD j tk0 := rfl; rw [e, HTK.out]; rfl)
  clear hP hP1 hE hO hOD ga3 ga4
  have hW2 := HP.out.two
  have lb : b < w2.heap.size := World.block_lt_of_cell? _ _ q4
  have l0 : w.heap.size < w2.heap.size := by omega
  have l1 : w.heap.size + 1 < w2.heap.size := by omega
  have l2 : w.heap.size < w2.heap.size + 1 := by omega
  have l3 : w.heap.size + 1 < w2.heap.size + 1 := by omega
  have l4 : ga < w2.heap.size + 1 := by omega
  have l5 : b < w2.heap.size + 1 := by omega
  have l6 : w.heap.size < w2.heap.size + 1 + 1 := by omega
  have l7 : w.heap.size + 1 < w2.heap.size + 1 + 1 := by omega
  have l8 : ga < w2.heap.size + 1 + 1 := by omega
  have l9 : b < w2.heap.size + 1 + 1 := by omega
  have hos : Ow kTask _ (w2.setCell ⟨ga, j * 4 + 3, none⟩ (.int .i64 2)) (.slice (some ⟨ga, 0, none⟩) ts.length c3) (ts.set j ⟨lo, hi', up, 2⟩) := HO.out.set (j := j) (i := 3) hj (by decide) (by have e : ts.getD j kTask.d = ts.getD j tk0 := rfl; rw [e, HTK.out]; rfl) (tk_ok (by unfold in64; omega) (by unfold in64; omega) (by unfold in64; omega) (by unfold in64; omega))
  have HOS := Lib.hid hos
  have HWB := Lib.hid z2
  clear hos
  obtain ⟨M, hM⟩ : ∃ M, lo + (hi' - lo) / 2 = M := ⟨_, rfl⟩
  have M1 : lo ≤ M := by omega
  have M2 : M ≤ hi' := by omega
  have hlen : (ts.set j (⟨lo, hi', up, 2⟩ : Tk) ++ ([⟨lo, M, (j : Int), 0⟩, ⟨M, hi', (j : Int), 0⟩] : List Tk)).length = ts.length + 2 := by simp
  go_wp2_with (first | (at_builtin; refine Stop.to ?_) | fail)
  refine Stop.of ?_
  refine Kd.wpList_app kTask (by rfl) (.tmp 69) (.tmp 80) (by rfl) (by rfl) _ _ (ts.set j ⟨lo, hi', up, 2⟩) (by rfl) (HOS.out.ext ((((Ext.refl _).alloc _).alloc _).alloc _)) _ [⟨lo, M, j, 0⟩, ⟨M, hi', j, 0⟩] (by rfl) ?rd (by simp; omega) (by simp; omega) ?_
  case rd => exact ((Ow.lit (K := kTask) (B := 0) (p := w2.heap.size + 1 + 1) (n := 2) _ [⟨lo, M, j, 0⟩, ⟨M, hi', j, 0⟩] _ rfl rfl (by simp) (Nat.zero_le _) (by simp [maxLen]) (by intro x hx; simp only [List.mem_cons, List.not_mem_nil, or_false] at hx; rcases hx with rfl | rfl <;> exact tk_ok (by unfold in64; omega) (by unfold in64; omega) (by unfold in64; omega) (by unfold in64; omega))).rd)
  intro v' w4 hown' hgrow' hat'
  have hv' := hown'.slice
  rw [hlen] at hv'
  obtain ⟨A4, c4, rfl, _⟩ := hv'
  have hg : World.grownBy _ w4 (some ga) := hgrow'
  have p0 : w4.cell? ⟨w2.heap.size, 0, none⟩ = some (.slice (some ⟨ga, 0, none⟩) ts.length c3) := ((grown_far hg (b := w2.heap.size) (by simp; omega) (by simp; omega)).1 0).trans (by go_simp)
  have p1 : w4.cell? ⟨w2.heap.size, 1, none⟩ = some (.int .i64 g) := ((grown_far hg (b := w2.heap.size) (by simp; omega) (by simp; omega)).1 1).trans (by go_simp)
  have p2 : w4.cell? ⟨w2.heap.size, 2, none⟩ = some (.slice B3 dn.length d3) := ((grown_far hg (b := w2.heap.size) (by simp; omega) (by simp; omega)).1 2).trans (by go_simp)
  have p3 : ∀ o, w4.frozen? ⟨w2.heap.size, o, none⟩ = false := fun o => ((grown_far hg (b := w2.heap.size) (by simp; omega) (by simp; omega)).2 o).trans (by go_simp)
  have t0 : w4.cell? ⟨w.heap.size + 1, 0, none⟩ = some (.slice none 0 0) := ((grown_far hg (b := w.heap.size + 1) (by simp; omega) (by simp; omega)).1 0).trans (by go_simp)
  have t1 : w4.cell? ⟨w.heap.size + 1, 1, none⟩ = some (.int .i64 0) := ((grown_far hg (b := w.heap.size + 1) (by simp; omega) (by simp; omega)).1 1).trans (by go_simp)
  have t2 : w4.cell? ⟨w.heap.size + 1, 2, none⟩ = some (.slice none 0 0) := ((grown_far hg (b := w.heap.size + 1) (by simp; omega) (by simp; omega)).1 2).trans (by go_simp)
  have t3 : ∀ o, w4.frozen? ⟨w.heap.size + 1, o, none⟩ = false := fun o => ((grown_far hg (b := w.heap.size + 1) (by simp; omega) (by simp; omega)).2 o).trans (by have := s3 o; go_simp)
  have hat2 : ∀ k, (Value.slice A4 (ts.length + 2) c4).ownBlock = some k → k = ga ∨ k = w2.heap.size + 3 := by
    intro k hk
    rcases hat' with e | e
    · rw [hk] at e; left; simpa [Value.ownBlock] using e
    · rw [hk] at e; right; simpa using e
  have HAT := Lib.hid hat2
  have HOW := Lib.hid hown'
  have HGR := Lib.hid hg
  clear hown' hgrow' hat' hat2 hg
  clear hlen
  go_wp2_with fail
  have hPT : partedTs ts j = ts.set j ⟨lo, hi', up, 2⟩ ++ [⟨lo, M, j, 0⟩, ⟨M, hi', j, 0⟩] := by unfold partedTs; rw [HTK.out]; simp only; rw [hM]
  have hL : (partedTs ts j).length = ts.length + 2 := by rw [hPT]; simp
  have W1 := HW1.out
  have WB := HWB.out
  have hW1 := hW1.out
  have nb : ∀ k, (Value.slice A4 (ts.length + 2) c4).ownBlock = some k → k = ga ∨ k = w2.heap.size + 3 := HAT.out
  have hX2 : Ext w w4 := (((((HP.out.ext.setCell (by show _ ≤ ga; omega) _).alloc _).alloc _).alloc _)).grown HGR.out (by intro k hk; cases hk; omega)
  have hB3 : (Value.slice B3 dn.length d3).ownBlock ≠ some ga := Ow.far (by decide) HO.out HOD.out ga rfl
  have hB4 : (Value.slice B3 dn.length d3).ownBlock ≠ some w2.heap.size := fun h => by have := (HOD.out.lt _ h).2; omega
  have hOD4 := ((HOD.out.setOther (p := ⟨ga, j * 4 + 3, none⟩) hB3 (.int .i64 2)).ext ((((Ext.refl _).alloc _).alloc _).alloc _)).kept HGR.out (.inr hB3)
  refine bodyPost_ret (v := .tuple #[.agg #[.slice A4 (ts.length + 2) c4, .int .i64 g, .slice B3 dn.length d3], .int .i64 ts.length, .int .i64 (ts.length + 1), .int .i64 0]) (by simp [results, Try.results51, go_sem]; go_simp) rfl ⟨A4, c4, B3, d3, by rw [hL], ?_, ?_, ?_, ?_, ?_⟩
  · rw [hL, hPT]
    exact ((((HOW.out.setOther (p := ⟨w2.heap.size, 0, none⟩) (fun h => by have := nb _ h; simp at this; omega) _).setBelow (p := ⟨w.heap.size + 1, 0, none⟩) (by show w.heap.size + 1 < _; omega) _).setBelow (p := ⟨w.heap.size + 1, 1, none⟩) (by show w.heap.size + 1 < _; omega) _).setBelow (p := ⟨w.heap.size + 1, 2, none⟩) (by show w.heap.size + 1 < _; omega) _).rd
  · exact ((((hOD4.setOther (p := ⟨w2.heap.size, 0, none⟩) hB4 _).setBelow (p := ⟨w.heap.size + 1, 0, none⟩) (by show w.heap.size + 1 < _; omega) _).setBelow (p := ⟨w.heap.size + 1, 1, none⟩) (by show w.heap.size + 1 < _; omega) _).setBelow (p := ⟨w.heap.size + 1, 2, none⟩) (by show w.heap.size + 1 < _; omega) _).rd
  · exact (HOW.out.from).mono (by omega)
  · exact (HOD.out.from).mono (by omega)
  · exact (((hX2.setCell (p := ⟨w2.heap.size, 0, none⟩) (by show _ ≤ w2.heap.size; omega) _).setCell (p := ⟨w.heap.size + 1, 0, none⟩) (by show _ ≤ w.heap.size + 1; omega) _).setCell (p := ⟨w.heap.size + 1, 1, none⟩) (by show _ ≤ w.heap.size + 1; omega) _).setCell (p := ⟨w.heap.size + 1, 2, none⟩) (by show _ ≤ w.heap.size + 1; omega) _

/-- Part's word: 0, or why not -/
def partErr (ts : List Tk) (g : Int) (n : Nat) (i : Int) : Int :=
  if wRight ts g n = false then 1 else if wHas ts.length i = false then 6 else if wGreat ts g n i = false then 5 else if (tkAt ts i).wt ≠ 0 then 5 else if 1998 < ts.length then 2 else 0

theorem rpart_any (A B : Option Addr) (c d : Nat) (ts : List Tk) (dn : List Bool) (g i : Int) (w : World) (h : Rd kTask w (.slice A ts.length c) ts) (hd : Rd kBool w (.slice B dn.length d) dn) (hg : in64 g) (hi : in64 i) :
    Calls Try.prog 51 #[.agg #[.slice A ts.length c, .int .i64 g, .slice B dn.length d], .int .i64 i] w fun e w' =>
      (partErr ts g dn.length i ≠ 0 ∧ PNo w A B c d dn.length ts.length g (partErr ts g dn.length i) e w') ∨ (partErr ts g dn.length i = 0 ∧ PartSaid w ts g dn i.toNat e w') := by
  have hn := hd.len
  cases hr : wRight ts g dn.length with
  | false =>
    have he : partErr ts g dn.length i = 1 := by unfold partErr; rw [if_pos hr]
    rw [he]
    exact (rpart_no A B c d dn.length ts g i w h hn hg hi hr).mono fun e w' hh => .inl ⟨by decide, hh⟩
  | true =>
    cases hs : wHas ts.length i with
    | false =>
      have he : partErr ts g dn.length i = 6 := by unfold partErr; rw [if_neg (by rw [hr]; decide), if_pos hs]
      rw [he]
      exact (rpart_none A B c d dn.length ts g i w h hn hg hi hr hs).mono fun e w' hh => .inl ⟨by decide, hh⟩
    | true =>
      cases ht : wGreat ts g dn.length i with
      | false =>
        have he : partErr ts g dn.length i = 5 := by unfold partErr; rw [if_neg (by rw [hr]; decide), if_neg (by rw [hs]; decide), if_pos ht]
        rw [he]
        exact (rpart_small A B c d dn.length ts g i w h hn hg hi hr hs ht).mono fun e w' hh => .inl ⟨by decide, hh⟩
      | true =>
        have hsi : 0 ≤ i ∧ i < (ts.length : Int) := by unfold wHas at hs; simpa using hs
        obtain ⟨j, rfl⟩ : ∃ j : Nat, i = j := ⟨i.toNat, by omega⟩
        have hj : j < ts.length := by omega
        have e0 : tkAt ts (j : Int) = ts.getD j tk0 := by unfold tkAt; rw [Int.toNat_natCast]
        by_cases hw : (ts.getD j tk0).wt = 0
        · by_cases hf : 1998 < ts.length
          · have he : partErr ts g dn.length (j : Int) = 2 := by unfold partErr; rw [if_neg (by rw [hr]; decide), if_neg (by rw [hs]; decide), if_neg (by rw [ht]; decide), e0, if_neg (by simpa using hw), if_pos hf]
            rw [he]
            exact (rpart_full A B c d dn.length ts g j w h hn hg hr hj ht hw hf).mono fun e w' hh => .inl ⟨by decide, hh⟩
          · have he : partErr ts g dn.length (j : Int) = 0 := by unfold partErr; rw [if_neg (by rw [hr]; decide), if_neg (by rw [hs]; decide), if_neg (by rw [ht]; decide), e0, if_neg (by simpa using hw), if_neg hf]
            rw [he]
            exact (rpart_ok A B c d ts dn g j w h hd hg hr hj ht hw (by omega)).mono fun e w' hh => .inr ⟨rfl, by rw [Int.toNat_natCast]; exact hh⟩
        · have he : partErr ts g dn.length (j : Int) = 5 := by unfold partErr; rw [if_neg (by rw [hr]; decide), if_neg (by rw [hs]; decide), if_neg (by rw [ht]; decide), e0, if_pos hw]
          rw [he]
          exact (rpart_wait A B c d dn.length ts g j w h hn hg hr hj ht hw).mono fun e w' hh => .inl ⟨by decide, hh⟩
end Go.Proofs.Ytjabahfkgaamdaa

/- The document's Do of work: what it refuses. Written by wip/mk_tdo.py. -/
namespace Go.Proofs.Ytjabahfkgaamdaa
open Go.BigFrame
open Go.RowKit Go.Proofs.Ytjabahfkgaamdaa.Plain

/-- what Do refuses -/
def DNo (w : World) (A B : Option Addr) (c d n m : Nat) (g k : Int) (e : Ending) (w' : World) : Prop :=
  e = .returned (.tuple #[.agg #[.slice A m c, .int .i64 g, .slice B n d], .bool false, .int .i64 k]) ∧ Ext w w'

set_option maxHeartbeats 1600000 in
set_option maxRecDepth 100000 in
theorem rdo_no (A B : Option Addr) (c d n : Nat) (ts : List Tk) (g i : Int) (w : World) (h : Rd kTask w (.slice A ts.length c) ts) (hn : n ≤ 9223372036854775807) (hg : in64 g) (hi : in64 i) (hr : wRight ts g n = false) :
    Calls Try.prog 52 #[.agg #[.slice A ts.length c, .int .i64 g, .slice B n d], .int .i64 i] w (DNo w A B c d n ts.length g 1) := by
  have H := Lib.hid h
  have hm := h.len
  have HG := Lib.hid hg
  have HI := Lib.hid hi
  have HYR := Lib.hid hr
  clear h hg hi hr
  go_enter Try.func52, Try.ntmps52
  go_wp2_with fail
  have hP : PAt w A B c d n ts.length g ((w.alloc (.cells #[.slice A ts.length c, .int .i64 g, .slice B n d] 54)).alloc (.cells #[.slice none 0 0, .int .i64 0, .slice none 0 0] 54)) := Ext.refl _
  refine (rright_any _ _ _ _ _ _ _ _ (H.out.ext hP.ext) hn HG.out).mono ?_
  rintro e w1 ⟨he, hE⟩
  rw [HYR.out] at he
  subst he
  replace hP := hP.go hE
  obtain ⟨q0, q1, q2⟩ := hP.cells
  have HP := Lib.hid hP
  clear hE hP
  obtain ⟨s0, s1, s2, s3⟩ := HP.out.out
  go_wp2_with fail
  refine bodyPost_ret (v := .tuple #[.agg #[.slice A ts.length c, .int .i64 g, .slice B n d], .bool false, .int .i64 1]) (by simp [results, Try.results52, go_sem]; go_simp) rfl ⟨rfl, ?_⟩
  exact ((HP.out.ext.setCell (by simp) _).setCell (by simp) _).setCell (by simp) _

set_option maxHeartbeats 1600000 in
set_option maxRecDepth 100000 in
theorem rdo_none (A B : Option Addr) (c d n : Nat) (ts : List Tk) (g i : Int) (w : World) (h : Rd kTask w (.slice A ts.length c) ts) (hn : n ≤ 9223372036854775807) (hg : in64 g) (hi : in64 i) (hr : wRight ts g n = true) (hs : wHas ts.length i = false) :
    Calls Try.prog 52 #[.agg #[.slice A ts.length c, .int .i64 g, .slice B n d], .int .i64 i] w (DNo w A B c d n ts.length g 6) := by
  have H := Lib.hid h
  have hm := h.len
  have HG := Lib.hid hg
  have HI := Lib.hid hi
  have HYR := Lib.hid hr
  have HYS := Lib.hid hs
  clear h hg hi hr hs
  go_enter Try.func52, Try.ntmps52
  go_wp2_with fail
  have hP : PAt w A B c d n ts.length g ((w.alloc (.cells #[.slice A ts.length c, .int .i64 g, .slice B n d] 54)).alloc (.cells #[.slice none 0 0, .int .i64 0, .slice none 0 0] 54)) := Ext.refl _
  refine (rright_any _ _ _ _ _ _ _ _ (H.out.ext hP.ext) hn HG.out).mono ?_
  rintro e w1 ⟨he, hE⟩
  rw [HYR.out] at he
  subst he
  replace hP := hP.go hE
  obtain ⟨q0, q1, q2⟩ := hP.cells
  have HP := Lib.hid hP
  clear hE hP
  go_wp2_with fail
  have hP := HP.out
  clear HP q0 q1 q2
  refine (rhas_any _ _ _ _ _ _ _ _ _ hm).mono ?_
  rintro e w1 ⟨he, hE⟩
  rw [HYS.out] at he
  subst he
  replace hP := hP.go hE
  obtain ⟨q0, q1, q2⟩ := hP.cells
  have HP := Lib.hid hP
  clear hE hP
  obtain ⟨s0, s1, s2, s3⟩ := HP.out.out
  go_wp2_with fail
  refine bodyPost_ret (v := .tuple #[.agg #[.slice A ts.length c, .int .i64 g, .slice B n d], .bool false, .int .i64 6]) (by simp [results, Try.results52, go_sem]; go_simp) rfl ⟨rfl, ?_⟩
  exact ((HP.out.ext.setCell (by simp) _).setCell (by simp) _).setCell (by simp) _

set_option maxHeartbeats 1600000 in
set_option maxRecDepth 100000 in
theorem rdo_great (A B : Option Addr) (c d n : Nat) (ts : List Tk) (g i : Int) (w : World) (h : Rd kTask w (.slice A ts.length c) ts) (hn : n ≤ 9223372036854775807) (hg : in64 g) (hi : in64 i) (hr : wRight ts g n = true) (hs : wHas ts.length i = true) (ht : wGreat ts g n i = true) :
    Calls Try.prog 52 #[.agg #[.slice A ts.length c, .int .i64 g, .slice B n d], .int .i64 i] w (DNo w A B c d n ts.length g 5) := by
  have H := Lib.hid h
  have hm := h.len
  have HG := Lib.hid hg
  have HI := Lib.hid hi
  have HYR := Lib.hid hr
  have HYS := Lib.hid hs
  have HYT := Lib.hid ht
  clear h hg hi hr hs ht
  go_enter Try.func52, Try.ntmps52
  go_wp2_with fail
  have hP : PAt w A B c d n ts.length g ((w.alloc (.cells #[.slice A ts.length c, .int .i64 g, .slice B n d] 54)).alloc (.cells #[.slice none 0 0, .int .i64 0, .slice none 0 0] 54)) := Ext.refl _
  refine (rright_any _ _ _ _ _ _ _ _ (H.out.ext hP.ext) hn HG.out).mono ?_
  rintro e w1 ⟨he, hE⟩
  rw [HYR.out] at he
  subst he
  replace hP := hP.go hE
  obtain ⟨q0, q1, q2⟩ := hP.cells
  have HP := Lib.hid hP
  clear hE hP
  go_wp2_with fail
  have hP := HP.out
  clear HP q0 q1 q2
  refine (rhas_any _ _ _ _ _ _ _ _ _ hm).mono ?_
  rintro e w1 ⟨he, hE⟩
  rw [HYS.out] at he
  subst he
  replace hP := hP.go hE
  obtain ⟨q0, q1, q2⟩ := hP.cells
  have HP := Lib.hid hP
  clear hE hP
  go_wp2_with fail
  have hP := HP.out
  clear HP q0 q1 q2
  have hall : ∀ w', PAt w A B c d n ts.length g w' → (w'.cell? ⟨w.heap.size, 0, none⟩ = some (.slice A ts.length c) ∧ w'.cell? ⟨w.heap.size, 1, none⟩ = some (.int .i64 g) ∧ w'.cell? ⟨w.heap.size, 2, none⟩ = some (.slice B n d)) :=
    fun w' hE => ⟨hE.cells.1, hE.cells.2.1, hE.cells.2.2⟩
  have HALL := Lib.hid hall
  clear hall
  refine wp_region_class (PAt w A B c d n ts.length g) (by kernel_rfl) (by kernel_rfl) (hP.go (Ext.refl _).drew) ?_
  repeat (first
    | go_big_quiet_skip
    | (go_big_quiet_want
       first
       | (go_big_quiet_op; go_big_quiet_on)
       | (unfold Oper.quiet
          apply Exists.intro
          refine ⟨fun w' hC => ?_, ?_⟩
          · (obtain ⟨k0, k1, k2⟩ := HALL.out w' hC
             unfold Oper.quietAt
             go_simp
             exact rfl)
          go_simp
          go_big_quiet_on)
       | (go_big_quiet_op
          apply Exists.intro
          refine ⟨fun w' hC => ?_, ?_⟩
          · exact (rgreat_any _ _ _ _ _ _ _ _ _ (H.out.ext hC.ext) hn HG.out HI.out).mono fun e w'' h => ⟨h.1.trans (ret_bool HYT.out), hC.go h.2⟩
          go_big_quiet_on)))
  refine wpQuiet_nil ?_
  intro w3 hP3
  obtain ⟨q0, q1, q2⟩ := hP3.cells
  obtain ⟨s0, s1, s2, s3⟩ := hP3.out
  have HP := Lib.hid hP3
  clear hP3 hP
  go_wp2_with fail
  refine bodyPost_ret (v := .tuple #[.agg #[.slice A ts.length c, .int .i64 g, .slice B n d], .bool false, .int .i64 5]) (by simp [results, Try.results52, go_sem]; go_simp) rfl ⟨rfl, ?_⟩
  exact ((HP.out.ext.setCell (by simp) _).setCell (by simp) _).setCell (by simp) _

set_option maxHeartbeats 1600000 in
set_option maxRecDepth 100000 in
theorem rdo_wait (A B : Option Addr) (c d : Nat) (ts : List Tk) (dn : List Bool) (g : Int) (j : Nat) (w : World) (h : Rd kTask w (.slice A ts.length c) ts) (hd : Rd kBool w (.slice B dn.length d) dn) (hg : in64 g) (hr : wRight ts g dn.length = true) (hj : j < ts.length) (ht : wGreat ts g dn.length j = false) (h3 : (ts.getD j tk0).wt ≠ 0) :
    Calls Try.prog 52 #[.agg #[.slice A ts.length c, .int .i64 g, .slice B dn.length d], .int .i64 j] w (DNo w A B c d dn.length ts.length g 5) := by
  have H := Lib.hid h
  have HD := Lib.hid hd
  have hn := hd.len
  have hnb := right_n hr
  have hm := h.len
  have HG := Lib.hid hg
  have HI : Hid (in64 (j : Int)) := Lib.hid (by unfold in64; omega)
  have HYR := Lib.hid hr
  have HYS : Hid (wHas ts.length (j : Int) = true) := Lib.hid (by unfold wHas; simp; omega)
  have HYT := Lib.hid ht
  obtain ⟨b, off, rfl, hcc⟩ := Rd.tasks H.out (by omega)
  obtain ⟨y0, y1, y2, y3⟩ := hcc j hj
  have e0 : ts.getD j ⟨0, 0, 0, 0⟩ = ts.getD j tk0 := rfl
  rw [e0] at y0 y1 y2 y3
  obtain ⟨o1, o2, o3, o4, o5, _⟩ := tkOk_iff dn.length j (ts.getD j tk0) |>.1 (right_ok hr j hj)
  obtain ⟨⟨lo, hi', up, wt⟩, htk⟩ : ∃ x, ts.getD j tk0 = x := ⟨_, rfl⟩
  have hbd : in64 (ts.getD j tk0).wt := (H.out.okAt j hj).2.2.2
  have HTK := Lib.hid htk
  rw [htk] at y0 y1 y2 y3 h3 o1 o2 o3 o4 o5 hbd
  simp only at y0 y1 y2 y3 h3 o1 o2 o3 o4 o5 hbd
  obtain ⟨b1, b2⟩ := hbd
  have Y0 := Lib.hid y0
  have Y3 := Lib.hid y3
  have hj' : (j : Int) < ts.length := by omega
  have hj0 : (0 : Int) ≤ j := by omega
  have hwn : (wt != 0) = true := by simpa using h3
  have hwe : (wt == 0) = false := by simpa using h3
  clear h hd hg hr ht hcc e0 htk y0 y1 y2 y3
  go_enter Try.func52, Try.ntmps52
  go_wp2_with fail
  have hP : PAt w (some ⟨b, off, none⟩) B c d dn.length ts.length g ((w.alloc (.cells #[.slice (some ⟨b, off, none⟩) ts.length c, .int .i64 g, .slice B dn.length d] 54)).alloc (.cells #[.slice none 0 0, .int .i64 0, .slice none 0 0] 54)) := Ext.refl _
  refine (rright_any _ _ _ _ _ _ _ _ (H.out.ext hP.ext) hn HG.out).mono ?_
  rintro e w1 ⟨he, hE⟩
  rw [HYR.out] at he
  subst he
  replace hP := hP.go hE
  obtain ⟨q0, q1, q2⟩ := hP.cells
  have HP := Lib.hid hP
  clear hE hP
  go_wp2_with fail
  have hP := HP.out
  clear HP q0 q1 q2
  refine (rhas_any _ _ _ _ _ _ _ _ _ hm).mono ?_
  rintro e w1 ⟨he, hE⟩
  rw [HYS.out] at he
  subst he
  replace hP := hP.go hE
  obtain ⟨q0, q1, q2⟩ := hP.cells
  have HP := Lib.hid hP
  clear hE hP
  go_wp2_with fail
  have hP := HP.out
  clear HP q0 q1 q2
  have hall : ∀ w', PAt w (some ⟨b, off, none⟩) B c d dn.length ts.length g w' → (w'.cell? ⟨w.heap.size, 0, none⟩ = some (.slice (some ⟨b, off, none⟩) ts.length c) ∧ w'.cell? ⟨w.heap.size, 1, none⟩ = some (.int .i64 g) ∧ w'.cell? ⟨w.heap.size, 2, none⟩ = some (.slice B dn.length d) ∧ w'.cell? ⟨b, off + j * 4 + 3, none⟩ = some (.int .i64 wt)) :=
    fun w' hE => ⟨hE.cells.1, hE.cells.2.1, hE.cells.2.2, hE.ext.cell Y3.out⟩
  have HALL := Lib.hid hall
  clear hall
  refine wp_region_class (PAt w (some ⟨b, off, none⟩) B c d dn.length ts.length g) (by kernel_rfl) (by kernel_rfl) (hP.go (Ext.refl _).drew) ?_
  repeat (first
    | go_big_quiet_skip
    | (go_big_quiet_want
       first
       | (go_big_quiet_op; go_big_quiet_on)
       | (unfold Oper.quiet
          apply Exists.intro
          refine ⟨fun w' hC => ?_, ?_⟩
          · (obtain ⟨k0, k1, k2, k3⟩ := HALL.out w' hC
             unfold Oper.quietAt
             go_simp
             exact rfl)
          go_simp
          go_big_quiet_on)
       | (go_big_quiet_op
          apply Exists.intro
          refine ⟨fun w' hC => ?_, ?_⟩
          · exact (rgreat_any _ _ _ _ _ _ _ _ _ (H.out.ext hC.ext) hn HG.out HI.out).mono fun e w'' h => ⟨h.1.trans (ret_bool HYT.out), hC.go h.2⟩
          go_big_quiet_on)))
  refine wpQuiet_nil ?_
  intro w3 hP3
  obtain ⟨q0, q1, q2⟩ := hP3.cells
  obtain ⟨s0, s1, s2, s3⟩ := hP3.out
  have HP := Lib.hid hP3
  clear hP3 hP
  go_wp2_with fail
  refine bodyPost_ret (v := .tuple #[.agg #[.slice (some ⟨b, off, none⟩) ts.length c, .int .i64 g, .slice B dn.length d], .bool false, .int .i64 5]) (by simp [results, Try.results52, go_sem]; go_simp) rfl ⟨rfl, ?_⟩
  exact ((HP.out.ext.setCell (by simp) _).setCell (by simp) _).setCell (by simp) _

set_option maxHeartbeats 1600000 in
set_option maxRecDepth 100000 in
theorem rdo_done (A B : Option Addr) (c d : Nat) (ts : List Tk) (dn : List Bool) (g : Int) (j : Nat) (w : World) (h : Rd kTask w (.slice A ts.length c) ts) (hd : Rd kBool w (.slice B dn.length d) dn) (hg : in64 g) (hr : wRight ts g dn.length = true) (hj : j < ts.length) (ht : wGreat ts g dn.length j = false) (h3 : (ts.getD j tk0).wt = 0) (hdn : dn.getD (ts.getD j tk0).lo.toNat false = true) :
    Calls Try.prog 52 #[.agg #[.slice A ts.length c, .int .i64 g, .slice B dn.length d], .int .i64 j] w (DNo w A B c d dn.length ts.length g 5) := by
  have H := Lib.hid h
  have HD := Lib.hid hd
  have hn := hd.len
  have hnb := right_n hr
  have hm := h.len
  have HG := Lib.hid hg
  have HI : Hid (in64 (j : Int)) := Lib.hid (by unfold in64; omega)
  have HYR := Lib.hid hr
  have HYS : Hid (wHas ts.length (j : Int) = true) := Lib.hid (by unfold wHas; simp; omega)
  have HYT := Lib.hid ht
  obtain ⟨b, off, rfl, hcc⟩ := Rd.tasks H.out (by omega)
  obtain ⟨y0, y1, y2, y3⟩ := hcc j hj
  have e0 : ts.getD j ⟨0, 0, 0, 0⟩ = ts.getD j tk0 := rfl
  rw [e0] at y0 y1 y2 y3
  obtain ⟨o1, o2, o3, o4, o5, _⟩ := tkOk_iff dn.length j (ts.getD j tk0) |>.1 (right_ok hr j hj)
  obtain ⟨⟨lo, hi', up, wt⟩, htk⟩ : ∃ x, ts.getD j tk0 = x := ⟨_, rfl⟩
  have hbd : in64 (ts.getD j tk0).wt := (H.out.okAt j hj).2.2.2
  have HTK := Lib.hid htk
  rw [htk] at y0 y1 y2 y3 h3 o1 o2 o3 o4 o5 hbd
  simp only at y0 y1 y2 y3 h3 o1 o2 o3 o4 o5 hbd
  obtain ⟨b1, b2⟩ := hbd
  have Y0 := Lib.hid y0
  have Y3 := Lib.hid y3
  have hj' : (j : Int) < ts.length := by omega
  have hj0 : (0 : Int) ≤ j := by omega
  obtain ⟨L, rfl⟩ : ∃ L : Nat, lo = L := ⟨lo.toNat, by omega⟩
  obtain ⟨bb, boff, rfl, hbc⟩ := Rd.bools HD.out (by omega)
  have z0 := hbc L (by omega)
  have hdL : dn.getD L false = true := by rw [HTK.out] at hdn; simpa using hdn
  rw [hdL] at z0
  have Z0 := Lib.hid z0
  have hL' : (L : Int) < dn.length := by omega
  have hL0 : (0 : Int) ≤ L := by omega
  subst h3
  clear hbc z0 hdn hdL
  clear h hd hg hr ht hcc e0 htk y0 y1 y2 y3
  go_enter Try.func52, Try.ntmps52
  go_wp2_with fail
  have hP : PAt w (some ⟨b, off, none⟩) (some ⟨bb, boff, none⟩) c d dn.length ts.length g ((w.alloc (.cells #[.slice (some ⟨b, off, none⟩) ts.length c, .int .i64 g, .slice (some ⟨bb, boff, none⟩) dn.length d] 54)).alloc (.cells #[.slice none 0 0, .int .i64 0, .slice none 0 0] 54)) := Ext.refl _
  refine (rright_any _ _ _ _ _ _ _ _ (H.out.ext hP.ext) hn HG.out).mono ?_
  rintro e w1 ⟨he, hE⟩
  rw [HYR.out] at he
  subst he
  replace hP := hP.go hE
  obtain ⟨q0, q1, q2⟩ := hP.cells
  have HP := Lib.hid hP
  clear hE hP
  go_wp2_with fail
  have hP := HP.out
  clear HP q0 q1 q2
  refine (rhas_any _ _ _ _ _ _ _ _ _ hm).mono ?_
  rintro e w1 ⟨he, hE⟩
  rw [HYS.out] at he
  subst he
  replace hP := hP.go hE
  obtain ⟨q0, q1, q2⟩ := hP.cells
  have HP := Lib.hid hP
  clear hE hP
  go_wp2_with fail
  have hP := HP.out
  clear HP q0 q1 q2
  have hall : ∀ w', PAt w (some ⟨b, off, none⟩) (some ⟨bb, boff, none⟩) c d dn.length ts.length g w' → (w'.cell? ⟨w.heap.size, 0, none⟩ = some (.slice (some ⟨b, off, none⟩) ts.length c) ∧ w'.cell? ⟨w.heap.size, 1, none⟩ = some (.int .i64 g) ∧ w'.cell? ⟨w.heap.size, 2, none⟩ = some (.slice (some ⟨bb, boff, none⟩) dn.length d) ∧ w'.cell? ⟨b, off + j * 4 + 3, none⟩ = some (.int .i64 0) ∧ w'.cell? ⟨b, off + j * 4, none⟩ = some (.int .i64 L) ∧ w'.cell? ⟨bb, boff + L, none⟩ = some (.bool true)) :=
    fun w' hE => ⟨hE.cells.1, hE.cells.2.1, hE.cells.2.2, hE.ext.cell Y3.out, hE.ext.cell Y0.out, hE.ext.cell Z0.out⟩
  have HALL := Lib.hid hall
  clear hall
  refine wp_region_class (PAt w (some ⟨b, off, none⟩) (some ⟨bb, boff, none⟩) c d dn.length ts.length g) (by kernel_rfl) (by kernel_rfl) (hP.go (Ext.refl _).drew) ?_
  repeat (first
    | go_big_quiet_skip
    | (go_big_quiet_want
       first
       | (go_big_quiet_op; go_big_quiet_on)
       | (unfold Oper.quiet
          apply Exists.intro
          refine ⟨fun w' hC => ?_, ?_⟩
          · (obtain ⟨k0, k1, k2, k3, k4, k5⟩ := HALL.out w' hC
             unfold Oper.quietAt
             go_simp
             exact rfl)
          go_simp
          go_big_quiet_on)
       | (go_big_quiet_op
          apply Exists.intro
          refine ⟨fun w' hC => ?_, ?_⟩
          · exact (rgreat_any _ _ _ _ _ _ _ _ _ (H.out.ext hC.ext) hn HG.out HI.out).mono fun e w'' h => ⟨h.1.trans (ret_bool HYT.out), hC.go h.2⟩
          go_big_quiet_on)))
  refine wpQuiet_nil ?_
  intro w3 hP3
  obtain ⟨q0, q1, q2⟩ := hP3.cells
  obtain ⟨s0, s1, s2, s3⟩ := hP3.out
  have HP := Lib.hid hP3
  clear hP3 hP
  go_wp2_with fail
  refine bodyPost_ret (v := .tuple #[.agg #[.slice (some ⟨b, off, none⟩) ts.length c, .int .i64 g, .slice (some ⟨bb, boff, none⟩) dn.length d], .bool false, .int .i64 5]) (by simp [results, Try.results52, go_sem]; go_simp) rfl ⟨rfl, ?_⟩
  exact ((HP.out.ext.setCell (by simp) _).setCell (by simp) _).setCell (by simp) _

end Go.Proofs.Ytjabahfkgaamdaa

/- The document's Do of work, where it does. Written by wip/mk_tdo2.py. -/
namespace Go.Proofs.Ytjabahfkgaamdaa
open Go.BigFrame
open Go.RowKit Go.Proofs.Ytjabahfkgaamdaa.Plain

/-- the world while Do marks and climbs: its own tasks and units, all else as it was -/
structure DAt (w W : World) (B ga gb c3 d3 : Nat) (wr : World) (us : List Tk) (ds : List Bool) : Prop where
  far : ∀ b o, b < W.heap.size → b ≠ ga → b ≠ gb → wr.cell? ⟨b, o, none⟩ = W.cell? ⟨b, o, none⟩
  fro : ∀ b o, b < W.heap.size → b ≠ ga → b ≠ gb → wr.frozen? ⟨b, o, none⟩ = W.frozen? ⟨b, o, none⟩
  own : Ow kTask B wr (.slice (some ⟨ga, 0, none⟩) us.length c3) us
  dns : Ow kBool B wr (.slice (some ⟨gb, 0, none⟩) ds.length d3) ds
  ext : Ext w wr
theorem DAt.cell {w W : World} {B ga gb c3 d3 : Nat} {wr : World} {us : List Tk} {ds : List Bool} (h : DAt w W B ga gb c3 d3 wr us ds) {b o : Nat} {v : Value} (hc : W.cell? ⟨b, o, none⟩ = some v) (h1 : b ≠ ga) (h2 : b ≠ gb) : wr.cell? ⟨b, o, none⟩ = some v :=
  (h.far b o (World.block_lt_of_cell? _ _ hc) h1 h2).trans hc
theorem DAt.unit {w W : World} {B ga gb c3 d3 : Nat} {wr : World} {us : List Tk} {ds : List Bool} (h : DAt w W B ga gb c3 d3 wr us ds) {k : Nat} (hk : k < ds.length) : wr.cell? ⟨gb, k, none⟩ = some (.bool (ds.getD k false)) ∧ wr.frozen? ⟨gb, k, none⟩ = false := by
  obtain ⟨g', e, _, _, h3, h4⟩ := Ow.pos h.dns (by omega)
  cases e
  have := h3 k hk 0 (.bool (ds.getD k false)) rfl
  exact ⟨by simpa [kBool] using this, h4 k⟩
theorem DAt.mark {w W : World} {B ga gb c3 d3 : Nat} {wr : World} {us : List Tk} {ds : List Bool} (h : DAt w W B ga gb c3 d3 wr us ds) {k : Nat} (hk : k < ds.length) (hw : w.heap.size ≤ gb) (hne : ga ≠ gb) : DAt w W B ga gb c3 d3 (wr.setCell ⟨gb, k, none⟩ (.bool true)) us (ds.set k true) where
  far b o hb h1 h2 := by rw [← h.far b o hb h1 h2]; exact World.cell?_setCell_far _ _ _ _ (fun e => h2 e.symm)
  fro b o hb h1 h2 := by rw [← h.fro b o hb h1 h2]; first | rfl | (go_simp; done) | (simp [World.frozen?, World.setCell]; done)
  own := h.own.setOther (p := ⟨gb, k, none⟩) (by simp [Value.ownBlock, hne]) _
  dns := by
    rw [List.length_set]
    have := h.dns.set (j := k) (i := 0) (x := true) (u := .bool true) hk (by decide) rfl trivial
    simpa [kBool] using this
  ext := h.ext.setCell (p := ⟨gb, k, none⟩) hw _

theorem DAt.task {w W : World} {B ga gb c3 d3 : Nat} {wr : World} {us : List Tk} {ds : List Bool} (h : DAt w W B ga gb c3 d3 wr us ds) {k : Nat} (hk : k < us.length) {lo hi up wt : Int} (ht : us.getD k tk0 = ⟨lo, hi, up, wt⟩) :
    wr.cell? ⟨ga, k * 4 + 2, none⟩ = some (.int .i64 up) ∧ wr.cell? ⟨ga, k * 4 + 3, none⟩ = some (.int .i64 wt) ∧ (∀ o, wr.frozen? ⟨ga, o, none⟩ = false) ∧ in64 up ∧ in64 wt := by
  obtain ⟨g', e, _, _, h3, h4⟩ := Ow.pos h.own (by omega)
  cases e
  have e0 : us.getD k kTask.d = ⟨lo, hi, up, wt⟩ := ht
  have := h.own.rd.okAt k hk
  rw [e0] at this
  exact ⟨h3 k hk 2 (.int .i64 up) (by rw [e0]; rfl), h3 k hk 3 (.int .i64 wt) (by rw [e0]; rfl), h4, this.2.2.1, this.2.2.2⟩
theorem DAt.wait {w W : World} {B ga gb c3 d3 : Nat} {wr : World} {us : List Tk} {ds : List Bool} (h : DAt w W B ga gb c3 d3 wr us ds) {k : Nat} (hk : k < us.length) {lo hi up wt : Int} (ht : us.getD k tk0 = ⟨lo, hi, up, wt⟩) (hwt : 1 ≤ wt) (hw : w.heap.size ≤ ga) (hne : ga ≠ gb) : DAt w W B ga gb c3 d3 (wr.setCell ⟨ga, k * 4 + 3, none⟩ (.int .i64 (wt - 1))) (wless us k) ds where
  far b o hb h1 h2 := by rw [← h.far b o hb h1 h2]; exact World.cell?_setCell_far _ _ _ _ (fun e => h1 e.symm)
  fro b o hb h1 h2 := by rw [← h.fro b o hb h1 h2]; first | rfl | (go_simp; done) | (simp [World.frozen?, World.setCell]; done)
  own := by
    rw [wless_len]
    have e0 : us.getD k kTask.d = ⟨lo, hi, up, wt⟩ := ht
    have ok := h.own.rd.okAt k hk
    rw [e0] at ok
    have := h.own.set (j := k) (i := 3) (x := ⟨lo, hi, up, wt - 1⟩) (u := .int .i64 (wt - 1)) hk (by decide) (by rw [e0]; rfl) (tk_ok ok.1 ok.2.1 ok.2.2.1 (by have h9 : in64 wt := ok.2.2.2; unfold in64 at h9 ⊢; omega))
    unfold wless; rw [ht]; exact this
  dns := h.dns.setOther (p := ⟨ga, k * 4 + 3, none⟩) (by simp [Value.ownBlock]; omega) _
  ext := h.ext.setCell (p := ⟨ga, k * 4 + 3, none⟩) hw _

/-- what Do gives -/
def DoSaid (w : World) (ts : List Tk) (g : Int) (dn : List Bool) (j : Nat) (e : Ending) (w' : World) : Prop :=
  ∃ A c B d, e = .returned (.tuple #[.agg #[.slice A ts.length c, .int .i64 g, .slice B dn.length d], .bool (climb (ts.length + 1) ts (ts.getD j tk0).up).2, .int .i64 0]) ∧
    Rd kTask w' (.slice A ts.length c) (climb (ts.length + 1) ts (ts.getD j tk0).up).1 ∧ Rd kBool w' (.slice B dn.length d) (marked dn (ts.getD j tk0).lo.toNat (ts.getD j tk0).hi.toNat) ∧ From w.heap.size A ∧ From w.heap.size B ∧ Ext w w'

theorem DAt.said {w W : World} {B ga gb c3 d3 : Nat} {wr : World} {us ts : List Tk} {dn : List Bool} {L R j : Nat} {g : Int} {q : Bool} (h : DAt w W B ga gb c3 d3 wr us (marked dn L R)) (hl : us.length = ts.length) (hm : (marked dn L R).length = dn.length)
    (hc : climb (ts.length + 1) ts (ts.getD j tk0).up = (us, q)) (hB : w.heap.size + 1 < B) (hlo : (ts.getD j tk0).lo = L) (hhi : (ts.getD j tk0).hi = R) (x y z : Value) :
    DoSaid w ts g dn j (.returned (.tuple #[.agg #[.slice (some ⟨ga, 0, none⟩) ts.length c3, .int .i64 g, .slice (some ⟨gb, 0, none⟩) dn.length d3], .bool q, .int .i64 0])) (((wr.setCell ⟨w.heap.size + 1, 0, none⟩ x).setCell ⟨w.heap.size + 1, 1, none⟩ y).setCell ⟨w.heap.size + 1, 2, none⟩ z) := by
  have ho := h.own
  have hd := h.dns
  rw [hl] at ho
  rw [hm] at hd
  refine ⟨_, _, _, _, by rw [hc], ?_, ?_, (ho.from).mono (by omega), (hd.from).mono (by omega), ?_⟩
  · rw [hc]
    exact (((ho.setBelow (p := ⟨w.heap.size + 1, 0, none⟩) hB _).setBelow (p := ⟨w.heap.size + 1, 1, none⟩) hB _).setBelow (p := ⟨w.heap.size + 1, 2, none⟩) hB _).rd
  · rw [hlo, hhi, Int.toNat_natCast, Int.toNat_natCast]
    exact (((hd.setBelow (p := ⟨w.heap.size + 1, 0, none⟩) hB _).setBelow (p := ⟨w.heap.size + 1, 1, none⟩) hB _).setBelow (p := ⟨w.heap.size + 1, 2, none⟩) hB _).rd
  · exact ((h.ext.setCell (p := ⟨w.heap.size + 1, 0, none⟩) (by show _ ≤ w.heap.size + 1; omega) _).setCell (p := ⟨w.heap.size + 1, 1, none⟩) (by show _ ≤ w.heap.size + 1; omega) _).setCell (p := ⟨w.heap.size + 1, 2, none⟩) (by show _ ≤ w.heap.size + 1; omega) _

set_option maxHeartbeats 1600000 in
set_option maxRecDepth 100000 in
theorem rdo_ok (A B : Option Addr) (c d : Nat) (ts : List Tk) (dn : List Bool) (g : Int) (j : Nat) (w : World) (h : Rd kTask w (.slice A ts.length c) ts) (hd : Rd kBool w (.slice B dn.length d) dn) (hg : in64 g) (hr : wRight ts g dn.length = true) (hj : j < ts.length) (ht : wGreat ts g dn.length j = false) (h3 : (ts.getD j tk0).wt = 0) (hdn : dn.getD (ts.getD j tk0).lo.toNat false = false) :
    Calls Try.prog 52 #[.agg #[.slice A ts.length c, .int .i64 g, .slice B dn.length d], .int .i64 j] w (DoSaid w ts g dn j) := by
  have H := Lib.hid h
  have HD := Lib.hid hd
  have hn := hd.len
  have hnb := right_n hr
  have hm := h.len
  have HG := Lib.hid hg
  have HI : Hid (in64 (j : Int)) := Lib.hid (by unfold in64; omega)
  have HYR := Lib.hid hr
  have HYS : Hid (wHas ts.length (j : Int) = true) := Lib.hid (by unfold wHas; simp; omega)
  have HYT := Lib.hid ht
  obtain ⟨b, off, rfl, hcc⟩ := Rd.tasks H.out (by omega)
  obtain ⟨y0, y1, y2, y3⟩ := hcc j hj
  have e0 : ts.getD j ⟨0, 0, 0, 0⟩ = ts.getD j tk0 := rfl
  rw [e0] at y0 y1 y2 y3
  obtain ⟨o1, o2, o3, o4, o5, _⟩ := tkOk_iff dn.length j (ts.getD j tk0) |>.1 (right_ok hr j hj)
  obtain ⟨⟨lo, hi', up, wt⟩, htk⟩ : ∃ x, ts.getD j tk0 = x := ⟨_, rfl⟩
  have hbd : in64 (ts.getD j tk0).wt := (H.out.okAt j hj).2.2.2
  have HTK := Lib.hid htk
  rw [htk] at y0 y1 y2 y3 h3 o1 o2 o3 o4 o5 hbd
  simp only at y0 y1 y2 y3 h3 o1 o2 o3 o4 o5 hbd
  obtain ⟨b1, b2⟩ := hbd
  have Y0 := Lib.hid y0
  have Y3 := Lib.hid y3
  have hj' : (j : Int) < ts.length := by omega
  have hj0 : (0 : Int) ≤ j := by omega
  obtain ⟨L, rfl⟩ : ∃ L : Nat, lo = L := ⟨lo.toNat, by omega⟩
  obtain ⟨R, rfl⟩ : ∃ R : Nat, hi' = R := ⟨hi'.toNat, by omega⟩
  obtain ⟨bb, boff, rfl, hbc⟩ := Rd.bools HD.out (by omega)
  have z0 := hbc L (by omega)
  have hdL : dn.getD L false = false := by rw [HTK.out] at hdn; simpa using hdn
  rw [hdL] at z0
  have Z0 := Lib.hid z0
  have Y1 := Lib.hid y1
  have Y2 := Lib.hid y2
  have hL' : (L : Int) < dn.length := by omega
  have hL0 : (0 : Int) ≤ L := by omega
  subst h3
  clear hbc z0 hdn hdL
  clear h hd hg hr ht hcc e0 htk y0 y1 y2 y3
  go_enter Try.func52, Try.ntmps52
  go_wp2_with fail
  have hP : PAt w (some ⟨b, off, none⟩) (some ⟨bb, boff, none⟩) c d dn.length ts.length g ((w.alloc (.cells #[.slice (some ⟨b, off, none⟩) ts.length c, .int .i64 g, .slice (some ⟨bb, boff, none⟩) dn.length d] 54)).alloc (.cells #[.slice none 0 0, .int .i64 0, .slice none 0 0] 54)) := Ext.refl _
  refine (rright_any _ _ _ _ _ _ _ _ (H.out.ext hP.ext) hn HG.out).mono ?_
  rintro e w1 ⟨he, hE⟩
  rw [HYR.out] at he
  subst he
  replace hP := hP.go hE
  obtain ⟨q0, q1, q2⟩ := hP.cells
  have HP := Lib.hid hP
  clear hE hP
  go_wp2_with fail
  have hP := HP.out
  clear HP q0 q1 q2
  refine (rhas_any _ _ _ _ _ _ _ _ _ hm).mono ?_
  rintro e w1 ⟨he, hE⟩
  rw [HYS.out] at he
  subst he
  replace hP := hP.go hE
  obtain ⟨q0, q1, q2⟩ := hP.cells
  have HP := Lib.hid hP
  clear hE hP
  go_wp2_with fail
  have hP := HP.out
  clear HP q0 q1 q2
  have hall : ∀ w', PAt w (some ⟨b, off, none⟩) (some ⟨bb, boff, none⟩) c d dn.length ts.length g w' → (w'.cell? ⟨w.heap.size, 0, none⟩ = some (.slice (some ⟨b, off, none⟩) ts.length c) ∧ w'.cell? ⟨w.heap.size, 1, none⟩ = some (.int .i64 g) ∧ w'.cell? ⟨w.heap.size, 2, none⟩ = some (.slice (some ⟨bb, boff, none⟩) dn.length d) ∧ w'.cell? ⟨b, off + j * 4 + 3, none⟩ = some (.int .i64 0) ∧ w'.cell? ⟨b, off + j * 4, none⟩ = some (.int .i64 L) ∧ w'.cell? ⟨bb, boff + L, none⟩ = some (.bool false)) :=
    fun w' hE => ⟨hE.cells.1, hE.cells.2.1, hE.cells.2.2, hE.ext.cell Y3.out, hE.ext.cell Y0.out, hE.ext.cell Z0.out⟩
  have HALL := Lib.hid hall
  clear hall
  refine wp_region_class (PAt w (some ⟨b, off, none⟩) (some ⟨bb, boff, none⟩) c d dn.length ts.length g) (by kernel_rfl) (by kernel_rfl) (hP.go (Ext.refl _).drew) ?_
  repeat (first
    | go_big_quiet_skip
    | (go_big_quiet_want
       first
       | (go_big_quiet_op; go_big_quiet_on)
       | (unfold Oper.quiet
          apply Exists.intro
          refine ⟨fun w' hC => ?_, ?_⟩
          · (obtain ⟨k0, k1, k2, k3, k4, k5⟩ := HALL.out w' hC
             unfold Oper.quietAt
             go_simp
             exact rfl)
          go_simp
          go_big_quiet_on)
       | (go_big_quiet_op
          apply Exists.intro
          refine ⟨fun w' hC => ?_, ?_⟩
          · exact (rgreat_any _ _ _ _ _ _ _ _ _ (H.out.ext hC.ext) hn HG.out HI.out).mono fun e w'' h => ⟨h.1.trans (ret_bool HYT.out), hC.go h.2⟩
          go_big_quiet_on)))
  refine wpQuiet_nil ?_
  intro w3 hP3
  obtain ⟨q0, q1, q2⟩ := hP3.cells
  obtain ⟨s0, s1, s2, s3⟩ := hP3.out
  have HP := Lib.hid hP3
  clear hP3 hP
  obtain ⟨B0, hB0⟩ : ∃ B0, w3.heap.size = B0 := ⟨_, rfl⟩
  go_wp2_with fail
  have hP1 := HP.out
  have HW1 := Lib.hid hP1.ext.size
  have hW1 := Lib.hid hP1.two
  clear s0 s1 s2 s3 q0 q1 q2 HP
  refine (rcopy_any _ _ _ _ _ _ _ _ (H.out.ext hP1.ext) (HD.out.ext hP1.ext) (by omega) (by omega)).mono ?_
  rintro e w2 ⟨A3, c3, B3, d3, rfl, hO, hOD, hE⟩
  have hP := hP1.go hE
  obtain ⟨q0, q1, q2⟩ := hP.cells
  obtain ⟨s0, s1, s2, s3⟩ := hP.out
  have q3 := hP.ext.cell Y3.out
  have q4 := hP.ext.cell Y0.out
  have q5 := hP.ext.cell Y1.out
  have HP := Lib.hid hP
  have hB3 : (Value.slice B3 dn.length d3).ownBlock ≠ none := by
    obtain ⟨gb, rfl, _⟩ := Ow.pos hOD (by omega)
    simp [Value.ownBlock]
  obtain ⟨gb, rfl, gb1, gb2, gb3, gb4⟩ := Ow.pos hOD (by omega)
  obtain ⟨ga, rfl, ga1, ga2, ga3, ga4⟩ := Ow.pos hO (by omega)
  have hgab : ga ≠ gb := fun h => by have := Ow.far (by decide) hO hOD ga rfl; rw [h] at this; exact this rfl
  have HZ := Lib.hid hE.size
  rw [hB0] at hO hOD gb1 ga1
  have HO := Lib.hid hO
  have HOD := Lib.hid hOD
  have W1 := HW1.out
  have W2 := hW1.out
  have W3 := HZ.out
  have lbw : b < w.heap.size := World.block_lt_of_cell? _ _ Y0.out
  have lb : b < w2.heap.size := World.block_lt_of_cell? _ _ q4
  have l0 : w.heap.size < w2.heap.size := by omega
  have l1 : w.heap.size + 1 < w2.heap.size := by omega
  have l2 : w.heap.size < w2.heap.size + 1 := by omega
  have l3 : w.heap.size + 1 < w2.heap.size + 1 := by omega
  have l4 : b < w2.heap.size + 1 := by omega
  clear hP hP1 hE hO hOD ga3 ga4 gb3 gb4 hB3
  have hD0 : DAt w (w2.alloc (.cells #[.slice (some ⟨ga, 0, none⟩) ts.length c3, .int .i64 g, .slice (some ⟨gb, 0, none⟩) dn.length d3] 54)) B0 ga gb c3 d3 (w2.alloc (.cells #[.slice (some ⟨ga, 0, none⟩) ts.length c3, .int .i64 g, .slice (some ⟨gb, 0, none⟩) dn.length d3] 54)) ts (marked dn L L) :=
    ⟨fun _ _ _ _ _ => rfl, fun _ _ _ _ _ => rfl, HO.out.ext ((Ext.refl _).alloc _), by rw [marked_none]; exact HOD.out.ext ((Ext.refl _).alloc _), HP.out.ext.alloc _⟩
  have HD0 := Lib.hid hD0
  clear hD0
  go_wp2_with fail
  have x0 : (w2.alloc (.cells #[.slice (some ⟨ga, 0, none⟩) ts.length c3, .int .i64 g, .slice (some ⟨gb, 0, none⟩) dn.length d3] 54)).cell? ⟨w.heap.size, 0, none⟩ = some (.slice (some ⟨b, off, none⟩) ts.length c) := by go_simp
  have x1 : (w2.alloc (.cells #[.slice (some ⟨ga, 0, none⟩) ts.length c3, .int .i64 g, .slice (some ⟨gb, 0, none⟩) dn.length d3] 54)).cell? ⟨b, off + j * 4 + 1, none⟩ = some (.int .i64 R) := by go_simp
  have x2 : (w2.alloc (.cells #[.slice (some ⟨ga, 0, none⟩) ts.length c3, .int .i64 g, .slice (some ⟨gb, 0, none⟩) dn.length d3] 54)).cell? ⟨w2.heap.size, 2, none⟩ = some (.slice (some ⟨gb, 0, none⟩) dn.length d3) := by go_simp
  have x3 : (w2.alloc (.cells #[.slice (some ⟨ga, 0, none⟩) ts.length c3, .int .i64 g, .slice (some ⟨gb, 0, none⟩) dn.length d3] 54)).cell? ⟨b, off + j * 4 + 2, none⟩ = some (.int .i64 up) := by have := HP.out.ext.cell Y2.out; go_simp
  have X3 := Lib.hid x3
  have x4 : (w2.alloc (.cells #[.slice (some ⟨ga, 0, none⟩) ts.length c3, .int .i64 g, .slice (some ⟨gb, 0, none⟩) dn.length d3] 54)).cell? ⟨w2.heap.size, 0, none⟩ = some (.slice (some ⟨ga, 0, none⟩) ts.length c3) := by go_simp
  have x5 : (w2.alloc (.cells #[.slice (some ⟨ga, 0, none⟩) ts.length c3, .int .i64 g, .slice (some ⟨gb, 0, none⟩) dn.length d3] 54)).cell? ⟨w2.heap.size, 1, none⟩ = some (.int .i64 g) := by go_simp
  have x6 : (w2.alloc (.cells #[.slice (some ⟨ga, 0, none⟩) ts.length c3, .int .i64 g, .slice (some ⟨gb, 0, none⟩) dn.length d3] 54)).cell? ⟨w.heap.size + 1, 0, none⟩ = some (.slice none 0 0) ∧ (w2.alloc (.cells #[.slice (some ⟨ga, 0, none⟩) ts.length c3, .int .i64 g, .slice (some ⟨gb, 0, none⟩) dn.length d3] 54)).cell? ⟨w.heap.size + 1, 1, none⟩ = some (.int .i64 0) ∧ (w2.alloc (.cells #[.slice (some ⟨ga, 0, none⟩) ts.length c3, .int .i64 g, .slice (some ⟨gb, 0, none⟩) dn.length d3] 54)).cell? ⟨w.heap.size + 1, 2, none⟩ = some (.slice none 0 0) ∧ ∀ o, (w2.alloc (.cells #[.slice (some ⟨ga, 0, none⟩) ts.length c3, .int .i64 g, .slice (some ⟨gb, 0, none⟩) dn.length d3] 54)).frozen? ⟨w.heap.size + 1, o, none⟩ = false := ⟨by go_simp, by go_simp, by go_simp, fun o => by have := s3 o; go_simp⟩
  have X4 := Lib.hid x4
  have X5 := Lib.hid x5
  have X6 := Lib.hid x6
  have X0 := Lib.hid x0
  have X1 := Lib.hid x1
  have X2 := Lib.hid x2
  clear x0 x1 x2 x3 x4 x5 x6
  go_loopw [8] (fun i wr => ∃ k : Nat, L ≤ k ∧ k ≤ R ∧ i = .int .i64 k ∧ DAt w (w2.alloc (.cells #[.slice (some ⟨ga, 0, none⟩) ts.length c3, .int .i64 g, .slice (some ⟨gb, 0, none⟩) dn.length d3] 54)) B0 ga gb c3 d3 wr ts (marked dn L k)) (fun i _ => R - (intOf i).toNat)
  case atStart => exact ⟨L, Nat.le_refl _, by omega, rfl, HD0.out⟩
  case round =>
    obtain ⟨k, hk1, hk2, rfl, hA⟩ := hrel
    have m0 := hA.cell X0.out (by omega) (by omega)
    have m1 := hA.cell X1.out (by omega) (by omega)
    have m2 := hA.cell X2.out (by omega) (by omega)
    have HA := Lib.hid hA
    by_cases hlt : k < R
    · have hlt' : (k : Int) < R := by omega
      have hkl : (k : Int) < dn.length := by omega
      have hk0 : (0 : Int) ≤ k := by omega
      have hml : (marked dn L k).length = dn.length := marked_len dn L k hk1 (by omega)
      obtain ⟨n0, n1⟩ := hA.unit (k := k) (by omega)
      have hN := hA.mark (k := k) (by omega) (by omega) hgab
      rw [← marked_succ dn L k hk1 (by omega)] at hN
      have HN := Lib.hid hN
      clear hA hN hml
      go_wp2
      go_roundw
      case rel => exact ⟨k + 1, by omega, by omega, by go_num, HN.out⟩
      case measure => simp [intOf]; omega
    · have m3 := hA.cell X3.out (by omega) (by omega)
      have hkr : k = R := by omega
      have hlt' : ¬ (k : Int) < R := by omega
      subst hkr
      clear hA
      have hml : (marked dn L k).length = dn.length := marked_len dn L k hk1 (by omega)
      have hlo : (ts.getD j tk0).lo = L := by rw [HTK.out]
      have hhi : (ts.getD j tk0).hi = k := by rw [HTK.out]
      have hupj : (ts.getD j tk0).up = up := by rw [HTK.out]
      have HM := Lib.hid (And.intro hml (And.intro hlo (And.intro hhi hupj)))
      have HOK := Lib.hid (by have := HYR.out; unfold wRight at this; rw [Bool.and_eq_true] at this; exact this.2 : wOkTo ts dn.length ts.length = true)
      clear hml hlo hhi hupj
      go_wp2_with fail
      go_loopw [9] (fun i wx => ∃ (u : Int) (us : List Tk) (f : Nat), i = .int .i64 u ∧ DAt w (w2.alloc (.cells #[.slice (some ⟨ga, 0, none⟩) ts.length c3, .int .i64 g, .slice (some ⟨gb, 0, none⟩) dn.length d3] 54)) B0 ga gb c3 d3 wx us (marked dn L k) ∧ us.length = ts.length ∧ wOkTo us dn.length ts.length = true ∧ -1 ≤ u ∧ u < ts.length ∧ u < f ∧ climb (ts.length + 1) ts up = climb (f + 1) us u) (fun i _ => (intOf i + 1).toNat)
      case atStart => exact ⟨up, ts, ts.length, rfl, HA.out, rfl, HOK.out, o4, by omega, by omega, rfl⟩
      case round =>
        obtain ⟨u, us, f, rfl, hX, hul, hok, hu1, hu2, hu3, hcl⟩ := hrel
        have M2 := hX.cell X2.out (by omega) (by omega)
        have M4 := hX.cell X4.out (by omega) (by omega)
        have M5 := hX.cell X5.out (by omega) (by omega)
        have t0 := hX.cell X6.out.1 (by omega) (by omega)
        have t1 := hX.cell X6.out.2.1 (by omega) (by omega)
        have t2 := hX.cell X6.out.2.2.1 (by omega) (by omega)
        have t3 : ∀ o, wr.frozen? ⟨w.heap.size + 1, o, none⟩ = false := fun o => (hX.fro (w.heap.size + 1) o (World.block_lt_of_cell? _ _ X6.out.1) (by omega) (by omega)).trans (X6.out.2.2.2 o)
        have HX := Lib.hid hX
        by_cases hum : u = -1
        · subst hum
          have HC : Hid (climb (ts.length + 1) ts up = (us, true)) := Lib.hid (by rw [hcl]; simp [climb])
          clear hcl hX
          go_wp2_with fail
          refine bodyPost_ret (v := .tuple #[.agg #[.slice (some ⟨ga, 0, none⟩) ts.length c3, .int .i64 g, .slice (some ⟨gb, 0, none⟩) dn.length d3], .bool true, .int .i64 0]) (by simp [results, Try.results52, go_sem]; go_simp) rfl (HX.out.said hul HM.out.1 (by rw [HM.out.2.2.2]; exact HC.out) (by omega) HM.out.2.1 HM.out.2.2.1 _ _ _)
        · obtain ⟨v, rfl⟩ : ∃ v : Nat, u = v := ⟨u.toNat, by omega⟩
          have hv : v < us.length := by omega
          have hv' : (v : Int) < ts.length := by omega
          have hv0 : (0 : Int) ≤ v := by omega
          have hvn : ((v : Int) != -1) = true := by simp
          have hve : ((v : Int) == -1) = false := by simp
          obtain ⟨⟨lo1, hi1, up1, wt1⟩, ht⟩ : ∃ x, us.getD v tk0 = x := ⟨_, rfl⟩
          obtain ⟨cu, cw, cf, iu, iw⟩ := hX.task hv ht
          have ok1 := (tkOk_iff _ _ _).1 (wOkTo_at us dn.length ts.length hok v (by omega))
          rw [ht] at ok1
          simp only at ok1
          obtain ⟨_, _, _, k4, k5, k6, k7⟩ := ok1
          have e0 : tkAt us (v : Int) = us.getD v tk0 := by unfold tkAt; rw [Int.toNat_natCast]
          have HT := Lib.hid ht
          by_cases hw : wt1 = 0
          · have HC : Hid (climb (ts.length + 1) ts up = (us, false)) := Lib.hid (by rw [hcl]; unfold climb; rw [if_neg hum, e0, ht, if_pos hw])
            subst hw
            clear hcl hX ht e0 hum
            go_wp2_with fail
            refine bodyPost_ret (v := .tuple #[.agg #[.slice (some ⟨ga, 0, none⟩) ts.length c3, .int .i64 g, .slice (some ⟨gb, 0, none⟩) dn.length d3], .bool false, .int .i64 0]) (by simp [results, Try.results52, go_sem]; go_simp) rfl (HX.out.said hul HM.out.1 (by rw [HM.out.2.2.2]; exact HC.out) (by omega) HM.out.2.1 HM.out.2.2.1 _ _ _)
          · have hwe : (wt1 == 0) = false := by simpa using hw
            have hN := hX.wait hv ht (by omega) (by omega) hgab
            have HN := Lib.hid hN
            have hnl : (wless us v).length = ts.length := by rw [wless_len]; exact hul
            have HNL := Lib.hid hnl
            by_cases hq : 0 < wt1 - 1
            · have HC : Hid (climb (ts.length + 1) ts up = (wless us v, false)) := Lib.hid (by rw [hcl]; unfold climb; rw [if_neg hum, e0, ht, if_neg hw, if_pos hq, Int.toNat_natCast])
              clear hcl hX ht e0 hum hN hw
              go_wp2_with fail
              refine bodyPost_ret (v := .tuple #[.agg #[.slice (some ⟨ga, 0, none⟩) ts.length c3, .int .i64 g, .slice (some ⟨gb, 0, none⟩) dn.length d3], .bool false, .int .i64 0]) (by simp [results, Try.results52, go_sem]; go_simp) rfl (HN.out.said HNL.out HM.out.1 (by rw [HM.out.2.2.2]; exact HC.out) (by omega) HM.out.2.1 HM.out.2.2.1 _ _ _)
            · obtain ⟨f, rfl⟩ : ∃ x, f = x + 1 := ⟨f - 1, by omega⟩
              have HC : Hid (climb (ts.length + 1) ts up = climb (f + 1) (wless us v) up1) := Lib.hid (by rw [hcl]; rw [climb]; rw [if_neg hum, e0, ht, if_neg hw, if_neg hq, Int.toNat_natCast])
              have HK : Hid (wOkTo (wless us v) dn.length ts.length = true) := Lib.hid (wless_ok us dn.length v _ hv hok (by omega) (by rw [ht]; exact hw))
              clear hcl hX ht e0 hum hN hw hok
              go_wp2
              go_roundw
              case rel => exact ⟨up1, wless us v, f, rfl, HN.out, HNL.out, HK.out, k4, by omega, by omega, HC.out⟩
              case measure => simp [intOf]; omega

end Go.Proofs.Ytjabahfkgaamdaa

/- The document's Do of work, whole. -/
namespace Go.Proofs.Ytjabahfkgaamdaa
open Go.RowKit Go.Proofs.Ytjabahfkgaamdaa.Plain

/-- Do's word: 0, or why not -/
def doErr (ts : List Tk) (g : Int) (dn : List Bool) (i : Int) : Int :=
  if wRight ts g dn.length = false then 1 else if wHas ts.length i = false then 6 else if wGreat ts g dn.length i = true then 5 else if (tkAt ts i).wt ≠ 0 then 5 else if dn.getD (tkAt ts i).lo.toNat false = true then 5 else 0

theorem rdo_any (A B : Option Addr) (c d : Nat) (ts : List Tk) (dn : List Bool) (g i : Int) (w : World) (h : Rd kTask w (.slice A ts.length c) ts) (hd : Rd kBool w (.slice B dn.length d) dn) (hg : in64 g) (hi : in64 i) :
    Calls Try.prog 52 #[.agg #[.slice A ts.length c, .int .i64 g, .slice B dn.length d], .int .i64 i] w fun e w' =>
      (doErr ts g dn i ≠ 0 ∧ DNo w A B c d dn.length ts.length g (doErr ts g dn i) e w') ∨ (doErr ts g dn i = 0 ∧ DoSaid w ts g dn i.toNat e w') := by
  have hn := hd.len
  cases hr : wRight ts g dn.length with
  | false =>
    have he : doErr ts g dn i = 1 := by unfold doErr; rw [if_pos hr]
    rw [he]
    exact (rdo_no A B c d dn.length ts g i w h hn hg hi hr).mono fun e w' hh => .inl ⟨by decide, hh⟩
  | true =>
    cases hs : wHas ts.length i with
    | false =>
      have he : doErr ts g dn i = 6 := by unfold doErr; rw [if_neg (by rw [hr]; decide), if_pos hs]
      rw [he]
      exact (rdo_none A B c d dn.length ts g i w h hn hg hi hr hs).mono fun e w' hh => .inl ⟨by decide, hh⟩
    | true =>
      cases ht : wGreat ts g dn.length i with
      | true =>
        have he : doErr ts g dn i = 5 := by unfold doErr; rw [if_neg (by rw [hr]; decide), if_neg (by rw [hs]; decide), if_pos ht]
        rw [he]
        exact (rdo_great A B c d dn.length ts g i w h hn hg hi hr hs ht).mono fun e w' hh => .inl ⟨by decide, hh⟩
      | false =>
        have hsi : 0 ≤ i ∧ i < (ts.length : Int) := by unfold wHas at hs; simpa using hs
        obtain ⟨j, rfl⟩ : ∃ j : Nat, i = j := ⟨i.toNat, by omega⟩
        have hj : j < ts.length := by omega
        have e0 : tkAt ts (j : Int) = ts.getD j tk0 := by unfold tkAt; rw [Int.toNat_natCast]
        by_cases hw : (ts.getD j tk0).wt = 0
        · cases hf : dn.getD (ts.getD j tk0).lo.toNat false with
          | true =>
            have he : doErr ts g dn (j : Int) = 5 := by unfold doErr; rw [if_neg (by rw [hr]; decide), if_neg (by rw [hs]; decide), if_neg (by rw [ht]; decide), e0, if_neg (by simpa using hw), if_pos hf]
            rw [he]
            exact (rdo_done A B c d ts dn g j w h hd hg hr hj ht hw hf).mono fun e w' hh => .inl ⟨by decide, hh⟩
          | false =>
            have he : doErr ts g dn (j : Int) = 0 := by unfold doErr; rw [if_neg (by rw [hr]; decide), if_neg (by rw [hs]; decide), if_neg (by rw [ht]; decide), e0, if_neg (by simpa using hw), if_neg (by rw [hf]; decide)]
            rw [he]
            exact (rdo_ok A B c d ts dn g j w h hd hg hr hj ht hw hf).mono fun e w' hh => .inr ⟨rfl, by rw [Int.toNat_natCast]; exact hh⟩
        · have he : doErr ts g dn (j : Int) = 5 := by unfold doErr; rw [if_neg (by rw [hr]; decide), if_neg (by rw [hs]; decide), if_neg (by rw [ht]; decide), e0, if_pos hw]
          rw [he]
          exact (rdo_wait A B c d ts dn g j w h hd hg hr hj ht hw).mono fun e w' hh => .inl ⟨by decide, hh⟩
end Go.Proofs.Ytjabahfkgaamdaa

/- The program's copy of work, its Begin, and what is finished. -/
namespace Go.Proofs.Ytjabahfkgaamdaa
open Go.BigFrame
open Go.RowKit Go.Proofs.Ytjabahfkgaamdaa.Plain

set_option maxHeartbeats 1600000 in
set_option maxRecDepth 100000 in
theorem copied_any (A B : Option Addr) (c d : Nat) (ts : List Tk) (g : Int) (dn : List Bool) (w : World) (h : Rd kTask w (.slice A ts.length c) ts) (h' : Rd kBool w (.slice B dn.length d) dn) (hl : ts.length ≤ 1048576) (hl' : dn.length ≤ 1048576) :
    Calls Try.prog 85 #[.agg #[.slice A ts.length c, .int .i64 g, .slice B dn.length d]] w fun e w' => ∃ A c B d, e = .returned (.agg #[.slice A ts.length c, .int .i64 g, .slice B dn.length d]) ∧
      Ow kTask w.heap.size w' (.slice A ts.length c) ts ∧ Ow kBool w.heap.size w' (.slice B dn.length d) dn ∧ Ext w w' := by
  have H := Lib.hid h
  have HD := Lib.hid h'
  clear h h'
  go_enter Try.func85, Try.ntmps85
  go_wp2
  go_region_held3 (fun w' => w'.cell? ⟨w.heap.size, 0, none⟩ = some (.slice A ts.length c) ∧ w'.cell? ⟨w.heap.size, 1, none⟩ = some (.int .i64 g) ∧ w'.cell? ⟨w.heap.size, 2, none⟩ = some (.slice B dn.length d))
    (first | go_keep | exact ⟨c21, c22, c23⟩ | exact ⟨c11, c12, c13⟩)
    (first
      | (go_at_call_of 63 (Value.slice A ts.length c)
         refine (clone_t _ _ _ (H.out.ext (((Ext.refl w).alloc _).alloc _).drew) hl).mono ?_
         rintro e w1 ⟨A1, c1, rfl, ho1, hE1⟩
         have c11 : w1.cell? ⟨w.heap.size, 0, none⟩ = some (.slice A ts.length c) := hE1.cell (by go_simp)
         have c12 : w1.cell? ⟨w.heap.size, 1, none⟩ = some (.int .i64 g) := hE1.cell (by go_simp)
         have c13 : w1.cell? ⟨w.heap.size, 2, none⟩ = some (.slice B dn.length d) := hE1.cell (by go_simp))
      | (go_at_call_of 64 (Value.slice B dn.length d)
         refine (clone_b _ _ _ (HD.out.ext ((((Ext.refl w).alloc _).alloc _).drew.trans hE1)) hl').mono ?_
         rintro e w2 ⟨A2, c2, rfl, ho2, hE2⟩
         have c21 : w2.cell? ⟨w.heap.size, 0, none⟩ = some (.slice A ts.length c) := hE2.cell c11
         have c22 : w2.cell? ⟨w.heap.size, 1, none⟩ = some (.int .i64 g) := hE2.cell c12
         have c23 : w2.cell? ⟨w.heap.size, 2, none⟩ = some (.slice B dn.length d) := hE2.cell c13
         have hE12 := hE1.trans hE2
         obtain ⟨hc2, hf2⟩ := bcell hE12))
  go_wp2
  refine bodyPost_ret (v := .agg #[.slice A1 ts.length c1, .int .i64 g, .slice A2 dn.length c2]) (by simp [results, Try.results85, go_sem, hc2]) rfl ⟨A1, c1, A2, c2, rfl, ?_, ?_, ?_⟩
  · exact ((((ho1.ext hE2).setBelow (by simp) _).setBelow (by simp) _).setBelow (by simp) _).mono (by simp; omega)
  · have := hE1.size
    simp at this
    exact (((ho2.setBelow (by simp; omega) _).setBelow (by simp; omega) _).setBelow (by simp; omega) _).mono (by omega)
  · exact ((((((Ext.refl w).alloc _).alloc _).drew.trans hE12).setCell (by simp) _).setCell (by simp) _).setCell (by simp) _

/-- what stands while the tasks above are told -/
structure FAt (B g c : Nat) (w wr : World) (us : List Tk) : Prop where
  own : Ow kTask B wr (.slice (some ⟨g, 0, none⟩) us.length c) us
  grow : w.grownBy wr (some g)
theorem FAt.task {B g c : Nat} {w wr : World} {us : List Tk} (h : FAt B g c w wr us) {k : Nat} (hk : k < us.length) {lo hi up wt : Int} (ht : us.getD k tk0 = ⟨lo, hi, up, wt⟩) :
    wr.cell? ⟨g, k * 4 + 2, none⟩ = some (.int .i64 up) ∧ wr.cell? ⟨g, k * 4 + 3, none⟩ = some (.int .i64 wt) ∧ (∀ o, wr.frozen? ⟨g, o, none⟩ = false) ∧ in64 up ∧ in64 wt := by
  obtain ⟨g', e, _, _, h3, h4⟩ := Ow.pos h.own (by omega)
  cases e
  have e0 : us.getD k kTask.d = ⟨lo, hi, up, wt⟩ := ht
  have := h.own.rd.okAt k hk
  rw [e0] at this
  exact ⟨h3 k hk 2 (.int .i64 up) (by rw [e0]; rfl), h3 k hk 3 (.int .i64 wt) (by rw [e0]; rfl), h4, this.2.2.1, this.2.2.2⟩
theorem FAt.less {B g c : Nat} {w wr : World} {us : List Tk} (h : FAt B g c w wr us) {k : Nat} (hk : k < us.length) {lo hi up wt : Int} (ht : us.getD k tk0 = ⟨lo, hi, up, wt⟩) (hwt : 1 ≤ wt) : FAt B g c w (wr.setCell ⟨g, k * 4 + 3, none⟩ (.int .i64 (wt - 1))) (wless us k) where
  own := by
    rw [wless_len]
    have e0 : us.getD k kTask.d = ⟨lo, hi, up, wt⟩ := ht
    have ok := h.own.rd.okAt k hk
    rw [e0] at ok
    have := h.own.set (j := k) (i := 3) (x := ⟨lo, hi, up, wt - 1⟩) (u := .int .i64 (wt - 1)) hk (by decide) (by rw [e0]; rfl) (tk_ok ok.1 ok.2.1 ok.2.2.1 (by have h9 : in64 wt := ok.2.2.2; unfold in64 at h9 ⊢; omega))
    unfold wless; rw [ht]; exact this
  grow := ⟨h.grow.os, h.grow.tape, h.grow.output, by rw [World.size_setCell]; exact h.grow.size, fun i hi hne => (Below.heap_setCell _ _ _ _ (fun e => hne (by simp [e]))).trans (h.grow.block i hi hne)⟩

set_option maxHeartbeats 800000 in
set_option maxRecDepth 100000 in
theorem finish_any (B ga c n : Nat) (ts : List Tk) (up : Int) (w : World) (h : Ow kTask B w (.slice (some ⟨ga, 0, none⟩) ts.length c) ts) (hok : wOkTo ts n ts.length = true) (hu1 : -1 ≤ up) (hu2 : up < ts.length) (_hm : ts.length ≤ 2000) :
    Calls Try.prog 89 #[.slice (some ⟨ga, 0, none⟩) ts.length c, .int .i64 up] w fun e w' => e = .returned (.bool (climb (ts.length + 1) ts up).2) ∧ FAt B ga c w w' (climb (ts.length + 1) ts up).1 := by
  have H0 : Hid (FAt B ga c w w ts) := Lib.hid ⟨h, World.grownBy.refl w _⟩
  have HOK := Lib.hid hok
  clear h hok
  go_enter Try.func89, Try.ntmps89
  go_wp2_with fail
  go_loopw [1] (fun i wx => ∃ (u : Int) (us : List Tk) (f : Nat), i = .int .i64 u ∧ FAt B ga c w wx us ∧ us.length = ts.length ∧ wOkTo us n ts.length = true ∧ -1 ≤ u ∧ u < ts.length ∧ u < f ∧ climb (ts.length + 1) ts up = climb (f + 1) us u) (fun i _ => (intOf i + 1).toNat)
  case atStart => exact ⟨up, ts, ts.length, rfl, H0.out, rfl, HOK.out, hu1, hu2, hu2, rfl⟩
  case round =>
    obtain ⟨u, us, f, rfl, hX, hul, hok, hv1, hv2, hv3, hcl⟩ := hrel
    have HX := Lib.hid hX
    by_cases hum : u = -1
    · subst hum
      have HC : Hid (climb (ts.length + 1) ts up = (us, true)) := Lib.hid (by rw [hcl]; simp [climb])
      clear hcl hX
      go_wp2_with fail
      go_ret
      exact ⟨ret_bool (by rw [HC.out]), by rw [HC.out]; exact HX.out⟩
    · obtain ⟨v, rfl⟩ : ∃ v : Nat, u = v := ⟨u.toNat, by omega⟩
      have hv : v < us.length := by omega
      have hv' : (v : Int) < ts.length := by omega
      have hv0 : (0 : Int) ≤ v := by omega
      obtain ⟨⟨lo1, hi1, up1, wt1⟩, ht⟩ : ∃ x, us.getD v tk0 = x := ⟨_, rfl⟩
      obtain ⟨cu, cw, cf, iu, iw⟩ := hX.task hv ht
      have ok1 := (tkOk_iff _ _ _).1 (wOkTo_at us n ts.length hok v (by omega))
      rw [ht] at ok1
      simp only at ok1
      obtain ⟨_, _, _, k4, k5, k6, k7⟩ := ok1
      have e0 : tkAt us (v : Int) = us.getD v tk0 := by unfold tkAt; rw [Int.toNat_natCast]
      by_cases hw : wt1 = 0
      · have HC : Hid (climb (ts.length + 1) ts up = (us, false)) := Lib.hid (by rw [hcl]; unfold climb; rw [if_neg hum, e0, ht, if_pos hw])
        subst hw
        clear hcl hX ht e0 hum
        go_wp2_with fail
        go_ret
        exact ⟨ret_bool (by rw [HC.out]), by rw [HC.out]; exact HX.out⟩
      · have hwe : (wt1 == 0) = false := by simpa using hw
        have HN := Lib.hid (hX.less hv ht (by omega))
        have hnl : (wless us v).length = ts.length := by rw [wless_len]; exact hul
        have HNL := Lib.hid hnl
        by_cases hq : 0 < wt1 - 1
        · have HC : Hid (climb (ts.length + 1) ts up = (wless us v, false)) := Lib.hid (by rw [hcl]; unfold climb; rw [if_neg hum, e0, ht, if_neg hw, if_pos hq, Int.toNat_natCast])
          clear hcl hX ht e0 hum hw
          go_wp2_with fail
          go_ret
          exact ⟨ret_bool (by rw [HC.out]), by rw [HC.out]; exact HN.out⟩
        · obtain ⟨f, rfl⟩ : ∃ x, f = x + 1 := ⟨f - 1, by omega⟩
          have HC : Hid (climb (ts.length + 1) ts up = climb (f + 1) (wless us v) up1) := Lib.hid (by rw [hcl]; rw [climb]; rw [if_neg hum, e0, ht, if_neg hw, if_neg hq, Int.toNat_natCast])
          have HK : Hid (wOkTo (wless us v) n ts.length = true) := Lib.hid (wless_ok us n v _ hv hok (by omega) (by rw [ht]; exact hw))
          clear hcl hX ht e0 hum hw hok
          go_wp2
          go_roundw
          case rel => exact ⟨up1, wless us v, f, rfl, HN.out, HNL.out, HK.out, k4, by omega, by omega, HC.out⟩
          case measure => simp [intOf]; omega
end Go.Proofs.Ytjabahfkgaamdaa

/- The program's Count: a closure that calls itself, by a contract of its own. -/
namespace Go.Proofs.Ytjabahfkgaamdaa
open Go.BigFrame
open Go.RowKit Go.Proofs.Ytjabahfkgaamdaa.Plain

def Drawn (w w' : World) : Prop := ∃ k, w' = w.drewN k
theorem Drawn.refl (w : World) : Drawn w w := ⟨0, rfl⟩
theorem Drawn.trans {a b c : World} (h : Drawn a b) (k : Drawn b c) : Drawn a c := by
  obtain ⟨m, rfl⟩ := h
  obtain ⟨n, rfl⟩ := k
  exact ⟨m + n, by simp⟩
theorem Drawn.drew (w : World) : Drawn w w.drew := ⟨1, rfl⟩
theorem Drawn.ext {w w' : World} (h : Drawn w w') : Ext w w' := by
  obtain ⟨k, rfl⟩ := h
  exact (Ext.refl w).drewN k

end Go.Proofs.Ytjabahfkgaamdaa
