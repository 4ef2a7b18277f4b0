/- Joined by wip/merge.py: Mono, RowM, NPlain, Num, LwI, T13P, T13Q, T13R, LwJ. -/
import Derived.Test.YtfkidgpjejcblaaDoorJ1
import Derived.Deep.AppendSrc
import Derived.Deep.RegionLaw
import Derived.Lib.SliceRun
import Derived.Lib.AppendZeros
import Derived.Deep.QuietTactic
import Derived.BigQuiet
import Derived.Deep.CutBlock
set_option linter.unusedVariables false
set_option linter.unusedSimpArgs false
set_option linter.unnecessarySimpa false
/- A region whose order is open and whose operations, but a tail in one order, leave all that was there as it was: what each of them leaves is said once, whatever the order. -/
namespace Go.Proofs.YtfkidgpjejcblaaDoor.Mono
open Go.RowKit Go.Proofs.YtfkidgpjejcblaaDoor

/-- what an operation waits for -/
def deps (l : List Oper) (i : Nat) : List Nat :=
  match l[i]? with
  | some o => (o.after.toList.filter (fun e => Region.binds .any e)).map (·.on)
  | none => []
/-- .. and what these wait for -/
def clo (l : List Oper) : Nat → Nat → List Nat
  | 0, _ => []
  | n + 1, i => deps l i ++ (deps l i).flatMap (clo l n)

def isSelect : Op → Bool
  | .select _ _ => true
  | _ => false

/-- i waits for j, at once or by way of one or two others -/
def nearB (l : List Oper) (i j : Nat) : Bool := (deps l i).contains j || (deps l i).any (fun k => (deps l k).contains j || (deps l k).any fun q => (deps l q).contains j)
theorem near_cases {l : List Oper} {i j : Nat} (h : nearB l i j = true) : j ∈ deps l i ∨ ∃ k ∈ deps l i, j ∈ deps l k ∨ ∃ q ∈ deps l k, j ∈ deps l q := by
  unfold nearB at h
  simp only [Bool.or_eq_true, List.any_eq_true, List.contains_iff_mem] at h
  exact h
def okAt (l : List Oper) (m i : Nat) : Bool :=
  match l[i]? with
  | none => true
  | some o => (deps l i).all (fun j => decide (j < i)) && !(isSelect o.op) &&
      (!(decide (i < m)) || (List.range m).all (fun j => (deps l i).contains j || (match (l[j]?).bind (·.dst) with | some d => !(o.looksAt l.toArray).contains d | none => true))) &&
      (!(decide (i < m)) || (List.range m).all (fun j => j == i || (match (l[j]?).bind (·.dst) with | some d => o.dst != some d | none => true))) &&
      (decide (i < m) || (List.range i).all (fun j => nearB l i j))
def monoB (l : List Oper) (m : Nat) : Bool := decide (m ≤ l.length) && (List.range l.length).all (okAt l m)

/-- the frame behind all of them -/
def all (vals : Nat → Value) : List Oper → Nat → Act → Act
  | [], _, a => a
  | o :: r, k, a => all vals r (k + 1) (a.put o.dst (vals k))
/-- .. behind those that have come up -/
def sel (listed : Array Bool) (vals : Nat → Value) : List Oper → Nat → Act → Act
  | [], _, a => a
  | o :: r, k, a => sel listed vals r (k + 1) (if listed.getD k false = true then a.put o.dst (vals k) else a)
def uns (listed : Array Bool) (vals : Nat → Value) : List Oper → Nat → Act → Act
  | [], _, a => a
  | o :: r, k, a => uns listed vals r (k + 1) (if listed.getD k false = true then a else a.put o.dst (vals k))
def upd (vals : Nat → Value) (i : Nat) (v : Value) : Nat → Value := fun j => if j = i then v else vals j

theorem sel_put {listed : Array Bool} {vals : Nat → Value} {x : Option Tmp} {v : Value} : ∀ (r : List Oper) (k : Nat) (a : Act), (∀ o ∈ r, ∀ d, x = some d → o.dst ≠ some d) →
    sel listed vals r k (a.put x v) = (sel listed vals r k a).put x v
  | [], _, _, _ => rfl
  | o :: r, k, a, h => by
    simp only [sel]
    split
    · rw [Act.put_comm a v (vals k) (h o (by simp))]
      exact sel_put r (k + 1) _ (fun o ho => h o (by simp [ho]))
    · exact sel_put r (k + 1) _ (fun o ho => h o (by simp [ho]))

theorem sel_congr {listed listed' : Array Bool} {vals vals' : Nat → Value} : ∀ (r : List Oper) (k : Nat) (a : Act), (∀ j, k ≤ j → listed.getD j false = listed'.getD j false ∧ vals j = vals' j) →
    sel listed vals r k a = sel listed' vals' r k a
  | [], _, _, _ => rfl
  | o :: r, k, a, h => by
    simp only [sel]
    rw [(h k (Nat.le_refl _)).1, (h k (Nat.le_refl _)).2]
    exact sel_congr r (k + 1) _ (fun j hj => h j (by omega))

theorem set_getD {listed : Array Bool} {i j : Nat} (hi : i < listed.size) : (listed.setIfInBounds i true).getD j false = if j = i then true else listed.getD j false := by
  by_cases h : j = i
  · subst h; simp [hi]
  · rw [if_neg h, getD_set_ne false (Ne.symm h)]

theorem sel_set {listed : Array Bool} {vals : Nat → Value} {i : Nat} {v : Value} {oi : Oper} (hi : i < listed.size) (hun : listed.getD i false = false) :
    ∀ (r : List Oper) (k : Nat) (a : Act), k ≤ i → r[i - k]? = some oi → (∀ (p q : Nat) (op oq : Oper), p < q → r[p]? = some op → r[q]? = some oq → ∀ d, op.dst = some d → oq.dst ≠ some d) →
      sel (listed.setIfInBounds i true) (upd vals i v) r k a = (sel listed vals r k a).put oi.dst v
  | [], k, a, _, ho, _ => by simp at ho
  | o :: r, k, a, hk, ho, hd => by
    simp only [sel]
    by_cases hki : k = i
    · subst hki
      simp at ho
      subst ho
      rw [set_getD hi, if_pos rfl, if_pos rfl, hun]
      simp only [upd, if_true, Bool.false_eq_true, if_false]
      rw [sel_congr (listed' := listed) (vals' := vals) r (k + 1) _ (fun j hj => ⟨by rw [set_getD hi, if_neg (by omega)], by simp [upd]; omega⟩)]
      refine sel_put r (k + 1) a (fun o' ho' d hd' => ?_)
      obtain ⟨q, hq⟩ := List.getElem?_of_mem ho'
      exact hd 0 (q + 1) o o' (by omega) (by simp) (by simpa using hq) d hd'
    · rw [set_getD hi, if_neg hki]
      have hv : upd vals i v k = vals k := by simp [upd, hki]
      rw [hv]
      refine sel_set hi hun r (k + 1) _ (by omega) (by rw [show i - k = (i - (k + 1)) + 1 from by omega] at ho; simpa using ho) (fun p q op oq hpq hp hq => hd (p + 1) (q + 1) op oq (by omega) (by simpa using hp) (by simpa using hq))

theorem all_eq {listed : Array Bool} {vals : Nat → Value} : ∀ (r : List Oper) (k : Nat) (a : Act), (∀ (p q : Nat) (op oq : Oper), p < q → r[p]? = some op → r[q]? = some oq → ∀ d, op.dst = some d → oq.dst ≠ some d) →
    all vals r k a = uns listed vals r k (sel listed vals r k a)
  | [], _, _, _ => rfl
  | o :: r, k, a, hd => by
    have hd' : ∀ (p q : Nat) (op oq : Oper), p < q → r[p]? = some op → r[q]? = some oq → ∀ d, op.dst = some d → oq.dst ≠ some d := fun p q op oq hpq hp hq => hd (p + 1) (q + 1) op oq (by omega) (by simpa using hp) (by simpa using hq)
    simp only [all, sel, uns]
    rw [all_eq (listed := listed) r (k + 1) _ hd']
    split
    · rfl
    · rw [sel_put r (k + 1) a (fun o' ho' d hd2 => by
        obtain ⟨q, hq⟩ := List.getElem?_of_mem ho'
        exact hd 0 (q + 1) o o' (by omega) (by simp) (by simpa using hq) d hd2)]

theorem uns_same {ops : Array Oper} {listed : Array Bool} {vals : Nat → Value} {x : Oper} (hs : ∀ cs b, x.op ≠ .select cs b) : ∀ (r : List Oper) (k : Nat) (a : Act),
    (∀ j o, r[j]? = some o → listed.getD (k + j) false = false → ∀ d, o.dst = some d → d ∉ x.looksAt ops) →
    execOp (uns listed vals r k a).eval x = execOp a.eval x ∧ Region.wanted x (yielded ops (uns listed vals r k a).tmps) = Region.wanted x (yielded ops a.tmps)
  | [], _, _, _ => ⟨rfl, rfl⟩
  | o :: r, k, a, h => by
    have h' : ∀ j o', r[j]? = some o' → listed.getD (k + 1 + j) false = false → ∀ d, o'.dst = some d → d ∉ x.looksAt ops := fun j o' hj hl => h (j + 1) o' (by simpa using hj) (by rw [show k + (j + 1) = k + 1 + j from by omega]; exact hl)
    simp only [uns]
    split
    · exact uns_same hs r (k + 1) a h'
    · rename_i hun
      have hl := h 0 o (by simp) (by simpa using hun)
      have := uns_same (vals := vals) hs r (k + 1) (a.put o.dst (vals k)) h'
      exact ⟨this.1.trans (execOp_put x hs a o.dst (vals k) hl), this.2.trans (wanted_put x a o.dst (vals k) hl)⟩

/-- what comes of an operation: a value, in a world -/
def YieldsAt (P : Program) (R : Value → World → Prop) : Result Next → Prop
  | .ok (.value v) w => R v w
  | .ok .skip w => R undef w
  | .ok (.enter f args) w => Calls P f args w fun e w' => ∃ v, e = .returned v ∧ R v w'
  | _ => False

/-- .. closed to the walk -/
structure Yields (P : Program) (R : Value → World → Prop) (r : Result Next) : Prop where
  out : YieldsAt P R r

theorem wp_of_yields {P : Program} {o : Oper} {a : Act} {w : World} {K : Act → World → Prop} {Q : Exit → Act → World → Prop} {R : Value → World → Prop} (h : Yields P R ((execOp a.eval o).run P w))
    (hK : ∀ v w', R v w' → K (a.put o.dst v) w') : o.wp P a w K Q := by
  obtain ⟨h⟩ := h
  unfold Oper.wp
  generalize (execOp a.eval o).run P w = r at *
  cases r with
  | ok n w' =>
    cases n <;> simp only [YieldsAt] at h <;> simp only [Oper.upon]
    case value u => exact hK _ _ h
    case skip => exact hK _ _ h
    case enter f args => exact h.mono fun e w'' ⟨v, he, hv⟩ => by subst he; exact hK _ _ hv
  | halt x w' => simp only [YieldsAt] at h

theorem yields_same {P : Program} {R : Value → World → Prop} {r : Result Next} (c : Value) (w : World) (h : r = .ok (.value c) w) (hR : R c w) : Yields P R r := by rw [h]; exact ⟨hR⟩
theorem yields_call {P : Program} {R : Value → World → Prop} {r : Result Next} (f : FuncId) (args : Array Value) (w : World) (h : r = .ok (.enter f args) w) (hR : Calls P f args w fun e w' => ∃ v, e = .returned v ∧ R v w') : Yields P R r := by rw [h]; exact ⟨hR⟩
theorem wanted_none {o : Oper} {f : Nat → Option Bool} (h : o.guard = none) : Region.wanted o f = true := by simp [Region.wanted, h]
section
variable {P : Program} {l : List Oper} {m : Nat} {Q : Exit → Act → World → Prop} {a0 : Act} {w0 : World} {V : Nat → World → List Value → Value → Prop}

def Inv (P : Program) (l : List Oper) (m : Nat) (Q : Exit → Act → World → Prop) (a0 : Act) (w0 : World) (V : Nat → World → List Value → Value → Prop) (listed : Array Bool) (a : Act) (w : World) : Prop :=
  listed.size = l.length ∧
  ((∃ vals : Nat → Value, Ext w0 w ∧ (∀ j, m ≤ j → listed.getD j false = false) ∧ (∀ i, listed.getD i false = true → ∀ j ∈ deps l i, listed.getD j false = true) ∧
      (∀ i, i < m → listed.getD i false = true → V i w ((deps l i).map vals) (vals i)) ∧ a = sel listed vals (l.take m) 0 a0) ∨
   (∃ k, m ≤ k ∧ k ≤ l.length ∧ (∀ j, j < l.length → (listed.getD j false = true ↔ j < k)) ∧ wpList P l.toArray Q (l.drop k) a w))

theorem ok_parts (hB : monoB l m = true) {i : Nat} {o : Oper} (ho : l[i]? = some o) :
    (∀ j ∈ deps l i, j < i) ∧ (∀ cs b, o.op ≠ .select cs b) ∧ (i < m → ∀ j oj, j < m → l[j]? = some oj → j ∉ deps l i → ∀ d, oj.dst = some d → d ∉ o.looksAt l.toArray) ∧
      (i < m → ∀ j oj, j < m → j ≠ i → l[j]? = some oj → ∀ d, oj.dst = some d → o.dst ≠ some d) ∧ (m ≤ i → ∀ j, j < i → nearB l i j = true) := by
  have hi : i < l.length := by
    rcases Nat.lt_or_ge i l.length with h | h
    · exact h
    · rw [List.getElem?_eq_none h] at ho; cases ho
  unfold monoB at hB
  simp only [Bool.and_eq_true, List.all_eq_true, List.mem_range] at hB
  have h := hB.2 i hi
  unfold okAt at h
  rw [ho] at h
  simp only [Bool.and_eq_true, Bool.or_eq_true, List.all_eq_true, List.mem_range, decide_eq_true_eq, Bool.not_eq_true', decide_eq_false_iff_not] at h
  obtain ⟨⟨⟨⟨h1, h2⟩, h3⟩, h4⟩, h5⟩ := h
  refine ⟨h1, fun cs b e => by rw [e] at h2; simp [isSelect] at h2, fun him j oj hj hoj hnd d hd => ?_, fun him j oj hj hji hoj d hd e => ?_, fun him j hj => ?_⟩
  · rcases h3 with h3 | h3
    · omega
    · have := h3 j hj
      rw [hoj] at this
      simp only [Option.bind_some, hd] at this
      rcases this with h | h
      · exact absurd (by simpa using h) hnd
      · simpa using h
  · rcases h4 with h4 | h4
    · omega
    · have := h4 j hj
      rw [hoj] at this
      simp only [Option.bind_some, hd] at this
      rcases this with h | h
      · simp at h; exact hji h
      · rw [e] at h; simp at h
  · rcases h5 with h5 | h5
    · omega
    · exact h5 j hj

theorem deps_lt (hB : monoB l m = true) {i j : Nat} (hj : j ∈ deps l i) : j < i := by
  cases ho : l[i]? with
  | none => unfold deps at hj; rw [ho] at hj; cases hj
  | some o => exact (ok_parts hB ho).1 j hj
theorem near_listed {listed : Array Bool} (hdc : ∀ i, listed.getD i false = true → ∀ j ∈ deps l i, listed.getD j false = true) {i j : Nat} (hdl : ∀ j ∈ deps l i, listed.getD j false = true) (h : nearB l i j = true) : listed.getD j false = true := by
  rcases near_cases h with h | ⟨k, hk, h | ⟨q, hq, h⟩⟩
  · exact hdl j h
  · exact hdc k (hdl k hk) j h
  · exact hdc q (hdc k (hdl k hk) q hq) j h
theorem near_tail (hB : monoB l m = true) {listed : Array Bool} {i k : Nat} (hk : k < l.length) (hi : i ≤ l.length) (hiff : ∀ j, j < l.length → (listed.getD j false = true ↔ j < k)) (hdl : ∀ j ∈ deps l i, listed.getD j false = true) (h : nearB l i k = true) : False := by
  have hlt : ∀ j, j ∈ deps l i → j < k := fun j hj => (hiff j (by have := deps_lt hB hj; omega)).1 (hdl j hj)
  rcases near_cases h with h | ⟨k', hk', h | ⟨q, hq, h⟩⟩
  · exact absurd (hlt k h) (by omega)
  · have := hlt k' hk'; have := deps_lt hB h; omega
  · have := hlt k' hk'; have := deps_lt hB hq; have := deps_lt hB h; omega

theorem distinct (hB : monoB l m = true) : ∀ (p q : Nat) (op oq : Oper), p < q → (l.take m)[p]? = some op → (l.take m)[q]? = some oq → ∀ d, op.dst = some d → oq.dst ≠ some d := by
  intro p q op oq hpq hp hq d hd
  rw [List.getElem?_take] at hp hq
  split at hp <;> rename_i hpm
  · split at hq <;> rename_i hqm
    · exact (ok_parts hB hq).2.2.2.1 hqm p op hpm (by omega) hp d hd
    · cases hq
  · cases hp

theorem deps_mem {i : Nat} {o : Oper} (ho : l[i]? = some o) {j : Nat} (hj : j ∈ deps l i) : ∃ e ∈ o.after, Region.binds .any e = true ∧ e.on = j := by
  unfold deps at hj
  rw [ho] at hj
  simp only [List.mem_map, List.mem_filter, Array.mem_toList_iff] at hj
  obtain ⟨e, ⟨h1, h2⟩, h3⟩ := hj
  exact ⟨e, h1, h2, h3⟩

theorem clo_listed {listed : Array Bool} (hdc : ∀ i, listed.getD i false = true → ∀ j ∈ deps l i, listed.getD j false = true) : ∀ (n i : Nat), (∀ j ∈ deps l i, listed.getD j false = true) → ∀ j ∈ clo l n i, listed.getD j false = true
  | 0, _, _, j, hj => by simp [clo] at hj
  | n + 1, i, h, j, hj => by
    simp only [clo, List.mem_append, List.mem_flatMap] at hj
    rcases hj with hj | ⟨k, hk, hj⟩
    · exact h j hj
    · exact clo_listed hdc n k (hdc k (h k hk)) j hj

theorem sel_all {listed : Array Bool} {vals : Nat → Value} : ∀ (r : List Oper) (k : Nat) (a : Act), (∀ j, k ≤ j → j < k + r.length → listed.getD j false = true) → sel listed vals r k a = all vals r k a
  | [], _, _, _ => rfl
  | o :: r, k, a, h => by
    simp only [sel, all]
    rw [if_pos (h k (Nat.le_refl _) (by simp))]
    exact sel_all r (k + 1) _ (fun j h1 h2 => h j (by omega) (by simp; omega))

theorem all_listed (hB : monoB l m = true) {listed : Array Bool} (hsz : listed.size = l.length) (hr : Region.ready .any l.toArray listed = []) : ∀ i, i < l.length → listed.getD i false = true := by
  intro i
  induction i using Nat.strongRecOn with
  | _ i ih =>
    intro hi
    cases hl : listed.getD i false with
    | true => rfl
    | false =>
      have ho : l[i]? = some l[i] := List.getElem?_eq_getElem hi
      have hm : i ∈ Region.ready .any l.toArray listed := by
        rw [mem_ready]
        refine ⟨?_, l[i], by simp, fun e he hb => ?_⟩
        · rw [← hl]; simp [show i < listed.size by omega]
        · have hd : e.on ∈ deps l i := by
            unfold deps
            rw [ho]
            simp only [List.mem_map, List.mem_filter, Array.mem_toList_iff]
            exact ⟨e, ⟨he, hb⟩, rfl⟩
          have := (ok_parts hB ho).1 _ hd
          exact ih _ this (by omega)
      rw [hr] at hm
      cases hm

theorem wpOp_list {o : Oper} {i : Nat} {rest : List Oper} {a : Act} {w : World} (ho : l[i]? = some o) (h : wpList P l.toArray Q (o :: rest) a w) : wpOp P l.toArray Q i (wpList P l.toArray Q rest) a w := by
  unfold wpOp
  have : l.toArray[i]? = some o := by simpa using ho
  rw [this]
  exact h

theorem step (hB : monoB l m = true) (hst : ∀ i w w' d v, V i w d v → Ext w w' → V i w' d v)
    (hop : ∀ i o, i < m → l[i]? = some o → ∀ (vals : Nat → Value) (w : World), Ext w0 w → (∀ j, (deps l i).contains j = true → V j w ((deps l j).map vals) (vals j)) →
      if Region.wanted o (yielded l.toArray (all vals (l.take m) 0 a0).tmps) = true
      then Yields P (fun v w' => Ext w w' ∧ V i w' ((deps l i).map vals) v) ((execOp (all vals (l.take m) 0 a0).eval o).run P w)
      else V i w ((deps l i).map vals) undef)
    (hend : ∀ (vals : Nat → Value) (w : World), Ext w0 w → (∀ j, j < m → V j w ((deps l j).map vals) (vals j)) → wpList P l.toArray Q (l.drop m) (all vals (l.take m) 0 a0) w)
    (listed : Array Bool) (a : Act) (w : World) (i : Nat) (hI : Inv P l m Q a0 w0 V listed a w) (hi : i ∈ Region.ready .any l.toArray listed) :
    wpOp P l.toArray Q i (Inv P l m Q a0 w0 V (listed.setIfInBounds i true)) a w := by
  obtain ⟨hsz, hI⟩ := hI
  obtain ⟨hun, o, ho', hall⟩ := mem_ready.1 hi
  have ho : l[i]? = some o := by simpa using ho'
  have hil : i < l.length := by
    rcases Nat.lt_or_ge i l.length with h | h
    · exact h
    · rw [List.getElem?_eq_none h] at ho; cases ho
  have hsi : i < listed.size := by omega
  have hunf : listed.getD i false = false := by
    rw [← hun]; simp [hsi]
  obtain ⟨k1, k2, k3, k4, k5⟩ := ok_parts hB ho
  have hdl : ∀ j ∈ deps l i, listed.getD j false = true := fun j hj => by
    obtain ⟨e, he, hb, rfl⟩ := deps_mem ho hj
    exact hall e he hb
  have hml : m ≤ l.length := by
    unfold monoB at hB
    simp only [Bool.and_eq_true, decide_eq_true_eq] at hB
    exact hB.1
  have hdrop : ∀ k, l[k]? = some o → l.drop k = o :: l.drop (k + 1) := fun k hk => by
    have hkl : k < l.length := by
      rcases Nat.lt_or_ge k l.length with h | h
      · exact h
      · rw [List.getElem?_eq_none h] at hk; cases hk
    rw [List.drop_eq_getElem_cons hkl]
    rw [List.getElem?_eq_getElem hkl] at hk
    cases hk; rfl
  rcases hI with ⟨vals, hE, htail, hdc, hV, ha⟩ | ⟨k, hmk, hkl, hiff, hw⟩
  · rcases Nat.lt_or_ge i m with him | him
    · have hcl := clo_listed hdc l.length i hdl
      have hjm : ∀ j, listed.getD j false = true → j < m := fun j hj => by
        rcases Nat.lt_or_ge j m with h | h
        · exact h
        · rw [htail j h] at hj; cases hj
      have hob := hop i o him ho vals w hE (fun j hj => hV j (hjm j (hdl j (by simpa using hj))) (hdl j (by simpa using hj)))
      have hsame := uns_same (ops := l.toArray) (listed := listed) (vals := vals) (x := o) k2 (l.take m) 0 a (fun j oj hj hlj d hd => by
        rw [List.getElem?_take] at hj
        split at hj
        · rename_i hjm'
          exact k3 him j oj hjm' hj (fun hmem => by have := hdl j hmem; rw [Nat.zero_add] at hlj; rw [hlj] at this; cases this) d hd
        · cases hj)
      rw [ha, ← all_eq (l.take m) 0 a0 (distinct hB)] at hsame
      rw [hsame.2, hsame.1, ← ha] at hob
      have hnew : ∀ v w', Ext w w' → V i w' ((deps l i).map vals) v → Inv P l m Q a0 w0 V (listed.setIfInBounds i true) (a.put o.dst v) w' := by
        intro v w' hE' hVi
        refine ⟨by simpa using hsz, .inl ⟨upd vals i v, hE.trans hE', fun j hj => ?_, fun i' hi' j hj => ?_, fun i' him' hi' => ?_, ?_⟩⟩
        · rw [set_getD hsi, if_neg (by omega)]; exact htail j hj
        · rw [set_getD hsi] at hi' ⊢
          by_cases e : i' = i
          · subst e
            split
            · rfl
            · exact hdl j hj
          · rw [if_neg e] at hi'
            split
            · rfl
            · exact hdc i' hi' j hj
        · rw [set_getD hsi] at hi'
          by_cases e : i' = i
          · subst e
            have : (deps l i').map (upd vals i' v) = (deps l i').map vals := List.map_congr_left fun j hj => by
              have := k1 j hj
              simp [upd]; omega
            rw [this]
            simpa [upd] using hVi
          · rw [if_neg e] at hi'
            have : (deps l i').map (upd vals i v) = (deps l i').map vals := List.map_congr_left fun j hj => by
              have hjl := hdc i' hi' j hj
              have : j ≠ i := fun h => by subst h; rw [hunf] at hjl; cases hjl
              simp [upd, this]
            rw [this]
            have h2 : upd vals i v i' = vals i' := by simp [upd, e]
            rw [h2]
            exact hst _ _ _ _ _ (hV i' him' hi') hE'
        · rw [ha]
          exact (sel_set hsi hunf (l.take m) 0 a0 (Nat.zero_le _) (by rw [Nat.sub_zero, List.getElem?_take, if_pos him]; exact ho) (distinct hB)).symm
      unfold wpOp
      simp only [ho']
      by_cases hwant : Region.wanted o (yielded l.toArray a.tmps) = true
      · rw [if_pos hwant] at hob ⊢
        exact .inl (wp_of_yields hob (fun v w' h => hnew v w' h.1 h.2))
      · rw [if_neg hwant] at hob ⊢
        exact hnew undef w (Ext.refl _) hob
    · have hmi : i = m := by
        rcases Nat.lt_or_ge m i with h | h
        · have := near_listed hdc hdl (k5 him m h)
          rw [htail m (Nat.le_refl _)] at this; cases this
        · omega
      subst hmi
      have hpre : ∀ j, j < i → listed.getD j false = true := fun j hj => near_listed hdc hdl (k5 him j hj)
      have hall' : a = all vals (l.take i) 0 a0 := by
        rw [ha]
        exact sel_all _ _ _ (fun j _ hj => hpre j (by simp at hj; omega))
      have hw := hend vals w hE (fun j hj => hV j hj (hpre j hj))
      rw [← hall', hdrop i ho] at hw
      refine wpOp_mono (fun a' w' h => ?_) (wpOp_list ho hw)
      refine ⟨by simpa using hsz, .inr ⟨i + 1, by omega, by omega, fun j hj => ?_, h⟩⟩
      rw [set_getD hsi]
      by_cases e : j = i
      · subst e; simp
      · rw [if_neg e]
        constructor
        · intro h
          rcases Nat.lt_or_ge j i with h' | h'
          · omega
          · rw [htail j h'] at h; cases h
        · intro h; exact hpre j (by omega)
  · have hki : k = i := by
      rcases Nat.lt_or_ge i k with h | h
      · have := (hiff i hil).2 h
        rw [hunf] at this; cases this
      · rcases Nat.lt_or_ge k i with h' | h'
        · exact (near_tail hB (by omega) (by omega) hiff hdl (k5 (by omega) k h')).elim
        · omega
    subst hki
    rw [hdrop k ho] at hw
    refine wpOp_mono (fun a' w' h => ?_) (wpOp_list ho hw)
    refine ⟨by simpa using hsz, .inr ⟨k + 1, by omega, by omega, fun j hj => ?_, h⟩⟩
    rw [set_getD hsi]
    by_cases e : j = k
    · subst e; simp
    · rw [if_neg e, hiff j hj]; omega

def count (listed : Array Bool) : Nat := (listed.toList.filter (fun b => !b)).length

theorem count_set {listed : Array Bool} {i : Nat} (hi : i < listed.size) (hun : listed.getD i true = false) : count (listed.setIfInBounds i true) + 1 = count listed := by
  have h : ∀ (xs : List Bool) (i : Nat), xs[i]? = some false → ((xs.set i true).filter (fun b => !b)).length + 1 = (xs.filter (fun b => !b)).length := by
    intro xs
    induction xs with
    | nil => intro i h; simp at h
    | cons b r ih =>
      intro i h
      cases i with
      | zero => simp at h; subst h; simp
      | succ i =>
        have := ih i (by simpa using h)
        cases b <;> simp <;> simpa using this
  unfold count
  rw [Array.toList_setIfInBounds]
  refine h _ _ ?_
  have : listed[i]? = some listed[i] := Array.getElem?_eq_getElem hi
  rw [Array.getElem?_toList, this]
  have e : listed.getD i true = listed[i] := by simp [Array.getD, hi]
  rw [e] at hun
  rw [hun]

theorem any_of_inv (I : Array Bool → Act → World → Prop) (hsz : ∀ listed a w, I listed a w → listed.size = l.length)
    (hstep : ∀ listed a w i, I listed a w → i ∈ Region.ready .any l.toArray listed → wpOp P l.toArray Q i (I (listed.setIfInBounds i true)) a w)
    (hend : ∀ listed a w, I listed a w → Region.ready .any l.toArray listed = [] → Q .normal a w) :
    ∀ (fuel : Nat) (listed : Array Bool) (a : Act) (w : World), count listed ≤ fuel → I listed a w → wpAny P .any l.toArray Q fuel listed a w
  | 0, listed, a, w, hc, hI => by
    have hr : Region.ready .any l.toArray listed = [] := by
      cases h : Region.ready .any l.toArray listed with
      | nil => rfl
      | cons i r =>
        have hi : i ∈ Region.ready .any l.toArray listed := by rw [h]; simp
        obtain ⟨hun, o, ho, _⟩ := mem_ready.1 hi
        have hil : i < l.toArray.size := (Array.getElem?_eq_some_iff.1 ho).1
        have := count_set (listed := listed) (i := i) (by rw [hsz _ _ _ hI]; simpa using hil) hun
        omega
    exact ⟨hr, hend _ _ _ hI hr⟩
  | fuel + 1, listed, a, w, hc, hI => by
    refine ⟨hend _ _ _ hI, fun i hi => wpOp_mono (fun a' w' h => ?_) (hstep _ _ _ _ hI hi)⟩
    obtain ⟨hun, o, ho, _⟩ := mem_ready.1 hi
    have hil : i < l.toArray.size := (Array.getElem?_eq_some_iff.1 ho).1
    have := count_set (listed := listed) (i := i) (by rw [hsz _ _ _ hI]; simpa using hil) hun
    exact any_of_inv I hsz hstep hend fuel _ a' w' (by omega) h

/-- a region whose order is open: what each operation leaves is said once -/
theorem wp_region_mono {id : Nat} (m : Nat) (V : Nat → World → List Value → Value → Prop) (hm : P.follows .mixedOrders = true) (hB : monoB l m = true)
    (hst : ∀ i w w' d v, V i w d v → Ext w w' → V i w' d v)
    (hop : ∀ i o, i < m → l[i]? = some o → ∀ (vals : Nat → Value) (w : World), Ext w0 w → (∀ j, (deps l i).contains j = true → V j w ((deps l j).map vals) (vals j)) →
      if Region.wanted o (yielded l.toArray (all vals (l.take m) 0 a0).tmps) = true
      then Yields P (fun v w' => Ext w w' ∧ V i w' ((deps l i).map vals) v) ((execOp (all vals (l.take m) 0 a0).eval o).run P w)
      else V i w ((deps l i).map vals) undef)
    (hend : ∀ (vals : Nat → Value) (w : World), Ext w0 w → (∀ j, j < m → V j w ((deps l j).map vals) (vals j)) → wpList P l.toArray Q (l.drop m) (all vals (l.take m) 0 a0) w) :
    (Code.region id l.toArray true).wp P Q a0 w0 := by
  have hml : m ≤ l.length := by
    unfold monoB at hB
    simp only [Bool.and_eq_true, decide_eq_true_eq] at hB
    exact hB.1
  refine wp_region_any hm (any_of_inv (Inv P l m Q a0 w0 V) (fun _ _ _ h => h.1) (step hB hst hop hend) (fun listed a w hI hr => ?_) _ _ _ _ ?_ ?_)
  · obtain ⟨hsz, hI⟩ := hI
    have hal := all_listed hB hsz hr
    rcases hI with ⟨vals, hE, htail, hdc, hV, ha⟩ | ⟨k, hmk, hkl, hiff, hw⟩
    · have hm' : m = l.length := by
        rcases Nat.lt_or_ge m l.length with h | h
        · have := hal m h
          rw [htail m (Nat.le_refl _)] at this; cases this
        · omega
      have hw := hend vals w hE (fun j hj => hV j hj (hal j (by omega)))
      rw [ha, sel_all _ _ _ (fun j _ hj => hal j (by simp at hj; omega))]
      rw [hm', List.drop_length] at hw
      rw [hm']
      exact hw
    · have hk : k = l.length := by
        rcases Nat.lt_or_ge k l.length with h | h
        · have := (hiff k h).1 (hal k h)
          omega
        · omega
      subst hk
      rw [List.drop_length] at hw
      exact hw
  · unfold count
    exact Nat.le_trans (List.length_filter_le (fun b => !b) (Array.replicate l.toArray.size false).toList) (by simp)
  · refine ⟨by simp, .inl ⟨fun _ => undef, (Ext.refl w0).drew, fun j _ => ?_, fun i hi => ?_, fun i _ hi => ?_, ?_⟩⟩
    · by_cases h : j < l.length <;> simp [h]
    · exfalso
      by_cases h : i < l.length <;> simp [h] at hi
    · exfalso
      by_cases h : i < l.length <;> simp [h] at hi
    · have : ∀ (r : List Oper) (k : Nat) (a : Act), sel (Array.replicate l.toArray.size false) (fun _ => undef) r k a = a := by
        intro r
        induction r with
        | nil => intro k a; rfl
        | cons o r ih =>
          intro k a
          simp only [sel]
          rw [if_neg (by by_cases h : k < l.length <;> simp [h])]
          exact ih _ _
      exact (this _ _ _).symm
end
end Go.Proofs.YtfkidgpjejcblaaDoor.Mono

/- Appends to a new empty list, in a region whose order is open (for wp_region_mono): lists of any kind. -/
namespace Go.Proofs.YtfkidgpjejcblaaDoor
open Go.RowKit
section
variable {α : Type} (K : Kd α)
/-- an empty list of the call's own -/
def NewAt (B : Nat) (w : World) (v : Value) : Prop := ∃ x, v = .slice (some ⟨x, 0, none⟩) 0 0 ∧ B ≤ x ∧ w.heap[x]? = some (.cells #[] K.e (0, 0))
/-- a list of the call's own -/
def OwAt (B : Nat) (w : World) (v : Value) (xs : List α) : Prop := ∃ A c, v = .slice A xs.length c ∧ Ow K B w (.slice A xs.length c) xs
variable {K}
theorem block_keep {w w' : World} {x : Nat} {o : Obj} (h : w.heap[x]? = some o) (hE : Ext w w') : w'.heap[x]? = some o := by
  have hlt : x < w.heap.size := by
    rcases Nat.lt_or_ge x w.heap.size with h' | h'
    · exact h'
    · rw [Array.getElem?_eq_none h'] at h; cases h
  exact (Below.block hE x hlt).trans h
theorem NewAt.ext {B : Nat} {w w' : World} {v : Value} (h : NewAt K B w v) (hE : Ext w w') : NewAt K B w' v := by
  obtain ⟨x, rfl, hB, hx⟩ := h
  exact ⟨x, rfl, hB, block_keep hx hE⟩
theorem NewAt.made (w : World) {B : Nat} (hB : B ≤ w.heap.size) : NewAt K B (w.alloc (.cells #[] K.e)) (.slice (some ⟨w.heap.size, 0, none⟩) 0 0) := ⟨w.heap.size, rfl, hB, heap_alloc_new w _⟩
theorem OwAt.ext {B : Nat} {w w' : World} {v : Value} {xs : List α} (h : OwAt K B w v xs) (hE : Ext w w') : OwAt K B w' v xs := by
  obtain ⟨A, c, rfl, h⟩ := h
  exact ⟨A, c, rfl, h.ext hE⟩
theorem NewAt.ow {B : Nat} {w : World} {v : Value} (h : NewAt K B w v) : OwAt K B w v [] := by
  obtain ⟨x, rfl, hB, hx⟩ := h
  exact ⟨_, 0, rfl, ⟨by simp [Kd.flat], .inr ⟨x, 0, #[], rfl, hB, hx, Nat.le_refl _, by simp [maxLen], by simp, by simp [Kd.flat]⟩⟩, by simp⟩

end
end Go.Proofs.YtfkidgpjejcblaaDoor

/- Plain words of lists by a rule. No program in it. -/
namespace Go.Proofs.YtfkidgpjejcblaaDoor.Plain
abbrev kept (keep : List Bool) (i : Nat) : Bool := keep.getD i false
end Go.Proofs.YtfkidgpjejcblaaDoor.Plain

/- Numbers, words, bools as lists (no program's own function but the document's Ints, Words). -/
namespace Go.Proofs.YtfkidgpjejcblaaDoor
open Go.BigFrame
open Go.RowKit Go.Proofs.YtfkidgpjejcblaaDoor.Plain

/-- numbers of tasks, as they lie -/
def zs (O : List Nat) : List Int := O.map fun k : Nat => (k : Int)
theorem zs_len (O : List Nat) : (zs O).length = O.length := by unfold zs; simp
theorem zs_getD (O : List Nat) (j : Nat) : (zs O).getD j 0 = ((O.getD j 0 : Nat) : Int) := by
  unfold zs
  rw [List.getD_eq_getElem?_getD, List.getD_eq_getElem?_getD, List.getElem?_map]
  cases O[j]? <;> rfl
theorem in64_nat (k : Nat) (h : k ≤ 9223372036854775807) : in64 (k : Int) := by unfold in64; omega
theorem sameB_refl (xs : List Int) : sameB xs xs = true := by unfold sameB; simp
instance (x : Int) : Decidable (in64 x) := by unfold in64; exact inferInstance
/-- words -/
def kU32 : Kd Int where
  t := 23
  e := 38
  n := 1
  cells := fun x => [.int .u32 x]
  ok := fun x => 0 ≤ x ∧ x ≤ 4294967295
  d := 0
  z := .int .u32 0
  bytes := 4
  ht := Tryd.underlying23
  info := by kernel_rfl
  hzs := rfl
  pos := by decide
  small := by decide
  len := fun _ => rfl
  one := fun a u hu => by simp at hu; subst hu; rfl
theorem Rd.u32s {w : World} {A : Option Addr} {n c : Nat} {xs : List Int} (h : Rd kU32 w (.slice A n c) xs) (hl : 0 < xs.length) : ∃ b off, A = some ⟨b, off, none⟩ ∧ ∀ j, j < xs.length → w.cell? ⟨b, off + j, none⟩ = some (.int .u32 (xs.getD j 0)) := by
  obtain ⟨b, off, rfl, hcc⟩ := h.cells hl
  exact ⟨b, off, rfl, fun j hj => by have := hcc j hj 0 _ rfl; simpa [kU32] using this⟩
/-- a cell of a list of 32 bits -/
theorem u32_at {w : World} {L : Option Addr} {lc : Nat} {l : List Nat} (h : Rd kU32 w (.slice L l.length lc) (zs l)) (k : Nat) (hk : k < l.length) :
    ∃ bx ox, L = some ⟨bx, ox, none⟩ ∧ w.cell? ⟨bx, ox + k, none⟩ = some (.int .u32 (l.getD k 0 : Nat)) ∧ l.getD k 0 < 4294967296 := by
  obtain ⟨bx, ox, rfl, hcx⟩ := Rd.u32s h (by rw [zs_len]; omega)
  have z0 := hcx k (by rw [zs_len]; exact hk)
  have hok := h.okAt k (by rw [zs_len]; exact hk)
  rw [zs_getD] at z0
  have hok' : (0 : Int) ≤ ((l.getD k 0 : Nat) : Int) ∧ ((l.getD k 0 : Nat) : Int) ≤ 4294967295 := by rw [← zs_getD]; exact hok
  exact ⟨bx, ox, rfl, z0, by omega⟩
/-- a list of one's own stays, where one of another kind grows -/
theorem Ow.beside {α β : Type} {K : Kd α} {K' : Kd β} {B B' : Nat} {w w' : World} {v u : Value} {xs : List α} {ys : List β} (h : Ow K B w v xs) (h' : Ow K' B' w u ys) (hne : K.e ≠ K'.e) (hg : w.grownBy w' u.ownBlock) : Ow K B w' v xs :=
  h.kept hg (by
    cases hv : v.ownBlock with
    | none => exact .inl rfl
    | some k => exact .inr fun e => Ow.far hne h h' k hv e.symm)
theorem u32_list (w : World) (xs : List Nat) (p n : Nat) (cs : Array Value) (hcs : cs.toList = (zs xs).map (Value.int .u32)) (hn : xs.length = n) (hp : p = w.heap.size) (hm : n ≤ 1000) (hx : ∀ x ∈ xs, x < 4294967296) : Rd kU32 (w.alloc (.cells cs 38)) (.slice (some ⟨p, 0, none⟩) n n) (zs xs) :=
  Ow.rd (K := kU32) (B := 0) (Ow.lit (K := kU32) w (zs xs) cs (by rw [hcs]; simp [Kd.flat, kU32]; induction (zs xs) with | nil => rfl | cons a l ih => simp [ih]) (by rw [zs_len, hn]) hp (Nat.zero_le _) (by unfold maxLen; omega) (by
    intro z hz
    unfold zs at hz
    obtain ⟨x, h1, rfl⟩ := List.mem_map.1 hz
    have := hx x h1
    show (0 : Int) ≤ x ∧ (x : Int) ≤ 4294967295
    omega))
theorem one_at {w : World} {q : Nat} {x : Int} (h : w.heap[q]? = some (.cells #[.int .i64 x] 3)) (hx : in64 x) : Rd kInt w (.slice (some ⟨q, 0, none⟩) 1 1) [x] :=
  ⟨by simp [maxLen], by intro y hy; rw [List.mem_singleton] at hy; rw [hy]; exact hx, _, 1, rfl, Nat.le_refl _, fun _ => ⟨q, 0, rfl, fun j hj i u hu => by
    obtain rfl : j = 0 := by simp at hj; omega
    have hi : i = 0 := by
      rcases i with _ | i
      · rfl
      · simp [kInt] at hu
    subst hi
    have hu' : Value.int IntKind.i64 x = u := by simpa [kInt] using hu
    subst hu'
    exact (cell_of_row w q 0 _ _ _ h).trans rfl⟩⟩
theorem empty_at {α : Type} {K : Kd α} {B p : Nat} {w : World} (h : w.heap[p]? = some (.cells #[] K.e)) (hB : B ≤ p) : Ow K B w (.slice (some ⟨p, 0, none⟩) 0 0) [] :=
  ⟨⟨by simp [Kd.flat], .inr ⟨p, 0, #[], rfl, hB, h, Nat.le_refl _, by simp [maxLen], by simp, by simp [Kd.flat]⟩⟩, by simp⟩
theorem ints_e (v u : Value) (xs ys : List Int) (w : World) (h : Rd kInt w v xs) (h' : Rd kInt w u ys) :
    Calls Tryd.prog 11 #[v, u] w fun ed w' => ed = .returned (.bool (sameB xs ys)) ∧ Ext w w' :=
  (ints_any v u xs ys w (ints_of_rd h) (ints_of_rd h')).mono fun ed w' hh => ⟨hh.1, by obtain ⟨n, h9⟩ := hh.2; rw [h9]; exact (Ext.refl _).drewN _⟩
theorem flat_ints (xs : List Int) : kInt.flat xs = xs.map (Value.int .i64) := by
  induction xs with
  | nil => rfl
  | cons a l ih =>
    show [Value.int .i64 a] ++ kInt.flat l = _
    rw [ih]; rfl
theorem int_list (w : World) (xs : List Int) (p n : Nat) (cs : Array Value) (hcs : cs.toList = xs.map (Value.int .i64)) (hn : xs.length = n) (hp : p = w.heap.size) (hm : n ≤ 1000) (hx : ∀ x ∈ xs, in64 x) : Rd kInt (w.alloc (.cells cs 3)) (.slice (some ⟨p, 0, none⟩) n n) xs :=
  Ow.rd (K := kInt) (B := 0) (Ow.lit (K := kInt) w xs cs (by rw [hcs, flat_ints]) hn hp (Nat.zero_le _) (by unfold maxLen; omega) hx)
end Go.Proofs.YtfkidgpjejcblaaDoor

/- The library at integers: Clone, Grow, Concat of any number, Equal. Written by wip/mk_lwi.py. -/
namespace Go.Proofs.YtfkidgpjejcblaaDoor
open Go.BigFrame
open Go.RowKit Go.Proofs.YtfkidgpjejcblaaDoor.Plain

/-- a cell of a list of integers -/
theorem int_at9 {w : World} {L : Option Addr} {n lc : Nat} {l : List Int} (h : Rd kInt w (.slice L n lc) l) (k : Nat) (hk : k < l.length) :
    ∃ bx ox, L = some ⟨bx, ox, none⟩ ∧ w.cell? ⟨bx, ox + k, none⟩ = some (.int .i64 (l.getD k 0)) := by
  obtain ⟨bl, ol, rfl, hcl⟩ := (ints_of_rd h).cells (by omega)
  exact ⟨bl, ol, rfl, hcl k hk⟩
set_option maxHeartbeats 3200000 in
set_option maxRecDepth 100000 in
theorem cloneI (v : Value) (xs : List Int) (w : World) (h : Rd kInt w v xs) (hl : xs.length ≤ 1048576) :
    Calls Tryd.prog 21 #[v] w fun e w' => ∃ A c, e = .returned (.slice A xs.length c) ∧ Ow kInt w.heap.size w' (.slice A xs.length c) xs ∧ Ext w w' := by
  have hi := Lib.hid h
  obtain ⟨hm, hb, A, cap, rfl, hcap, hc⟩ := h
  have HC := Lib.hid hc
  clear hc hb hm
  have hnil := fun (w : World) (a : Option Addr) (n c : Nat) => Lib.run_eql_slice_nil w 22 3 a n c 0 0 Tryd.underlying22
  cases A with
  | none =>
    have h0 : xs = [] := by
      cases xs with
      | nil => rfl
      | cons a l => obtain ⟨b, off, h, _⟩ := HC.out (by simp); cases h
    subst h0
    go_enter Tryd.func21, Tryd.ntmps21
    go_wp2_with fail
    go_ret
    exact ⟨_, _, rfl, Ow.nil _ _, Ext.refl _⟩
  | some ad =>
    go_enter Tryd.func21, Tryd.ntmps21
    go_wp2_with (at_builtin; refine kInt.wpList_app (by rfl) _ _ (by rfl) (by rfl) w.heap.size _ [] (by rfl) (empty_at (heap_alloc_new _ _) (Nat.le_refl _)) _ xs (by rfl) (hi.out.ext ((Ext.refl w).alloc _)) (by simpa using hl) (by simp) ?_; intro u w1 hown hgrow hat1)
    go_ret
    obtain ⟨A1, c1, rfl, _⟩ := hown.slice
    refine ⟨A1, c1, by simp, by simpa using hown, ((Ext.refl w).alloc _).grown hgrow (fun k hk => ?_)⟩
    cases hk; exact Nat.le_refl _
set_option maxHeartbeats 3200000 in
set_option maxRecDepth 100000 in
theorem equalI (l1 l2 : List Int) (A1 A2 : Option Addr) (c1 c2 : Nat) (w : World) (h1 : Rd kInt w (.slice A1 l1.length c1) l1) (h2 : Rd kInt w (.slice A2 l2.length c2) l2) (hl : l1.length ≤ 1048576) :
    Calls Tryd.prog 31 #[.slice A1 l1.length c1, .slice A2 l2.length c2] w fun ed w' => ed = .returned (.bool (decide (l1 = l2))) ∧ Ext w w' := by
  have H1 := Lib.hid h1
  have H2 := Lib.hid h2
  have hl9 : (l1.length : Int) ≤ 1048576 := by omega
  clear h1 h2
  by_cases hlen : l1.length = l2.length
  · obtain ⟨n, hn⟩ : ∃ n, l1.length = n := ⟨_, rfl⟩
    have hn2 : l2.length = n := hlen ▸ hn
    have HN := Lib.hid (And.intro hn hn2)
    rw [hn] at hl9
    rw [hn, hn2]
    have hd0 : ((n : Int) != (n : Int)) = false := by simp
    have hd0N : (n != n) = false := by simp
    clear hlen hn hn2 hl
    go_enter Tryd.func31, Tryd.ntmps31
    go_wp2_with fail
    go_loopw [13] (fun v wr => ∃ k : Nat, v = .int .i64 k ∧ k ≤ n ∧ (∀ j, j < k → l1.getD j 0 = l2.getD j 0) ∧ Ext w wr) (fun v _ => n - (intOf v).toNat)
    case atStart => exact ⟨0, rfl, Nat.zero_le _, fun j hj => absurd hj (Nat.not_lt_zero _), Ext.refl _⟩
    case round =>
      obtain ⟨k, rfl, hk, hall, hX⟩ := hrel
      have HALL := Lib.hid hall
      have HX := Lib.hid hX
      have hk0 : (0 : Int) ≤ k := by omega
      clear hall hX
      by_cases hlt : k < n
      · have hlt' : (k : Int) < n := by omega
        have hd1 : decide (k < n) = true := decide_eq_true hlt
        obtain ⟨b1, o1, rfl, z1⟩ := int_at9 (H1.out.ext HX.out) k (by rw [HN.out.1]; exact hlt)
        obtain ⟨b2, o2, rfl, z2⟩ := int_at9 (H2.out.ext HX.out) k (by rw [HN.out.2]; exact hlt)
        obtain ⟨x, hx⟩ : ∃ x, l1.getD k 0 = x := ⟨_, rfl⟩
        obtain ⟨y, hy⟩ : ∃ y, l2.getD k 0 = y := ⟨_, rfl⟩
        change _ = some (Value.int .i64 (l1.getD k 0)) at z1
        change _ = some (Value.int .i64 (l2.getD k 0)) at z2
        rw [hx] at z1
        rw [hy] at z2
        have HXY := Lib.hid (And.intro hx hy)
        have lb1 : b1 < wr.heap.size := World.block_lt_of_cell? _ _ z1
        have lb2 : b2 < wr.heap.size := World.block_lt_of_cell? _ _ z2
        have KS := Lib.hid (fun w' (hE : Ext wr w') => And.intro (hE.cell z1) (hE.cell z2))
        clear hx hy z1 z2
        by_cases hxy : x = y
        · have HQ := Lib.hid hxy
          have hb : (x != x) = false := by simp
          subst hxy
          go_wp2_with fail
          refine wp_region_class (Ext wr) (by kernel_rfl) (by kernel_rfl) (Ext.refl _).drew ?_
          try simp only [List.append_eq, List.cons_append, List.nil_append]
          repeat (first
            | go_big_quiet_skip
            | (go_big_quiet_want
               first
               | (go_big_quiet_op; go_big_quiet_on)
               | (unfold Oper.quiet
                  apply Exists.intro
                  refine ⟨fun w' hC => ?_, ?_⟩
                  · (obtain ⟨k1, k2⟩ := KS.out w' hC
                     unfold Oper.quietAt
                     go_simp
                     first
                     | exact rfl)
                  go_simp
                  go_big_quiet_on)))
          refine wpQuiet_nil ?_
          intro w9 hC9
          go_wp2_with fail
          go_roundw
          case rel =>
            refine ⟨k + 1, by go_num, by omega, fun j hj => ?_, HX.out.trans hC9⟩
            rcases Nat.lt_or_ge j k with h9 | h9
            · exact HALL.out j h9
            · obtain rfl : j = k := by omega
              rw [HXY.out.1, HXY.out.2]
          case measure => first | (simp [intOf]; done) | (simp [intOf]; omega)
        · have hb1 : (x != y) = true := by simp [hxy]
          have HR : Hid (decide (l1 = l2) = false) := Lib.hid (decide_eq_false fun e => hxy (by rw [← HXY.out.1, ← HXY.out.2, e]))
          go_wp2_with fail
          refine wp_region_class (Ext wr) (by kernel_rfl) (by kernel_rfl) (Ext.refl _).drew ?_
          try simp only [List.append_eq, List.cons_append, List.nil_append]
          repeat (first
            | go_big_quiet_skip
            | (go_big_quiet_want
               first
               | (go_big_quiet_op; go_big_quiet_on)
               | (unfold Oper.quiet
                  apply Exists.intro
                  refine ⟨fun w' hC => ?_, ?_⟩
                  · (obtain ⟨k1, k2⟩ := KS.out w' hC
                     unfold Oper.quietAt
                     go_simp
                     first
                     | exact rfl)
                  go_simp
                  go_big_quiet_on)))
          refine wpQuiet_nil ?_
          intro w9 hC9
          go_wp2_with fail
          go_ret
          exact ⟨ret_bool HR.out.symm, HX.out.trans hC9⟩
      · obtain rfl : k = n := by omega
        have HR : Hid (decide (l1 = l2) = true) := Lib.hid (decide_eq_true (by
          apply List.ext_getElem (HN.out.1.trans HN.out.2.symm)
          intro j hj1 hj2
          have h9 := HALL.out j (by rw [← HN.out.1]; exact hj1)
          simp only [kept, List.getD_eq_getElem?_getD, List.getElem?_eq_getElem hj1, List.getElem?_eq_getElem hj2, Option.getD_some] at h9
          exact h9))
        go_wp2_with fail
        go_ret
        exact ⟨ret_bool HR.out.symm, HX.out⟩
  · have hd0 : ((l1.length : Int) != (l2.length : Int)) = true := by simp; omega
    have hd0N : (l1.length != l2.length) = true := by simp [hlen]
    have HR : Hid (decide (l1 = l2) = false) := Lib.hid (decide_eq_false fun e => hlen (by rw [e]))
    go_enter Tryd.func31, Tryd.ntmps31
    go_wp2_with fail
    go_ret
    exact ⟨ret_bool HR.out.symm, Ext.refl _⟩
end Go.Proofs.YtfkidgpjejcblaaDoor

/- Plain words of rings: turned, least, joined, cut, next. No program in it. -/
namespace Go.Proofs.YtfkidgpjejcblaaDoor.Plain
instance nodupDec : (l : List Int) → Decidable l.Nodup
  | [] => isTrue List.nodup_nil
  | a :: l => match nodupDec l with
    | isTrue h => if ha : a ∈ l then isFalse (fun h2 => (List.nodup_cons.1 h2).1 ha) else isTrue (List.nodup_cons.2 ⟨ha, h⟩)
    | isFalse h => isFalse (fun h2 => h (List.nodup_cons.1 h2).2)
def placeP (l : List Int) (x : Int) : Int := if x ∈ l then (l.idxOf x : Nat) else -1
def tokOk (x : Int) : Bool := decide (0 ≤ x) && decide (x ≤ 10000)
def rightL (l : List Int) : Bool := decide (l.length ≤ 1000) && l.all tokOk && decide l.Nodup
theorem rightL_iff (l : List Int) : rightL l = true ↔ l.length ≤ 1000 ∧ (∀ x ∈ l, 0 ≤ x ∧ x ≤ 10000) ∧ l.Nodup := by
  unfold rightL
  rw [Bool.and_eq_true, Bool.and_eq_true, decide_eq_true_eq, decide_eq_true_eq, List.all_eq_true]
  constructor
  · rintro ⟨⟨h1, h2⟩, h3⟩
    refine ⟨h1, fun x hx => ?_, h3⟩
    have := h2 x hx
    unfold tokOk at this
    rw [Bool.and_eq_true, decide_eq_true_eq, decide_eq_true_eq] at this; exact this
  · rintro ⟨h1, h2, h3⟩
    refine ⟨⟨h1, fun x hx => ?_⟩, h3⟩
    unfold tokOk
    rw [Bool.and_eq_true, decide_eq_true_eq, decide_eq_true_eq]; exact h2 x hx
def fromL (l : List Int) (x : Int) : List Int := l.drop (l.idxOf x) ++ l.take (l.idxOf x)
/-- all behind one, itself the last -/
def behind (l : List Int) (x : Int) : List Int := (fromL l x).drop 1 ++ [x]
theorem idx_split {u v : List Int} {x : Int} (h : x ∉ u) : (u ++ x :: v).idxOf x = u.length := by
  rw [List.idxOf_append, if_neg h, List.idxOf_cons_self]; omega
end Go.Proofs.YtfkidgpjejcblaaDoor.Plain

/- Plain words of rings: what is joined is cut out again, what is cut is put back, turned. No program in it. -/
namespace Go.Proofs.YtfkidgpjejcblaaDoor.Plain
end Go.Proofs.YtfkidgpjejcblaaDoor.Plain

/- The document's Place, Right, From, Plain (ref13). -/
namespace Go.Proofs.YtfkidgpjejcblaaDoor
open Go.BigFrame
open Go.RowKit Go.Proofs.YtfkidgpjejcblaaDoor.Plain

theorem Plain.ints_take {l : List Int} {j : Nat} (h : j < l.length) : l.take (j + 1) = l.take j ++ [l.getD j 0] := by
  rw [List.take_succ_eq_append_getElem h, List.getD_eq_getElem?_getD, List.getElem?_eq_getElem h]; rfl
theorem Plain.ints_mem {l : List Int} {j : Nat} (h : j < l.length) : l.getD j 0 ∈ l := by
  rw [List.getD_eq_getElem?_getD, List.getElem?_eq_getElem h]; exact List.getElem_mem h
theorem Plain.place_is {l : List Int} {x : Int} {j : Nat} (h : x ∉ l.take j) (hj : j < l.length) (e : l.getD j 0 = x) : placeP l x = (j : Int) ∧ l.idxOf x = j := by
  have hs : l = l.take j ++ x :: l.drop (j + 1) := by
    have h1 := ints_take hj
    rw [e] at h1
    conv => lhs; rw [← List.take_append_drop (j + 1) l, h1]
    simp
  have hi : l.idxOf x = j := by
    rw [hs, idx_split h, List.length_take]; omega
  have hm : x ∈ l := by rw [← e]; exact ints_mem hj
  exact ⟨by unfold placeP; rw [if_pos hm, hi], hi⟩
theorem Plain.place_no {l : List Int} {x : Int} (h : x ∉ l) : placeP l x = -1 := if_neg h
theorem Plain.place_iff (l : List Int) (x : Int) : (0 ≤ placeP l x) ↔ x ∈ l := by
  unfold placeP
  split
  · rename_i h; exact ⟨fun _ => h, fun _ => by omega⟩
  · rename_i h; exact ⟨fun h1 => by omega, fun h1 => absurd h1 h⟩
set_option maxHeartbeats 1600000 in
set_option maxRecDepth 100000 in
theorem rplace_any (l : List Int) (L : Option Addr) (lc : Nat) (x : Int) (w : World) (hL : Rd kInt w (.slice L l.length lc) l) :
    Calls Tryd.prog 35 #[.slice L l.length lc, .int .i64 x] w fun ed w' => ed = .returned (.int .i64 (placeP l x)) ∧ w = w' := by
  have HL := Lib.hid hL
  have hm := hL.len
  have hm' : (l.length : Int) ≤ 9223372036854775807 := by omega
  clear hL hm
  go_enter Tryd.func35, Tryd.ntmps35
  go_wp2_with fail
  go_loopw [5] (fun i wr => ∃ j : Nat, j ≤ l.length ∧ i = .int .i64 j ∧ x ∉ l.take j ∧ w = wr) (fun i _ => l.length - (intOf i).toNat)
  case atStart => exact ⟨0, Nat.zero_le _, rfl, by simp, rfl⟩
  case round =>
    obtain ⟨j, hj, rfl, hno, rfl⟩ := hrel
    have hj0 : (0 : Int) ≤ j := by omega
    by_cases hlt : j < l.length
    · have hlt' : (j : Int) < l.length := by omega
      obtain ⟨bl, ol, rfl, hcl⟩ := (ints_of_rd HL.out).cells (by omega)
      have z0 := hcl j hlt
      have htk := ints_take hlt
      have hpl := fun e => place_is hno hlt e
      obtain ⟨y, hy⟩ : ∃ y, l.getD j 0 = y := ⟨_, rfl⟩
      rw [hy] at z0 htk hpl
      by_cases he : y = x
      · have HR := Lib.hid (hpl he).1
        have e1 : (y == x) = true := by simp [he]
        clear hcl htk hpl hy he hno
        go_wp2_with fail
        go_ret
        exact ⟨ret_int HR.out.symm, rfl⟩
      · have e1 : (y == x) = false := by simp [he]
        have HNO : Hid (x ∉ l.take (j + 1)) := Lib.hid (by
          rw [htk, List.mem_append, List.mem_singleton]
          rintro (h | h)
          · exact hno h
          · exact he h.symm)
        clear hcl htk hpl hy he hno
        go_wp2_with fail
        go_roundw
        case rel => exact ⟨j + 1, by omega, by go_num, HNO.out, by first | rfl | trivial⟩
        case measure => simp [intOf]; omega
    · obtain rfl : j = l.length := by omega
      have HR : Hid (placeP l x = -1) := Lib.hid (place_no (by rw [List.take_length] at hno; exact hno))
      clear hno
      go_wp2_with fail
      go_ret
      exact ⟨ret_int HR.out.symm, rfl⟩
theorem rplace_to (l : List Int) (n : Nat) (L : Option Addr) (lc : Nat) (x : Int) (w : World) (hL : Rd kInt w (.slice L n lc) l) (hn : l.length = n) :
    Calls Tryd.prog 35 #[.slice L n lc, .int .i64 x] w fun ed w' => ed = .returned (.int .i64 (placeP l x)) ∧ w = w' := by
  subst hn; exact rplace_any l L lc x w hL

theorem Plain.right_out (l : List Int) (x : Int) (hx : x ∈ l) (h : x < 0 ∨ 10000 < x) : rightL l = false := by
  rw [← Bool.not_eq_true, rightL_iff]
  intro h9
  have := h9.2.1 x hx
  omega
theorem Plain.right_twice (l : List Int) (j : Nat) (x : Int) (h : l.take (j + 1) = l.take j ++ [x]) (hx : x ∈ l.take j) : rightL l = false := by
  rw [← Bool.not_eq_true, rightL_iff]
  intro h9
  have h1 := h9.2.2
  rw [← List.take_append_drop (j + 1) l, h, List.nodup_append] at h1
  have h2 := h1.1
  rw [List.nodup_append] at h2
  exact h2.2.2 x hx x (by simp) rfl
theorem Plain.ints_snoc (l : List Int) (x : Int) (h : l.Nodup) (hx : x ∉ l) : (l ++ [x]).Nodup := by
  rw [List.nodup_append]
  refine ⟨h, by simp, fun a ha b hb => ?_⟩
  rw [List.mem_singleton] at hb
  subst hb
  exact fun e => hx (e ▸ ha)
set_option maxHeartbeats 1600000 in
set_option maxRecDepth 100000 in
theorem rright13_any (l : List Int) (L : Option Addr) (lc : Nat) (w : World) (hL : Rd kInt w (.slice L l.length lc) l) :
    Calls Tryd.prog 23 #[.slice L l.length lc] w fun ed w' => ed = .returned (.bool (rightL l)) ∧ Ext w w' := by
  have HL := Lib.hid hL
  obtain ⟨_, _, hsl, hlc⟩ := hL.slice
  cases hsl
  clear hL
  by_cases hbig : 1000 < l.length
  · have HR : Hid (rightL l = false) := Lib.hid (by rw [← Bool.not_eq_true, rightL_iff]; omega)
    have hd : decide ((1000 : Int) < l.length) = true := decide_eq_true (by omega)
    go_enter Tryd.func23, Tryd.ntmps23
    go_wp2_with fail
    go_ret
    exact ⟨ret_bool HR.out.symm, Ext.refl _⟩
  have hd : decide ((1000 : Int) < l.length) = false := decide_eq_false (by omega)
  have hl1 : (l.length : Int) ≤ 1000 := by omega
  have hlc' : (l.length : Int) ≤ lc := by omega
  go_enter Tryd.func23, Tryd.ntmps23
  go_wp2_with fail
  go_loopw [3] (fun i wr => ∃ j : Nat, j ≤ l.length ∧ i = .int .i64 j ∧ (∀ x ∈ l.take j, 0 ≤ x ∧ x ≤ 10000) ∧ (l.take j).Nodup ∧ Ext w wr) (fun i _ => l.length - (intOf i).toNat)
  case atStart => exact ⟨0, Nat.zero_le _, rfl, by simp, by simp, Ext.refl _⟩
  case round =>
    obtain ⟨j, hj, rfl, hin, hnd, hX⟩ := hrel
    have HX := Lib.hid hX
    have HIN := Lib.hid (And.intro hin hnd)
    have hj0 : (0 : Int) ≤ j := by omega
    clear hX hin hnd
    by_cases hlt : j < l.length
    · have hlt' : (j : Int) < l.length := by omega
      obtain ⟨bl, ol, rfl, hcl⟩ := (ints_of_rd (HL.out.ext HX.out)).cells (by omega)
      have z0 := hcl j hlt
      have htk := ints_take hlt
      have hmem := ints_mem hlt
      obtain ⟨x, hx⟩ : ∃ x, l.getD j 0 = x := ⟨_, rfl⟩
      rw [hx] at z0 htk hmem
      have KS : Hid (∀ w', Ext wr w' → w'.cell? ⟨bl, ol + j, none⟩ = some (.int .i64 x) ∧ True) := Lib.hid (fun w' hE => ⟨hE.cell z0, trivial⟩)
      obtain ⟨q, hq⟩ : ∃ q, placeP (l.take j) x = q := ⟨_, rfl⟩
      have HF1 : Hid (∀ w', Ext wr w' → Calls Tryd.prog 35 #[.slice (some ⟨bl, ol, none⟩) j lc, .int .i64 x] w' fun ed w'' => ed = .returned (.int .i64 q) ∧ Ext wr w'') := Lib.hid fun w' hE => by
        rw [← hq]
        refine (rplace_to (l.take j) j _ lc x w' (Rd.take ((HL.out.ext HX.out).ext hE) j lc (by omega) (by omega)) (by rw [List.length_take]; omega)).mono ?_
        rintro ed w'' ⟨rfl, rfl⟩
        exact ⟨rfl, hE⟩
      have hqi := place_iff (l.take j) x
      rw [hq] at hqi
      have hjc : (j : Int) ≤ lc := by omega
      have lbl : bl < wr.heap.size := World.block_lt_of_cell? _ _ z0
      clear hcl hx z0 hq
      by_cases h1 : x < 0
      · have hd1 : decide (x < 0) = true := decide_eq_true h1
        have HR := Lib.hid (right_out l x hmem (.inl h1))
        clear htk hmem hqi h1
        go_wp2_with fail
        refine wp_region_class (Ext wr) (by kernel_rfl) (by kernel_rfl) (Ext.refl _).drew ?_
        try simp only [List.append_eq, List.cons_append, List.nil_append]
        repeat (first
          | go_big_quiet_skip
          | (go_big_quiet_want
             first
             | (go_big_quiet_op; go_big_quiet_on)
             | (unfold Oper.quiet
                apply Exists.intro
                refine ⟨fun w' hC => ?_, ?_⟩
                · (obtain ⟨k1, k2⟩ := KS.out w' hC
                   unfold Oper.quietAt
                   go_simp
                   first
                   | exact rfl
                   | (with_reducible exact HF1.out w' hC))
                go_simp
                go_big_quiet_on)
             | (go_big_quiet_op
                apply Exists.intro
                refine ⟨fun w' hC => ?_, ?_⟩
                · exact HF1.out w' hC
                go_big_quiet_on)))
        refine wpQuiet_nil ?_
        intro w9 hC9
        go_wp2_with fail
        go_ret
        exact ⟨ret_bool HR.out.symm, HX.out.trans hC9⟩
      have hd1 : decide (x < 0) = false := decide_eq_false h1
      by_cases h2 : 10000 < x
      · have hd2 : decide (10000 < x) = true := decide_eq_true h2
        have HR := Lib.hid (right_out l x hmem (.inr h2))
        clear htk hmem hqi h1 h2
        go_wp2_with fail
        refine wp_region_class (Ext wr) (by kernel_rfl) (by kernel_rfl) (Ext.refl _).drew ?_
        try simp only [List.append_eq, List.cons_append, List.nil_append]
        repeat (first
          | go_big_quiet_skip
          | (go_big_quiet_want
             first
             | (go_big_quiet_op; go_big_quiet_on)
             | (unfold Oper.quiet
                apply Exists.intro
                refine ⟨fun w' hC => ?_, ?_⟩
                · (obtain ⟨k1, k2⟩ := KS.out w' hC
                   unfold Oper.quietAt
                   go_simp
                   first
                   | exact rfl
                   | (with_reducible exact HF1.out w' hC))
                go_simp
                go_big_quiet_on)
             | (go_big_quiet_op
                apply Exists.intro
                refine ⟨fun w' hC => ?_, ?_⟩
                · exact HF1.out w' hC
                go_big_quiet_on)))
        refine wpQuiet_nil ?_
        intro w9 hC9
        go_wp2_with fail
        go_ret
        exact ⟨ret_bool HR.out.symm, HX.out.trans hC9⟩
      have hd2 : decide (10000 < x) = false := decide_eq_false h2
      by_cases h3 : x ∈ l.take j
      · have hd3 : decide (0 ≤ q) = true := decide_eq_true (hqi.2 h3)
        have HR := Lib.hid (right_twice l j x htk h3)
        clear htk hmem hqi h1 h2 h3
        go_wp2_with fail
        refine wp_region_class (Ext wr) (by kernel_rfl) (by kernel_rfl) (Ext.refl _).drew ?_
        try simp only [List.append_eq, List.cons_append, List.nil_append]
        repeat (first
          | go_big_quiet_skip
          | (go_big_quiet_want
             first
             | (go_big_quiet_op; go_big_quiet_on)
             | (unfold Oper.quiet
                apply Exists.intro
                refine ⟨fun w' hC => ?_, ?_⟩
                · (obtain ⟨k1, k2⟩ := KS.out w' hC
                   unfold Oper.quietAt
                   go_simp
                   first
                   | exact rfl
                   | (with_reducible exact HF1.out w' hC))
                go_simp
                go_big_quiet_on)
             | (go_big_quiet_op
                apply Exists.intro
                refine ⟨fun w' hC => ?_, ?_⟩
                · exact HF1.out w' hC
                go_big_quiet_on)))
        refine wpQuiet_nil ?_
        intro w9 hC9
        go_wp2_with fail
        go_ret
        exact ⟨ret_bool HR.out.symm, HX.out.trans hC9⟩
      · have hd3 : decide (0 ≤ q) = false := decide_eq_false (fun h => h3 (hqi.1 h))
        have HIN2 : Hid ((∀ x ∈ l.take (j + 1), 0 ≤ x ∧ x ≤ 10000) ∧ (l.take (j + 1)).Nodup) := Lib.hid (by
          rw [htk]
          refine ⟨fun y hy => ?_, ints_snoc _ _ HIN.out.2 h3⟩
          rw [List.mem_append, List.mem_singleton] at hy
          rcases hy with hy | hy
          · exact HIN.out.1 y hy
          · rw [hy]; omega)
        clear htk hmem hqi h1 h2 h3
        go_wp2_with fail
        refine wp_region_class (Ext wr) (by kernel_rfl) (by kernel_rfl) (Ext.refl _).drew ?_
        try simp only [List.append_eq, List.cons_append, List.nil_append]
        repeat (first
          | go_big_quiet_skip
          | (go_big_quiet_want
             first
             | (go_big_quiet_op; go_big_quiet_on)
             | (unfold Oper.quiet
                apply Exists.intro
                refine ⟨fun w' hC => ?_, ?_⟩
                · (obtain ⟨k1, k2⟩ := KS.out w' hC
                   unfold Oper.quietAt
                   go_simp
                   first
                   | exact rfl
                   | (with_reducible exact HF1.out w' hC))
                go_simp
                go_big_quiet_on)
             | (go_big_quiet_op
                apply Exists.intro
                refine ⟨fun w' hC => ?_, ?_⟩
                · exact HF1.out w' hC
                go_big_quiet_on)))
        refine wpQuiet_nil ?_
        intro w9 hC9
        go_wp2_with fail
        go_roundw
        case rel => exact ⟨j + 1, by omega, by go_num, HIN2.out.1, HIN2.out.2, HX.out.trans hC9⟩
        case measure => simp [intOf]; omega
    · obtain rfl : j = l.length := by omega
      have HR : Hid (rightL l = true) := Lib.hid (by
        have h1 := HIN.out
        rw [List.take_length] at h1
        exact (rightL_iff l).2 ⟨by omega, h1.1, h1.2⟩)
      go_wp2_with fail
      go_ret
      exact ⟨ret_bool HR.out.symm, HX.out⟩

/-- tokens -/
def LsSaid (r : List Int) (w : World) (ed : Ending) (w' : World) : Prop :=
  ∃ (L : Option Addr) (c : Nat), ed = .returned (.slice L r.length c) ∧ Ow kInt w.heap.size w' (.slice L r.length c) r ∧ Ext w w'
end Go.Proofs.YtfkidgpjejcblaaDoor

/- The library at integers: Index, Min. Written by wip/mk_lwi.py. -/
namespace Go.Proofs.YtfkidgpjejcblaaDoor
open Go.BigFrame
open Go.RowKit Go.Proofs.YtfkidgpjejcblaaDoor.Plain

set_option maxHeartbeats 3200000 in
set_option maxRecDepth 100000 in
theorem indexI (l : List Int) (L : Option Addr) (lc : Nat) (x : Int) (w : World) (hL : Rd kInt w (.slice L l.length lc) l) :
    Calls Tryd.prog 28 #[.slice L l.length lc, .int .i64 x] w fun ed w' => ed = .returned (.int .i64 (placeP l x)) ∧ w = w' := by
  have HL := Lib.hid hL
  have hm := hL.len
  have hm' : (l.length : Int) ≤ 9223372036854775807 := by omega
  clear hL hm
  go_enter Tryd.func28, Tryd.ntmps28
  go_wp2_with fail
  go_loopw [8] (fun i wr => ∃ j : Nat, j ≤ l.length ∧ i = .int .i64 j ∧ x ∉ l.take j ∧ w = wr) (fun i _ => l.length - (intOf i).toNat)
  case atStart => exact ⟨0, Nat.zero_le _, rfl, by simp, rfl⟩
  case round =>
    obtain ⟨j, hj, rfl, hno, rfl⟩ := hrel
    have hj0 : (0 : Int) ≤ j := by omega
    by_cases hlt : j < l.length
    · have hlt' : (j : Int) < l.length := by omega
      obtain ⟨bl, ol, rfl, z0⟩ := int_at9 HL.out j hlt
      have htk := ints_take hlt
      have hpl := fun e => place_is hno hlt e
      obtain ⟨y, hy⟩ : ∃ y, l.getD j 0 = y := ⟨_, rfl⟩
      rw [hy] at z0 htk hpl
      by_cases he : y = x
      · have HR := Lib.hid (hpl he).1
        have e1 : (x == y) = true := by simp [he]
        clear htk hpl hy he hno
        go_wp2_with fail
        go_ret
        exact ⟨ret_int HR.out.symm, rfl⟩
      · have e1 : (x == y) = false := by simp [Ne.symm he]
        have HNO : Hid (x ∉ l.take (j + 1)) := Lib.hid (by
          rw [htk, List.mem_append, List.mem_singleton]
          rintro (h | h)
          · exact hno h
          · exact he h.symm)
        clear htk hpl hy he hno
        go_wp2_with fail
        go_roundw
        case rel => exact ⟨j + 1, by omega, by go_num, HNO.out, by first | rfl | trivial⟩
        case measure => simp [intOf]; omega
    · obtain rfl : j = l.length := by omega
      have HR : Hid (placeP l x = -1) := Lib.hid (place_no (by rw [List.take_length] at hno; exact hno))
      clear hno
      go_wp2_with fail
      go_ret
      exact ⟨ret_int HR.out.symm, rfl⟩
end Go.Proofs.YtfkidgpjejcblaaDoor
