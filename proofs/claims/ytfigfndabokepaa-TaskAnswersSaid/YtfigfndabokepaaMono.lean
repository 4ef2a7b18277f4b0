/- A region whose order is open and whose operations, but a tail in one order, leave all that was there as it was: what each of them leaves is said once, whatever the order. -/
import Derived.Test.YtfigfndabokepaaMem
namespace Go.Proofs.Ytfigfndabokepaa.Mono
open Go.RowKit Go.Proofs.Ytfigfndabokepaa

/-- what an operation waits for -/
def deps (l : List Oper) (i : Nat) : List Nat :=
  match l[i]? with
  | some o => (o.after.toList.filter (fun e => Region.binds .any e)).map (·.on)
  | none => []
/-- .. and what these wait for -/
def clo (l : List Oper) : Nat → Nat → List Nat
  | 0, _ => []
  | n + 1, i => deps l i ++ (deps l i).flatMap (clo l n)

def isSelect : Op → Bool
  | .select _ _ => true
  | _ => false

def okAt (l : List Oper) (m i : Nat) : Bool :=
  match l[i]? with
  | none => true
  | some o => (deps l i).all (fun j => decide (j < i)) && !(isSelect o.op) &&
      (!(decide (i < m)) || (List.range m).all (fun j => (deps l i).contains j || (match (l[j]?).bind (·.dst) with | some d => !(o.looksAt l.toArray).contains d | none => true))) &&
      (!(decide (i < m)) || (List.range m).all (fun j => j == i || (match (l[j]?).bind (·.dst) with | some d => o.dst != some d | none => true))) &&
      (decide (i < m) || (List.range i).all (fun j => (deps l i).contains j))
def monoB (l : List Oper) (m : Nat) : Bool := decide (m ≤ l.length) && (List.range l.length).all (okAt l m)

/-- the frame behind all of them -/
def all (vals : Nat → Value) : List Oper → Nat → Act → Act
  | [], _, a => a
  | o :: r, k, a => all vals r (k + 1) (a.put o.dst (vals k))
/-- .. behind those that have come up -/
def sel (listed : Array Bool) (vals : Nat → Value) : List Oper → Nat → Act → Act
  | [], _, a => a
  | o :: r, k, a => sel listed vals r (k + 1) (if listed.getD k false = true then a.put o.dst (vals k) else a)
def uns (listed : Array Bool) (vals : Nat → Value) : List Oper → Nat → Act → Act
  | [], _, a => a
  | o :: r, k, a => uns listed vals r (k + 1) (if listed.getD k false = true then a else a.put o.dst (vals k))
def upd (vals : Nat → Value) (i : Nat) (v : Value) : Nat → Value := fun j => if j = i then v else vals j

theorem sel_put {listed : Array Bool} {vals : Nat → Value} {x : Option Tmp} {v : Value} : ∀ (r : List Oper) (k : Nat) (a : Act), (∀ o ∈ r, ∀ d, x = some d → o.dst ≠ some d) →
    sel listed vals r k (a.put x v) = (sel listed vals r k a).put x v
  | [], _, _, _ => rfl
  | o :: r, k, a, h => by
    simp only [sel]
    split
    · rw [Act.put_comm a v (vals k) (h o (by simp))]
      exact sel_put r (k + 1) _ (fun o ho => h o (by simp [ho]))
    · exact sel_put r (k + 1) _ (fun o ho => h o (by simp [ho]))

theorem sel_congr {listed listed' : Array Bool} {vals vals' : Nat → Value} : ∀ (r : List Oper) (k : Nat) (a : Act), (∀ j, k ≤ j → listed.getD j false = listed'.getD j false ∧ vals j = vals' j) →
    sel listed vals r k a = sel listed' vals' r k a
  | [], _, _, _ => rfl
  | o :: r, k, a, h => by
    simp only [sel]
    rw [(h k (Nat.le_refl _)).1, (h k (Nat.le_refl _)).2]
    exact sel_congr r (k + 1) _ (fun j hj => h j (by omega))

theorem set_getD {listed : Array Bool} {i j : Nat} (hi : i < listed.size) : (listed.setIfInBounds i true).getD j false = if j = i then true else listed.getD j false := by
  by_cases h : j = i
  · subst h; simp [hi]
  · rw [if_neg h, getD_set_ne false (Ne.symm h)]

theorem sel_set {listed : Array Bool} {vals : Nat → Value} {i : Nat} {v : Value} {oi : Oper} (hi : i < listed.size) (hun : listed.getD i false = false) :
    ∀ (r : List Oper) (k : Nat) (a : Act), k ≤ i → r[i - k]? = some oi → (∀ (p q : Nat) (op oq : Oper), p < q → r[p]? = some op → r[q]? = some oq → ∀ d, op.dst = some d → oq.dst ≠ some d) →
      sel (listed.setIfInBounds i true) (upd vals i v) r k a = (sel listed vals r k a).put oi.dst v
  | [], k, a, _, ho, _ => by simp at ho
  | o :: r, k, a, hk, ho, hd => by
    simp only [sel]
    by_cases hki : k = i
    · subst hki
      simp at ho
      subst ho
      rw [set_getD hi, if_pos rfl, if_pos rfl, hun]
      simp only [upd, if_true, Bool.false_eq_true, if_false]
      rw [sel_congr (listed' := listed) (vals' := vals) r (k + 1) _ (fun j hj => ⟨by rw [set_getD hi, if_neg (by omega)], by simp [upd]; omega⟩)]
      refine sel_put r (k + 1) a (fun o' ho' d hd' => ?_)
      obtain ⟨q, hq⟩ := List.getElem?_of_mem ho'
      exact hd 0 (q + 1) o o' (by omega) (by simp) (by simpa using hq) d hd'
    · rw [set_getD hi, if_neg hki]
      have hv : upd vals i v k = vals k := by simp [upd, hki]
      rw [hv]
      refine sel_set hi hun r (k + 1) _ (by omega) (by rw [show i - k = (i - (k + 1)) + 1 from by omega] at ho; simpa using ho) (fun p q op oq hpq hp hq => hd (p + 1) (q + 1) op oq (by omega) (by simpa using hp) (by simpa using hq))

theorem all_eq {listed : Array Bool} {vals : Nat → Value} : ∀ (r : List Oper) (k : Nat) (a : Act), (∀ (p q : Nat) (op oq : Oper), p < q → r[p]? = some op → r[q]? = some oq → ∀ d, op.dst = some d → oq.dst ≠ some d) →
    all vals r k a = uns listed vals r k (sel listed vals r k a)
  | [], _, _, _ => rfl
  | o :: r, k, a, hd => by
    have hd' : ∀ (p q : Nat) (op oq : Oper), p < q → r[p]? = some op → r[q]? = some oq → ∀ d, op.dst = some d → oq.dst ≠ some d := fun p q op oq hpq hp hq => hd (p + 1) (q + 1) op oq (by omega) (by simpa using hp) (by simpa using hq)
    simp only [all, sel, uns]
    rw [all_eq (listed := listed) r (k + 1) _ hd']
    split
    · rfl
    · rw [sel_put r (k + 1) a (fun o' ho' d hd2 => by
        obtain ⟨q, hq⟩ := List.getElem?_of_mem ho'
        exact hd 0 (q + 1) o o' (by omega) (by simp) (by simpa using hq) d hd2)]

theorem uns_same {ops : Array Oper} {listed : Array Bool} {vals : Nat → Value} {x : Oper} (hs : ∀ cs b, x.op ≠ .select cs b) : ∀ (r : List Oper) (k : Nat) (a : Act),
    (∀ j o, r[j]? = some o → listed.getD (k + j) false = false → ∀ d, o.dst = some d → d ∉ x.looksAt ops) →
    execOp (uns listed vals r k a).eval x = execOp a.eval x ∧ Region.wanted x (yielded ops (uns listed vals r k a).tmps) = Region.wanted x (yielded ops a.tmps)
  | [], _, _, _ => ⟨rfl, rfl⟩
  | o :: r, k, a, h => by
    have h' : ∀ j o', r[j]? = some o' → listed.getD (k + 1 + j) false = false → ∀ d, o'.dst = some d → d ∉ x.looksAt ops := fun j o' hj hl => h (j + 1) o' (by simpa using hj) (by rw [show k + (j + 1) = k + 1 + j from by omega]; exact hl)
    simp only [uns]
    split
    · exact uns_same hs r (k + 1) a h'
    · rename_i hun
      have hl := h 0 o (by simp) (by simpa using hun)
      have := uns_same (vals := vals) hs r (k + 1) (a.put o.dst (vals k)) h'
      exact ⟨this.1.trans (execOp_put x hs a o.dst (vals k) hl), this.2.trans (wanted_put x a o.dst (vals k) hl)⟩

/-- what comes of an operation: a value, in a world -/
def YieldsAt (P : Program) (R : Value → World → Prop) : Result Next → Prop
  | .ok (.value v) w => R v w
  | .ok .skip w => R undef w
  | .ok (.enter f args) w => Calls P f args w fun e w' => ∃ v, e = .returned v ∧ R v w'
  | _ => False

/-- .. closed to the walk -/
structure Yields (P : Program) (R : Value → World → Prop) (r : Result Next) : Prop where
  out : YieldsAt P R r

theorem wp_of_yields {P : Program} {o : Oper} {a : Act} {w : World} {K : Act → World → Prop} {Q : Exit → Act → World → Prop} {R : Value → World → Prop} (h : Yields P R ((execOp a.eval o).run P w))
    (hK : ∀ v w', R v w' → K (a.put o.dst v) w') : o.wp P a w K Q := by
  obtain ⟨h⟩ := h
  unfold Oper.wp
  generalize (execOp a.eval o).run P w = r at *
  cases r with
  | ok n w' =>
    cases n <;> simp only [YieldsAt] at h <;> simp only [Oper.upon]
    case value u => exact hK _ _ h
    case skip => exact hK _ _ h
    case enter f args => exact h.mono fun e w'' ⟨v, he, hv⟩ => by subst he; exact hK _ _ hv
  | halt x w' => simp only [YieldsAt] at h

theorem yields_same {P : Program} {R : Value → World → Prop} {r : Result Next} (c : Value) (w : World) (h : r = .ok (.value c) w) (hR : R c w) : Yields P R r := by rw [h]; exact ⟨hR⟩
theorem yields_call {P : Program} {R : Value → World → Prop} {r : Result Next} (f : FuncId) (args : Array Value) (w : World) (h : r = .ok (.enter f args) w) (hR : Calls P f args w fun e w' => ∃ v, e = .returned v ∧ R v w') : Yields P R r := by rw [h]; exact ⟨hR⟩
theorem wanted_none {o : Oper} {f : Nat → Option Bool} (h : o.guard = none) : Region.wanted o f = true := by simp [Region.wanted, h]
def asBool : Value → Option Bool
  | .bool b => some b
  | _ => none
/-- a guarded operation runs -/
theorem wanted_some {o : Oper} {f : Nat → Option Bool} {g : Nat} {b : Bool} {v : Value} (h : o.guard = some (g, b)) (hf : f g = asBool v) (hv : v = .bool b) : Region.wanted o f = true := by
  subst hv
  simp [Region.wanted, h, hf, asBool]
section
variable {P : Program} {l : List Oper} {m : Nat} {Q : Exit → Act → World → Prop} {a0 : Act} {w0 : World} {V : Nat → World → List Value → Value → Prop}

def Inv (P : Program) (l : List Oper) (m : Nat) (Q : Exit → Act → World → Prop) (a0 : Act) (w0 : World) (V : Nat → World → List Value → Value → Prop) (listed : Array Bool) (a : Act) (w : World) : Prop :=
  listed.size = l.length ∧
  ((∃ vals : Nat → Value, Ext w0 w ∧ (∀ j, m ≤ j → listed.getD j false = false) ∧ (∀ i, listed.getD i false = true → ∀ j ∈ deps l i, listed.getD j false = true) ∧
      (∀ i, i < m → listed.getD i false = true → V i w ((deps l i).map vals) (vals i)) ∧ a = sel listed vals (l.take m) 0 a0) ∨
   (∃ k, m ≤ k ∧ k ≤ l.length ∧ (∀ j, j < l.length → (listed.getD j false = true ↔ j < k)) ∧ wpList P l.toArray Q (l.drop k) a w))

theorem ok_parts (hB : monoB l m = true) {i : Nat} {o : Oper} (ho : l[i]? = some o) :
    (∀ j ∈ deps l i, j < i) ∧ (∀ cs b, o.op ≠ .select cs b) ∧ (i < m → ∀ j oj, j < m → l[j]? = some oj → j ∉ deps l i → ∀ d, oj.dst = some d → d ∉ o.looksAt l.toArray) ∧
      (i < m → ∀ j oj, j < m → j ≠ i → l[j]? = some oj → ∀ d, oj.dst = some d → o.dst ≠ some d) ∧ (m ≤ i → ∀ j, j < i → j ∈ deps l i) := by
  have hi : i < l.length := by
    rcases Nat.lt_or_ge i l.length with h | h
    · exact h
    · rw [List.getElem?_eq_none h] at ho; cases ho
  unfold monoB at hB
  simp only [Bool.and_eq_true, List.all_eq_true, List.mem_range] at hB
  have h := hB.2 i hi
  unfold okAt at h
  rw [ho] at h
  simp only [Bool.and_eq_true, Bool.or_eq_true, List.all_eq_true, List.mem_range, decide_eq_true_eq, Bool.not_eq_true', decide_eq_false_iff_not] at h
  obtain ⟨⟨⟨⟨h1, h2⟩, h3⟩, h4⟩, h5⟩ := h
  refine ⟨h1, fun cs b e => by rw [e] at h2; simp [isSelect] at h2, fun him j oj hj hoj hnd d hd => ?_, fun him j oj hj hji hoj d hd e => ?_, fun him j hj => ?_⟩
  · rcases h3 with h3 | h3
    · omega
    · have := h3 j hj
      rw [hoj] at this
      simp only [Option.bind_some, hd] at this
      rcases this with h | h
      · exact absurd (by simpa using h) hnd
      · simpa using h
  · rcases h4 with h4 | h4
    · omega
    · have := h4 j hj
      rw [hoj] at this
      simp only [Option.bind_some, hd] at this
      rcases this with h | h
      · simp at h; exact hji h
      · rw [e] at h; simp at h
  · rcases h5 with h5 | h5
    · omega
    · exact (by simpa using h5 j hj)

theorem distinct (hB : monoB l m = true) : ∀ (p q : Nat) (op oq : Oper), p < q → (l.take m)[p]? = some op → (l.take m)[q]? = some oq → ∀ d, op.dst = some d → oq.dst ≠ some d := by
  intro p q op oq hpq hp hq d hd
  rw [List.getElem?_take] at hp hq
  split at hp <;> rename_i hpm
  · split at hq <;> rename_i hqm
    · exact (ok_parts hB hq).2.2.2.1 hqm p op hpm (by omega) hp d hd
    · cases hq
  · cases hp

theorem deps_mem {i : Nat} {o : Oper} (ho : l[i]? = some o) {j : Nat} (hj : j ∈ deps l i) : ∃ e ∈ o.after, Region.binds .any e = true ∧ e.on = j := by
  unfold deps at hj
  rw [ho] at hj
  simp only [List.mem_map, List.mem_filter, Array.mem_toList_iff] at hj
  obtain ⟨e, ⟨h1, h2⟩, h3⟩ := hj
  exact ⟨e, h1, h2, h3⟩

theorem clo_listed {listed : Array Bool} (hdc : ∀ i, listed.getD i false = true → ∀ j ∈ deps l i, listed.getD j false = true) : ∀ (n i : Nat), (∀ j ∈ deps l i, listed.getD j false = true) → ∀ j ∈ clo l n i, listed.getD j false = true
  | 0, _, _, j, hj => by simp [clo] at hj
  | n + 1, i, h, j, hj => by
    simp only [clo, List.mem_append, List.mem_flatMap] at hj
    rcases hj with hj | ⟨k, hk, hj⟩
    · exact h j hj
    · exact clo_listed hdc n k (hdc k (h k hk)) j hj

theorem sel_all {listed : Array Bool} {vals : Nat → Value} : ∀ (r : List Oper) (k : Nat) (a : Act), (∀ j, k ≤ j → j < k + r.length → listed.getD j false = true) → sel listed vals r k a = all vals r k a
  | [], _, _, _ => rfl
  | o :: r, k, a, h => by
    simp only [sel, all]
    rw [if_pos (h k (Nat.le_refl _) (by simp))]
    exact sel_all r (k + 1) _ (fun j h1 h2 => h j (by omega) (by simp; omega))

theorem all_listed (hB : monoB l m = true) {listed : Array Bool} (hsz : listed.size = l.length) (hr : Region.ready .any l.toArray listed = []) : ∀ i, i < l.length → listed.getD i false = true := by
  intro i
  induction i using Nat.strongRecOn with
  | _ i ih =>
    intro hi
    cases hl : listed.getD i false with
    | true => rfl
    | false =>
      have ho : l[i]? = some l[i] := List.getElem?_eq_getElem hi
      have hm : i ∈ Region.ready .any l.toArray listed := by
        rw [mem_ready]
        refine ⟨?_, l[i], by simp, fun e he hb => ?_⟩
        · rw [← hl]; simp [show i < listed.size by omega]
        · have hd : e.on ∈ deps l i := by
            unfold deps
            rw [ho]
            simp only [List.mem_map, List.mem_filter, Array.mem_toList_iff]
            exact ⟨e, ⟨he, hb⟩, rfl⟩
          have := (ok_parts hB ho).1 _ hd
          exact ih _ this (by omega)
      rw [hr] at hm
      cases hm

theorem wpOp_list {o : Oper} {i : Nat} {rest : List Oper} {a : Act} {w : World} (ho : l[i]? = some o) (h : wpList P l.toArray Q (o :: rest) a w) : wpOp P l.toArray Q i (wpList P l.toArray Q rest) a w := by
  unfold wpOp
  have : l.toArray[i]? = some o := by simpa using ho
  rw [this]
  exact h

theorem step (hB : monoB l m = true) (hst : ∀ i w w' d v, V i w d v → Ext w w' → V i w' d v)
    (hop : ∀ i o, i < m → l[i]? = some o → ∀ (vals : Nat → Value) (w : World), Ext w0 w → (∀ j, (deps l i).contains j = true → V j w ((deps l j).map vals) (vals j)) →
      if Region.wanted o (yielded l.toArray (all vals (l.take m) 0 a0).tmps) = true
      then Yields P (fun v w' => Ext w w' ∧ V i w' ((deps l i).map vals) v) ((execOp (all vals (l.take m) 0 a0).eval o).run P w)
      else V i w ((deps l i).map vals) undef)
    (hend : ∀ (vals : Nat → Value) (w : World), Ext w0 w → (∀ j, j < m → V j w ((deps l j).map vals) (vals j)) → wpList P l.toArray Q (l.drop m) (all vals (l.take m) 0 a0) w)
    (listed : Array Bool) (a : Act) (w : World) (i : Nat) (hI : Inv P l m Q a0 w0 V listed a w) (hi : i ∈ Region.ready .any l.toArray listed) :
    wpOp P l.toArray Q i (Inv P l m Q a0 w0 V (listed.setIfInBounds i true)) a w := by
  obtain ⟨hsz, hI⟩ := hI
  obtain ⟨hun, o, ho', hall⟩ := mem_ready.1 hi
  have ho : l[i]? = some o := by simpa using ho'
  have hil : i < l.length := by
    rcases Nat.lt_or_ge i l.length with h | h
    · exact h
    · rw [List.getElem?_eq_none h] at ho; cases ho
  have hsi : i < listed.size := by omega
  have hunf : listed.getD i false = false := by
    rw [← hun]; simp [hsi]
  obtain ⟨k1, k2, k3, k4, k5⟩ := ok_parts hB ho
  have hdl : ∀ j ∈ deps l i, listed.getD j false = true := fun j hj => by
    obtain ⟨e, he, hb, rfl⟩ := deps_mem ho hj
    exact hall e he hb
  have hml : m ≤ l.length := by
    unfold monoB at hB
    simp only [Bool.and_eq_true, decide_eq_true_eq] at hB
    exact hB.1
  have hdrop : ∀ k, l[k]? = some o → l.drop k = o :: l.drop (k + 1) := fun k hk => by
    have hkl : k < l.length := by
      rcases Nat.lt_or_ge k l.length with h | h
      · exact h
      · rw [List.getElem?_eq_none h] at hk; cases hk
    rw [List.drop_eq_getElem_cons hkl]
    rw [List.getElem?_eq_getElem hkl] at hk
    cases hk; rfl
  rcases hI with ⟨vals, hE, htail, hdc, hV, ha⟩ | ⟨k, hmk, hkl, hiff, hw⟩
  · rcases Nat.lt_or_ge i m with him | him
    · have hcl := clo_listed hdc l.length i hdl
      have hjm : ∀ j, listed.getD j false = true → j < m := fun j hj => by
        rcases Nat.lt_or_ge j m with h | h
        · exact h
        · rw [htail j h] at hj; cases hj
      have hob := hop i o him ho vals w hE (fun j hj => hV j (hjm j (hdl j (by simpa using hj))) (hdl j (by simpa using hj)))
      have hsame := uns_same (ops := l.toArray) (listed := listed) (vals := vals) (x := o) k2 (l.take m) 0 a (fun j oj hj hlj d hd => by
        rw [List.getElem?_take] at hj
        split at hj
        · rename_i hjm'
          exact k3 him j oj hjm' hj (fun hmem => by have := hdl j hmem; rw [Nat.zero_add] at hlj; rw [hlj] at this; cases this) d hd
        · cases hj)
      rw [ha, ← all_eq (l.take m) 0 a0 (distinct hB)] at hsame
      rw [hsame.2, hsame.1, ← ha] at hob
      have hnew : ∀ v w', Ext w w' → V i w' ((deps l i).map vals) v → Inv P l m Q a0 w0 V (listed.setIfInBounds i true) (a.put o.dst v) w' := by
        intro v w' hE' hVi
        refine ⟨by simpa using hsz, .inl ⟨upd vals i v, hE.trans hE', fun j hj => ?_, fun i' hi' j hj => ?_, fun i' him' hi' => ?_, ?_⟩⟩
        · rw [set_getD hsi, if_neg (by omega)]; exact htail j hj
        · rw [set_getD hsi] at hi' ⊢
          by_cases e : i' = i
          · subst e
            split
            · rfl
            · exact hdl j hj
          · rw [if_neg e] at hi'
            split
            · rfl
            · exact hdc i' hi' j hj
        · rw [set_getD hsi] at hi'
          by_cases e : i' = i
          · subst e
            have : (deps l i').map (upd vals i' v) = (deps l i').map vals := List.map_congr_left fun j hj => by
              have := k1 j hj
              simp [upd]; omega
            rw [this]
            simpa [upd] using hVi
          · rw [if_neg e] at hi'
            have : (deps l i').map (upd vals i v) = (deps l i').map vals := List.map_congr_left fun j hj => by
              have hjl := hdc i' hi' j hj
              have : j ≠ i := fun h => by subst h; rw [hunf] at hjl; cases hjl
              simp [upd, this]
            rw [this]
            have h2 : upd vals i v i' = vals i' := by simp [upd, e]
            rw [h2]
            exact hst _ _ _ _ _ (hV i' him' hi') hE'
        · rw [ha]
          exact (sel_set hsi hunf (l.take m) 0 a0 (Nat.zero_le _) (by rw [Nat.sub_zero, List.getElem?_take, if_pos him]; exact ho) (distinct hB)).symm
      unfold wpOp
      simp only [ho']
      by_cases hwant : Region.wanted o (yielded l.toArray a.tmps) = true
      · rw [if_pos hwant] at hob ⊢
        exact .inl (wp_of_yields hob (fun v w' h => hnew v w' h.1 h.2))
      · rw [if_neg hwant] at hob ⊢
        exact hnew undef w (Ext.refl _) hob
    · have hmi : i = m := by
        rcases Nat.lt_or_ge m i with h | h
        · have := hdl m (k5 him m h)
          rw [htail m (Nat.le_refl _)] at this; cases this
        · omega
      subst hmi
      have hpre : ∀ j, j < i → listed.getD j false = true := fun j hj => hdl j (k5 him j hj)
      have hall' : a = all vals (l.take i) 0 a0 := by
        rw [ha]
        exact sel_all _ _ _ (fun j _ hj => hpre j (by simp at hj; omega))
      have hw := hend vals w hE (fun j hj => hV j hj (hpre j hj))
      rw [← hall', hdrop i ho] at hw
      refine wpOp_mono (fun a' w' h => ?_) (wpOp_list ho hw)
      refine ⟨by simpa using hsz, .inr ⟨i + 1, by omega, by omega, fun j hj => ?_, h⟩⟩
      rw [set_getD hsi]
      by_cases e : j = i
      · subst e; simp
      · rw [if_neg e]
        constructor
        · intro h
          rcases Nat.lt_or_ge j i with h' | h'
          · omega
          · rw [htail j h'] at h; cases h
        · intro h; exact hpre j (by omega)
  · have hki : k = i := by
      rcases Nat.lt_or_ge i k with h | h
      · have := (hiff i hil).2 h
        rw [hunf] at this; cases this
      · rcases Nat.lt_or_ge k i with h' | h'
        · have := (hiff k (by omega)).1 (hdl k (k5 (by omega) k h'))
          omega
        · omega
    subst hki
    rw [hdrop k ho] at hw
    refine wpOp_mono (fun a' w' h => ?_) (wpOp_list ho hw)
    refine ⟨by simpa using hsz, .inr ⟨k + 1, by omega, by omega, fun j hj => ?_, h⟩⟩
    rw [set_getD hsi]
    by_cases e : j = k
    · subst e; simp
    · rw [if_neg e, hiff j hj]; omega

def count (listed : Array Bool) : Nat := (listed.toList.filter (fun b => !b)).length

theorem count_set {listed : Array Bool} {i : Nat} (hi : i < listed.size) (hun : listed.getD i true = false) : count (listed.setIfInBounds i true) + 1 = count listed := by
  have h : ∀ (xs : List Bool) (i : Nat), xs[i]? = some false → ((xs.set i true).filter (fun b => !b)).length + 1 = (xs.filter (fun b => !b)).length := by
    intro xs
    induction xs with
    | nil => intro i h; simp at h
    | cons b r ih =>
      intro i h
      cases i with
      | zero => simp at h; subst h; simp
      | succ i =>
        have := ih i (by simpa using h)
        cases b <;> simp <;> simpa using this
  unfold count
  rw [Array.toList_setIfInBounds]
  refine h _ _ ?_
  have : listed[i]? = some listed[i] := Array.getElem?_eq_getElem hi
  rw [Array.getElem?_toList, this]
  have e : listed.getD i true = listed[i] := by simp [Array.getD, hi]
  rw [e] at hun
  rw [hun]

theorem any_of_inv (I : Array Bool → Act → World → Prop) (hsz : ∀ listed a w, I listed a w → listed.size = l.length)
    (hstep : ∀ listed a w i, I listed a w → i ∈ Region.ready .any l.toArray listed → wpOp P l.toArray Q i (I (listed.setIfInBounds i true)) a w)
    (hend : ∀ listed a w, I listed a w → Region.ready .any l.toArray listed = [] → Q .normal a w) :
    ∀ (fuel : Nat) (listed : Array Bool) (a : Act) (w : World), count listed ≤ fuel → I listed a w → wpAny P .any l.toArray Q fuel listed a w
  | 0, listed, a, w, hc, hI => by
    have hr : Region.ready .any l.toArray listed = [] := by
      cases h : Region.ready .any l.toArray listed with
      | nil => rfl
      | cons i r =>
        have hi : i ∈ Region.ready .any l.toArray listed := by rw [h]; simp
        obtain ⟨hun, o, ho, _⟩ := mem_ready.1 hi
        have hil : i < l.toArray.size := (Array.getElem?_eq_some_iff.1 ho).1
        have := count_set (listed := listed) (i := i) (by rw [hsz _ _ _ hI]; simpa using hil) hun
        omega
    exact ⟨hr, hend _ _ _ hI hr⟩
  | fuel + 1, listed, a, w, hc, hI => by
    refine ⟨hend _ _ _ hI, fun i hi => wpOp_mono (fun a' w' h => ?_) (hstep _ _ _ _ hI hi)⟩
    obtain ⟨hun, o, ho, _⟩ := mem_ready.1 hi
    have hil : i < l.toArray.size := (Array.getElem?_eq_some_iff.1 ho).1
    have := count_set (listed := listed) (i := i) (by rw [hsz _ _ _ hI]; simpa using hil) hun
    exact any_of_inv I hsz hstep hend fuel _ a' w' (by omega) h

/-- a region whose order is open: what each operation leaves is said once -/
theorem wp_region_mono {id : Nat} (m : Nat) (V : Nat → World → List Value → Value → Prop) (hm : P.follows .mixedOrders = true) (hB : monoB l m = true)
    (hst : ∀ i w w' d v, V i w d v → Ext w w' → V i w' d v)
    (hop : ∀ i o, i < m → l[i]? = some o → ∀ (vals : Nat → Value) (w : World), Ext w0 w → (∀ j, (deps l i).contains j = true → V j w ((deps l j).map vals) (vals j)) →
      if Region.wanted o (yielded l.toArray (all vals (l.take m) 0 a0).tmps) = true
      then Yields P (fun v w' => Ext w w' ∧ V i w' ((deps l i).map vals) v) ((execOp (all vals (l.take m) 0 a0).eval o).run P w)
      else V i w ((deps l i).map vals) undef)
    (hend : ∀ (vals : Nat → Value) (w : World), Ext w0 w → (∀ j, j < m → V j w ((deps l j).map vals) (vals j)) → wpList P l.toArray Q (l.drop m) (all vals (l.take m) 0 a0) w) :
    (Code.region id l.toArray true).wp P Q a0 w0 := by
  have hml : m ≤ l.length := by
    unfold monoB at hB
    simp only [Bool.and_eq_true, decide_eq_true_eq] at hB
    exact hB.1
  refine wp_region_any hm (any_of_inv (Inv P l m Q a0 w0 V) (fun _ _ _ h => h.1) (step hB hst hop hend) (fun listed a w hI hr => ?_) _ _ _ _ ?_ ?_)
  · obtain ⟨hsz, hI⟩ := hI
    have hal := all_listed hB hsz hr
    rcases hI with ⟨vals, hE, htail, hdc, hV, ha⟩ | ⟨k, hmk, hkl, hiff, hw⟩
    · have hm' : m = l.length := by
        rcases Nat.lt_or_ge m l.length with h | h
        · have := hal m h
          rw [htail m (Nat.le_refl _)] at this; cases this
        · omega
      have hw := hend vals w hE (fun j hj => hV j hj (hal j (by omega)))
      rw [ha, sel_all _ _ _ (fun j _ hj => hal j (by simp at hj; omega))]
      rw [hm', List.drop_length] at hw
      rw [hm']
      exact hw
    · have hk : k = l.length := by
        rcases Nat.lt_or_ge k l.length with h | h
        · have := (hiff k h).1 (hal k h)
          omega
        · omega
      subst hk
      rw [List.drop_length] at hw
      exact hw
  · unfold count
    exact Nat.le_trans (List.length_filter_le (fun b => !b) (Array.replicate l.toArray.size false).toList) (by simp)
  · refine ⟨by simp, .inl ⟨fun _ => undef, (Ext.refl w0).drew, fun j _ => ?_, fun i hi => ?_, fun i _ hi => ?_, ?_⟩⟩
    · by_cases h : j < l.length <;> simp [Array.getElem?_replicate, h]
    · exfalso
      by_cases h : i < l.length <;> simp [Array.getElem?_replicate, h] at hi
    · exfalso
      by_cases h : i < l.length <;> simp [Array.getElem?_replicate, h] at hi
    · have : ∀ (r : List Oper) (k : Nat) (a : Act), sel (Array.replicate l.toArray.size false) (fun _ => undef) r k a = a := by
        intro r
        induction r with
        | nil => intro k a; rfl
        | cons o r ih =>
          intro k a
          simp only [sel]
          rw [if_neg (by by_cases h : k < l.length <;> simp [Array.getElem?_replicate, h])]
          exact ih _ _
      exact (this _ _ _).symm
end
end Go.Proofs.Ytfigfndabokepaa.Mono
