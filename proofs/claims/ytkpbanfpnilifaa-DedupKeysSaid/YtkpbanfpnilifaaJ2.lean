/- Joined by wip/merge.py: CrPlain, CrFun, TRight, TSmall, TAsk, TCopy, TGreat, TPart, TPart2, TDo, TDo2, TDo3, TCop, TCnt, PPart, PDo, TBegin, PBegin, TAlive, TOnceB, LoL. -/
import Derived.Test.YtkpbanfpnilifaaJ1
import Derived.Lib.SliceRun
import Derived.Outline
import Derived.LoopTactic
import Derived.WalkSpells
import Derived.BigQuiet
import Derived.Deep.QuietTactic
import Derived.Deep.RegionHeld3
import Derived.IntWalk
import Derived.Deep.DeepCutAuto
import Derived.Laws.EntriesVeiled
import Derived.Laws.StructEq
set_option linter.unusedVariables false
set_option linter.unusedSimpArgs false
set_option linter.unnecessarySimpa false
/- Plain words of a crew: what is popped, stolen, pushed; each task once; units counted. No program in it. -/
namespace Go.Proofs.Ytkpbanfpnilifaa.Plain

/-- all tasks that deques hold -/
abbrev held (D : List (List Nat)) : List Nat := D.flatten
theorem split_at {α : Type} (D : List α) (p : Nat) (hp : p < D.length) : D = D.take p ++ D[p] :: D.drop (p + 1) := by
  conv => lhs; rw [← List.take_append_drop p D, List.drop_eq_getElem_cons hp]
theorem set_at {α : Type} (D : List α) (p : Nat) (x : α) (hp : p < D.length) : D.set p x = D.take p ++ x :: D.drop (p + 1) := by
  rw [List.set_eq_take_append_cons_drop, if_pos hp]
theorem getDp {D : List (List Nat)} {p : Nat} (hp : p < D.length) : D.getD p [] = D[p] := by
  rw [List.getD_eq_getElem?_getD, List.getElem?_eq_getElem hp]; rfl
theorem held_at (D : List (List Nat)) (p : Nat) (hp : p < D.length) : (held D).Perm (D.getD p [] ++ ((D.take p).flatten ++ (D.drop (p + 1)).flatten)) := by
  rw [getDp hp]
  conv => lhs; rw [split_at D p hp]
  rw [held, List.flatten_append, List.flatten_cons]
  exact (List.perm_append_comm_assoc _ _ _)
theorem held_set (D : List (List Nat)) (p : Nat) (x : List Nat) (hp : p < D.length) : (held (D.set p x)).Perm (x ++ ((D.take p).flatten ++ (D.drop (p + 1)).flatten)) := by
  rw [set_at D p x hp, held, List.flatten_append, List.flatten_cons]
  exact (List.perm_append_comm_assoc _ _ _)
/-- the bottom is popped -/
theorem held_pop (D : List (List Nat)) (p : Nat) (xs : List Nat) (k : Nat) (hp : p < D.length) (h : D.getD p [] = xs ++ [k]) : (held D).Perm (k :: held (D.set p xs)) := by
  refine (held_at D p hp).trans ?_
  rw [h, List.append_assoc]
  refine List.perm_middle.trans ?_
  exact List.Perm.cons k (held_set D p xs hp).symm
/-- the top is stolen -/
theorem held_steal (D : List (List Nat)) (p : Nat) (xs : List Nat) (k : Nat) (hp : p < D.length) (h : D.getD p [] = k :: xs) : (held D).Perm (k :: held (D.set p xs)) := by
  refine (held_at D p hp).trans ?_
  rw [h, List.cons_append]
  exact List.Perm.cons k (held_set D p xs hp).symm
/-- the right half is pushed, then the left one -/
theorem held_push (D : List (List Nat)) (p a b : Nat) (hp : p < D.length) : (held (D.set p (D.getD p [] ++ [b, a]))).Perm (held D ++ [a, b]) := by
  refine (held_set D p _ hp).trans ?_
  rw [List.append_assoc]
  have h1 : (D.getD p [] ++ ([b, a] ++ ((D.take p).flatten ++ (D.drop (p + 1)).flatten))).Perm ([b, a] ++ (D.getD p [] ++ ((D.take p).flatten ++ (D.drop (p + 1)).flatten))) := List.perm_append_comm_assoc _ _ _
  refine h1.trans ?_
  have h2 := (held_at D p hp).symm
  refine (List.Perm.append_left [b, a] h2).trans ?_
  refine (List.Perm.swap a b (held D)).trans ?_
  exact List.perm_append_comm (l₁ := [a, b]) (l₂ := held D)

/-- how many units are done -/
def doneN (dn : List Bool) : Nat := dn.countP id
theorem doneN_marked (dn : List Bool) (a b : Nat) (h : a ≤ b) (hb : b ≤ dn.length) (hf : ∀ u, a ≤ u → u < b → dn.getD u false = false) : doneN (marked dn a b) = doneN dn + (b - a) := by
  have e : dn = dn.take a ++ ((dn.drop a).take (b - a) ++ dn.drop b) := by
    have h1 : (dn.drop a).take (b - a) ++ dn.drop b = dn.drop a := by
      have h2 := List.take_append_drop (b - a) (dn.drop a)
      rw [List.drop_drop, show a + (b - a) = b by omega] at h2
      exact h2
    rw [h1, List.take_append_drop]
  have hz : ((dn.drop a).take (b - a)).countP id = 0 := by
    rw [List.countP_eq_zero]
    intro x hx
    obtain ⟨i, hi, rfl⟩ := List.getElem_of_mem hx
    simp only [List.length_take, List.length_drop] at hi
    have h3 := hf (a + i) (by omega) (by omega)
    rw [List.getD_eq_getElem?_getD, List.getElem?_eq_getElem (by omega)] at h3
    simp only [List.getElem_take, List.getElem_drop]
    simpa using h3
  have e2 : doneN dn = (dn.take a).countP id + (((dn.drop a).take (b - a)).countP id + (dn.drop b).countP id) := by
    unfold doneN
    conv => lhs; rw [e]
    rw [List.countP_append, List.countP_append]
  rw [e2, hz]
  unfold doneN marked
  rw [List.countP_append, List.countP_append]
  have e3 : (List.replicate (b - a) true).countP id = b - a := by
    rw [List.countP_replicate]; simp
  rw [e3]
  omega

/-- what stands of a crew: its work, its deques, whether it is over, how many units are done, which tasks are gone -/
structure CrI (g n m : Nat) (ts : List Tk) (dn : List Bool) (D : List (List Nat)) (over : Bool) (done : Nat) (G : List Nat) : Prop where
  inv : OI g n ts dn (held D) done
  wk : D.length = m
  ov : over = decide (held D = [])
  all : doneN dn = done
  gone : (G ++ held D).Perm (List.range ts.length)

theorem CrI.begin (g n m : Nat) (h1 : 1 ≤ n) (hm : 1 ≤ m) : CrI g n m [⟨0, n, -1, 0⟩] (List.replicate n false) ([0] :: List.replicate (m - 1) []) false 0 [] := by
  have e : held ([0] :: List.replicate (m - 1) []) = [0] := by
    unfold held
    rw [List.flatten_cons]
    have : (List.replicate (m - 1) ([] : List Nat)).flatten = [] := by
      induction m - 1 with
      | zero => rfl
      | succ k ih => rw [List.replicate_succ, List.flatten_cons, ih]; rfl
    rw [this]; rfl
  refine ⟨by rw [e]; exact OI.begin g n h1, by simp; omega, by rw [e]; rfl, ?_, by rw [e]; simp [List.range_succ]⟩
  unfold doneN
  rw [List.countP_replicate]; simp

/-- a task that is taken (popped, or stolen) and parted, its halves pushed -/
theorem CrI.part {g n m : Nat} {ts : List Tk} {dn : List Bool} {D E : List (List Nat)} {over : Bool} {done : Nat} {G : List Nat} {k p : Nat} (h : CrI g n m ts dn D over done G) (hE : (held D).Perm (k :: held E)) (hl : E.length = D.length) (hp : p < m) (hg : 1 ≤ g) (hs : g < sz ts k) :
    CrI g n m (partedL ts k) dn (E.set p (E.getD p [] ++ [ts.length + 1, ts.length])) false done (G ++ [k]) := by
  have hpl : p < E.length := by rw [hl, h.wk]; exact hp
  have hpush := held_push E p ts.length (ts.length + 1) hpl
  have hO := (h.inv.perm hE).parted hg hs
  refine ⟨hO.perm hpush.symm, by rw [List.length_set, hl]; exact h.wk, ?_, h.all, ?_⟩
  · symm
    rw [decide_eq_false_iff_not]
    intro e
    have := hpush.length_eq
    rw [e] at this
    simp at this
  · rw [partedL_len]
    have h1 : ((G ++ [k]) ++ held (E.set p (E.getD p [] ++ [ts.length + 1, ts.length]))).Perm ((G ++ [k]) ++ (held E ++ [ts.length, ts.length + 1])) := List.Perm.append_left _ hpush
    refine h1.trans ?_
    have h2 : (G ++ (k :: held E)).Perm (List.range ts.length) := (List.Perm.append_left G hE.symm).trans h.gone
    have e : (G ++ [k]) ++ (held E ++ [ts.length, ts.length + 1]) = (G ++ (k :: held E)) ++ [ts.length, ts.length + 1] := by simp
    rw [e, show ts.length + 2 = (ts.length + 1) + 1 by omega, List.range_succ, List.range_succ,
      show List.range ts.length ++ [ts.length] ++ [ts.length + 1] = List.range ts.length ++ [ts.length, ts.length + 1] by simp]
    exact List.Perm.append_right _ h2
/-- .. and done -/
theorem CrI.did {g n m : Nat} {ts : List Tk} {dn : List Bool} {D E : List (List Nat)} {over : Bool} {done : Nat} {G : List Nat} {k : Nat} (h : CrI g n m ts dn D over done G) (hE : (held D).Perm (k :: held E)) (hl : E.length = D.length) (hg : 1 ≤ g) (hs : ¬ g < sz ts k) :
    CrI g n m (climb (ts.length + 1) ts (T ts k).up).1 (marked dn (T ts k).lo.toNat (T ts k).hi.toNat) E (climb (ts.length + 1) ts (T ts k).up).2 (done + sz ts k) (G ++ [k]) := by
  have hI := h.inv.perm hE
  obtain ⟨h1, h2⟩ := hI.did hg hs
  have ht := hI.task k (hI.lt k (by simp))
  have hz := hI.szpos k (by simp)
  refine ⟨h1, by rw [hl]; exact h.wk, h2, ?_, ?_⟩
  · rw [doneN_marked dn _ _ (by omega) (by rw [hI.dl]; omega) (fun u hu1 hu2 => (hI.cov u (by omega)).2 ⟨k, by simp, by omega, by omega⟩), h.all]
    unfold sz; omega
  · rw [climb_len]
    have e : (G ++ [k]) ++ held E = G ++ (k :: held E) := by simp
    rw [e]
    exact (List.Perm.append_left G hE.symm).trans h.gone
/-- a task is open at most once, and gone at most once; what is gone isn't open -/
theorem CrI.fresh {g n m : Nat} {ts : List Tk} {dn : List Bool} {D : List (List Nat)} {over : Bool} {done : Nat} {G : List Nat} (h : CrI g n m ts dn D over done G) : G.Nodup ∧ (∀ k ∈ G, k < ts.length) ∧ (∀ k ∈ held D, k ∉ G) ∧ G.length + (held D).length = ts.length := by
  have hn : (G ++ held D).Nodup := h.gone.nodup_iff.2 List.nodup_range
  rw [List.nodup_append] at hn
  refine ⟨hn.1, fun k hk => List.mem_range.1 (h.gone.mem_iff.1 (List.mem_append_left _ hk)), fun k hk hG => hn.2.2 k hG k hk rfl, ?_⟩
  have := h.gone.length_eq
  simpa using this
/-- it is over, just if all units are done; else something is open -/
theorem CrI.over_iff {g n m : Nat} {ts : List Tk} {dn : List Bool} {D : List (List Nat)} {over : Bool} {done : Nat} {G : List Nat} (h : CrI g n m ts dn D over done G) : (over = true ↔ done = n) ∧ (over = false → 0 < (held D).length) := by
  have hu := h.inv.uns
  have hov := h.ov
  refine ⟨⟨fun ho => ?_, fun hd => ?_⟩, fun ho => ?_⟩
  · rw [hov, decide_eq_true_eq] at ho
    rw [ho] at hu
    simpa using hu
  · rw [hov, decide_eq_true_eq]
    cases hh : held D with
    | nil => rfl
    | cons k R =>
      rw [hh] at hu
      have := (h.inv.szpos k (by rw [hh]; simp)).1
      simp only [List.map_cons, List.sum_cons] at hu
      omega
  · rw [hov, decide_eq_false_iff_not] at ho
    exact List.length_pos_iff.2 ho

end Go.Proofs.Ytkpbanfpnilifaa.Plain

/- Plain words of a crew's step, as a function: what is taken, what a step leaves, a run of steps. No program in it. -/
namespace Go.Proofs.Ytkpbanfpnilifaa.Plain

/-- a crew's data -/
structure Cw where
  ts : List Tk
  dn : List Bool
  D : List (List Nat)
  over : Bool
  st : Nat
  id : Nat
deriving DecidableEq
/-- an event -/
structure Ev where
  wk : Int
  fr : Int
  tk : Int
  pt : Bool
deriving DecidableEq
def ev0 : Ev := ⟨0, 0, 0, false⟩
/-- a worker's number, cut -/
def cutN (m : Nat) (p : Int) : Nat := (p % (m : Int)).toNat
theorem cutN_lt (m : Nat) (p : Int) (hm : 1 ≤ m) : cutN m p < m := by
  unfold cutN
  have := Int.emod_nonneg p (by omega : (m : Int) ≠ 0)
  have := Int.emod_lt_of_pos p (by omega : (0 : Int) < m)
  omega
theorem cutN_eq (m : Nat) (p : Int) (hm : 1 ≤ m) : p % (m : Int) = (cutN m p : Int) := by
  unfold cutN
  have := Int.emod_nonneg p (by omega : (m : Int) ≠ 0)
  omega
theorem tmod_cut (m : Nat) (p : Int) (hm : 1 ≤ m) : (0 ≤ p.tmod m → p.tmod m = (cutN m p : Int)) ∧ (p.tmod m < 0 → p.tmod m + m = (cutN m p : Int)) := by
  rw [← cutN_eq m p hm]
  have hm' : (0 : Int) < m := by omega
  have h1 := Int.tmod_lt_of_pos p hm'
  have h3 := Int.emod_nonneg p (by omega : (m : Int) ≠ 0)
  have h4 := Int.emod_lt_of_pos p hm'
  have h5 := Int.emod_add_mul_ediv p m
  have h6 := Int.tmod_add_mul_tdiv p m
  have h2 : -(m : Int) < p.tmod m := by
    have := Int.neg_lt_of_neg_lt (Int.tmod_lt_of_pos (-p) hm' |> (by rw [Int.neg_tmod]; exact fun h => by omega : (-p).tmod m < m → -(m:Int) < p.tmod m))
    omega
  have hd : ∀ x y : Int, (m : Int) * x = m * y → x = y := fun x y h => Int.eq_of_mul_eq_mul_left (by omega) h
  constructor
  · intro h0
    have : p.tmod m = p % m := by
      have e : (m : Int) * (p / m - p.tdiv m) = p.tmod m - p % m := by rw [Int.mul_sub]; omega
      have hq : p / m - p.tdiv m = 0 := by
        rcases Int.lt_trichotomy (p / m - p.tdiv m) 0 with hh | hh | hh
        · have : (m : Int) * (p / m - p.tdiv m) ≤ m * (-1) := Int.mul_le_mul_of_nonneg_left (by omega) (by omega)
          omega
        · exact hh
        · have : (m : Int) * 1 ≤ m * (p / m - p.tdiv m) := Int.mul_le_mul_of_nonneg_left (by omega) (by omega)
          omega
      rw [hq] at e
      omega
    exact this
  · intro h0
    have e : (m : Int) * (p / m - p.tdiv m) = p.tmod m - p % m := by rw [Int.mul_sub]; omega
    have hq : p / m - p.tdiv m = -1 := by
      rcases Int.lt_trichotomy (p / m - p.tdiv m) (-1) with hh | hh | hh
      · have : (m : Int) * (p / m - p.tdiv m) ≤ m * (-2) := Int.mul_le_mul_of_nonneg_left (by omega) (by omega)
        omega
      · exact hh
      · have : (m : Int) * 0 ≤ m * (p / m - p.tdiv m) := Int.mul_le_mul_of_nonneg_left (by omega) (by omega)
        omega
    rw [hq] at e
    omega
/-- from whose deque P has a task, if Q is the victim -/
def srcN (D : List (List Nat)) (P Q : Nat) : Option Nat := if D.getD P [] ≠ [] then some P else if D.getD Q [] ≠ [] then some Q else none
/-- the task that is taken from F's deque by P, and what is left of that deque -/
def takeN (D : List (List Nat)) (P F : Nat) : Nat × List Nat := if F = P then ((D.getD F []).getLastD 0, (D.getD F []).dropLast) else ((D.getD F []).headD 0, (D.getD F []).tail)
/-- P goes at a task from F's deque -/
def goP (g : Nat) (c : Cw) (P F : Nat) : Cw × Ev :=
  let k := (takeN c.D P F).1
  let E := c.D.set F (takeN c.D P F).2
  if g < sz c.ts k then
    (⟨partedL c.ts k, c.dn, E.set P (E.getD P [] ++ [c.ts.length + 1, c.ts.length]), c.over, c.st + 1, c.id⟩, ⟨P, F, k, true⟩)
  else
    (⟨(climb (c.ts.length + 1) c.ts (T c.ts k).up).1, marked c.dn (T c.ts k).lo.toNat (T c.ts k).hi.toNat, E, c.over || (climb (c.ts.length + 1) c.ts (T c.ts k).up).2, c.st + 1, c.id⟩, ⟨P, F, k, false⟩)
/-- a step -/
def stepP (g m : Nat) (c : Cw) (p q : Int) : Cw × Ev :=
  match srcN c.D (cutN m p) (cutN m q) with
  | none => (⟨c.ts, c.dn, c.D, c.over, c.st + 1, c.id + 1⟩, ⟨cutN m p, -1, -1, false⟩)
  | some F => goP g c (cutN m p) F
/-- step by step -/
def runP (g m : Nat) : Cw → List (Int × Int) → Cw × List Ev
  | c, [] => (c, [])
  | c, x :: l => ((runP g m (stepP g m c x.1 x.2).1 l).1, (stepP g m c x.1 x.2).2 :: (runP g m (stepP g m c x.1 x.2).1 l).2)
/-- a crew at its beginning -/
def beginC (n m : Nat) : Cw := ⟨[⟨0, n, -1, 0⟩], List.replicate n false, [0] :: List.replicate (m - 1) [], false, 0, 0⟩

/-- what stands of a crew -/
def CwI (g n m : Nat) (c : Cw) (done : Nat) (G : List Nat) : Prop := CrI g n m c.ts c.dn c.D c.over done G
theorem CwI.begin (g n m : Nat) (h1 : 1 ≤ n) (hm : 1 ≤ m) : CwI g n m (beginC n m) 0 [] := CrI.begin g n m h1 hm
theorem getLastD_snoc (xs : List Nat) (h : xs ≠ []) : xs = xs.dropLast ++ [xs.getLastD 0] := by
  rw [List.getLastD_eq_getLast?, List.getLast?_eq_some_getLast h]
  exact (List.dropLast_concat_getLast h).symm
theorem head_tail (xs : List Nat) (h : xs ≠ []) : xs = xs.headD 0 :: xs.tail := by
  cases xs with
  | nil => exact absurd rfl h
  | cons a l => rfl
theorem srcN_some {D : List (List Nat)} {P Q F : Nat} (h : srcN D P Q = some F) : D.getD F [] ≠ [] ∧ (F = P ∨ (F = Q ∧ F ≠ P ∧ D.getD P [] = [])) := by
  unfold srcN at h
  by_cases h1 : D.getD P [] ≠ []
  · rw [if_pos h1] at h; cases h; exact ⟨h1, .inl rfl⟩
  · rw [if_neg h1] at h
    by_cases h2 : D.getD Q [] ≠ []
    · rw [if_pos h2] at h; cases h
      exact ⟨h2, .inr ⟨rfl, fun e => h1 (e ▸ h2), by simpa using h1⟩⟩
    · rw [if_neg h2] at h; cases h
theorem srcN_none {D : List (List Nat)} {P Q : Nat} (h : srcN D P Q = none) : D.getD P [] = [] ∧ D.getD Q [] = [] := by
  unfold srcN at h
  by_cases h1 : D.getD P [] ≠ []
  · rw [if_pos h1] at h; cases h
  · rw [if_neg h1] at h
    by_cases h2 : D.getD Q [] ≠ []
    · rw [if_pos h2] at h; cases h
    · exact ⟨by simpa using h1, by simpa using h2⟩
theorem take_held {D : List (List Nat)} {P F : Nat} (hF : F < D.length) (h : D.getD F [] ≠ []) : (held D).Perm ((takeN D P F).1 :: held (D.set F (takeN D P F).2)) := by
  unfold takeN
  by_cases e : F = P
  · rw [if_pos e]
    exact held_pop D F _ _ hF (getLastD_snoc _ h)
  · rw [if_neg e]
    exact held_steal D F _ _ hF (head_tail _ h)
/-- of what stands, a step leaves: idle; parted; done -/
theorem CwI.step {g n m : Nat} {c : Cw} {done : Nat} {G : List Nat} (h : CwI g n m c done G) (hg : 1 ≤ g) (hm : 1 ≤ m) (p q : Int) :
    ((stepP g m c p q) = (⟨c.ts, c.dn, c.D, c.over, c.st + 1, c.id + 1⟩, ⟨cutN m p, -1, -1, false⟩) ∧ c.D.getD (cutN m p) [] = [] ∧ CwI g n m (stepP g m c p q).1 done G) ∨
    (∃ k F : Nat, F < m ∧ (F = cutN m p ∨ c.D.getD (cutN m p) [] = []) ∧ k = (takeN c.D (cutN m p) F).1 ∧ (stepP g m c p q).2 = ⟨cutN m p, F, k, true⟩ ∧ (stepP g m c p q).1.ts = partedL c.ts k ∧ (stepP g m c p q).1.id = c.id ∧ k ∈ held c.D ∧ k < c.ts.length ∧ CwI g n m (stepP g m c p q).1 done (G ++ [k])) ∨
    (∃ k F : Nat, F < m ∧ (F = cutN m p ∨ c.D.getD (cutN m p) [] = []) ∧ k = (takeN c.D (cutN m p) F).1 ∧ (stepP g m c p q).2 = ⟨cutN m p, F, k, false⟩ ∧ SameBut c.ts (stepP g m c p q).1.ts ∧ (stepP g m c p q).1.id = c.id ∧ k ∈ held c.D ∧ k < c.ts.length ∧ ((T c.ts k).hi - (T c.ts k).lo = sz c.ts k) ∧ CwI g n m (stepP g m c p q).1 (done + sz c.ts k) (G ++ [k])) := by
  have hwk : c.D.length = m := CrI.wk h
  unfold stepP
  cases hs : srcN c.D (cutN m p) (cutN m q) with
  | none => exact .inl ⟨rfl, (srcN_none hs).1, h⟩
  | some F =>
    obtain ⟨hne, hor⟩ := srcN_some hs
    have hF : F < m := by
      rcases hor with rfl | ⟨rfl, _⟩ <;> exact cutN_lt m _ hm
    have hP := cutN_lt m p hm
    have hor' : F = cutN m p ∨ c.D.getD (cutN m p) [] = [] := by rcases hor with h1 | ⟨_, _, h1⟩; exact .inl h1; exact .inr h1
    have hE := take_held (P := cutN m p) (by omega : F < c.D.length) hne
    have hmem : (takeN c.D (cutN m p) F).1 ∈ held c.D := hE.mem_iff.2 (by simp)
    have hov : c.over = false := by
      have := CrI.ov h
      rw [this, decide_eq_false_iff_not]
      intro e; rw [e] at hmem; cases hmem
    have hlt := (CrI.inv h).lt _ hmem
    by_cases hz : g < sz c.ts (takeN c.D (cutN m p) F).1
    · refine .inr (.inl ⟨_, F, hF, hor', rfl, ?_⟩)
      simp only [goP, if_pos hz]
      refine ⟨trivial, trivial, trivial, hmem, hlt, ?_⟩
      have := CrI.part h hE (by simp) hP hg hz
      unfold CwI
      rw [hov]; exact this
    · refine .inr (.inr ⟨_, F, hF, hor', rfl, ?_⟩)
      simp only [goP, if_neg hz]
      refine ⟨trivial, climb_same _ _ _, trivial, hmem, hlt, ((CrI.inv h).szpos _ hmem).2.2, ?_⟩
      have := CrI.did h hE (by simp) hg hz
      unfold CwI
      rw [hov, Bool.false_or]; exact this
theorem CwI.stepD {g n m : Nat} {c : Cw} {done : Nat} {G : List Nat} (h : CwI g n m c done G) (hg : 1 ≤ g) (hm : 1 ≤ m) (p q : Int) : ∃ done' G', CwI g n m (stepP g m c p q).1 done' G' := by
  rcases h.step hg hm p q with ⟨_, _, h⟩ | ⟨_, _, _, _, _, _, _, _, _, _, h⟩ | ⟨_, _, _, _, _, _, _, _, _, _, _, h⟩ <;> exact ⟨_, _, h⟩
theorem stepP_st (g m : Nat) (c : Cw) (p q : Int) : (stepP g m c p q).1.st = c.st + 1 ∧ c.id ≤ (stepP g m c p q).1.id ∧ (stepP g m c p q).1.id ≤ c.id + 1 := by
  unfold stepP goP
  split
  · exact ⟨rfl, Nat.le_succ _, Nat.le_refl _⟩
  · simp only; split <;> exact ⟨rfl, Nat.le_refl _, Nat.le_succ _⟩
end Go.Proofs.Ytkpbanfpnilifaa.Plain

/- The document's Right and Great of work. -/
namespace Go.Proofs.Ytkpbanfpnilifaa
open Go.RowKit Go.Proofs.Ytkpbanfpnilifaa.Plain

end Go.Proofs.Ytkpbanfpnilifaa

/- The program's small words of work: sized, half, great, fits; clones of tasks, of units. -/
namespace Go.Proofs.Ytkpbanfpnilifaa
open Go.RowKit Go.Proofs.Ytkpbanfpnilifaa.Plain

theorem sized_any (n g : Int) (w : World) (hn : in64 n) (hg : in64 g) :
    Calls Try.prog 49 #[.int .i64 n, .int .i64 g] w fun e w' => e = .returned (.bool (cOk n g)) ∧ w = w' := by
  unfold in64 at hn hg
  unfold cOk
  go_enter Try.func49, Try.ntmps49
  go_wp2
  all_goals go_ret
  all_goals exact ⟨ret_bool (by simp; try omega), rfl⟩

theorem half_any (n : Int) (w : World) (hn : in64 n) (h0 : 0 ≤ n) :
    Calls Try.prog 80 #[.int .i64 n] w fun e w' => e = .returned (.int .i64 (n / 2)) ∧ w = w' := by
  unfold in64 at hn
  obtain ⟨m, rfl⟩ : ∃ m : Nat, n = m := ⟨n.toNat, by omega⟩
  go_enter Try.func80, Try.ntmps80
  go_wp2
  go_ret
  exact ⟨rfl, rfl⟩

theorem great_any (lo hi up wt g : Int) (w : World) (hd : in64 (hi - lo)) (hg : in64 g) :
    Calls Try.prog 79 #[.agg #[.int .i64 lo, .int .i64 hi, .int .i64 up, .int .i64 wt], .int .i64 g] w fun e w' => e = .returned (.bool (decide (g < hi - lo))) ∧ Ext w w' := by
  unfold in64 at hd hg
  obtain ⟨d1, d2⟩ := hd
  obtain ⟨g1, g2⟩ := hg
  go_enter Try.func79, Try.ntmps79
  go_wp2
  go_ret
  exact ⟨ret_bool (by first | rfl | (simp; done) | (simp; omega)), (Ext.refl w).alloc _⟩

set_option maxHeartbeats 400000 in
theorem fits_any (lo hi up wt : Int) (i n : Nat) (w : World) (h1 : in64 lo) (_h2 : in64 hi) (h3 : in64 up) (h4 : in64 wt) (_hi : i ≤ 9223372036854775807) (_hn : n ≤ 9223372036854775807) :
    Calls Try.prog 71 #[.agg #[.int .i64 lo, .int .i64 hi, .int .i64 up, .int .i64 wt], .int .i64 i, .int .i64 n] w fun e w' => e = .returned (.bool (tkOk n i ⟨lo, hi, up, wt⟩)) ∧ Ext w w' := by
  unfold in64 at h1 _h2 h3 h4
  unfold tkOk
  go_enter Try.func71, Try.ntmps71
  go_wp2
  all_goals go_ret
  all_goals exact ⟨ret_bool (by simp; try omega), (Ext.refl w).alloc _⟩

set_option maxHeartbeats 400000 in
theorem clone_t (v : Value) (xs : List Tk) (w : World) (h : Rd kTask w v xs) (hl : xs.length ≤ 1048576) :
    Calls Try.prog 55 #[v] w fun e w' => ∃ A c, e = .returned (.slice A xs.length c) ∧ Ow kTask w.heap.size w' (.slice A xs.length c) xs ∧ Ext w w' := by
  have HI := Lib.hid h
  obtain ⟨A, cap, rfl, hcap⟩ := h.slice
  have hlen := h.len
  have hnil := fun (w : World) (a : Option Addr) (n c : Nat) => Lib.run_eql_slice_nil w 76 107 a n c 0 0 Try.underlying76
  cases A with
  | none =>
    have h0 : xs = [] := by
      cases xs with
      | nil => rfl
      | cons a l => obtain ⟨b, off, h', _⟩ := h.cells (by simp); cases h'
    clear h
    subst h0
    go_enter Try.func55, Try.ntmps55
    go_wp2
    go_ret
    exact ⟨_, _, rfl, Ow.nil _ _, Ext.refl _⟩
  | some ad =>
    clear h
    go_enter Try.func55, Try.ntmps55
    go_wp2_with (at_builtin; refine kTask.wpList_app (by rfl) _ _ rfl rfl w.heap.size _ [] rfl (Ow.emptyAt w rfl (Nat.le_refl _)) _ xs rfl (HI.out.ext ((Ext.refl w).alloc _)) (by simpa using hl) (by simp) ?_; intro u w1 hown hgrow hat)
    go_ret
    obtain ⟨A1, c1, rfl, _⟩ := hown.slice
    refine ⟨A1, c1, rfl, hown, ((Ext.refl w).alloc _).grown hgrow (fun k hk => ?_)⟩
    cases hk; exact Nat.le_refl _

set_option maxHeartbeats 400000 in
theorem clone_b (v : Value) (xs : List Bool) (w : World) (h : Rd kBool w v xs) (hl : xs.length ≤ 1048576) :
    Calls Try.prog 56 #[v] w fun e w' => ∃ A c, e = .returned (.slice A xs.length c) ∧ Ow kBool w.heap.size w' (.slice A xs.length c) xs ∧ Ext w w' := by
  have HI := Lib.hid h
  obtain ⟨A, cap, rfl, hcap⟩ := h.slice
  have hlen := h.len
  have hnil := fun (w : World) (a : Option Addr) (n c : Nat) => Lib.run_eql_slice_nil w 56 4 a n c 0 0 Try.underlying56
  cases A with
  | none =>
    have h0 : xs = [] := by
      cases xs with
      | nil => rfl
      | cons a l => obtain ⟨b, off, h', _⟩ := h.cells (by simp); cases h'
    clear h
    subst h0
    go_enter Try.func56, Try.ntmps56
    go_wp2
    go_ret
    exact ⟨_, _, rfl, Ow.nil _ _, Ext.refl _⟩
  | some ad =>
    clear h
    go_enter Try.func56, Try.ntmps56
    go_wp2_with (at_builtin; refine kBool.wpList_app (by rfl) _ _ rfl rfl w.heap.size _ [] rfl (Ow.emptyAt w rfl (Nat.le_refl _)) _ xs rfl (HI.out.ext ((Ext.refl w).alloc _)) (by simpa using hl) (by simp) ?_; intro u w1 hown hgrow hat)
    go_ret
    obtain ⟨A1, c1, rfl, _⟩ := hown.slice
    refine ⟨A1, c1, rfl, hown, ((Ext.refl w).alloc _).grown hgrow (fun k hk => ?_)⟩
    cases hk; exact Nat.le_refl _

end Go.Proofs.Ytkpbanfpnilifaa

/- The program's Right, asked and Great of work. -/
namespace Go.Proofs.Ytkpbanfpnilifaa
open Go.BigFrame
open Go.RowKit Go.Proofs.Ytkpbanfpnilifaa.Plain

theorem sized_right (ts : List Tk) (g : Int) (n : Nat) : wSized g n ts.length = (cOk n g && decide (1 ≤ ts.length) && decide (ts.length ≤ 2000)) := by
  unfold wSized cOk
  rw [Bool.eq_iff_iff]
  simp only [Bool.and_eq_true, decide_eq_true_eq]
  omega

set_option maxHeartbeats 800000 in
set_option maxRecDepth 100000 in
theorem right_any (A B : Option Addr) (c d n : Nat) (ts : List Tk) (g : Int) (w : World) (h : Rd kTask w (.slice A ts.length c) ts) (hn : n ≤ 9223372036854775807) (hg : in64 g) :
    Calls Try.prog 63 #[.agg #[.slice A ts.length c, .int .i64 g, .slice B n d]] w fun e w' => e = .returned (.bool (wRight ts g n)) ∧ Ext w w' := by
  have H := Lib.hid h
  have hm := h.len
  have HG := Lib.hid hg
  have HN : Hid (in64 (n : Int)) := Lib.hid (by unfold in64; omega)
  clear h
  cases hc : cOk n g with
  | false =>
    have HC := Lib.hid hc
    have HR : Hid (wRight ts g n = false) := Lib.hid (by unfold wRight; rw [sized_right, hc]; rfl)
    clear hc
    go_enter Try.func63, Try.ntmps63
    go_wp2_with fail
    refine (sized_any _ _ _ HN.out HG.out).mono ?_
    rintro e w1 ⟨he, rfl⟩
    rw [HC.out] at he
    subst he
    go_wp2_with fail
    go_ret
    exact ⟨ret_bool HR.out.symm, (Ext.refl w).alloc _⟩
  | true =>
    have HC := Lib.hid hc
    by_cases hs : 1 ≤ ts.length ∧ ts.length ≤ 2000
    · obtain ⟨a5, a6⟩ := hs
      have HR : Hid (wRight ts g n = wOkTo ts n ts.length) := Lib.hid (by unfold wRight; rw [sized_right, hc, decide_eq_true a5, decide_eq_true a6]; rfl)
      have b5 : (1 : Int) ≤ ts.length := by omega
      have b6 : (ts.length : Int) ≤ 2000 := by omega
      clear hc
      obtain ⟨b, off, rfl, hcc⟩ := Rd.tasks H.out (by omega)
      have HCC := Lib.hid hcc
      clear hcc
      go_enter Try.func63, Try.ntmps63
      go_wp2_with fail
      refine (sized_any _ _ _ HN.out HG.out).mono ?_
      rintro e w1 ⟨he, rfl⟩
      rw [HC.out] at he
      subst he
      go_wp2_with fail
      go_loopw [27] (fun i wr => ∃ k : Nat, k ≤ ts.length ∧ i = .int .i64 k ∧ wOkTo ts n k = true ∧ Ext (w.alloc (.cells #[.slice (some ⟨b, off, none⟩) ts.length c, .int .i64 g, .slice B n d] 78)) wr) (fun i _ => ts.length - (intOf i).toNat)
      case atStart => exact ⟨0, Nat.zero_le _, rfl, wOkTo_zero _ _, Ext.refl _⟩
      case round =>
        obtain ⟨k, hk, rfl, hok, hE⟩ := hrel
        have HOK := Lib.hid hok
        have x0 : wr.cell? ⟨w.heap.size, 0, none⟩ = some (.slice (some ⟨b, off, none⟩) ts.length c) := hE.cell (by go_simp)
        have x2 : wr.cell? ⟨w.heap.size, 2, none⟩ = some (.slice B n d) := hE.cell (by go_simp)
        have hsz := hE.size
        simp at hsz
        have l0 : w.heap.size < wr.heap.size := by omega
        have l1 : w.heap.size < wr.heap.size + 1 := by omega
        clear hok
        by_cases hlt : k < ts.length
        · have hlt' : (k : Int) < ts.length := by omega
          obtain ⟨y0, y1, y2, y3⟩ := HCC.out k hlt
          have hbd := H.out.okAt k hlt
          obtain ⟨⟨lo, hi, up, wt⟩, ht⟩ : ∃ t, ts.getD k tk0 = t := ⟨_, rfl⟩
          have ht' : ts.getD k ⟨0, 0, 0, 0⟩ = ⟨lo, hi, up, wt⟩ := ht
          rw [ht'] at y0 y1 y2 y3
          have hbd' : in64 lo ∧ in64 hi ∧ in64 up ∧ in64 wt := by
            have e : ts.getD k kTask.d = ⟨lo, hi, up, wt⟩ := ht
            rw [e] at hbd; exact hbd
          have HBD := Lib.hid hbd'
          have z0 := hE.cell (Lib.cell?_alloc_some _ y0)
          have z1 := hE.cell (Lib.cell?_alloc_some _ y1)
          have z2 := hE.cell (Lib.cell?_alloc_some _ y2)
          have z3 := hE.cell (Lib.cell?_alloc_some _ y3)
          simp only at z0 z1 z2 z3
          have HE := Lib.hid hE
          have HT := Lib.hid ht
          clear y0 y1 y2 y3 hbd hbd' ht' hE ht
          go_wp2_with fail
          refine (fits_any lo hi up wt k n _ HBD.out.1 HBD.out.2.1 HBD.out.2.2.1 HBD.out.2.2.2 (by omega) hn).mono ?_
          rintro e w2 ⟨he, hE2⟩
          have HE2 := Lib.hid (HE.out.trans (((Ext.refl _).alloc _).trans hE2))
          cases hto : tkOk n k ⟨lo, hi, up, wt⟩ with
          | false =>
            have H0 := Lib.hid (wOkTo_no ts n ts.length k hlt (by rw [HT.out]; exact hto))
            rw [hto] at he
            subst he
            clear hto hE2
            go_wp2_with fail
            go_ret
            exact ⟨ret_bool (by rw [HR.out, H0.out]), ((Ext.refl w).alloc _).trans HE2.out⟩
          | true =>
            have H0 : Hid (wOkTo ts n (k + 1) = true) := Lib.hid (by rw [wOkTo_succ, HOK.out, HT.out, hto]; rfl)
            rw [hto] at he
            subst he
            clear hto hE2
            go_wp2_with fail
            go_roundw
            case rel => exact ⟨k + 1, by omega, by go_num, H0.out, HE2.out⟩
            case measure => simp [intOf]; omega
        · have hk' : k = ts.length := by omega
          have HOK2 : Hid (wOkTo ts n ts.length = true) := Lib.hid (hk' ▸ HOK.out)
          have hlt' : ¬ (k : Int) < ts.length := by omega
          clear hk'
          go_wp2_with fail
          go_ret
          exact ⟨ret_bool (by rw [HR.out, HOK2.out]), ((Ext.refl w).alloc _).trans hE⟩
    · have HR : Hid (wRight ts g n = false) := Lib.hid (by
        unfold wRight; rw [sized_right, hc]
        have : (decide (1 ≤ ts.length) && decide (ts.length ≤ 2000)) = false := by simp; omega
        rw [Bool.true_and, this]; rfl)
      have hs2 : (ts.length : Int) < 1 ∨ 2000 < (ts.length : Int) := by omega
      clear hc hs
      rcases hs2 with hs2 | hs2
      all_goals
        go_enter Try.func63, Try.ntmps63
        go_wp2_with fail
        refine (sized_any _ _ _ HN.out HG.out).mono ?_
        rintro e w1 ⟨he, rfl⟩
        rw [HC.out] at he
        subst he
        go_wp2_with fail
        go_ret
        exact ⟨ret_bool HR.out.symm, (Ext.refl w).alloc _⟩

/-- may the work be, and is there an i-th task: 0, or why not -/
def askErr (ts : List Tk) (g : Int) (n : Nat) (i : Int) : Int := if wRight ts g n = false then 1 else if wHas ts.length i = false then 6 else 0
theorem askErr_ok {ts : List Tk} {g : Int} {n : Nat} {i : Int} (h1 : wRight ts g n = true) (h2 : wHas ts.length i = true) : askErr ts g n i = 0 := by unfold askErr; rw [if_neg (by rw [h1]; decide), if_neg (by rw [h2]; decide)]
theorem askErr_zero {ts : List Tk} {g : Int} {n : Nat} {i : Int} (h : askErr ts g n i = 0) : wRight ts g n = true ∧ wHas ts.length i = true := by
  unfold askErr at h
  cases h1 : wRight ts g n with
  | false => rw [if_pos h1] at h; simp at h
  | true =>
    cases h2 : wHas ts.length i with
    | false => rw [if_neg (by rw [h1]; decide), if_pos h2] at h; simp at h
    | true => exact ⟨rfl, rfl⟩

set_option maxHeartbeats 400000 in
set_option maxRecDepth 100000 in
theorem asked_any (A B : Option Addr) (c d n : Nat) (ts : List Tk) (g i : Int) (w : World) (h : Rd kTask w (.slice A ts.length c) ts) (hn : n ≤ 9223372036854775807) (hg : in64 g) (hi : in64 i) :
    Calls Try.prog 78 #[.agg #[.slice A ts.length c, .int .i64 g, .slice B n d], .int .i64 i] w fun e w' => e = .returned (.int .i64 (askErr ts g n i)) ∧ Ext w w' := by
  have H := Lib.hid h
  have hm := h.len
  have HG := Lib.hid hg
  obtain ⟨i1, i2⟩ := hi
  clear h
  go_enter Try.func78, Try.ntmps78
  go_wp2_with fail
  refine (right_any _ _ _ _ _ _ _ _ (H.out.ext ((Ext.refl w).alloc _)) hn HG.out).mono ?_
  rintro e w1 ⟨he, hE⟩
  have q0 : w1.cell? ⟨w.heap.size, 0, none⟩ = some (.slice A ts.length c) := hE.cell (by go_simp)
  have HE := Lib.hid (((Ext.refl w).alloc _).trans hE)
  clear hE
  cases hr : wRight ts g n with
  | false =>
    have HR : Hid (askErr ts g n i = 1) := Lib.hid (by unfold askErr; rw [if_pos hr])
    rw [hr] at he
    subst he
    clear hr
    go_wp2_with fail
    go_ret
    exact ⟨ret_int HR.out.symm, HE.out⟩
  | true =>
    rw [hr] at he
    subst he
    by_cases h0 : i < 0
    · have HR : Hid (askErr ts g n i = 6) := Lib.hid (by unfold askErr; rw [if_neg (by rw [hr]; decide), if_pos (by unfold wHas; simp; omega)])
      clear hr
      go_wp2_with fail
      go_ret
      exact ⟨ret_int HR.out.symm, HE.out⟩
    · by_cases h1 : i < (ts.length : Int)
      · have HR : Hid (askErr ts g n i = 0) := Lib.hid (askErr_ok hr (by unfold wHas; simp; omega))
        clear hr
        go_wp2_with fail
        go_ret
        exact ⟨ret_int HR.out.symm, HE.out⟩
      · have HR : Hid (askErr ts g n i = 6) := Lib.hid (by unfold askErr; rw [if_neg (by rw [hr]; decide), if_pos (by unfold wHas; simp; omega)])
        clear hr
        go_wp2_with fail
        go_ret
        exact ⟨ret_int HR.out.symm, HE.out⟩

end Go.Proofs.Ytkpbanfpnilifaa

/- The document's Copy of work. -/
namespace Go.Proofs.Ytkpbanfpnilifaa
open Go.RowKit Go.Proofs.Ytkpbanfpnilifaa.Plain

section
variable (w0 : World) (P : Nat) (A B : Option Addr) (c d : Nat) (ts : List Tk) (g : Int) (dn : List Bool) (w : World) (ds : List Value) (v : Value)
end

end Go.Proofs.Ytkpbanfpnilifaa

/- The document's Great of work: is a task to be parted? -/
namespace Go.Proofs.Ytkpbanfpnilifaa
open Go.BigFrame
open Go.RowKit Go.Proofs.Ytkpbanfpnilifaa.Plain

end Go.Proofs.Ytkpbanfpnilifaa

/- The document's Part of work. -/
namespace Go.Proofs.Ytkpbanfpnilifaa
open Go.BigFrame
open Go.RowKit Go.Proofs.Ytkpbanfpnilifaa.Plain

/-- the frame of Part and of Do: its work, and its answer's cells -/
def PAt (w : World) (A B : Option Addr) (c d n m : Nat) (g : Int) (w' : World) : Prop := Ext ((w.alloc (.cells #[.slice A m c, .int .i64 g, .slice B n d] 78)).alloc (.cells #[.slice none 0 0, .int .i64 0, .slice none 0 0] 78)) w'
theorem PAt.cells {w : World} {A B : Option Addr} {c d n m : Nat} {g : Int} {w' : World} (h : PAt w A B c d n m g w') :
    w'.cell? ⟨w.heap.size, 0, none⟩ = some (.slice A m c) ∧ w'.cell? ⟨w.heap.size, 1, none⟩ = some (.int .i64 g) ∧ w'.cell? ⟨w.heap.size, 2, none⟩ = some (.slice B n d) := by
  unfold PAt at h
  exact ⟨h.cell (by go_simp), h.cell (by go_simp), h.cell (by go_simp)⟩
theorem PAt.out {w : World} {A B : Option Addr} {c d n m : Nat} {g : Int} {w' : World} (h : PAt w A B c d n m g w') :
    w'.cell? ⟨w.heap.size + 1, 0, none⟩ = some (.slice none 0 0) ∧ w'.cell? ⟨w.heap.size + 1, 1, none⟩ = some (.int .i64 0) ∧ w'.cell? ⟨w.heap.size + 1, 2, none⟩ = some (.slice none 0 0) ∧ ∀ o, w'.frozen? ⟨w.heap.size + 1, o, none⟩ = false := by
  unfold PAt at h
  exact ⟨h.cell (by go_simp), h.cell (by go_simp), h.cell (by go_simp), fun o => (Below.frozen h (p := ⟨w.heap.size + 1, o, none⟩) (by simp)).trans (by go_simp)⟩
theorem PAt.ext {w : World} {A B : Option Addr} {c d n m : Nat} {g : Int} {w' : World} (h : PAt w A B c d n m g w') : Ext w w' := by
  unfold PAt at h
  exact (((Ext.refl w).alloc _).alloc _).trans h
theorem PAt.go {w : World} {A B : Option Addr} {c d n m : Nat} {g : Int} {w' w'' : World} (h : PAt w A B c d n m g w') (hE : Ext w' w'') : PAt w A B c d n m g w'' := Ext.trans h hE
end Go.Proofs.Ytkpbanfpnilifaa

/- The document's Part of work, where it parts. -/
namespace Go.Proofs.Ytkpbanfpnilifaa
open Go.BigFrame
open Go.RowKit Go.Proofs.Ytkpbanfpnilifaa.Plain

/-- the walk stops here -/
def Stop (p : Prop) : Prop := p
theorem Stop.to {p : Prop} (h : Stop p) : p := h
theorem Stop.of {p : Prop} (h : p) : Stop p := h
theorem grown_far {w w' : World} {row : Option Nat} {b : Nat} (hg : w.grownBy w' row) (hb : b < w.heap.size) (hne : some b ≠ row) :
    (∀ o, w'.cell? ⟨b, o, none⟩ = w.cell? ⟨b, o, none⟩) ∧ (∀ o, w'.frozen? ⟨b, o, none⟩ = w.frozen? ⟨b, o, none⟩) :=
  ⟨fun o => World.cell?_of_block (a := ⟨b, o, none⟩) (hg.block b hb hne), fun o => World.frozen?_of_block (a := ⟨b, o, none⟩) (hg.block b hb hne)⟩
theorem PAt.two {w : World} {A B : Option Addr} {c d n m : Nat} {g : Int} {w' : World} (h : PAt w A B c d n m g w') : w.heap.size + 2 ≤ w'.heap.size := by
  have := Ext.size h
  simpa using this
theorem right_n {ts : List Tk} {g : Int} {n : Nat} (h : wRight ts g n = true) : 1 ≤ n ∧ n ≤ 1000 ∧ 1 ≤ ts.length ∧ ts.length ≤ 2000 ∧ 1 ≤ g ∧ g ≤ 100 := by
  unfold wRight at h
  rw [Bool.and_eq_true, wSized_iff] at h
  omega
theorem right_ok {ts : List Tk} {g : Int} {n : Nat} (h : wRight ts g n = true) (j : Nat) (hj : j < ts.length) : tkOk n j (ts.getD j tk0) = true := by
  unfold wRight at h
  rw [Bool.and_eq_true] at h
  exact wOkTo_at ts n ts.length h.2 j hj
/-- the tasks, the j-th of them parted -/
def partedTs (ts : List Tk) (j : Nat) : List Tk :=
  ts.set j ⟨(ts.getD j tk0).lo, (ts.getD j tk0).hi, (ts.getD j tk0).up, 2⟩ ++
    [⟨(ts.getD j tk0).lo, (ts.getD j tk0).lo + ((ts.getD j tk0).hi - (ts.getD j tk0).lo) / 2, j, 0⟩, ⟨(ts.getD j tk0).lo + ((ts.getD j tk0).hi - (ts.getD j tk0).lo) / 2, (ts.getD j tk0).hi, j, 0⟩]
/-- what Part gives -/
def PartSaid (w : World) (ts : List Tk) (g : Int) (dn : List Bool) (j : Nat) (e : Ending) (w' : World) : Prop :=
  ∃ A c B d, e = .returned (.tuple #[.agg #[.slice A (partedTs ts j).length c, .int .i64 g, .slice B dn.length d], .int .i64 ts.length, .int .i64 (ts.length + 1), .int .i64 0]) ∧
    Rd kTask w' (.slice A (partedTs ts j).length c) (partedTs ts j) ∧ Rd kBool w' (.slice B dn.length d) dn ∧ From w.heap.size A ∧ From w.heap.size B ∧ Ext w w'

/-- Part's word: 0, or why not -/
def partErr (ts : List Tk) (g : Int) (n : Nat) (i : Int) : Int :=
  if wRight ts g n = false then 1 else if wHas ts.length i = false then 6 else if wGreat ts g n i = false then 5 else if (tkAt ts i).wt ≠ 0 then 5 else if 1998 < ts.length then 2 else 0

end Go.Proofs.Ytkpbanfpnilifaa

/- The document's Do of work: what it refuses. Written by wip/mk_tdo.py. -/
namespace Go.Proofs.Ytkpbanfpnilifaa
open Go.BigFrame
open Go.RowKit Go.Proofs.Ytkpbanfpnilifaa.Plain

end Go.Proofs.Ytkpbanfpnilifaa

/- The document's Do of work, where it does. Written by wip/mk_tdo2.py. -/
namespace Go.Proofs.Ytkpbanfpnilifaa
open Go.BigFrame
open Go.RowKit Go.Proofs.Ytkpbanfpnilifaa.Plain

/-- the world while Do marks and climbs: its own tasks and units, all else as it was -/
structure DAt (w W : World) (B ga gb c3 d3 : Nat) (wr : World) (us : List Tk) (ds : List Bool) : Prop where
  far : ∀ b o, b < W.heap.size → b ≠ ga → b ≠ gb → wr.cell? ⟨b, o, none⟩ = W.cell? ⟨b, o, none⟩
  fro : ∀ b o, b < W.heap.size → b ≠ ga → b ≠ gb → wr.frozen? ⟨b, o, none⟩ = W.frozen? ⟨b, o, none⟩
  own : Ow kTask B wr (.slice (some ⟨ga, 0, none⟩) us.length c3) us
  dns : Ow kBool B wr (.slice (some ⟨gb, 0, none⟩) ds.length d3) ds
  ext : Ext w wr
theorem DAt.cell {w W : World} {B ga gb c3 d3 : Nat} {wr : World} {us : List Tk} {ds : List Bool} (h : DAt w W B ga gb c3 d3 wr us ds) {b o : Nat} {v : Value} (hc : W.cell? ⟨b, o, none⟩ = some v) (h1 : b ≠ ga) (h2 : b ≠ gb) : wr.cell? ⟨b, o, none⟩ = some v :=
  (h.far b o (World.block_lt_of_cell? _ _ hc) h1 h2).trans hc
theorem DAt.unit {w W : World} {B ga gb c3 d3 : Nat} {wr : World} {us : List Tk} {ds : List Bool} (h : DAt w W B ga gb c3 d3 wr us ds) {k : Nat} (hk : k < ds.length) : wr.cell? ⟨gb, k, none⟩ = some (.bool (ds.getD k false)) ∧ wr.frozen? ⟨gb, k, none⟩ = false := by
  obtain ⟨g', e, _, _, h3, h4⟩ := Ow.pos h.dns (by omega)
  cases e
  have := h3 k hk 0 (.bool (ds.getD k false)) rfl
  exact ⟨by simpa [kBool] using this, h4 k⟩
theorem DAt.mark {w W : World} {B ga gb c3 d3 : Nat} {wr : World} {us : List Tk} {ds : List Bool} (h : DAt w W B ga gb c3 d3 wr us ds) {k : Nat} (hk : k < ds.length) (hw : w.heap.size ≤ gb) (hne : ga ≠ gb) : DAt w W B ga gb c3 d3 (wr.setCell ⟨gb, k, none⟩ (.bool true)) us (ds.set k true) where
  far b o hb h1 h2 := by rw [← h.far b o hb h1 h2]; exact World.cell?_setCell_far _ _ _ _ (fun e => h2 e.symm)
  fro b o hb h1 h2 := by rw [← h.fro b o hb h1 h2]; first | rfl | (go_simp; done) | (simp [World.frozen?, World.setCell]; done)
  own := h.own.setOther (p := ⟨gb, k, none⟩) (by simp [Value.ownBlock, hne]) _
  dns := by
    rw [List.length_set]
    have := h.dns.set (j := k) (i := 0) (x := true) (u := .bool true) hk (by decide) rfl trivial
    simpa [kBool] using this
  ext := h.ext.setCell (p := ⟨gb, k, none⟩) hw _

theorem DAt.task {w W : World} {B ga gb c3 d3 : Nat} {wr : World} {us : List Tk} {ds : List Bool} (h : DAt w W B ga gb c3 d3 wr us ds) {k : Nat} (hk : k < us.length) {lo hi up wt : Int} (ht : us.getD k tk0 = ⟨lo, hi, up, wt⟩) :
    wr.cell? ⟨ga, k * 4 + 2, none⟩ = some (.int .i64 up) ∧ wr.cell? ⟨ga, k * 4 + 3, none⟩ = some (.int .i64 wt) ∧ (∀ o, wr.frozen? ⟨ga, o, none⟩ = false) ∧ in64 up ∧ in64 wt := by
  obtain ⟨g', e, _, _, h3, h4⟩ := Ow.pos h.own (by omega)
  cases e
  have e0 : us.getD k kTask.d = ⟨lo, hi, up, wt⟩ := ht
  have := h.own.rd.okAt k hk
  rw [e0] at this
  exact ⟨h3 k hk 2 (.int .i64 up) (by rw [e0]; rfl), h3 k hk 3 (.int .i64 wt) (by rw [e0]; rfl), h4, this.2.2.1, this.2.2.2⟩
theorem DAt.wait {w W : World} {B ga gb c3 d3 : Nat} {wr : World} {us : List Tk} {ds : List Bool} (h : DAt w W B ga gb c3 d3 wr us ds) {k : Nat} (hk : k < us.length) {lo hi up wt : Int} (ht : us.getD k tk0 = ⟨lo, hi, up, wt⟩) (hwt : 1 ≤ wt) (hw : w.heap.size ≤ ga) (hne : ga ≠ gb) : DAt w W B ga gb c3 d3 (wr.setCell ⟨ga, k * 4 + 3, none⟩ (.int .i64 (wt - 1))) (wless us k) ds where
  far b o hb h1 h2 := by rw [← h.far b o hb h1 h2]; exact World.cell?_setCell_far _ _ _ _ (fun e => h1 e.symm)
  fro b o hb h1 h2 := by rw [← h.fro b o hb h1 h2]; first | rfl | (go_simp; done) | (simp [World.frozen?, World.setCell]; done)
  own := by
    rw [wless_len]
    have e0 : us.getD k kTask.d = ⟨lo, hi, up, wt⟩ := ht
    have ok := h.own.rd.okAt k hk
    rw [e0] at ok
    have := h.own.set (j := k) (i := 3) (x := ⟨lo, hi, up, wt - 1⟩) (u := .int .i64 (wt - 1)) hk (by decide) (by rw [e0]; rfl) (tk_ok ok.1 ok.2.1 ok.2.2.1 (by have h9 : in64 wt := ok.2.2.2; unfold in64 at h9 ⊢; omega))
    unfold wless; rw [ht]; exact this
  dns := h.dns.setOther (p := ⟨ga, k * 4 + 3, none⟩) (by simp [Value.ownBlock]; omega) _
  ext := h.ext.setCell (p := ⟨ga, k * 4 + 3, none⟩) hw _

/-- what Do gives -/
def DoSaid (w : World) (ts : List Tk) (g : Int) (dn : List Bool) (j : Nat) (e : Ending) (w' : World) : Prop :=
  ∃ A c B d, e = .returned (.tuple #[.agg #[.slice A ts.length c, .int .i64 g, .slice B dn.length d], .bool (climb (ts.length + 1) ts (ts.getD j tk0).up).2, .int .i64 0]) ∧
    Rd kTask w' (.slice A ts.length c) (climb (ts.length + 1) ts (ts.getD j tk0).up).1 ∧ Rd kBool w' (.slice B dn.length d) (marked dn (ts.getD j tk0).lo.toNat (ts.getD j tk0).hi.toNat) ∧ From w.heap.size A ∧ From w.heap.size B ∧ Ext w w'

theorem DAt.said {w W : World} {B ga gb c3 d3 : Nat} {wr : World} {us ts : List Tk} {dn : List Bool} {L R j : Nat} {g : Int} {q : Bool} (h : DAt w W B ga gb c3 d3 wr us (marked dn L R)) (hl : us.length = ts.length) (hm : (marked dn L R).length = dn.length)
    (hc : climb (ts.length + 1) ts (ts.getD j tk0).up = (us, q)) (hB : w.heap.size + 1 < B) (hlo : (ts.getD j tk0).lo = L) (hhi : (ts.getD j tk0).hi = R) (x y z : Value) :
    DoSaid w ts g dn j (.returned (.tuple #[.agg #[.slice (some ⟨ga, 0, none⟩) ts.length c3, .int .i64 g, .slice (some ⟨gb, 0, none⟩) dn.length d3], .bool q, .int .i64 0])) (((wr.setCell ⟨w.heap.size + 1, 0, none⟩ x).setCell ⟨w.heap.size + 1, 1, none⟩ y).setCell ⟨w.heap.size + 1, 2, none⟩ z) := by
  have ho := h.own
  have hd := h.dns
  rw [hl] at ho
  rw [hm] at hd
  refine ⟨_, _, _, _, by rw [hc], ?_, ?_, (ho.from).mono (by omega), (hd.from).mono (by omega), ?_⟩
  · rw [hc]
    exact (((ho.setBelow (p := ⟨w.heap.size + 1, 0, none⟩) hB _).setBelow (p := ⟨w.heap.size + 1, 1, none⟩) hB _).setBelow (p := ⟨w.heap.size + 1, 2, none⟩) hB _).rd
  · rw [hlo, hhi, Int.toNat_natCast, Int.toNat_natCast]
    exact (((hd.setBelow (p := ⟨w.heap.size + 1, 0, none⟩) hB _).setBelow (p := ⟨w.heap.size + 1, 1, none⟩) hB _).setBelow (p := ⟨w.heap.size + 1, 2, none⟩) hB _).rd
  · exact ((h.ext.setCell (p := ⟨w.heap.size + 1, 0, none⟩) (by show _ ≤ w.heap.size + 1; omega) _).setCell (p := ⟨w.heap.size + 1, 1, none⟩) (by show _ ≤ w.heap.size + 1; omega) _).setCell (p := ⟨w.heap.size + 1, 2, none⟩) (by show _ ≤ w.heap.size + 1; omega) _

end Go.Proofs.Ytkpbanfpnilifaa

/- The document's Do of work, whole. -/
namespace Go.Proofs.Ytkpbanfpnilifaa
open Go.RowKit Go.Proofs.Ytkpbanfpnilifaa.Plain

/-- Do's word: 0, or why not -/
def doErr (ts : List Tk) (g : Int) (dn : List Bool) (i : Int) : Int :=
  if wRight ts g dn.length = false then 1 else if wHas ts.length i = false then 6 else if wGreat ts g dn.length i = true then 5 else if (tkAt ts i).wt ≠ 0 then 5 else if dn.getD (tkAt ts i).lo.toNat false = true then 5 else 0

end Go.Proofs.Ytkpbanfpnilifaa

/- The program's copy of work, its Begin, and what is finished. -/
namespace Go.Proofs.Ytkpbanfpnilifaa
open Go.BigFrame
open Go.RowKit Go.Proofs.Ytkpbanfpnilifaa.Plain

set_option maxHeartbeats 1600000 in
set_option maxRecDepth 100000 in
theorem copied_any (A B : Option Addr) (c d : Nat) (ts : List Tk) (g : Int) (dn : List Bool) (w : World) (h : Rd kTask w (.slice A ts.length c) ts) (h' : Rd kBool w (.slice B dn.length d) dn) (hl : ts.length ≤ 1048576) (hl' : dn.length ≤ 1048576) :
    Calls Try.prog 77 #[.agg #[.slice A ts.length c, .int .i64 g, .slice B dn.length d]] w fun e w' => ∃ A c B d, e = .returned (.agg #[.slice A ts.length c, .int .i64 g, .slice B dn.length d]) ∧
      Ow kTask w.heap.size w' (.slice A ts.length c) ts ∧ Ow kBool w.heap.size w' (.slice B dn.length d) dn ∧ Ext w w' := by
  have H := Lib.hid h
  have HD := Lib.hid h'
  clear h h'
  go_enter Try.func77, Try.ntmps77
  go_wp2
  go_region_held3 (fun w' => w'.cell? ⟨w.heap.size, 0, none⟩ = some (.slice A ts.length c) ∧ w'.cell? ⟨w.heap.size, 1, none⟩ = some (.int .i64 g) ∧ w'.cell? ⟨w.heap.size, 2, none⟩ = some (.slice B dn.length d))
    (first | go_keep | exact ⟨c21, c22, c23⟩ | exact ⟨c11, c12, c13⟩)
    (first
      | (go_at_call_of 55 (Value.slice A ts.length c)
         refine (clone_t _ _ _ (H.out.ext (((Ext.refl w).alloc _).alloc _).drew) hl).mono ?_
         rintro e w1 ⟨A1, c1, rfl, ho1, hE1⟩
         have c11 : w1.cell? ⟨w.heap.size, 0, none⟩ = some (.slice A ts.length c) := hE1.cell (by go_simp)
         have c12 : w1.cell? ⟨w.heap.size, 1, none⟩ = some (.int .i64 g) := hE1.cell (by go_simp)
         have c13 : w1.cell? ⟨w.heap.size, 2, none⟩ = some (.slice B dn.length d) := hE1.cell (by go_simp))
      | (go_at_call_of 56 (Value.slice B dn.length d)
         refine (clone_b _ _ _ (HD.out.ext ((((Ext.refl w).alloc _).alloc _).drew.trans hE1)) hl').mono ?_
         rintro e w2 ⟨A2, c2, rfl, ho2, hE2⟩
         have c21 : w2.cell? ⟨w.heap.size, 0, none⟩ = some (.slice A ts.length c) := hE2.cell c11
         have c22 : w2.cell? ⟨w.heap.size, 1, none⟩ = some (.int .i64 g) := hE2.cell c12
         have c23 : w2.cell? ⟨w.heap.size, 2, none⟩ = some (.slice B dn.length d) := hE2.cell c13
         have hE12 := hE1.trans hE2
         obtain ⟨hc2, hf2⟩ := bcell hE12))
  go_wp2
  refine bodyPost_ret (v := .agg #[.slice A1 ts.length c1, .int .i64 g, .slice A2 dn.length c2]) (by simp [results, Try.results77, go_sem, hc2]) rfl ⟨A1, c1, A2, c2, rfl, ?_, ?_, ?_⟩
  · exact ((((ho1.ext hE2).setBelow (by simp) _).setBelow (by simp) _).setBelow (by simp) _).mono (by simp; omega)
  · have := hE1.size
    simp at this
    exact (((ho2.setBelow (by simp; omega) _).setBelow (by simp; omega) _).setBelow (by simp; omega) _).mono (by omega)
  · exact ((((((Ext.refl w).alloc _).alloc _).drew.trans hE12).setCell (by simp) _).setCell (by simp) _).setCell (by simp) _

/-- what stands while the tasks above are told -/
structure FAt (B g c : Nat) (w wr : World) (us : List Tk) : Prop where
  own : Ow kTask B wr (.slice (some ⟨g, 0, none⟩) us.length c) us
  grow : w.grownBy wr (some g)
theorem FAt.task {B g c : Nat} {w wr : World} {us : List Tk} (h : FAt B g c w wr us) {k : Nat} (hk : k < us.length) {lo hi up wt : Int} (ht : us.getD k tk0 = ⟨lo, hi, up, wt⟩) :
    wr.cell? ⟨g, k * 4 + 2, none⟩ = some (.int .i64 up) ∧ wr.cell? ⟨g, k * 4 + 3, none⟩ = some (.int .i64 wt) ∧ (∀ o, wr.frozen? ⟨g, o, none⟩ = false) ∧ in64 up ∧ in64 wt := by
  obtain ⟨g', e, _, _, h3, h4⟩ := Ow.pos h.own (by omega)
  cases e
  have e0 : us.getD k kTask.d = ⟨lo, hi, up, wt⟩ := ht
  have := h.own.rd.okAt k hk
  rw [e0] at this
  exact ⟨h3 k hk 2 (.int .i64 up) (by rw [e0]; rfl), h3 k hk 3 (.int .i64 wt) (by rw [e0]; rfl), h4, this.2.2.1, this.2.2.2⟩
theorem FAt.less {B g c : Nat} {w wr : World} {us : List Tk} (h : FAt B g c w wr us) {k : Nat} (hk : k < us.length) {lo hi up wt : Int} (ht : us.getD k tk0 = ⟨lo, hi, up, wt⟩) (hwt : 1 ≤ wt) : FAt B g c w (wr.setCell ⟨g, k * 4 + 3, none⟩ (.int .i64 (wt - 1))) (wless us k) where
  own := by
    rw [wless_len]
    have e0 : us.getD k kTask.d = ⟨lo, hi, up, wt⟩ := ht
    have ok := h.own.rd.okAt k hk
    rw [e0] at ok
    have := h.own.set (j := k) (i := 3) (x := ⟨lo, hi, up, wt - 1⟩) (u := .int .i64 (wt - 1)) hk (by decide) (by rw [e0]; rfl) (tk_ok ok.1 ok.2.1 ok.2.2.1 (by have h9 : in64 wt := ok.2.2.2; unfold in64 at h9 ⊢; omega))
    unfold wless; rw [ht]; exact this
  grow := ⟨h.grow.os, h.grow.tape, h.grow.output, by rw [World.size_setCell]; exact h.grow.size, fun i hi hne => (Below.heap_setCell _ _ _ _ (fun e => hne (by simp [e]))).trans (h.grow.block i hi hne)⟩

set_option maxHeartbeats 800000 in
set_option maxRecDepth 100000 in
theorem finish_any (B ga c n : Nat) (ts : List Tk) (up : Int) (w : World) (h : Ow kTask B w (.slice (some ⟨ga, 0, none⟩) ts.length c) ts) (hok : wOkTo ts n ts.length = true) (hu1 : -1 ≤ up) (hu2 : up < ts.length) (_hm : ts.length ≤ 2000) :
    Calls Try.prog 81 #[.slice (some ⟨ga, 0, none⟩) ts.length c, .int .i64 up] w fun e w' => e = .returned (.bool (climb (ts.length + 1) ts up).2) ∧ FAt B ga c w w' (climb (ts.length + 1) ts up).1 := by
  have H0 : Hid (FAt B ga c w w ts) := Lib.hid ⟨h, World.grownBy.refl w _⟩
  have HOK := Lib.hid hok
  clear h hok
  go_enter Try.func81, Try.ntmps81
  go_wp2_with fail
  go_loopw [1] (fun i wx => ∃ (u : Int) (us : List Tk) (f : Nat), i = .int .i64 u ∧ FAt B ga c w wx us ∧ us.length = ts.length ∧ wOkTo us n ts.length = true ∧ -1 ≤ u ∧ u < ts.length ∧ u < f ∧ climb (ts.length + 1) ts up = climb (f + 1) us u) (fun i _ => (intOf i + 1).toNat)
  case atStart => exact ⟨up, ts, ts.length, rfl, H0.out, rfl, HOK.out, hu1, hu2, hu2, rfl⟩
  case round =>
    obtain ⟨u, us, f, rfl, hX, hul, hok, hv1, hv2, hv3, hcl⟩ := hrel
    have HX := Lib.hid hX
    by_cases hum : u = -1
    · subst hum
      have HC : Hid (climb (ts.length + 1) ts up = (us, true)) := Lib.hid (by rw [hcl]; simp [climb])
      clear hcl hX
      go_wp2_with fail
      go_ret
      exact ⟨ret_bool (by rw [HC.out]), by rw [HC.out]; exact HX.out⟩
    · obtain ⟨v, rfl⟩ : ∃ v : Nat, u = v := ⟨u.toNat, by omega⟩
      have hv : v < us.length := by omega
      have hv' : (v : Int) < ts.length := by omega
      have hv0 : (0 : Int) ≤ v := by omega
      obtain ⟨⟨lo1, hi1, up1, wt1⟩, ht⟩ : ∃ x, us.getD v tk0 = x := ⟨_, rfl⟩
      obtain ⟨cu, cw, cf, iu, iw⟩ := hX.task hv ht
      have ok1 := (tkOk_iff _ _ _).1 (wOkTo_at us n ts.length hok v (by omega))
      rw [ht] at ok1
      simp only at ok1
      obtain ⟨_, _, _, k4, k5, k6, k7⟩ := ok1
      have e0 : tkAt us (v : Int) = us.getD v tk0 := by unfold tkAt; rw [Int.toNat_natCast]
      by_cases hw : wt1 = 0
      · have HC : Hid (climb (ts.length + 1) ts up = (us, false)) := Lib.hid (by rw [hcl]; unfold climb; rw [if_neg hum, e0, ht, if_pos hw])
        subst hw
        clear hcl hX ht e0 hum
        go_wp2_with fail
        go_ret
        exact ⟨ret_bool (by rw [HC.out]), by rw [HC.out]; exact HX.out⟩
      · have hwe : (wt1 == 0) = false := by simpa using hw
        have HN := Lib.hid (hX.less hv ht (by omega))
        have hnl : (wless us v).length = ts.length := by rw [wless_len]; exact hul
        have HNL := Lib.hid hnl
        by_cases hq : 0 < wt1 - 1
        · have HC : Hid (climb (ts.length + 1) ts up = (wless us v, false)) := Lib.hid (by rw [hcl]; unfold climb; rw [if_neg hum, e0, ht, if_neg hw, if_pos hq, Int.toNat_natCast])
          clear hcl hX ht e0 hum hw
          go_wp2_with fail
          go_ret
          exact ⟨ret_bool (by rw [HC.out]), by rw [HC.out]; exact HN.out⟩
        · obtain ⟨f, rfl⟩ : ∃ x, f = x + 1 := ⟨f - 1, by omega⟩
          have HC : Hid (climb (ts.length + 1) ts up = climb (f + 1) (wless us v) up1) := Lib.hid (by rw [hcl]; rw [climb]; rw [if_neg hum, e0, ht, if_neg hw, if_neg hq, Int.toNat_natCast])
          have HK : Hid (wOkTo (wless us v) n ts.length = true) := Lib.hid (wless_ok us n v _ hv hok (by omega) (by rw [ht]; exact hw))
          clear hcl hX ht e0 hum hw hok
          go_wp2
          go_roundw
          case rel => exact ⟨up1, wless us v, f, rfl, HN.out, HNL.out, HK.out, k4, by omega, by omega, HC.out⟩
          case measure => simp [intOf]; omega
end Go.Proofs.Ytkpbanfpnilifaa

/- The program's Count: a closure that calls itself, by a contract of its own. -/
namespace Go.Proofs.Ytkpbanfpnilifaa
open Go.BigFrame
open Go.RowKit Go.Proofs.Ytkpbanfpnilifaa.Plain

def Drawn (w w' : World) : Prop := ∃ k, w' = w.drewN k
theorem Drawn.refl (w : World) : Drawn w w := ⟨0, rfl⟩
theorem Drawn.trans {a b c : World} (h : Drawn a b) (k : Drawn b c) : Drawn a c := by
  obtain ⟨m, rfl⟩ := h
  obtain ⟨n, rfl⟩ := k
  exact ⟨m + n, by simp⟩
theorem Drawn.drew (w : World) : Drawn w w.drew := ⟨1, rfl⟩
theorem Drawn.ext {w w' : World} (h : Drawn w w') : Ext w w' := by
  obtain ⟨k, rfl⟩ := h
  exact (Ext.refl w).drewN k

end Go.Proofs.Ytkpbanfpnilifaa

/- The program's Part of work. Written by wip/mk_pwork.py. -/
namespace Go.Proofs.Ytkpbanfpnilifaa
open Go.BigFrame
open Go.RowKit Go.Proofs.Ytkpbanfpnilifaa.Plain

/-- the frame behind the copy: the work, the answer's cells, the copy's cells -/
structure VAt (w : World) (A B : Option Addr) (c d n m : Nat) (g : Int) (V : Nat) (A1 B1 : Option Addr) (c1 d1 : Nat) (w' : World) : Prop where
  pat : PAt w A B c d n m g w'
  v0 : w'.cell? ⟨V, 0, none⟩ = some (.slice A1 m c1)
  v1 : w'.cell? ⟨V, 1, none⟩ = some (.int .i64 g)
  v2 : w'.cell? ⟨V, 2, none⟩ = some (.slice B1 n d1)
  vf : ∀ o, w'.frozen? ⟨V, o, none⟩ = false
  lt : V < w'.heap.size
  ge : w.heap.size + 2 ≤ V
theorem VAt.go {w : World} {A B : Option Addr} {c d n m : Nat} {g : Int} {V : Nat} {A1 B1 : Option Addr} {c1 d1 : Nat} {w' w'' : World} (h : VAt w A B c d n m g V A1 B1 c1 d1 w') (hE : Ext w' w'') : VAt w A B c d n m g V A1 B1 c1 d1 w'' :=
  ⟨h.pat.go hE, hE.cell h.v0, hE.cell h.v1, hE.cell h.v2, fun o => (Below.frozen hE (p := ⟨V, o, none⟩) h.lt).trans (h.vf o), Nat.lt_of_lt_of_le h.lt hE.size, h.ge⟩
theorem VAt.start {w : World} {A B : Option Addr} {c d n m : Nat} {g : Int} {A1 B1 : Option Addr} {c1 d1 : Nat} {w1 : World} (h : PAt w A B c d n m g w1) :
    VAt w A B c d n m g w1.heap.size A1 B1 c1 d1 (w1.alloc (.cells #[.slice A1 m c1, .int .i64 g, .slice B1 n d1] 78)) :=
  ⟨h.go ((Ext.refl _).alloc _), by go_simp, by go_simp, by go_simp, fun o => by go_simp, by simp, h.two⟩
/-- what is refused: the work as it was, in memory of its own -/
def TNo (w : World) (ts : List Tk) (g : Int) (dn : List Bool) (mk : Value → Value) (e : Ending) (w' : World) : Prop :=
  ∃ A c B d, e = .returned (mk (.agg #[.slice A ts.length c, .int .i64 g, .slice B dn.length d])) ∧ Rd kTask w' (.slice A ts.length c) ts ∧ Rd kBool w' (.slice B dn.length d) dn ∧ Ext w w'
theorem TNo.of {w : World} {A B : Option Addr} {c d : Nat} {ts : List Tk} {dn : List Bool} {g : Int} {V : Nat} {A1 B1 : Option Addr} {c1 d1 : Nat} {w1 w' : World} {mk : Value → Value} (h : VAt w A B c d dn.length ts.length g V A1 B1 c1 d1 w')
    (ho : Ow kTask (w.heap.size + 2) w1 (.slice A1 ts.length c1) ts) (hd : Ow kBool (w.heap.size + 2) w1 (.slice B1 dn.length d1) dn) (hE : Ext w1 w') (x y z : Value) :
    TNo w ts g dn mk (.returned (mk (.agg #[.slice A1 ts.length c1, .int .i64 g, .slice B1 dn.length d1]))) (((w'.setCell ⟨w.heap.size + 1, 0, none⟩ x).setCell ⟨w.heap.size + 1, 1, none⟩ y).setCell ⟨w.heap.size + 1, 2, none⟩ z) := by
  refine ⟨_, _, _, _, rfl, ?_, ?_, ?_⟩
  · exact ((((ho.ext hE).setBelow (p := ⟨w.heap.size + 1, 0, none⟩) (by show w.heap.size + 1 < _; omega) _).setBelow (p := ⟨w.heap.size + 1, 1, none⟩) (by show w.heap.size + 1 < _; omega) _).setBelow (p := ⟨w.heap.size + 1, 2, none⟩) (by show w.heap.size + 1 < _; omega) _).rd
  · exact ((((hd.ext hE).setBelow (p := ⟨w.heap.size + 1, 0, none⟩) (by show w.heap.size + 1 < _; omega) _).setBelow (p := ⟨w.heap.size + 1, 1, none⟩) (by show w.heap.size + 1 < _; omega) _).setBelow (p := ⟨w.heap.size + 1, 2, none⟩) (by show w.heap.size + 1 < _; omega) _).rd
  · exact ((h.pat.ext.setCell (p := ⟨w.heap.size + 1, 0, none⟩) (by show _ ≤ w.heap.size + 1; omega) _).setCell (p := ⟨w.heap.size + 1, 1, none⟩) (by show _ ≤ w.heap.size + 1; omega) _).setCell (p := ⟨w.heap.size + 1, 2, none⟩) (by show _ ≤ w.heap.size + 1; omega) _
def mkPart (k : Int) (v : Value) : Value := .tuple #[v, .int .i64 0, .int .i64 0, .int .i64 k]
def mkDo (k : Int) (v : Value) : Value := .tuple #[v, .bool false, .int .i64 k]

set_option maxHeartbeats 1600000 in
set_option maxRecDepth 100000 in
theorem ppart_no (A B : Option Addr) (c d : Nat) (ts : List Tk) (dn : List Bool) (g : Int) (i : Int) (w : World) (h : Rd kTask w (.slice A ts.length c) ts) (hd : Rd kBool w (.slice B dn.length d) dn) (hg : in64 g) (hi : in64 i) (hl : ts.length ≤ 1048576) (hl2 : dn.length ≤ 1048576) (ha : askErr ts g dn.length i ≠ 0) :
    Calls Try.prog 74 #[.agg #[.slice A ts.length c, .int .i64 g, .slice B dn.length d], .int .i64 i] w (TNo w ts g dn (mkPart (askErr ts g dn.length i))) := by
  have H := Lib.hid h
  have HD := Lib.hid hd
  have hn := hd.len
  have hm := h.len
  have HG := Lib.hid hg
  have HI := Lib.hid hi
  obtain ⟨k, hk⟩ : ∃ k, askErr ts g dn.length i = k := ⟨_, rfl⟩
  rw [hk] at ha ⊢
  have HK := Lib.hid hk
  have e1 : (k != 0) = true := by simpa using ha
  clear h hd hk hg hi
  go_enter Try.func74, Try.ntmps74
  go_wp2_with fail
  have hP : PAt w A B c d dn.length ts.length g ((w.alloc (.cells #[.slice A ts.length c, .int .i64 g, .slice B dn.length d] 78)).alloc (.cells #[.slice none 0 0, .int .i64 0, .slice none 0 0] 78)) := Ext.refl _
  refine (copied_any _ _ _ _ _ _ _ _ (H.out.ext hP.ext) (HD.out.ext hP.ext) hl hl2).mono ?_
  rintro e w1 ⟨A1, c1, B1, d1, rfl, hO, hOD, hE⟩
  replace hP := hP.go hE
  have HO : Hid (Ow kTask (w.heap.size + 2) w1 (.slice A1 ts.length c1) ts) := Lib.hid (hO.mono (by simp))
  have HOD : Hid (Ow kBool (w.heap.size + 2) w1 (.slice B1 dn.length d1) dn) := Lib.hid (hOD.mono (by simp))
  have hV : VAt w A B c d dn.length ts.length g w1.heap.size A1 B1 c1 d1 (w1.alloc (.cells #[.slice A1 ts.length c1, .int .i64 g, .slice B1 dn.length d1] 78)) := VAt.start hP
  have HV0 := Lib.hid hV
  have HE1 : Hid (Ext w1 (w1.alloc (.cells #[.slice A1 ts.length c1, .int .i64 g, .slice B1 dn.length d1] 78))) := Lib.hid ((Ext.refl _).alloc _)
  obtain ⟨q0, q1, q2⟩ := hP.cells
  have k0 : w.heap.size < w1.heap.size := by have := hP.two; omega
  have k1 : w.heap.size + 1 < w1.heap.size := by have := hP.two; omega
  clear hO hOD hE hP hV
  go_wp2_with fail
  clear q0 q1 q2
  have hV := HV0.out
  refine (asked_any _ _ _ _ _ _ _ _ _ (H.out.ext hV.pat.ext) hn HG.out HI.out).mono ?_
  rintro e w2 ⟨he, hE⟩
  rw [HK.out] at he
  subst he
  replace hV := hV.go hE
  have HE2 := Lib.hid (HE1.out.trans hE)
  have HV := Lib.hid hV
  clear hE HV0 HE1
  obtain ⟨q0, q1, q2⟩ := hV.pat.cells
  obtain ⟨s0, s1, s2, s3⟩ := hV.pat.out
  obtain ⟨_, v0, v1, v2, v3, lv, gv⟩ := hV
  have l0 : w.heap.size < w2.heap.size := by omega
  have l1 : w.heap.size + 1 < w2.heap.size := by omega
  have l2 : w.heap.size < w2.heap.size + 1 := by omega
  have l3 : w.heap.size + 1 < w2.heap.size + 1 := by omega
  have l4 : w1.heap.size < w2.heap.size + 1 := by omega
  have n0 : ¬ w1.heap.size = w.heap.size := by omega
  have n1 : ¬ w1.heap.size = w.heap.size + 1 := by omega
  have n2 : ¬ w.heap.size + 1 = w1.heap.size := by omega
  have n3 : ¬ w.heap.size = w1.heap.size := by omega
  go_wp2_with fail
  have HVZ := HV
  have HEZ := HE2
  refine bodyPost_ret (v := .tuple #[.agg #[.slice A1 ts.length c1, .int .i64 g, .slice B1 dn.length d1], .int .i64 0, .int .i64 0, .int .i64 (k)]) (by simp [results, Try.results74, go_sem]; go_simp) rfl (TNo.of (mk := mkPart (k)) HVZ.out HO.out HOD.out HEZ.out _ _ _)

set_option maxHeartbeats 1600000 in
set_option maxRecDepth 100000 in
theorem ppart_small (A B : Option Addr) (c d : Nat) (ts : List Tk) (dn : List Bool) (g : Int) (j : Nat) (w : World) (h : Rd kTask w (.slice A ts.length c) ts) (hd : Rd kBool w (.slice B dn.length d) dn) (hg : in64 g) (hr : wRight ts g dn.length = true) (hj : j < ts.length) (ht : wGreat ts g dn.length j = false) :
    Calls Try.prog 74 #[.agg #[.slice A ts.length c, .int .i64 g, .slice B dn.length d], .int .i64 j] w (TNo w ts g dn (mkPart 5)) := by
  have H := Lib.hid h
  have HD := Lib.hid hd
  have hn := hd.len
  have hnb := right_n hr
  have hm := h.len
  have HG := Lib.hid hg
  have HI : Hid (in64 (j : Int)) := Lib.hid (by unfold in64; omega)
  have hl : ts.length ≤ 1048576 := by omega
  have hl2 : dn.length ≤ 1048576 := by omega
  have hgb := hnb.2.2.2.2
  have hs : wHas ts.length (j : Int) = true := by unfold wHas; simp; omega
  have HK := Lib.hid (askErr_ok hr hs)
  have HW : wGreat ts g dn.length j = decide (g < (ts.getD j tk0).hi - (ts.getD j tk0).lo) := by unfold wGreat tkAt; rw [hr, hs, Int.toNat_natCast]; rfl
  obtain ⟨b, off, rfl, hcc⟩ := Rd.tasks H.out (by omega)
  obtain ⟨y0, y1, y2, y3⟩ := hcc j hj
  have e0 : ts.getD j ⟨0, 0, 0, 0⟩ = ts.getD j tk0 := rfl
  rw [e0] at y0 y1 y2 y3
  obtain ⟨o1, o2, o3, o4, o5, o6, o7⟩ := tkOk_iff dn.length j (ts.getD j tk0) |>.1 (right_ok hr j hj)
  obtain ⟨⟨lo, hi, up, wt⟩, htk⟩ : ∃ x, ts.getD j tk0 = x := ⟨_, rfl⟩
  have HTK := Lib.hid htk
  rw [htk] at y0 y1 y2 y3 o1 o2 o3 o4 o5 o6 o7 HW
  simp only at y0 y1 y2 y3 o1 o2 o3 o4 o5 o6 o7 HW
  rw [ht] at HW
  have HGR : Hid (decide (g < hi - lo) = false) := Lib.hid HW.symm
  have HDD : Hid (in64 (hi - lo)) := Lib.hid (by unfold in64; omega)
  have Y0 := Lib.hid y0
  have Y1 := Lib.hid y1
  have Y2 := Lib.hid y2
  have Y3 := Lib.hid y3
  have hj1 : (j : Int) < ts.length := by omega
  have hj0 : (0 : Int) ≤ j := by omega
  have hlb : b < w.heap.size := World.block_lt_of_cell? _ _ y0
  clear h hd hg hr ht hs hcc e0 htk y0 y1 y2 y3 HW
  go_enter Try.func74, Try.ntmps74
  go_wp2_with fail
  have hP : PAt w (some ⟨b, off, none⟩) B c d dn.length ts.length g ((w.alloc (.cells #[.slice (some ⟨b, off, none⟩) ts.length c, .int .i64 g, .slice B dn.length d] 78)).alloc (.cells #[.slice none 0 0, .int .i64 0, .slice none 0 0] 78)) := Ext.refl _
  refine (copied_any _ _ _ _ _ _ _ _ (H.out.ext hP.ext) (HD.out.ext hP.ext) hl hl2).mono ?_
  rintro e w1 ⟨A1, c1, B1, d1, rfl, hO, hOD, hE⟩
  replace hP := hP.go hE
  have HO : Hid (Ow kTask (w.heap.size + 2) w1 (.slice A1 ts.length c1) ts) := Lib.hid (hO.mono (by simp))
  have HOD : Hid (Ow kBool (w.heap.size + 2) w1 (.slice B1 dn.length d1) dn) := Lib.hid (hOD.mono (by simp))
  have hV : VAt w (some ⟨b, off, none⟩) B c d dn.length ts.length g w1.heap.size A1 B1 c1 d1 (w1.alloc (.cells #[.slice A1 ts.length c1, .int .i64 g, .slice B1 dn.length d1] 78)) := VAt.start hP
  have HV0 := Lib.hid hV
  have HE1 : Hid (Ext w1 (w1.alloc (.cells #[.slice A1 ts.length c1, .int .i64 g, .slice B1 dn.length d1] 78))) := Lib.hid ((Ext.refl _).alloc _)
  obtain ⟨q0, q1, q2⟩ := hP.cells
  have k0 : w.heap.size < w1.heap.size := by have := hP.two; omega
  have k1 : w.heap.size + 1 < w1.heap.size := by have := hP.two; omega
  clear hO hOD hE hP hV
  go_wp2_with fail
  clear q0 q1 q2
  have hV := HV0.out
  refine (asked_any _ _ _ _ _ _ _ _ _ (H.out.ext hV.pat.ext) hn HG.out HI.out).mono ?_
  rintro e w2 ⟨he, hE⟩
  rw [HK.out] at he
  subst he
  replace hV := hV.go hE
  have HE2 := Lib.hid (HE1.out.trans hE)
  have HV := Lib.hid hV
  clear hE HV0 HE1
  obtain ⟨q0, q1, q2⟩ := hV.pat.cells
  obtain ⟨s0, s1, s2, s3⟩ := hV.pat.out
  obtain ⟨_, v0, v1, v2, v3, lv, gv⟩ := hV
  have l0 : w.heap.size < w2.heap.size := by omega
  have l1 : w.heap.size + 1 < w2.heap.size := by omega
  have l2 : w.heap.size < w2.heap.size + 1 := by omega
  have l3 : w.heap.size + 1 < w2.heap.size + 1 := by omega
  have l4 : w1.heap.size < w2.heap.size + 1 := by omega
  have n0 : ¬ w1.heap.size = w.heap.size := by omega
  have n1 : ¬ w1.heap.size = w.heap.size + 1 := by omega
  have n2 : ¬ w.heap.size + 1 = w1.heap.size := by omega
  have n3 : ¬ w.heap.size = w1.heap.size := by omega
  have z0 := HV.out.pat.ext.cell Y0.out
  have z1 := HV.out.pat.ext.cell Y1.out
  have z2 := HV.out.pat.ext.cell Y2.out
  have z3 := HV.out.pat.ext.cell Y3.out
  have lb0 : b < w2.heap.size := by omega
  have lb1 : b < w2.heap.size + 1 := by omega
  go_wp2_with fail
  have lv9 := lv
  clear q0 q1 q2 s0 s1 s2 s3 v0 v1 v2 v3 lv gv l0 l1 l2 l3 l4 n0 n1 n2 n3 z0 z1 z2 z3 lb0 lb1
  refine (great_any lo hi up wt g _ HDD.out HG.out).mono ?_
  rintro e w3 ⟨he, hE⟩
  rw [HGR.out] at he
  subst he
  have t0 : w3.cell? ⟨w2.heap.size, 0, none⟩ = some (.int .i64 lo) := hE.cell (by go_simp)
  have t1 : w3.cell? ⟨w2.heap.size, 1, none⟩ = some (.int .i64 hi) := hE.cell (by go_simp)
  have t2 : w3.cell? ⟨w2.heap.size, 2, none⟩ = some (.int .i64 up) := hE.cell (by go_simp)
  have t3 : w3.cell? ⟨w2.heap.size, 3, none⟩ = some (.int .i64 wt) := hE.cell (by go_simp)
  have hz := hE.size
  simp at hz
  have hE23 := ((Ext.refl w2).alloc _).trans hE
  have hV := HV.out.go hE23
  have HE3 := Lib.hid (HE2.out.trans hE23)
  have HV3 := Lib.hid hV
  clear hE hE23 HV HE2
  obtain ⟨q0, q1, q2⟩ := hV.pat.cells
  obtain ⟨s0, s1, s2, s3⟩ := hV.pat.out
  obtain ⟨_, v0, v1, v2, v3, lv, gv⟩ := hV
  have l0 : w.heap.size < w3.heap.size := by omega
  have l1 : w.heap.size + 1 < w3.heap.size := by omega
  have l2 : w.heap.size < w3.heap.size + 1 := by omega
  have l3 : w.heap.size + 1 < w3.heap.size + 1 := by omega
  have l4 : w1.heap.size < w3.heap.size + 1 := by omega
  have n0 : ¬ w1.heap.size = w.heap.size := by omega
  have n1 : ¬ w1.heap.size = w.heap.size + 1 := by omega
  have n2 : ¬ w.heap.size + 1 = w1.heap.size := by omega
  have n3 : ¬ w.heap.size = w1.heap.size := by omega
  have lt : w2.heap.size < w3.heap.size := by omega
  go_wp2_with fail
  have HVZ := HV3
  have HEZ := HE3
  refine bodyPost_ret (v := .tuple #[.agg #[.slice A1 ts.length c1, .int .i64 g, .slice B1 dn.length d1], .int .i64 0, .int .i64 0, .int .i64 (5)]) (by simp [results, Try.results74, go_sem]; go_simp) rfl (TNo.of (mk := mkPart (5)) HVZ.out HO.out HOD.out HEZ.out _ _ _)

set_option maxHeartbeats 1600000 in
set_option maxRecDepth 100000 in
theorem ppart_wait (A B : Option Addr) (c d : Nat) (ts : List Tk) (dn : List Bool) (g : Int) (j : Nat) (w : World) (h : Rd kTask w (.slice A ts.length c) ts) (hd : Rd kBool w (.slice B dn.length d) dn) (hg : in64 g) (hr : wRight ts g dn.length = true) (hj : j < ts.length) (ht : wGreat ts g dn.length j = true) (h3 : (ts.getD j tk0).wt ≠ 0) :
    Calls Try.prog 74 #[.agg #[.slice A ts.length c, .int .i64 g, .slice B dn.length d], .int .i64 j] w (TNo w ts g dn (mkPart 5)) := by
  have H := Lib.hid h
  have HD := Lib.hid hd
  have hn := hd.len
  have hnb := right_n hr
  have hm := h.len
  have HG := Lib.hid hg
  have HI : Hid (in64 (j : Int)) := Lib.hid (by unfold in64; omega)
  have hl : ts.length ≤ 1048576 := by omega
  have hl2 : dn.length ≤ 1048576 := by omega
  have hgb := hnb.2.2.2.2
  have hs : wHas ts.length (j : Int) = true := by unfold wHas; simp; omega
  have HK := Lib.hid (askErr_ok hr hs)
  have HW : wGreat ts g dn.length j = decide (g < (ts.getD j tk0).hi - (ts.getD j tk0).lo) := by unfold wGreat tkAt; rw [hr, hs, Int.toNat_natCast]; rfl
  obtain ⟨b, off, rfl, hcc⟩ := Rd.tasks H.out (by omega)
  obtain ⟨y0, y1, y2, y3⟩ := hcc j hj
  have e0 : ts.getD j ⟨0, 0, 0, 0⟩ = ts.getD j tk0 := rfl
  rw [e0] at y0 y1 y2 y3
  obtain ⟨o1, o2, o3, o4, o5, o6, o7⟩ := tkOk_iff dn.length j (ts.getD j tk0) |>.1 (right_ok hr j hj)
  obtain ⟨⟨lo, hi, up, wt⟩, htk⟩ : ∃ x, ts.getD j tk0 = x := ⟨_, rfl⟩
  have HTK := Lib.hid htk
  rw [htk] at y0 y1 y2 y3 h3 o1 o2 o3 o4 o5 o6 o7 HW
  simp only at y0 y1 y2 y3 h3 o1 o2 o3 o4 o5 o6 o7 HW
  rw [ht] at HW
  have HGR : Hid (decide (g < hi - lo) = true) := Lib.hid HW.symm
  have HDD : Hid (in64 (hi - lo)) := Lib.hid (by unfold in64; omega)
  have Y0 := Lib.hid y0
  have Y1 := Lib.hid y1
  have Y2 := Lib.hid y2
  have Y3 := Lib.hid y3
  have hj1 : (j : Int) < ts.length := by omega
  have hj0 : (0 : Int) ≤ j := by omega
  have hlb : b < w.heap.size := World.block_lt_of_cell? _ _ y0
  have e3 : (wt != 0) = true := by simpa using h3
  clear h hd hg hr ht hs hcc e0 htk y0 y1 y2 y3 HW
  go_enter Try.func74, Try.ntmps74
  go_wp2_with fail
  have hP : PAt w (some ⟨b, off, none⟩) B c d dn.length ts.length g ((w.alloc (.cells #[.slice (some ⟨b, off, none⟩) ts.length c, .int .i64 g, .slice B dn.length d] 78)).alloc (.cells #[.slice none 0 0, .int .i64 0, .slice none 0 0] 78)) := Ext.refl _
  refine (copied_any _ _ _ _ _ _ _ _ (H.out.ext hP.ext) (HD.out.ext hP.ext) hl hl2).mono ?_
  rintro e w1 ⟨A1, c1, B1, d1, rfl, hO, hOD, hE⟩
  replace hP := hP.go hE
  have HO : Hid (Ow kTask (w.heap.size + 2) w1 (.slice A1 ts.length c1) ts) := Lib.hid (hO.mono (by simp))
  have HOD : Hid (Ow kBool (w.heap.size + 2) w1 (.slice B1 dn.length d1) dn) := Lib.hid (hOD.mono (by simp))
  have hV : VAt w (some ⟨b, off, none⟩) B c d dn.length ts.length g w1.heap.size A1 B1 c1 d1 (w1.alloc (.cells #[.slice A1 ts.length c1, .int .i64 g, .slice B1 dn.length d1] 78)) := VAt.start hP
  have HV0 := Lib.hid hV
  have HE1 : Hid (Ext w1 (w1.alloc (.cells #[.slice A1 ts.length c1, .int .i64 g, .slice B1 dn.length d1] 78))) := Lib.hid ((Ext.refl _).alloc _)
  obtain ⟨q0, q1, q2⟩ := hP.cells
  have k0 : w.heap.size < w1.heap.size := by have := hP.two; omega
  have k1 : w.heap.size + 1 < w1.heap.size := by have := hP.two; omega
  clear hO hOD hE hP hV
  go_wp2_with fail
  clear q0 q1 q2
  have hV := HV0.out
  refine (asked_any _ _ _ _ _ _ _ _ _ (H.out.ext hV.pat.ext) hn HG.out HI.out).mono ?_
  rintro e w2 ⟨he, hE⟩
  rw [HK.out] at he
  subst he
  replace hV := hV.go hE
  have HE2 := Lib.hid (HE1.out.trans hE)
  have HV := Lib.hid hV
  clear hE HV0 HE1
  obtain ⟨q0, q1, q2⟩ := hV.pat.cells
  obtain ⟨s0, s1, s2, s3⟩ := hV.pat.out
  obtain ⟨_, v0, v1, v2, v3, lv, gv⟩ := hV
  have l0 : w.heap.size < w2.heap.size := by omega
  have l1 : w.heap.size + 1 < w2.heap.size := by omega
  have l2 : w.heap.size < w2.heap.size + 1 := by omega
  have l3 : w.heap.size + 1 < w2.heap.size + 1 := by omega
  have l4 : w1.heap.size < w2.heap.size + 1 := by omega
  have n0 : ¬ w1.heap.size = w.heap.size := by omega
  have n1 : ¬ w1.heap.size = w.heap.size + 1 := by omega
  have n2 : ¬ w.heap.size + 1 = w1.heap.size := by omega
  have n3 : ¬ w.heap.size = w1.heap.size := by omega
  have z0 := HV.out.pat.ext.cell Y0.out
  have z1 := HV.out.pat.ext.cell Y1.out
  have z2 := HV.out.pat.ext.cell Y2.out
  have z3 := HV.out.pat.ext.cell Y3.out
  have lb0 : b < w2.heap.size := by omega
  have lb1 : b < w2.heap.size + 1 := by omega
  go_wp2_with fail
  have lv9 := lv
  clear q0 q1 q2 s0 s1 s2 s3 v0 v1 v2 v3 lv gv l0 l1 l2 l3 l4 n0 n1 n2 n3 z0 z1 z2 z3 lb0 lb1
  refine (great_any lo hi up wt g _ HDD.out HG.out).mono ?_
  rintro e w3 ⟨he, hE⟩
  rw [HGR.out] at he
  subst he
  have t0 : w3.cell? ⟨w2.heap.size, 0, none⟩ = some (.int .i64 lo) := hE.cell (by go_simp)
  have t1 : w3.cell? ⟨w2.heap.size, 1, none⟩ = some (.int .i64 hi) := hE.cell (by go_simp)
  have t2 : w3.cell? ⟨w2.heap.size, 2, none⟩ = some (.int .i64 up) := hE.cell (by go_simp)
  have t3 : w3.cell? ⟨w2.heap.size, 3, none⟩ = some (.int .i64 wt) := hE.cell (by go_simp)
  have hz := hE.size
  simp at hz
  have hE23 := ((Ext.refl w2).alloc _).trans hE
  have hV := HV.out.go hE23
  have HE3 := Lib.hid (HE2.out.trans hE23)
  have HV3 := Lib.hid hV
  clear hE hE23 HV HE2
  obtain ⟨q0, q1, q2⟩ := hV.pat.cells
  obtain ⟨s0, s1, s2, s3⟩ := hV.pat.out
  obtain ⟨_, v0, v1, v2, v3, lv, gv⟩ := hV
  have l0 : w.heap.size < w3.heap.size := by omega
  have l1 : w.heap.size + 1 < w3.heap.size := by omega
  have l2 : w.heap.size < w3.heap.size + 1 := by omega
  have l3 : w.heap.size + 1 < w3.heap.size + 1 := by omega
  have l4 : w1.heap.size < w3.heap.size + 1 := by omega
  have n0 : ¬ w1.heap.size = w.heap.size := by omega
  have n1 : ¬ w1.heap.size = w.heap.size + 1 := by omega
  have n2 : ¬ w.heap.size + 1 = w1.heap.size := by omega
  have n3 : ¬ w.heap.size = w1.heap.size := by omega
  have lt : w2.heap.size < w3.heap.size := by omega
  go_wp2_with fail
  have HVZ := HV3
  have HEZ := HE3
  refine bodyPost_ret (v := .tuple #[.agg #[.slice A1 ts.length c1, .int .i64 g, .slice B1 dn.length d1], .int .i64 0, .int .i64 0, .int .i64 (5)]) (by simp [results, Try.results74, go_sem]; go_simp) rfl (TNo.of (mk := mkPart (5)) HVZ.out HO.out HOD.out HEZ.out _ _ _)

set_option maxHeartbeats 1600000 in
set_option maxRecDepth 100000 in
theorem ppart_full (A B : Option Addr) (c d : Nat) (ts : List Tk) (dn : List Bool) (g : Int) (j : Nat) (w : World) (h : Rd kTask w (.slice A ts.length c) ts) (hd : Rd kBool w (.slice B dn.length d) dn) (hg : in64 g) (hr : wRight ts g dn.length = true) (hj : j < ts.length) (ht : wGreat ts g dn.length j = true) (h3 : (ts.getD j tk0).wt = 0) (hf : 1998 < ts.length) :
    Calls Try.prog 74 #[.agg #[.slice A ts.length c, .int .i64 g, .slice B dn.length d], .int .i64 j] w (TNo w ts g dn (mkPart 2)) := by
  have H := Lib.hid h
  have HD := Lib.hid hd
  have hn := hd.len
  have hnb := right_n hr
  have hm := h.len
  have HG := Lib.hid hg
  have HI : Hid (in64 (j : Int)) := Lib.hid (by unfold in64; omega)
  have hl : ts.length ≤ 1048576 := by omega
  have hl2 : dn.length ≤ 1048576 := by omega
  have hgb := hnb.2.2.2.2
  have hs : wHas ts.length (j : Int) = true := by unfold wHas; simp; omega
  have HK := Lib.hid (askErr_ok hr hs)
  have HW : wGreat ts g dn.length j = decide (g < (ts.getD j tk0).hi - (ts.getD j tk0).lo) := by unfold wGreat tkAt; rw [hr, hs, Int.toNat_natCast]; rfl
  obtain ⟨b, off, rfl, hcc⟩ := Rd.tasks H.out (by omega)
  obtain ⟨y0, y1, y2, y3⟩ := hcc j hj
  have e0 : ts.getD j ⟨0, 0, 0, 0⟩ = ts.getD j tk0 := rfl
  rw [e0] at y0 y1 y2 y3
  obtain ⟨o1, o2, o3, o4, o5, o6, o7⟩ := tkOk_iff dn.length j (ts.getD j tk0) |>.1 (right_ok hr j hj)
  obtain ⟨⟨lo, hi, up, wt⟩, htk⟩ : ∃ x, ts.getD j tk0 = x := ⟨_, rfl⟩
  have HTK := Lib.hid htk
  rw [htk] at y0 y1 y2 y3 h3 o1 o2 o3 o4 o5 o6 o7 HW
  simp only at y0 y1 y2 y3 h3 o1 o2 o3 o4 o5 o6 o7 HW
  rw [ht] at HW
  have HGR : Hid (decide (g < hi - lo) = true) := Lib.hid HW.symm
  have HDD : Hid (in64 (hi - lo)) := Lib.hid (by unfold in64; omega)
  have Y0 := Lib.hid y0
  have Y1 := Lib.hid y1
  have Y2 := Lib.hid y2
  have Y3 := Lib.hid y3
  have hj1 : (j : Int) < ts.length := by omega
  have hj0 : (0 : Int) ≤ j := by omega
  have hlb : b < w.heap.size := World.block_lt_of_cell? _ _ y0
  subst h3
  have hf1 : (1998 : Int) < ts.length := by omega
  clear h hd hg hr ht hs hcc e0 htk y0 y1 y2 y3 HW
  go_enter Try.func74, Try.ntmps74
  go_wp2_with fail
  have hP : PAt w (some ⟨b, off, none⟩) B c d dn.length ts.length g ((w.alloc (.cells #[.slice (some ⟨b, off, none⟩) ts.length c, .int .i64 g, .slice B dn.length d] 78)).alloc (.cells #[.slice none 0 0, .int .i64 0, .slice none 0 0] 78)) := Ext.refl _
  refine (copied_any _ _ _ _ _ _ _ _ (H.out.ext hP.ext) (HD.out.ext hP.ext) hl hl2).mono ?_
  rintro e w1 ⟨A1, c1, B1, d1, rfl, hO, hOD, hE⟩
  replace hP := hP.go hE
  have HO : Hid (Ow kTask (w.heap.size + 2) w1 (.slice A1 ts.length c1) ts) := Lib.hid (hO.mono (by simp))
  have HOD : Hid (Ow kBool (w.heap.size + 2) w1 (.slice B1 dn.length d1) dn) := Lib.hid (hOD.mono (by simp))
  have hV : VAt w (some ⟨b, off, none⟩) B c d dn.length ts.length g w1.heap.size A1 B1 c1 d1 (w1.alloc (.cells #[.slice A1 ts.length c1, .int .i64 g, .slice B1 dn.length d1] 78)) := VAt.start hP
  have HV0 := Lib.hid hV
  have HE1 : Hid (Ext w1 (w1.alloc (.cells #[.slice A1 ts.length c1, .int .i64 g, .slice B1 dn.length d1] 78))) := Lib.hid ((Ext.refl _).alloc _)
  obtain ⟨q0, q1, q2⟩ := hP.cells
  have k0 : w.heap.size < w1.heap.size := by have := hP.two; omega
  have k1 : w.heap.size + 1 < w1.heap.size := by have := hP.two; omega
  clear hO hOD hE hP hV
  go_wp2_with fail
  clear q0 q1 q2
  have hV := HV0.out
  refine (asked_any _ _ _ _ _ _ _ _ _ (H.out.ext hV.pat.ext) hn HG.out HI.out).mono ?_
  rintro e w2 ⟨he, hE⟩
  rw [HK.out] at he
  subst he
  replace hV := hV.go hE
  have HE2 := Lib.hid (HE1.out.trans hE)
  have HV := Lib.hid hV
  clear hE HV0 HE1
  obtain ⟨q0, q1, q2⟩ := hV.pat.cells
  obtain ⟨s0, s1, s2, s3⟩ := hV.pat.out
  obtain ⟨_, v0, v1, v2, v3, lv, gv⟩ := hV
  have l0 : w.heap.size < w2.heap.size := by omega
  have l1 : w.heap.size + 1 < w2.heap.size := by omega
  have l2 : w.heap.size < w2.heap.size + 1 := by omega
  have l3 : w.heap.size + 1 < w2.heap.size + 1 := by omega
  have l4 : w1.heap.size < w2.heap.size + 1 := by omega
  have n0 : ¬ w1.heap.size = w.heap.size := by omega
  have n1 : ¬ w1.heap.size = w.heap.size + 1 := by omega
  have n2 : ¬ w.heap.size + 1 = w1.heap.size := by omega
  have n3 : ¬ w.heap.size = w1.heap.size := by omega
  have z0 := HV.out.pat.ext.cell Y0.out
  have z1 := HV.out.pat.ext.cell Y1.out
  have z2 := HV.out.pat.ext.cell Y2.out
  have z3 := HV.out.pat.ext.cell Y3.out
  have lb0 : b < w2.heap.size := by omega
  have lb1 : b < w2.heap.size + 1 := by omega
  go_wp2_with fail
  have lv9 := lv
  clear q0 q1 q2 s0 s1 s2 s3 v0 v1 v2 v3 lv gv l0 l1 l2 l3 l4 n0 n1 n2 n3 z0 z1 z2 z3 lb0 lb1
  refine (great_any lo hi up 0 g _ HDD.out HG.out).mono ?_
  rintro e w3 ⟨he, hE⟩
  rw [HGR.out] at he
  subst he
  have t0 : w3.cell? ⟨w2.heap.size, 0, none⟩ = some (.int .i64 lo) := hE.cell (by go_simp)
  have t1 : w3.cell? ⟨w2.heap.size, 1, none⟩ = some (.int .i64 hi) := hE.cell (by go_simp)
  have t2 : w3.cell? ⟨w2.heap.size, 2, none⟩ = some (.int .i64 up) := hE.cell (by go_simp)
  have t3 : w3.cell? ⟨w2.heap.size, 3, none⟩ = some (.int .i64 0) := hE.cell (by go_simp)
  have hz := hE.size
  simp at hz
  have hE23 := ((Ext.refl w2).alloc _).trans hE
  have hV := HV.out.go hE23
  have HE3 := Lib.hid (HE2.out.trans hE23)
  have HV3 := Lib.hid hV
  clear hE hE23 HV HE2
  obtain ⟨q0, q1, q2⟩ := hV.pat.cells
  obtain ⟨s0, s1, s2, s3⟩ := hV.pat.out
  obtain ⟨_, v0, v1, v2, v3, lv, gv⟩ := hV
  have l0 : w.heap.size < w3.heap.size := by omega
  have l1 : w.heap.size + 1 < w3.heap.size := by omega
  have l2 : w.heap.size < w3.heap.size + 1 := by omega
  have l3 : w.heap.size + 1 < w3.heap.size + 1 := by omega
  have l4 : w1.heap.size < w3.heap.size + 1 := by omega
  have n0 : ¬ w1.heap.size = w.heap.size := by omega
  have n1 : ¬ w1.heap.size = w.heap.size + 1 := by omega
  have n2 : ¬ w.heap.size + 1 = w1.heap.size := by omega
  have n3 : ¬ w.heap.size = w1.heap.size := by omega
  have lt : w2.heap.size < w3.heap.size := by omega
  go_wp2_with fail
  have HVZ := HV3
  have HEZ := HE3
  refine bodyPost_ret (v := .tuple #[.agg #[.slice A1 ts.length c1, .int .i64 g, .slice B1 dn.length d1], .int .i64 0, .int .i64 0, .int .i64 (2)]) (by simp [results, Try.results74, go_sem]; go_simp) rfl (TNo.of (mk := mkPart (2)) HVZ.out HO.out HOD.out HEZ.out _ _ _)

set_option maxHeartbeats 1600000 in
set_option maxRecDepth 100000 in
theorem ppart_ok (A B : Option Addr) (c d : Nat) (ts : List Tk) (dn : List Bool) (g : Int) (j : Nat) (w : World) (h : Rd kTask w (.slice A ts.length c) ts) (hd : Rd kBool w (.slice B dn.length d) dn) (hg : in64 g) (hr : wRight ts g dn.length = true) (hj : j < ts.length) (ht : wGreat ts g dn.length j = true) (h3 : (ts.getD j tk0).wt = 0) (hf : ts.length ≤ 1998) :
    Calls Try.prog 74 #[.agg #[.slice A ts.length c, .int .i64 g, .slice B dn.length d], .int .i64 j] w (PartSaid w ts g dn j) := by
  have H := Lib.hid h
  have HD := Lib.hid hd
  have hn := hd.len
  have hnb := right_n hr
  have hm := h.len
  have HG := Lib.hid hg
  have HI : Hid (in64 (j : Int)) := Lib.hid (by unfold in64; omega)
  have hl : ts.length ≤ 1048576 := by omega
  have hl2 : dn.length ≤ 1048576 := by omega
  have hgb := hnb.2.2.2.2
  have hs : wHas ts.length (j : Int) = true := by unfold wHas; simp; omega
  have HK := Lib.hid (askErr_ok hr hs)
  have HW : wGreat ts g dn.length j = decide (g < (ts.getD j tk0).hi - (ts.getD j tk0).lo) := by unfold wGreat tkAt; rw [hr, hs, Int.toNat_natCast]; rfl
  obtain ⟨b, off, rfl, hcc⟩ := Rd.tasks H.out (by omega)
  obtain ⟨y0, y1, y2, y3⟩ := hcc j hj
  have e0 : ts.getD j ⟨0, 0, 0, 0⟩ = ts.getD j tk0 := rfl
  rw [e0] at y0 y1 y2 y3
  obtain ⟨o1, o2, o3, o4, o5, o6, o7⟩ := tkOk_iff dn.length j (ts.getD j tk0) |>.1 (right_ok hr j hj)
  obtain ⟨⟨lo, hi, up, wt⟩, htk⟩ : ∃ x, ts.getD j tk0 = x := ⟨_, rfl⟩
  have HTK := Lib.hid htk
  rw [htk] at y0 y1 y2 y3 h3 o1 o2 o3 o4 o5 o6 o7 HW
  simp only at y0 y1 y2 y3 h3 o1 o2 o3 o4 o5 o6 o7 HW
  rw [ht] at HW
  have HGR : Hid (decide (g < hi - lo) = true) := Lib.hid HW.symm
  have HDD : Hid (in64 (hi - lo)) := Lib.hid (by unfold in64; omega)
  have Y0 := Lib.hid y0
  have Y1 := Lib.hid y1
  have Y2 := Lib.hid y2
  have Y3 := Lib.hid y3
  have hj1 : (j : Int) < ts.length := by omega
  have hj0 : (0 : Int) ≤ j := by omega
  have hlb : b < w.heap.size := World.block_lt_of_cell? _ _ y0
  subst h3
  have hf1 : (ts.length : Int) ≤ 1998 := by omega
  clear h hd hg hr ht hs hcc e0 htk y0 y1 y2 y3 HW
  go_enter Try.func74, Try.ntmps74
  go_wp2_with fail
  have hP : PAt w (some ⟨b, off, none⟩) B c d dn.length ts.length g ((w.alloc (.cells #[.slice (some ⟨b, off, none⟩) ts.length c, .int .i64 g, .slice B dn.length d] 78)).alloc (.cells #[.slice none 0 0, .int .i64 0, .slice none 0 0] 78)) := Ext.refl _
  refine (copied_any _ _ _ _ _ _ _ _ (H.out.ext hP.ext) (HD.out.ext hP.ext) hl hl2).mono ?_
  rintro e w1 ⟨A1, c1, B1, d1, rfl, hO, hOD, hE⟩
  replace hP := hP.go hE
  have HO : Hid (Ow kTask (w.heap.size + 2) w1 (.slice A1 ts.length c1) ts) := Lib.hid (hO.mono (by simp))
  have HOD : Hid (Ow kBool (w.heap.size + 2) w1 (.slice B1 dn.length d1) dn) := Lib.hid (hOD.mono (by simp))
  have hV : VAt w (some ⟨b, off, none⟩) B c d dn.length ts.length g w1.heap.size A1 B1 c1 d1 (w1.alloc (.cells #[.slice A1 ts.length c1, .int .i64 g, .slice B1 dn.length d1] 78)) := VAt.start hP
  have HV0 := Lib.hid hV
  have HE1 : Hid (Ext w1 (w1.alloc (.cells #[.slice A1 ts.length c1, .int .i64 g, .slice B1 dn.length d1] 78))) := Lib.hid ((Ext.refl _).alloc _)
  obtain ⟨q0, q1, q2⟩ := hP.cells
  have k0 : w.heap.size < w1.heap.size := by have := hP.two; omega
  have k1 : w.heap.size + 1 < w1.heap.size := by have := hP.two; omega
  clear hO hOD hE hP hV
  go_wp2_with fail
  clear q0 q1 q2
  have hV := HV0.out
  refine (asked_any _ _ _ _ _ _ _ _ _ (H.out.ext hV.pat.ext) hn HG.out HI.out).mono ?_
  rintro e w2 ⟨he, hE⟩
  rw [HK.out] at he
  subst he
  replace hV := hV.go hE
  have HE2 := Lib.hid (HE1.out.trans hE)
  have HV := Lib.hid hV
  clear hE HV0 HE1
  obtain ⟨q0, q1, q2⟩ := hV.pat.cells
  obtain ⟨s0, s1, s2, s3⟩ := hV.pat.out
  obtain ⟨_, v0, v1, v2, v3, lv, gv⟩ := hV
  have l0 : w.heap.size < w2.heap.size := by omega
  have l1 : w.heap.size + 1 < w2.heap.size := by omega
  have l2 : w.heap.size < w2.heap.size + 1 := by omega
  have l3 : w.heap.size + 1 < w2.heap.size + 1 := by omega
  have l4 : w1.heap.size < w2.heap.size + 1 := by omega
  have n0 : ¬ w1.heap.size = w.heap.size := by omega
  have n1 : ¬ w1.heap.size = w.heap.size + 1 := by omega
  have n2 : ¬ w.heap.size + 1 = w1.heap.size := by omega
  have n3 : ¬ w.heap.size = w1.heap.size := by omega
  have z0 := HV.out.pat.ext.cell Y0.out
  have z1 := HV.out.pat.ext.cell Y1.out
  have z2 := HV.out.pat.ext.cell Y2.out
  have z3 := HV.out.pat.ext.cell Y3.out
  have lb0 : b < w2.heap.size := by omega
  have lb1 : b < w2.heap.size + 1 := by omega
  go_wp2_with fail
  have lv9 := lv
  clear q0 q1 q2 s0 s1 s2 s3 v0 v1 v2 v3 lv gv l0 l1 l2 l3 l4 n0 n1 n2 n3 z0 z1 z2 z3 lb0 lb1
  refine (great_any lo hi up 0 g _ HDD.out HG.out).mono ?_
  rintro e w3 ⟨he, hE⟩
  rw [HGR.out] at he
  subst he
  have t0 : w3.cell? ⟨w2.heap.size, 0, none⟩ = some (.int .i64 lo) := hE.cell (by go_simp)
  have t1 : w3.cell? ⟨w2.heap.size, 1, none⟩ = some (.int .i64 hi) := hE.cell (by go_simp)
  have t2 : w3.cell? ⟨w2.heap.size, 2, none⟩ = some (.int .i64 up) := hE.cell (by go_simp)
  have t3 : w3.cell? ⟨w2.heap.size, 3, none⟩ = some (.int .i64 0) := hE.cell (by go_simp)
  have hz := hE.size
  simp at hz
  have hE23 := ((Ext.refl w2).alloc _).trans hE
  have hV := HV.out.go hE23
  have HE3 := Lib.hid (HE2.out.trans hE23)
  have HV3 := Lib.hid hV
  clear hE hE23 HV HE2
  obtain ⟨q0, q1, q2⟩ := hV.pat.cells
  obtain ⟨s0, s1, s2, s3⟩ := hV.pat.out
  obtain ⟨_, v0, v1, v2, v3, lv, gv⟩ := hV
  have l0 : w.heap.size < w3.heap.size := by omega
  have l1 : w.heap.size + 1 < w3.heap.size := by omega
  have l2 : w.heap.size < w3.heap.size + 1 := by omega
  have l3 : w.heap.size + 1 < w3.heap.size + 1 := by omega
  have l4 : w1.heap.size < w3.heap.size + 1 := by omega
  have n0 : ¬ w1.heap.size = w.heap.size := by omega
  have n1 : ¬ w1.heap.size = w.heap.size + 1 := by omega
  have n2 : ¬ w.heap.size + 1 = w1.heap.size := by omega
  have n3 : ¬ w.heap.size = w1.heap.size := by omega
  have lt : w2.heap.size < w3.heap.size := by omega
  go_wp2_with fail
  obtain ⟨P2, hP2⟩ : ∃ P2, (hi - lo) / 2 = P2 := ⟨_, rfl⟩
  have HHALF : Hid (in64 (hi - lo)) := HDD
  have hd0 : 0 ≤ hi - lo := by omega
  have HALL : Hid (∀ w', Drawn w3 w' → w'.cell? ⟨w2.heap.size, 0, none⟩ = some (.int .i64 lo) ∧ w'.cell? ⟨w2.heap.size, 1, none⟩ = some (.int .i64 hi)) := Lib.hid fun w' hD => ⟨hD.ext.cell t0, hD.ext.cell t1⟩
  have HH : Hid (∀ w', Drawn w3 w' → Calls Try.prog 80 #[.int .i64 (hi - lo)] w' fun e w'' => e = .returned (.int .i64 P2) ∧ Drawn w3 w'') := Lib.hid fun w' hD => (half_any _ w' HDD.out hd0).mono fun e w'' h => ⟨by rw [h.1, hP2], h.2 ▸ hD⟩
  have hw1 : IntKind.i64.wrap (hi - lo) = hi - lo := IntWalk.i64_in _ (by omega)
  have hw2 : IntKind.i64.wrap (lo + P2) = lo + P2 := IntWalk.i64_in _ (by omega)
  have HS := Lib.hid (And.intro t0 (And.intro t1 (And.intro t2 t3)))
  clear q0 q1 q2 s0 s1 s2 s3 v0 v1 v2 v3 lv gv l0 l1 l2 l3 l4 n0 n1 n2 n3 t0 t1 t2 t3
  refine wp_region_class (Drawn w3) (by kernel_rfl) (by kernel_rfl) (Drawn.drew w3) ?_
  repeat (first
    | go_big_quiet_skip
    | (go_big_quiet_want
       first
       | (go_big_quiet_op; go_big_quiet_on)
       | (unfold Oper.quiet
          apply Exists.intro
          refine ⟨fun w' hC => ?_, ?_⟩
          · (obtain ⟨k1, k2⟩ := HALL.out w' hC
             unfold Oper.quietAt
             go_simp
             first
             | exact rfl
             | (with_reducible exact HH.out w' hC))
          go_simp
          go_big_quiet_on)
       | (go_big_quiet_op
          apply Exists.intro
          refine ⟨fun w' hC => ?_, ?_⟩
          · exact HH.out w' hC
          go_big_quiet_on)))
  refine wpQuiet_nil ?_
  intro w4 hC4
  have hV := HV3.out.go hC4.ext
  have HV4 := Lib.hid hV
  have HE4 := Lib.hid (HE3.out.trans hC4.ext)
  obtain ⟨q0, q1, q2⟩ := hV.pat.cells
  obtain ⟨s0, s1, s2, s3⟩ := hV.pat.out
  obtain ⟨_, v0, v1, v2, v3, lv, gv⟩ := hV
  have l0 : w.heap.size < w4.heap.size := by omega
  have l1 : w.heap.size + 1 < w4.heap.size := by omega
  have l2 : w.heap.size < w4.heap.size + 1 := by omega
  have l3 : w.heap.size + 1 < w4.heap.size + 1 := by omega
  have l4 : w1.heap.size < w4.heap.size + 1 := by omega
  have n0 : ¬ w1.heap.size = w.heap.size := by omega
  have n1 : ¬ w1.heap.size = w.heap.size + 1 := by omega
  have n2 : ¬ w.heap.size + 1 = w1.heap.size := by omega
  have n3 : ¬ w.heap.size = w1.heap.size := by omega
  have t0 := hC4.ext.cell HS.out.1
  have t1 := hC4.ext.cell HS.out.2.1
  have HX3 := Lib.hid hC4.ext.size
  clear hC4
  have lt : w2.heap.size < w4.heap.size := by have := HX3.out; omega
  obtain ⟨ga, rfl, ga1, ga2, ga3, ga4⟩ := Ow.pos HO.out (by omega)
  have gf : w4.frozen? ⟨ga, j * 4 + 3, none⟩ = false := (Below.frozen HE4.out (p := ⟨ga, j * 4 + 3, none⟩) ga2).trans (ga4 _)
  have u3 : w4.cell? ⟨ga, j * 4 + 3, none⟩ = some (.int .i64 0) := HE4.out.cell (ga3 j hj 3 (.int .i64 0) (by have e : ts.getD j kTask.d = ts.getD j tk0 := rfl; rw [e, HTK.out]; rfl))
  have m0 : ¬ ga = w1.heap.size := by omega
  have m1 : ¬ ga = w2.heap.size := by omega
  have m2 : ¬ ga = w.heap.size := by omega
  have m3 : ¬ ga = w.heap.size + 1 := by omega
  have m4 : ¬ w2.heap.size = ga := by omega
  have m5 : ¬ w1.heap.size = ga := by omega
  have lg : ga < w4.heap.size := by omega
  have lg1 : ga < w4.heap.size + 1 := by omega
  have lt1 : w2.heap.size < w4.heap.size + 1 := by omega
  clear ga3 ga4
  have hos : Ow kTask _ (w4.setCell ⟨ga, j * 4 + 3, none⟩ (.int .i64 2)) (.slice (some ⟨ga, 0, none⟩) ts.length c1) (ts.set j ⟨lo, hi, up, 2⟩) := (HO.out.ext HE4.out).set (j := j) (i := 3) hj (by decide) (by have e : ts.getD j kTask.d = ts.getD j tk0 := rfl; rw [e, HTK.out]; rfl) (tk_ok (by unfold in64; omega) (by unfold in64; omega) (by unfold in64; omega) (by unfold in64; omega))
  have HOS := Lib.hid hos
  clear hos
  have HP2 := Lib.hid hP2
  have M1 : 0 ≤ P2 := by omega
  have M2 : P2 ≤ hi - lo := by omega
  clear hP2 hw1 hw2
  have hlen : (ts.set j (⟨lo, hi, up, 2⟩ : Tk) ++ ([⟨lo, lo + P2, (j : Int), 0⟩, ⟨lo + P2, hi, (j : Int), 0⟩] : List Tk)).length = ts.length + 2 := by simp
  go_wp2_with (first | (at_builtin; refine Stop.to ?_) | fail)
  refine Stop.of ?_
  refine Kd.wpList_app kTask (by rfl) (.tmp 59) (.tmp 70) (by rfl) (by rfl) _ _ (ts.set j ⟨lo, hi, up, 2⟩) (by rfl) (HOS.out.ext ((Ext.refl _).alloc _)) _ [⟨lo, lo + P2, j, 0⟩, ⟨lo + P2, hi, j, 0⟩] (by rfl) ?rd (by simp; omega) (by simp; omega) ?_
  case rd => exact ((Ow.lit (K := kTask) (B := 0) (p := w4.heap.size) (n := 2) _ [⟨lo, lo + P2, j, 0⟩, ⟨lo + P2, hi, j, 0⟩] _ rfl rfl (by simp) (Nat.zero_le _) (by simp [maxLen]) (by intro x hx; simp only [List.mem_cons, List.not_mem_nil, or_false] at hx; rcases hx with rfl | rfl <;> exact tk_ok (by unfold in64; omega) (by unfold in64; omega) (by unfold in64; omega) (by unfold in64; omega))).rd)
  intro v' w5 hown' hgrow' hat'
  have hv' := hown'.slice
  rw [hlen] at hv'
  obtain ⟨A4, c4, rfl, _⟩ := hv'
  have hg : World.grownBy _ w5 (some ga) := hgrow'
  have p0 : w5.cell? ⟨w1.heap.size, 0, none⟩ = some (.slice (some ⟨ga, 0, none⟩) ts.length c1) := ((grown_far hg (b := w1.heap.size) (by simp; omega) (by simp; omega)).1 0).trans (by go_simp)
  have p1 : w5.cell? ⟨w1.heap.size, 1, none⟩ = some (.int .i64 g) := ((grown_far hg (b := w1.heap.size) (by simp; omega) (by simp; omega)).1 1).trans (by go_simp)
  have p2 : w5.cell? ⟨w1.heap.size, 2, none⟩ = some (.slice B1 dn.length d1) := ((grown_far hg (b := w1.heap.size) (by simp; omega) (by simp; omega)).1 2).trans (by go_simp)
  have p3 : ∀ o, w5.frozen? ⟨w1.heap.size, o, none⟩ = false := fun o => ((grown_far hg (b := w1.heap.size) (by simp; omega) (by simp; omega)).2 o).trans (by have := v3 o; go_simp)
  have x0 : w5.cell? ⟨w.heap.size + 1, 0, none⟩ = some (.slice none 0 0) := ((grown_far hg (b := w.heap.size + 1) (by simp; omega) (by simp; omega)).1 0).trans (by go_simp)
  have x1 : w5.cell? ⟨w.heap.size + 1, 1, none⟩ = some (.int .i64 0) := ((grown_far hg (b := w.heap.size + 1) (by simp; omega) (by simp; omega)).1 1).trans (by go_simp)
  have x2 : w5.cell? ⟨w.heap.size + 1, 2, none⟩ = some (.slice none 0 0) := ((grown_far hg (b := w.heap.size + 1) (by simp; omega) (by simp; omega)).1 2).trans (by go_simp)
  have x3 : ∀ o, w5.frozen? ⟨w.heap.size + 1, o, none⟩ = false := fun o => ((grown_far hg (b := w.heap.size + 1) (by simp; omega) (by simp; omega)).2 o).trans (by have := s3 o; go_simp)
  have hat2 : ∀ k, (Value.slice A4 (ts.length + 2) c4).ownBlock = some k → k = ga ∨ w4.heap.size ≤ k := by
    intro k hk
    rcases hat' with e | e
    · rw [hk] at e; left; simpa [Value.ownBlock] using e
    · rw [hk] at e; right; simp at e; omega
  have HAT := Lib.hid hat2
  have HOW := Lib.hid hown'
  have HGR := Lib.hid hg
  clear hown' hgrow' hat' hat2 hg hlen
  go_wp2_with fail
  have hPT : partedTs ts j = ts.set j ⟨lo, hi, up, 2⟩ ++ [⟨lo, lo + P2, j, 0⟩, ⟨lo + P2, hi, j, 0⟩] := by unfold partedTs; rw [HTK.out]; simp only; rw [HP2.out]
  have hL : (partedTs ts j).length = ts.length + 2 := by rw [hPT]; simp
  have nb : ∀ k, (Value.slice A4 (ts.length + 2) c4).ownBlock = some k → k = ga ∨ w4.heap.size ≤ k := HAT.out
  have hX2 : Ext w w5 := (((HV4.out.pat.ext.setCell (p := ⟨ga, j * 4 + 3, none⟩) (by show _ ≤ ga; omega) _).alloc _)).grown HGR.out (by intro k hk; cases hk; omega)
  have hB3 : (Value.slice B1 dn.length d1).ownBlock ≠ some ga := Ow.far (by decide) HO.out HOD.out ga rfl
  have hB4 : (Value.slice B1 dn.length d1).ownBlock ≠ some w1.heap.size := fun h => by have := (HOD.out.lt _ h).2; omega
  have hOD4 := (((HOD.out.ext HE4.out).setOther (p := ⟨ga, j * 4 + 3, none⟩) hB3 (.int .i64 2)).ext ((Ext.refl _).alloc _)).kept HGR.out (.inr hB3)
  refine bodyPost_ret (v := .tuple #[.agg #[.slice A4 (ts.length + 2) c4, .int .i64 g, .slice B1 dn.length d1], .int .i64 ts.length, .int .i64 (ts.length + 1), .int .i64 0]) (by simp [results, Try.results74, go_sem]; go_simp) rfl ⟨A4, c4, B1, d1, by rw [hL], ?_, ?_, ?_, ?_, ?_⟩
  · rw [hL, hPT]
    exact ((((HOW.out.setOther (p := ⟨w1.heap.size, 0, none⟩) (fun h => by have := nb _ h; simp at this; omega) _).setBelow (p := ⟨w.heap.size + 1, 0, none⟩) (by show w.heap.size + 1 < _; omega) _).setBelow (p := ⟨w.heap.size + 1, 1, none⟩) (by show w.heap.size + 1 < _; omega) _).setBelow (p := ⟨w.heap.size + 1, 2, none⟩) (by show w.heap.size + 1 < _; omega) _).rd
  · exact ((((hOD4.setOther (p := ⟨w1.heap.size, 0, none⟩) hB4 _).setBelow (p := ⟨w.heap.size + 1, 0, none⟩) (by show w.heap.size + 1 < _; omega) _).setBelow (p := ⟨w.heap.size + 1, 1, none⟩) (by show w.heap.size + 1 < _; omega) _).setBelow (p := ⟨w.heap.size + 1, 2, none⟩) (by show w.heap.size + 1 < _; omega) _).rd
  · exact (HOW.out.from).mono (by omega)
  · exact (HOD.out.from).mono (by omega)
  · exact (((hX2.setCell (p := ⟨w1.heap.size, 0, none⟩) (by show _ ≤ w1.heap.size; omega) _).setCell (p := ⟨w.heap.size + 1, 0, none⟩) (by show _ ≤ w.heap.size + 1; omega) _).setCell (p := ⟨w.heap.size + 1, 1, none⟩) (by show _ ≤ w.heap.size + 1; omega) _).setCell (p := ⟨w.heap.size + 1, 2, none⟩) (by show _ ≤ w.heap.size + 1; omega) _

theorem ppart_any (A B : Option Addr) (c d : Nat) (ts : List Tk) (dn : List Bool) (g i : Int) (w : World) (h : Rd kTask w (.slice A ts.length c) ts) (hd : Rd kBool w (.slice B dn.length d) dn) (hg : in64 g) (hi : in64 i) (hl : ts.length ≤ 1048576) (hl2 : dn.length ≤ 1048576) :
    Calls Try.prog 74 #[.agg #[.slice A ts.length c, .int .i64 g, .slice B dn.length d], .int .i64 i] w fun e w' =>
      (partErr ts g dn.length i ≠ 0 ∧ TNo w ts g dn (mkPart (partErr ts g dn.length i)) e w') ∨ (partErr ts g dn.length i = 0 ∧ PartSaid w ts g dn i.toNat e w') := by
  by_cases ha : askErr ts g dn.length i = 0
  · obtain ⟨hr, hs⟩ := askErr_zero ha
    have hsi : 0 ≤ i ∧ i < (ts.length : Int) := by unfold wHas at hs; simpa using hs
    obtain ⟨j, rfl⟩ : ∃ j : Nat, i = j := ⟨i.toNat, by omega⟩
    have hj : j < ts.length := by omega
    have e0 : tkAt ts (j : Int) = ts.getD j tk0 := by unfold tkAt; rw [Int.toNat_natCast]
    cases ht : wGreat ts g dn.length j with
    | false =>
      have he : partErr ts g dn.length (j : Int) = 5 := by unfold partErr; rw [if_neg (by rw [hr]; decide), if_neg (by rw [hs]; decide), if_pos ht]
      rw [he]
      exact (ppart_small A B c d ts dn g j w h hd hg hr hj ht).mono fun e w' hh => .inl ⟨by decide, hh⟩
    | true =>
      by_cases hw : (ts.getD j tk0).wt = 0
      · by_cases hf : 1998 < ts.length
        · skip
          have he : partErr ts g dn.length (j : Int) = 2 := by unfold partErr; rw [if_neg (by rw [hr]; decide), if_neg (by rw [hs]; decide), if_neg (by rw [ht]; decide), e0, if_neg (by simpa using hw), if_pos hf]
          rw [he]
          exact (ppart_full A B c d ts dn g j w h hd hg hr hj ht hw hf).mono fun e w' hh => .inl ⟨by decide, hh⟩
        · skip
          have he : partErr ts g dn.length (j : Int) = 0 := by unfold partErr; rw [if_neg (by rw [hr]; decide), if_neg (by rw [hs]; decide), if_neg (by rw [ht]; decide), e0, if_neg (by simpa using hw), if_neg hf]
          rw [he]
          exact (ppart_ok A B c d ts dn g j w h hd hg hr hj ht hw (by omega)).mono fun e w' hh => .inr ⟨rfl, by rw [Int.toNat_natCast]; exact hh⟩
      · skip
        have he : partErr ts g dn.length (j : Int) = 5 := by unfold partErr; rw [if_neg (by rw [hr]; decide), if_neg (by rw [hs]; decide), if_neg (by rw [ht]; decide), e0, if_pos hw]
        rw [he]
        exact (ppart_wait A B c d ts dn g j w h hd hg hr hj ht hw).mono fun e w' hh => .inl ⟨by decide, hh⟩
  · have he : partErr ts g dn.length i = askErr ts g dn.length i := by
      unfold partErr
      unfold askErr at ha ⊢
      cases hr : wRight ts g dn.length with
      | false => rfl
      | true =>
        cases hs : wHas ts.length i with
        | false => rfl
        | true => rw [hr, hs] at ha; exact absurd rfl ha
    rw [he]
    exact (ppart_no A B c d ts dn g i w h hd hg hi hl hl2 ha).mono fun e w' hh => .inl ⟨ha, hh⟩
end Go.Proofs.Ytkpbanfpnilifaa

/- The program's Do of work. Written by wip/mk_pwork.py. -/
namespace Go.Proofs.Ytkpbanfpnilifaa
open Go.BigFrame
open Go.RowKit Go.Proofs.Ytkpbanfpnilifaa.Plain

set_option maxHeartbeats 1600000 in
set_option maxRecDepth 100000 in
theorem pdo_no (A B : Option Addr) (c d : Nat) (ts : List Tk) (dn : List Bool) (g : Int) (i : Int) (w : World) (h : Rd kTask w (.slice A ts.length c) ts) (hd : Rd kBool w (.slice B dn.length d) dn) (hg : in64 g) (hi : in64 i) (hl : ts.length ≤ 1048576) (hl2 : dn.length ≤ 1048576) (ha : askErr ts g dn.length i ≠ 0) :
    Calls Try.prog 75 #[.agg #[.slice A ts.length c, .int .i64 g, .slice B dn.length d], .int .i64 i] w (TNo w ts g dn (mkDo (askErr ts g dn.length i))) := by
  have H := Lib.hid h
  have HD := Lib.hid hd
  have hn := hd.len
  have hm := h.len
  have HG := Lib.hid hg
  have HI := Lib.hid hi
  obtain ⟨k, hk⟩ : ∃ k, askErr ts g dn.length i = k := ⟨_, rfl⟩
  rw [hk] at ha ⊢
  have HK := Lib.hid hk
  have e1 : (k != 0) = true := by simpa using ha
  clear h hd hk hg hi
  go_enter Try.func75, Try.ntmps75
  go_wp2_with fail
  have hP : PAt w A B c d dn.length ts.length g ((w.alloc (.cells #[.slice A ts.length c, .int .i64 g, .slice B dn.length d] 78)).alloc (.cells #[.slice none 0 0, .int .i64 0, .slice none 0 0] 78)) := Ext.refl _
  refine (copied_any _ _ _ _ _ _ _ _ (H.out.ext hP.ext) (HD.out.ext hP.ext) hl hl2).mono ?_
  rintro e w1 ⟨A1, c1, B1, d1, rfl, hO, hOD, hE⟩
  replace hP := hP.go hE
  have HO : Hid (Ow kTask (w.heap.size + 2) w1 (.slice A1 ts.length c1) ts) := Lib.hid (hO.mono (by simp))
  have HOD : Hid (Ow kBool (w.heap.size + 2) w1 (.slice B1 dn.length d1) dn) := Lib.hid (hOD.mono (by simp))
  have hV : VAt w A B c d dn.length ts.length g w1.heap.size A1 B1 c1 d1 (w1.alloc (.cells #[.slice A1 ts.length c1, .int .i64 g, .slice B1 dn.length d1] 78)) := VAt.start hP
  have HV0 := Lib.hid hV
  have HE1 : Hid (Ext w1 (w1.alloc (.cells #[.slice A1 ts.length c1, .int .i64 g, .slice B1 dn.length d1] 78))) := Lib.hid ((Ext.refl _).alloc _)
  obtain ⟨q0, q1, q2⟩ := hP.cells
  have k0 : w.heap.size < w1.heap.size := by have := hP.two; omega
  have k1 : w.heap.size + 1 < w1.heap.size := by have := hP.two; omega
  clear hO hOD hE hP hV
  go_wp2_with fail
  clear q0 q1 q2
  have hV := HV0.out
  refine (asked_any _ _ _ _ _ _ _ _ _ (H.out.ext hV.pat.ext) hn HG.out HI.out).mono ?_
  rintro e w2 ⟨he, hE⟩
  rw [HK.out] at he
  subst he
  replace hV := hV.go hE
  have HE2 := Lib.hid (HE1.out.trans hE)
  have HV := Lib.hid hV
  clear hE HV0 HE1
  obtain ⟨q0, q1, q2⟩ := hV.pat.cells
  obtain ⟨s0, s1, s2, s3⟩ := hV.pat.out
  obtain ⟨_, v0, v1, v2, v3, lv, gv⟩ := hV
  have l0 : w.heap.size < w2.heap.size := by omega
  have l1 : w.heap.size + 1 < w2.heap.size := by omega
  have l2 : w.heap.size < w2.heap.size + 1 := by omega
  have l3 : w.heap.size + 1 < w2.heap.size + 1 := by omega
  have l4 : w1.heap.size < w2.heap.size + 1 := by omega
  have n0 : ¬ w1.heap.size = w.heap.size := by omega
  have n1 : ¬ w1.heap.size = w.heap.size + 1 := by omega
  have n2 : ¬ w.heap.size + 1 = w1.heap.size := by omega
  have n3 : ¬ w.heap.size = w1.heap.size := by omega
  go_wp2_with fail
  have HVZ := HV
  have HEZ := HE2
  refine bodyPost_ret (v := .tuple #[.agg #[.slice A1 ts.length c1, .int .i64 g, .slice B1 dn.length d1], .bool false, .int .i64 (k)]) (by simp [results, Try.results75, go_sem]; go_simp) rfl (TNo.of (mk := mkDo (k)) HVZ.out HO.out HOD.out HEZ.out _ _ _)

set_option maxHeartbeats 1600000 in
set_option maxRecDepth 100000 in
theorem pdo_great (A B : Option Addr) (c d : Nat) (ts : List Tk) (dn : List Bool) (g : Int) (j : Nat) (w : World) (h : Rd kTask w (.slice A ts.length c) ts) (hd : Rd kBool w (.slice B dn.length d) dn) (hg : in64 g) (hr : wRight ts g dn.length = true) (hj : j < ts.length) (ht : wGreat ts g dn.length j = true) :
    Calls Try.prog 75 #[.agg #[.slice A ts.length c, .int .i64 g, .slice B dn.length d], .int .i64 j] w (TNo w ts g dn (mkDo 5)) := by
  have H := Lib.hid h
  have HD := Lib.hid hd
  have hn := hd.len
  have hnb := right_n hr
  have hm := h.len
  have HG := Lib.hid hg
  have HI : Hid (in64 (j : Int)) := Lib.hid (by unfold in64; omega)
  have hl : ts.length ≤ 1048576 := by omega
  have hl2 : dn.length ≤ 1048576 := by omega
  have hgb := hnb.2.2.2.2
  have hs : wHas ts.length (j : Int) = true := by unfold wHas; simp; omega
  have HK := Lib.hid (askErr_ok hr hs)
  have HW : wGreat ts g dn.length j = decide (g < (ts.getD j tk0).hi - (ts.getD j tk0).lo) := by unfold wGreat tkAt; rw [hr, hs, Int.toNat_natCast]; rfl
  obtain ⟨b, off, rfl, hcc⟩ := Rd.tasks H.out (by omega)
  obtain ⟨y0, y1, y2, y3⟩ := hcc j hj
  have e0 : ts.getD j ⟨0, 0, 0, 0⟩ = ts.getD j tk0 := rfl
  rw [e0] at y0 y1 y2 y3
  obtain ⟨o1, o2, o3, o4, o5, o6, o7⟩ := tkOk_iff dn.length j (ts.getD j tk0) |>.1 (right_ok hr j hj)
  obtain ⟨⟨lo, hi, up, wt⟩, htk⟩ : ∃ x, ts.getD j tk0 = x := ⟨_, rfl⟩
  have HTK := Lib.hid htk
  rw [htk] at y0 y1 y2 y3 o1 o2 o3 o4 o5 o6 o7 HW
  simp only at y0 y1 y2 y3 o1 o2 o3 o4 o5 o6 o7 HW
  rw [ht] at HW
  have HGR : Hid (decide (g < hi - lo) = true) := Lib.hid HW.symm
  have HDD : Hid (in64 (hi - lo)) := Lib.hid (by unfold in64; omega)
  have Y0 := Lib.hid y0
  have Y1 := Lib.hid y1
  have Y2 := Lib.hid y2
  have Y3 := Lib.hid y3
  have hj1 : (j : Int) < ts.length := by omega
  have hj0 : (0 : Int) ≤ j := by omega
  have hlb : b < w.heap.size := World.block_lt_of_cell? _ _ y0
  clear h hd hg hr ht hs hcc e0 htk y0 y1 y2 y3 HW
  go_enter Try.func75, Try.ntmps75
  go_wp2_with fail
  have hP : PAt w (some ⟨b, off, none⟩) B c d dn.length ts.length g ((w.alloc (.cells #[.slice (some ⟨b, off, none⟩) ts.length c, .int .i64 g, .slice B dn.length d] 78)).alloc (.cells #[.slice none 0 0, .int .i64 0, .slice none 0 0] 78)) := Ext.refl _
  refine (copied_any _ _ _ _ _ _ _ _ (H.out.ext hP.ext) (HD.out.ext hP.ext) hl hl2).mono ?_
  rintro e w1 ⟨A1, c1, B1, d1, rfl, hO, hOD, hE⟩
  replace hP := hP.go hE
  have HO : Hid (Ow kTask (w.heap.size + 2) w1 (.slice A1 ts.length c1) ts) := Lib.hid (hO.mono (by simp))
  have HOD : Hid (Ow kBool (w.heap.size + 2) w1 (.slice B1 dn.length d1) dn) := Lib.hid (hOD.mono (by simp))
  have hV : VAt w (some ⟨b, off, none⟩) B c d dn.length ts.length g w1.heap.size A1 B1 c1 d1 (w1.alloc (.cells #[.slice A1 ts.length c1, .int .i64 g, .slice B1 dn.length d1] 78)) := VAt.start hP
  have HV0 := Lib.hid hV
  have HE1 : Hid (Ext w1 (w1.alloc (.cells #[.slice A1 ts.length c1, .int .i64 g, .slice B1 dn.length d1] 78))) := Lib.hid ((Ext.refl _).alloc _)
  obtain ⟨q0, q1, q2⟩ := hP.cells
  have k0 : w.heap.size < w1.heap.size := by have := hP.two; omega
  have k1 : w.heap.size + 1 < w1.heap.size := by have := hP.two; omega
  clear hO hOD hE hP hV
  go_wp2_with fail
  clear q0 q1 q2
  have hV := HV0.out
  refine (asked_any _ _ _ _ _ _ _ _ _ (H.out.ext hV.pat.ext) hn HG.out HI.out).mono ?_
  rintro e w2 ⟨he, hE⟩
  rw [HK.out] at he
  subst he
  replace hV := hV.go hE
  have HE2 := Lib.hid (HE1.out.trans hE)
  have HV := Lib.hid hV
  clear hE HV0 HE1
  obtain ⟨q0, q1, q2⟩ := hV.pat.cells
  obtain ⟨s0, s1, s2, s3⟩ := hV.pat.out
  obtain ⟨_, v0, v1, v2, v3, lv, gv⟩ := hV
  have l0 : w.heap.size < w2.heap.size := by omega
  have l1 : w.heap.size + 1 < w2.heap.size := by omega
  have l2 : w.heap.size < w2.heap.size + 1 := by omega
  have l3 : w.heap.size + 1 < w2.heap.size + 1 := by omega
  have l4 : w1.heap.size < w2.heap.size + 1 := by omega
  have n0 : ¬ w1.heap.size = w.heap.size := by omega
  have n1 : ¬ w1.heap.size = w.heap.size + 1 := by omega
  have n2 : ¬ w.heap.size + 1 = w1.heap.size := by omega
  have n3 : ¬ w.heap.size = w1.heap.size := by omega
  have z0 := HV.out.pat.ext.cell Y0.out
  have z1 := HV.out.pat.ext.cell Y1.out
  have z2 := HV.out.pat.ext.cell Y2.out
  have z3 := HV.out.pat.ext.cell Y3.out
  have lb0 : b < w2.heap.size := by omega
  have lb1 : b < w2.heap.size + 1 := by omega
  go_wp2_with fail
  have lv9 := lv
  clear q0 q1 q2 s0 s1 s2 s3 v0 v1 v2 v3 lv gv l0 l1 l2 l3 l4 n0 n1 n2 n3 z0 z1 z2 z3 lb0 lb1
  refine (great_any lo hi up wt g _ HDD.out HG.out).mono ?_
  rintro e w3 ⟨he, hE⟩
  rw [HGR.out] at he
  subst he
  have t0 : w3.cell? ⟨w2.heap.size, 0, none⟩ = some (.int .i64 lo) := hE.cell (by go_simp)
  have t1 : w3.cell? ⟨w2.heap.size, 1, none⟩ = some (.int .i64 hi) := hE.cell (by go_simp)
  have t2 : w3.cell? ⟨w2.heap.size, 2, none⟩ = some (.int .i64 up) := hE.cell (by go_simp)
  have t3 : w3.cell? ⟨w2.heap.size, 3, none⟩ = some (.int .i64 wt) := hE.cell (by go_simp)
  have hz := hE.size
  simp at hz
  have hE23 := ((Ext.refl w2).alloc _).trans hE
  have hV := HV.out.go hE23
  have HE3 := Lib.hid (HE2.out.trans hE23)
  have HV3 := Lib.hid hV
  clear hE hE23 HV HE2
  obtain ⟨q0, q1, q2⟩ := hV.pat.cells
  obtain ⟨s0, s1, s2, s3⟩ := hV.pat.out
  obtain ⟨_, v0, v1, v2, v3, lv, gv⟩ := hV
  have l0 : w.heap.size < w3.heap.size := by omega
  have l1 : w.heap.size + 1 < w3.heap.size := by omega
  have l2 : w.heap.size < w3.heap.size + 1 := by omega
  have l3 : w.heap.size + 1 < w3.heap.size + 1 := by omega
  have l4 : w1.heap.size < w3.heap.size + 1 := by omega
  have n0 : ¬ w1.heap.size = w.heap.size := by omega
  have n1 : ¬ w1.heap.size = w.heap.size + 1 := by omega
  have n2 : ¬ w.heap.size + 1 = w1.heap.size := by omega
  have n3 : ¬ w.heap.size = w1.heap.size := by omega
  have lt : w2.heap.size < w3.heap.size := by omega
  go_wp2_with fail
  have HVZ := HV3
  have HEZ := HE3
  refine bodyPost_ret (v := .tuple #[.agg #[.slice A1 ts.length c1, .int .i64 g, .slice B1 dn.length d1], .bool false, .int .i64 (5)]) (by simp [results, Try.results75, go_sem]; go_simp) rfl (TNo.of (mk := mkDo (5)) HVZ.out HO.out HOD.out HEZ.out _ _ _)

set_option maxHeartbeats 1600000 in
set_option maxRecDepth 100000 in
theorem pdo_wait (A B : Option Addr) (c d : Nat) (ts : List Tk) (dn : List Bool) (g : Int) (j : Nat) (w : World) (h : Rd kTask w (.slice A ts.length c) ts) (hd : Rd kBool w (.slice B dn.length d) dn) (hg : in64 g) (hr : wRight ts g dn.length = true) (hj : j < ts.length) (ht : wGreat ts g dn.length j = false) (h3 : (ts.getD j tk0).wt ≠ 0) :
    Calls Try.prog 75 #[.agg #[.slice A ts.length c, .int .i64 g, .slice B dn.length d], .int .i64 j] w (TNo w ts g dn (mkDo 5)) := by
  have H := Lib.hid h
  have HD := Lib.hid hd
  have hn := hd.len
  have hnb := right_n hr
  have hm := h.len
  have HG := Lib.hid hg
  have HI : Hid (in64 (j : Int)) := Lib.hid (by unfold in64; omega)
  have hl : ts.length ≤ 1048576 := by omega
  have hl2 : dn.length ≤ 1048576 := by omega
  have hgb := hnb.2.2.2.2
  have hs : wHas ts.length (j : Int) = true := by unfold wHas; simp; omega
  have HK := Lib.hid (askErr_ok hr hs)
  have HW : wGreat ts g dn.length j = decide (g < (ts.getD j tk0).hi - (ts.getD j tk0).lo) := by unfold wGreat tkAt; rw [hr, hs, Int.toNat_natCast]; rfl
  obtain ⟨b, off, rfl, hcc⟩ := Rd.tasks H.out (by omega)
  obtain ⟨y0, y1, y2, y3⟩ := hcc j hj
  have e0 : ts.getD j ⟨0, 0, 0, 0⟩ = ts.getD j tk0 := rfl
  rw [e0] at y0 y1 y2 y3
  obtain ⟨o1, o2, o3, o4, o5, o6, o7⟩ := tkOk_iff dn.length j (ts.getD j tk0) |>.1 (right_ok hr j hj)
  obtain ⟨⟨lo, hi, up, wt⟩, htk⟩ : ∃ x, ts.getD j tk0 = x := ⟨_, rfl⟩
  have HTK := Lib.hid htk
  rw [htk] at y0 y1 y2 y3 h3 o1 o2 o3 o4 o5 o6 o7 HW
  simp only at y0 y1 y2 y3 h3 o1 o2 o3 o4 o5 o6 o7 HW
  rw [ht] at HW
  have HGR : Hid (decide (g < hi - lo) = false) := Lib.hid HW.symm
  have HDD : Hid (in64 (hi - lo)) := Lib.hid (by unfold in64; omega)
  have Y0 := Lib.hid y0
  have Y1 := Lib.hid y1
  have Y2 := Lib.hid y2
  have Y3 := Lib.hid y3
  have hj1 : (j : Int) < ts.length := by omega
  have hj0 : (0 : Int) ≤ j := by omega
  have hlb : b < w.heap.size := World.block_lt_of_cell? _ _ y0
  have e3 : (wt != 0) = true := by simpa using h3
  clear h hd hg hr ht hs hcc e0 htk y0 y1 y2 y3 HW
  go_enter Try.func75, Try.ntmps75
  go_wp2_with fail
  have hP : PAt w (some ⟨b, off, none⟩) B c d dn.length ts.length g ((w.alloc (.cells #[.slice (some ⟨b, off, none⟩) ts.length c, .int .i64 g, .slice B dn.length d] 78)).alloc (.cells #[.slice none 0 0, .int .i64 0, .slice none 0 0] 78)) := Ext.refl _
  refine (copied_any _ _ _ _ _ _ _ _ (H.out.ext hP.ext) (HD.out.ext hP.ext) hl hl2).mono ?_
  rintro e w1 ⟨A1, c1, B1, d1, rfl, hO, hOD, hE⟩
  replace hP := hP.go hE
  have HO : Hid (Ow kTask (w.heap.size + 2) w1 (.slice A1 ts.length c1) ts) := Lib.hid (hO.mono (by simp))
  have HOD : Hid (Ow kBool (w.heap.size + 2) w1 (.slice B1 dn.length d1) dn) := Lib.hid (hOD.mono (by simp))
  have hV : VAt w (some ⟨b, off, none⟩) B c d dn.length ts.length g w1.heap.size A1 B1 c1 d1 (w1.alloc (.cells #[.slice A1 ts.length c1, .int .i64 g, .slice B1 dn.length d1] 78)) := VAt.start hP
  have HV0 := Lib.hid hV
  have HE1 : Hid (Ext w1 (w1.alloc (.cells #[.slice A1 ts.length c1, .int .i64 g, .slice B1 dn.length d1] 78))) := Lib.hid ((Ext.refl _).alloc _)
  obtain ⟨q0, q1, q2⟩ := hP.cells
  have k0 : w.heap.size < w1.heap.size := by have := hP.two; omega
  have k1 : w.heap.size + 1 < w1.heap.size := by have := hP.two; omega
  clear hO hOD hE hP hV
  go_wp2_with fail
  clear q0 q1 q2
  have hV := HV0.out
  refine (asked_any _ _ _ _ _ _ _ _ _ (H.out.ext hV.pat.ext) hn HG.out HI.out).mono ?_
  rintro e w2 ⟨he, hE⟩
  rw [HK.out] at he
  subst he
  replace hV := hV.go hE
  have HE2 := Lib.hid (HE1.out.trans hE)
  have HV := Lib.hid hV
  clear hE HV0 HE1
  obtain ⟨q0, q1, q2⟩ := hV.pat.cells
  obtain ⟨s0, s1, s2, s3⟩ := hV.pat.out
  obtain ⟨_, v0, v1, v2, v3, lv, gv⟩ := hV
  have l0 : w.heap.size < w2.heap.size := by omega
  have l1 : w.heap.size + 1 < w2.heap.size := by omega
  have l2 : w.heap.size < w2.heap.size + 1 := by omega
  have l3 : w.heap.size + 1 < w2.heap.size + 1 := by omega
  have l4 : w1.heap.size < w2.heap.size + 1 := by omega
  have n0 : ¬ w1.heap.size = w.heap.size := by omega
  have n1 : ¬ w1.heap.size = w.heap.size + 1 := by omega
  have n2 : ¬ w.heap.size + 1 = w1.heap.size := by omega
  have n3 : ¬ w.heap.size = w1.heap.size := by omega
  have z0 := HV.out.pat.ext.cell Y0.out
  have z1 := HV.out.pat.ext.cell Y1.out
  have z2 := HV.out.pat.ext.cell Y2.out
  have z3 := HV.out.pat.ext.cell Y3.out
  have lb0 : b < w2.heap.size := by omega
  have lb1 : b < w2.heap.size + 1 := by omega
  go_wp2_with fail
  have lv9 := lv
  clear q0 q1 q2 s0 s1 s2 s3 v0 v1 v2 v3 lv gv l0 l1 l2 l3 l4 n0 n1 n2 n3 z0 z1 z2 z3 lb0 lb1
  refine (great_any lo hi up wt g _ HDD.out HG.out).mono ?_
  rintro e w3 ⟨he, hE⟩
  rw [HGR.out] at he
  subst he
  have t0 : w3.cell? ⟨w2.heap.size, 0, none⟩ = some (.int .i64 lo) := hE.cell (by go_simp)
  have t1 : w3.cell? ⟨w2.heap.size, 1, none⟩ = some (.int .i64 hi) := hE.cell (by go_simp)
  have t2 : w3.cell? ⟨w2.heap.size, 2, none⟩ = some (.int .i64 up) := hE.cell (by go_simp)
  have t3 : w3.cell? ⟨w2.heap.size, 3, none⟩ = some (.int .i64 wt) := hE.cell (by go_simp)
  have hz := hE.size
  simp at hz
  have hE23 := ((Ext.refl w2).alloc _).trans hE
  have hV := HV.out.go hE23
  have HE3 := Lib.hid (HE2.out.trans hE23)
  have HV3 := Lib.hid hV
  clear hE hE23 HV HE2
  obtain ⟨q0, q1, q2⟩ := hV.pat.cells
  obtain ⟨s0, s1, s2, s3⟩ := hV.pat.out
  obtain ⟨_, v0, v1, v2, v3, lv, gv⟩ := hV
  have l0 : w.heap.size < w3.heap.size := by omega
  have l1 : w.heap.size + 1 < w3.heap.size := by omega
  have l2 : w.heap.size < w3.heap.size + 1 := by omega
  have l3 : w.heap.size + 1 < w3.heap.size + 1 := by omega
  have l4 : w1.heap.size < w3.heap.size + 1 := by omega
  have n0 : ¬ w1.heap.size = w.heap.size := by omega
  have n1 : ¬ w1.heap.size = w.heap.size + 1 := by omega
  have n2 : ¬ w.heap.size + 1 = w1.heap.size := by omega
  have n3 : ¬ w.heap.size = w1.heap.size := by omega
  have lt : w2.heap.size < w3.heap.size := by omega
  go_wp2_with fail
  have HVZ := HV3
  have HEZ := HE3
  refine bodyPost_ret (v := .tuple #[.agg #[.slice A1 ts.length c1, .int .i64 g, .slice B1 dn.length d1], .bool false, .int .i64 (5)]) (by simp [results, Try.results75, go_sem]; go_simp) rfl (TNo.of (mk := mkDo (5)) HVZ.out HO.out HOD.out HEZ.out _ _ _)

set_option maxHeartbeats 1600000 in
set_option maxRecDepth 100000 in
theorem pdo_done (A B : Option Addr) (c d : Nat) (ts : List Tk) (dn : List Bool) (g : Int) (j : Nat) (w : World) (h : Rd kTask w (.slice A ts.length c) ts) (hd : Rd kBool w (.slice B dn.length d) dn) (hg : in64 g) (hr : wRight ts g dn.length = true) (hj : j < ts.length) (ht : wGreat ts g dn.length j = false) (h3 : (ts.getD j tk0).wt = 0) (hdn : dn.getD (ts.getD j tk0).lo.toNat false = true) :
    Calls Try.prog 75 #[.agg #[.slice A ts.length c, .int .i64 g, .slice B dn.length d], .int .i64 j] w (TNo w ts g dn (mkDo 5)) := by
  have H := Lib.hid h
  have HD := Lib.hid hd
  have hn := hd.len
  have hnb := right_n hr
  have hm := h.len
  have HG := Lib.hid hg
  have HI : Hid (in64 (j : Int)) := Lib.hid (by unfold in64; omega)
  have hl : ts.length ≤ 1048576 := by omega
  have hl2 : dn.length ≤ 1048576 := by omega
  have hgb := hnb.2.2.2.2
  have hs : wHas ts.length (j : Int) = true := by unfold wHas; simp; omega
  have HK := Lib.hid (askErr_ok hr hs)
  have HW : wGreat ts g dn.length j = decide (g < (ts.getD j tk0).hi - (ts.getD j tk0).lo) := by unfold wGreat tkAt; rw [hr, hs, Int.toNat_natCast]; rfl
  obtain ⟨b, off, rfl, hcc⟩ := Rd.tasks H.out (by omega)
  obtain ⟨y0, y1, y2, y3⟩ := hcc j hj
  have e0 : ts.getD j ⟨0, 0, 0, 0⟩ = ts.getD j tk0 := rfl
  rw [e0] at y0 y1 y2 y3
  obtain ⟨o1, o2, o3, o4, o5, o6, o7⟩ := tkOk_iff dn.length j (ts.getD j tk0) |>.1 (right_ok hr j hj)
  obtain ⟨⟨lo, hi, up, wt⟩, htk⟩ : ∃ x, ts.getD j tk0 = x := ⟨_, rfl⟩
  have HTK := Lib.hid htk
  rw [htk] at y0 y1 y2 y3 h3 o1 o2 o3 o4 o5 o6 o7 HW
  simp only at y0 y1 y2 y3 h3 o1 o2 o3 o4 o5 o6 o7 HW
  rw [ht] at HW
  have HGR : Hid (decide (g < hi - lo) = false) := Lib.hid HW.symm
  have HDD : Hid (in64 (hi - lo)) := Lib.hid (by unfold in64; omega)
  have Y0 := Lib.hid y0
  have Y1 := Lib.hid y1
  have Y2 := Lib.hid y2
  have Y3 := Lib.hid y3
  have hj1 : (j : Int) < ts.length := by omega
  have hj0 : (0 : Int) ≤ j := by omega
  have hlb : b < w.heap.size := World.block_lt_of_cell? _ _ y0
  subst h3
  obtain ⟨L, rfl⟩ : ∃ L : Nat, lo = L := ⟨lo.toNat, by omega⟩
  obtain ⟨R, rfl⟩ : ∃ R : Nat, hi = R := ⟨hi.toNat, by omega⟩
  obtain ⟨bb, boff, rfl, hbc⟩ := Rd.bools HD.out (by omega)
  have z9 := hbc L (by omega)
  have hdL : dn.getD L false = true := by rw [HTK.out] at hdn; simpa using hdn
  rw [hdL] at z9
  have Z9 := Lib.hid z9
  have hL1 : (L : Int) < dn.length := by omega
  have hL0 : (0 : Int) ≤ L := by omega
  clear hbc z9 hdn hdL
  clear h hd hg hr ht hs hcc e0 htk y0 y1 y2 y3 HW
  go_enter Try.func75, Try.ntmps75
  go_wp2_with fail
  have hP : PAt w (some ⟨b, off, none⟩) (some ⟨bb, boff, none⟩) c d dn.length ts.length g ((w.alloc (.cells #[.slice (some ⟨b, off, none⟩) ts.length c, .int .i64 g, .slice (some ⟨bb, boff, none⟩) dn.length d] 78)).alloc (.cells #[.slice none 0 0, .int .i64 0, .slice none 0 0] 78)) := Ext.refl _
  refine (copied_any _ _ _ _ _ _ _ _ (H.out.ext hP.ext) (HD.out.ext hP.ext) hl hl2).mono ?_
  rintro e w1 ⟨A1, c1, B1, d1, rfl, hO, hOD, hE⟩
  replace hP := hP.go hE
  have HO : Hid (Ow kTask (w.heap.size + 2) w1 (.slice A1 ts.length c1) ts) := Lib.hid (hO.mono (by simp))
  have HOD : Hid (Ow kBool (w.heap.size + 2) w1 (.slice B1 dn.length d1) dn) := Lib.hid (hOD.mono (by simp))
  have hV : VAt w (some ⟨b, off, none⟩) (some ⟨bb, boff, none⟩) c d dn.length ts.length g w1.heap.size A1 B1 c1 d1 (w1.alloc (.cells #[.slice A1 ts.length c1, .int .i64 g, .slice B1 dn.length d1] 78)) := VAt.start hP
  have HV0 := Lib.hid hV
  have HE1 : Hid (Ext w1 (w1.alloc (.cells #[.slice A1 ts.length c1, .int .i64 g, .slice B1 dn.length d1] 78))) := Lib.hid ((Ext.refl _).alloc _)
  obtain ⟨q0, q1, q2⟩ := hP.cells
  have k0 : w.heap.size < w1.heap.size := by have := hP.two; omega
  have k1 : w.heap.size + 1 < w1.heap.size := by have := hP.two; omega
  clear hO hOD hE hP hV
  go_wp2_with fail
  clear q0 q1 q2
  have hV := HV0.out
  refine (asked_any _ _ _ _ _ _ _ _ _ (H.out.ext hV.pat.ext) hn HG.out HI.out).mono ?_
  rintro e w2 ⟨he, hE⟩
  rw [HK.out] at he
  subst he
  replace hV := hV.go hE
  have HE2 := Lib.hid (HE1.out.trans hE)
  have HV := Lib.hid hV
  clear hE HV0 HE1
  obtain ⟨q0, q1, q2⟩ := hV.pat.cells
  obtain ⟨s0, s1, s2, s3⟩ := hV.pat.out
  obtain ⟨_, v0, v1, v2, v3, lv, gv⟩ := hV
  have l0 : w.heap.size < w2.heap.size := by omega
  have l1 : w.heap.size + 1 < w2.heap.size := by omega
  have l2 : w.heap.size < w2.heap.size + 1 := by omega
  have l3 : w.heap.size + 1 < w2.heap.size + 1 := by omega
  have l4 : w1.heap.size < w2.heap.size + 1 := by omega
  have n0 : ¬ w1.heap.size = w.heap.size := by omega
  have n1 : ¬ w1.heap.size = w.heap.size + 1 := by omega
  have n2 : ¬ w.heap.size + 1 = w1.heap.size := by omega
  have n3 : ¬ w.heap.size = w1.heap.size := by omega
  have z0 := HV.out.pat.ext.cell Y0.out
  have z1 := HV.out.pat.ext.cell Y1.out
  have z2 := HV.out.pat.ext.cell Y2.out
  have z3 := HV.out.pat.ext.cell Y3.out
  have lb0 : b < w2.heap.size := by omega
  have lb1 : b < w2.heap.size + 1 := by omega
  go_wp2_with fail
  have lv9 := lv
  clear q0 q1 q2 s0 s1 s2 s3 v0 v1 v2 v3 lv gv l0 l1 l2 l3 l4 n0 n1 n2 n3 z0 z1 z2 z3 lb0 lb1
  refine (great_any L R up 0 g _ HDD.out HG.out).mono ?_
  rintro e w3 ⟨he, hE⟩
  rw [HGR.out] at he
  subst he
  have t0 : w3.cell? ⟨w2.heap.size, 0, none⟩ = some (.int .i64 L) := hE.cell (by go_simp)
  have t1 : w3.cell? ⟨w2.heap.size, 1, none⟩ = some (.int .i64 R) := hE.cell (by go_simp)
  have t2 : w3.cell? ⟨w2.heap.size, 2, none⟩ = some (.int .i64 up) := hE.cell (by go_simp)
  have t3 : w3.cell? ⟨w2.heap.size, 3, none⟩ = some (.int .i64 0) := hE.cell (by go_simp)
  have hz := hE.size
  simp at hz
  have hE23 := ((Ext.refl w2).alloc _).trans hE
  have hV := HV.out.go hE23
  have HE3 := Lib.hid (HE2.out.trans hE23)
  have HV3 := Lib.hid hV
  clear hE hE23 HV HE2
  obtain ⟨q0, q1, q2⟩ := hV.pat.cells
  obtain ⟨s0, s1, s2, s3⟩ := hV.pat.out
  obtain ⟨_, v0, v1, v2, v3, lv, gv⟩ := hV
  have l0 : w.heap.size < w3.heap.size := by omega
  have l1 : w.heap.size + 1 < w3.heap.size := by omega
  have l2 : w.heap.size < w3.heap.size + 1 := by omega
  have l3 : w.heap.size + 1 < w3.heap.size + 1 := by omega
  have l4 : w1.heap.size < w3.heap.size + 1 := by omega
  have n0 : ¬ w1.heap.size = w.heap.size := by omega
  have n1 : ¬ w1.heap.size = w.heap.size + 1 := by omega
  have n2 : ¬ w.heap.size + 1 = w1.heap.size := by omega
  have n3 : ¬ w.heap.size = w1.heap.size := by omega
  have lt : w2.heap.size < w3.heap.size := by omega
  have z9 := HV3.out.pat.ext.cell Z9.out
  go_wp2_with fail
  have HVZ := HV3
  have HEZ := HE3
  refine bodyPost_ret (v := .tuple #[.agg #[.slice A1 ts.length c1, .int .i64 g, .slice B1 dn.length d1], .bool false, .int .i64 (5)]) (by simp [results, Try.results75, go_sem]; go_simp) rfl (TNo.of (mk := mkDo (5)) HVZ.out HO.out HOD.out HEZ.out _ _ _)

set_option maxHeartbeats 1600000 in
set_option maxRecDepth 100000 in
theorem pdo_ok (A B : Option Addr) (c d : Nat) (ts : List Tk) (dn : List Bool) (g : Int) (j : Nat) (w : World) (h : Rd kTask w (.slice A ts.length c) ts) (hd : Rd kBool w (.slice B dn.length d) dn) (hg : in64 g) (hr : wRight ts g dn.length = true) (hj : j < ts.length) (ht : wGreat ts g dn.length j = false) (h3 : (ts.getD j tk0).wt = 0) (hdn : dn.getD (ts.getD j tk0).lo.toNat false = false) :
    Calls Try.prog 75 #[.agg #[.slice A ts.length c, .int .i64 g, .slice B dn.length d], .int .i64 j] w (DoSaid w ts g dn j) := by
  have HOK := Lib.hid (by have := hr; unfold wRight at this; rw [Bool.and_eq_true] at this; exact this.2 : wOkTo ts dn.length ts.length = true)
  have H := Lib.hid h
  have HD := Lib.hid hd
  have hn := hd.len
  have hnb := right_n hr
  have hm := h.len
  have HG := Lib.hid hg
  have HI : Hid (in64 (j : Int)) := Lib.hid (by unfold in64; omega)
  have hl : ts.length ≤ 1048576 := by omega
  have hl2 : dn.length ≤ 1048576 := by omega
  have hgb := hnb.2.2.2.2
  have hs : wHas ts.length (j : Int) = true := by unfold wHas; simp; omega
  have HK := Lib.hid (askErr_ok hr hs)
  have HW : wGreat ts g dn.length j = decide (g < (ts.getD j tk0).hi - (ts.getD j tk0).lo) := by unfold wGreat tkAt; rw [hr, hs, Int.toNat_natCast]; rfl
  obtain ⟨b, off, rfl, hcc⟩ := Rd.tasks H.out (by omega)
  obtain ⟨y0, y1, y2, y3⟩ := hcc j hj
  have e0 : ts.getD j ⟨0, 0, 0, 0⟩ = ts.getD j tk0 := rfl
  rw [e0] at y0 y1 y2 y3
  obtain ⟨o1, o2, o3, o4, o5, o6, o7⟩ := tkOk_iff dn.length j (ts.getD j tk0) |>.1 (right_ok hr j hj)
  obtain ⟨⟨lo, hi, up, wt⟩, htk⟩ : ∃ x, ts.getD j tk0 = x := ⟨_, rfl⟩
  have HTK := Lib.hid htk
  rw [htk] at y0 y1 y2 y3 h3 o1 o2 o3 o4 o5 o6 o7 HW
  simp only at y0 y1 y2 y3 h3 o1 o2 o3 o4 o5 o6 o7 HW
  rw [ht] at HW
  have HGR : Hid (decide (g < hi - lo) = false) := Lib.hid HW.symm
  have HDD : Hid (in64 (hi - lo)) := Lib.hid (by unfold in64; omega)
  have Y0 := Lib.hid y0
  have Y1 := Lib.hid y1
  have Y2 := Lib.hid y2
  have Y3 := Lib.hid y3
  have hj1 : (j : Int) < ts.length := by omega
  have hj0 : (0 : Int) ≤ j := by omega
  have hlb : b < w.heap.size := World.block_lt_of_cell? _ _ y0
  subst h3
  obtain ⟨L, rfl⟩ : ∃ L : Nat, lo = L := ⟨lo.toNat, by omega⟩
  obtain ⟨R, rfl⟩ : ∃ R : Nat, hi = R := ⟨hi.toNat, by omega⟩
  obtain ⟨bb, boff, rfl, hbc⟩ := Rd.bools HD.out (by omega)
  have z9 := hbc L (by omega)
  have hdL : dn.getD L false = false := by rw [HTK.out] at hdn; simpa using hdn
  rw [hdL] at z9
  have Z9 := Lib.hid z9
  have hL1 : (L : Int) < dn.length := by omega
  have hL0 : (0 : Int) ≤ L := by omega
  clear hbc z9 hdn hdL
  clear h hd hg hr ht hs hcc e0 htk y0 y1 y2 y3 HW
  go_enter Try.func75, Try.ntmps75
  go_wp2_with fail
  have hP : PAt w (some ⟨b, off, none⟩) (some ⟨bb, boff, none⟩) c d dn.length ts.length g ((w.alloc (.cells #[.slice (some ⟨b, off, none⟩) ts.length c, .int .i64 g, .slice (some ⟨bb, boff, none⟩) dn.length d] 78)).alloc (.cells #[.slice none 0 0, .int .i64 0, .slice none 0 0] 78)) := Ext.refl _
  refine (copied_any _ _ _ _ _ _ _ _ (H.out.ext hP.ext) (HD.out.ext hP.ext) hl hl2).mono ?_
  rintro e w1 ⟨A1, c1, B1, d1, rfl, hO, hOD, hE⟩
  replace hP := hP.go hE
  have HO : Hid (Ow kTask (w.heap.size + 2) w1 (.slice A1 ts.length c1) ts) := Lib.hid (hO.mono (by simp))
  have HOD : Hid (Ow kBool (w.heap.size + 2) w1 (.slice B1 dn.length d1) dn) := Lib.hid (hOD.mono (by simp))
  have hV : VAt w (some ⟨b, off, none⟩) (some ⟨bb, boff, none⟩) c d dn.length ts.length g w1.heap.size A1 B1 c1 d1 (w1.alloc (.cells #[.slice A1 ts.length c1, .int .i64 g, .slice B1 dn.length d1] 78)) := VAt.start hP
  have HV0 := Lib.hid hV
  have HE1 : Hid (Ext w1 (w1.alloc (.cells #[.slice A1 ts.length c1, .int .i64 g, .slice B1 dn.length d1] 78))) := Lib.hid ((Ext.refl _).alloc _)
  obtain ⟨q0, q1, q2⟩ := hP.cells
  have k0 : w.heap.size < w1.heap.size := by have := hP.two; omega
  have k1 : w.heap.size + 1 < w1.heap.size := by have := hP.two; omega
  clear hO hOD hE hP hV
  go_wp2_with fail
  clear q0 q1 q2
  have hV := HV0.out
  refine (asked_any _ _ _ _ _ _ _ _ _ (H.out.ext hV.pat.ext) hn HG.out HI.out).mono ?_
  rintro e w2 ⟨he, hE⟩
  rw [HK.out] at he
  subst he
  replace hV := hV.go hE
  have HE2 := Lib.hid (HE1.out.trans hE)
  have HV := Lib.hid hV
  clear hE HV0 HE1
  obtain ⟨q0, q1, q2⟩ := hV.pat.cells
  obtain ⟨s0, s1, s2, s3⟩ := hV.pat.out
  obtain ⟨_, v0, v1, v2, v3, lv, gv⟩ := hV
  have l0 : w.heap.size < w2.heap.size := by omega
  have l1 : w.heap.size + 1 < w2.heap.size := by omega
  have l2 : w.heap.size < w2.heap.size + 1 := by omega
  have l3 : w.heap.size + 1 < w2.heap.size + 1 := by omega
  have l4 : w1.heap.size < w2.heap.size + 1 := by omega
  have n0 : ¬ w1.heap.size = w.heap.size := by omega
  have n1 : ¬ w1.heap.size = w.heap.size + 1 := by omega
  have n2 : ¬ w.heap.size + 1 = w1.heap.size := by omega
  have n3 : ¬ w.heap.size = w1.heap.size := by omega
  have z0 := HV.out.pat.ext.cell Y0.out
  have z1 := HV.out.pat.ext.cell Y1.out
  have z2 := HV.out.pat.ext.cell Y2.out
  have z3 := HV.out.pat.ext.cell Y3.out
  have lb0 : b < w2.heap.size := by omega
  have lb1 : b < w2.heap.size + 1 := by omega
  go_wp2_with fail
  have lv9 := lv
  clear q0 q1 q2 s0 s1 s2 s3 v0 v1 v2 v3 lv gv l0 l1 l2 l3 l4 n0 n1 n2 n3 z0 z1 z2 z3 lb0 lb1
  refine (great_any L R up 0 g _ HDD.out HG.out).mono ?_
  rintro e w3 ⟨he, hE⟩
  rw [HGR.out] at he
  subst he
  have t0 : w3.cell? ⟨w2.heap.size, 0, none⟩ = some (.int .i64 L) := hE.cell (by go_simp)
  have t1 : w3.cell? ⟨w2.heap.size, 1, none⟩ = some (.int .i64 R) := hE.cell (by go_simp)
  have t2 : w3.cell? ⟨w2.heap.size, 2, none⟩ = some (.int .i64 up) := hE.cell (by go_simp)
  have t3 : w3.cell? ⟨w2.heap.size, 3, none⟩ = some (.int .i64 0) := hE.cell (by go_simp)
  have hz := hE.size
  simp at hz
  have hE23 := ((Ext.refl w2).alloc _).trans hE
  have hV := HV.out.go hE23
  have HE3 := Lib.hid (HE2.out.trans hE23)
  have HV3 := Lib.hid hV
  clear hE hE23 HV HE2
  obtain ⟨q0, q1, q2⟩ := hV.pat.cells
  obtain ⟨s0, s1, s2, s3⟩ := hV.pat.out
  obtain ⟨_, v0, v1, v2, v3, lv, gv⟩ := hV
  have l0 : w.heap.size < w3.heap.size := by omega
  have l1 : w.heap.size + 1 < w3.heap.size := by omega
  have l2 : w.heap.size < w3.heap.size + 1 := by omega
  have l3 : w.heap.size + 1 < w3.heap.size + 1 := by omega
  have l4 : w1.heap.size < w3.heap.size + 1 := by omega
  have n0 : ¬ w1.heap.size = w.heap.size := by omega
  have n1 : ¬ w1.heap.size = w.heap.size + 1 := by omega
  have n2 : ¬ w.heap.size + 1 = w1.heap.size := by omega
  have n3 : ¬ w.heap.size = w1.heap.size := by omega
  have lt : w2.heap.size < w3.heap.size := by omega
  have z9 := HV3.out.pat.ext.cell Z9.out
  go_wp2_with fail
  obtain ⟨ga, rfl, ga1, ga2, ga3, ga4⟩ := Ow.pos HO.out (by omega)
  obtain ⟨gb, rfl, gb1, gb2, gb3, gb4⟩ := Ow.pos HOD.out (by omega)
  have hgab : ga ≠ gb := fun h => by have := Ow.far (by decide) HO.out HOD.out ga rfl; rw [h] at this; exact this rfl
  have hD0 : DAt w w3 (w.heap.size + 2) ga gb c1 d1 w3 ts (marked dn L L) := ⟨fun _ _ _ _ _ => rfl, fun _ _ _ _ _ => rfl, HO.out.ext HE3.out, by rw [marked_none]; exact HOD.out.ext HE3.out, HV3.out.pat.ext⟩
  have HD0 := Lib.hid hD0
  have X := Lib.hid (And.intro v0 (And.intro v1 (And.intro v2 (And.intro t1 t2))))
  have S0 := Lib.hid (And.intro s0 (And.intro s1 (And.intro s2 s3)))
  have HN : Hid ((w1.heap.size ≠ ga ∧ w1.heap.size ≠ gb ∧ w2.heap.size ≠ ga ∧ w2.heap.size ≠ gb) ∧ (w.heap.size + 1 ≠ ga ∧ w.heap.size + 1 ≠ gb)) := Lib.hid ⟨⟨by omega, by omega, by omega, by omega⟩, by omega, by omega⟩
  have HSZ : Hid (w1.heap.size < w3.heap.size ∧ w2.heap.size < w3.heap.size ∧ w.heap.size + 2 ≤ w1.heap.size ∧ w.heap.size + 2 ≤ ga ∧ w.heap.size + 2 ≤ gb ∧ w1.heap.size < w2.heap.size) := Lib.hid ⟨lv, lt, gv, ga1, gb1, lv9⟩
  clear hD0 ga3 ga4 gb3 gb4 ga2 gb2 q0 q1 q2 s0 s1 s2 s3 v0 v1 v2 v3 lv gv l0 l1 l2 l3 l4 n0 n1 n2 n3 t0 t1 t2 t3 z9 lt lv9 hz
  go_loopw [10] (fun i wr => ∃ k : Nat, L ≤ k ∧ k ≤ R ∧ i = .int .i64 k ∧ DAt w w3 (w.heap.size + 2) ga gb c1 d1 wr ts (marked dn L k)) (fun i _ => R - (intOf i).toNat)
  case atStart => exact ⟨L, Nat.le_refl _, by omega, rfl, HD0.out⟩
  case round =>
    obtain ⟨k, hk1, hk2, rfl, hA⟩ := hrel
    have m0 := hA.cell X.out.1 HN.out.1.1 HN.out.1.2.1
    have m1 := hA.cell X.out.2.1 HN.out.1.1 HN.out.1.2.1
    have m2 := hA.cell X.out.2.2.1 HN.out.1.1 HN.out.1.2.1
    have m3 := hA.cell X.out.2.2.2.1 HN.out.1.2.2.1 HN.out.1.2.2.2
    have m4 := hA.cell X.out.2.2.2.2 HN.out.1.2.2.1 HN.out.1.2.2.2
    have HA := Lib.hid hA
    by_cases hlt : k < R
    · have hlt1 : (k : Int) < R := by omega
      have hkl : (k : Int) < dn.length := by omega
      have hk0 : (0 : Int) ≤ k := by omega
      have hml : (marked dn L k).length = dn.length := marked_len dn L k hk1 (by omega)
      obtain ⟨n0, n1⟩ := hA.unit (k := k) (by omega)
      have hN := hA.mark (k := k) (by omega) (by omega) hgab
      rw [← marked_succ dn L k hk1 (by omega)] at hN
      have HNN := Lib.hid hN
      clear hA hN hml
      go_wp2_with fail
      go_roundw
      case rel => exact ⟨k + 1, by omega, by omega, by go_num, HNN.out⟩
      case measure => simp [intOf]; omega
    · have hkr : k = R := by omega
      have hlt1 : ¬ (k : Int) < R := by omega
      subst hkr
      have hml : (marked dn L k).length = dn.length := marked_len dn L k hk1 (by omega)
      have hlo : (ts.getD j tk0).lo = L := by rw [HTK.out]
      have hhi : (ts.getD j tk0).hi = k := by rw [HTK.out]
      have hupj : (ts.getD j tk0).up = up := by rw [HTK.out]
      have HM := Lib.hid (And.intro hml (And.intro hlo (And.intro hhi hupj)))
      have sz1 : w1.heap.size < wr.heap.size := World.block_lt_of_cell? _ _ m0
      have sz2 : w2.heap.size < wr.heap.size := World.block_lt_of_cell? _ _ m3
      have sz3 : w.heap.size + 1 < wr.heap.size := by have := HSZ.out; omega
      have N1 := HN.out
      have u0 := hA.cell S0.out.1 HN.out.2.1 HN.out.2.2
      have u1 := hA.cell S0.out.2.1 HN.out.2.1 HN.out.2.2
      have u2 := hA.cell S0.out.2.2.1 HN.out.2.1 HN.out.2.2
      have u3 : ∀ o, wr.frozen? ⟨w.heap.size + 1, o, none⟩ = false := fun o => (hA.fro (w.heap.size + 1) o (by have := HSZ.out; omega) HN.out.2.1 HN.out.2.2).trans (S0.out.2.2.2 o)
      have f1 : ¬ w1.heap.size = w.heap.size + 1 := by have := HSZ.out; omega
      have f2 : ¬ w2.heap.size = w.heap.size + 1 := by have := HSZ.out; omega
      have f3 : ¬ w.heap.size + 1 = w1.heap.size := by have := HSZ.out; omega
      have f4 : ¬ w.heap.size + 1 = w2.heap.size := by have := HSZ.out; omega
      have hup2 : up < ts.length := by omega
      have hts : ts.length ≤ 2000 := by omega
      clear hA hml hlo hhi hupj
      go_wp2_with fail
      go_region_held3 (fun w' => w'.cell? ⟨w1.heap.size, 0, none⟩ = some (.slice (some ⟨ga, 0, none⟩) ts.length c1) ∧ w'.cell? ⟨w1.heap.size, 1, none⟩ = some (.int .i64 g) ∧ w'.cell? ⟨w1.heap.size, 2, none⟩ = some (.slice (some ⟨gb, 0, none⟩) dn.length d1) ∧ w'.cell? ⟨w2.heap.size, 2, none⟩ = some (.int .i64 up))
        (first | go_keep | (with_reducible exact ⟨c11, c12, c13, c14⟩))
        (first
          | (go_at_call 81
             refine (finish_any (w.heap.size + 2) ga c1 dn.length ts up _ (HA.out.own.ext (Ext.refl _).drew) HOK.out o4 hup2 hts).mono ?_
             rintro e w5 ⟨rfl, hF⟩
             have c11 : w5.cell? ⟨w1.heap.size, 0, none⟩ = some (.slice (some ⟨ga, 0, none⟩) ts.length c1) := ((grown_far hF.grow (b := w1.heap.size) (by first | exact sz1 | (simp; exact sz1)) (by simp; exact N1.1.1)).1 0).trans (by go_simp)
             have c12 : w5.cell? ⟨w1.heap.size, 1, none⟩ = some (.int .i64 g) := ((grown_far hF.grow (b := w1.heap.size) (by first | exact sz1 | (simp; exact sz1)) (by simp; exact N1.1.1)).1 1).trans (by go_simp)
             have c13 : w5.cell? ⟨w1.heap.size, 2, none⟩ = some (.slice (some ⟨gb, 0, none⟩) dn.length d1) := ((grown_far hF.grow (b := w1.heap.size) (by first | exact sz1 | (simp; exact sz1)) (by simp; exact N1.1.1)).1 2).trans (by go_simp)
             have c14 : w5.cell? ⟨w2.heap.size, 2, none⟩ = some (.int .i64 up) := ((grown_far hF.grow (b := w2.heap.size) (by first | exact sz2 | (simp; exact sz2)) (by simp; exact N1.1.2.2.1)).1 2).trans (by go_simp)
             obtain ⟨G1, G2⟩ := grown_far hF.grow (b := w.heap.size + 1) (by first | exact sz3 | (simp; exact sz3)) (by simp; exact N1.2.1)
             have r0 : w5.cell? ⟨w.heap.size + 1, 0, none⟩ = some (.slice none 0 0) := (G1 0).trans (by go_simp)
             have r1 : w5.cell? ⟨w.heap.size + 1, 1, none⟩ = some (.int .i64 0) := (G1 1).trans (by go_simp)
             have r2 : w5.cell? ⟨w.heap.size + 1, 2, none⟩ = some (.slice none 0 0) := (G1 2).trans (by go_simp)
             have r3 : ∀ o, w5.frozen? ⟨w.heap.size + 1, o, none⟩ = false := fun o => (G2 o).trans (by have := u3 o; go_simp)))
      go_wp2_with fail
      have hcl : (climb (ts.length + 1) ts up).1.length = ts.length := climb_len _ _ _
      have ho := hF.own
      rw [hcl] at ho
      have hd5 := (HA.out.dns.ext (Ext.refl _).drew).kept hF.grow (.inr (by simp [Value.ownBlock]; omega))
      rw [HM.out.1] at hd5
      have hx5 : Ext w w5 := HA.out.ext.drew.grown hF.grow (by intro k hk; cases hk; have := HSZ.out; omega)
      refine bodyPost_ret (v := .tuple #[.agg #[.slice (some ⟨ga, 0, none⟩) ts.length c1, .int .i64 g, .slice (some ⟨gb, 0, none⟩) dn.length d1], .bool (climb (ts.length + 1) ts up).2, .int .i64 0]) (by simp [results, Try.results75, go_sem]; go_simp) rfl ⟨_, _, _, _, by rw [HM.out.2.2.2], ?_, ?_, ho.from.mono (by omega), hd5.from.mono (by omega), ?_⟩
      · rw [HM.out.2.2.2]
        exact (((ho.setBelow (p := ⟨w.heap.size + 1, 0, none⟩) (by show w.heap.size + 1 < _; omega) _).setBelow (p := ⟨w.heap.size + 1, 1, none⟩) (by show w.heap.size + 1 < _; omega) _).setBelow (p := ⟨w.heap.size + 1, 2, none⟩) (by show w.heap.size + 1 < _; omega) _).rd
      · rw [HM.out.2.1, HM.out.2.2.1, Int.toNat_natCast, Int.toNat_natCast]
        exact (((hd5.setBelow (p := ⟨w.heap.size + 1, 0, none⟩) (by show w.heap.size + 1 < _; omega) _).setBelow (p := ⟨w.heap.size + 1, 1, none⟩) (by show w.heap.size + 1 < _; omega) _).setBelow (p := ⟨w.heap.size + 1, 2, none⟩) (by show w.heap.size + 1 < _; omega) _).rd
      · exact ((hx5.setCell (p := ⟨w.heap.size + 1, 0, none⟩) (by show _ ≤ w.heap.size + 1; omega) _).setCell (p := ⟨w.heap.size + 1, 1, none⟩) (by show _ ≤ w.heap.size + 1; omega) _).setCell (p := ⟨w.heap.size + 1, 2, none⟩) (by show _ ≤ w.heap.size + 1; omega) _

theorem pdo_any (A B : Option Addr) (c d : Nat) (ts : List Tk) (dn : List Bool) (g i : Int) (w : World) (h : Rd kTask w (.slice A ts.length c) ts) (hd : Rd kBool w (.slice B dn.length d) dn) (hg : in64 g) (hi : in64 i) (hl : ts.length ≤ 1048576) (hl2 : dn.length ≤ 1048576) :
    Calls Try.prog 75 #[.agg #[.slice A ts.length c, .int .i64 g, .slice B dn.length d], .int .i64 i] w fun e w' =>
      (doErr ts g dn i ≠ 0 ∧ TNo w ts g dn (mkDo (doErr ts g dn i)) e w') ∨ (doErr ts g dn i = 0 ∧ DoSaid w ts g dn i.toNat e w') := by
  by_cases ha : askErr ts g dn.length i = 0
  · obtain ⟨hr, hs⟩ := askErr_zero ha
    have hsi : 0 ≤ i ∧ i < (ts.length : Int) := by unfold wHas at hs; simpa using hs
    obtain ⟨j, rfl⟩ : ∃ j : Nat, i = j := ⟨i.toNat, by omega⟩
    have hj : j < ts.length := by omega
    have e0 : tkAt ts (j : Int) = ts.getD j tk0 := by unfold tkAt; rw [Int.toNat_natCast]
    cases ht : wGreat ts g dn.length j with
    | true =>
      have he : doErr ts g dn (j : Int) = 5 := by unfold doErr; rw [if_neg (by rw [hr]; decide), if_neg (by rw [hs]; decide), if_pos ht]
      rw [he]
      exact (pdo_great A B c d ts dn g j w h hd hg hr hj ht).mono fun e w' hh => .inl ⟨by decide, hh⟩
    | false =>
      by_cases hw : (ts.getD j tk0).wt = 0
      · cases hf : dn.getD (ts.getD j tk0).lo.toNat false with
        | true =>
          have he : doErr ts g dn (j : Int) = 5 := by unfold doErr; rw [if_neg (by rw [hr]; decide), if_neg (by rw [hs]; decide), if_neg (by rw [ht]; decide), e0, if_neg (by simpa using hw), if_pos hf]
          rw [he]
          exact (pdo_done A B c d ts dn g j w h hd hg hr hj ht hw hf).mono fun e w' hh => .inl ⟨by decide, hh⟩
        | false =>
          have he : doErr ts g dn (j : Int) = 0 := by unfold doErr; rw [if_neg (by rw [hr]; decide), if_neg (by rw [hs]; decide), if_neg (by rw [ht]; decide), e0, if_neg (by simpa using hw), if_neg (by rw [hf]; decide)]
          rw [he]
          exact (pdo_ok A B c d ts dn g j w h hd hg hr hj ht hw hf).mono fun e w' hh => .inr ⟨rfl, by rw [Int.toNat_natCast]; exact hh⟩
      · skip
        have he : doErr ts g dn (j : Int) = 5 := by unfold doErr; rw [if_neg (by rw [hr]; decide), if_neg (by rw [hs]; decide), if_neg (by rw [ht]; decide), e0, if_pos hw]
        rw [he]
        exact (pdo_wait A B c d ts dn g j w h hd hg hr hj ht hw).mono fun e w' hh => .inl ⟨by decide, hh⟩
  · have he : doErr ts g dn i = askErr ts g dn.length i := by
      unfold doErr
      unfold askErr at ha ⊢
      cases hr : wRight ts g dn.length with
      | false => rfl
      | true =>
        cases hs : wHas ts.length i with
        | false => rfl
        | true => rw [hr, hs] at ha; exact absurd rfl ha
    rw [he]
    exact (pdo_no A B c d ts dn g i w h hd hg hi hl hl2 ha).mono fun e w' hh => .inl ⟨ha, hh⟩
end Go.Proofs.Ytkpbanfpnilifaa

/- The document's Begin of work. -/
namespace Go.Proofs.Ytkpbanfpnilifaa
open Go.RowKit Go.Proofs.Ytkpbanfpnilifaa.Plain

end Go.Proofs.Ytkpbanfpnilifaa

/- The program's Begin of work. -/
namespace Go.Proofs.Ytkpbanfpnilifaa
open Go.BigFrame
open Go.RowKit Go.Proofs.Ytkpbanfpnilifaa.Plain

end Go.Proofs.Ytkpbanfpnilifaa

/- The fixed fact of the work's statements: calls with answers named. Written by wip/mk_talive.py. -/
namespace Go.Proofs.Ytkpbanfpnilifaa
open Go.BigFrame
open Go.RowKit Go.Proofs.Ytkpbanfpnilifaa.Plain

theorem Rd.lt {α : Type} {K : Kd α} {w : World} {A : Option Addr} {n c : Nat} {xs : List α} (h : Rd K w (.slice A n c) xs) (hl : 0 < xs.length) : ∀ a, A = some a → a.block < w.heap.size := by
  obtain ⟨b, off, rfl, hcc⟩ := h.cells hl
  intro a ha
  cases ha
  have hn : 0 < (K.cells (xs.getD 0 K.d)).length := by rw [K.len]; exact K.pos
  have h9 := hcc 0 hl 0 _ (List.getElem?_eq_getElem hn)
  have h8 := World.block_lt_of_cell? _ _ h9
  exact h8

theorem part_to (A B : Option Addr) (c d m k m' : Nat) (ts ts' : List Tk) (dn : List Bool) (g i a b : Int) (w : World) (h : Rd kTask w (.slice A m c) ts) (hd : Rd kBool w (.slice B k d) dn) (hm : ts.length = m) (hk : dn.length = k) (hg : in64 g) (hi : in64 i) (hl : m ≤ 1048576) (hl2 : k ≤ 1048576)
    (he : partErr ts g k i = 0) (ht : partedTs ts i.toNat = ts') (hm' : ts'.length = m') (ha : (ts.length : Int) = a) (hb : (ts.length : Int) + 1 = b) :
    Calls Try.prog 74 #[.agg #[.slice A m c, .int .i64 g, .slice B k d], .int .i64 i] w fun e w' => ∃ A c B d, e = .returned (.tuple #[.agg #[.slice A m' c, .int .i64 g, .slice B k d], .int .i64 a, .int .i64 b, .int .i64 0]) ∧
      Rd kTask w' (.slice A m' c) ts' ∧ Rd kBool w' (.slice B k d) dn ∧ From w.heap.size A ∧ From w.heap.size B ∧ Ext w w' := by
  subst hm hk ht hm' ha hb
  exact (ppart_any A B c d ts dn g i w h hd hg hi hl hl2).mono fun e w' hh => by
    rcases hh with ⟨hh, _⟩ | ⟨_, hh⟩
    · exact absurd he hh
    · exact hh

theorem do_to (A B : Option Addr) (c d m k : Nat) (ts ts' : List Tk) (dn dn' : List Bool) (g i : Int) (q : Bool) (w : World) (h : Rd kTask w (.slice A m c) ts) (hd : Rd kBool w (.slice B k d) dn) (hm : ts.length = m) (hk : dn.length = k) (hg : in64 g) (hi : in64 i) (hl : m ≤ 1048576) (hl2 : k ≤ 1048576)
    (he : doErr ts g dn i = 0) (hc : climb (ts.length + 1) ts (ts.getD i.toNat tk0).up = (ts', q)) (hq : marked dn (ts.getD i.toNat tk0).lo.toNat (ts.getD i.toNat tk0).hi.toNat = dn') :
    Calls Try.prog 75 #[.agg #[.slice A m c, .int .i64 g, .slice B k d], .int .i64 i] w fun e w' => ∃ A c B d, e = .returned (.tuple #[.agg #[.slice A m c, .int .i64 g, .slice B k d], .bool q, .int .i64 0]) ∧
      Rd kTask w' (.slice A m c) ts' ∧ Rd kBool w' (.slice B k d) dn' ∧ From w.heap.size A ∧ From w.heap.size B ∧ Ext w w' := by
  subst hm hk hq
  exact (pdo_any A B c d ts dn g i w h hd hg hi hl hl2).mono fun e w' hh => by
    rcases hh with ⟨hh, _⟩ | ⟨_, hh⟩
    · exact absurd he hh
    · unfold DoSaid at hh; rw [hc] at hh; exact hh

theorem right_to (A B : Option Addr) (c d m k : Nat) (ts : List Tk) (g : Int) (q : Bool) (w : World) (h : Rd kTask w (.slice A m c) ts) (hm : ts.length = m) (hk : k ≤ 9223372036854775807) (hg : in64 g) (he : wRight ts g k = q) :
    Calls Try.prog 63 #[.agg #[.slice A m c, .int .i64 g, .slice B k d]] w fun e w' => e = .returned (.bool q) ∧ Ext w w' := by
  subst hm he
  exact right_any A B c d k ts g w h hk hg
end Go.Proofs.Ytkpbanfpnilifaa

/- What the walk of TaskOnce shares. Written by wip/mk_tonce.py. -/
namespace Go.Proofs.Ytkpbanfpnilifaa
open Go.BigFrame
open Go.RowKit Go.Proofs.Ytkpbanfpnilifaa.Plain

/-- the q-th one is gone -/
def less (O : List Nat) (q : Nat) : List Nat := O.take q ++ O.drop (q + 1)
theorem doErr_zero {ts : List Tk} {g : Int} {dn : List Bool} {j : Nat} (hr : wRight ts g dn.length = true) (hj : j < ts.length) (ht : wGreat ts g dn.length j = false) (hw : (ts.getD j tk0).wt = 0) (hd : dn.getD (ts.getD j tk0).lo.toNat false = false) : doErr ts g dn j = 0 := by
  have hs : wHas ts.length (j : Int) = true := by unfold wHas; simp; omega
  have e0 : tkAt ts (j : Int) = ts.getD j tk0 := by unfold tkAt; rw [Int.toNat_natCast]
  unfold doErr
  rw [if_neg (by rw [hr]; decide), if_neg (by rw [hs]; decide), if_neg (by rw [ht]; decide), e0, if_neg (by simpa using hw), if_neg (by rw [hd]; decide)]
theorem partErr_ok {ts : List Tk} {g : Int} {n j : Nat} (hr : wRight ts g n = true) (hj : j < ts.length) (ht : wGreat ts g n j = true) (hw : (ts.getD j tk0).wt = 0) (hl : ts.length ≤ 1998) : partErr ts g n j = 0 := by
  have hs : wHas ts.length (j : Int) = true := by unfold wHas; simp; omega
  have e0 : tkAt ts (j : Int) = ts.getD j tk0 := by unfold tkAt; rw [Int.toNat_natCast]
  unfold partErr
  rw [if_neg (by rw [hr]; decide), if_neg (by rw [hs]; decide), if_neg (by rw [ht]; decide), e0, if_neg (by simpa using hw), if_neg (by omega)]

end Go.Proofs.Ytkpbanfpnilifaa

/- Lists of lists of numbers: what reads as one, what a call has made; append. -/
namespace Go.Proofs.Ytkpbanfpnilifaa
open Go.BigFrame
open Go.RowKit Go.Proofs.Ytkpbanfpnilifaa.Plain

/-- a list's head, as it lies in a list of lists -/
structure Hd where
  A : Option Addr
  n : Nat
  c : Nat
def hd0 : Hd := ⟨none, 0, 0⟩
abbrev Hd.v (h : Hd) : Value := .slice h.A h.n h.c
def kRow : Kd Hd where
  t := 79
  e := 30
  n := 1
  cells := fun h => [.slice h.A h.n h.c]
  ok := fun _ => True
  d := hd0
  z := .slice none 0 0
  bytes := 24
  ht := Try.underlying79
  info := by kernel_rfl
  hzs := rfl
  pos := by decide
  small := by decide
  len := fun _ => rfl
  one := fun a u hu => by simp at hu; subst hu; rfl
/-- a value that reads as these lists -/
def Rdd (w : World) (v : Value) (D : List (List Int)) : Prop := ∃ hs : List Hd, Rd kRow w v hs ∧ hs.length = D.length ∧ ∀ j, j < D.length → Rd kInt w (hs.getD j hd0).v (D.getD j [])
/-- lists that a call has made -/
def Oww (B : Nat) (w : World) (v : Value) (D : List (List Int)) : Prop := ∃ hs : List Hd, Ow kRow B w v hs ∧ hs.length = D.length ∧ ∀ j, j < D.length → Ow kInt B w (hs.getD j hd0).v (D.getD j [])
theorem Rdd.ext {w W : World} {v : Value} {D : List (List Int)} (h : Rdd w v D) (hE : Ext w W) : Rdd W v D := by
  obtain ⟨hs, h1, h2, h3⟩ := h
  exact ⟨hs, h1.ext hE, h2, fun j hj => (h3 j hj).ext hE⟩
theorem Rdd.slice {w : World} {v : Value} {D : List (List Int)} (h : Rdd w v D) : ∃ A c, v = .slice A D.length c ∧ D.length ≤ c := by
  obtain ⟨hs, h1, h2, _⟩ := h
  obtain ⟨A, c, h4, h5⟩ := h1.slice
  rw [h2] at h4 h5
  exact ⟨A, c, h4, h5⟩
theorem Rdd.len {w : World} {v : Value} {D : List (List Int)} (h : Rdd w v D) : D.length ≤ 9223372036854775807 := by
  obtain ⟨hs, h1, h2, _⟩ := h
  rw [← h2]; exact h1.len
theorem Rdd.nil (w : World) (A : Option Addr) (c : Nat) : Rdd w (.slice A 0 c) [] := ⟨[], Rd.nil _ _ _, rfl, fun j hj => absurd hj (Nat.not_lt_zero _)⟩
/-- a row, as it lies -/
theorem Rdd.row {w : World} {A : Option Addr} {n c : Nat} {D : List (List Int)} (h : Rdd w (.slice A n c) D) (j : Nat) (hj : j < D.length) : ∃ b off A' c', A = some ⟨b, off, none⟩ ∧ w.cell? ⟨b, off + j, none⟩ = some (.slice A' (D.getD j []).length c') ∧ Rd kInt w (.slice A' (D.getD j []).length c') (D.getD j []) := by
  obtain ⟨hs, h1, h2, h3⟩ := h
  obtain ⟨b, off, rfl, hc⟩ := h1.cells (by omega)
  have h4 := h3 j hj
  have h5 := hc j (by omega) 0 _ rfl
  obtain ⟨A', c', h6, _⟩ := h4.slice
  have e : (kRow.cells (hs.getD j kRow.d))[0]? = some (hs.getD j hd0).v := rfl
  refine ⟨b, off, A', c', rfl, ?_, by rw [← h6]; exact h4⟩
  rw [← h6]
  rw [show off + j * kRow.n + 0 = off + j from by show off + j * 1 + 0 = off + j; omega] at h5
  exact h5
theorem Oww.rdd {B : Nat} {w : World} {v : Value} {D : List (List Int)} (h : Oww B w v D) : Rdd w v D := by
  obtain ⟨hs, h1, h2, h3⟩ := h
  exact ⟨hs, h1.rd, h2, fun j hj => (h3 j hj).rd⟩
theorem Oww.ext {B : Nat} {w W : World} {v : Value} {D : List (List Int)} (h : Oww B w v D) (hE : Ext w W) : Oww B W v D := by
  obtain ⟨hs, h1, h2, h3⟩ := h
  exact ⟨hs, h1.ext hE, h2, fun j hj => (h3 j hj).ext hE⟩
theorem Oww.mono {B B' : Nat} {w : World} {v : Value} {D : List (List Int)} (h : Oww B w v D) (hB : B' ≤ B) : Oww B' w v D := by
  obtain ⟨hs, h1, h2, h3⟩ := h
  exact ⟨hs, h1.mono hB, h2, fun j hj => (h3 j hj).mono hB⟩
theorem Oww.nil (B : Nat) (w : World) : Oww B w (.slice none 0 0) [] := ⟨[], Ow.nil _ _, rfl, fun j hj => absurd hj (Nat.not_lt_zero _)⟩
theorem Oww.slice {B : Nat} {w : World} {v : Value} {D : List (List Int)} (h : Oww B w v D) : ∃ A c, v = .slice A D.length c ∧ D.length ≤ c := h.rdd.slice
theorem Oww.lt {B : Nat} {w : World} {v : Value} {D : List (List Int)} (h : Oww B w v D) : ∀ k, v.ownBlock = some k → B ≤ k ∧ k < w.heap.size := by
  obtain ⟨hs, h1, _⟩ := h
  exact h1.lt
/-- a store into another block, below all of them -/
theorem Oww.setBelow {B : Nat} {w : World} {v : Value} {D : List (List Int)} (h : Oww B w v D) {p : Addr} (hp : p.block < B) (u : Value) : Oww B (w.setCell p u) v D := by
  obtain ⟨hs, h1, h2, h3⟩ := h
  exact ⟨hs, h1.setBelow hp u, h2, fun j hj => (h3 j hj).setBelow hp u⟩
theorem row_at {w : World} {q : Nat} {h : Hd} (hq : w.heap[q]? = some (.cells #[h.v] 30)) : Rd kRow w (.slice (some ⟨q, 0, none⟩) 1 1) [h] :=
  ⟨by simp [maxLen], fun _ _ => trivial, _, 1, rfl, Nat.le_refl _, fun _ => ⟨q, 0, rfl, fun j hj i u hu => by
    obtain rfl : j = 0 := by simp at hj; omega
    have hi : i = 0 := by
      rcases i with _ | i
      · rfl
      · simp [kRow] at hu
    subst hi
    have hu' : h.v = u := by simpa [kRow] using hu
    subst hu'
    exact (cell_of_row w q 0 _ _ _ hq).trans rfl⟩⟩
theorem Oww.snoc {B : Nat} {w w' : World} {v v' : Value} {D : List (List Int)} {hs : List Hd} {h : Hd} {ys : List Int} (h1 : Ow kRow B w v hs) (h2 : hs.length = D.length) (h3 : ∀ j, j < D.length → Ow kInt B w (hs.getD j hd0).v (D.getD j [])) (hy : Ow kInt B w h.v ys) (hv : Ow kRow B w' v' (hs ++ [h])) (hg : w.grownBy w' v.ownBlock) : Oww B w' v' (D ++ [ys]) := by
  have hne : kInt.e ≠ kRow.e := by decide
  refine ⟨hs ++ [h], hv, by rw [List.length_append, List.length_append, h2]; rfl, fun j hj => ?_⟩
  rw [List.length_append, List.length_singleton] at hj
  rcases Nat.lt_or_ge j D.length with hlt | hge
  · have e1 : (hs ++ [h]).getD j hd0 = hs.getD j hd0 := by rw [List.getD_eq_getElem?_getD, List.getElem?_append_left (by omega), ← List.getD_eq_getElem?_getD]
    have e2 : (D ++ [ys]).getD j [] = D.getD j [] := by rw [List.getD_eq_getElem?_getD, List.getElem?_append_left hlt, ← List.getD_eq_getElem?_getD]
    rw [e1, e2]
    exact (h3 j hlt).beside h1 hne hg
  · obtain rfl : j = D.length := by omega
    have e1 : (hs ++ [h]).getD D.length hd0 = h := by rw [← h2, List.getD_eq_getElem?_getD, List.getElem?_append_right (Nat.le_refl _), Nat.sub_self]; rfl
    have e2 : (D ++ [ys]).getD D.length [] = ys := by rw [List.getD_eq_getElem?_getD, List.getElem?_append_right (Nat.le_refl _), Nat.sub_self]; rfl
    rw [e1, e2]
    exact hy.beside h1 hne hg
/-- append of one row -/
theorem Oww.wpList_app {ops : Array Oper} {rest : List Oper} {o : Oper} {a : Act} {w : World} {Q : Exit → Act → World → Prop} (hw : Region.wanted o (yielded ops a.tmps) = true) (s x : Operand)
    (ho : o.op = .call { callee := .builtin .append, args := #[s, x], argTypes := #[kRow.t, kRow.t] }) (hty : o.type = kRow.t)
    (B : Nat) (v : Value) (D : List (List Int)) (h1 : a.eval s = v) (hown : Oww B w v D) (p : Nat) (h : Hd) (ys : List Int) (hx : a.eval x = .slice (some ⟨p, 0, none⟩) 1 1) (hp : w.heap[p]? = some (.cells #[h.v] 30)) (hy : Ow kInt B w h.v ys) (hl : D.length + 1 ≤ 1048576) (hB : B ≤ w.heap.size)
    (hh : ∀ v' w', Oww B w' v' (D ++ [ys]) → w.grownBy w' v.ownBlock → (v'.ownBlock = v.ownBlock ∨ v'.ownBlock = some w.heap.size) → wpList Try.prog ops Q rest (a.put o.dst v') w') : wpList Try.prog ops Q (o :: rest) a w := by
  obtain ⟨hs, g1, g2, g3⟩ := hown
  refine kRow.wpList_app hw s x ho hty B v hs h1 g1 _ [h] hx (row_at hp) (by rw [g2]; exact hl) hB fun v' w' h2 h3 h4 => hh v' w' (Oww.snoc g1 g2 g3 hy h2 h3) h3 h4
end Go.Proofs.Ytkpbanfpnilifaa
