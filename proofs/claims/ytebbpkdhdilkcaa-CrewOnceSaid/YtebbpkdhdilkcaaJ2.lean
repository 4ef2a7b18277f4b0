/- Joined by wip/merge.py: TOPlain, CrPlain, CrFun, CBase, TRight, TSmall, TAsk. -/
import Derived.Test.YtebbpkdhdilkcaaJ1
import Derived.Outline
import Derived.LoopTactic
import Derived.WalkSpells
import Derived.BigQuiet
import Derived.Deep.QuietTactic
import Derived.Lib.SliceRun
import Derived.Deep.RegionHeld3
import Derived.IntWalk
/- Plain words of work that is parted and done in any order: what stands, round by round. No program in it. -/
namespace Go.Proofs.Ytebbpkdhdilkcaa.Plain

abbrev T (ts : List Tk) (k : Nat) : Tk := ts.getD k tk0
/-- how many units a task has -/
def sz (ts : List Tk) (k : Nat) : Nat := ((T ts k).hi - (T ts k).lo).toNat
/-- is a task not finished: is it open, or does it wait? -/
def unf (O : List Nat) (ts : List Tk) (k : Nat) : Bool := decide (k ∈ O) || decide ((T ts k).wt ≠ 0)
theorem unf_iff (O : List Nat) (ts : List Tk) (k : Nat) : unf O ts k = true ↔ k ∈ O ∨ (T ts k).wt ≠ 0 := by unfold unf; simp
/-- of how many parts a task waits -/
def kids (O : List Nat) (ts : List Tk) (j : Nat) : Nat := (List.range ts.length).countP fun k => decide ((T ts k).up = (j : Int)) && unf O ts k

theorem cP_congr (p q : Nat → Bool) : ∀ (m : Nat), (∀ k, k < m → p k = q k) → (List.range m).countP p = (List.range m).countP q
  | 0, _ => rfl
  | m + 1, h => by
    rw [List.range_succ, List.countP_append, List.countP_append, cP_congr p q m (fun k hk => h k (by omega))]
    simp [h m (by omega)]
theorem cP_one (p q : Nat → Bool) (x : Nat) : ∀ (m : Nat), x < m → (∀ k, k < m → k ≠ x → p k = q k) → p x = true → q x = false → (List.range m).countP p = (List.range m).countP q + 1
  | 0, h, _, _, _ => by omega
  | m + 1, h, hk, hp, hq => by
    rw [List.range_succ, List.countP_append, List.countP_append]
    by_cases hx : x = m
    · subst hx
      rw [cP_congr p q x (fun k hk' => hk k (by omega) (by omega))]
      simp [hp, hq]
    · rw [cP_one p q x m (by omega) (fun k hk' hne => hk k (by omega) hne) hp hq]
      simp [hk m (by omega) (fun e => hx e.symm)]
      omega
theorem cP_pos (p : Nat → Bool) : ∀ (m : Nat), 0 < (List.range m).countP p → ∃ k, k < m ∧ p k = true
  | 0, h => by simp at h
  | m + 1, h => by
    rw [List.range_succ, List.countP_append] at h
    cases hp : p m with
    | true => exact ⟨m, by omega, hp⟩
    | false =>
      obtain ⟨k, hk, hpk⟩ := cP_pos p m (by simpa [hp] using h)
      exact ⟨k, by omega, hpk⟩
theorem cP_of (p : Nat → Bool) (k : Nat) : ∀ (m : Nat), k < m → p k = true → 0 < (List.range m).countP p
  | 0, h, _ => by omega
  | m + 1, h, hp => by
    rw [List.range_succ, List.countP_append]
    by_cases hk : k = m
    · subst hk; simp [hp]
    · have := cP_of p k m (by omega) hp
      omega

/-- what stands -/
structure OI (g n : Nat) (ts : List Tk) (dn : List Bool) (O : List Nat) (units : Nat) : Prop where
  ok : wOkTo ts n ts.length = true
  len : 1 ≤ ts.length
  dl : dn.length = n
  nd : O.Nodup
  lt : ∀ k ∈ O, k < ts.length
  w0 : ∀ k ∈ O, (T ts k).wt = 0
  root : (T ts 0).up = -1
  ups : ∀ k, 0 < k → k < ts.length → 0 ≤ (T ts k).up
  wts : ∀ j, j < ts.length → (T ts j).wt = (kids O ts j : Int)
  sum : (O.map fun k => cntT (sz ts k) g).sum + ts.length = cntT n g + O.length
  uns : units + (O.map (sz ts)).sum = n
  cov : ∀ u : Nat, u < n → (dn.getD u false = false ↔ ∃ k ∈ O, (T ts k).lo ≤ (u : Int) ∧ (u : Int) < (T ts k).hi)
  dis : ∀ k ∈ O, ∀ k' ∈ O, k ≠ k' → (T ts k).hi ≤ (T ts k').lo ∨ (T ts k').hi ≤ (T ts k).lo

theorem unf_perm {O O' : List Nat} (h : O.Perm O') (ts : List Tk) (k : Nat) : unf O ts k = unf O' ts k := by
  rw [Bool.eq_iff_iff, unf_iff, unf_iff, h.mem_iff]
theorem OI.perm {g n : Nat} {ts : List Tk} {dn : List Bool} {O O' : List Nat} {units : Nat} (h : OI g n ts dn O units) (hp : O.Perm O') : OI g n ts dn O' units where
  ok := h.ok
  len := h.len
  dl := h.dl
  nd := hp.nodup_iff.1 h.nd
  lt k hk := h.lt k (hp.mem_iff.2 hk)
  w0 k hk := h.w0 k (hp.mem_iff.2 hk)
  root := h.root
  ups := h.ups
  wts j hj := by rw [h.wts j hj]; unfold kids; rw [cP_congr _ _ _ (fun k _ => by rw [unf_perm hp])]
  sum := by rw [← (hp.map _).sum_nat, ← hp.length_eq]; exact h.sum
  uns := by rw [← (hp.map _).sum_nat]; exact h.uns
  cov u hu := by
    rw [h.cov u hu]
    exact ⟨fun ⟨k, hk, hr⟩ => ⟨k, hp.mem_iff.1 hk, hr⟩, fun ⟨k, hk, hr⟩ => ⟨k, hp.mem_iff.2 hk, hr⟩⟩
  dis k hk k' hk' := h.dis k (hp.mem_iff.2 hk) k' (hp.mem_iff.2 hk')

theorem OI.task {g n : Nat} {ts : List Tk} {dn : List Bool} {O : List Nat} {units : Nat} (h : OI g n ts dn O units) (k : Nat) (hk : k < ts.length) :
    0 ≤ (T ts k).lo ∧ (T ts k).lo < (T ts k).hi ∧ (T ts k).hi ≤ n ∧ -1 ≤ (T ts k).up ∧ (T ts k).up < k ∧ 0 ≤ (T ts k).wt ∧ (T ts k).wt ≤ 2 := (tkOk_iff n k _).1 (wOkTo_at ts n ts.length h.ok k hk)

/-- the beginning -/
theorem OI.begin (g n : Nat) (h1 : 1 ≤ n) : OI g n [⟨0, n, -1, 0⟩] (List.replicate n false) [0] 0 where
  ok := by
    rw [List.length_singleton, wOkTo_succ, wOkTo_zero, Bool.true_and, tkOk_iff]
    simp; omega
  len := by simp
  dl := by simp
  nd := by simp
  lt := by simp
  w0 := by simp
  root := rfl
  ups := by intro k h0 hk; simp at hk; omega
  wts := by
    intro j hj
    obtain rfl : j = 0 := by simpa using hj
    simp [kids, List.range_succ]
  sum := by simp [sz]
  uns := by simp [sz]
  cov := by
    intro u hu
    have e : (List.replicate n false).getD u false = false := by
      rw [List.getD_eq_getElem?_getD, List.getElem?_replicate]
      split <;> rfl
    rw [e]
    refine ⟨fun _ => ⟨0, by simp, ?_, ?_⟩, fun _ => rfl⟩
    · show (0 : Int) ≤ u; omega
    · show (u : Int) < n; omega
  dis := by
    intro k hk k' hk' hne
    simp at hk hk'
    omega

theorem cntT_pos (n g : Nat) (hg : 1 ≤ g) (h1 : 1 ≤ n) : 1 ≤ cntT n g := by
  have := cnt_bd g hg n n (Nat.le_refl _) h1
  omega
theorem sum_le (f : Nat → Nat) : ∀ (O : List Nat), (∀ k ∈ O, 1 ≤ f k) → O.length ≤ (O.map f).sum
  | [], _ => by simp
  | a :: O, h => by
    have := sum_le f O (fun k hk => h k (by simp [hk]))
    have := h a (by simp)
    simp; omega
theorem OI.szpos {g n : Nat} {ts : List Tk} {dn : List Bool} {O : List Nat} {units : Nat} (h : OI g n ts dn O units) (k : Nat) (hk : k ∈ O) : 1 ≤ sz ts k ∧ sz ts k ≤ n ∧ ((T ts k).hi - (T ts k).lo) = sz ts k := by
  have := h.task k (h.lt k hk)
  unfold sz
  omega
/-- there are never more tasks than there will be -/
theorem OI.few {g n : Nat} {ts : List Tk} {dn : List Bool} {O : List Nat} {units : Nat} (h : OI g n ts dn O units) (hg : 1 ≤ g) (h1 : 1 ≤ n) : ts.length ≤ cntT n g ∧ cntT n g ≤ 2 * n - 1 := by
  have := sum_le (fun k => cntT (sz ts k) g) O (fun k hk => cntT_pos _ _ hg (h.szpos k hk).1)
  have := h.sum
  have := cnt_bd g hg n n (Nat.le_refl _) h1
  omega
theorem OI.right {g n : Nat} {ts : List Tk} {dn : List Bool} {O : List Nat} {units : Nat} (h : OI g n ts dn O units) (hg : 1 ≤ g) (hg2 : g ≤ 100) (h1 : 1 ≤ n) (h2 : n ≤ 120) : wRight ts g n = true := by
  unfold wRight
  rw [h.ok, Bool.and_true, wSized_iff]
  have := h.few hg h1
  have := h.len
  omega
theorem OI.greatB {g n : Nat} {ts : List Tk} {dn : List Bool} {O : List Nat} {units : Nat} (h : OI g n ts dn O units) (hg : 1 ≤ g) (hg2 : g ≤ 100) (h1 : 1 ≤ n) (h2 : n ≤ 120) (k : Nat) (hk : k ∈ O) : wGreat ts g n k = decide (g < sz ts k) := by
  have hl := h.lt k hk
  unfold wGreat
  rw [h.right hg hg2 h1 h2]
  have hh : wHas ts.length (k : Int) = true := by unfold wHas; simp; omega
  rw [hh]
  have e : tkAt ts (k : Int) = T ts k := by unfold tkAt; rw [Int.toNat_natCast]
  rw [e, (h.szpos k hk).2.2]
  rw [Bool.true_and, Bool.eq_iff_iff]
  simp

/-- the tasks, the k-th of them parted -/
def partedL (ts : List Tk) (k : Nat) : List Tk :=
  ts.set k ⟨(T ts k).lo, (T ts k).hi, (T ts k).up, 2⟩ ++ [⟨(T ts k).lo, (T ts k).lo + ((T ts k).hi - (T ts k).lo) / 2, k, 0⟩, ⟨(T ts k).lo + ((T ts k).hi - (T ts k).lo) / 2, (T ts k).hi, k, 0⟩]
theorem partedL_len (ts : List Tk) (k : Nat) : (partedL ts k).length = ts.length + 2 := by unfold partedL; simp
theorem parted_at (ts : List Tk) (k : Nat) (hk : k < ts.length) (j : Nat) : T (partedL ts k) j = if j = k then ⟨(T ts k).lo, (T ts k).hi, (T ts k).up, 2⟩ else if j < ts.length then T ts j
    else if j = ts.length then ⟨(T ts k).lo, (T ts k).lo + ((T ts k).hi - (T ts k).lo) / 2, k, 0⟩ else if j = ts.length + 1 then ⟨(T ts k).lo + ((T ts k).hi - (T ts k).lo) / 2, (T ts k).hi, k, 0⟩ else tk0 := by
  unfold partedL T
  simp only [List.getD_eq_getElem?_getD]
  by_cases h1 : j < ts.length
  · rw [List.getElem?_append_left (by simpa using h1)]
    by_cases h2 : j = k
    · subst h2
      rw [if_pos rfl, List.getElem?_set_self hk]; rfl
    · rw [if_neg h2, if_pos h1, List.getElem?_set_ne (fun e => h2 e.symm)]
  · rw [List.getElem?_append_right (by simp; omega), if_neg (by omega), if_neg h1]
    simp only [List.length_set]
    by_cases h3 : j = ts.length
    · subst h3; simp
    · rw [if_neg h3]
      by_cases h4 : j = ts.length + 1
      · subst h4; simp
      · rw [if_neg h4]
        rw [List.getElem?_eq_none (by simp; omega)]; rfl

theorem OI.parted {g n : Nat} {ts : List Tk} {dn : List Bool} {R : List Nat} {units k : Nat} (h : OI g n ts dn (k :: R) units) (hg : 1 ≤ g) (hs : g < sz ts k) : OI g n (partedL ts k) dn (R ++ [ts.length, ts.length + 1]) units := by
  have hk : k < ts.length := h.lt k (by simp)
  have hkR : k ∉ R := (List.nodup_cons.1 h.nd).1
  have hR : ∀ j ∈ R, j < ts.length ∧ j ≠ k := fun j hj => ⟨h.lt j (by simp [hj]), fun e => hkR (e ▸ hj)⟩
  obtain ⟨t1, t2, t3, t4, t5, t6, t7⟩ := h.task k hk
  have hsz := h.szpos k (by simp)
  have hl := partedL_len ts k
  have at0 : ∀ j, j < ts.length → j ≠ k → T (partedL ts k) j = T ts j := fun j hj hne => by rw [parted_at ts k hk, if_neg hne, if_pos hj]
  have atk : T (partedL ts k) k = ⟨(T ts k).lo, (T ts k).hi, (T ts k).up, 2⟩ := by rw [parted_at ts k hk, if_pos rfl]
  have ata : T (partedL ts k) ts.length = ⟨(T ts k).lo, (T ts k).lo + ((T ts k).hi - (T ts k).lo) / 2, k, 0⟩ := by rw [parted_at ts k hk, if_neg (by omega), if_neg (by omega), if_pos rfl]
  have atb : T (partedL ts k) (ts.length + 1) = ⟨(T ts k).lo + ((T ts k).hi - (T ts k).lo) / 2, (T ts k).hi, k, 0⟩ := by rw [parted_at ts k hk, if_neg (by omega), if_neg (by omega), if_neg (by omega), if_pos rfl]
  have sza : sz (partedL ts k) ts.length = sz ts k / 2 := by unfold sz at hsz ⊢; rw [ata]; simp only; omega
  have szb : sz (partedL ts k) (ts.length + 1) = sz ts k - sz ts k / 2 := by unfold sz at hsz ⊢; rw [atb]; simp only; omega
  have szR : ∀ j ∈ R, sz (partedL ts k) j = sz ts j := fun j hj => by unfold sz; rw [at0 j (hR j hj).1 (hR j hj).2]
  have mapR : ∀ f : Nat → Nat, (R.map fun j => f (sz (partedL ts k) j)) = R.map fun j => f (sz ts j) := fun f => List.map_congr_left fun j hj => by rw [szR j hj]
  have unfOld : ∀ j, j < ts.length → unf (R ++ [ts.length, ts.length + 1]) (partedL ts k) j = unf (k :: R) ts j := by
    intro j hj
    rw [Bool.eq_iff_iff, unf_iff, unf_iff]
    by_cases e : j = k
    · subst e
      rw [atk]
      constructor
      · intro _; left; simp
      · intro _; right; show (2 : Int) ≠ 0; decide
    · rw [at0 j hj e]
      simp only [List.mem_append, List.mem_cons, List.not_mem_nil, or_false]
      constructor
      · rintro ((h1 | h1 | h1) | h1)
        · exact .inl (.inr h1)
        · omega
        · omega
        · exact .inr h1
      · rintro ((h1 | h1) | h1)
        · exact absurd h1 e
        · exact .inl (.inl h1)
        · exact .inr h1
  have upOld : ∀ j, j < ts.length → (T (partedL ts k) j).up = (T ts j).up := by
    intro j hj
    by_cases e : j = k
    · subst e; rw [atk]
    · rw [at0 j hj e]
  have kidsEq : ∀ j, j < ts.length → kids (R ++ [ts.length, ts.length + 1]) (partedL ts k) j = kids (k :: R) ts j + if j = k then 2 else 0 := by
    intro j hj
    unfold kids
    rw [hl, show ts.length + 2 = (ts.length + 1) + 1 by omega, List.range_succ, List.range_succ, List.countP_append, List.countP_append]
    rw [cP_congr _ (fun i => decide ((T ts i).up = (j : Int)) && unf (k :: R) ts i) ts.length (fun i hi => by rw [unfOld i hi, upOld i hi])]
    have ua : unf (R ++ [ts.length, ts.length + 1]) (partedL ts k) ts.length = true := by rw [unf_iff]; left; simp
    have ub : unf (R ++ [ts.length, ts.length + 1]) (partedL ts k) (ts.length + 1) = true := by rw [unf_iff]; left; simp
    simp only [List.countP_singleton, ua, ub, ata, atb, Bool.and_true]
    by_cases e : j = k
    · subst e; simp
    · rw [if_neg e]
      have : ¬ ((k : Int) = (j : Int)) := by omega
      simp [this]
  refine ⟨?_, by rw [hl]; omega, h.dl, ?_, ?_, ?_, ?_, ?_, ?_, ?_, ?_, ?_, ?_⟩
  · -- ok
    rw [hl]
    unfold wOkTo
    rw [List.all_eq_true]
    intro i hi
    have hi' := List.mem_range.1 hi
    show tkOk n i (T (partedL ts k) i) = true
    rw [tkOk_iff]
    by_cases e1 : i < ts.length
    · obtain ⟨p1, p2, p3, p4, p5, p6, p7⟩ := h.task i e1
      by_cases e2 : i = k
      · subst e2; rw [atk]; simp only; omega
      · rw [at0 i e1 e2]; omega
    · by_cases e3 : i = ts.length
      · subst e3; rw [ata]; simp only; omega
      · have e4 : i = ts.length + 1 := by omega
        subst e4; rw [atb]; simp only; omega
  · -- nodup
    rw [List.nodup_append]
    refine ⟨(List.nodup_cons.1 h.nd).2, by simp, ?_⟩
    intro a ha b hb
    have := (hR a ha).1
    simp at hb
    omega
  · intro j hj
    rw [hl]
    simp only [List.mem_append, List.mem_cons, List.not_mem_nil, or_false] at hj
    rcases hj with hj | rfl | rfl
    · have := (hR j hj).1; omega
    · omega
    · omega
  · intro j hj
    simp only [List.mem_append, List.mem_cons, List.not_mem_nil, or_false] at hj
    rcases hj with hj | rfl | rfl
    · rw [at0 j (hR j hj).1 (hR j hj).2]; exact h.w0 j (by simp [hj])
    · rw [ata]
    · rw [atb]
  · have := upOld 0 (by omega)
    rw [this]; exact h.root
  · intro j h0 hj
    rw [hl] at hj
    by_cases e1 : j < ts.length
    · rw [upOld j e1]; exact h.ups j h0 e1
    · by_cases e3 : j = ts.length
      · subst e3; rw [ata]; simp only; omega
      · have e4 : j = ts.length + 1 := by omega
        subst e4; rw [atb]; simp only; omega
  · intro j hj
    rw [hl] at hj
    by_cases e1 : j < ts.length
    · rw [kidsEq j e1]
      have hw := h.wts j e1
      by_cases e2 : j = k
      · subst e2
        have := h.w0 j (by simp)
        rw [atk, if_pos rfl]; simp only; omega
      · rw [at0 j e1 e2, if_neg e2]; omega
    · have hz : kids (R ++ [ts.length, ts.length + 1]) (partedL ts k) j = 0 := by
        rcases Nat.eq_zero_or_pos (kids (R ++ [ts.length, ts.length + 1]) (partedL ts k) j) with hz | hz
        · exact hz
        · obtain ⟨i, hi, hp⟩ := cP_pos _ _ hz
          rw [hl] at hi
          simp only [Bool.and_eq_true, decide_eq_true_eq] at hp
          obtain ⟨hp, _⟩ := hp
          exfalso
          by_cases e3 : i < ts.length
          · rw [upOld i e3] at hp
            have := h.task i e3
            omega
          · by_cases e4 : i = ts.length
            · subst e4; rw [ata] at hp; simp only at hp; omega
            · have e5 : i = ts.length + 1 := by omega
              subst e5; rw [atb] at hp; simp only at hp; omega
      rw [hz]
      by_cases e3 : j = ts.length
      · subst e3; rw [ata]; rfl
      · have e4 : j = ts.length + 1 := by omega
        subst e4; rw [atb]; rfl
  · have hs' := h.sum
    have hc := (cnt_more (sz ts k) g hg hs).1
    rw [List.map_append, List.sum_append, mapR (fun x => cntT x g), hl]
    simp only [List.map_cons, List.map_nil, List.sum_cons, List.sum_nil, List.length_append, List.length_cons, List.length_nil, sza, szb] at hs' ⊢
    omega
  · have hs' := h.uns
    rw [List.map_append, List.sum_append, show R.map (sz (partedL ts k)) = R.map (sz ts) from List.map_congr_left fun j hj => szR j hj]
    simp only [List.map_cons, List.map_nil, List.sum_cons, List.sum_nil, sza, szb] at hs' ⊢
    omega
  · intro u hu
    rw [h.cov u hu]
    constructor
    · rintro ⟨j, hj, r1, r2⟩
      simp only [List.mem_cons] at hj
      rcases hj with rfl | hj
      · by_cases hm : (u : Int) < (T ts j).lo + ((T ts j).hi - (T ts j).lo) / 2
        · exact ⟨ts.length, by simp, by rw [ata]; exact r1, by rw [ata]; exact hm⟩
        · exact ⟨ts.length + 1, by simp, by rw [atb]; simp only; omega, by rw [atb]; exact r2⟩
      · exact ⟨j, by simp [hj], by rw [at0 j (hR j hj).1 (hR j hj).2]; exact r1, by rw [at0 j (hR j hj).1 (hR j hj).2]; exact r2⟩
    · rintro ⟨j, hj, r1, r2⟩
      simp only [List.mem_append, List.mem_cons, List.not_mem_nil, or_false] at hj
      rcases hj with hj | rfl | rfl
      · rw [at0 j (hR j hj).1 (hR j hj).2] at r1 r2
        exact ⟨j, by simp [hj], r1, r2⟩
      · rw [ata] at r1 r2
        simp only at r1 r2
        exact ⟨k, by simp, by omega, by omega⟩
      · rw [atb] at r1 r2
        simp only at r1 r2
        exact ⟨k, by simp, by omega, by omega⟩
  · -- disjoint
    have key : ∀ j ∈ R, ∀ a : Nat, (a = ts.length ∨ a = ts.length + 1) → (T (partedL ts k) j).hi ≤ (T (partedL ts k) a).lo ∨ (T (partedL ts k) a).hi ≤ (T (partedL ts k) j).lo := by
      intro j hj a ha
      have hd := h.dis j (by simp [hj]) k (by simp) (hR j hj).2
      rw [at0 j (hR j hj).1 (hR j hj).2]
      rcases ha with rfl | rfl
      · rw [ata]; simp only; omega
      · rw [atb]; simp only; omega
    intro a ha b hb hne
    simp only [List.mem_append, List.mem_cons, List.not_mem_nil, or_false] at ha hb
    rcases ha with ha | ha
    · rcases hb with hb | hb
      · rw [at0 a (hR a ha).1 (hR a ha).2, at0 b (hR b hb).1 (hR b hb).2]
        exact h.dis a (by simp [ha]) b (by simp [hb]) hne
      · exact key a ha b hb
    · rcases hb with hb | hb
      · exact (key b hb a ha).symm
      · rcases ha with rfl | rfl <;> rcases hb with rfl | rfl
        · exact absurd rfl hne
        · rw [ata, atb]; simp only; omega
        · rw [ata, atb]; simp only; omega
        · exact absurd rfl hne

/-- while it is told upwards: 'up' waits for one more than there are -/
structure CI (n : Nat) (ts : List Tk) (O : List Nat) (up : Int) : Prop where
  ok : wOkTo ts n ts.length = true
  len : 1 ≤ ts.length
  lt : ∀ k ∈ O, k < ts.length
  w0 : ∀ k ∈ O, (T ts k).wt = 0
  root : (T ts 0).up = -1
  ups : ∀ k, 0 < k → k < ts.length → 0 ≤ (T ts k).up
  wts : ∀ j, j < ts.length → (T ts j).wt = (kids O ts j : Int) + if (j : Int) = up then 1 else 0
  lo : -1 ≤ up
  hi : up < ts.length
  fin : up = -1 → unf O ts 0 = false

/-- all else as it was -/
def SameBut (ts us : List Tk) : Prop := us.length = ts.length ∧ ∀ k, (T us k).lo = (T ts k).lo ∧ (T us k).hi = (T ts k).hi ∧ (T us k).up = (T ts k).up
theorem SameBut.refl (ts : List Tk) : SameBut ts ts := ⟨rfl, fun _ => ⟨rfl, rfl, rfl⟩⟩
theorem SameBut.trans {a b c : List Tk} (h : SameBut a b) (k : SameBut b c) : SameBut a c := ⟨k.1.trans h.1, fun i => ⟨(k.2 i).1.trans (h.2 i).1, (k.2 i).2.1.trans (h.2 i).2.1, (k.2 i).2.2.trans (h.2 i).2.2⟩⟩
theorem wless_same (ts : List Tk) (j : Nat) (hj : j < ts.length) : SameBut ts (wless ts j) := ⟨wless_len ts j, fun k => by
  unfold T
  rw [wless_at ts j k hj]
  by_cases e : k = j
  · subst e; rw [if_pos rfl]; exact ⟨rfl, rfl, rfl⟩
  · rw [if_neg e]; exact ⟨rfl, rfl, rfl⟩⟩

theorem climb_same : ∀ (f : Nat) (ts : List Tk) (up : Int), SameBut ts (climb f ts up).1
  | 0, ts, _ => SameBut.refl ts
  | f + 1, ts, up => by
    have hs : SameBut ts (wless ts up.toNat) := by
      by_cases hj : up.toNat < ts.length
      · exact wless_same ts _ hj
      · have e : wless ts up.toNat = ts := by unfold wless; exact List.set_eq_of_length_le (by omega)
        rw [e]; exact SameBut.refl ts
    unfold climb
    split
    · exact SameBut.refl ts
    · split
      · exact SameBut.refl ts
      · split
        · exact hs
        · exact hs.trans (climb_same f _ _)

theorem CI.task {n : Nat} {ts : List Tk} {O : List Nat} {up : Int} (h : CI n ts O up) (k : Nat) (hk : k < ts.length) :
    0 ≤ (T ts k).lo ∧ (T ts k).lo < (T ts k).hi ∧ (T ts k).hi ≤ n ∧ -1 ≤ (T ts k).up ∧ (T ts k).up < k ∧ 0 ≤ (T ts k).wt ∧ (T ts k).wt ≤ 2 := (tkOk_iff n k _).1 (wOkTo_at ts n ts.length h.ok k hk)

/-- what comes of it: all wait for as many as there are; it ends, just if nothing is unfinished -/
structure CE (n : Nat) (ts us : List Tk) (O : List Nat) (q : Bool) : Prop where
  same : SameBut ts us
  ok : wOkTo us n us.length = true
  w0 : ∀ k ∈ O, (T us k).wt = 0
  wts : ∀ j, j < us.length → (T us j).wt = (kids O us j : Int)
  yes : q = true → unf O us 0 = false
  no : q = false → ∃ j, j < us.length ∧ unf O us j = true

theorem climb_ends (n : Nat) : ∀ (f : Nat) (ts : List Tk) (O : List Nat) (up : Int), CI n ts O up → up < f → CE n ts (climb (f + 1) ts up).1 O (climb (f + 1) ts up).2
  | f, ts, O, up, h, hf => by
    by_cases hu : up = -1
    · subst hu
      have e : climb (f + 1) ts (-1) = (ts, true) := by simp [climb]
      rw [e]
      refine ⟨SameBut.refl _, h.ok, h.w0, fun j hj => ?_, fun _ => h.fin rfl, fun hq => by cases hq⟩
      show (T ts j).wt = (kids O ts j : Int)
      have hj2 : j < ts.length := hj
      rw [h.wts j hj2, if_neg (by omega)]; omega
    · obtain ⟨j, rfl⟩ : ∃ j : Nat, up = j := ⟨up.toNat, by have := h.lo; omega⟩
      have hj : j < ts.length := by have := h.hi; omega
      obtain ⟨t1, t2, t3, t4, t5, t6, t7⟩ := h.task j hj
      have hw := h.wts j hj
      rw [if_pos rfl] at hw
      have hjO : j ∉ O := fun hh => by have := h.w0 j hh; omega
      have e0 : tkAt ts (j : Int) = T ts j := by unfold tkAt; rw [Int.toNat_natCast]
      have hl := wless_len ts j
      have hs := wless_same ts j hj
      have atj : T (wless ts j) j = ⟨(T ts j).lo, (T ts j).hi, (T ts j).up, (T ts j).wt - 1⟩ := by unfold T; rw [wless_at ts j j hj, if_pos rfl]
      have atn : ∀ k, k ≠ j → T (wless ts j) k = T ts k := fun k hk => by unfold T; rw [wless_at ts j k hj, if_neg hk]
      have hok' : wOkTo (wless ts j) n (wless ts j).length = true := by rw [hl]; exact wless_ok ts n j _ hj h.ok hj (by show (T ts j).wt ≠ 0; omega)
      have hw0' : ∀ k ∈ O, (T (wless ts j) k).wt = 0 := fun k hk => by rw [atn k (fun e => hjO (e ▸ hk))]; exact h.w0 k hk
      have unfN : ∀ k, k ≠ j → unf O (wless ts j) k = unf O ts k := fun k hk => by rw [Bool.eq_iff_iff, unf_iff, unf_iff, atn k hk]
      have unfJ : unf O ts j = true := by rw [unf_iff]; right; omega
      rw [climb, if_neg hu, e0, if_neg (by omega), Int.toNat_natCast]
      by_cases hq : 0 < (T ts j).wt - 1
      · rw [if_pos hq]
        have unfJ' : unf O (wless ts j) j = true := by rw [unf_iff]; right; rw [atj]; simp only; omega
        have unfA : ∀ k, unf O (wless ts j) k = unf O ts k := fun k => by
          by_cases e : k = j
          · subst e; rw [unfJ, unfJ']
          · exact unfN k e
        have kidsA : ∀ i, kids O (wless ts j) i = kids O ts i := fun i => by
          unfold kids
          rw [hl]
          exact cP_congr _ _ _ fun k _ => by rw [unfA, (hs.2 k).2.2]
        refine ⟨hs, hok', hw0', fun i hi => ?_, (fun hh => by cases hh), fun _ => ⟨j, by rw [hl]; exact hj, unfJ'⟩⟩
        rw [hl] at hi
        rw [kidsA]
        have := h.wts i hi
        by_cases e : i = j
        · subst e; rw [atj]; simp only; omega
        · rw [atn i e]; rw [if_neg (by omega)] at this; omega
      · rw [if_neg hq]
        have unfJ' : unf O (wless ts j) j = false := by
          rw [Bool.eq_false_iff]; intro hh
          rw [unf_iff, atj] at hh
          simp only at hh
          rcases hh with hh | hh
          · exact hjO hh
          · omega
        have kidsA : ∀ i, i < ts.length → kids O ts i = kids O (wless ts j) i + if (i : Int) = (T ts j).up then 1 else 0 := fun i hi => by
          unfold kids
          rw [hl]
          by_cases e : (i : Int) = (T ts j).up
          · rw [if_pos e]
            refine cP_one _ _ j _ hj (fun k hk hne => by rw [unfN k hne, (hs.2 k).2.2]) ?_ ?_
            · rw [unfJ, ← e]; simp
            · rw [unfJ', Bool.and_false]
          · rw [if_neg e, Nat.add_zero]
            refine cP_congr _ _ _ fun k _ => ?_
            by_cases e2 : k = j
            · subst e2
              have e3 : decide ((T ts k).up = (i : Int)) = false := decide_eq_false (by omega)
              have e4 : decide ((T (wless ts k) k).up = (i : Int)) = false := by rw [(hs.2 k).2.2]; exact e3
              rw [e3, e4]; rfl
            · rw [unfN k e2, (hs.2 k).2.2]
        obtain ⟨f', rfl⟩ : ∃ x, f = x + 1 := ⟨f - 1, by omega⟩
        have hci : CI n (wless ts j) O (T ts j).up := by
          refine ⟨hok', by rw [hl]; exact h.len, fun k hk => by rw [hl]; exact h.lt k hk, hw0', by rw [(hs.2 0).2.2]; exact h.root, fun k h0 hk => by rw [(hs.2 k).2.2]; rw [hl] at hk; exact h.ups k h0 hk, fun i hi => ?_, t4, by rw [hl]; omega, fun e => ?_⟩
          · rw [hl] at hi
            have hk := kidsA i hi
            have hwi := h.wts i hi
            by_cases e : i = j
            · subst e
              rw [atj]
              simp only
              split at hk <;> rename_i hh
              · omega
              · rw [if_neg hh]; omega
            · rw [atn i e]
              rw [if_neg (by omega)] at hwi
              split at hk <;> rename_i hh
              · rw [if_pos hh]; omega
              · rw [if_neg hh]; omega
          · have hj0 : j = 0 := by
              rcases Nat.eq_zero_or_pos j with h0 | h0
              · exact h0
              · have := h.ups j h0 hj; omega
            subst hj0
            exact unfJ'
        have ih := climb_ends n f' (wless ts j) O (T ts j).up hci (by omega)
        exact ⟨hs.trans ih.same, ih.ok, ih.w0, ih.wts, ih.yes, ih.no⟩

/-- nothing is unfinished, where the first one is finished -/
theorem all_fin {n : Nat} {us : List Tk} {O : List Nat} (hok : wOkTo us n us.length = true) (hl : ∀ k ∈ O, k < us.length) (hups : ∀ k, 0 < k → k < us.length → 0 ≤ (T us k).up) (hw : ∀ j, j < us.length → (T us j).wt = (kids O us j : Int)) (h0 : unf O us 0 = false) :
    ∀ (m k : Nat), k < m → k < us.length → unf O us k = false
  | 0, k, h, _ => by omega
  | m + 1, k, h, hk => by
    by_cases hk0 : k = 0
    · subst hk0; exact h0
    · rw [Bool.eq_false_iff]
      intro hu
      have hup := hups k (by omega) hk
      obtain ⟨_, _, _, _, t5, _, _⟩ := (tkOk_iff n k _).1 (wOkTo_at us n us.length hok k hk)
      obtain ⟨j, hj⟩ : ∃ j : Nat, (T us k).up = j := ⟨(T us k).up.toNat, by omega⟩
      have hjk : j < k := by have : (T us k).up < k := t5; omega
      have ih := all_fin hok hl hups hw h0 m j (by omega) (by omega)
      have hp : 0 < kids O us j := cP_of _ k _ hk (by rw [hu, hj]; simp)
      have := hw j (by omega)
      rw [Bool.eq_false_iff] at ih
      exact ih ((unf_iff _ _ _).2 (.inr (by omega)))
/-- where something is unfinished, something is open -/
theorem some_open {n : Nat} {us : List Tk} {O : List Nat} (hok : wOkTo us n us.length = true) (hw : ∀ j, j < us.length → (T us j).wt = (kids O us j : Int)) :
    ∀ (m j : Nat), us.length - j ≤ m → j < us.length → unf O us j = true → O ≠ []
  | 0, j, h, hj, _ => by omega
  | m + 1, j, h, hj, hu => by
    rcases (unf_iff _ _ _).1 hu with hO | hwt
    · intro e; rw [e] at hO; cases hO
    · have := hw j hj
      obtain ⟨k, hk, hp⟩ := cP_pos _ _ (by show 0 < kids O us j; omega)
      simp only [Bool.and_eq_true, decide_eq_true_eq] at hp
      obtain ⟨_, _, _, _, t5, _, _⟩ := (tkOk_iff n k _).1 (wOkTo_at us n us.length hok k hk)
      have : (T us k).up < k := t5
      exact some_open hok hw m k (by omega) hk hp.2

/-- a task is done -/
theorem OI.did {g n : Nat} {ts : List Tk} {dn : List Bool} {R : List Nat} {units k : Nat} (h : OI g n ts dn (k :: R) units) (_hg : 1 ≤ g) (hs : ¬ g < sz ts k) :
    OI g n (climb (ts.length + 1) ts (T ts k).up).1 (marked dn (T ts k).lo.toNat (T ts k).hi.toNat) R (units + sz ts k) ∧ (climb (ts.length + 1) ts (T ts k).up).2 = decide (R = []) := by
  have hk : k < ts.length := h.lt k (by simp)
  have hkR : k ∉ R := (List.nodup_cons.1 h.nd).1
  have hkw := h.w0 k (by simp)
  obtain ⟨t1, t2, t3, t4, t5, t6, t7⟩ := h.task k hk
  have hsz := h.szpos k (by simp)
  have unfK : unf (k :: R) ts k = true := by rw [unf_iff]; left; simp
  have unfK' : unf R ts k = false := by
    rw [Bool.eq_false_iff]; intro hh
    rcases (unf_iff _ _ _).1 hh with hh | hh
    · exact hkR hh
    · exact hh hkw
  have unfN : ∀ j, j ≠ k → unf R ts j = unf (k :: R) ts j := fun j hj => by
    rw [Bool.eq_iff_iff, unf_iff, unf_iff]
    simp [hj]
  have hci : CI n ts R (T ts k).up := by
    refine ⟨h.ok, h.len, fun j hj => h.lt j (by simp [hj]), fun j hj => h.w0 j (by simp [hj]), h.root, h.ups, fun j hj => ?_, t4, by omega, fun e => ?_⟩
    · rw [h.wts j hj]
      unfold kids
      by_cases e : (j : Int) = (T ts k).up
      · rw [if_pos e, cP_one _ (fun i => decide ((T ts i).up = (j : Int)) && unf R ts i) k _ hk (fun i _ hne => by rw [unfN i hne]) (by rw [unfK, ← e]; simp) (by rw [unfK', Bool.and_false])]
        omega
      · rw [if_neg e, cP_congr _ (fun i => decide ((T ts i).up = (j : Int)) && unf R ts i) _ (fun i _ => ?_)]
        · omega
        · by_cases e2 : i = k
          · subst e2
            have e3 : decide ((T ts i).up = (j : Int)) = false := decide_eq_false (by omega)
            rw [e3]; rfl
          · rw [unfN i e2]
    · have hk0 : k = 0 := by
        rcases Nat.eq_zero_or_pos k with h0 | h0
        · exact h0
        · have := h.ups k h0 hk; omega
      subst hk0
      exact unfK'
  have hce := climb_ends n ts.length ts R (T ts k).up hci (by omega)
  obtain ⟨us, q, hq⟩ : ∃ us q, climb (ts.length + 1) ts (T ts k).up = (us, q) := ⟨_, _, rfl⟩
  rw [hq] at hce ⊢
  obtain ⟨⟨hl, hsame⟩, hok, hw0, hwts, hyes, hno⟩ : CE n ts us R q := hce
  have hltR : ∀ j ∈ R, j < us.length := fun j hj => by rw [hl]; exact h.lt j (by simp [hj])
  have hups : ∀ j, 0 < j → j < us.length → 0 ≤ (T us j).up := fun j h0 hj => by rw [(hsame j).2.2]; rw [hl] at hj; exact h.ups j h0 hj
  have szE : ∀ j, sz us j = sz ts j := fun j => by unfold sz; rw [(hsame j).1, (hsame j).2.1]
  have hlo : (T ts k).lo.toNat ≤ (T ts k).hi.toNat := by omega
  have hhi : (T ts k).hi.toNat ≤ dn.length := by rw [h.dl]; omega
  refine ⟨⟨hok, by rw [hl]; exact h.len, by rw [marked_len dn _ _ hlo hhi]; exact h.dl, (List.nodup_cons.1 h.nd).2, hltR, hw0, by rw [(hsame 0).2.2]; exact h.root, hups, hwts, ?_, ?_, ?_, ?_⟩, ?_⟩
  · have hs' := h.sum
    have hc := (cnt_one (sz ts k) g (by omega)).1
    rw [hl]
    rw [show (R.map fun j => cntT (sz us j) g) = R.map fun j => cntT (sz ts j) g from List.map_congr_left fun j _ => by rw [szE]]
    simp only [List.map_cons, List.sum_cons, List.length_cons] at hs'
    omega
  · have hs' := h.uns
    rw [show R.map (sz us) = R.map (sz ts) from List.map_congr_left fun j _ => szE j]
    simp only [List.map_cons, List.sum_cons] at hs'
    omega
  · intro u hu
    rw [marked_getD dn _ _ hlo hhi]
    by_cases hin : (T ts k).lo.toNat ≤ u ∧ u < (T ts k).hi.toNat
    · rw [if_pos hin]
      constructor
      · intro hh; cases hh
      · rintro ⟨j, hj, r1, r2⟩
        rw [(hsame j).1] at r1
        rw [(hsame j).2.1] at r2
        have := h.dis k (by simp) j (by simp [hj]) (fun e => hkR (e ▸ hj))
        omega
    · rw [if_neg hin, h.cov u hu]
      constructor
      · rintro ⟨j, hj, r1, r2⟩
        simp only [List.mem_cons] at hj
        rcases hj with rfl | hj
        · exfalso; omega
        · exact ⟨j, hj, by rw [(hsame j).1]; exact r1, by rw [(hsame j).2.1]; exact r2⟩
      · rintro ⟨j, hj, r1, r2⟩
        exact ⟨j, by simp [hj], by rw [(hsame j).1] at r1; exact r1, by rw [(hsame j).2.1] at r2; exact r2⟩
  · intro a ha b hb hne
    rw [(hsame a).1, (hsame a).2.1, (hsame b).1, (hsame b).2.1]
    exact h.dis a (by simp [ha]) b (by simp [hb]) hne
  · cases q with
    | true =>
      have hall := all_fin hok hltR hups hwts (hyes rfl)
      symm
      rw [decide_eq_true_eq]
      cases R with
      | nil => rfl
      | cons a R' =>
        have := hall (a + 1) a (by omega) (hltR a (by simp))
        rw [Bool.eq_false_iff] at this
        exact absurd ((unf_iff _ _ _).2 (.inl (by simp))) this
    | false =>
      obtain ⟨j, hj, hu⟩ := hno rfl
      have := some_open hok hwts us.length j (by omega) hj hu
      symm
      rw [decide_eq_false_iff_not]
      exact this

/-- the end -/
theorem OI.over {g n : Nat} {ts : List Tk} {dn : List Bool} {units : Nat} (h : OI g n ts dn [] units) : units = n ∧ ts.length = cntT n g ∧ (∀ u, u < n → dn.getD u false = true) ∧ ∀ k, k < ts.length → (T ts k).wt = 0 := by
  refine ⟨by simpa using h.uns, by simpa using h.sum, fun u hu => ?_, fun k hk => ?_⟩
  · cases hd : dn.getD u false with
    | true => rfl
    | false =>
      obtain ⟨k, hk, _⟩ := (h.cov u hu).1 hd
      cases hk
  · by_cases hw : (T ts k).wt = 0
    · exact hw
    · exact absurd rfl (some_open h.ok h.wts ts.length k (by omega) hk ((unf_iff _ _ _).2 (.inr hw)))
end Go.Proofs.Ytebbpkdhdilkcaa.Plain

/- Plain words of a crew: what is popped, stolen, pushed; each task once; units counted. No program in it. -/
namespace Go.Proofs.Ytebbpkdhdilkcaa.Plain

/-- all tasks that deques hold -/
abbrev held (D : List (List Nat)) : List Nat := D.flatten
theorem split_at {α : Type} (D : List α) (p : Nat) (hp : p < D.length) : D = D.take p ++ D[p] :: D.drop (p + 1) := by
  conv => lhs; rw [← List.take_append_drop p D, List.drop_eq_getElem_cons hp]
theorem set_at {α : Type} (D : List α) (p : Nat) (x : α) (hp : p < D.length) : D.set p x = D.take p ++ x :: D.drop (p + 1) := by
  rw [List.set_eq_take_append_cons_drop, if_pos hp]
theorem getDp {D : List (List Nat)} {p : Nat} (hp : p < D.length) : D.getD p [] = D[p] := by
  rw [List.getD_eq_getElem?_getD, List.getElem?_eq_getElem hp]; rfl
theorem held_at (D : List (List Nat)) (p : Nat) (hp : p < D.length) : (held D).Perm (D.getD p [] ++ ((D.take p).flatten ++ (D.drop (p + 1)).flatten)) := by
  rw [getDp hp]
  conv => lhs; rw [split_at D p hp]
  rw [held, List.flatten_append, List.flatten_cons]
  exact (List.perm_append_comm_assoc _ _ _)
theorem held_set (D : List (List Nat)) (p : Nat) (x : List Nat) (hp : p < D.length) : (held (D.set p x)).Perm (x ++ ((D.take p).flatten ++ (D.drop (p + 1)).flatten)) := by
  rw [set_at D p x hp, held, List.flatten_append, List.flatten_cons]
  exact (List.perm_append_comm_assoc _ _ _)
/-- the bottom is popped -/
theorem held_pop (D : List (List Nat)) (p : Nat) (xs : List Nat) (k : Nat) (hp : p < D.length) (h : D.getD p [] = xs ++ [k]) : (held D).Perm (k :: held (D.set p xs)) := by
  refine (held_at D p hp).trans ?_
  rw [h, List.append_assoc]
  refine List.perm_middle.trans ?_
  exact List.Perm.cons k (held_set D p xs hp).symm
/-- the top is stolen -/
theorem held_steal (D : List (List Nat)) (p : Nat) (xs : List Nat) (k : Nat) (hp : p < D.length) (h : D.getD p [] = k :: xs) : (held D).Perm (k :: held (D.set p xs)) := by
  refine (held_at D p hp).trans ?_
  rw [h, List.cons_append]
  exact List.Perm.cons k (held_set D p xs hp).symm
/-- the right half is pushed, then the left one -/
theorem held_push (D : List (List Nat)) (p a b : Nat) (hp : p < D.length) : (held (D.set p (D.getD p [] ++ [b, a]))).Perm (held D ++ [a, b]) := by
  refine (held_set D p _ hp).trans ?_
  rw [List.append_assoc]
  have h1 : (D.getD p [] ++ ([b, a] ++ ((D.take p).flatten ++ (D.drop (p + 1)).flatten))).Perm ([b, a] ++ (D.getD p [] ++ ((D.take p).flatten ++ (D.drop (p + 1)).flatten))) := List.perm_append_comm_assoc _ _ _
  refine h1.trans ?_
  have h2 := (held_at D p hp).symm
  refine (List.Perm.append_left [b, a] h2).trans ?_
  refine (List.Perm.swap a b (held D)).trans ?_
  exact List.perm_append_comm (l₁ := [a, b]) (l₂ := held D)

/-- how many units are done -/
def doneN (dn : List Bool) : Nat := dn.countP id
theorem doneN_marked (dn : List Bool) (a b : Nat) (h : a ≤ b) (hb : b ≤ dn.length) (hf : ∀ u, a ≤ u → u < b → dn.getD u false = false) : doneN (marked dn a b) = doneN dn + (b - a) := by
  have e : dn = dn.take a ++ ((dn.drop a).take (b - a) ++ dn.drop b) := by
    have h1 : (dn.drop a).take (b - a) ++ dn.drop b = dn.drop a := by
      have h2 := List.take_append_drop (b - a) (dn.drop a)
      rw [List.drop_drop, show a + (b - a) = b by omega] at h2
      exact h2
    rw [h1, List.take_append_drop]
  have hz : ((dn.drop a).take (b - a)).countP id = 0 := by
    rw [List.countP_eq_zero]
    intro x hx
    obtain ⟨i, hi, rfl⟩ := List.getElem_of_mem hx
    simp only [List.length_take, List.length_drop] at hi
    have h3 := hf (a + i) (by omega) (by omega)
    rw [List.getD_eq_getElem?_getD, List.getElem?_eq_getElem (by omega)] at h3
    simp only [List.getElem_take, List.getElem_drop]
    simpa using h3
  have e2 : doneN dn = (dn.take a).countP id + (((dn.drop a).take (b - a)).countP id + (dn.drop b).countP id) := by
    unfold doneN
    conv => lhs; rw [e]
    rw [List.countP_append, List.countP_append]
  rw [e2, hz]
  unfold doneN marked
  rw [List.countP_append, List.countP_append]
  have e3 : (List.replicate (b - a) true).countP id = b - a := by
    rw [List.countP_replicate]; simp
  rw [e3]
  omega

/-- what stands of a crew: its work, its deques, whether it is over, how many units are done, which tasks are gone -/
structure CrI (g n m : Nat) (ts : List Tk) (dn : List Bool) (D : List (List Nat)) (over : Bool) (done : Nat) (G : List Nat) : Prop where
  inv : OI g n ts dn (held D) done
  wk : D.length = m
  ov : over = decide (held D = [])
  all : doneN dn = done
  gone : (G ++ held D).Perm (List.range ts.length)

theorem CrI.begin (g n m : Nat) (h1 : 1 ≤ n) (hm : 1 ≤ m) : CrI g n m [⟨0, n, -1, 0⟩] (List.replicate n false) ([0] :: List.replicate (m - 1) []) false 0 [] := by
  have e : held ([0] :: List.replicate (m - 1) []) = [0] := by
    unfold held
    rw [List.flatten_cons]
    have : (List.replicate (m - 1) ([] : List Nat)).flatten = [] := by
      induction m - 1 with
      | zero => rfl
      | succ k ih => rw [List.replicate_succ, List.flatten_cons, ih]; rfl
    rw [this]; rfl
  refine ⟨by rw [e]; exact OI.begin g n h1, by simp; omega, by rw [e]; rfl, ?_, by rw [e]; simp [List.range_succ]⟩
  unfold doneN
  rw [List.countP_replicate]; simp

/-- a task that is taken (popped, or stolen) and parted, its halves pushed -/
theorem CrI.part {g n m : Nat} {ts : List Tk} {dn : List Bool} {D E : List (List Nat)} {over : Bool} {done : Nat} {G : List Nat} {k p : Nat} (h : CrI g n m ts dn D over done G) (hE : (held D).Perm (k :: held E)) (hl : E.length = D.length) (hp : p < m) (hg : 1 ≤ g) (hs : g < sz ts k) :
    CrI g n m (partedL ts k) dn (E.set p (E.getD p [] ++ [ts.length + 1, ts.length])) false done (G ++ [k]) := by
  have hpl : p < E.length := by rw [hl, h.wk]; exact hp
  have hpush := held_push E p ts.length (ts.length + 1) hpl
  have hO := (h.inv.perm hE).parted hg hs
  refine ⟨hO.perm hpush.symm, by rw [List.length_set, hl]; exact h.wk, ?_, h.all, ?_⟩
  · symm
    rw [decide_eq_false_iff_not]
    intro e
    have := hpush.length_eq
    rw [e] at this
    simp at this
  · rw [partedL_len]
    have h1 : ((G ++ [k]) ++ held (E.set p (E.getD p [] ++ [ts.length + 1, ts.length]))).Perm ((G ++ [k]) ++ (held E ++ [ts.length, ts.length + 1])) := List.Perm.append_left _ hpush
    refine h1.trans ?_
    have h2 : (G ++ (k :: held E)).Perm (List.range ts.length) := (List.Perm.append_left G hE.symm).trans h.gone
    have e : (G ++ [k]) ++ (held E ++ [ts.length, ts.length + 1]) = (G ++ (k :: held E)) ++ [ts.length, ts.length + 1] := by simp
    rw [e, show ts.length + 2 = (ts.length + 1) + 1 by omega, List.range_succ, List.range_succ,
      show List.range ts.length ++ [ts.length] ++ [ts.length + 1] = List.range ts.length ++ [ts.length, ts.length + 1] by simp]
    exact List.Perm.append_right _ h2
/-- .. and done -/
theorem CrI.did {g n m : Nat} {ts : List Tk} {dn : List Bool} {D E : List (List Nat)} {over : Bool} {done : Nat} {G : List Nat} {k : Nat} (h : CrI g n m ts dn D over done G) (hE : (held D).Perm (k :: held E)) (hl : E.length = D.length) (hg : 1 ≤ g) (hs : ¬ g < sz ts k) :
    CrI g n m (climb (ts.length + 1) ts (T ts k).up).1 (marked dn (T ts k).lo.toNat (T ts k).hi.toNat) E (climb (ts.length + 1) ts (T ts k).up).2 (done + sz ts k) (G ++ [k]) := by
  have hI := h.inv.perm hE
  obtain ⟨h1, h2⟩ := hI.did hg hs
  have ht := hI.task k (hI.lt k (by simp))
  have hz := hI.szpos k (by simp)
  refine ⟨h1, by rw [hl]; exact h.wk, h2, ?_, ?_⟩
  · rw [doneN_marked dn _ _ (by omega) (by rw [hI.dl]; omega) (fun u hu1 hu2 => (hI.cov u (by omega)).2 ⟨k, by simp, by omega, by omega⟩), h.all]
    unfold sz; omega
  · rw [climb_len]
    have e : (G ++ [k]) ++ held E = G ++ (k :: held E) := by simp
    rw [e]
    exact (List.Perm.append_left G hE.symm).trans h.gone
/-- a task is open at most once, and gone at most once; what is gone isn't open -/
theorem CrI.fresh {g n m : Nat} {ts : List Tk} {dn : List Bool} {D : List (List Nat)} {over : Bool} {done : Nat} {G : List Nat} (h : CrI g n m ts dn D over done G) : G.Nodup ∧ (∀ k ∈ G, k < ts.length) ∧ (∀ k ∈ held D, k ∉ G) ∧ G.length + (held D).length = ts.length := by
  have hn : (G ++ held D).Nodup := h.gone.nodup_iff.2 List.nodup_range
  rw [List.nodup_append] at hn
  refine ⟨hn.1, fun k hk => List.mem_range.1 (h.gone.mem_iff.1 (List.mem_append_left _ hk)), fun k hk hG => hn.2.2 k hG k hk rfl, ?_⟩
  have := h.gone.length_eq
  simpa using this
/-- it is over, just if all units are done; else something is open -/
theorem CrI.over_iff {g n m : Nat} {ts : List Tk} {dn : List Bool} {D : List (List Nat)} {over : Bool} {done : Nat} {G : List Nat} (h : CrI g n m ts dn D over done G) : (over = true ↔ done = n) ∧ (over = false → 0 < (held D).length) := by
  have hu := h.inv.uns
  have hov := h.ov
  refine ⟨⟨fun ho => ?_, fun hd => ?_⟩, fun ho => ?_⟩
  · rw [hov, decide_eq_true_eq] at ho
    rw [ho] at hu
    simpa using hu
  · rw [hov, decide_eq_true_eq]
    cases hh : held D with
    | nil => rfl
    | cons k R =>
      rw [hh] at hu
      have := (h.inv.szpos k (by rw [hh]; simp)).1
      simp only [List.map_cons, List.sum_cons] at hu
      omega
  · rw [hov, decide_eq_false_iff_not] at ho
    exact List.length_pos_iff.2 ho

/-- tasks, the bottom first, one behind the other, from a up to b -/
def chain (ts : List Tk) : List Nat → Int → Int → Prop
  | [], a, b => a = b
  | k :: R, a, b => (T ts k).lo = a ∧ chain ts R (T ts k).hi b
theorem chain_congr (ts us : List Tk) : ∀ (R : List Nat) (a b : Int), (∀ j ∈ R, (T us j).lo = (T ts j).lo ∧ (T us j).hi = (T ts j).hi) → chain ts R a b → chain us R a b
  | [], _, _, _, h => h
  | k :: R, a, b, he, h => by
    obtain ⟨h1, h2⟩ := h
    refine ⟨(he k (by simp)).1.trans h1, ?_⟩
    rw [(he k (by simp)).2]
    exact chain_congr ts us R _ b (fun j hj => he j (by simp [hj])) h2
theorem chain_parted (ts : List Tk) (k : Nat) (R : List Nat) (a b : Int) (hk : k < ts.length) (hR : ∀ j ∈ R, j < ts.length ∧ j ≠ k) (h : chain ts (k :: R) a b) : chain (partedL ts k) (ts.length :: (ts.length + 1) :: R) a b := by
  obtain ⟨h1, h2⟩ := h
  have ata : T (partedL ts k) ts.length = ⟨(T ts k).lo, (T ts k).lo + ((T ts k).hi - (T ts k).lo) / 2, k, 0⟩ := by rw [parted_at ts k hk, if_neg (by omega), if_neg (by omega), if_pos rfl]
  have atb : T (partedL ts k) (ts.length + 1) = ⟨(T ts k).lo + ((T ts k).hi - (T ts k).lo) / 2, (T ts k).hi, k, 0⟩ := by rw [parted_at ts k hk, if_neg (by omega), if_neg (by omega), if_neg (by omega), if_pos rfl]
  refine ⟨by rw [ata]; exact h1, by rw [atb, ata], ?_⟩
  rw [atb]
  exact chain_congr ts _ R _ b (fun j hj => by rw [parted_at ts k hk, if_neg (hR j hj).2, if_pos (hR j hj).1]; exact ⟨rfl, rfl⟩) h2
theorem chain_did (ts us : List Tk) (k : Nat) (R : List Nat) (a b : Int) (hs : SameBut ts us) (h : chain ts (k :: R) a b) : (T ts k).lo = a ∧ chain us R (T ts k).hi b :=
  ⟨h.1, chain_congr ts us R _ b (fun j _ => ⟨(hs.2 j).1, (hs.2 j).2.1⟩) h.2⟩
/-- it ends where all is done -/
theorem chain_end (ts : List Tk) : ∀ (R : List Nat) (a b : Int), (∀ j ∈ R, (T ts j).lo < (T ts j).hi) → chain ts R a b → a ≤ b ∧ (a = b ↔ R = [])
  | [], a, b, _, h => ⟨by have : a = b := h; omega, fun _ => rfl, fun _ => h⟩
  | k :: R, a, b, hl, h => by
    obtain ⟨h1, h2⟩ := h
    have := (chain_end ts R _ b (fun j hj => hl j (by simp [hj])) h2).1
    have := hl k (by simp)
    refine ⟨by omega, fun e => by omega, fun e => by cases e⟩
end Go.Proofs.Ytebbpkdhdilkcaa.Plain

/- Plain words of a crew's step, as a function: what is taken, what a step leaves, a run of steps. No program in it. -/
namespace Go.Proofs.Ytebbpkdhdilkcaa.Plain

/-- a crew's data -/
structure Cw where
  ts : List Tk
  dn : List Bool
  D : List (List Nat)
  over : Bool
  st : Nat
  id : Nat
deriving DecidableEq
/-- an event -/
structure Ev where
  wk : Int
  fr : Int
  tk : Int
  pt : Bool
deriving DecidableEq
def ev0 : Ev := ⟨0, 0, 0, false⟩
/-- a worker's number, cut -/
def cutN (m : Nat) (p : Int) : Nat := (p % (m : Int)).toNat
theorem cutN_lt (m : Nat) (p : Int) (hm : 1 ≤ m) : cutN m p < m := by
  unfold cutN
  have := Int.emod_nonneg p (by omega : (m : Int) ≠ 0)
  have := Int.emod_lt_of_pos p (by omega : (0 : Int) < m)
  omega
theorem cutN_eq (m : Nat) (p : Int) (hm : 1 ≤ m) : p % (m : Int) = (cutN m p : Int) := by
  unfold cutN
  have := Int.emod_nonneg p (by omega : (m : Int) ≠ 0)
  omega
theorem tmod_cut (m : Nat) (p : Int) (hm : 1 ≤ m) : (0 ≤ p.tmod m → p.tmod m = (cutN m p : Int)) ∧ (p.tmod m < 0 → p.tmod m + m = (cutN m p : Int)) := by
  rw [← cutN_eq m p hm]
  have hm' : (0 : Int) < m := by omega
  have h1 := Int.tmod_lt_of_pos p hm'
  have h3 := Int.emod_nonneg p (by omega : (m : Int) ≠ 0)
  have h4 := Int.emod_lt_of_pos p hm'
  have h5 := Int.emod_add_mul_ediv p m
  have h6 := Int.tmod_add_mul_tdiv p m
  have h2 : -(m : Int) < p.tmod m := by
    have := Int.neg_lt_of_neg_lt (Int.tmod_lt_of_pos (-p) hm' |> (by rw [Int.neg_tmod]; exact fun h => by omega : (-p).tmod m < m → -(m:Int) < p.tmod m))
    omega
  have hd : ∀ x y : Int, (m : Int) * x = m * y → x = y := fun x y h => Int.eq_of_mul_eq_mul_left (by omega) h
  constructor
  · intro h0
    have : p.tmod m = p % m := by
      have e : (m : Int) * (p / m - p.tdiv m) = p.tmod m - p % m := by rw [Int.mul_sub]; omega
      have hq : p / m - p.tdiv m = 0 := by
        rcases Int.lt_trichotomy (p / m - p.tdiv m) 0 with hh | hh | hh
        · have : (m : Int) * (p / m - p.tdiv m) ≤ m * (-1) := Int.mul_le_mul_of_nonneg_left (by omega) (by omega)
          omega
        · exact hh
        · have : (m : Int) * 1 ≤ m * (p / m - p.tdiv m) := Int.mul_le_mul_of_nonneg_left (by omega) (by omega)
          omega
      rw [hq] at e
      omega
    exact this
  · intro h0
    have e : (m : Int) * (p / m - p.tdiv m) = p.tmod m - p % m := by rw [Int.mul_sub]; omega
    have hq : p / m - p.tdiv m = -1 := by
      rcases Int.lt_trichotomy (p / m - p.tdiv m) (-1) with hh | hh | hh
      · have : (m : Int) * (p / m - p.tdiv m) ≤ m * (-2) := Int.mul_le_mul_of_nonneg_left (by omega) (by omega)
        omega
      · exact hh
      · have : (m : Int) * 0 ≤ m * (p / m - p.tdiv m) := Int.mul_le_mul_of_nonneg_left (by omega) (by omega)
        omega
    rw [hq] at e
    omega
/-- from whose deque P has a task, if Q is the victim -/
def srcN (D : List (List Nat)) (P Q : Nat) : Option Nat := if D.getD P [] ≠ [] then some P else if D.getD Q [] ≠ [] then some Q else none
/-- the task that is taken from F's deque by P, and what is left of that deque -/
def takeN (D : List (List Nat)) (P F : Nat) : Nat × List Nat := if F = P then ((D.getD F []).getLastD 0, (D.getD F []).dropLast) else ((D.getD F []).headD 0, (D.getD F []).tail)
/-- P goes at a task from F's deque -/
def goP (g : Nat) (c : Cw) (P F : Nat) : Cw × Ev :=
  let k := (takeN c.D P F).1
  let E := c.D.set F (takeN c.D P F).2
  if g < sz c.ts k then
    (⟨partedL c.ts k, c.dn, E.set P (E.getD P [] ++ [c.ts.length + 1, c.ts.length]), c.over, c.st + 1, c.id⟩, ⟨P, F, k, true⟩)
  else
    (⟨(climb (c.ts.length + 1) c.ts (T c.ts k).up).1, marked c.dn (T c.ts k).lo.toNat (T c.ts k).hi.toNat, E, c.over || (climb (c.ts.length + 1) c.ts (T c.ts k).up).2, c.st + 1, c.id⟩, ⟨P, F, k, false⟩)
/-- a step -/
def stepP (g m : Nat) (c : Cw) (p q : Int) : Cw × Ev :=
  match srcN c.D (cutN m p) (cutN m q) with
  | none => (⟨c.ts, c.dn, c.D, c.over, c.st + 1, c.id + 1⟩, ⟨cutN m p, -1, -1, false⟩)
  | some F => goP g c (cutN m p) F
/-- step by step -/
def runP (g m : Nat) : Cw → List (Int × Int) → Cw × List Ev
  | c, [] => (c, [])
  | c, x :: l => ((runP g m (stepP g m c x.1 x.2).1 l).1, (stepP g m c x.1 x.2).2 :: (runP g m (stepP g m c x.1 x.2).1 l).2)
theorem runP_snoc (g m : Nat) : ∀ (l : List (Int × Int)) (c : Cw) (x : Int × Int), runP g m c (l ++ [x]) = ((stepP g m (runP g m c l).1 x.1 x.2).1, (runP g m c l).2 ++ [(stepP g m (runP g m c l).1 x.1 x.2).2])
  | [], _, _ => rfl
  | y :: l, c, x => by
    simp only [List.cons_append, runP, runP_snoc g m l]
theorem runP_len (g m : Nat) : ∀ (l : List (Int × Int)) (c : Cw), (runP g m c l).2.length = l.length
  | [], _ => rfl
  | y :: l, c => by simp only [runP, List.length_cons, runP_len g m l]
/-- a crew at its beginning -/
def beginC (n m : Nat) : Cw := ⟨[⟨0, n, -1, 0⟩], List.replicate n false, [0] :: List.replicate (m - 1) [], false, 0, 0⟩

/-- what stands of a crew -/
def CwI (g n m : Nat) (c : Cw) (done : Nat) (G : List Nat) : Prop := CrI g n m c.ts c.dn c.D c.over done G
theorem CwI.begin (g n m : Nat) (h1 : 1 ≤ n) (hm : 1 ≤ m) : CwI g n m (beginC n m) 0 [] := CrI.begin g n m h1 hm
theorem getLastD_snoc (xs : List Nat) (h : xs ≠ []) : xs = xs.dropLast ++ [xs.getLastD 0] := by
  rw [List.getLastD_eq_getLast?, List.getLast?_eq_some_getLast h]
  exact (List.dropLast_concat_getLast h).symm
theorem head_tail (xs : List Nat) (h : xs ≠ []) : xs = xs.headD 0 :: xs.tail := by
  cases xs with
  | nil => exact absurd rfl h
  | cons a l => rfl
theorem srcN_some {D : List (List Nat)} {P Q F : Nat} (h : srcN D P Q = some F) : D.getD F [] ≠ [] ∧ (F = P ∨ (F = Q ∧ F ≠ P ∧ D.getD P [] = [])) := by
  unfold srcN at h
  by_cases h1 : D.getD P [] ≠ []
  · rw [if_pos h1] at h; cases h; exact ⟨h1, .inl rfl⟩
  · rw [if_neg h1] at h
    by_cases h2 : D.getD Q [] ≠ []
    · rw [if_pos h2] at h; cases h
      exact ⟨h2, .inr ⟨rfl, fun e => h1 (e ▸ h2), by simpa using h1⟩⟩
    · rw [if_neg h2] at h; cases h
theorem srcN_none {D : List (List Nat)} {P Q : Nat} (h : srcN D P Q = none) : D.getD P [] = [] ∧ D.getD Q [] = [] := by
  unfold srcN at h
  by_cases h1 : D.getD P [] ≠ []
  · rw [if_pos h1] at h; cases h
  · rw [if_neg h1] at h
    by_cases h2 : D.getD Q [] ≠ []
    · rw [if_pos h2] at h; cases h
    · exact ⟨by simpa using h1, by simpa using h2⟩
theorem take_held {D : List (List Nat)} {P F : Nat} (hF : F < D.length) (h : D.getD F [] ≠ []) : (held D).Perm ((takeN D P F).1 :: held (D.set F (takeN D P F).2)) := by
  unfold takeN
  by_cases e : F = P
  · rw [if_pos e]
    exact held_pop D F _ _ hF (getLastD_snoc _ h)
  · rw [if_neg e]
    exact held_steal D F _ _ hF (head_tail _ h)
/-- of what stands, a step leaves: idle; parted; done -/
theorem CwI.step {g n m : Nat} {c : Cw} {done : Nat} {G : List Nat} (h : CwI g n m c done G) (hg : 1 ≤ g) (hm : 1 ≤ m) (p q : Int) :
    ((stepP g m c p q) = (⟨c.ts, c.dn, c.D, c.over, c.st + 1, c.id + 1⟩, ⟨cutN m p, -1, -1, false⟩) ∧ c.D.getD (cutN m p) [] = [] ∧ CwI g n m (stepP g m c p q).1 done G) ∨
    (∃ k F : Nat, F < m ∧ (F = cutN m p ∨ c.D.getD (cutN m p) [] = []) ∧ k = (takeN c.D (cutN m p) F).1 ∧ (stepP g m c p q).2 = ⟨cutN m p, F, k, true⟩ ∧ (stepP g m c p q).1.ts = partedL c.ts k ∧ (stepP g m c p q).1.id = c.id ∧ k ∈ held c.D ∧ k < c.ts.length ∧ CwI g n m (stepP g m c p q).1 done (G ++ [k])) ∨
    (∃ k F : Nat, F < m ∧ (F = cutN m p ∨ c.D.getD (cutN m p) [] = []) ∧ k = (takeN c.D (cutN m p) F).1 ∧ (stepP g m c p q).2 = ⟨cutN m p, F, k, false⟩ ∧ SameBut c.ts (stepP g m c p q).1.ts ∧ (stepP g m c p q).1.id = c.id ∧ k ∈ held c.D ∧ k < c.ts.length ∧ ((T c.ts k).hi - (T c.ts k).lo = sz c.ts k) ∧ CwI g n m (stepP g m c p q).1 (done + sz c.ts k) (G ++ [k])) := by
  have hwk : c.D.length = m := CrI.wk h
  unfold stepP
  cases hs : srcN c.D (cutN m p) (cutN m q) with
  | none => exact .inl ⟨rfl, (srcN_none hs).1, h⟩
  | some F =>
    obtain ⟨hne, hor⟩ := srcN_some hs
    have hF : F < m := by
      rcases hor with rfl | ⟨rfl, _⟩ <;> exact cutN_lt m _ hm
    have hP := cutN_lt m p hm
    have hor' : F = cutN m p ∨ c.D.getD (cutN m p) [] = [] := by rcases hor with h1 | ⟨_, _, h1⟩; exact .inl h1; exact .inr h1
    have hE := take_held (P := cutN m p) (by omega : F < c.D.length) hne
    have hmem : (takeN c.D (cutN m p) F).1 ∈ held c.D := hE.mem_iff.2 (by simp)
    have hov : c.over = false := by
      have := CrI.ov h
      rw [this, decide_eq_false_iff_not]
      intro e; rw [e] at hmem; cases hmem
    have hlt := (CrI.inv h).lt _ hmem
    by_cases hz : g < sz c.ts (takeN c.D (cutN m p) F).1
    · refine .inr (.inl ⟨_, F, hF, hor', rfl, ?_⟩)
      simp only [goP, if_pos hz]
      refine ⟨trivial, trivial, trivial, hmem, hlt, ?_⟩
      have := CrI.part h hE (by simp) hP hg hz
      unfold CwI
      rw [hov]; exact this
    · refine .inr (.inr ⟨_, F, hF, hor', rfl, ?_⟩)
      simp only [goP, if_neg hz]
      refine ⟨trivial, climb_same _ _ _, trivial, hmem, hlt, ((CrI.inv h).szpos _ hmem).2.2, ?_⟩
      have := CrI.did h hE (by simp) hg hz
      unfold CwI
      rw [hov, Bool.false_or]; exact this
theorem CwI.stepD {g n m : Nat} {c : Cw} {done : Nat} {G : List Nat} (h : CwI g n m c done G) (hg : 1 ≤ g) (hm : 1 ≤ m) (p q : Int) : ∃ done' G', CwI g n m (stepP g m c p q).1 done' G' := by
  rcases h.step hg hm p q with ⟨_, _, h⟩ | ⟨_, _, _, _, _, _, _, _, _, _, h⟩ | ⟨_, _, _, _, _, _, _, _, _, _, _, h⟩ <;> exact ⟨_, _, h⟩
theorem stepP_st (g m : Nat) (c : Cw) (p q : Int) : (stepP g m c p q).1.st = c.st + 1 ∧ c.id ≤ (stepP g m c p q).1.id ∧ (stepP g m c p q).1.id ≤ c.id + 1 := by
  unfold stepP goP
  split
  · exact ⟨rfl, Nat.le_succ _, Nat.le_refl _⟩
  · simp only; split <;> exact ⟨rfl, Nat.le_refl _, Nat.le_succ _⟩
end Go.Proofs.Ytebbpkdhdilkcaa.Plain

/- Whether two lists are the same; a clone. -/
namespace Go.Proofs.Ytebbpkdhdilkcaa
open Go.RowKit Go.Proofs.Ytebbpkdhdilkcaa.Plain

def sameB (xs ys : List Int) : Bool := decide (xs = ys)

set_option maxHeartbeats 400000 in
theorem clone_any (v : Value) (xs : List Int) (w : World) (h : Ints w v xs) (hl : xs.length ≤ 1048576) :
    Calls Try.prog 28 #[v] w fun e w' => ∃ A c, e = .returned (.slice A xs.length c) ∧ Own w.heap.size w' (.slice A xs.length c) xs ∧ Ext w w' := by
  have hi := h
  obtain ⟨hm, hb, A, cap, rfl, hcap, hc⟩ := h
  have HC := Lib.hid hc
  clear hc
  have hnil := fun (w : World) (a : Option Addr) (n c : Nat) => Lib.run_eql_slice_nil w 55 3 a n c 0 0 Try.underlying55
  cases A with
  | none =>
    have h0 : xs = [] := by
      cases xs with
      | nil => rfl
      | cons a l => obtain ⟨b, off, h, _⟩ := HC.out (by simp); cases h
    subst h0
    go_enter Try.func28, Try.ntmps28
    go_wp2
    go_ret
    exact ⟨_, _, rfl, Own.nil _ _, Ext.refl _⟩
  | some ad =>
    go_enter Try.func28, Try.ntmps28
    go_wp2_with (at_builtin; refine wpList_app rfl _ _ rfl rfl w.heap.size _ [] rfl (Own.made w #[] 0 (Nat.le_refl _) (by simp) rfl) _ xs rfl (hi.ext ((Ext.refl w).alloc _)) (by simpa using hl) (by simp) ?_; intro u w1 hown hgrow hat)
    go_ret
    obtain ⟨A1, c1, rfl, _⟩ := hown.shape
    refine ⟨A1, c1, rfl, hown, ((Ext.refl w).alloc _).grown hgrow (fun k hk => ?_)⟩
    cases hk; exact Nat.le_refl _

end Go.Proofs.Ytebbpkdhdilkcaa

/- The document's Right and Great of work. -/
namespace Go.Proofs.Ytebbpkdhdilkcaa
open Go.RowKit Go.Proofs.Ytebbpkdhdilkcaa.Plain

end Go.Proofs.Ytebbpkdhdilkcaa

/- The program's small words of work: sized, half, great, fits; clones of tasks, of units. -/
namespace Go.Proofs.Ytebbpkdhdilkcaa
open Go.RowKit Go.Proofs.Ytebbpkdhdilkcaa.Plain

theorem sized_any (n g : Int) (w : World) (hn : in64 n) (hg : in64 g) :
    Calls Try.prog 25 #[.int .i64 n, .int .i64 g] w fun e w' => e = .returned (.bool (cOk n g)) ∧ w = w' := by
  unfold in64 at hn hg
  unfold cOk
  go_enter Try.func25, Try.ntmps25
  go_wp2
  all_goals go_ret
  all_goals exact ⟨ret_bool (by simp; try omega), rfl⟩

theorem half_any (n : Int) (w : World) (hn : in64 n) (h0 : 0 ≤ n) :
    Calls Try.prog 49 #[.int .i64 n] w fun e w' => e = .returned (.int .i64 (n / 2)) ∧ w = w' := by
  unfold in64 at hn
  obtain ⟨m, rfl⟩ : ∃ m : Nat, n = m := ⟨n.toNat, by omega⟩
  go_enter Try.func49, Try.ntmps49
  go_wp2
  go_ret
  exact ⟨rfl, rfl⟩

theorem great_any (lo hi up wt g : Int) (w : World) (hd : in64 (hi - lo)) (hg : in64 g) :
    Calls Try.prog 48 #[.agg #[.int .i64 lo, .int .i64 hi, .int .i64 up, .int .i64 wt], .int .i64 g] w fun e w' => e = .returned (.bool (decide (g < hi - lo))) ∧ Ext w w' := by
  unfold in64 at hd hg
  obtain ⟨d1, d2⟩ := hd
  obtain ⟨g1, g2⟩ := hg
  go_enter Try.func48, Try.ntmps48
  go_wp2
  go_ret
  exact ⟨ret_bool (by first | rfl | (simp; done) | (simp; omega)), (Ext.refl w).alloc _⟩

set_option maxHeartbeats 400000 in
theorem fits_any (lo hi up wt : Int) (i n : Nat) (w : World) (h1 : in64 lo) (_h2 : in64 hi) (h3 : in64 up) (h4 : in64 wt) (_hi : i ≤ 9223372036854775807) (_hn : n ≤ 9223372036854775807) :
    Calls Try.prog 33 #[.agg #[.int .i64 lo, .int .i64 hi, .int .i64 up, .int .i64 wt], .int .i64 i, .int .i64 n] w fun e w' => e = .returned (.bool (tkOk n i ⟨lo, hi, up, wt⟩)) ∧ Ext w w' := by
  unfold in64 at h1 _h2 h3 h4
  unfold tkOk
  go_enter Try.func33, Try.ntmps33
  go_wp2
  all_goals go_ret
  all_goals exact ⟨ret_bool (by simp; try omega), (Ext.refl w).alloc _⟩

set_option maxHeartbeats 400000 in
theorem clone_t (v : Value) (xs : List Tk) (w : World) (h : Rd kTask w v xs) (hl : xs.length ≤ 1048576) :
    Calls Try.prog 26 #[v] w fun e w' => ∃ A c, e = .returned (.slice A xs.length c) ∧ Ow kTask w.heap.size w' (.slice A xs.length c) xs ∧ Ext w w' := by
  have HI := Lib.hid h
  obtain ⟨A, cap, rfl, hcap⟩ := h.slice
  have hlen := h.len
  have hnil := fun (w : World) (a : Option Addr) (n c : Nat) => Lib.run_eql_slice_nil w 25 43 a n c 0 0 Try.underlying25
  cases A with
  | none =>
    have h0 : xs = [] := by
      cases xs with
      | nil => rfl
      | cons a l => obtain ⟨b, off, h', _⟩ := h.cells (by simp); cases h'
    clear h
    subst h0
    go_enter Try.func26, Try.ntmps26
    go_wp2
    go_ret
    exact ⟨_, _, rfl, Ow.nil _ _, Ext.refl _⟩
  | some ad =>
    clear h
    go_enter Try.func26, Try.ntmps26
    go_wp2_with (at_builtin; refine kTask.wpList_app (by rfl) _ _ rfl rfl w.heap.size _ [] rfl (Ow.emptyAt w rfl (Nat.le_refl _)) _ xs rfl (HI.out.ext ((Ext.refl w).alloc _)) (by simpa using hl) (by simp) ?_; intro u w1 hown hgrow hat)
    go_ret
    obtain ⟨A1, c1, rfl, _⟩ := hown.slice
    refine ⟨A1, c1, rfl, hown, ((Ext.refl w).alloc _).grown hgrow (fun k hk => ?_)⟩
    cases hk; exact Nat.le_refl _

set_option maxHeartbeats 400000 in
theorem clone_b (v : Value) (xs : List Bool) (w : World) (h : Rd kBool w v xs) (hl : xs.length ≤ 1048576) :
    Calls Try.prog 27 #[v] w fun e w' => ∃ A c, e = .returned (.slice A xs.length c) ∧ Ow kBool w.heap.size w' (.slice A xs.length c) xs ∧ Ext w w' := by
  have HI := Lib.hid h
  obtain ⟨A, cap, rfl, hcap⟩ := h.slice
  have hlen := h.len
  have hnil := fun (w : World) (a : Option Addr) (n c : Nat) => Lib.run_eql_slice_nil w 26 4 a n c 0 0 Try.underlying26
  cases A with
  | none =>
    have h0 : xs = [] := by
      cases xs with
      | nil => rfl
      | cons a l => obtain ⟨b, off, h', _⟩ := h.cells (by simp); cases h'
    clear h
    subst h0
    go_enter Try.func27, Try.ntmps27
    go_wp2
    go_ret
    exact ⟨_, _, rfl, Ow.nil _ _, Ext.refl _⟩
  | some ad =>
    clear h
    go_enter Try.func27, Try.ntmps27
    go_wp2_with (at_builtin; refine kBool.wpList_app (by rfl) _ _ rfl rfl w.heap.size _ [] rfl (Ow.emptyAt w rfl (Nat.le_refl _)) _ xs rfl (HI.out.ext ((Ext.refl w).alloc _)) (by simpa using hl) (by simp) ?_; intro u w1 hown hgrow hat)
    go_ret
    obtain ⟨A1, c1, rfl, _⟩ := hown.slice
    refine ⟨A1, c1, rfl, hown, ((Ext.refl w).alloc _).grown hgrow (fun k hk => ?_)⟩
    cases hk; exact Nat.le_refl _

end Go.Proofs.Ytebbpkdhdilkcaa

/- The program's Right, asked and Great of work. -/
namespace Go.Proofs.Ytebbpkdhdilkcaa
open Go.BigFrame
open Go.RowKit Go.Proofs.Ytebbpkdhdilkcaa.Plain

theorem sized_right (ts : List Tk) (g : Int) (n : Nat) : wSized g n ts.length = (cOk n g && decide (1 ≤ ts.length) && decide (ts.length ≤ 2000)) := by
  unfold wSized cOk
  rw [Bool.eq_iff_iff]
  simp only [Bool.and_eq_true, decide_eq_true_eq]
  omega

set_option maxHeartbeats 800000 in
set_option maxRecDepth 100000 in
theorem right_any (A B : Option Addr) (c d n : Nat) (ts : List Tk) (g : Int) (w : World) (h : Rd kTask w (.slice A ts.length c) ts) (hn : n ≤ 9223372036854775807) (hg : in64 g) :
    Calls Try.prog 19 #[.agg #[.slice A ts.length c, .int .i64 g, .slice B n d]] w fun e w' => e = .returned (.bool (wRight ts g n)) ∧ Ext w w' := by
  have H := Lib.hid h
  have hm := h.len
  have HG := Lib.hid hg
  have HN : Hid (in64 (n : Int)) := Lib.hid (by unfold in64; omega)
  clear h
  cases hc : cOk n g with
  | false =>
    have HC := Lib.hid hc
    have HR : Hid (wRight ts g n = false) := Lib.hid (by unfold wRight; rw [sized_right, hc]; rfl)
    clear hc
    go_enter Try.func19, Try.ntmps19
    go_wp2_with fail
    refine (sized_any _ _ _ HN.out HG.out).mono ?_
    rintro e w1 ⟨he, rfl⟩
    rw [HC.out] at he
    subst he
    go_wp2_with fail
    go_ret
    exact ⟨ret_bool HR.out.symm, (Ext.refl w).alloc _⟩
  | true =>
    have HC := Lib.hid hc
    by_cases hs : 1 ≤ ts.length ∧ ts.length ≤ 2000
    · obtain ⟨a5, a6⟩ := hs
      have HR : Hid (wRight ts g n = wOkTo ts n ts.length) := Lib.hid (by unfold wRight; rw [sized_right, hc, decide_eq_true a5, decide_eq_true a6]; rfl)
      have b5 : (1 : Int) ≤ ts.length := by omega
      have b6 : (ts.length : Int) ≤ 2000 := by omega
      clear hc
      obtain ⟨b, off, rfl, hcc⟩ := Rd.tasks H.out (by omega)
      have HCC := Lib.hid hcc
      clear hcc
      go_enter Try.func19, Try.ntmps19
      go_wp2_with fail
      refine (sized_any _ _ _ HN.out HG.out).mono ?_
      rintro e w1 ⟨he, rfl⟩
      rw [HC.out] at he
      subst he
      go_wp2_with fail
      go_loopw [27] (fun i wr => ∃ k : Nat, k ≤ ts.length ∧ i = .int .i64 k ∧ wOkTo ts n k = true ∧ Ext (w.alloc (.cells #[.slice (some ⟨b, off, none⟩) ts.length c, .int .i64 g, .slice B n d] 28)) wr) (fun i _ => ts.length - (intOf i).toNat)
      case atStart => exact ⟨0, Nat.zero_le _, rfl, wOkTo_zero _ _, Ext.refl _⟩
      case round =>
        obtain ⟨k, hk, rfl, hok, hE⟩ := hrel
        have HOK := Lib.hid hok
        have x0 : wr.cell? ⟨w.heap.size, 0, none⟩ = some (.slice (some ⟨b, off, none⟩) ts.length c) := hE.cell (by go_simp)
        have x2 : wr.cell? ⟨w.heap.size, 2, none⟩ = some (.slice B n d) := hE.cell (by go_simp)
        have hsz := hE.size
        simp at hsz
        have l0 : w.heap.size < wr.heap.size := by omega
        have l1 : w.heap.size < wr.heap.size + 1 := by omega
        clear hok
        by_cases hlt : k < ts.length
        · have hlt' : (k : Int) < ts.length := by omega
          obtain ⟨y0, y1, y2, y3⟩ := HCC.out k hlt
          have hbd := H.out.okAt k hlt
          obtain ⟨⟨lo, hi, up, wt⟩, ht⟩ : ∃ t, ts.getD k tk0 = t := ⟨_, rfl⟩
          have ht' : ts.getD k ⟨0, 0, 0, 0⟩ = ⟨lo, hi, up, wt⟩ := ht
          rw [ht'] at y0 y1 y2 y3
          have hbd' : in64 lo ∧ in64 hi ∧ in64 up ∧ in64 wt := by
            have e : ts.getD k kTask.d = ⟨lo, hi, up, wt⟩ := ht
            rw [e] at hbd; exact hbd
          have HBD := Lib.hid hbd'
          have z0 := hE.cell (Lib.cell?_alloc_some _ y0)
          have z1 := hE.cell (Lib.cell?_alloc_some _ y1)
          have z2 := hE.cell (Lib.cell?_alloc_some _ y2)
          have z3 := hE.cell (Lib.cell?_alloc_some _ y3)
          simp only at z0 z1 z2 z3
          have HE := Lib.hid hE
          have HT := Lib.hid ht
          clear y0 y1 y2 y3 hbd hbd' ht' hE ht
          go_wp2_with fail
          refine (fits_any lo hi up wt k n _ HBD.out.1 HBD.out.2.1 HBD.out.2.2.1 HBD.out.2.2.2 (by omega) hn).mono ?_
          rintro e w2 ⟨he, hE2⟩
          have HE2 := Lib.hid (HE.out.trans (((Ext.refl _).alloc _).trans hE2))
          cases hto : tkOk n k ⟨lo, hi, up, wt⟩ with
          | false =>
            have H0 := Lib.hid (wOkTo_no ts n ts.length k hlt (by rw [HT.out]; exact hto))
            rw [hto] at he
            subst he
            clear hto hE2
            go_wp2_with fail
            go_ret
            exact ⟨ret_bool (by rw [HR.out, H0.out]), ((Ext.refl w).alloc _).trans HE2.out⟩
          | true =>
            have H0 : Hid (wOkTo ts n (k + 1) = true) := Lib.hid (by rw [wOkTo_succ, HOK.out, HT.out, hto]; rfl)
            rw [hto] at he
            subst he
            clear hto hE2
            go_wp2_with fail
            go_roundw
            case rel => exact ⟨k + 1, by omega, by go_num, H0.out, HE2.out⟩
            case measure => simp [intOf]; omega
        · have hk' : k = ts.length := by omega
          have HOK2 : Hid (wOkTo ts n ts.length = true) := Lib.hid (hk' ▸ HOK.out)
          have hlt' : ¬ (k : Int) < ts.length := by omega
          clear hk'
          go_wp2_with fail
          go_ret
          exact ⟨ret_bool (by rw [HR.out, HOK2.out]), ((Ext.refl w).alloc _).trans hE⟩
    · have HR : Hid (wRight ts g n = false) := Lib.hid (by
        unfold wRight; rw [sized_right, hc]
        have : (decide (1 ≤ ts.length) && decide (ts.length ≤ 2000)) = false := by simp; omega
        rw [Bool.true_and, this]; rfl)
      have hs2 : (ts.length : Int) < 1 ∨ 2000 < (ts.length : Int) := by omega
      clear hc hs
      rcases hs2 with hs2 | hs2
      all_goals
        go_enter Try.func19, Try.ntmps19
        go_wp2_with fail
        refine (sized_any _ _ _ HN.out HG.out).mono ?_
        rintro e w1 ⟨he, rfl⟩
        rw [HC.out] at he
        subst he
        go_wp2_with fail
        go_ret
        exact ⟨ret_bool HR.out.symm, (Ext.refl w).alloc _⟩

/-- may the work be, and is there an i-th task: 0, or why not -/
def askErr (ts : List Tk) (g : Int) (n : Nat) (i : Int) : Int := if wRight ts g n = false then 1 else if wHas ts.length i = false then 6 else 0
theorem askErr_ok {ts : List Tk} {g : Int} {n : Nat} {i : Int} (h1 : wRight ts g n = true) (h2 : wHas ts.length i = true) : askErr ts g n i = 0 := by unfold askErr; rw [if_neg (by rw [h1]; decide), if_neg (by rw [h2]; decide)]
theorem askErr_zero {ts : List Tk} {g : Int} {n : Nat} {i : Int} (h : askErr ts g n i = 0) : wRight ts g n = true ∧ wHas ts.length i = true := by
  unfold askErr at h
  cases h1 : wRight ts g n with
  | false => rw [if_pos h1] at h; simp at h
  | true =>
    cases h2 : wHas ts.length i with
    | false => rw [if_neg (by rw [h1]; decide), if_pos h2] at h; simp at h
    | true => exact ⟨rfl, rfl⟩

set_option maxHeartbeats 400000 in
set_option maxRecDepth 100000 in
theorem asked_any (A B : Option Addr) (c d n : Nat) (ts : List Tk) (g i : Int) (w : World) (h : Rd kTask w (.slice A ts.length c) ts) (hn : n ≤ 9223372036854775807) (hg : in64 g) (hi : in64 i) :
    Calls Try.prog 47 #[.agg #[.slice A ts.length c, .int .i64 g, .slice B n d], .int .i64 i] w fun e w' => e = .returned (.int .i64 (askErr ts g n i)) ∧ Ext w w' := by
  have H := Lib.hid h
  have hm := h.len
  have HG := Lib.hid hg
  obtain ⟨i1, i2⟩ := hi
  clear h
  go_enter Try.func47, Try.ntmps47
  go_wp2_with fail
  refine (right_any _ _ _ _ _ _ _ _ (H.out.ext ((Ext.refl w).alloc _)) hn HG.out).mono ?_
  rintro e w1 ⟨he, hE⟩
  have q0 : w1.cell? ⟨w.heap.size, 0, none⟩ = some (.slice A ts.length c) := hE.cell (by go_simp)
  have HE := Lib.hid (((Ext.refl w).alloc _).trans hE)
  clear hE
  cases hr : wRight ts g n with
  | false =>
    have HR : Hid (askErr ts g n i = 1) := Lib.hid (by unfold askErr; rw [if_pos hr])
    rw [hr] at he
    subst he
    clear hr
    go_wp2_with fail
    go_ret
    exact ⟨ret_int HR.out.symm, HE.out⟩
  | true =>
    rw [hr] at he
    subst he
    by_cases h0 : i < 0
    · have HR : Hid (askErr ts g n i = 6) := Lib.hid (by unfold askErr; rw [if_neg (by rw [hr]; decide), if_pos (by unfold wHas; simp; omega)])
      clear hr
      go_wp2_with fail
      go_ret
      exact ⟨ret_int HR.out.symm, HE.out⟩
    · by_cases h1 : i < (ts.length : Int)
      · have HR : Hid (askErr ts g n i = 0) := Lib.hid (askErr_ok hr (by unfold wHas; simp; omega))
        clear hr
        go_wp2_with fail
        go_ret
        exact ⟨ret_int HR.out.symm, HE.out⟩
      · have HR : Hid (askErr ts g n i = 6) := Lib.hid (by unfold askErr; rw [if_neg (by rw [hr]; decide), if_pos (by unfold wHas; simp; omega)])
        clear hr
        go_wp2_with fail
        go_ret
        exact ⟨ret_int HR.out.symm, HE.out⟩

theorem great_err {ts : List Tk} {g : Int} {n : Nat} {i : Int} (h : askErr ts g n i ≠ 0) : wGreat ts g n i = false := by
  unfold wGreat
  cases h1 : wRight ts g n with
  | false => rfl
  | true =>
    cases h2 : wHas ts.length i with
    | false => rfl
    | true => exact absurd (askErr_ok h1 h2) h

end Go.Proofs.Ytebbpkdhdilkcaa
