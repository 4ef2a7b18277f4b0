/- Plain words of work that is parted and done in any order: what stands, round by round. No program in it. -/
import Derived.Test.YtfigfndabokepaaTDPlain
namespace Go.Proofs.Ytfigfndabokepaa.Plain

abbrev T (ts : List Tk) (k : Nat) : Tk := ts.getD k tk0
/-- how many units a task has -/
def sz (ts : List Tk) (k : Nat) : Nat := ((T ts k).hi - (T ts k).lo).toNat
/-- is a task not finished: is it open, or does it wait? -/
def unf (O : List Nat) (ts : List Tk) (k : Nat) : Bool := decide (k ∈ O) || decide ((T ts k).wt ≠ 0)
theorem unf_iff (O : List Nat) (ts : List Tk) (k : Nat) : unf O ts k = true ↔ k ∈ O ∨ (T ts k).wt ≠ 0 := by unfold unf; simp
/-- of how many parts a task waits -/
def kids (O : List Nat) (ts : List Tk) (j : Nat) : Nat := (List.range ts.length).countP fun k => decide ((T ts k).up = (j : Int)) && unf O ts k

theorem cP_congr (p q : Nat → Bool) : ∀ (m : Nat), (∀ k, k < m → p k = q k) → (List.range m).countP p = (List.range m).countP q
  | 0, _ => rfl
  | m + 1, h => by
    rw [List.range_succ, List.countP_append, List.countP_append, cP_congr p q m (fun k hk => h k (by omega))]
    simp [h m (by omega)]
theorem cP_one (p q : Nat → Bool) (x : Nat) : ∀ (m : Nat), x < m → (∀ k, k < m → k ≠ x → p k = q k) → p x = true → q x = false → (List.range m).countP p = (List.range m).countP q + 1
  | 0, h, _, _, _ => by omega
  | m + 1, h, hk, hp, hq => by
    rw [List.range_succ, List.countP_append, List.countP_append]
    by_cases hx : x = m
    · subst hx
      rw [cP_congr p q x (fun k hk' => hk k (by omega) (by omega))]
      simp [hp, hq]
    · rw [cP_one p q x m (by omega) (fun k hk' hne => hk k (by omega) hne) hp hq]
      simp [hk m (by omega) (fun e => hx e.symm)]
      omega
theorem cP_pos (p : Nat → Bool) : ∀ (m : Nat), 0 < (List.range m).countP p → ∃ k, k < m ∧ p k = true
  | 0, h => by simp at h
  | m + 1, h => by
    rw [List.range_succ, List.countP_append] at h
    cases hp : p m with
    | true => exact ⟨m, by omega, hp⟩
    | false =>
      obtain ⟨k, hk, hpk⟩ := cP_pos p m (by simpa [hp] using h)
      exact ⟨k, by omega, hpk⟩
theorem cP_of (p : Nat → Bool) (k : Nat) : ∀ (m : Nat), k < m → p k = true → 0 < (List.range m).countP p
  | 0, h, _ => by omega
  | m + 1, h, hp => by
    rw [List.range_succ, List.countP_append]
    by_cases hk : k = m
    · subst hk; simp [hp]
    · have := cP_of p k m (by omega) hp
      omega

/-- what stands -/
structure OI (g n : Nat) (ts : List Tk) (dn : List Bool) (O : List Nat) (units : Nat) : Prop where
  ok : wOkTo ts n ts.length = true
  len : 1 ≤ ts.length
  dl : dn.length = n
  nd : O.Nodup
  lt : ∀ k ∈ O, k < ts.length
  w0 : ∀ k ∈ O, (T ts k).wt = 0
  root : (T ts 0).up = -1
  ups : ∀ k, 0 < k → k < ts.length → 0 ≤ (T ts k).up
  wts : ∀ j, j < ts.length → (T ts j).wt = (kids O ts j : Int)
  sum : (O.map fun k => cntT (sz ts k) g).sum + ts.length = cntT n g + O.length
  uns : units + (O.map (sz ts)).sum = n
  cov : ∀ u : Nat, u < n → (dn.getD u false = false ↔ ∃ k ∈ O, (T ts k).lo ≤ (u : Int) ∧ (u : Int) < (T ts k).hi)
  dis : ∀ k ∈ O, ∀ k' ∈ O, k ≠ k' → (T ts k).hi ≤ (T ts k').lo ∨ (T ts k').hi ≤ (T ts k).lo

theorem unf_perm {O O' : List Nat} (h : O.Perm O') (ts : List Tk) (k : Nat) : unf O ts k = unf O' ts k := by
  rw [Bool.eq_iff_iff, unf_iff, unf_iff, h.mem_iff]
theorem OI.perm {g n : Nat} {ts : List Tk} {dn : List Bool} {O O' : List Nat} {units : Nat} (h : OI g n ts dn O units) (hp : O.Perm O') : OI g n ts dn O' units where
  ok := h.ok
  len := h.len
  dl := h.dl
  nd := hp.nodup_iff.1 h.nd
  lt k hk := h.lt k (hp.mem_iff.2 hk)
  w0 k hk := h.w0 k (hp.mem_iff.2 hk)
  root := h.root
  ups := h.ups
  wts j hj := by rw [h.wts j hj]; unfold kids; rw [cP_congr _ _ _ (fun k _ => by rw [unf_perm hp])]
  sum := by rw [← (hp.map _).sum_nat, ← hp.length_eq]; exact h.sum
  uns := by rw [← (hp.map _).sum_nat]; exact h.uns
  cov u hu := by
    rw [h.cov u hu]
    exact ⟨fun ⟨k, hk, hr⟩ => ⟨k, hp.mem_iff.1 hk, hr⟩, fun ⟨k, hk, hr⟩ => ⟨k, hp.mem_iff.2 hk, hr⟩⟩
  dis k hk k' hk' := h.dis k (hp.mem_iff.2 hk) k' (hp.mem_iff.2 hk')

theorem OI.task {g n : Nat} {ts : List Tk} {dn : List Bool} {O : List Nat} {units : Nat} (h : OI g n ts dn O units) (k : Nat) (hk : k < ts.length) :
    0 ≤ (T ts k).lo ∧ (T ts k).lo < (T ts k).hi ∧ (T ts k).hi ≤ n ∧ -1 ≤ (T ts k).up ∧ (T ts k).up < k ∧ 0 ≤ (T ts k).wt ∧ (T ts k).wt ≤ 2 := (tkOk_iff n k _).1 (wOkTo_at ts n ts.length h.ok k hk)

/-- the beginning -/
theorem OI.begin (g n : Nat) (h1 : 1 ≤ n) : OI g n [⟨0, n, -1, 0⟩] (List.replicate n false) [0] 0 where
  ok := by
    rw [List.length_singleton, wOkTo_succ, wOkTo_zero, Bool.true_and, tkOk_iff]
    simp; omega
  len := by simp
  dl := by simp
  nd := by simp
  lt := by simp
  w0 := by simp
  root := rfl
  ups := by intro k h0 hk; simp at hk; omega
  wts := by
    intro j hj
    obtain rfl : j = 0 := by simpa using hj
    simp [kids, List.range_succ]
  sum := by simp [sz]
  uns := by simp [sz]
  cov := by
    intro u hu
    have e : (List.replicate n false).getD u false = false := by
      rw [List.getD_eq_getElem?_getD, List.getElem?_replicate]
      split <;> rfl
    rw [e]
    refine ⟨fun _ => ⟨0, by simp, ?_, ?_⟩, fun _ => rfl⟩
    · show (0 : Int) ≤ u; omega
    · show (u : Int) < n; omega
  dis := by
    intro k hk k' hk' hne
    simp at hk hk'
    omega

theorem cntT_pos (n g : Nat) (hg : 1 ≤ g) (h1 : 1 ≤ n) : 1 ≤ cntT n g := by
  have := cnt_bd g hg n n (Nat.le_refl _) h1
  omega
theorem sum_le (f : Nat → Nat) : ∀ (O : List Nat), (∀ k ∈ O, 1 ≤ f k) → O.length ≤ (O.map f).sum
  | [], _ => by simp
  | a :: O, h => by
    have := sum_le f O (fun k hk => h k (by simp [hk]))
    have := h a (by simp)
    simp; omega
theorem OI.szpos {g n : Nat} {ts : List Tk} {dn : List Bool} {O : List Nat} {units : Nat} (h : OI g n ts dn O units) (k : Nat) (hk : k ∈ O) : 1 ≤ sz ts k ∧ sz ts k ≤ n ∧ ((T ts k).hi - (T ts k).lo) = sz ts k := by
  have := h.task k (h.lt k hk)
  unfold sz
  omega
/-- there are never more tasks than there will be -/
theorem OI.few {g n : Nat} {ts : List Tk} {dn : List Bool} {O : List Nat} {units : Nat} (h : OI g n ts dn O units) (hg : 1 ≤ g) (h1 : 1 ≤ n) : ts.length ≤ cntT n g ∧ cntT n g ≤ 2 * n - 1 := by
  have := sum_le (fun k => cntT (sz ts k) g) O (fun k hk => cntT_pos _ _ hg (h.szpos k hk).1)
  have := h.sum
  have := cnt_bd g hg n n (Nat.le_refl _) h1
  omega
theorem OI.right {g n : Nat} {ts : List Tk} {dn : List Bool} {O : List Nat} {units : Nat} (h : OI g n ts dn O units) (hg : 1 ≤ g) (hg2 : g ≤ 100) (h1 : 1 ≤ n) (h2 : n ≤ 120) : wRight ts g n = true := by
  unfold wRight
  rw [h.ok, Bool.and_true, wSized_iff]
  have := h.few hg h1
  have := h.len
  omega
theorem OI.greatB {g n : Nat} {ts : List Tk} {dn : List Bool} {O : List Nat} {units : Nat} (h : OI g n ts dn O units) (hg : 1 ≤ g) (hg2 : g ≤ 100) (h1 : 1 ≤ n) (h2 : n ≤ 120) (k : Nat) (hk : k ∈ O) : wGreat ts g n k = decide (g < sz ts k) := by
  have hl := h.lt k hk
  unfold wGreat
  rw [h.right hg hg2 h1 h2]
  have hh : wHas ts.length (k : Int) = true := by unfold wHas; simp; omega
  rw [hh]
  have e : tkAt ts (k : Int) = T ts k := by unfold tkAt; rw [Int.toNat_natCast]
  rw [e, (h.szpos k hk).2.2]
  rw [Bool.true_and, Bool.eq_iff_iff]
  simp

/-- the tasks, the k-th of them parted -/
def partedL (ts : List Tk) (k : Nat) : List Tk :=
  ts.set k ⟨(T ts k).lo, (T ts k).hi, (T ts k).up, 2⟩ ++ [⟨(T ts k).lo, (T ts k).lo + ((T ts k).hi - (T ts k).lo) / 2, k, 0⟩, ⟨(T ts k).lo + ((T ts k).hi - (T ts k).lo) / 2, (T ts k).hi, k, 0⟩]
theorem partedL_len (ts : List Tk) (k : Nat) : (partedL ts k).length = ts.length + 2 := by unfold partedL; simp
theorem parted_at (ts : List Tk) (k : Nat) (hk : k < ts.length) (j : Nat) : T (partedL ts k) j = if j = k then ⟨(T ts k).lo, (T ts k).hi, (T ts k).up, 2⟩ else if j < ts.length then T ts j
    else if j = ts.length then ⟨(T ts k).lo, (T ts k).lo + ((T ts k).hi - (T ts k).lo) / 2, k, 0⟩ else if j = ts.length + 1 then ⟨(T ts k).lo + ((T ts k).hi - (T ts k).lo) / 2, (T ts k).hi, k, 0⟩ else tk0 := by
  unfold partedL T
  simp only [List.getD_eq_getElem?_getD]
  by_cases h1 : j < ts.length
  · rw [List.getElem?_append_left (by simpa using h1)]
    by_cases h2 : j = k
    · subst h2
      rw [if_pos rfl, List.getElem?_set_self hk]; rfl
    · rw [if_neg h2, if_pos h1, List.getElem?_set_ne (fun e => h2 e.symm)]
  · rw [List.getElem?_append_right (by simp; omega), if_neg (by omega), if_neg h1]
    simp only [List.length_set]
    by_cases h3 : j = ts.length
    · subst h3; simp
    · rw [if_neg h3]
      by_cases h4 : j = ts.length + 1
      · subst h4; simp
      · rw [if_neg h4]
        rw [List.getElem?_eq_none (by simp; omega)]; rfl

theorem OI.parted {g n : Nat} {ts : List Tk} {dn : List Bool} {R : List Nat} {units k : Nat} (h : OI g n ts dn (k :: R) units) (hg : 1 ≤ g) (hs : g < sz ts k) : OI g n (partedL ts k) dn (R ++ [ts.length, ts.length + 1]) units := by
  have hk : k < ts.length := h.lt k (by simp)
  have hkR : k ∉ R := (List.nodup_cons.1 h.nd).1
  have hR : ∀ j ∈ R, j < ts.length ∧ j ≠ k := fun j hj => ⟨h.lt j (by simp [hj]), fun e => hkR (e ▸ hj)⟩
  obtain ⟨t1, t2, t3, t4, t5, t6, t7⟩ := h.task k hk
  have hsz := h.szpos k (by simp)
  have hl := partedL_len ts k
  have at0 : ∀ j, j < ts.length → j ≠ k → T (partedL ts k) j = T ts j := fun j hj hne => by rw [parted_at ts k hk, if_neg hne, if_pos hj]
  have atk : T (partedL ts k) k = ⟨(T ts k).lo, (T ts k).hi, (T ts k).up, 2⟩ := by rw [parted_at ts k hk, if_pos rfl]
  have ata : T (partedL ts k) ts.length = ⟨(T ts k).lo, (T ts k).lo + ((T ts k).hi - (T ts k).lo) / 2, k, 0⟩ := by rw [parted_at ts k hk, if_neg (by omega), if_neg (by omega), if_pos rfl]
  have atb : T (partedL ts k) (ts.length + 1) = ⟨(T ts k).lo + ((T ts k).hi - (T ts k).lo) / 2, (T ts k).hi, k, 0⟩ := by rw [parted_at ts k hk, if_neg (by omega), if_neg (by omega), if_neg (by omega), if_pos rfl]
  have sza : sz (partedL ts k) ts.length = sz ts k / 2 := by unfold sz at hsz ⊢; rw [ata]; simp only; omega
  have szb : sz (partedL ts k) (ts.length + 1) = sz ts k - sz ts k / 2 := by unfold sz at hsz ⊢; rw [atb]; simp only; omega
  have szR : ∀ j ∈ R, sz (partedL ts k) j = sz ts j := fun j hj => by unfold sz; rw [at0 j (hR j hj).1 (hR j hj).2]
  have mapR : ∀ f : Nat → Nat, (R.map fun j => f (sz (partedL ts k) j)) = R.map fun j => f (sz ts j) := fun f => List.map_congr_left fun j hj => by rw [szR j hj]
  have unfOld : ∀ j, j < ts.length → unf (R ++ [ts.length, ts.length + 1]) (partedL ts k) j = unf (k :: R) ts j := by
    intro j hj
    rw [Bool.eq_iff_iff, unf_iff, unf_iff]
    by_cases e : j = k
    · subst e
      rw [atk]
      constructor
      · intro _; left; simp
      · intro _; right; show (2 : Int) ≠ 0; decide
    · rw [at0 j hj e]
      simp only [List.mem_append, List.mem_cons, List.not_mem_nil, or_false]
      constructor
      · rintro ((h1 | h1 | h1) | h1)
        · exact .inl (.inr h1)
        · omega
        · omega
        · exact .inr h1
      · rintro ((h1 | h1) | h1)
        · exact absurd h1 e
        · exact .inl (.inl h1)
        · exact .inr h1
  have upOld : ∀ j, j < ts.length → (T (partedL ts k) j).up = (T ts j).up := by
    intro j hj
    by_cases e : j = k
    · subst e; rw [atk]
    · rw [at0 j hj e]
  have kidsEq : ∀ j, j < ts.length → kids (R ++ [ts.length, ts.length + 1]) (partedL ts k) j = kids (k :: R) ts j + if j = k then 2 else 0 := by
    intro j hj
    unfold kids
    rw [hl, show ts.length + 2 = (ts.length + 1) + 1 by omega, List.range_succ, List.range_succ, List.countP_append, List.countP_append]
    rw [cP_congr _ (fun i => decide ((T ts i).up = (j : Int)) && unf (k :: R) ts i) ts.length (fun i hi => by rw [unfOld i hi, upOld i hi])]
    have ua : unf (R ++ [ts.length, ts.length + 1]) (partedL ts k) ts.length = true := by rw [unf_iff]; left; simp
    have ub : unf (R ++ [ts.length, ts.length + 1]) (partedL ts k) (ts.length + 1) = true := by rw [unf_iff]; left; simp
    simp only [List.countP_singleton, ua, ub, ata, atb, Bool.and_true]
    by_cases e : j = k
    · subst e; simp
    · rw [if_neg e]
      have : ¬ ((k : Int) = (j : Int)) := by omega
      simp [this]
  refine ⟨?_, by rw [hl]; omega, h.dl, ?_, ?_, ?_, ?_, ?_, ?_, ?_, ?_, ?_, ?_⟩
  · -- ok
    rw [hl]
    unfold wOkTo
    rw [List.all_eq_true]
    intro i hi
    have hi' := List.mem_range.1 hi
    show tkOk n i (T (partedL ts k) i) = true
    rw [tkOk_iff]
    by_cases e1 : i < ts.length
    · obtain ⟨p1, p2, p3, p4, p5, p6, p7⟩ := h.task i e1
      by_cases e2 : i = k
      · subst e2; rw [atk]; simp only; omega
      · rw [at0 i e1 e2]; omega
    · by_cases e3 : i = ts.length
      · subst e3; rw [ata]; simp only; omega
      · have e4 : i = ts.length + 1 := by omega
        subst e4; rw [atb]; simp only; omega
  · -- nodup
    rw [List.nodup_append]
    refine ⟨(List.nodup_cons.1 h.nd).2, by simp, ?_⟩
    intro a ha b hb
    have := (hR a ha).1
    simp at hb
    omega
  · intro j hj
    rw [hl]
    simp only [List.mem_append, List.mem_cons, List.not_mem_nil, or_false] at hj
    rcases hj with hj | rfl | rfl
    · have := (hR j hj).1; omega
    · omega
    · omega
  · intro j hj
    simp only [List.mem_append, List.mem_cons, List.not_mem_nil, or_false] at hj
    rcases hj with hj | rfl | rfl
    · rw [at0 j (hR j hj).1 (hR j hj).2]; exact h.w0 j (by simp [hj])
    · rw [ata]
    · rw [atb]
  · have := upOld 0 (by omega)
    rw [this]; exact h.root
  · intro j h0 hj
    rw [hl] at hj
    by_cases e1 : j < ts.length
    · rw [upOld j e1]; exact h.ups j h0 e1
    · by_cases e3 : j = ts.length
      · subst e3; rw [ata]; simp only; omega
      · have e4 : j = ts.length + 1 := by omega
        subst e4; rw [atb]; simp only; omega
  · intro j hj
    rw [hl] at hj
    by_cases e1 : j < ts.length
    · rw [kidsEq j e1]
      have hw := h.wts j e1
      by_cases e2 : j = k
      · subst e2
        have := h.w0 j (by simp)
        rw [atk, if_pos rfl]; simp only; omega
      · rw [at0 j e1 e2, if_neg e2]; omega
    · have hz : kids (R ++ [ts.length, ts.length + 1]) (partedL ts k) j = 0 := by
        rcases Nat.eq_zero_or_pos (kids (R ++ [ts.length, ts.length + 1]) (partedL ts k) j) with hz | hz
        · exact hz
        · obtain ⟨i, hi, hp⟩ := cP_pos _ _ hz
          rw [hl] at hi
          simp only [Bool.and_eq_true, decide_eq_true_eq] at hp
          obtain ⟨hp, _⟩ := hp
          exfalso
          by_cases e3 : i < ts.length
          · rw [upOld i e3] at hp
            have := h.task i e3
            omega
          · by_cases e4 : i = ts.length
            · subst e4; rw [ata] at hp; simp only at hp; omega
            · have e5 : i = ts.length + 1 := by omega
              subst e5; rw [atb] at hp; simp only at hp; omega
      rw [hz]
      by_cases e3 : j = ts.length
      · subst e3; rw [ata]; rfl
      · have e4 : j = ts.length + 1 := by omega
        subst e4; rw [atb]; rfl
  · have hs' := h.sum
    have hc := (cnt_more (sz ts k) g hg hs).1
    rw [List.map_append, List.sum_append, mapR (fun x => cntT x g), hl]
    simp only [List.map_cons, List.map_nil, List.sum_cons, List.sum_nil, List.length_append, List.length_cons, List.length_nil, sza, szb] at hs' ⊢
    omega
  · have hs' := h.uns
    rw [List.map_append, List.sum_append, show R.map (sz (partedL ts k)) = R.map (sz ts) from List.map_congr_left fun j hj => szR j hj]
    simp only [List.map_cons, List.map_nil, List.sum_cons, List.sum_nil, sza, szb] at hs' ⊢
    omega
  · intro u hu
    rw [h.cov u hu]
    constructor
    · rintro ⟨j, hj, r1, r2⟩
      simp only [List.mem_cons] at hj
      rcases hj with rfl | hj
      · by_cases hm : (u : Int) < (T ts j).lo + ((T ts j).hi - (T ts j).lo) / 2
        · exact ⟨ts.length, by simp, by rw [ata]; exact r1, by rw [ata]; exact hm⟩
        · exact ⟨ts.length + 1, by simp, by rw [atb]; simp only; omega, by rw [atb]; exact r2⟩
      · exact ⟨j, by simp [hj], by rw [at0 j (hR j hj).1 (hR j hj).2]; exact r1, by rw [at0 j (hR j hj).1 (hR j hj).2]; exact r2⟩
    · rintro ⟨j, hj, r1, r2⟩
      simp only [List.mem_append, List.mem_cons, List.not_mem_nil, or_false] at hj
      rcases hj with hj | rfl | rfl
      · rw [at0 j (hR j hj).1 (hR j hj).2] at r1 r2
        exact ⟨j, by simp [hj], r1, r2⟩
      · rw [ata] at r1 r2
        simp only at r1 r2
        exact ⟨k, by simp, by omega, by omega⟩
      · rw [atb] at r1 r2
        simp only at r1 r2
        exact ⟨k, by simp, by omega, by omega⟩
  · -- disjoint
    have key : ∀ j ∈ R, ∀ a : Nat, (a = ts.length ∨ a = ts.length + 1) → (T (partedL ts k) j).hi ≤ (T (partedL ts k) a).lo ∨ (T (partedL ts k) a).hi ≤ (T (partedL ts k) j).lo := by
      intro j hj a ha
      have hd := h.dis j (by simp [hj]) k (by simp) (hR j hj).2
      rw [at0 j (hR j hj).1 (hR j hj).2]
      rcases ha with rfl | rfl
      · rw [ata]; simp only; omega
      · rw [atb]; simp only; omega
    intro a ha b hb hne
    simp only [List.mem_append, List.mem_cons, List.not_mem_nil, or_false] at ha hb
    rcases ha with ha | ha
    · rcases hb with hb | hb
      · rw [at0 a (hR a ha).1 (hR a ha).2, at0 b (hR b hb).1 (hR b hb).2]
        exact h.dis a (by simp [ha]) b (by simp [hb]) hne
      · exact key a ha b hb
    · rcases hb with hb | hb
      · exact (key b hb a ha).symm
      · rcases ha with rfl | rfl <;> rcases hb with rfl | rfl
        · exact absurd rfl hne
        · rw [ata, atb]; simp only; omega
        · rw [ata, atb]; simp only; omega
        · exact absurd rfl hne

/-- while it is told upwards: 'up' waits for one more than there are -/
structure CI (n : Nat) (ts : List Tk) (O : List Nat) (up : Int) : Prop where
  ok : wOkTo ts n ts.length = true
  len : 1 ≤ ts.length
  lt : ∀ k ∈ O, k < ts.length
  w0 : ∀ k ∈ O, (T ts k).wt = 0
  root : (T ts 0).up = -1
  ups : ∀ k, 0 < k → k < ts.length → 0 ≤ (T ts k).up
  wts : ∀ j, j < ts.length → (T ts j).wt = (kids O ts j : Int) + if (j : Int) = up then 1 else 0
  lo : -1 ≤ up
  hi : up < ts.length
  fin : up = -1 → unf O ts 0 = false

/-- all else as it was -/
def SameBut (ts us : List Tk) : Prop := us.length = ts.length ∧ ∀ k, (T us k).lo = (T ts k).lo ∧ (T us k).hi = (T ts k).hi ∧ (T us k).up = (T ts k).up
theorem SameBut.refl (ts : List Tk) : SameBut ts ts := ⟨rfl, fun _ => ⟨rfl, rfl, rfl⟩⟩
theorem SameBut.trans {a b c : List Tk} (h : SameBut a b) (k : SameBut b c) : SameBut a c := ⟨k.1.trans h.1, fun i => ⟨(k.2 i).1.trans (h.2 i).1, (k.2 i).2.1.trans (h.2 i).2.1, (k.2 i).2.2.trans (h.2 i).2.2⟩⟩
theorem wless_same (ts : List Tk) (j : Nat) (hj : j < ts.length) : SameBut ts (wless ts j) := ⟨wless_len ts j, fun k => by
  unfold T
  rw [wless_at ts j k hj]
  by_cases e : k = j
  · subst e; rw [if_pos rfl]; exact ⟨rfl, rfl, rfl⟩
  · rw [if_neg e]; exact ⟨rfl, rfl, rfl⟩⟩

theorem climb_same : ∀ (f : Nat) (ts : List Tk) (up : Int), SameBut ts (climb f ts up).1
  | 0, ts, _ => SameBut.refl ts
  | f + 1, ts, up => by
    have hs : SameBut ts (wless ts up.toNat) := by
      by_cases hj : up.toNat < ts.length
      · exact wless_same ts _ hj
      · have e : wless ts up.toNat = ts := by unfold wless; exact List.set_eq_of_length_le (by omega)
        rw [e]; exact SameBut.refl ts
    unfold climb
    split
    · exact SameBut.refl ts
    · split
      · exact SameBut.refl ts
      · split
        · exact hs
        · exact hs.trans (climb_same f _ _)

theorem CI.task {n : Nat} {ts : List Tk} {O : List Nat} {up : Int} (h : CI n ts O up) (k : Nat) (hk : k < ts.length) :
    0 ≤ (T ts k).lo ∧ (T ts k).lo < (T ts k).hi ∧ (T ts k).hi ≤ n ∧ -1 ≤ (T ts k).up ∧ (T ts k).up < k ∧ 0 ≤ (T ts k).wt ∧ (T ts k).wt ≤ 2 := (tkOk_iff n k _).1 (wOkTo_at ts n ts.length h.ok k hk)

/-- what comes of it: all wait for as many as there are; it ends, just if nothing is unfinished -/
structure CE (n : Nat) (ts us : List Tk) (O : List Nat) (q : Bool) : Prop where
  same : SameBut ts us
  ok : wOkTo us n us.length = true
  w0 : ∀ k ∈ O, (T us k).wt = 0
  wts : ∀ j, j < us.length → (T us j).wt = (kids O us j : Int)
  yes : q = true → unf O us 0 = false
  no : q = false → ∃ j, j < us.length ∧ unf O us j = true

theorem climb_ends (n : Nat) : ∀ (f : Nat) (ts : List Tk) (O : List Nat) (up : Int), CI n ts O up → up < f → CE n ts (climb (f + 1) ts up).1 O (climb (f + 1) ts up).2
  | f, ts, O, up, h, hf => by
    by_cases hu : up = -1
    · subst hu
      have e : climb (f + 1) ts (-1) = (ts, true) := by simp [climb]
      rw [e]
      refine ⟨SameBut.refl _, h.ok, h.w0, fun j hj => ?_, fun _ => h.fin rfl, fun hq => by cases hq⟩
      show (T ts j).wt = (kids O ts j : Int)
      have hj2 : j < ts.length := hj
      rw [h.wts j hj2, if_neg (by omega)]; omega
    · obtain ⟨j, rfl⟩ : ∃ j : Nat, up = j := ⟨up.toNat, by have := h.lo; omega⟩
      have hj : j < ts.length := by have := h.hi; omega
      obtain ⟨t1, t2, t3, t4, t5, t6, t7⟩ := h.task j hj
      have hw := h.wts j hj
      rw [if_pos rfl] at hw
      have hjO : j ∉ O := fun hh => by have := h.w0 j hh; omega
      have e0 : tkAt ts (j : Int) = T ts j := by unfold tkAt; rw [Int.toNat_natCast]
      have hl := wless_len ts j
      have hs := wless_same ts j hj
      have atj : T (wless ts j) j = ⟨(T ts j).lo, (T ts j).hi, (T ts j).up, (T ts j).wt - 1⟩ := by unfold T; rw [wless_at ts j j hj, if_pos rfl]
      have atn : ∀ k, k ≠ j → T (wless ts j) k = T ts k := fun k hk => by unfold T; rw [wless_at ts j k hj, if_neg hk]
      have hok' : wOkTo (wless ts j) n (wless ts j).length = true := by rw [hl]; exact wless_ok ts n j _ hj h.ok hj (by show (T ts j).wt ≠ 0; omega)
      have hw0' : ∀ k ∈ O, (T (wless ts j) k).wt = 0 := fun k hk => by rw [atn k (fun e => hjO (e ▸ hk))]; exact h.w0 k hk
      have unfN : ∀ k, k ≠ j → unf O (wless ts j) k = unf O ts k := fun k hk => by rw [Bool.eq_iff_iff, unf_iff, unf_iff, atn k hk]
      have unfJ : unf O ts j = true := by rw [unf_iff]; right; omega
      rw [climb, if_neg hu, e0, if_neg (by omega), Int.toNat_natCast]
      by_cases hq : 0 < (T ts j).wt - 1
      · rw [if_pos hq]
        have unfJ' : unf O (wless ts j) j = true := by rw [unf_iff]; right; rw [atj]; simp only; omega
        have unfA : ∀ k, unf O (wless ts j) k = unf O ts k := fun k => by
          by_cases e : k = j
          · subst e; rw [unfJ, unfJ']
          · exact unfN k e
        have kidsA : ∀ i, kids O (wless ts j) i = kids O ts i := fun i => by
          unfold kids
          rw [hl]
          exact cP_congr _ _ _ fun k _ => by rw [unfA, (hs.2 k).2.2]
        refine ⟨hs, hok', hw0', fun i hi => ?_, (fun hh => by cases hh), fun _ => ⟨j, by rw [hl]; exact hj, unfJ'⟩⟩
        rw [hl] at hi
        rw [kidsA]
        have := h.wts i hi
        by_cases e : i = j
        · subst e; rw [atj]; simp only; omega
        · rw [atn i e]; rw [if_neg (by omega)] at this; omega
      · rw [if_neg hq]
        have unfJ' : unf O (wless ts j) j = false := by
          rw [Bool.eq_false_iff]; intro hh
          rw [unf_iff, atj] at hh
          simp only at hh
          rcases hh with hh | hh
          · exact hjO hh
          · omega
        have kidsA : ∀ i, i < ts.length → kids O ts i = kids O (wless ts j) i + if (i : Int) = (T ts j).up then 1 else 0 := fun i hi => by
          unfold kids
          rw [hl]
          by_cases e : (i : Int) = (T ts j).up
          · rw [if_pos e]
            refine cP_one _ _ j _ hj (fun k hk hne => by rw [unfN k hne, (hs.2 k).2.2]) ?_ ?_
            · rw [unfJ, ← e]; simp
            · rw [unfJ', Bool.and_false]
          · rw [if_neg e, Nat.add_zero]
            refine cP_congr _ _ _ fun k _ => ?_
            by_cases e2 : k = j
            · subst e2
              have e3 : decide ((T ts k).up = (i : Int)) = false := decide_eq_false (by omega)
              have e4 : decide ((T (wless ts k) k).up = (i : Int)) = false := by rw [(hs.2 k).2.2]; exact e3
              rw [e3, e4]; rfl
            · rw [unfN k e2, (hs.2 k).2.2]
        obtain ⟨f', rfl⟩ : ∃ x, f = x + 1 := ⟨f - 1, by omega⟩
        have hci : CI n (wless ts j) O (T ts j).up := by
          refine ⟨hok', by rw [hl]; exact h.len, fun k hk => by rw [hl]; exact h.lt k hk, hw0', by rw [(hs.2 0).2.2]; exact h.root, fun k h0 hk => by rw [(hs.2 k).2.2]; rw [hl] at hk; exact h.ups k h0 hk, fun i hi => ?_, t4, by rw [hl]; omega, fun e => ?_⟩
          · rw [hl] at hi
            have hk := kidsA i hi
            have hwi := h.wts i hi
            by_cases e : i = j
            · subst e
              rw [atj]
              simp only
              split at hk <;> rename_i hh
              · omega
              · rw [if_neg hh]; omega
            · rw [atn i e]
              rw [if_neg (by omega)] at hwi
              split at hk <;> rename_i hh
              · rw [if_pos hh]; omega
              · rw [if_neg hh]; omega
          · have hj0 : j = 0 := by
              rcases Nat.eq_zero_or_pos j with h0 | h0
              · exact h0
              · have := h.ups j h0 hj; omega
            subst hj0
            exact unfJ'
        have ih := climb_ends n f' (wless ts j) O (T ts j).up hci (by omega)
        exact ⟨hs.trans ih.same, ih.ok, ih.w0, ih.wts, ih.yes, ih.no⟩

/-- nothing is unfinished, where the first one is finished -/
theorem all_fin {n : Nat} {us : List Tk} {O : List Nat} (hok : wOkTo us n us.length = true) (hl : ∀ k ∈ O, k < us.length) (hups : ∀ k, 0 < k → k < us.length → 0 ≤ (T us k).up) (hw : ∀ j, j < us.length → (T us j).wt = (kids O us j : Int)) (h0 : unf O us 0 = false) :
    ∀ (m k : Nat), k < m → k < us.length → unf O us k = false
  | 0, k, h, _ => by omega
  | m + 1, k, h, hk => by
    by_cases hk0 : k = 0
    · subst hk0; exact h0
    · rw [Bool.eq_false_iff]
      intro hu
      have hup := hups k (by omega) hk
      obtain ⟨_, _, _, _, t5, _, _⟩ := (tkOk_iff n k _).1 (wOkTo_at us n us.length hok k hk)
      obtain ⟨j, hj⟩ : ∃ j : Nat, (T us k).up = j := ⟨(T us k).up.toNat, by omega⟩
      have hjk : j < k := by have : (T us k).up < k := t5; omega
      have ih := all_fin hok hl hups hw h0 m j (by omega) (by omega)
      have hp : 0 < kids O us j := cP_of _ k _ hk (by rw [hu, hj]; simp)
      have := hw j (by omega)
      rw [Bool.eq_false_iff] at ih
      exact ih ((unf_iff _ _ _).2 (.inr (by omega)))
/-- where something is unfinished, something is open -/
theorem some_open {n : Nat} {us : List Tk} {O : List Nat} (hok : wOkTo us n us.length = true) (hw : ∀ j, j < us.length → (T us j).wt = (kids O us j : Int)) :
    ∀ (m j : Nat), us.length - j ≤ m → j < us.length → unf O us j = true → O ≠ []
  | 0, j, h, hj, _ => by omega
  | m + 1, j, h, hj, hu => by
    rcases (unf_iff _ _ _).1 hu with hO | hwt
    · intro e; rw [e] at hO; cases hO
    · have := hw j hj
      obtain ⟨k, hk, hp⟩ := cP_pos _ _ (by show 0 < kids O us j; omega)
      simp only [Bool.and_eq_true, decide_eq_true_eq] at hp
      obtain ⟨_, _, _, _, t5, _, _⟩ := (tkOk_iff n k _).1 (wOkTo_at us n us.length hok k hk)
      have : (T us k).up < k := t5
      exact some_open hok hw m k (by omega) hk hp.2

/-- a task is done -/
theorem OI.did {g n : Nat} {ts : List Tk} {dn : List Bool} {R : List Nat} {units k : Nat} (h : OI g n ts dn (k :: R) units) (hg : 1 ≤ g) (hs : ¬ g < sz ts k) :
    OI g n (climb (ts.length + 1) ts (T ts k).up).1 (marked dn (T ts k).lo.toNat (T ts k).hi.toNat) R (units + sz ts k) ∧ (climb (ts.length + 1) ts (T ts k).up).2 = decide (R = []) := by
  have hk : k < ts.length := h.lt k (by simp)
  have hkR : k ∉ R := (List.nodup_cons.1 h.nd).1
  have hkw := h.w0 k (by simp)
  obtain ⟨t1, t2, t3, t4, t5, t6, t7⟩ := h.task k hk
  have hsz := h.szpos k (by simp)
  have unfK : unf (k :: R) ts k = true := by rw [unf_iff]; left; simp
  have unfK' : unf R ts k = false := by
    rw [Bool.eq_false_iff]; intro hh
    rcases (unf_iff _ _ _).1 hh with hh | hh
    · exact hkR hh
    · exact hh hkw
  have unfN : ∀ j, j ≠ k → unf R ts j = unf (k :: R) ts j := fun j hj => by
    rw [Bool.eq_iff_iff, unf_iff, unf_iff]
    simp [hj]
  have hci : CI n ts R (T ts k).up := by
    refine ⟨h.ok, h.len, fun j hj => h.lt j (by simp [hj]), fun j hj => h.w0 j (by simp [hj]), h.root, h.ups, fun j hj => ?_, t4, by omega, fun e => ?_⟩
    · rw [h.wts j hj]
      unfold kids
      by_cases e : (j : Int) = (T ts k).up
      · rw [if_pos e, cP_one _ (fun i => decide ((T ts i).up = (j : Int)) && unf R ts i) k _ hk (fun i _ hne => by rw [unfN i hne]) (by rw [unfK, ← e]; simp) (by rw [unfK', Bool.and_false])]
        omega
      · rw [if_neg e, cP_congr _ (fun i => decide ((T ts i).up = (j : Int)) && unf R ts i) _ (fun i _ => ?_)]
        · omega
        · by_cases e2 : i = k
          · subst e2
            have e3 : decide ((T ts i).up = (j : Int)) = false := decide_eq_false (by omega)
            rw [e3]; rfl
          · rw [unfN i e2]
    · have hk0 : k = 0 := by
        rcases Nat.eq_zero_or_pos k with h0 | h0
        · exact h0
        · have := h.ups k h0 hk; omega
      subst hk0
      exact unfK'
  have hce := climb_ends n ts.length ts R (T ts k).up hci (by omega)
  obtain ⟨us, q, hq⟩ : ∃ us q, climb (ts.length + 1) ts (T ts k).up = (us, q) := ⟨_, _, rfl⟩
  rw [hq] at hce ⊢
  obtain ⟨⟨hl, hsame⟩, hok, hw0, hwts, hyes, hno⟩ : CE n ts us R q := hce
  have hltR : ∀ j ∈ R, j < us.length := fun j hj => by rw [hl]; exact h.lt j (by simp [hj])
  have hups : ∀ j, 0 < j → j < us.length → 0 ≤ (T us j).up := fun j h0 hj => by rw [(hsame j).2.2]; rw [hl] at hj; exact h.ups j h0 hj
  have szE : ∀ j, sz us j = sz ts j := fun j => by unfold sz; rw [(hsame j).1, (hsame j).2.1]
  have hlo : (T ts k).lo.toNat ≤ (T ts k).hi.toNat := by omega
  have hhi : (T ts k).hi.toNat ≤ dn.length := by rw [h.dl]; omega
  refine ⟨⟨hok, by rw [hl]; exact h.len, by rw [marked_len dn _ _ hlo hhi]; exact h.dl, (List.nodup_cons.1 h.nd).2, hltR, hw0, by rw [(hsame 0).2.2]; exact h.root, hups, hwts, ?_, ?_, ?_, ?_⟩, ?_⟩
  · have hs' := h.sum
    have hc := (cnt_one (sz ts k) g (by omega)).1
    rw [hl]
    rw [show (R.map fun j => cntT (sz us j) g) = R.map fun j => cntT (sz ts j) g from List.map_congr_left fun j _ => by rw [szE]]
    simp only [List.map_cons, List.sum_cons, List.length_cons] at hs'
    omega
  · have hs' := h.uns
    rw [show R.map (sz us) = R.map (sz ts) from List.map_congr_left fun j _ => szE j]
    simp only [List.map_cons, List.sum_cons] at hs'
    omega
  · intro u hu
    rw [marked_getD dn _ _ hlo hhi]
    by_cases hin : (T ts k).lo.toNat ≤ u ∧ u < (T ts k).hi.toNat
    · rw [if_pos hin]
      constructor
      · intro hh; cases hh
      · rintro ⟨j, hj, r1, r2⟩
        rw [(hsame j).1] at r1
        rw [(hsame j).2.1] at r2
        have := h.dis k (by simp) j (by simp [hj]) (fun e => hkR (e ▸ hj))
        omega
    · rw [if_neg hin, h.cov u hu]
      constructor
      · rintro ⟨j, hj, r1, r2⟩
        simp only [List.mem_cons] at hj
        rcases hj with rfl | hj
        · exfalso; omega
        · exact ⟨j, hj, by rw [(hsame j).1]; exact r1, by rw [(hsame j).2.1]; exact r2⟩
      · rintro ⟨j, hj, r1, r2⟩
        exact ⟨j, by simp [hj], by rw [(hsame j).1] at r1; exact r1, by rw [(hsame j).2.1] at r2; exact r2⟩
  · intro a ha b hb hne
    rw [(hsame a).1, (hsame a).2.1, (hsame b).1, (hsame b).2.1]
    exact h.dis a (by simp [ha]) b (by simp [hb]) hne
  · cases q with
    | true =>
      have hall := all_fin hok hltR hups hwts (hyes rfl)
      symm
      rw [decide_eq_true_eq]
      cases R with
      | nil => rfl
      | cons a R' =>
        have := hall (a + 1) a (by omega) (hltR a (by simp))
        rw [Bool.eq_false_iff] at this
        exact absurd ((unf_iff _ _ _).2 (.inl (by simp))) this
    | false =>
      obtain ⟨j, hj, hu⟩ := hno rfl
      have := some_open hok hwts us.length j (by omega) hj hu
      symm
      rw [decide_eq_false_iff_not]
      exact this

/-- the end -/
theorem OI.over {g n : Nat} {ts : List Tk} {dn : List Bool} {units : Nat} (h : OI g n ts dn [] units) : units = n ∧ ts.length = cntT n g ∧ (∀ u, u < n → dn.getD u false = true) ∧ ∀ k, k < ts.length → (T ts k).wt = 0 := by
  refine ⟨by simpa using h.uns, by simpa using h.sum, fun u hu => ?_, fun k hk => ?_⟩
  · cases hd : dn.getD u false with
    | true => rfl
    | false =>
      obtain ⟨k, hk, _⟩ := (h.cov u hu).1 hd
      cases hk
  · by_cases hw : (T ts k).wt = 0
    · exact hw
    · exact absurd rfl (some_open h.ok h.wts ts.length k (by omega) hk ((unf_iff _ _ _).2 (.inr hw)))
end Go.Proofs.Ytfigfndabokepaa.Plain
