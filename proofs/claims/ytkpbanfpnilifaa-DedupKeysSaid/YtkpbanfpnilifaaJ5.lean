/- Joined by wip/merge.py: R11U, R11C, R10T, R10Q, S8C, S8L, R10C, R10E, RoundR, S8I, S8K, S8D, S8E, D6A. -/
import Derived.Test.YtkpbanfpnilifaaJ4
import Derived.Laws.BitsAllLaws
import Derived.StillTailTactics
import Derived.RangeFuncNested
import Derived.RangeFuncBound
import Derived.RangeFuncCalls
import Derived.RangeFuncLeaves
import Derived.OwnWalkIn
import Derived.TacticsInMore
import Derived.LoopNIn
import Derived.LoopIn
import Derived.OrdersIn
import Derived.Shelf.Abstract
import Derived.Laws.EntriesVeiled
import Derived.BigRegion
import Derived.Deep.DeepCutAuto
set_option linter.unusedVariables false
set_option linter.unusedSimpArgs false
set_option linter.unnecessarySimpa false
/- Plain words of each once by places: where runs of a rising list begin. No program in it. -/
namespace Go.Proofs.Ytkpbanfpnilifaa.Plain
def firstB (ks : List Nat) (i : Nat) : Bool := decide (i = 0) || decide (ks.getD i 0 ≠ ks.getD (i - 1) 0)
/-- which ones are the first of those that are the same -/
def firstsL (ks : List Nat) : List Bool := (List.range ks.length).map (firstB ks)
theorem firstsL_len (ks : List Nat) : (firstsL ks).length = ks.length := by unfold firstsL; rw [List.length_map, List.length_range]
theorem firstsL_at (ks : List Nat) (i : Nat) (h : i < ks.length) : kept (firstsL ks) i = firstB ks i := by
  unfold kept firstsL
  rw [List.getD_eq_getElem?_getD, List.getElem?_map, List.getElem?_range h]; rfl
/-- where the next run begins -/
def nxt (ps : List Nat) (k i : Nat) : Nat := if i < ps.length then ps.getD i 0 else k
structure Fst (ks : List Nat) (k : Nat) (ps o t : List Nat) : Prop where
  lo : o.length = ps.length
  lt : t.length = ps.length
  pos : 0 < k → 0 < ps.length
  none : k = 0 → ps.length = 0
  last : 0 < k → o.getD (o.length - 1) 0 = ks.getD (k - 1) 0
  each : ∀ i, i < ps.length → ps.getD i 0 < k ∧ o.getD i 0 = ks.getD (ps.getD i 0) 0 ∧ nxt ps k (i + 1) = ps.getD i 0 + t.getD i 0
theorem getD_snoc_lt (l : List Nat) (x i : Nat) (h : i < l.length) : (l ++ [x]).getD i 0 = l.getD i 0 := by
  rw [List.getD_eq_getElem?_getD, List.getD_eq_getElem?_getD, List.getElem?_append_left h]
theorem getD_snoc_eq (l : List Nat) (x i : Nat) (h : i = l.length) : (l ++ [x]).getD i 0 = x := by
  subst h; rw [List.getD_eq_getElem?_getD, List.getElem?_append_right (Nat.le_refl _)]; simp
theorem fst_at (ks : List Nat) : ∀ k, k ≤ ks.length → Fst ks k (whereF (firstsL ks) k) (grpL (ks.take k)).1 (grpL (ks.take k)).2 := by
  intro k
  induction k with
  | zero => exact fun _ => ⟨rfl, rfl, fun h => absurd h (Nat.lt_irrefl 0), fun _ => rfl, fun h => absurd h (Nat.lt_irrefl 0), fun i h => absurd h (Nat.not_lt_zero i)⟩
  | succ k ih =>
    intro hk
    have H := ih (by omega)
    have htk : ks.take (k + 1) = ks.take k ++ [ks.getD k 0] := by
      rw [List.take_succ_eq_append_getElem (by omega), List.getD_eq_getElem?_getD, List.getElem?_eq_getElem (by omega)]; rfl
    rw [whereF_succ, firstsL_at _ _ (by omega), htk, grpL_snoc]
    obtain ⟨ps, hps⟩ : ∃ x, whereF (firstsL ks) k = x := ⟨_, rfl⟩
    obtain ⟨⟨o, t⟩, hg⟩ : ∃ x, grpL (ks.take k) = x := ⟨_, rfl⟩
    rw [hps, hg] at H ⊢
    clear hps hg ih htk
    obtain ⟨h1, h2, h3, h4, h5, h6⟩ := H
    simp only at h1 h2 h5 h6
    obtain ⟨x, hx⟩ : ∃ x, ks.getD k 0 = x := ⟨_, rfl⟩
    unfold stepG
    simp only
    by_cases hf : firstB ks k = true
    · have hc : ¬ (0 < o.length ∧ o.getD (o.length - 1) 0 = ks.getD k 0) := by
        rintro ⟨c1, c2⟩
        have hk0 : 0 < k := by
          rcases Nat.eq_zero_or_pos k with e | e
          · have := h4 e; omega
          · exact e
        rw [h5 hk0] at c2
        unfold firstB at hf
        rw [Bool.or_eq_true, decide_eq_true_eq, decide_eq_true_eq] at hf
        rcases hf with e | e
        · omega
        · exact e c2.symm
      rw [if_neg hc, if_pos hf]
      refine ⟨by simp [h1], by simp [h2], fun _ => by simp, fun h => by omega, fun _ => ?_, fun i hi => ?_⟩
      · rw [getD_snoc_eq _ _ _ (by simp)]; rfl
      · rw [List.length_append, List.length_singleton] at hi
        rcases Nat.lt_or_ge i ps.length with e | e
        · obtain ⟨e1, e2, e3⟩ := h6 i e
          rw [getD_snoc_lt _ _ _ e, getD_snoc_lt _ _ _ (by omega), getD_snoc_lt _ _ _ (by omega)]
          refine ⟨by omega, e2, ?_⟩
          rw [← e3]
          unfold nxt
          rw [List.length_append, List.length_singleton]
          by_cases e4 : i + 1 < ps.length
          · rw [if_pos e4, if_pos (by omega), getD_snoc_lt _ _ _ e4]
          · rw [if_neg e4, if_pos (by omega), getD_snoc_eq _ _ _ (by omega)]
        · rw [getD_snoc_eq _ _ _ (by omega), getD_snoc_eq _ _ _ (by omega), getD_snoc_eq _ _ _ (by omega)]
          refine ⟨by omega, rfl, ?_⟩
          unfold nxt
          rw [List.length_append, List.length_singleton, if_neg (by omega)]
    · have hk0 : 0 < k := by
        rcases Nat.eq_zero_or_pos k with e | e
        · subst e; exact absurd rfl hf
        · exact e
      have hsm : ks.getD k 0 = ks.getD (k - 1) 0 := by
        unfold firstB at hf
        rw [Bool.or_eq_true, decide_eq_true_eq, decide_eq_true_eq] at hf
        by_cases e : ks.getD k 0 = ks.getD (k - 1) 0
        · exact e
        · exact absurd (.inr e) hf
      have hq := h3 hk0
      rw [if_neg hf, List.append_nil, if_pos (show 0 < o.length ∧ o.getD (o.length - 1) 0 = ks.getD k 0 from ⟨by omega, by rw [h5 hk0, hsm]⟩)]
      refine ⟨h1, by simp [h2], fun _ => hq, fun h => by omega, fun _ => ?_, fun i hi => ?_⟩
      · simp only; rw [h5 hk0, ← hsm]; rfl
      · obtain ⟨e1, e2, e3⟩ := h6 i hi
        refine ⟨by omega, e2, ?_⟩
        simp only
        unfold nxt at e3 ⊢
        by_cases e4 : i + 1 < ps.length
        · rw [if_pos e4] at e3 ⊢
          rw [e3, List.getD_eq_getElem?_getD, List.getD_eq_getElem?_getD (l := t.set _ _), List.getElem?_set, if_neg (by omega), ← List.getD_eq_getElem?_getD]
          rw [← List.getD_eq_getElem?_getD]
        · rw [if_neg e4] at e3 ⊢
          have e5 : o.length - 1 = i := by omega
          rw [e5, List.getD_eq_getElem?_getD (l := t.set _ _), List.getElem?_set, if_pos rfl, if_pos (by omega), Option.getD_some]
          omega
theorem fst_all (ks : List Nat) : Fst ks ks.length (whereL (firstsL ks)) (grpL ks).1 (grpL ks).2 := by
  have h := fst_at ks ks.length (Nat.le_refl _)
  rw [List.take_length] at h
  unfold whereL
  rw [firstsL_len]
  exact h
/-- the last of some, what is ahead nothing -/
def lastsL (o : List Nat) (j : Nat) : List Nat := byN o.length (fun i => if j ≤ i then o.getD i 0 else 0)
theorem lastsL_len (o : List Nat) (j : Nat) : (lastsL o j).length = o.length := by unfold lastsL byN; rw [List.length_map, List.length_range]
theorem lastsL_all (o : List Nat) : lastsL o 0 = o := by
  unfold lastsL
  rw [byN_congr _ _ (fun i => o.getD i 0) fun i _ => if_pos (Nat.zero_le _)]
  exact byN_id o
/-- .. the first j told -/
def firstsJ (ks : List Nat) (j : Nat) : List Bool := (List.range ks.length).map (fun i => if i < j then firstB ks i else false)
theorem firstsJ_len (ks : List Nat) (j : Nat) : (firstsJ ks j).length = ks.length := by unfold firstsJ; rw [List.length_map, List.length_range]
theorem firstsJ_zero (ks : List Nat) : firstsJ ks 0 = List.replicate ks.length false := by
  unfold firstsJ
  apply List.ext_getElem?
  intro i
  by_cases hi : i < ks.length
  · rw [List.getElem?_map, List.getElem?_range hi, List.getElem?_replicate, if_pos hi]; rfl
  · rw [List.getElem?_eq_none (by simpa using hi), List.getElem?_eq_none (by simpa using hi)]
theorem firstsJ_all (ks : List Nat) : firstsJ ks ks.length = firstsL ks := by
  unfold firstsJ firstsL
  exact List.map_congr_left fun i hi => if_pos (List.mem_range.1 hi)
theorem firstsJ_set (ks : List Nat) (j : Nat) : (firstsJ ks j).set j (firstB ks j) = firstsJ ks (j + 1) := by
  unfold firstsJ
  apply List.ext_getElem?
  intro i
  by_cases hi : i < ks.length
  · rw [List.getElem?_set, List.getElem?_map, List.getElem?_map, List.getElem?_range hi, List.length_map, List.length_range, Option.map_some, Option.map_some]
    by_cases h : j = i
    · subst h; rw [if_pos rfl, if_pos hi, if_pos (by omega)]
    · rw [if_neg h]
      by_cases h2 : i < j
      · rw [if_pos h2, if_pos (by omega)]
      · rw [if_neg h2, if_neg (by omega)]
  · rw [List.getElem?_eq_none (by simp; omega), List.getElem?_eq_none (by simp; omega)]
theorem lastsL_set (o : List Nat) (j : Nat) (h : j < o.length) : (lastsL o (j + 1)).set j (o.getD j 0) = lastsL o j := by
  unfold lastsL byN
  apply List.ext_getElem?
  intro i
  by_cases hi : i < o.length
  · rw [List.getElem?_set, List.getElem?_map, List.getElem?_map, List.getElem?_range hi, List.length_map, List.length_range, Option.map_some, Option.map_some]
    by_cases e : j = i
    · subst e; rw [if_pos rfl, if_pos hi, if_pos (Nat.le_refl _)]
    · rw [if_neg e]
      by_cases h2 : j ≤ i
      · rw [if_pos h2, if_pos (by omega)]
      · rw [if_neg h2, if_neg (by omega)]
  · rw [List.getElem?_eq_none (by simp; omega), List.getElem?_eq_none (by simp; omega)]
theorem lastsL_none (o : List Nat) : lastsL o o.length = List.replicate o.length 0 := by
  unfold lastsL byN
  apply List.ext_getElem?
  intro i
  by_cases hi : i < o.length
  · rw [List.getElem?_map, List.getElem?_range hi, List.getElem?_replicate, if_pos hi, Option.map_some, if_neg (by omega)]
  · rw [List.getElem?_eq_none (by simpa using hi), List.getElem?_eq_none (by simpa using hi)]
end Go.Proofs.Ytkpbanfpnilifaa.Plain

/- The program's Key, Edge, firsts, keysOf (dedup, real code). Written by wip/mk_r11c.py. -/
namespace Go.Proofs.Ytkpbanfpnilifaa
open Go.BigFrame
open Go.RowKit Go.Proofs.Ytkpbanfpnilifaa.Plain

theorem Plain.keyOk_mm (u v : Int) : keyOk u v = (!decide (min u v < 0) && !decide (65535 < max u v)) := by
  unfold keyOk
  rw [Bool.eq_iff_iff]
  simp only [Bool.and_eq_true, decide_eq_true_eq, Bool.not_eq_true', decide_eq_false_iff_not]
  omega
set_option maxHeartbeats 1600000 in
set_option maxRecDepth 100000 in
theorem pkey_any (u v : Int) (w : World) (hu : in64 u) (hv : in64 v) :
    Calls Try.prog 9 #[.agg #[.int .i64 u, .int .i64 v]] w fun ed w' => ed = .returned (.tuple #[.int .u32 (keyP u v : Nat), .bool (keyOk u v)]) ∧ Ext w w' := by
  have HG := Lib.hid (And.intro hu hv)
  clear hu hv
  go_enter Try.func9, Try.ntmps9
  go_wp2_with fail
  have k0 : (w.alloc (.cells #[.int .i64 u, .int .i64 v] 39)).cell? ⟨w.heap.size, 0, none⟩ = some (.int .i64 u) := by go_simp
  have k1 : (w.alloc (.cells #[.int .i64 u, .int .i64 v] 39)).cell? ⟨w.heap.size, 1, none⟩ = some (.int .i64 v) := by go_simp
  obtain ⟨W0, hW0⟩ : ∃ W0, w.alloc (.cells #[.int .i64 u, .int .i64 v] 39) = W0 := ⟨_, rfl⟩
  rw [hW0] at k0 k1
  have HX0 : Hid (Ext w W0) := Lib.hid (by rw [← hW0]; exact (Ext.refl w).alloc _)
  try rw [hW0]
  clear hW0
  have KS : Hid (∀ w', Ext W0 w' → w'.cell? ⟨w.heap.size, 0, none⟩ = some (.int .i64 u) ∧ w'.cell? ⟨w.heap.size, 1, none⟩ = some (.int .i64 v)) := Lib.hid (fun w' hE => ⟨hE.cell k0, hE.cell k1⟩)
  clear k0 k1
  go_cut [4, 5] (fun a b wx => a = .int .i64 (min u v) ∧ b = .int .i64 (max u v) ∧ Ext w wx)
  case first =>
    rcases Int.lt_trichotomy u v with h | rfl | h
    · skip
      refine wp_region_class (Ext W0) (by kernel_rfl) (by kernel_rfl) (Ext.refl _).drew ?_
      try simp only [List.append_eq, List.cons_append, List.nil_append]
      repeat (first
        | go_big_quiet_skip
        | (go_big_quiet_want
           first
           | (go_big_quiet_op; go_big_quiet_on)
           | (unfold Oper.quiet
              apply Exists.intro
              refine ⟨fun w' hC => ?_, ?_⟩
              · (obtain ⟨k1, k2⟩ := KS.out w' hC
                 unfold Oper.quietAt
                 go_simp
                 first
                 | exact rfl)
              go_simp
              go_big_quiet_on)))
      refine wpQuiet_nil ?_
      intro w4 hC4
      go_wp2_with fail
      go_meet
      exact ⟨by congr 1; omega, by congr 1; omega, HX0.out.trans hC4⟩
    · skip
      refine wp_region_class (Ext W0) (by kernel_rfl) (by kernel_rfl) (Ext.refl _).drew ?_
      try simp only [List.append_eq, List.cons_append, List.nil_append]
      repeat (first
        | go_big_quiet_skip
        | (go_big_quiet_want
           first
           | (go_big_quiet_op; go_big_quiet_on)
           | (unfold Oper.quiet
              apply Exists.intro
              refine ⟨fun w' hC => ?_, ?_⟩
              · (obtain ⟨k1, k2⟩ := KS.out w' hC
                 unfold Oper.quietAt
                 go_simp
                 first
                 | exact rfl)
              go_simp
              go_big_quiet_on)))
      refine wpQuiet_nil ?_
      intro w4 hC4
      go_wp2_with fail
      go_meet
      exact ⟨by congr 1; omega, by congr 1; omega, HX0.out.trans hC4⟩
    · skip
      refine wp_region_class (Ext W0) (by kernel_rfl) (by kernel_rfl) (Ext.refl _).drew ?_
      try simp only [List.append_eq, List.cons_append, List.nil_append]
      repeat (first
        | go_big_quiet_skip
        | (go_big_quiet_want
           first
           | (go_big_quiet_op; go_big_quiet_on)
           | (unfold Oper.quiet
              apply Exists.intro
              refine ⟨fun w' hC => ?_, ?_⟩
              · (obtain ⟨k1, k2⟩ := KS.out w' hC
                 unfold Oper.quietAt
                 go_simp
                 first
                 | exact rfl)
              go_simp
              go_big_quiet_on)))
      refine wpQuiet_nil ?_
      intro w4 hC4
      go_wp2_with fail
      go_meet
      exact ⟨by congr 1; omega, by congr 1; omega, HX0.out.trans hC4⟩
  case rest =>
  obtain ⟨rfl, rfl, hE⟩ := hcut
  have HX := Lib.hid hE
  clear hE HX0 KS
  have HKO := Lib.hid (keyOk_mm u v)
  have HKP : Hid (keyP u v = if (!decide (min u v < 0) && !decide (65535 < max u v)) = true then (min u v).toNat * 65536 + (max u v).toNat else 0) := Lib.hid (by unfold keyP; rw [keyOk_mm])
  have HMM : Hid (min u v ≤ max u v) := Lib.hid (by omega)
  obtain ⟨M, hM⟩ : ∃ M, min u v = M := ⟨_, rfl⟩
  obtain ⟨X, hX⟩ : ∃ X, max u v = X := ⟨_, rfl⟩
  rw [hM, hX] at HKP HMM HKO
  rw [hM, hX]
  clear hM hX HG
  by_cases h1 : M < 0
  · have d1 : decide (M < 0) = true := decide_eq_true h1
    rw [d1] at HKP HKO
    clear h1
    go_wp2_with fail
    exact bodyPost_ret (v := .tuple #[.int .u32 0, .bool false]) (by simp [results, Try.results9, go_sem]) rfl ⟨by rw [HKP.out, HKO.out]; rfl, HX.out⟩
  · have d1 : decide (M < 0) = false := decide_eq_false h1
    by_cases h2 : 65535 < X
    · have d2 : decide (65535 < X) = true := decide_eq_true h2
      rw [d1, d2] at HKP HKO
      clear h1
      go_wp2_with fail
      exact bodyPost_ret (v := .tuple #[.int .u32 0, .bool false]) (by simp [results, Try.results9, go_sem]) rfl ⟨by rw [HKP.out, HKO.out]; rfl, HX.out⟩
    · have d2 : decide (65535 < X) = false := decide_eq_false h2
      have hmm := HMM.out
      obtain ⟨m, rfl⟩ : ∃ m : Nat, M = m := ⟨M.toNat, by omega⟩
      obtain ⟨x, rfl⟩ : ∃ x : Nat, X = x := ⟨X.toNat, by omega⟩
      rw [d1, d2] at HKP HKO
      have h4 : IntKind.u32.wrap (m : Int) = (m : Int) := by rw [IntKind.wrap_u32]; omega
      have h5 : IntKind.u32.wrap (x : Int) = (x : Int) := by rw [IntKind.wrap_u32]; omega
      have h6 : m * 65536 % 4294967296 = m * 65536 := Nat.mod_eq_of_lt (by omega)
      have h7 : (m : Int) * 65536 % 4294967296 = ((m * 65536 : Nat) : Int) := by omega
      have hor : bits .or .u32 ((m * 65536 : Nat) : Int) (x : Int) = ((m * 65536 + x : Nat) : Int) := by
        rw [u32_or_nat _ _ (by omega) (by omega), ← Nat.shiftLeft_eq m 16, ← Nat.shiftLeft_add_eq_or_of_lt (by omega : x < 2 ^ 16), Nat.shiftLeft_eq]
      have HOR := Lib.hid (And.intro hor (And.intro h7 (And.intro h4 h5)))
      have hkp : keyP u v = m * 65536 + x := by rw [HKP.out]; rfl
      have HKK := Lib.hid hkp
      clear h1 hmm hor h6 h7 h4 h5 HKP HMM hkp
      have h4 := HOR.out.2.2.1
      have h5 := HOR.out.2.2.2
      go_wp2_with fail
      refine bodyPost_ret (v := .tuple #[.int .u32 ((m * 65536 + x : Nat) : Int), .bool true]) (by
        simp [results, Try.results9, go_sem]
        have := HOR.out.1; have h9 := HOR.out.2.1
        simpa [h9] using this) rfl ⟨by rw [HKK.out, HKO.out]; rfl, HX.out⟩
set_option maxHeartbeats 1600000 in
set_option maxRecDepth 100000 in
theorem pedge_any (k : Nat) (w : World) (hk : k < 4294967296) :
    Calls Try.prog 10 #[.int .u32 k] w fun ed w' => ed = .returned (.agg #[.int .i64 (edgeP k).1, .int .i64 (edgeP k).2]) ∧ Ext w w' := by
  unfold edgeP
  have hand : bits .and .u32 (k : Int) 65535 = ((k % 65536 : Nat) : Int) := by
    have := u32_and_nat k 65535 hk (by omega)
    rw [show (65535 : Nat) = 2 ^ 16 - 1 from rfl, Nat.and_two_pow_sub_one_eq_mod] at this
    exact this
  obtain ⟨P, hP⟩ : ∃ P, k / 65536 = P := ⟨_, rfl⟩
  obtain ⟨R, hR⟩ : ∃ R, k % 65536 = R := ⟨_, rfl⟩
  rw [hR] at hand
  rw [hP, hR]
  have h1 : (k : Int) / 65536 = (P : Int) := by omega
  have h7 : IntKind.i64.wrap (P : Int) = (P : Int) := IntWalk.i64_in _ (by omega)
  have h8 : IntKind.i64.wrap (R : Int) = (R : Int) := IntWalk.i64_in _ (by omega)
  clear hP hR hk
  go_enter Try.func10, Try.ntmps10
  go_wp2_with fail
  exact bodyPost_ret (v := .agg #[.int .i64 P, .int .i64 R]) (by simp [results, Try.results10, go_sem]) rfl ⟨rfl, by first | exact (Ext.refl _).alloc _ | exact ((Ext.refl _).alloc _).setCell (Nat.le_refl _) _⟩
set_option maxHeartbeats 1600000 in
set_option maxRecDepth 100000 in
theorem pfirsts_any (l : List Nat) (L : Option Addr) (lc : Nat) (w : World) (hL : Rd kU32 w (.slice L l.length lc) (zs l)) (hl : l.length ≤ 900) :
    Calls Try.prog 18 #[.slice L l.length lc] w fun ed w' => ∃ A : Option Addr, ed = .returned (.slice A l.length l.length) ∧ Ow kBool w.heap.size w' (.slice A l.length l.length) (firstsL l) ∧ Ext w w' := by
  have HL := Lib.hid hL
  have hl' : (l.length : Int) ≤ 900 := by omega
  clear hL
  obtain ⟨C, hmk, hmown⟩ := kBool.make false rfl trivial l.length (by omega)
  have HM : Hid (∀ w3 : World, Ow kBool w3.heap.size (w3.alloc (.cells C 4)) (.slice (some ⟨w3.heap.size, 0, none⟩) l.length l.length) (firstsJ l 0)) := Lib.hid fun w3 => by
    rw [firstsJ_zero]
    exact hmown w3 w3.heap.size w3.heap.size rfl (Nat.le_refl _)
  have hmk2 : ∀ w : World, (Instr.makeSlice 56 (.int .i64 l.length) (.int .i64 l.length)).run Try.prog w = .ok (.slice (some ⟨w.heap.size, 0, none⟩) l.length l.length) (w.alloc (.cells C 4)) := hmk
  clear hmk hmown
  go_enter Try.func18, Try.ntmps18
  go_wp2_with fail
  go_loopw [11] (fun i wr => ∃ k : Nat, k ≤ l.length ∧ i = .int .i64 k ∧ Ow kBool w.heap.size wr (.slice (some ⟨w.heap.size, 0, none⟩) l.length l.length) (firstsJ l k) ∧ Ext w wr) (fun i _ => l.length - (intOf i).toNat)
  case atStart => exact ⟨0, Nat.zero_le _, rfl, HM.out w, (Ext.refl _).alloc _⟩
  case round =>
    obtain ⟨k, hk, rfl, hO, hX⟩ := hrel
    have HO := Lib.hid hO
    have HX := Lib.hid hX
    have hk0 : (0 : Int) ≤ k := by omega
    clear hO hX hmk2
    by_cases hlt : k < l.length
    · have hlt' : (k : Int) < l.length := by omega
      obtain ⟨bx, ox, rfl, z0, _⟩ := u32_at (HL.out.ext HX.out) k hlt
      obtain ⟨x, hx⟩ : ∃ x, l.getD k 0 = x := ⟨_, rfl⟩
      obtain ⟨m1, m2, _, _⟩ := HO.out.atB (u := k) (by rw [firstsJ_len]; exact hlt)
      have m2' := m2 k
      obtain ⟨mo, hmo⟩ : ∃ mo, (firstsJ l k).getD k false = mo := ⟨_, rfl⟩
      rw [hmo] at m1
      have hset := HO.out.setB (u := k) (v := firstB l k) (by rw [firstsJ_len]; exact hlt)
      rw [firstsJ_set] at hset
      have lbx : bx < wr.heap.size := World.block_lt_of_cell? _ _ z0
      rcases k with _ | j
      · have HSET := Lib.hid (show Ow kBool w.heap.size (wr.setCell ⟨w.heap.size, 0, none⟩ (.bool true)) (.slice (some ⟨w.heap.size, 0, none⟩) l.length l.length) (firstsJ l 1) from hset)
        have z1 : wr.cell? ⟨bx, ox, none⟩ = some (.int .u32 x) := by rw [← hx]; exact z0
        clear hset z0 hx m2 hmo
        go_wp2_with fail
        go_roundw
        case rel => exact ⟨1, by omega, by go_num, HSET.out, HX.out.setCell (p := ⟨w.heap.size, 0, none⟩) (Nat.le_refl _) _⟩
        case measure => simp [intOf]; omega
      · obtain ⟨bx', ox', e, y0, _⟩ := u32_at (HL.out.ext HX.out) j (by omega)
        cases e
        obtain ⟨y, hy⟩ : ∃ y, l.getD j 0 = y := ⟨_, rfl⟩
        have hfb : firstB l (j + 1) = (x != y) := by
          unfold firstB
          rw [show j + 1 - 1 = j by omega, hx, hy, decide_eq_false (by omega), Bool.false_or]
          exact Bool.eq_iff_iff.2 (by rw [bne_iff_ne, decide_eq_true_eq])
        rw [hfb] at hset
        rw [hx] at z0
        rw [hy] at y0
        have HSET := Lib.hid hset
        have hne : ((x : Int) != (y : Int)) = (x != y) := Bool.eq_iff_iff.2 (by rw [bne_iff_ne, bne_iff_ne]; omega)
        have hjw : IntKind.i64.wrap (j : Int) = (j : Int) := IntWalk.i64_in _ (by omega)
        have hj1 : (j : Int) < l.length := by omega
        have hj2 : decide (((j + 1 : Nat) : Int) = 0) = false := decide_eq_false (by omega)
        have hj3 : (((j + 1 : Nat) : Int) == 0) = false := by simp; omega
        clear hset hx hy hfb m2 hmo
        go_wp2_with fail
        go_roundw
        case rel => exact ⟨j + 1 + 1, by omega, by go_num, by first | exact HSET.out | (rw [hne] at *; exact HSET.out), HX.out.setCell (p := ⟨w.heap.size, j + 1, none⟩) (Nat.le_refl _) _⟩
        case measure => simp [intOf]; omega
    · obtain rfl : k = l.length := by omega
      have hT := HO.out
      rw [firstsJ_all] at hT
      have HT := Lib.hid hT
      clear hT
      go_wp2_with fail
      exact bodyPost_ret (v := .slice (some ⟨w.heap.size, 0, none⟩) l.length l.length) (by simp [results, Try.results18, go_sem]) rfl ⟨_, rfl, HT.out, HX.out⟩
end Go.Proofs.Ytkpbanfpnilifaa

/- The document's Sorted, Pass (ref10). -/
namespace Go.Proofs.Ytkpbanfpnilifaa
open Go.BigFrame
open Go.RowKit Go.Proofs.Ytkpbanfpnilifaa.Plain

def Plain.orderN (order : List Int) : List Nat := order.map Int.toNat
theorem Plain.orderN_zs (os : List Nat) : orderN (zs os) = os := by
  unfold orderN zs
  rw [List.map_map]
  conv => rhs; rw [← List.map_id os]
  exact List.map_congr_left fun x _ => by simp
/-- keys in an order, or not -/
def Plain.sortedR (keys : List Nat) (order : List Int) : List Nat × Bool := if onceB order keys.length = true then ((orderN order).map (fun i => keys.getD i 0), true) else ([], false)
/-- keys, or not -/
def SrtSaid (r : List Nat × Bool) (w : World) (ed : Ending) (w' : World) : Prop :=
  ∃ (L : Option Addr) (c : Nat), ed = .returned (.tuple #[.slice L r.1.length c, .bool r.2]) ∧ Ow kU32 w.heap.size w' (.slice L r.1.length c) (zs r.1) ∧ Ext w w'
end Go.Proofs.Ytkpbanfpnilifaa

/- Plain words of sorting by counting: which spot a place gets. No program in it. -/
namespace Go.Proofs.Ytkpbanfpnilifaa.Plain
/-- one that stands at k has k ahead of it -/
theorem spot_of {T : Nat → Nat → Bool} : ∀ (l : List Nat) (k : Nat), l.Pairwise (fun a b => T a b = true ∧ T b a = false) → (∀ a ∈ l, T a a = false) → k < l.length → l.countP (fun y => T y (l.getD k 0)) = k
  | [], k, _, _, h => absurd h (Nat.not_lt_zero _)
  | a :: l, 0, hp, hr, _ => by
    rw [List.pairwise_cons] at hp
    rw [List.countP_eq_zero]
    intro y hy
    show ¬ T y a = true
    rcases List.mem_cons.1 hy with rfl | hy
    · rw [hr y (by simp)]; decide
    · rw [(hp.1 y hy).2]; decide
  | a :: l, k + 1, hp, hr, h => by
    rw [List.pairwise_cons] at hp
    have hk : k < l.length := by simpa using h
    have ih := spot_of l k hp.2 (fun b hb => hr b (List.mem_cons_of_mem _ hb)) hk
    have hm : l.getD k 0 ∈ l := by rw [List.getD_eq_getElem?_getD, List.getElem?_eq_getElem hk]; exact List.getElem_mem _
    have e : (a :: l).getD (k + 1) 0 = l.getD k 0 := rfl
    rw [e, List.countP_cons, ih, (hp.1 _ hm).1]; rfl
theorem countP_or {p q : Nat → Bool} : ∀ (l : List Nat), (∀ x ∈ l, p x = true → q x = false) → l.countP (fun x => p x || q x) = l.countP p + l.countP q
  | [], _ => rfl
  | a :: l, h => by
    have ih := countP_or (p := p) (q := q) l (fun x hx => h x (List.mem_cons_of_mem _ hx))
    rw [List.countP_cons, List.countP_cons, List.countP_cons, ih]
    have h1 := h a (by simp)
    cases hp : p a
    · cases hq : q a <;> simp <;> omega
    · rw [h1 hp]; simp; omega
def lessF (f : Nat → Nat) (n d : Nat) : Nat := (List.range n).countP (fun i => decide (f i < d))
def sameF (f : Nat → Nat) (l : List Nat) (d : Nat) : Nat := l.countP (fun i => decide (f i = d))
theorem lessF_zero (f : Nat → Nat) (n : Nat) : lessF f n 0 = 0 := by unfold lessF; rw [List.countP_eq_zero]; intro x _; simp
theorem lessF_succ (f : Nat → Nat) (n d : Nat) : lessF f n (d + 1) = lessF f n d + sameF f (List.range n) d := by
  unfold lessF sameF
  rw [← countP_or _ (fun x _ h => by rw [decide_eq_true_eq] at h; rw [decide_eq_false_iff_not]; omega)]
  refine List.countP_congr fun x _ => ?_
  rw [decide_eq_true_eq, Bool.or_eq_true, decide_eq_true_eq, decide_eq_true_eq]; omega
theorem sameF_snoc (f : Nat → Nat) (l : List Nat) (x d : Nat) : sameF f (l ++ [x]) d = sameF f l d + if f x = d then 1 else 0 := by
  unfold sameF
  rw [List.countP_append, List.countP_singleton]
  congr 1
  by_cases h : f x = d
  · rw [if_pos h, if_pos (by simpa using h)]
  · rw [if_neg h, if_neg (by simpa using h)]
theorem sameF_le (f : Nat → Nat) (l : List Nat) (d : Nat) : sameF f l d ≤ l.length := List.countP_le_length
theorem lessF_le (f : Nat → Nat) (n d : Nat) : lessF f n d ≤ n := by
  have := List.countP_le_length (p := fun i => decide (f i < d)) (l := List.range n)
  rw [List.length_range] at this; exact this
theorem nodup_at {l : List Nat} (h : l.Nodup) {i j : Nat} (hi : i < l.length) (hj : j < l.length) (e : l.getD i 0 = l.getD j 0) : i = j := by
  rw [List.nodup_iff_pairwise_ne, List.pairwise_iff_getElem] at h
  rw [List.getD_eq_getElem?_getD, List.getElem?_eq_getElem hi, List.getD_eq_getElem?_getD, List.getElem?_eq_getElem hj] at e
  simp only [Option.getD_some] at e
  rcases Nat.lt_trichotomy i j with h1 | h1 | h1
  · exact absurd e (h i j hi hj h1)
  · exact h1
  · exact absurd e.symm (h j i hj hi h1)
theorem idx_at {l : List Nat} (h : l.Nodup) {i : Nat} (hi : i < l.length) : l.idxOf (l.getD i 0) = i := by
  have hm : l.getD i 0 ∈ l := by rw [List.getD_eq_getElem?_getD, List.getElem?_eq_getElem hi]; exact List.getElem_mem _
  have hlt := List.idxOf_lt_length_of_mem hm
  refine nodup_at h hlt hi ?_
  rw [List.getD_eq_getElem?_getD, List.getElem?_eq_getElem hlt, List.getElem_idxOf hlt]; rfl
/-- .. in the order of all that come, which spot is whose -/
theorem spot_in (f : Nat → Nat) (os : List Nat) (n j : Nat) (hp : os.Perm (List.range n)) (hj : j < os.length) :
    lessF f n (f (os.getD j 0)) + sameF f (os.take j) (f (os.getD j 0)) < n ∧ (insAll f os).getD (lessF f n (f (os.getD j 0)) + sameF f (os.take j) (f (os.getD j 0))) 0 = os.getD j 0 := by
  have hnd : os.Nodup := hp.nodup_iff.2 List.nodup_range
  have hR : os.Pairwise (fun a b => os.idxOf a < os.idxOf b) := by
    rw [List.pairwise_iff_getElem]
    intro i k hi hk hik
    have h1 := idx_at hnd hi
    have h2 := idx_at hnd hk
    rw [List.getD_eq_getElem?_getD, List.getElem?_eq_getElem hi] at h1
    rw [List.getD_eq_getElem?_getD, List.getElem?_eq_getElem hk] at h2
    simp only [Option.getD_some] at h1 h2
    rw [h1, h2]; exact hik
  obtain ⟨g1, g2⟩ := insAll_good f _ _ os rfl hR
  obtain ⟨s, hs⟩ : ∃ s, os.getD j 0 = s := ⟨_, rfl⟩
  have hix := idx_at hnd hj
  rw [hs] at hix
  rw [hs]
  have hm : s ∈ os := by rw [← hs, List.getD_eq_getElem?_getD, List.getElem?_eq_getElem hj]; exact List.getElem_mem _
  obtain ⟨k, hk, hks⟩ := List.getElem_of_mem (g1.mem_iff.2 hm)
  have hks' : (insAll f os).getD k 0 = s := by rw [List.getD_eq_getElem?_getD, List.getElem?_eq_getElem hk, hks]; rfl
  have hkn : k < n := by rw [g1.length_eq, hp.length_eq, List.length_range] at hk; exact hk
  have hc := spot_of (T := fun a b => decide (f a < f b ∨ f a = f b ∧ os.idxOf a < os.idxOf b)) (insAll f os) k (g2.imp fun {a b} h => by
    refine ⟨decide_eq_true h, decide_eq_false ?_⟩
    unfold byF at h; omega) (fun a _ => decide_eq_false (by omega)) hk
  rw [hks', g1.countP_eq] at hc
  have he : os.countP (fun y => decide (f y < f s ∨ f y = f s ∧ os.idxOf y < os.idxOf s)) = lessF f n (f s) + sameF f (os.take j) (f s) := by
    rw [hix]
    have e1 : os.countP (fun y => decide (f y < f s ∨ f y = f s ∧ os.idxOf y < j)) = os.countP (fun y => decide (f y < f s) || decide (f y = f s ∧ os.idxOf y < j)) := by
      refine List.countP_congr fun x _ => ?_
      rw [decide_eq_true_eq, Bool.or_eq_true, decide_eq_true_eq, decide_eq_true_eq]
    rw [e1, countP_or _ (fun x _ h => by rw [decide_eq_true_eq] at h; rw [decide_eq_false_iff_not]; omega)]
    unfold lessF sameF
    rw [hp.countP_eq]
    congr 1
    have e2 : os.countP (fun y => decide (f y = f s ∧ os.idxOf y < j)) = (os.take j ++ os.drop j).countP (fun y => decide (f y = f s ∧ os.idxOf y < j)) := by rw [List.take_append_drop]
    rw [e2, List.countP_append]
    have e3 : (os.drop j).countP (fun y => decide (f y = f s ∧ os.idxOf y < j)) = 0 := by
      rw [List.countP_eq_zero]
      intro y hy
      obtain ⟨q, hq, rfl⟩ := List.getElem_of_mem hy
      rw [List.length_drop] at hq
      have h1 := idx_at hnd (i := j + q) (by omega)
      rw [List.getD_eq_getElem?_getD, List.getElem?_eq_getElem (by omega)] at h1
      simp only [Option.getD_some] at h1
      rw [List.getElem_drop, h1, decide_eq_true_eq]; omega
    rw [e3, Nat.add_zero]
    refine List.countP_congr fun y hy => ?_
    obtain ⟨q, hq, rfl⟩ := List.getElem_of_mem hy
    rw [List.length_take] at hq
    have h1 := idx_at hnd (i := q) (by omega)
    rw [List.getD_eq_getElem?_getD, List.getElem?_eq_getElem (by omega)] at h1
    simp only [Option.getD_some] at h1
    rw [List.getElem_take, h1, decide_eq_true_eq, decide_eq_true_eq]; omega
  rw [he] at hc
  rw [hc]
  exact ⟨hkn, hks'⟩
/-- what is put down so far -/
def madeJ (S pre : List Nat) : List Nat := byN S.length (fun k => if S.getD k 0 ∈ pre then S.getD k 0 else 0)
theorem madeJ_len (S pre : List Nat) : (madeJ S pre).length = S.length := byN_len _ _
theorem byN_set' (n : Nat) (f : Nat → Nat) (u v : Nat) : (byN n f).set u v = byN n (fun i => if i = u then v else f i) := by
  apply List.ext_getElem?
  intro i
  unfold byN
  by_cases hi : i < n
  · rw [List.getElem?_set, List.getElem?_map, List.getElem?_map, List.getElem?_range hi]
    by_cases h : u = i
    · subst h; simp [hi]
    · rw [if_neg h, Option.map_some, Option.map_some, if_neg (fun e => h e.symm)]
  · rw [List.getElem?_eq_none (by simp; omega), List.getElem?_eq_none (by simp; omega)]
theorem madeJ_set (S pre : List Nat) (q s : Nat) (hn : S.Nodup) (hq : q < S.length) (hs : S.getD q 0 = s) : (madeJ S pre).set q s = madeJ S (pre ++ [s]) := by
  unfold madeJ
  rw [byN_set']
  refine byN_congr _ _ _ fun k hk => ?_
  by_cases e : k = q
  · subst e; rw [if_pos rfl, hs, if_pos (by simp)]
  · rw [if_neg e]
    have hne : S.getD k 0 ≠ s := fun h => e (nodup_at hn hk hq (by rw [h, hs]))
    by_cases h2 : S.getD k 0 ∈ pre
    · rw [if_pos h2, if_pos (List.mem_append_left _ h2)]
    · rw [if_neg h2, if_neg (fun h3 => by
        rcases List.mem_append.1 h3 with h4 | h4
        · exact h2 h4
        · exact hne (by simpa using h4))]
theorem madeJ_all (S os : List Nat) (h : os.Perm S) : madeJ S os = S := by
  have e : madeJ S os = byN S.length (fun k => S.getD k 0) := by
    unfold madeJ
    refine byN_congr _ _ _ fun k hk => if_pos (h.mem_iff.2 ?_)
    rw [List.getD_eq_getElem?_getD, List.getElem?_eq_getElem hk]; exact List.getElem_mem _
  rw [e, byN_id]
/-- how many have come of each -/
def spotsJ (g f : Nat → Nat) (D : Nat) (pre : List Nat) : List Nat := byN D (fun d => g d + sameF f pre d)
theorem spotsJ_len (g f : Nat → Nat) (D : Nat) (pre : List Nat) : (spotsJ g f D pre).length = D := byN_len _ _
theorem spotsJ_at (g f : Nat → Nat) (D : Nat) (pre : List Nat) (d : Nat) (hd : d < D) : (spotsJ g f D pre).getD d 0 = g d + sameF f pre d := byN_getD _ _ _ hd
theorem spotsJ_set (g f : Nat → Nat) (D : Nat) (pre : List Nat) (s : Nat) : (spotsJ g f D pre).set (f s) (g (f s) + sameF f pre (f s) + 1) = spotsJ g f D (pre ++ [s]) := by
  unfold spotsJ
  rw [byN_set']
  refine byN_congr _ _ _ fun d _ => ?_
  rw [sameF_snoc]
  by_cases e : d = f s
  · subst e; rw [if_pos rfl, if_pos rfl]; omega
  · rw [if_neg e, if_neg (fun h => e h.symm)]; omega
/-- counts, turned to beginnings, so far -/
def begJ (f : Nat → Nat) (n D q : Nat) : List Nat := byN D (fun d => if d < q then lessF f n d else sameF f (List.range n) d)
theorem begJ_len (f : Nat → Nat) (n D q : Nat) : (begJ f n D q).length = D := byN_len _ _
theorem begJ_at (f : Nat → Nat) (n D q : Nat) (h : q < D) : (begJ f n D q).getD q 0 = sameF f (List.range n) q := by
  unfold begJ
  rw [byN_getD _ _ _ h, if_neg (by omega)]
theorem begJ_set (f : Nat → Nat) (n D q : Nat) : (begJ f n D q).set q (lessF f n q) = begJ f n D (q + 1) := by
  unfold begJ
  rw [byN_set']
  refine byN_congr _ _ _ fun d _ => ?_
  by_cases e : d = q
  · subst e; rw [if_pos rfl, if_pos (by omega)]
  · rw [if_neg e]
    by_cases h : d < q
    · rw [if_pos h, if_pos (by omega)]
    · rw [if_neg h, if_neg (by omega)]
theorem begJ_zero (f : Nat → Nat) (n D : Nat) : begJ f n D 0 = spotsJ (fun _ => 0) f D (List.range n) := byN_congr _ _ _ fun d _ => by rw [if_neg (by omega)]; exact (Nat.zero_add _).symm
theorem begJ_all (f : Nat → Nat) (n D : Nat) : begJ f n D D = spotsJ (lessF f n) f D [] := byN_congr _ _ _ fun d hd => by rw [if_pos hd]; rfl
/-- each once, none that isn't -/
theorem all_of_nodup : ∀ (n : Nat) (l : List Nat), l.Nodup → l.length = n → (∀ x ∈ l, x < n) → ∀ k, k < n → k ∈ l
  | 0, _, _, _, _, k, hk => absurd hk (Nat.not_lt_zero _)
  | n + 1, l, hn, hl, hb, k, hk => by
    by_cases h : n ∈ l
    · obtain ⟨a, b, rfl⟩ := List.append_of_mem h
      have hn2 := (List.perm_middle (l₁ := a) (l₂ := b) (a := n)).nodup_iff.1 hn
      rw [List.nodup_cons] at hn2
      have h1 : (a ++ b).length = n := by rw [List.length_append, List.length_cons] at hl; rw [List.length_append]; omega
      have ih := all_of_nodup n (a ++ b) hn2.2 h1 (fun x hx => by
        have h2 := hb x ((List.perm_middle (l₁ := a) (l₂ := b) (a := n)).mem_iff.2 (List.mem_cons_of_mem _ hx))
        have h3 : x ≠ n := fun e => hn2.1 (e ▸ hx)
        omega)
      rcases Nat.lt_or_ge k n with h2 | h2
      · exact (List.perm_middle (l₁ := a) (l₂ := b) (a := n)).mem_iff.2 (List.mem_cons_of_mem _ (ih k h2))
      · obtain rfl : k = n := by omega
        exact h
    · exfalso
      rcases l with _ | ⟨x, l⟩
      · simp at hl
      · rw [List.nodup_cons] at hn
        have ih := all_of_nodup n l hn.2 (by simpa using hl) (fun y hy => by
          have h2 := hb y (List.mem_cons_of_mem _ hy)
          have h3 : y ≠ n := fun e => h (e ▸ List.mem_cons_of_mem _ hy)
          omega)
        have h2 := hb x (by simp)
        have h3 : x ≠ n := fun e => h (e ▸ by simp)
        exact hn.1 (ih x (by omega))
end Go.Proofs.Ytkpbanfpnilifaa.Plain

/- The program's small ones of scan: right, Blocks, the rules, along. -/
namespace Go.Proofs.Ytkpbanfpnilifaa
open Go.BigFrame
open Go.RowKit Go.Proofs.Ytkpbanfpnilifaa.Plain

set_option maxRecDepth 100000 in
theorem sright_any (b : Int) (w : World) (hb : in64 b) :
    Calls Try.prog 34 #[.int .i64 b] w fun ed w' => ed = .returned (.bool (decide (1 ≤ b ∧ b ≤ 100))) ∧ w = w' := by
  unfold in64 at hb
  go_enter Try.func34, Try.ntmps34
  go_wp2
  all_goals go_ret
  all_goals exact ⟨ret_bool (by simp; try omega), rfl⟩

set_option maxRecDepth 100000 in
theorem sblocksE_any (n : Nat) (b : Int) (w : World) (hn : n ≤ 1000) (hb : in64 b) :
    Calls Try.prog 35 #[.int .i64 n, .int .i64 b] w fun ed w' => ed = .returned (.int .i64 (blocksP n b)) ∧ w = w' := by
  have hn1 : (n : Int) ≤ 1000 := by omega
  have hn0 : (0 : Int) ≤ n := by omega
  have HB := Lib.hid hb
  unfold in64 at hb
  by_cases h1 : 1 ≤ b ∧ b ≤ 100
  · obtain ⟨B, rfl⟩ : ∃ B : Nat, b = B := ⟨b.toNat, by omega⟩
    have e : blocksP n B = (n + B - 1) / B := by unfold blocksP; rw [if_pos (by omega), Int.toNat_natCast]
    have h1' : (1 : Int) ≤ B := by omega
    have h2' : (B : Int) ≤ 100 := by omega
    have hr : ∀ w, Calls Try.prog 34 #[.int .i64 B] w fun ed w' => ed = .returned (.bool true) ∧ w = w' := fun w => (sright_any B w HB.out).mono fun ed w' h => ⟨by rw [h.1, decide_eq_true h1], h.2⟩
    have HR := Lib.hid hr
    have E := Lib.hid e
    clear e h1 hb hr
    go_enter Try.func35, Try.ntmps35
    go_wp2_with fail
    refine (HR.out _).mono ?_
    rintro ed w1 ⟨rfl, rfl⟩
    go_wp2_with fail
    all_goals go_ret
    all_goals refine ⟨ret_int ?_, rfl⟩
    all_goals (rw [E.out, Int.natCast_ediv]; congr 1; omega)
  · have e : blocksP n b = 0 := by unfold blocksP; rw [if_neg (by omega)]
    have hr : ∀ w, Calls Try.prog 34 #[.int .i64 b] w fun ed w' => ed = .returned (.bool false) ∧ w = w' := fun w => (sright_any b w HB.out).mono fun ed w' h => ⟨by rw [h.1, decide_eq_false h1], h.2⟩
    have HR := Lib.hid hr
    rw [e]
    clear e h1 hr
    go_enter Try.func35, Try.ntmps35
    go_wp2_with fail
    refine (HR.out _).mono ?_
    rintro ed w1 ⟨rfl, rfl⟩
    go_wp2_with fail
    all_goals go_ret
    all_goals exact ⟨rfl, rfl⟩

/-- the two rules -/
def Plain.addR (a x : Nat) : Nat := (a + x) % 4294967296
theorem Plain.addR_lt (a x : Nat) (_ : a < 4294967296) (_ : x < 4294967296) : addR a x < 4294967296 := Nat.mod_lt _ (by decide)
theorem srule1_any (a x : Nat) (w : World) (ha : a < 4294967296) (hx : x < 4294967296) :
    Calls Try.prog 28 #[.int .u32 a, .int .u32 x] w fun ed w' => ed = .returned (.int .u32 (addR a x : Nat)) ∧ w = w' := by
  obtain ⟨z, hz⟩ : ∃ z, addR a x = z := ⟨_, rfl⟩
  have e : ((a : Int) + x) % 4294967296 = (z : Int) := by unfold addR at hz; omega
  rw [hz]
  clear hz
  go_enter Try.func28, Try.ntmps28
  go_wp2_with fail
  go_ret
  exact ⟨ret_int e, rfl⟩
end Go.Proofs.Ytkpbanfpnilifaa

/- The program's along (scan): of each cell what a rule makes of a start and all ahead of it. -/
namespace Go.Proofs.Ytkpbanfpnilifaa
open Go.BigFrame
open Go.RowKit Go.Proofs.Ytkpbanfpnilifaa.Plain

/-- what along makes of a list: from 'off' on so many cells are others -/
def Plain.alongL (R : Nat → Nat → Nat) (M l : List Nat) (off s j : Nat) : List Nat := byN M.length (fun u => if off ≤ u ∧ u < off + j then (l.take (u - off)).foldl R s else M.getD u 0)
theorem Plain.alongL_len (R : Nat → Nat → Nat) (M l : List Nat) (off s j : Nat) : (alongL R M l off s j).length = M.length := byN_len _ _
theorem Plain.alongL_zero (R : Nat → Nat → Nat) (M l : List Nat) (off s : Nat) : alongL R M l off s 0 = M := by
  unfold alongL
  rw [byN_congr _ _ (fun u => M.getD u 0) (fun u _ => if_neg (by omega))]
  exact byN_id M
theorem Plain.alongL_set (R : Nat → Nat → Nat) (M l : List Nat) (off s j : Nat) : (alongL R M l off s j).set (off + j) ((l.take j).foldl R s) = alongL R M l off s (j + 1) := by
  unfold alongL
  rw [byN_set]
  refine byN_congr _ _ _ (fun u _ => ?_)
  by_cases h : u = off + j
  · subst h
    rw [if_pos rfl, if_pos (by omega), show off + j - off = j by omega]
  · rw [if_neg h]
    by_cases h2 : off ≤ u ∧ u < off + j
    · rw [if_pos h2, if_pos (by omega)]
    · rw [if_neg h2, if_neg (by omega)]
theorem Plain.foldR_lt {R : Nat → Nat → Nat} (hR : ∀ a x, a < 4294967296 → x < 4294967296 → R a x < 4294967296) : ∀ (l : List Nat) (s : Nat), s < 4294967296 → (∀ x ∈ l, x < 4294967296) → l.foldl R s < 4294967296
  | [], _, hs, _ => hs
  | x :: l, s, hs, hl => foldR_lt hR l (R s x) (hR _ _ hs (hl x (by simp))) (fun z hz => hl z (by simp [hz]))
theorem Plain.foldR_snoc (R : Nat → Nat → Nat) (l : List Nat) (s j : Nat) (hj : j < l.length) : (l.take (j + 1)).foldl R s = R ((l.take j).foldl R s) (l.getD j 0) := by
  rw [takeN_snoc hj, List.foldl_append]; rfl
set_option maxHeartbeats 1600000 in
set_option maxRecDepth 100000 in
theorem salong1_any (g off m c c0 B0 s : Nat) (M l : List Nat) (L : Option Addr) (lc : Nat) (w : World) (hM : Ow kU32 B0 w (.slice (some ⟨g, 0, none⟩) M.length c0) (zs M)) (hL : Rd kU32 w (.slice L l.length lc) (zs l))
    (hfar : ∀ a, L = some a → a.block ≠ g) (hom : off + m ≤ M.length) (hlm : l.length ≤ m) (hs : s < 4294967296) (hM9 : M.length ≤ 1000) :
    Calls Try.prog 36 #[.slice (some ⟨g, off, none⟩) m c, .slice L l.length lc, .int .u32 s, .func (.func 28) #[] #[]] w fun ed w' =>
      ed = .returned (.int .u32 (l.foldl addR s : Nat)) ∧ Ow kU32 B0 w' (.slice (some ⟨g, 0, none⟩) M.length c0) (zs (alongL addR M l off s l.length)) ∧ w.grownBy w' (some g) := by
  have HM := Lib.hid hM
  have HL := Lib.hid hL
  have HFAR := Lib.hid hfar
  have HS := Lib.hid (And.intro hs (zs_lt hL))
  have hl' : (l.length : Int) ≤ m := by omega
  have hm' : (m : Int) ≤ 1000 := by omega
  clear hM hL hfar hs
  go_enter Try.func36, Try.ntmps36
  go_wp2_with fail
  go_loopw [2, 13] (fun a i wr => ∃ j : Nat, j ≤ l.length ∧ i = .int .i64 j ∧ a = .int .u32 ((l.take j).foldl addR s : Nat) ∧ Ow kU32 B0 wr (.slice (some ⟨g, 0, none⟩) M.length c0) (zs (alongL addR M l off s j)) ∧ w.grownBy wr (some g)) (fun _ i _ => l.length - (intOf i).toNat)
  case atStart => exact ⟨0, Nat.zero_le _, rfl, rfl, by rw [alongL_zero]; exact HM.out, World.grownBy.refl _ _⟩
  case round =>
    obtain ⟨j, hj, rfl, rfl, hO, hX⟩ := hrel
    have HO := Lib.hid hO
    have HX := Lib.hid hX
    have hj0 : (0 : Int) ≤ j := by omega
    clear hO hX
    by_cases hlt : j < l.length
    · have hlt' : (j : Int) < l.length := by omega
      have hjm : (j : Int) < m := by omega
      obtain ⟨bx, ox, rfl, z0, hxl⟩ := u32_at (HL.out.grown HX.out (fun a ha e => HFAR.out a ha (by cases e; rfl))) j hlt
      obtain ⟨z1, z2, _, _, zg⟩ := HO.out.atN (u := off + j) (by rw [alongL_len]; omega)
      have hal : (l.take j).foldl addR s < 4294967296 := foldR_lt addR_lt _ _ HS.out.1 (fun x hx => HS.out.2 x (List.mem_of_mem_take hx))
      have hset := HO.out.setN (u := off + j) (v := (l.take j).foldl addR s) (by rw [alongL_len]; omega) hal
      rw [alongL_set] at hset
      have hsn := foldR_snoc addR l s j hlt
      obtain ⟨ov, hov⟩ : ∃ ov, Value.int IntKind.u32 (((alongL addR M l off s j).getD (off + j) 0 : Nat) : Int) = ov := ⟨_, rfl⟩
      rw [hov] at z1
      obtain ⟨x, hx⟩ : ∃ x, l.getD j 0 = x := ⟨_, rfl⟩
      obtain ⟨a, ha⟩ : ∃ a, (l.take j).foldl addR s = a := ⟨_, rfl⟩
      rw [hx] at z0 hxl hsn
      rw [ha] at hal hset hsn ⊢
      have HSET := Lib.hid hset
      have HSN := Lib.hid hsn
      have HRU := Lib.hid (fun w => srule1_any a x w hal hxl)
      have z2' := z2 (off + j)
      have hbg : bx ≠ g := HFAR.out _ rfl
      clear hset hsn hov hx ha z2 hal hxl
      go_wp2_with fail
      refine (HRU.out _).mono ?_
      rintro ed w1 ⟨rfl, rfl⟩
      go_wp2_with fail
      go_roundw
      case rel =>
        exact ⟨j + 1, by omega, by go_num, by rw [HSN.out], HSET.out, HX.out.trans (grown_set _ _ _)⟩
      case measure => simp [intOf]; omega
    · obtain rfl : j = l.length := by omega
      go_wp2_with fail
      go_ret
      exact ⟨by rw [List.take_length]; rfl, HO.out, HX.out⟩

end Go.Proofs.Ytkpbanfpnilifaa

/- The program's small ones of radix: Passes, isPass, Digit, isOrder, asTheyStand (real code). -/
namespace Go.Proofs.Ytkpbanfpnilifaa
open Go.BigFrame
open Go.RowKit Go.Proofs.Ytkpbanfpnilifaa.Plain

set_option maxHeartbeats 1600000 in
set_option maxRecDepth 100000 in
theorem ppasses0_any (b : Int) (w : World) (hb : in64 b) :
    Calls Try.prog 20 #[.int .i64 b] w fun ed w' => ed = .returned (.int .i64 (passesP b : Nat)) ∧ w = w' := by
  unfold in64 at hb
  by_cases h : b < 1 ∨ 16 < b
  · have HR := Lib.hid (passesP_no b h)
    rw [HR.out]
    go_enter Try.func20, Try.ntmps20
    by_cases h1 : b < 1
    · have hd1 : decide (b < 1) = true := decide_eq_true h1
      go_wp2_with fail
      all_goals go_ret
      all_goals exact ⟨ret_int rfl, rfl⟩
    · have hd1 : decide (b < 1) = false := decide_eq_false h1
      have hd2 : decide (16 < b) = true := decide_eq_true (by omega)
      go_wp2_with fail
      all_goals go_ret
      all_goals exact ⟨ret_int rfl, rfl⟩
  · have h9 : b = 1 ∨ b = 2 ∨ b = 3 ∨ b = 4 ∨ b = 5 ∨ b = 6 ∨ b = 7 ∨ b = 8 ∨ b = 9 ∨ b = 10 ∨ b = 11 ∨ b = 12 ∨ b = 13 ∨ b = 14 ∨ b = 15 ∨ b = 16 := by omega
    clear h hb
    go_enter Try.func20, Try.ntmps20
    rcases h9 with rfl | rfl | rfl | rfl | rfl | rfl | rfl | rfl | rfl | rfl | rfl | rfl | rfl | rfl | rfl | rfl
    all_goals
      go_wp2_with fail
      go_ret
      exact ⟨ret_int (by first | rfl | decide +kernel), rfl⟩
/-- is there such a pass? -/
def Plain.isPassB (p b : Int) : Bool := decide (0 ≤ p) && decide (p < passesP b)
set_option maxHeartbeats 1600000 in
set_option maxRecDepth 100000 in
theorem pispass_any (p b : Int) (w : World) (hp : in64 p) (hb : in64 b) :
    Calls Try.prog 39 #[.int .i64 p, .int .i64 b] w fun ed w' => ed = .returned (.bool (isPassB p b)) ∧ w = w' := by
  have HB := Lib.hid hb
  by_cases h1 : 0 ≤ p
  · have hd1 : decide (0 ≤ p) = true := decide_eq_true h1
    have hd3 : decide (p < 0) = false := decide_eq_false (by omega)
    obtain ⟨N, hN⟩ : ∃ N, passesP b = N := ⟨_, rfl⟩
    have HN := Lib.hid hN
    have HR : Hid (isPassB p b = decide (p < (N : Int))) := Lib.hid (by unfold isPassB; rw [hd1, hN]; rfl)
    obtain ⟨d, hd⟩ : ∃ d, decide (p < (N : Int)) = d := ⟨_, rfl⟩
    rw [hd] at HR
    clear hp hb hN
    go_enter Try.func39, Try.ntmps39
    go_wp2_with fail
    refine (ppasses0_any b _ HB.out).mono ?_
    rintro ed w1 ⟨rfl, rfl⟩
    rw [HN.out]
    go_wp2_with fail
    go_ret
    exact ⟨ret_bool (by rw [HR.out]), rfl⟩
  · have hd1 : decide (0 ≤ p) = false := decide_eq_false h1
    have HR : Hid (isPassB p b = false) := Lib.hid (by unfold isPassB; rw [hd1]; rfl)
    clear hp hb
    go_enter Try.func39, Try.ntmps39
    go_wp2_with fail
    all_goals go_ret
    all_goals exact ⟨ret_bool (by rw [HR.out]), rfl⟩

set_option maxHeartbeats 1600000 in
set_option maxRecDepth 100000 in
theorem pdigit_any (key : Nat) (p b : Int) (w : World) (hk : key < 4294967296) (hp : in64 p) (hb : in64 b) :
    Calls Try.prog 30 #[.int .u32 key, .int .i64 p, .int .i64 b] w fun ed w' => ed = .returned (.int .u32 (digitP key p b : Nat)) ∧ Ext w w' := by
  have HB := Lib.hid hb
  have HP := Lib.hid hp
  cases hip : isPassB p b with
  | false =>
    have HR : Hid (digitP key p b = 0) := Lib.hid (by
      unfold digitP
      refine if_pos ?_
      unfold isPassB at hip
      rw [Bool.and_eq_false_iff, decide_eq_false_iff_not, decide_eq_false_iff_not] at hip
      omega)
    have HI := Lib.hid hip
    rw [HR.out]
    clear hp hb hk hip
    go_enter Try.func30, Try.ntmps30
    go_wp2_with fail
    refine (pispass_any p b _ HP.out HB.out).mono ?_
    rintro ed w1 ⟨rfl, rfl⟩
    rw [HI.out]
    go_wp2_with fail
    go_ret
    exact ⟨ret_int rfl, Ext.refl _⟩
  | true =>
    have HI := Lib.hid hip
    unfold isPassB at hip
    rw [Bool.and_eq_true, decide_eq_true_eq, decide_eq_true_eq] at hip
    obtain ⟨P, rfl⟩ : ∃ P : Nat, p = P := ⟨p.toNat, by omega⟩
    have h4 : 1 ≤ b ∧ b ≤ 16 := by
      by_cases h9 : b < 1 ∨ 16 < b
      · rw [passesP_no b h9] at hip; omega
      · omega
    obtain ⟨B, rfl⟩ : ∃ B : Nat, b = B := ⟨b.toNat, by omega⟩
    obtain ⟨h5, h6⟩ : 1 ≤ B ∧ B ≤ 16 := by omega
    have hq := passes_mul P B h5 h6 (by omega)
    have HR : Hid (digitP key P B = key / 2 ^ (P * B) % 2 ^ B) := Lib.hid (by unfold digitP; rw [if_neg (by omega)]; simp)
    obtain ⟨Q, hQ⟩ : ∃ Q, P * B = Q := ⟨_, rfl⟩
    have hQ' : (P : Int) * (B : Int) = (Q : Int) := by rw [← hQ]; simp
    have hQ9 : IntKind.i64.wrap (Q : Int) = (Q : Int) := IntWalk.i64_in _ (by omega)
    rw [hQ] at HR hq
    have hQ0 : (0 : Int) ≤ Q := by omega
    have hQ1 : (Q : Int) < 32 := by omega
    have hB0 : (0 : Int) ≤ B := by omega
    have hB1 : (B : Int) < 32 := by omega
    have hpw : 2 ^ B ≤ 65536 := by have := Nat.pow_le_pow_right (n := 2) (by decide) h6; simpa using this
    have hpw1 : 1 ≤ 2 ^ B := Nat.one_le_two_pow
    have HK := Lib.hid hk
    rw [HR.out]
    clear hp hb hk hip h4 hQ
    go_enter Try.func30, Try.ntmps30
    go_wp2_with fail
    refine (pispass_any P B _ HP.out HB.out).mono ?_
    rintro ed w1 ⟨rfl, rfl⟩
    rw [HI.out]
    go_wp2_with fail
    try go_quiet (fail)
    go_wp2_with fail
    go_ret
    exact ⟨ret_int (by
      have h8 : (key : Int) / 2 ^ Q = ((key / 2 ^ Q : Nat) : Int) := by simp
      have h9 : ((2 : Int) ^ B - 1) % 4294967296 = ((2 ^ B - 1 : Nat) : Int) := by
        have e : (2 : Int) ^ B = ((2 ^ B : Nat) : Int) := by simp
        rw [e]
        obtain ⟨z, hz⟩ : ∃ z, 2 ^ B = z := ⟨_, rfl⟩
        rw [hz] at hpw hpw1 ⊢
        omega
      rw [h8, h9, u32_and_nat _ _ (Nat.lt_of_le_of_lt (Nat.div_le_self _ _) HK.out) (by omega), Nat.and_two_pow_sub_one_eq_mod]), (Ext.refl _).drewN _⟩
/-- who has come so far -/
def Plain.metJ (l : List Int) (n j : Nat) : List Bool := (List.range n).map (fun u : Nat => decide ((u : Int) ∈ l.take j))
theorem Plain.metJ_len (l : List Int) (n j : Nat) : (metJ l n j).length = n := by simp [metJ]
theorem Plain.metJ_zero (l : List Int) (n : Nat) : metJ l n 0 = List.replicate n false := by
  unfold metJ
  apply List.ext_getElem?
  intro i
  by_cases hi : i < n
  · rw [List.getElem?_map, List.getElem?_range hi, List.getElem?_replicate, if_pos hi]; rfl
  · rw [List.getElem?_eq_none (by simpa using hi), List.getElem?_eq_none (by simpa using hi)]
theorem Plain.metJ_at (l : List Int) (n j u : Nat) (hu : u < n) : (metJ l n j).getD u false = decide ((u : Int) ∈ l.take j) := by
  unfold metJ
  rw [List.getD_eq_getElem?_getD, List.getElem?_map, List.getElem?_range hu]; rfl
theorem Plain.metJ_set (l : List Int) (n j u : Nat) (h : l.take (j + 1) = l.take j ++ [(u : Int)]) : (metJ l n j).set u true = metJ l n (j + 1) := by
  unfold metJ
  apply List.ext_getElem?
  intro i
  by_cases hi : i < n
  · rw [List.getElem?_set, List.getElem?_map, List.getElem?_map, List.getElem?_range hi]
    by_cases e : u = i
    · subst e; simp [hi, h]
    · rw [if_neg e, Option.map_some, Option.map_some, h]
      have : ((i : Int) = (u : Int)) = False := by simp; omega
      simp [this]
  · rw [List.getElem?_eq_none (by simp; omega), List.getElem?_eq_none (by simp; omega)]
theorem Plain.onceB_of (l : List Int) (n : Nat) (hl : l.length = n) (hb : ∀ x ∈ l, 0 ≤ x ∧ x < n) (hn : l.Nodup) : onceB l n = true := by
  have hz : l = zs (l.map Int.toNat) := by
    unfold zs
    rw [List.map_map]
    conv => lhs; rw [← List.map_id l]
    refine List.map_congr_left fun x hx => ?_
    have := hb x hx
    show x = ((x.toNat : Nat) : Int)
    omega
  have hnd : (l.map Int.toNat).Nodup := by
    rw [List.nodup_iff_pairwise_ne, List.pairwise_map]
    refine List.Pairwise.imp_of_mem (fun {a b} ha hb' h e => h ?_) (List.nodup_iff_pairwise_ne.1 hn)
    have h1 := hb a ha
    have h2 := hb b hb'
    omega
  refine (onceB_iff l n).2 ⟨l.map Int.toNat, hz, perm_of_all n _ (by rw [List.length_map]; exact hl) (all_of_nodup n _ hnd (by rw [List.length_map]; exact hl) fun x hx => ?_)⟩
  obtain ⟨y, hy, rfl⟩ := List.mem_map.1 hx
  have := hb y hy
  omega
theorem Plain.onceB_out (l : List Int) (n : Nat) (x : Int) (hx : x ∈ l) (h : x < 0 ∨ (n : Int) ≤ x) : onceB l n = false := by
  rw [← Bool.not_eq_true]
  intro h9
  unfold onceB at h9
  rw [Bool.and_eq_true, Bool.and_eq_true, List.all_eq_true] at h9
  have := h9.1.2 x hx
  rw [Bool.and_eq_true, decide_eq_true_eq, decide_eq_true_eq] at this
  omega
theorem Plain.onceB_len (l : List Int) (n : Nat) (h : l.length ≠ n) : onceB l n = false := by unfold onceB; rw [decide_eq_false h]; simp
theorem Plain.onceB_nodup (l : List Int) (n : Nat) (h : onceB l n = true) : l.Nodup := by
  obtain ⟨os, rfl, hp⟩ := (onceB_iff l n).1 h
  have h1 : os.Nodup := hp.nodup_iff.2 List.nodup_range
  unfold zs
  rw [List.nodup_iff_pairwise_ne, List.pairwise_map]
  exact (List.nodup_iff_pairwise_ne.1 h1).imp fun {a b} h2 e => h2 (by omega)
theorem Plain.nodup_snoc (l : List Int) (x : Int) (h : l.Nodup) (hx : x ∉ l) : (l ++ [x]).Nodup := by
  rw [List.nodup_append]
  refine ⟨h, by simp, fun a ha b hb => ?_⟩
  rw [List.mem_singleton] at hb
  subst hb
  exact fun e => hx (e ▸ ha)
theorem Plain.onceB_twice (l : List Int) (n j : Nat) (x : Int) (h : l.take (j + 1) = l.take j ++ [x]) (hx : x ∈ l.take j) : onceB l n = false := by
  rw [← Bool.not_eq_true]
  intro h9
  have h1 := onceB_nodup l n h9
  rw [← List.take_append_drop (j + 1) l, h, List.nodup_append] at h1
  have h2 := h1.1
  rw [List.nodup_append] at h2
  exact h2.2.2 x hx x (by simp) rfl

set_option maxHeartbeats 1600000 in
set_option maxRecDepth 100000 in
theorem pisorder_any (n : Nat) (l : List Int) (L : Option Addr) (lc : Nat) (w : World) (hl : Rd kInt w (.slice L l.length lc) l) (hn : n ≤ 1000) :
    Calls Try.prog 24 #[.slice L l.length lc, .int .i64 n] w fun ed w' => ed = .returned (.bool (onceB l n)) ∧ Ext w w' := by
  have HLN : Hid (l.length ≤ 9223372036854775807) := Lib.hid hl.len
  have HL := Lib.hid hl
  have hn0 : (0 : Int) ≤ n := by omega
  have hn1 : (n : Int) ≤ 1000 := by omega
  clear hl
  by_cases hne : l.length = n
  · subst hne
    obtain ⟨n, hN⟩ : ∃ n, l.length = n := ⟨_, rfl⟩
    rw [hN] at hn hn0 hn1 HL HLN ⊢
    have HN := Lib.hid hN
    obtain ⟨C, hmk, hmown⟩ := kBool.make false rfl trivial n (by omega)
    have HM : Hid (Ow kBool w.heap.size (w.alloc (.cells C 4)) (.slice (some ⟨w.heap.size, 0, none⟩) n n) (metJ l n 0)) := Lib.hid (by rw [metJ_zero]; exact hmown w w.heap.size w.heap.size rfl (Nat.le_refl _))
    have hmk2 : ∀ w : World, (Instr.makeSlice 56 (.int .i64 n) (.int .i64 n)).run Try.prog w = .ok (.slice (some ⟨w.heap.size, 0, none⟩) n n) (w.alloc (.cells C 4)) := hmk
    have hl9 : (n : Int) ≤ 9223372036854775807 := by omega
    clear hmk hmown hN hn
    go_enter Try.func24, Try.ntmps24
    go_wp2_with fail
    go_loopw [16] (fun i wr => ∃ j : Nat, j ≤ n ∧ i = .int .i64 j ∧ (∀ x ∈ l.take j, 0 ≤ x ∧ x < n) ∧ (l.take j).Nodup ∧ Ow kBool w.heap.size wr (.slice (some ⟨w.heap.size, 0, none⟩) n n) (metJ l n j) ∧ Ext w wr) (fun i _ => n - (intOf i).toNat)
    case atStart => exact ⟨0, Nat.zero_le _, rfl, by simp, by simp, HM.out, (Ext.refl _).alloc _⟩
    case round =>
      obtain ⟨j, hj, rfl, hin, hnd, hM, hX⟩ := hrel
      have HM := Lib.hid hM
      have HX := Lib.hid hX
      have HIN := Lib.hid (And.intro hin hnd)
      have hj0 : (0 : Int) ≤ j := by omega
      clear hM hX hin hnd hmk2
      by_cases hlj : j < n
      · have hlj' : (j : Int) < n := by omega
        have hjl : j < l.length := by rw [HN.out]; exact hlj
        obtain ⟨bl, ol, rfl, hcl⟩ := (ints_of_rd (HN.out ▸ HL.out.ext HX.out : Rd kInt wr (.slice L l.length lc) l)).cells (by omega)
        have z0 := hcl j hjl
        have hmem : l.getD j 0 ∈ l := by rw [List.getD_eq_getElem?_getD, List.getElem?_eq_getElem hjl]; exact List.getElem_mem hjl
        have htk : l.take (j + 1) = l.take j ++ [l.getD j 0] := by rw [List.take_succ_eq_append_getElem hjl, List.getD_eq_getElem?_getD, List.getElem?_eq_getElem hjl]; rfl
        obtain ⟨x, hx⟩ : ∃ x, l.getD j 0 = x := ⟨_, rfl⟩
        rw [hx] at z0 hmem htk
        have lbl : bl < wr.heap.size := World.block_lt_of_cell? _ _ z0
        by_cases hbad : x < 0 ∨ (n : Int) ≤ x
        · have HR : Hid (onceB l n = false) := Lib.hid (onceB_out l n x hmem hbad)
          clear hcl hmem htk hx
          by_cases hneg : x < 0
          · have hd1 : decide (x < 0) = true := decide_eq_true hneg
            clear hbad hneg
            go_wp2_with fail
            try (go_quiet (fail))
            go_wp2_with fail
            go_ret
            exact ⟨ret_bool HR.out.symm, by repeat (first | exact HX.out | refine Ext.drew ?_ | refine Ext.drewN ?_ _)⟩
          · have hd1 : decide (x < 0) = false := decide_eq_false hneg
            have hbig : (n : Int) ≤ x := by omega
            have hd2 : decide ((n : Int) ≤ x) = true := decide_eq_true hbig
            clear hbad hneg
            go_wp2_with fail
            try (go_quiet (fail))
            go_wp2_with fail
            go_ret
            exact ⟨ret_bool HR.out.symm, by repeat (first | exact HX.out | refine Ext.drew ?_ | refine Ext.drewN ?_ _)⟩
        · obtain ⟨u, rfl⟩ : ∃ u : Nat, x = u := ⟨x.toNat, by omega⟩
          have hun : u < n := by omega
          obtain ⟨z1, z2, _, hgl⟩ := HM.out.atB (u := u) (by rw [metJ_len]; exact hun)
          have z2' := z2 u
          rw [metJ_at l n j u hun] at z1
          have hset := HM.out.setB (u := u) (v := true) (by rw [metJ_len]; exact hun)
          rw [metJ_set l n j u htk] at hset
          have HSET := Lib.hid hset
          have hd1 : decide ((u : Int) < 0) = false := decide_eq_false (by omega)
          have hd2 : decide ((n : Int) ≤ (u : Int)) = false := decide_eq_false (by omega)
          have hu0 : (0 : Int) ≤ u := by omega
          have hu1 : (u : Int) < n := by omega
          by_cases hm : (u : Int) ∈ l.take j
          · have HR : Hid (onceB l n = false) := Lib.hid (onceB_twice l n j u htk hm)
            rw [decide_eq_true hm] at z1
            clear hcl hmem htk hx hm hset z2 hbad
            go_wp2_with fail
            try (go_quiet (fail))
            go_wp2_with fail
            go_ret
            exact ⟨ret_bool HR.out.symm, by repeat (first | exact HX.out | refine Ext.drew ?_ | refine Ext.drewN ?_ _)⟩
          · have HIN2 : Hid ((∀ x ∈ l.take (j + 1), 0 ≤ x ∧ x < (n : Int)) ∧ (l.take (j + 1)).Nodup) := Lib.hid (by
              rw [htk]
              refine ⟨fun y hy => ?_, nodup_snoc _ _ HIN.out.2 hm⟩
              rw [List.mem_append, List.mem_singleton] at hy
              rcases hy with hy | hy
              · exact HIN.out.1 y hy
              · rw [hy]; omega)
            rw [decide_eq_false hm] at z1
            clear hcl hmem htk hx hm hset z2 hbad
            go_wp2_with fail
            try (go_quiet (fail))
            go_wp2_with fail
            go_roundw
            case rel => exact ⟨j + 1, by omega, by go_num, HIN2.out.1, HIN2.out.2, HSET.out, HX.out.setCell (p := ⟨w.heap.size, u, none⟩) (Nat.le_refl _) _⟩
            case measure => simp [intOf]; omega
      · obtain rfl : j = n := by omega
        have HR : Hid (onceB l j = true) := Lib.hid (by
          have h1 := HIN.out
          rw [List.take_of_length_le (by rw [HN.out]; exact Nat.le_refl _)] at h1
          exact onceB_of l j HN.out h1.1 h1.2)
        go_wp2_with fail
        go_ret
        exact ⟨ret_bool HR.out.symm, HX.out⟩
  · have HR : Hid (onceB l n = false) := Lib.hid (onceB_len l n hne)
    have e : ((l.length : Int) != (n : Int)) = true := by simp; omega
    clear hne
    go_enter Try.func24, Try.ntmps24
    go_wp2_with fail
    go_ret
    exact ⟨ret_bool HR.out.symm, Ext.refl _⟩

/-- places, so far -/
def Plain.standJ (n j : Nat) : List Nat := byN n (fun i => if i < j then i else 0)
theorem Plain.standJ_len (n j : Nat) : (standJ n j).length = n := byN_len _ _
theorem Plain.standJ_set (n j : Nat) : (standJ n j).set j j = standJ n (j + 1) := by
  unfold standJ
  rw [byN_set]
  refine byN_congr _ _ _ fun i _ => ?_
  by_cases e : i = j
  · subst e; rw [if_pos rfl, if_pos (by omega)]
  · rw [if_neg e]
    by_cases h : i < j
    · rw [if_pos h, if_pos (by omega)]
    · rw [if_neg h, if_neg (by omega)]
theorem Plain.standJ_zero (n : Nat) : zs (standJ n 0) = List.replicate n (0 : Int) := byN_rep _ _ fun i _ => if_neg (by omega)
theorem Plain.standJ_all (n : Nat) : standJ n n = List.range n := by
  unfold standJ
  rw [byN_congr n _ id (fun i hi => by rw [if_pos hi]; rfl)]
  unfold byN
  rw [List.map_id]

set_option maxHeartbeats 1600000 in
set_option maxRecDepth 100000 in
theorem pstand_any (n : Nat) (w : World) (hn : n ≤ 900) :
    Calls Try.prog 22 #[.int .i64 n] w fun ed w' => ∃ (L : Option Addr) (l : Nat), ed = .returned (.slice L n l) ∧ Ow kInt w.heap.size w' (.slice L n l) (zs (List.range n)) ∧ Ext w w' := by
  have hn1 : (n : Int) ≤ 900 := by omega
  have hn0 : (0 : Int) ≤ n := by omega
  obtain ⟨C, hmk, hmown⟩ := kInt.make 0 rfl (show in64 0 by unfold in64; omega) n (by omega)
  have HM : Hid (Ow kInt w.heap.size (w.alloc (.cells C 3)) (.slice (some ⟨w.heap.size, 0, none⟩) n n) (zs (standJ n 0))) := Lib.hid (by rw [standJ_zero]; exact hmown w w.heap.size w.heap.size rfl (Nat.le_refl _))
  have hmk2 : ∀ w : World, (Instr.makeSlice 30 (.int .i64 n) (.int .i64 n)).run Try.prog w = .ok (.slice (some ⟨w.heap.size, 0, none⟩) n n) (w.alloc (.cells C 3)) := hmk
  clear hmk hmown
  go_enter Try.func22, Try.ntmps22
  go_wp2_with fail
  go_loopw [9] (fun i wr => ∃ j : Nat, j ≤ n ∧ i = .int .i64 j ∧ Ow kInt w.heap.size wr (.slice (some ⟨w.heap.size, 0, none⟩) n n) (zs (standJ n j)) ∧ Ext w wr) (fun i _ => n - (intOf i).toNat)
  case atStart => exact ⟨0, Nat.zero_le _, rfl, HM.out, (Ext.refl _).alloc _⟩
  case round =>
    obtain ⟨j, hj, rfl, hO, hX⟩ := hrel
    have HO := Lib.hid hO
    have HX := Lib.hid hX
    have hj0 : (0 : Int) ≤ j := by omega
    clear hO hX hmk2
    by_cases hlt : j < n
    · have hlt' : (j : Int) < n := by omega
      obtain ⟨z1, z2, _, hgl⟩ := HO.out.atI (u := j) (by rw [standJ_len]; exact hlt)
      have z2' := z2 j
      have hset := HO.out.setI (u := j) (v := j) (by rw [standJ_len]; exact hlt) (by omega)
      rw [standJ_set n j] at hset
      obtain ⟨q, hq⟩ : ∃ q, (standJ n j).getD j 0 = q := ⟨_, rfl⟩
      rw [hq] at z1
      have HSET := Lib.hid hset
      clear hset z2 hq
      go_wp2_with fail
      go_roundw
      case rel => exact ⟨j + 1, by omega, by go_num, HSET.out, HX.out.setCell (p := ⟨w.heap.size, j, none⟩) (Nat.le_refl _) _⟩
      case measure => simp [intOf]; omega
    · obtain rfl : j = n := by omega
      have hT := HO.out
      rw [standJ_all] at hT
      have HT := Lib.hid hT
      clear hT
      go_wp2_with fail
      exact bodyPost_ret (v := .slice (some ⟨w.heap.size, 0, none⟩) j j) (by simp [results, Try.results22, go_sem]) rfl ⟨_, _, rfl, HT.out, HX.out⟩
end Go.Proofs.Ytkpbanfpnilifaa

/- The program's starts, byDigit (radix, real code): sorting by counting. -/
namespace Go.Proofs.Ytkpbanfpnilifaa
open Go.BigFrame
open Go.RowKit Go.Proofs.Ytkpbanfpnilifaa.Plain

/-- a place's digit -/
abbrev Plain.digF (keys : List Nat) (p b : Int) (i : Nat) : Nat := digitP (keys.getD i 0) p b
theorem Plain.digF_lt (keys : List Nat) (P B i : Nat) (h1 : 1 ≤ B) (hp : P < passesP B) : digF keys P B i < 2 ^ B := by
  unfold digF digitP
  rw [if_neg (by omega)]
  exact Nat.mod_lt _ (Nat.two_pow_pos _)

set_option maxHeartbeats 1600000 in
set_option maxRecDepth 100000 in
theorem pstarts_any (keys : List Nat) (K : Option Addr) (kc P B D : Nat) (w : World) (hK : Rd kU32 w (.slice K keys.length kc) (zs keys)) (hl : keys.length ≤ 900) (h1 : 1 ≤ B) (h2 : B ≤ 16) (hP : P < passesP B) (hD : 2 ^ B = D) :
    Calls Try.prog 29 #[.slice K keys.length kc, .int .i64 P, .int .i64 B] w fun ed w' => ∃ g : Nat, ed = .returned (.slice (some ⟨g, 0, none⟩) D D) ∧ g = w.heap.size ∧ Ow kInt w.heap.size w' (.slice (some ⟨g, 0, none⟩) D D) (zs (spotsJ (lessF (digF keys P B) keys.length) (digF keys P B) D [])) ∧ Ext w w' := by
  have HK := Lib.hid hK
  have hl' : (keys.length : Int) ≤ 900 := by omega
  have hD9 : D ≤ 65536 := by rw [← hD]; have := Nat.pow_le_pow_right (n := 2) (by decide) h2; simpa using this
  have hP9 : P < 32 := by have := (passesP_enough B h1 h2).2.2.2; omega
  have HDL : Hid (∀ i, digF keys P B i < D) := Lib.hid fun i => by rw [← hD]; exact digF_lt keys P B i h1 hP
  have HG : Hid (in64 (P : Int) ∧ in64 (B : Int)) := Lib.hid ⟨in64_nat P (by omega), in64_nat B (by omega)⟩
  have hDp : (2 : Int) ^ B = (D : Int) := by rw [← hD]; simp
  have hDi : (D : Int) ≤ 65536 := by omega
  have hD0 : (0 : Int) ≤ D := by omega
  have hDw : IntKind.i64.wrap (D : Int) = (D : Int) := IntWalk.i64_in _ (by omega)
  have hB0 : (0 : Int) ≤ B := by omega
  have hB1 : (B : Int) ≤ 16 := by omega
  obtain ⟨C, hmk, hmown⟩ := kInt.make 0 rfl (show in64 0 by unfold in64; omega) D (by omega)
  obtain ⟨f, hf⟩ : ∃ f, digF keys P B = f := ⟨_, rfl⟩
  have HFX : Hid (∀ i, digitP (keys.getD i 0) P B = f i) := Lib.hid fun i => by rw [← hf]
  rw [hf] at HDL ⊢
  have HM : Hid (Ow kInt w.heap.size (w.alloc (.cells C 3)) (.slice (some ⟨w.heap.size, 0, none⟩) D D) (zs (spotsJ (fun _ => 0) f D (List.range 0)))) := Lib.hid (by
    rw [show zs (spotsJ (fun _ => 0) f D (List.range 0)) = List.replicate D (0 : Int) from byN_rep _ _ fun i _ => rfl]
    exact hmown w w.heap.size w.heap.size rfl (Nat.le_refl _))
  have hmk2 : ∀ w : World, (Instr.makeSlice 30 (.int .i64 D) (.int .i64 D)).run Try.prog w = .ok (.slice (some ⟨w.heap.size, 0, none⟩) D D) (w.alloc (.cells C 3)) := hmk
  clear hK hmk hmown hf hP hD h1 h2
  go_enter Try.func29, Try.ntmps29
  go_wp2_with fail
  go_loopw [18] (fun i wr => ∃ j : Nat, j ≤ keys.length ∧ i = .int .i64 j ∧ Ow kInt w.heap.size wr (.slice (some ⟨w.heap.size, 0, none⟩) D D) (zs (spotsJ (fun _ => 0) f D (List.range j))) ∧ Ext w wr) (fun i _ => keys.length - (intOf i).toNat)
  case atStart => exact ⟨0, Nat.zero_le _, rfl, HM.out, (Ext.refl _).alloc _⟩
  case round =>
    obtain ⟨j, hj, rfl, hO, hX⟩ := hrel
    have HO := Lib.hid hO
    have HX := Lib.hid hX
    have hj0 : (0 : Int) ≤ j := by omega
    clear hO hX hmk2
    by_cases hlt : j < keys.length
    · have hlt' : (j : Int) < keys.length := by omega
      obtain ⟨bx, ox, rfl, z0, hxl⟩ := u32_at (HK.out.ext HX.out) j hlt
      have lbx : bx < wr.heap.size := World.block_lt_of_cell? _ _ z0
      have hfx := HFX.out j
      have hset0 := spotsJ_set (fun _ => 0) f D (List.range j) j
      rw [← List.range_succ] at hset0
      have hdl := HDL.out j
      have hsl := sameF_le f (List.range j) (f j)
      rw [List.length_range] at hsl
      have hat := spotsJ_at (fun _ => 0) f D (List.range j) (f j) hdl
      have hlen := spotsJ_len (fun _ => 0) f D (List.range j)
      obtain ⟨x, hx⟩ : ∃ x, keys.getD j 0 = x := ⟨_, rfl⟩
      rw [hx] at z0 hxl hfx
      obtain ⟨d, hd⟩ : ∃ d, f j = d := ⟨_, rfl⟩
      rw [hd] at hfx hset0 hdl hsl hat
      simp only [Nat.zero_add] at hset0 hat
      obtain ⟨q, hq⟩ : ∃ q, sameF f (List.range j) d = q := ⟨_, rfl⟩
      rw [hq] at hset0 hsl hat
      have HCALL : Hid (∀ W, Calls Try.prog 30 #[.int .u32 x, .int .i64 P, .int .i64 B] W fun ed w' => ed = .returned (.int .u32 d) ∧ Ext W w') := Lib.hid fun W => by
        rw [← hfx]
        exact pdigit_any x P B W hxl HG.out.1 HG.out.2
      have HA := Lib.hid (And.intro hset0 (And.intro hat hlen))
      have hd0 : (0 : Int) ≤ d := by omega
      have hd1 : (d : Int) < D := by omega
      have hq0 : (0 : Int) ≤ q := by omega
      have hq1 : (q : Int) ≤ 900 := by omega
      clear hset0 hat hlen hx hd hq hfx hxl
      go_wp2_with fail
      refine (HCALL.out _).mono ?_
      rintro ed w9 ⟨rfl, hE9⟩
      have HO9 := Lib.hid (HO.out.ext hE9)
      have HX9 := Lib.hid (HX.out.trans hE9)
      obtain ⟨z1, z2, _, hgl⟩ := HO9.out.atI (u := d) (by rw [HA.out.2.2]; exact hdl)
      have z2' := z2 d
      rw [HA.out.2.1] at z1
      have hset := HO9.out.setI (u := d) (v := q + 1) (by rw [HA.out.2.2]; exact hdl) (by omega)
      rw [HA.out.1] at hset
      have HSET := Lib.hid hset
      clear hset z2 hE9
      go_wp2_with fail
      go_roundw
      case rel => exact ⟨j + 1, by omega, by go_num, HSET.out, HX9.out.setCell (p := ⟨w.heap.size, d, none⟩) (Nat.le_refl _) _⟩
      case measure => simp [intOf]; omega
    · obtain rfl : j = keys.length := by omega
      have hO2 := HO.out
      rw [← begJ_zero] at hO2
      have HO2 := Lib.hid hO2
      obtain ⟨n, hn⟩ : ∃ n, keys.length = n := ⟨_, rfl⟩
      rw [hn] at HO2 hl' hj0 ⊢
      have HN9 := Lib.hid hn
      clear hO2 HK HFX HO hn
      go_wp2_with fail
      go_loopw [10, 34] (fun a i wq => ∃ q : Nat, q ≤ D ∧ i = .int .i64 q ∧ a = .int .i64 (lessF f n q) ∧ Ow kInt w.heap.size wq (.slice (some ⟨w.heap.size, 0, none⟩) D D) (zs (begJ f n D q)) ∧ Ext w wq) (fun _ i _ => D - (intOf i).toNat)
      case atStart => exact ⟨0, Nat.zero_le _, rfl, by rw [lessF_zero]; rfl, HO2.out, HX.out⟩
      case round =>
        obtain ⟨q, hq, rfl, rfl, hO, hX⟩ := hrel
        have HO := Lib.hid hO
        have HX := Lib.hid hX
        have hq0 : (0 : Int) ≤ q := by omega
        clear hO hX
        have hss := lessF_succ f n q
        have hsl := sameF_le f (List.range n) q
        rw [List.length_range] at hsl
        have hll := lessF_le f n q
        have hsg := begJ_set f n D q
        obtain ⟨a, ha⟩ : ∃ a, lessF f n q = a := ⟨_, rfl⟩
        obtain ⟨s, hs⟩ : ∃ s, sameF f (List.range n) q = s := ⟨_, rfl⟩
        rw [ha, hs] at hss
        rw [ha] at hll hsg ⊢
        rw [hs] at hsl
        have ha0 : (0 : Int) ≤ a := by omega
        have ha1 : (a : Int) ≤ 900 := by omega
        have hs0 : (0 : Int) ≤ s := by omega
        have hs1 : (s : Int) ≤ 900 := by omega
        by_cases hlt : q < D
        · have hlt' : (q : Int) < D := by omega
          have hat := begJ_at f n D q hlt
          rw [hs] at hat
          have HSS := Lib.hid hss
          obtain ⟨z1, z2, _, hgl⟩ := HO.out.atI (u := q) (by rw [begJ_len]; exact hlt)
          have z2' := z2 q
          rw [hat] at z1
          have hset := HO.out.setI (u := q) (v := a) (by rw [begJ_len]; exact hlt) (by omega)
          rw [hsg] at hset
          have HSET := Lib.hid hset
          clear hset z2 hat hss hsg ha hs hsl hll
          go_wp2_with fail
          go_roundw
          case rel => exact ⟨q + 1, by omega, by go_num, by rw [HSS.out]; go_num, HSET.out, HX.out.setCell (p := ⟨w.heap.size, q, none⟩) (Nat.le_refl _) _⟩
          case measure => simp [intOf]; omega
        · obtain rfl : q = D := by omega
          have hT := HO.out
          rw [begJ_all] at hT
          have HT := Lib.hid hT
          clear hT hss hsg ha hs hsl hll
          go_wp2_with fail
          exact bodyPost_ret (v := .slice (some ⟨w.heap.size, 0, none⟩) q q) (by simp [results, Try.results29, go_sem]) rfl ⟨_, rfl, rfl, by rw [HN9.out]; exact HT.out, HX.out⟩

set_option maxHeartbeats 1600000 in
set_option maxRecDepth 100000 in
theorem pbydigit_any (keys os : List Nat) (K O : Option Addr) (kc oc P B : Nat) (w : World) (hK : Rd kU32 w (.slice K keys.length kc) (zs keys)) (hO : Rd kInt w (.slice O os.length oc) (zs os)) (hl : keys.length ≤ 900) (hperm : os.Perm (List.range keys.length)) (h1 : 1 ≤ B) (h2 : B ≤ 16) (hP : P < passesP B) :
    Calls Try.prog 23 #[.slice K keys.length kc, .slice O os.length oc, .int .i64 P, .int .i64 B] w fun ed w' => ∃ (L : Option Addr) (l : Nat), ed = .returned (.slice L os.length l) ∧ Ow kInt w.heap.size w' (.slice L os.length l) (zs (passL keys os P B)) ∧ Ext w w' := by
  have HK := Lib.hid hK
  have HQ := Lib.hid hO
  have hos : os.length = keys.length := by rw [hperm.length_eq, List.length_range]
  have hl' : (os.length : Int) ≤ 900 := by omega
  have HOS := Lib.hid hos
  have HPERM := Lib.hid hperm
  have hP9 : P < 32 := by have := (passesP_enough B h1 h2).2.2.2; omega
  have HG : Hid (in64 (P : Int) ∧ in64 (B : Int)) := Lib.hid ⟨in64_nat P (by omega), in64_nat B (by omega)⟩
  obtain ⟨D, hD⟩ : ∃ D, 2 ^ B = D := ⟨_, rfl⟩
  have HST := Lib.hid fun W h => pstarts_any keys K kc P B D W h hl h1 h2 hP hD
  have hD9 : D ≤ 65536 := by rw [← hD]; have := Nat.pow_le_pow_right (n := 2) (by decide) h2; simpa using this
  have hDi : (D : Int) ≤ 65536 := by omega
  have HDL : Hid (∀ i, digF keys P B i < D) := Lib.hid fun i => by rw [← hD]; exact digF_lt keys P B i h1 hP
  obtain ⟨C, hmk, hmown⟩ := kInt.make 0 rfl (show in64 0 by unfold in64; omega) os.length (by omega)
  obtain ⟨f, hf⟩ : ∃ f, digF keys P B = f := ⟨_, rfl⟩
  have HFX : Hid (∀ i, digitP (keys.getD i 0) P B = f i) := Lib.hid fun i => by rw [← hf]
  have hpl : passL keys os P B = insAll f os := by rw [← hf]; rfl
  rw [hf] at HDL HST
  obtain ⟨S, hS⟩ : ∃ S, insAll f os = S := ⟨_, rfl⟩
  have hSp : S.Perm os := by rw [← hS]; exact insAll_mem f os
  have HSI : Hid (∀ j, j < os.length → lessF f keys.length (f (os.getD j 0)) + sameF f (os.take j) (f (os.getD j 0)) < keys.length ∧ S.getD (lessF f keys.length (f (os.getD j 0)) + sameF f (os.take j) (f (os.getD j 0))) 0 = os.getD j 0) := Lib.hid fun j hj => by rw [← hS]; exact spot_in f os keys.length j hperm hj
  have HSN : Hid (S.Nodup ∧ S.length = os.length) := Lib.hid ⟨(hSp.trans hperm).nodup_iff.2 List.nodup_range, hSp.length_eq⟩
  have HALL : Hid (madeJ S os = S) := Lib.hid (madeJ_all S os hSp.symm)
  rw [hpl, hS]
  have HM : Hid (∀ w3 : World, Ow kInt w3.heap.size (w3.alloc (.cells C 3)) (.slice (some ⟨w3.heap.size, 0, none⟩) os.length os.length) (zs (madeJ S (os.take 0)))) := Lib.hid fun w3 => by
    rw [show zs (madeJ S (os.take 0)) = List.replicate os.length (0 : Int) from by rw [← hSp.length_eq]; exact byN_rep _ _ fun i _ => by simp]
    exact hmown w3 w3.heap.size w3.heap.size rfl (Nat.le_refl _)
  have hmk2 : ∀ w : World, (Instr.makeSlice 30 (.int .i64 os.length) (.int .i64 os.length)).run Try.prog w = .ok (.slice (some ⟨w.heap.size, 0, none⟩) os.length os.length) (w.alloc (.cells C 3)) := hmk
  clear hK hO hmk hmown hf hP hD h1 h2 hpl hSp hperm hos hS
  go_enter Try.func23, Try.ntmps23
  go_wp2_with fail
  refine (HST.out _ HK.out).mono ?_
  rintro ed w1 ⟨_, rfl, rfl, hO1, hE1⟩
  have HO1 := Lib.hid hO1
  have HX1 := Lib.hid hE1
  have hz1 := hE1.size
  have hg1 : w.heap.size < w1.heap.size := (hO1.lt w.heap.size rfl).2
  clear hO1 hE1 HST
  go_wp2_with fail
  go_loopw [23] (fun i wr => ∃ j : Nat, j ≤ os.length ∧ i = .int .i64 j ∧ Ow kInt w.heap.size wr (.slice (some ⟨w.heap.size, 0, none⟩) D D) (zs (spotsJ (lessF f keys.length) f D (os.take j))) ∧ Ow kInt w1.heap.size wr (.slice (some ⟨w1.heap.size, 0, none⟩) os.length os.length) (zs (madeJ S (os.take j))) ∧ Ext w wr) (fun i _ => os.length - (intOf i).toNat)
  case atStart => exact ⟨0, Nat.zero_le _, rfl, HO1.out.ext ((Ext.refl _).alloc _), HM.out w1, HX1.out.alloc _⟩
  case round =>
    obtain ⟨j, hj, rfl, hO, hN, hX⟩ := hrel
    have HO := Lib.hid hO
    have HN := Lib.hid hN
    have HX := Lib.hid hX
    have hj0 : (0 : Int) ≤ j := by omega
    clear hO hX hN hmk2
    by_cases hlt : j < os.length
    · have hlt' : (j : Int) < os.length := by omega
      obtain ⟨bw, ow, rfl, hcw⟩ := (ints_of_rd (HQ.out.ext HX.out)).cells (by rw [zs_len]; omega)
      have y0 := hcw j (by rw [zs_len]; exact hlt)
      rw [zs_getD] at y0
      have hin : os.getD j 0 < keys.length := by
        have h9 : os.getD j 0 ∈ os := by rw [List.getD_eq_getElem?_getD, List.getElem?_eq_getElem hlt]; exact List.getElem_mem hlt
        exact List.mem_range.1 ((HPERM.out.mem_iff).1 h9)
      have htk : os.take (j + 1) = os.take j ++ [os.getD j 0] := takeN_snoc hlt
      obtain ⟨hsp1, hsp2⟩ := HSI.out j hlt
      obtain ⟨s, hs⟩ : ∃ s, os.getD j 0 = s := ⟨_, rfl⟩
      rw [hs] at y0 hin htk hsp1 hsp2
      obtain ⟨bx, ox, rfl, z0, hxl⟩ := u32_at (HK.out.ext HX.out) s hin
      have lbw : bw < wr.heap.size := World.block_lt_of_cell? _ _ y0
      have lbx : bx < wr.heap.size := World.block_lt_of_cell? _ _ z0
      have hfx := HFX.out s
      have hset0 := spotsJ_set (lessF f keys.length) f D (os.take j) s
      rw [← htk] at hset0
      have hdl := HDL.out s
      have hat := spotsJ_at (lessF f keys.length) f D (os.take j) (f s) hdl
      have hlen := spotsJ_len (lessF f keys.length) f D (os.take j)
      have hmset : ∀ q, q < S.length → S.getD q 0 = s → (madeJ S (os.take j)).set q s = madeJ S (os.take (j + 1)) := fun q h3 h4 => by rw [htk]; exact madeJ_set S _ q s HSN.out.1 h3 h4
      obtain ⟨x, hx⟩ : ∃ x, keys.getD s 0 = x := ⟨_, rfl⟩
      rw [hx] at z0 hxl hfx
      obtain ⟨d, hd⟩ : ∃ d, f s = d := ⟨_, rfl⟩
      rw [hd] at hfx hset0 hdl hat hsp1 hsp2
      obtain ⟨q, hq⟩ : ∃ q, lessF f keys.length d + sameF f (os.take j) d = q := ⟨_, rfl⟩
      rw [hq] at hset0 hat hsp1 hsp2
      have hqo : q < os.length := by rw [HOS.out]; exact hsp1
      have HCALL : Hid (∀ W, Calls Try.prog 30 #[.int .u32 x, .int .i64 P, .int .i64 B] W fun ed w' => ed = .returned (.int .u32 d) ∧ Ext W w') := Lib.hid fun W => by
        rw [← hfx]
        exact pdigit_any x P B W hxl HG.out.1 HG.out.2
      have HA := Lib.hid (And.intro hset0 (And.intro hat (And.intro hlen (hmset q (by rw [HSN.out.2]; exact hqo) hsp2))))
      have HKL : Hid (keys.length ≤ 900) := Lib.hid hl
      have hd0 : (0 : Int) ≤ d := by omega
      have hd1 : (d : Int) < D := by omega
      have hq0 : (0 : Int) ≤ q := by omega
      have hq1 : (q : Int) ≤ 900 := by omega
      have hq2 : (q : Int) < os.length := by omega
      have hs0 : (0 : Int) ≤ s := by omega
      have hs1 : (s : Int) < keys.length := by omega
      clear hset0 hat hlen hx hd hq hfx hxl hcw htk hs hmset hsp1 hsp2
      go_wp2_with fail
      refine (HCALL.out _).mono ?_
      rintro ed w9 ⟨rfl, hE9⟩
      have HO9 := Lib.hid (HO.out.ext hE9)
      have HN9 := Lib.hid (HN.out.ext hE9)
      have HX9 := Lib.hid (HX.out.trans hE9)
      obtain ⟨z1, z2, _, hgl⟩ := HO9.out.atI (u := d) (by rw [HA.out.2.2.1]; exact hdl)
      have z2' := z2 d
      rw [HA.out.2.1] at z1
      obtain ⟨m1, m2, _, hml⟩ := HN9.out.atI (u := q) (by rw [madeJ_len, HSN.out.2]; exact hqo)
      have m2' := m2 q
      obtain ⟨mo, hmo⟩ : ∃ mo, (madeJ S (os.take j)).getD q 0 = mo := ⟨_, rfl⟩
      rw [hmo] at m1
      have hmst := HN9.out.setI (u := q) (v := s) (by rw [madeJ_len, HSN.out.2]; exact hqo) (by have := HKL.out; omega)
      rw [HA.out.2.2.2] at hmst
      have hset := (HO9.out.setOther (p := ⟨w1.heap.size, q, none⟩) (by simp [Value.ownBlock]; omega) (.int .i64 s)).setI (u := d) (v := q + 1) (by rw [HA.out.2.2.1]; exact hdl) (by omega)
      rw [HA.out.1] at hset
      have hmst2 := hmst.setOther (p := ⟨w.heap.size, d, none⟩) (by simp [Value.ownBlock]; omega) (.int .i64 ((q : Int) + 1))
      have HSET := Lib.hid hset
      have HMST := Lib.hid hmst2
      have hgne : w.heap.size ≠ w1.heap.size := by omega
      have hgne2 : w1.heap.size ≠ w.heap.size := by omega
      clear hset z2 hE9 m2 hmo hmst hmst2
      go_wp2_with fail
      go_roundw
      case rel => exact ⟨j + 1, by omega, by go_num, HSET.out, HMST.out, (HX9.out.setCell (p := ⟨w1.heap.size, q, none⟩) hz1 _).setCell (p := ⟨w.heap.size, d, none⟩) (Nat.le_refl _) _⟩
      case measure => simp [intOf]; omega
    · obtain rfl : j = os.length := by omega
      have hT := HN.out
      rw [List.take_of_length_le (Nat.le_refl _), HALL.out] at hT
      have HT := Lib.hid hT
      clear hT
      go_wp2_with fail
      exact bodyPost_ret (v := .slice (some ⟨w1.heap.size, 0, none⟩) os.length os.length) (by simp [results, Try.results23, go_sem]) rfl ⟨_, _, rfl, HT.out.mono hz1, HX.out⟩
end Go.Proofs.Ytkpbanfpnilifaa

/- A region that draws its order, in the body of a range over a function (at the wide fence): by the plain law 'still, then a tail'. -/
namespace Go.Proofs.Ytkpbanfpnilifaa
open Go.RowKit

/-- no statement 'defer' -/
def NoDefer (o : Oper) : Bool := match o.op with | .defer _ => false | _ => true
theorem NoDefer.ne {o : Oper} (h : NoDefer o = true) : ∀ c, o.op ≠ .defer c := fun c e => by simp [NoDefer, e] at h

/-- what may be done of an operation outside may be done in a round -/
theorem round_op {P : Program} {Q : Exit → Act → World → Prop} {l n : Nat} {o : Oper} {a : Act} {w : World} {K K' : Act → World → Prop} (ho : NoDefer o = true) (hK : ∀ a w, K a w → K' a w) (h : o.wp P a w K Q) :
    o.wpIn (Fence.wide.inRound l) n P a w K' Q := by
  refine ⟨fun _ _ => trivial, ?_⟩
  rw [Oper.semAt_eq _ _ _ (NoDefer.ne ho)]
  unfold Oper.wp at h
  generalize (execOp a.eval o).run P w = r at *
  cases r with
  | ok x w' =>
    cases x with
    | value v => exact hK _ _ h
    | skip => exact hK _ _ h
    | defer d => exact hK _ _ h
    | enter f args =>
      refine ⟨fun e => by simp [Fence.wide] at e, ?_⟩
      refine CallsIn.inRound l (callsIn_wide.2 (Calls.mono h fun e w'' he => ?_))
      cases e <;> first | exact hK _ _ he | exact he
    | row row args =>
      refine ⟨fun e => by simp [Fence.wide] at e, fun c cs _ => ?_⟩
      obtain ⟨v, w'', r, s⟩ := h c cs
      exact ⟨v, w'', hK _ _ r, stepsIn_wide.2 s⟩
    | _ => exact h.elim
  | halt x w' => cases x <;> first | exact h | exact h.elim
theorem round_wpOp {P : Program} {Q : Exit → Act → World → Prop} {l n : Nat} {ops : Array Oper} (hnd : ops.all NoDefer = true) (hQ : ¬ LetsOut Q) {i : Nat} {K K' : Act → World → Prop} {a : Act} {w : World} (hK : ∀ a w, K a w → K' a w) (h : wpOp P ops Q i K a w) :
    wpOpIn (Fence.wide.inRound l) n P ops Q i K' a w := by
  unfold wpOp at h
  unfold wpOpIn
  cases ho : ops[i]? with
  | none => rw [ho] at h; exact hK _ _ h
  | some o =>
    rw [ho] at h
    have hd : NoDefer o = true := by
      obtain ⟨hi, rfl⟩ := Array.getElem?_eq_some_iff.1 ho
      exact Array.all_eq_true.1 hnd i hi
    by_cases hw : Region.wanted o (yielded ops a.tmps) = true
    · simp only [hw, if_true] at h ⊢
      rcases h with h | h
      · exact round_op hd hK h
      · exact absurd h.2 hQ
    · simp only [hw] at h ⊢
      exact ⟨fun _ _ => trivial, hK _ _ h⟩
theorem round_any {P : Program} {Q : Exit → Act → World → Prop} {l n : Nat} {md : Region.Mode} {ops : Array Oper} (hnd : ops.all NoDefer = true) (hQ : ¬ LetsOut Q) : ∀ (fuel : Nat) (listed : Array Bool) (a : Act) (w : World),
    wpAny P md ops Q fuel listed a w → wpAnyIn (Fence.wide.inRound l) n P md ops Q fuel listed a w := by
  intro fuel
  induction fuel with
  | zero => intro listed a w h; exact h
  | succ fuel ih => exact fun listed a w h => ⟨h.1, fun i hi => round_wpOp hnd hQ (fun a w => ih _ a w) (h.2 i hi)⟩
/-- nothing is listed at the start -/
theorem headInv_start {md : Region.Mode} {ops : Array Oper} (n : Nat) : HeadInv md ops n (Array.replicate ops.size false) :=
  ⟨by simp, fun j _ _ hl => absurd hl (by rw [getD_replicate_false]; decide), fun t _ ht => getD_in (by simpa using ht) (getD_replicate_false _ _)⟩
/-- a region, all but a tail of which leaves the world as it is, in a round -/
theorem round_still_tail {P : Program} {Q : Exit → Act → World → Prop} {id l m : Nat} {a : Act} {w : World} {ops : List Oper} (hQ : ¬ LetsOut Q) (n : Nat) (hm : P.follows .mixedOrders = true) (hnd : ops.toArray.all NoDefer = true) (hB : Region.lexTailB .any ops.toArray n = true)
    (h : wpStill P ops.toArray w.drew (fun a' => wpList P ops.toArray Q (ops.drop n) a' w.drew) (ops.take n) a) : (Code.region id ops.toArray true).wpIn (Fence.wide.inRound l) m P Q a w := by
  refine wpIn_region_any hm (round_any hnd hQ _ _ _ _ ?_)
  simp only [Region.lexTailB, Bool.and_eq_true, decide_eq_true_eq] at hB
  obtain ⟨⟨⟨⟨h1, h2⟩, h3⟩, h4⟩, h5⟩ := hB
  have hs : ops.toArray.size = ops.length := by simp
  have ht : (ops.take n).length = n := by rw [List.length_take]; omega
  have hd : (ops.drop n).length = ops.toArray.size - n := by rw [List.length_drop, hs]
  have hat : ∀ j, j < (ops.take n).length → (ops.take n)[j]? = ops.toArray[0 + j]? := fun j hj => by rw [ht] at hj; simp [hj]
  have H := wpAnyL_lex (md := .any) (g := ops.toArray.size - n) h1 h3 h4 h2 (ops.take n) 0 _ a hat (by rw [Nat.zero_add]; exact ht) (headInv_start n) (by rw [ht]; exact h5) h
  have H2 := wpAny_of_head (Q' := Q) (g := ops.toArray.size - n) (fun listed a' hL => by
    rw [← hd]
    exact wpAny_of_seq (ops.drop n) n listed a' _ (fun j => by rw [List.getElem?_drop]; simp) (by rw [hd]; exact hL.1) hL.2) _ _ _ H
  rw [ht, show n + (ops.toArray.size - n) = ops.toArray.size by omega] at H2
  exact H2
end Go.Proofs.Ytkpbanfpnilifaa

/- The program's iterator over blocks (scan): a range over a function: what a round keeps, the maker, the contract. -/
namespace Go.Proofs.Ytkpbanfpnilifaa
open Go.BigFrame
open Go.RowKit Go.Proofs.Ytkpbanfpnilifaa.Plain

attribute [local go_sem] Oper.semAt_some

/-- what a round keeps: all blocks below N, but G -/
structure KeepsBut (N G : Nat) (W W' : World) : Prop where
  os : W'.os = W.os
  tape : W'.tape = W.tape
  output : W'.output = W.output
  size : W.heap.size ≤ W'.heap.size
  block : ∀ b, b < N → b ≠ G → W'.heap[b]? = W.heap[b]?
theorem KeepsBut.refl (N G : Nat) (W : World) : KeepsBut N G W W := ⟨rfl, rfl, rfl, Nat.le_refl _, fun _ _ _ => rfl⟩
theorem KeepsBut.trans {N G : Nat} {A B C : World} (h : KeepsBut N G A B) (k : KeepsBut N G B C) : KeepsBut N G A C :=
  ⟨k.os.trans h.os, k.tape.trans h.tape, k.output.trans h.output, Nat.le_trans h.size k.size, fun b hb hg => (k.block b hb hg).trans (h.block b hb hg)⟩
theorem KeepsBut.grown {N G : Nat} {W W' : World} {row : Option Nat} (hN : N ≤ W.heap.size) (hg : W.grownBy W' row) (hr : ∀ r, row = some r → N ≤ r ∨ r = G) : KeepsBut N G W W' :=
  ⟨hg.os, hg.tape, hg.output, hg.size, fun b hb hG => hg.block b (by omega) (fun e => by rcases hr b e.symm with h | h <;> omega)⟩
theorem KeepsBut.below {N G : Nat} {W W' : World} (h : Below N W W') : KeepsBut N G W W' := ⟨h.os, h.tape, h.output, h.size, fun b hb _ => h.block b hb⟩
theorem KeepsBut.ext {N G : Nat} {w W W' : World} (hE : Ext w W) (h : KeepsBut N G W W') (hN : w.heap.size ≤ N) (hG : w.heap.size ≤ G) : Ext w W' :=
  ⟨h.os.trans hE.os, h.tape.trans hE.tape, h.output.trans hE.output, Nat.le_trans hE.size h.size, fun b hb => (h.block b (by omega) (by omega)).trans (hE.block b hb)⟩
theorem cell_of_heap {W W' : World} {a : Addr} {v : Value} (h : W'.heap[a.block]? = W.heap[a.block]?) (hc : W.cell? a = some v) : W'.cell? a = some v := by
  rw [← hc]
  unfold World.cell?
  rw [h]
theorem KeepsBut.cell {N G : Nat} {W W' : World} (h : KeepsBut N G W W') {a : Addr} {v : Value} (hc : W.cell? a = some v) (hb : a.block < N) (hG : a.block ≠ G) : W'.cell? a = some v :=
  cell_of_heap (h.block _ hb hG) hc
theorem KeepsBut.rd {α : Type} {K : Kd α} {N G : Nat} {W W' : World} (h : KeepsBut N G W W') {A : Option Addr} {n c : Nat} {xs : List α} (hr : Rd K W (.slice A n c) xs) (hb : ∀ a, A = some a → a.block < N ∧ a.block ≠ G) : Rd K W' (.slice A n c) xs := by
  obtain ⟨h1, h2, A', cap, hv, hcap, h3⟩ := hr
  cases hv
  refine ⟨h1, h2, A, c, rfl, hcap, fun hl => ?_⟩
  obtain ⟨b, off, rfl, hcc⟩ := h3 hl
  exact ⟨b, off, rfl, fun j hj i u hu => h.cell (hcc j hj i u hu) (hb _ rfl).1 (hb _ rfl).2⟩

set_option maxHeartbeats 400000 in
theorem sblocks0_any (Ao : Option Addr) (k co n : Nat) (bI : Int) (w : World) :
    Calls Try.prog 38 #[.slice Ao k co, .int .i64 n, .int .i64 bI] w fun ed w' =>
      ed = .returned (.func (.func 44) #[] #[.pointer (some ⟨w.heap.size, 0, none⟩), .pointer (some ⟨w.heap.size + 1 + 1, 0, none⟩), .pointer (some ⟨w.heap.size + 1, 0, none⟩)]) ∧
      w' = ((w.alloc (.cells #[.slice Ao k co] 30)).alloc (.cells #[.int .i64 n] 3)).alloc (.cells #[.int .i64 bI] 3) := by
  have hmf : ∀ (fn : Fn) (first cap : Array Value) (w : World), (Instr.makeFunc fn first cap).run Try.prog w = .ok (.func fn first cap) w := fun _ _ _ _ => rfl
  go_enter Try.func38, Try.ntmps38
  go_wp2_with fail
  go_ret
  exact ⟨rfl, rfl⟩

/-- what comes of a block: its number, its span -/
def spanV (n B u : Nat) : Array Value := #[.int .i64 u, .agg #[.int .i64 (u * B : Nat), .int .i64 (min ((u + 1) * B) n : Nat)]]
set_option maxHeartbeats 2000000 in
set_option maxRecDepth 100000 in
theorem siter_in (l k n B N G b0 b1 b2 co : Nat) (bI : Int) (os : List Nat) (Ao : Option Addr) (J Jx : List (Fin k) → World → Prop) (hn : n ≤ 1000) (hB : B ≤ 100) (hk : k ≤ 1000) (hos : ∀ u ∈ os, u < k)
    (hY : ∀ pre x W1, J pre W1 → pre.length < os.length → YieldAt Fence.wide 0 Try.prog l (spanV n B x.1) W1 fun e W' =>
      (e = .returned (.bool true) ∧ J (pre ++ [x]) W' ∧ KeepsBut N G W1 W') ∨ (e = .returned (.bool false) ∧ Jx (pre ++ [x]) W'))
    (W : World) (hb0 : b0 < N ∧ b0 ≠ G) (hb1 : b1 < N ∧ b1 ≠ G) (hb2 : b2 < N ∧ b2 ≠ G) (c0 : W.cell? ⟨b0, 0, none⟩ = some (.slice Ao os.length co)) (c1 : W.cell? ⟨b1, 0, none⟩ = some (.int .i64 bI)) (hbI : os ≠ [] → bI = B) (c2 : W.cell? ⟨b2, 0, none⟩ = some (.int .i64 n))
    (hA : Rd kInt W (.slice Ao os.length co) (zs os)) (hfar : ∀ a, Ao = some a → a.block < N ∧ a.block ≠ G) (h0 : J [] W) :
    CallsIn Fence.wide 1 Try.prog 44 #[.func (.yield l) #[] #[], .pointer (some ⟨b0, 0, none⟩), .pointer (some ⟨b1, 0, none⟩), .pointer (some ⟨b2, 0, none⟩)] W fun e W' => (∃ v, e = .returned v) ∧
      ((∃ ys : List (Fin k), ys.map Fin.val = os ∧ J ys W') ∨ (∃ pre, True ∧ Jx pre W')) := by
  have HA := Lib.hid hA
  have HFAR := Lib.hid hfar
  have HOS := Lib.hid hos
  have HY := Lib.hid hY
  have HJ0 := Lib.hid h0
  have HBI := Lib.hid hbI
  have HCS := Lib.hid (And.intro c0 (And.intro c1 c2))
  have HNB := Lib.hid (And.intro hb0 (And.intro hb1 hb2))
  have hol : (os.length : Int) ≤ 9223372036854775807 := by have := hA.1; rw [zs_len] at this; unfold maxLen at this; omega
  clear hA hfar hos hY h0 hb0 hb1 hb2 hbI
  refine callsIn_of_wp Try.func44 rfl trivial ?_ rfl
  simp only [Try.ntmps44, List.size_toArray, List.length_cons, List.length_nil, Nat.reduceAdd, Nat.reduceSub, Array.replicate_succ, Array.replicate_zero, List.push_toArray, List.append_toArray, List.nil_append, List.cons_append]
  gi_wp2
  gi_loopw [9] (fun i wr => ∃ (j : Nat) (pre : List (Fin k)), j ≤ os.length ∧ i = .int .i64 j ∧ pre.map Fin.val = os.take j ∧ J pre wr ∧ KeepsBut N G W wr) (fun i _ => os.length - (intOf i).toNat)
  case atStart => exact ⟨0, [], Nat.zero_le _, rfl, by simp, HJ0.out, KeepsBut.refl _ _ _⟩
  case round =>
    obtain ⟨j, pre, hj, rfl, hpre, hJ, hX⟩ := hrel
    have HX := Lib.hid hX
    have HPRE := Lib.hid hpre
    have HJ := Lib.hid hJ
    have hj0 : (0 : Int) ≤ j := by omega
    have q1 := hX.cell HCS.out.2.1 HNB.out.2.1.1 HNB.out.2.1.2
    have q2 := hX.cell HCS.out.2.2 HNB.out.2.2.1 HNB.out.2.2.2
    clear hX hpre hJ c0 c1 c2
    by_cases hlt : j < os.length
    · have hlt' : (j : Int) < os.length := by omega
      rw [HBI.out (by intro e; rw [e] at hlt; simp at hlt)] at q1
      obtain ⟨bo, oo, rfl, hco⟩ := (ints_of_rd (HX.out.rd HA.out HFAR.out)).cells (by rw [zs_len]; omega)
      have z0 := hco j (by rw [zs_len]; exact hlt)
      rw [zs_getD] at z0
      have hmem : os.getD j 0 ∈ os := by rw [List.getD_eq_getElem?_getD, List.getElem?_eq_getElem hlt]; exact List.getElem_mem hlt
      have hun := HOS.out _ hmem
      have hpl : pre.length = j := by have := congrArg List.length HPRE.out; rw [List.length_map, List.length_take] at this; omega
      have htk : os.take (j + 1) = os.take j ++ [os.getD j 0] := takeN_snoc hlt
      obtain ⟨fn, tmps, assign, body, hy, hR⟩ := HY.out pre ⟨os.getD j 0, hun⟩ wr HJ.out (by omega)
      have hnext : (pre ++ [(⟨os.getD j 0, hun⟩ : Fin k)]).map Fin.val = os.take (j + 1) := by rw [List.map_append, HPRE.out, htk]; rfl
      have HNEXT := Lib.hid hnext
      unfold spanV at hy
      dsimp only at hy
      have hub : os.getD j 0 * B ≤ 1000 * 100 := Nat.mul_le_mul (by omega) hB
      have hub2 : (os.getD j 0 + 1) * B ≤ 1000 * 100 := Nat.mul_le_mul (by omega) hB
      have e1 : ((os.getD j 0 : Nat) : Int) * (B : Int) = ((os.getD j 0 * B : Nat) : Int) := by simp
      have e2 : (((os.getD j 0 : Nat) : Int) + 1) * (B : Int) = (((os.getD j 0 + 1) * B : Nat) : Int) := by simp
      obtain ⟨p, hp⟩ : ∃ p, os.getD j 0 * B = p := ⟨_, rfl⟩
      obtain ⟨q, hq⟩ : ∃ q, (os.getD j 0 + 1) * B = q := ⟨_, rfl⟩
      rw [hp] at hy e1 hub
      rw [hq] at hy e2 hub2
      obtain ⟨u, hu⟩ : ∃ u, os.getD j 0 = u := ⟨_, rfl⟩
      rw [hu] at z0 hy e1 e2 hun
      have HR := Lib.hid hR
      have hu2 : (u : Int) ≤ 1000 := by omega
      have hu0 : (0 : Int) ≤ u := by omega
      have hp0 : (0 : Int) ≤ p := by omega
      have hp1 : (p : Int) ≤ 100000 := by omega
      have hq0 : (0 : Int) ≤ q := by omega
      have hq1 : (q : Int) ≤ 100000 := by omega
      clear hp hq hu htk hmem hnext hR hub hub2 hco
      rcases Nat.lt_trichotomy q n with hqn | rfl | hqn
      · have hqn' : (q : Int) < n := by omega
        rw [Nat.min_eq_left (by omega)] at hy
        gi_wp2
        refine HR.out.mono ?_
        rintro e W3 (⟨rfl, hJ3, hk3⟩ | ⟨rfl, hJx3⟩)
        · gi_wp2
          go_roundw
          case rel => exact ⟨j + 1, _, by omega, by go_num, HNEXT.out, hJ3, HX.out.trans hk3⟩
          case measure => simp [intOf]; omega
        · gi_wp2
          refine bodyPost_ret (results_none rfl _ _ _) rfl ?_
          exact ⟨⟨_, rfl⟩, .inr ⟨_, trivial, hJx3⟩⟩
      · rw [Nat.min_self] at hy
        gi_wp2
        refine HR.out.mono ?_
        rintro e W3 (⟨rfl, hJ3, hk3⟩ | ⟨rfl, hJx3⟩)
        · gi_wp2
          go_roundw
          case rel => exact ⟨j + 1, _, by omega, by go_num, HNEXT.out, hJ3, HX.out.trans hk3⟩
          case measure => simp [intOf]; omega
        · gi_wp2
          refine bodyPost_ret (results_none rfl _ _ _) rfl ?_
          exact ⟨⟨_, rfl⟩, .inr ⟨_, trivial, hJx3⟩⟩
      · have hqn' : (n : Int) < q := by omega
        rw [Nat.min_eq_right (by omega)] at hy
        gi_wp2
        refine HR.out.mono ?_
        rintro e W3 (⟨rfl, hJ3, hk3⟩ | ⟨rfl, hJx3⟩)
        · gi_wp2
          go_roundw
          case rel => exact ⟨j + 1, _, by omega, by go_num, HNEXT.out, hJ3, HX.out.trans hk3⟩
          case measure => simp [intOf]; omega
        · gi_wp2
          refine bodyPost_ret (results_none rfl _ _ _) rfl ?_
          exact ⟨⟨_, rfl⟩, .inr ⟨_, trivial, hJx3⟩⟩
    · obtain rfl : j = os.length := by omega
      gi_wp2
      go_end0
      exact ⟨⟨_, rfl⟩, .inl ⟨pre, by rw [HPRE.out, List.take_length], HJ.out⟩⟩
end Go.Proofs.Ytkpbanfpnilifaa

/- A range over the blocks (scan): the law for its two callers. -/
namespace Go.Proofs.Ytkpbanfpnilifaa
open Go.BigFrame
open Go.RowKit Go.Shelf Go.Proofs.Ytkpbanfpnilifaa.Plain

theorem siter_stops (n B k co G b0 b1 b2 : Nat) (bI : Int) (os : List Nat) (Ao : Option Addr) (w : World) (hn : n ≤ 1000) (hB : B ≤ 100) (hk : k ≤ 1000) (hos : ∀ u ∈ os, u < k)
    (hb0 : b0 ≠ G) (hb1 : b1 ≠ G) (hb2 : b2 ≠ G) (c0 : w.cell? ⟨b0, 0, none⟩ = some (.slice Ao os.length co)) (c1 : w.cell? ⟨b1, 0, none⟩ = some (.int .i64 bI)) (hbI : os ≠ [] → bI = B) (c2 : w.cell? ⟨b2, 0, none⟩ = some (.int .i64 n))
    (hA : Rd kInt w (.slice Ao os.length co) (zs os)) (hfar : ∀ a, Ao = some a → a.block < w.heap.size ∧ a.block ≠ G) :
    SeqStopsK Fence.wide 1 Try.prog 44 #[.pointer (some ⟨b0, 0, none⟩), .pointer (some ⟨b1, 0, none⟩), .pointer (some ⟨b2, 0, none⟩)] (fun x : Fin k => spanV n B x.1) (KeepsBut w.heap.size G)
      (fun ys => ys.map Fin.val = os) (fun _ => True) os.length w := fun l J Jx W hW _ _ hY h0 =>
  siter_in l k n B w.heap.size G b0 b1 b2 co bI os Ao J Jx hn hB hk hos hY W ⟨World.block_lt_of_cell? _ _ c0, hb0⟩ ⟨World.block_lt_of_cell? _ _ c1, hb1⟩ ⟨World.block_lt_of_cell? _ _ c2, hb2⟩
    (Ext.cell hW c0) (Ext.cell hW c1) hbI (Ext.cell hW c2) (hA.ext hW) hfar h0

/-- how a round's body is left -/
def BodyDone (R : World → Prop) : Exit → Act → World → Prop
  | .normal, _, W => R W
  | _, _, _ => False
theorem BodyDone.no (R : World → Prop) : ¬ LetsOut (BodyDone R) := fun ⟨_, _, h⟩ => h
/-- the slots with which a round begins -/
def roundAct (a : Act) (p1 p2 d1 d2 : Tmp) (u p q Bx : Nat) : Act :=
  { tmps := (((a.tmps.setIfInBounds p1 (.int .i64 u)).setIfInBounds p2 (.agg #[.int .i64 p, .int .i64 q])).setIfInBounds d1 (.int .i64 u)).setIfInBounds d2 (.pointer (some ⟨Bx, 0, none⟩)), defers := [] }
theorem range_blocks {g : Operand} {p1 p2 : Tmp} (d1 d2 : Tmp) {assign body : Code} {Q : Exit → Act → World → Prop} {a : Act} {w : World} (G B0 n B k co c9 m b0 b1 b2 : Nat) (bI : Int) (os : List Nat) (Ao : Option Addr) (F : List Nat → List Nat)
    (hg : a.eval g = .func (.func 44) #[] #[.pointer (some ⟨b0, 0, none⟩), .pointer (some ⟨b1, 0, none⟩), .pointer (some ⟨b2, 0, none⟩)])
    (hn : n ≤ 1000) (hB : B ≤ 100) (hk : k ≤ 1000) (hos : ∀ u ∈ os, u < k)
    (hb0 : b0 ≠ G) (hb1 : b1 ≠ G) (hb2 : b2 ≠ G) (c0 : w.cell? ⟨b0, 0, none⟩ = some (.slice Ao os.length co)) (c1 : w.cell? ⟨b1, 0, none⟩ = some (.int .i64 bI)) (hbI : os ≠ [] → bI = B) (c2 : w.cell? ⟨b2, 0, none⟩ = some (.int .i64 n))
    (hA : Rd kInt w (.slice Ao os.length co) (zs os)) (hfar : ∀ a, Ao = some a → a.block < w.heap.size ∧ a.block ≠ G) (hM : Ow kU32 B0 w (.slice (some ⟨G, 0, none⟩) m c9) (zs (F []))) (hG : G < w.heap.size)
    (hassign : ∀ (l : Nat) (u p q : Nat) (W : World) (K : Act → World → Prop), (∀ Bx W', Ext W W' → KeepsOthers W W' → W.heap.size ≤ Bx → W'.cell? ⟨Bx, 0, none⟩ = some (.int .i64 p) → W'.cell? ⟨Bx, 1, none⟩ = some (.int .i64 q) → K (roundAct a p1 p2 d1 d2 u p q Bx) W') →
      assign.wpIn (Fence.wide.inRound l) 0 Try.prog (Exit.then K (fun _ _ _ => False)) { tmps := (a.tmps.setIfInBounds p1 (.int .i64 u)).setIfInBounds p2 (.agg #[.int .i64 p, .int .i64 q]), defers := [] } W)
    (hbody : ∀ (l : Nat) (pre : List Nat) (u p q Bx : Nat) (W : World), u < k → p = u * B → q = min ((u + 1) * B) n → pre.length < os.length → Ow kU32 B0 W (.slice (some ⟨G, 0, none⟩) m c9) (zs (F pre)) → KeepsBut w.heap.size G w W → w.heap.size ≤ Bx → W.cell? ⟨Bx, 0, none⟩ = some (.int .i64 p) → W.cell? ⟨Bx, 1, none⟩ = some (.int .i64 q) →
      body.wpIn (Fence.wide.inRound l) 0 Try.prog (BodyDone fun W' => W.grownBy W' (some G) ∧ Ow kU32 B0 W' (.slice (some ⟨G, 0, none⟩) m c9) (zs (F (pre ++ [u])))) (roundAct a p1 p2 d1 d2 u p q Bx) W)
    (hdone : ∀ (D : Nat) (W : World), w.heap.size ≤ D → Ow kU32 B0 W (.slice (some ⟨G, 0, none⟩) m c9) (zs (F os)) → KeepsBut w.heap.size G w W → W.heap[D]? = some (.deferred (some [])) → Q .normal { a with defers := { target := .collected D, args := #[] } :: a.defers } W) :
    (Code.rangeFunc g #[p1, p2] assign body).wp Try.prog Q a w := by
  refine (wpIn_wide (n := 2)).1 ?_
  have hIO : OwnFrom w.heap.size (fun (pre : List (Fin k)) W => Ow kU32 B0 W (.slice (some ⟨G, 0, none⟩) m c9) (zs (F (pre.map Fin.val))) ∧ KeepsBut w.heap.size G w W) := fun s A C row hs hg hr =>
    ⟨hs.1.kept hg (.inr fun e => by have h9 : w.heap.size ≤ G := (hr _ e.symm).1; omega), hs.2.trans (KeepsBut.grown hs.2.size hg (fun r e => .inl (hr r e).1))⟩
  refine wpIn_rangeFunc_ownH rfl (by decide) (gf := 44) hg trivial (enters_of Try.func44 (by kernel_rfl) rfl)
    (siter_stops n B k co G b0 b1 b2 bI os Ao w hn hB hk hos hb0 hb1 hb2 c0 c1 hbI c2 hA hfar) KeepsBut.trans
    (fun W l o o' hl h ho _ => KeepsBut.grown (by have := (Array.getElem?_eq_some_iff.1 h).1; omega) (grownBy_putObj' W l o') (fun r e => by cases e; exact .inl hl)) (Below.refl _ _) (fun _ => rfl)
    (fun pre W => Ow kU32 B0 W (.slice (some ⟨G, 0, none⟩) m c9) (zs (F (pre.map Fin.val))) ∧ KeepsBut w.heap.size G w W) (fun _ _ _ => False) hIO (fun _ _ _ _ _ hs _ _ => hs) ⟨hM, KeepsBut.refl _ _ _⟩
    (fun x a' W => ∃ Bx, w.heap.size ≤ Bx ∧ a' = roundAct a p1 p2 d1 d2 x.1 (x.1 * B) (min ((x.1 + 1) * B) n) Bx ∧ W.cell? ⟨Bx, 0, none⟩ = some (.int .i64 (x.1 * B : Nat)) ∧ W.cell? ⟨Bx, 1, none⟩ = some (.int .i64 (min ((x.1 + 1) * B) n : Nat)))
    (fun x a' _ A C row hs hg hr => by
      obtain ⟨Bx, e1, e2, e3, e4⟩ := hs
      exact ⟨Bx, e1, e2, cell_kept e3 hg (fun r e => (hr r e).2), cell_kept e4 hg (fun r e => (hr r e).2)⟩)
    ?assign ?body ?done ?stop
  case assign =>
    intro l pre x W K hI hK
    have h9 := hassign l x.1 (x.1 * B) (min ((x.1 + 1) * B) n) W K
    suffices h8 : _ by simpa [spanV] using h9 h8
    intro Bx W' hE hKO hBx h1 h2
    have hsz := hI.2.size
    exact hK _ _ (hKO.from _) (KeepsBut.below (Below.mono hE hsz)) ⟨hI.1.ext hE, hI.2.trans (KeepsBut.below (Below.mono hE hsz))⟩ ⟨Bx, by omega, rfl, h1, h2⟩
  case body =>
    rintro l pre x a' W hl - ⟨hO, hX⟩ ⟨Bx, hBx, rfl, h1, h2⟩ hlen
    refine wpIn_mono (hbody l (pre.map Fin.val) x.1 _ _ Bx W x.2 rfl rfl (by rw [List.length_map]; exact hlen) hO hX hBx h1 h2) ?_
    intro e a3 W3 h3
    cases e with
    | normal =>
      obtain ⟨hg3, hO3⟩ := h3
      have hkb : KeepsBut w.heap.size G W W3 := KeepsBut.grown hX.size hg3 (fun r e => by cases e; exact .inr rfl)
      exact ⟨KeepsFrom.of_grownBy hg3 (fun j e => by cases e; exact hG), hkb, by rw [List.map_append]; exact hO3, hX.trans hkb⟩
    | _ => exact h3.elim
  case done =>
    rintro D ys W hD hys ⟨hO, hX⟩ hK
    rw [hys] at hO
    exact hdone D W hD hO hX hK
  case stop =>
    rintro D c pre W _ _ h _
    exact h.elim
end Go.Proofs.Ytkpbanfpnilifaa

/- The program's totals (scan): of each block what a rule makes of its cells. -/
namespace Go.Proofs.Ytkpbanfpnilifaa
open Go.BigFrame
open Go.RowKit Go.Shelf Go.Proofs.Ytkpbanfpnilifaa.Plain
attribute [local go_sem] Oper.semAt_some

/-- a block's cells -/
def Plain.blkL (l : List Nat) (B u : Nat) : List Nat := (l.drop (u * B)).take B
theorem Plain.blkL_len (l : List Nat) (B u : Nat) : (blkL l B u).length = min ((u + 1) * B) l.length - u * B := by unfold blkL; rw [List.length_take, List.length_drop, Nat.add_mul, Nat.one_mul]; omega
theorem Plain.blkL_lt {l : List Nat} (h : ∀ x ∈ l, x < 4294967296) (B u : Nat) : ∀ x ∈ blkL l B u, x < 4294967296 := fun x hx => h x (List.mem_of_mem_drop (List.mem_of_mem_take hx))
/-- what stands at a block's place when so many blocks have come -/
def Plain.accF (R : Nat → Nat → Nat) (l : List Nat) (B : Nat) (pre : List Nat) (u : Nat) : Nat := (List.replicate (pre.count u) (blkL l B u)).flatten.foldl R 0
theorem Plain.accF_same (R : Nat → Nat → Nat) (l : List Nat) (B : Nat) (pre : List Nat) (u : Nat) : accF R l B (pre ++ [u]) u = (blkL l B u).foldl R (accF R l B pre u) := by
  unfold accF
  rw [List.count_append, show [u].count u = 1 by simp, List.replicate_succ', List.flatten_append, List.foldl_append]; simp
theorem Plain.accF_other (R : Nat → Nat → Nat) (l : List Nat) (B : Nat) (pre : List Nat) {u v : Nat} (h : v ≠ u) : accF R l B (pre ++ [u]) v = accF R l B pre v := by
  unfold accF
  rw [List.count_append, show [u].count v = 0 by rw [List.count_eq_zero]; simpa using h, Nat.add_zero]
theorem Plain.accF_once {R : Nat → Nat → Nat} {l os : List Nat} {B k : Nat} (h : os.Perm (List.range k)) {u : Nat} (hu : u < k) : accF R l B os u = (blkL l B u).foldl R 0 := by
  unfold accF
  rw [h.count_eq, List.nodup_range.count, if_pos (List.mem_range.2 hu)]; simp
theorem Plain.accF_lt {R : Nat → Nat → Nat} (hR : ∀ a x, a < 4294967296 → x < 4294967296 → R a x < 4294967296) {l : List Nat} (hl : ∀ x ∈ l, x < 4294967296) (B : Nat) (pre : List Nat) (u : Nat) : accF R l B pre u < 4294967296 :=
  foldR_lt hR _ _ (by decide) (fun x hx => by
    obtain ⟨r, hr, hx⟩ := List.mem_flatten.1 hx
    rw [List.eq_of_mem_replicate hr] at hx
    exact blkL_lt hl B u x hx)
/-- the places, in the midst of a block -/
def Plain.midL (R : Nat → Nat → Nat) (l : List Nat) (B k : Nat) (pre : List Nat) (u i : Nat) : List Nat := byN k (fun v => if v = u then ((blkL l B u).take i).foldl R (accF R l B pre u) else accF R l B pre v)
theorem Plain.midL_zero (R : Nat → Nat → Nat) (l : List Nat) (B k : Nat) (pre : List Nat) (u : Nat) : midL R l B k pre u 0 = byN k (accF R l B pre) :=
  byN_congr _ _ _ fun v _ => by by_cases h : v = u; · subst h; rw [if_pos rfl]; rfl
                                · rw [if_neg h]
theorem Plain.midL_all (R : Nat → Nat → Nat) (l : List Nat) (B k : Nat) (pre : List Nat) (u : Nat) : midL R l B k pre u (blkL l B u).length = byN k (accF R l B (pre ++ [u])) :=
  byN_congr _ _ _ fun v _ => by
    by_cases h : v = u
    · subst h; rw [if_pos rfl, accF_same, List.take_length]
    · rw [if_neg h, accF_other _ _ _ _ h]
theorem Plain.midL_set (R : Nat → Nat → Nat) (l : List Nat) (B k : Nat) (pre : List Nat) (u i : Nat) : (midL R l B k pre u i).set u (((blkL l B u).take (i + 1)).foldl R (accF R l B pre u)) = midL R l B k pre u (i + 1) := by
  unfold midL
  rw [byN_set]
  refine byN_congr _ _ _ fun v _ => ?_
  by_cases h : v = u
  · rw [if_pos h, if_pos h]
  · rw [if_neg h, if_neg h, if_neg h]
theorem Plain.midL_getD (R : Nat → Nat → Nat) (l : List Nat) (B k : Nat) (pre : List Nat) (u i : Nat) (hu : u < k) : (midL R l B k pre u i).getD u 0 = ((blkL l B u).take i).foldl R (accF R l B pre u) := by
  unfold midL
  rw [byN_getD _ _ _ hu, if_pos rfl]

set_option maxHeartbeats 1600000 in
set_option maxRecDepth 100000 in
theorem stot1_any (l os : List Nat) (L Ao : Option Addr) (lc co B : Nat) (bI : Int) (w : World) (hL : Rd kU32 w (.slice L l.length lc) (zs l)) (hA : Rd kInt w (.slice Ao os.length co) (zs os)) (hl : l.length ≤ 900) (hB : B ≤ 100) (hk : os.length ≤ 1000) (hB1 : 0 < B) (hbI : os ≠ [] → bI = B)
    (hAl : ∀ a, Ao = some a → a.block < w.heap.size) (hos : ∀ u ∈ os, u < os.length) (hbl : ∀ u, u < os.length → u * B < l.length) :
    Calls Try.prog 37 #[.slice L l.length lc, .int .i64 bI, .slice Ao os.length co, .func (.func 28) #[] #[]] w (ListSaid (byN os.length (accF addR l B os)) w) := by
  have HL := Lib.hid hL
  have HA := Lib.hid hA
  have HAL := Lib.hid hAl
  have HOS := Lib.hid (And.intro hos hbl)
  have HBI := Lib.hid hbI
  have HLT := Lib.hid (zs_lt hL)
  have HB := Lib.hid (And.intro hl (And.intro hB (And.intro hk hB1)))
  have hk' : (os.length : Int) ≤ 1000 := by omega
  obtain ⟨C, hmk, hmown⟩ := kU32.make 0 rfl (show (0 : Int) ≤ 0 ∧ (0 : Int) ≤ 4294967295 by omega) os.length (by omega)
  have HMK := Lib.hid hmown
  have hmk2 : ∀ w : World, (Instr.makeSlice 22 (.int .i64 os.length) (.int .i64 os.length)).run Try.prog w = .ok (.slice (some ⟨w.heap.size, 0, none⟩) os.length os.length) (w.alloc (.cells C 34)) := hmk
  clear hL hA hl hB hk hB1 hbI hAl hos hbl hmown hmk
  refine callsIn_wide.1 (callsIn_of_wp_marks (n := 2) Try.func37 rfl trivial ?_ rfl)
  simp only [Try.ntmps37, List.size_toArray, List.length_cons, List.length_nil, Nat.reduceAdd, Nat.reduceSub, Array.replicate_succ, Array.replicate_zero, List.push_toArray, List.append_toArray, List.nil_append, List.cons_append]
  refine (wpIn_wide (n := 2)).2 ?_
  go_wp2_with fail
  refine (sblocks0_any Ao os.length co l.length bI _).mono ?_
  rintro ed w1 ⟨rfl, rfl⟩
  go_wp2_with fail
  have c0 : (((((((w.alloc (.cells #[.slice L l.length lc] 22)).alloc (.cells #[.func (.func 28) #[] #[]] 72)).alloc (.cells C 34)).alloc (.cells #[.slice (some ⟨w.heap.size + 1 + 1, 0, none⟩) os.length os.length] 22)).alloc (.cells #[.slice Ao os.length co] 30)).alloc (.cells #[.int .i64 l.length] 3)).alloc (.cells #[.int .i64 bI] 3)).cell? ⟨w.heap.size, 0, none⟩ = some (.slice L l.length lc) := by go_simp
  have c1 : (((((((w.alloc (.cells #[.slice L l.length lc] 22)).alloc (.cells #[.func (.func 28) #[] #[]] 72)).alloc (.cells C 34)).alloc (.cells #[.slice (some ⟨w.heap.size + 1 + 1, 0, none⟩) os.length os.length] 22)).alloc (.cells #[.slice Ao os.length co] 30)).alloc (.cells #[.int .i64 l.length] 3)).alloc (.cells #[.int .i64 bI] 3)).cell? ⟨w.heap.size + 1, 0, none⟩ = some (.func (.func 28) #[] #[]) := by go_simp
  have c3 : (((((((w.alloc (.cells #[.slice L l.length lc] 22)).alloc (.cells #[.func (.func 28) #[] #[]] 72)).alloc (.cells C 34)).alloc (.cells #[.slice (some ⟨w.heap.size + 1 + 1, 0, none⟩) os.length os.length] 22)).alloc (.cells #[.slice Ao os.length co] 30)).alloc (.cells #[.int .i64 l.length] 3)).alloc (.cells #[.int .i64 bI] 3)).cell? ⟨w.heap.size + 1 + 1 + 1, 0, none⟩ = some (.slice (some ⟨w.heap.size + 1 + 1, 0, none⟩) os.length os.length) := by go_simp
  have c4 : (((((((w.alloc (.cells #[.slice L l.length lc] 22)).alloc (.cells #[.func (.func 28) #[] #[]] 72)).alloc (.cells C 34)).alloc (.cells #[.slice (some ⟨w.heap.size + 1 + 1, 0, none⟩) os.length os.length] 22)).alloc (.cells #[.slice Ao os.length co] 30)).alloc (.cells #[.int .i64 l.length] 3)).alloc (.cells #[.int .i64 bI] 3)).cell? ⟨w.heap.size + 1 + 1 + 1 + 1, 0, none⟩ = some (.slice Ao os.length co) := by go_simp
  have c5 : (((((((w.alloc (.cells #[.slice L l.length lc] 22)).alloc (.cells #[.func (.func 28) #[] #[]] 72)).alloc (.cells C 34)).alloc (.cells #[.slice (some ⟨w.heap.size + 1 + 1, 0, none⟩) os.length os.length] 22)).alloc (.cells #[.slice Ao os.length co] 30)).alloc (.cells #[.int .i64 l.length] 3)).alloc (.cells #[.int .i64 bI] 3)).cell? ⟨w.heap.size + 1 + 1 + 1 + 1 + 1, 0, none⟩ = some (.int .i64 l.length) := by go_simp
  have c6 : (((((((w.alloc (.cells #[.slice L l.length lc] 22)).alloc (.cells #[.func (.func 28) #[] #[]] 72)).alloc (.cells C 34)).alloc (.cells #[.slice (some ⟨w.heap.size + 1 + 1, 0, none⟩) os.length os.length] 22)).alloc (.cells #[.slice Ao os.length co] 30)).alloc (.cells #[.int .i64 l.length] 3)).alloc (.cells #[.int .i64 bI] 3)).cell? ⟨w.heap.size + 1 + 1 + 1 + 1 + 1 + 1, 0, none⟩ = some (.int .i64 bI) := by go_simp
  have hE : Ext w (((((((w.alloc (.cells #[.slice L l.length lc] 22)).alloc (.cells #[.func (.func 28) #[] #[]] 72)).alloc (.cells C 34)).alloc (.cells #[.slice (some ⟨w.heap.size + 1 + 1, 0, none⟩) os.length os.length] 22)).alloc (.cells #[.slice Ao os.length co] 30)).alloc (.cells #[.int .i64 l.length] 3)).alloc (.cells #[.int .i64 bI] 3)) := (((((((Ext.refl w).alloc _).alloc _).alloc _).alloc _).alloc _).alloc _).alloc _
  have hsz : (((((((w.alloc (.cells #[.slice L l.length lc] 22)).alloc (.cells #[.func (.func 28) #[] #[]] 72)).alloc (.cells C 34)).alloc (.cells #[.slice (some ⟨w.heap.size + 1 + 1, 0, none⟩) os.length os.length] 22)).alloc (.cells #[.slice Ao os.length co] 30)).alloc (.cells #[.int .i64 l.length] 3)).alloc (.cells #[.int .i64 bI] 3)).heap.size = w.heap.size + 7 := by simp
  have hM : Ow kU32 w.heap.size (((((((w.alloc (.cells #[.slice L l.length lc] 22)).alloc (.cells #[.func (.func 28) #[] #[]] 72)).alloc (.cells C 34)).alloc (.cells #[.slice (some ⟨w.heap.size + 1 + 1, 0, none⟩) os.length os.length] 22)).alloc (.cells #[.slice Ao os.length co] 30)).alloc (.cells #[.int .i64 l.length] 3)).alloc (.cells #[.int .i64 bI] 3)) (.slice (some ⟨w.heap.size + 1 + 1, 0, none⟩) os.length os.length) (zs (byN os.length (accF addR l B []))) := by
    have h9 := HMK.out ((w.alloc (.cells #[.slice L l.length lc] 22)).alloc (.cells #[.func (.func 28) #[] #[]] 72)) w.heap.size (w.heap.size + 1 + 1) (by simp) (by omega)
    rw [show zs (byN os.length (accF addR l B [])) = List.replicate os.length (0 : Int) from by
      unfold zs byN; rw [List.map_map]; apply List.ext_getElem?; intro i; by_cases hi : i < os.length
      · rw [List.getElem?_map, List.getElem?_range hi, List.getElem?_replicate, if_pos hi]; rfl
      · rw [List.getElem?_eq_none (by simpa using hi), List.getElem?_eq_none (by simpa using hi)]]
    exact h9.ext (((((Ext.refl _).alloc _).alloc _).alloc _).alloc _)
  obtain ⟨W0, hW0⟩ : ∃ W0, (((((((w.alloc (.cells #[.slice L l.length lc] 22)).alloc (.cells #[.func (.func 28) #[] #[]] 72)).alloc (.cells C 34)).alloc (.cells #[.slice (some ⟨w.heap.size + 1 + 1, 0, none⟩) os.length os.length] 22)).alloc (.cells #[.slice Ao os.length co] 30)).alloc (.cells #[.int .i64 l.length] 3)).alloc (.cells #[.int .i64 bI] 3)) = W0 := ⟨_, rfl⟩
  rw [hW0] at c0 c1 c3 c4 c5 c6 hE hsz hM ⊢
  have HE := Lib.hid hE
  have HC := Lib.hid (And.intro c0 (And.intro c1 c3))
  clear hW0 hmk2
  refine range_blocks 10 11 (w.heap.size + 1 + 1) w.heap.size l.length B os.length co os.length os.length (w.heap.size + 1 + 1 + 1 + 1) (w.heap.size + 1 + 1 + 1 + 1 + 1 + 1) (w.heap.size + 1 + 1 + 1 + 1 + 1) bI os Ao (fun pre => byN os.length (accF addR l B pre))
    rfl (by have := HB.out.1; omega) HB.out.2.1 HB.out.2.2.1 HOS.out.1 (by omega) (by omega) (by omega) c4 c6 HBI.out c5 (HA.out.ext hE) (fun a ha => ⟨by have := HAL.out a ha; omega, by have := HAL.out a ha; omega⟩) hM (by omega) ?assign ?body ?done
  case assign =>
    intro l9 u p q W K hK
    simp only [List.setIfInBounds_toArray, List.set_cons_succ, List.set_cons_zero]
    gi_wp2
    have h9 := hK W.heap.size (W.alloc (.cells #[.int .i64 p, .int .i64 q] 88)) ((Ext.refl W).alloc _) (KeepsOthers.alloc _ _) (Nat.le_refl _) (by go_simp) (by go_simp)
    simpa [roundAct] using h9
  case body =>
    intro l9 pre u p q Bx W hu hp hq hlen hO hX hBx h1 h2
    have hbl := HOS.out.2 u hu
    have hqp : p < q ∧ q ≤ l.length := by
      rw [Nat.add_mul, Nat.one_mul] at hq
      have hB1 := HB.out.2.2.2
      omega
    have hlb : (blkL l B u).length = q - p := by rw [blkL_len, hp, hq]
    have hblk : (l.drop p).take (q - p) = blkL l B u := by
      rw [← hlb]; unfold blkL; rw [← hp, List.length_take, ← List.take_take, List.take_of_length_le (Nat.le_refl _)]
    have cL := hX.cell HC.out.1 (by show w.heap.size < _; omega) (by show w.heap.size ≠ _; omega)
    have cR := hX.cell HC.out.2.1 (by show w.heap.size + 1 < _; omega) (by show w.heap.size + 1 ≠ _; omega)
    have cM := hX.cell HC.out.2.2 (by show w.heap.size + 1 + 1 + 1 < _; omega) (by show w.heap.size + 1 + 1 + 1 ≠ _; omega)
    have hlc : l.length ≤ lc := by obtain ⟨_, c', e, h9⟩ := HL.out.slice; simp only [Value.slice.injEq] at e; rw [zs_len] at h9; omega
    obtain ⟨bx, ox, rfl, -, -⟩ := u32_at HL.out p (by omega)
    have HXW : Hid (Ext w W) := Lib.hid (KeepsBut.ext HE.out hX (by omega) (by omega))
    have hlast : bx < w.heap.size := by
      obtain ⟨b', o', e, h9, -⟩ := u32_at HL.out p (by omega)
      cases e; exact World.block_lt_of_cell? _ _ h9
    have HPC : Hid (Rd kU32 W (.slice (some ⟨bx, ox + p, none⟩) (blkL l B u).length (lc - p)) (zs (blkL l B u))) := Lib.hid (by
      have h9 := ((HL.out.ext HXW.out).dropAdd p p (l.length - p) (lc - p) (by show p = p * 1; omega) (by rw [zs_len]) (by omega)).take (q - p) (lc - p) (by rw [List.length_drop, zs_len]; omega) (by omega)
      rw [hlb, ← hblk]
      rw [add_atk] at h9
      unfold zs at h9 ⊢
      rw [List.map_take, List.map_drop]
      exact h9)
    have HBL := Lib.hid (blkL_lt HLT.out B u)
    have HAC := Lib.hid (accF_lt addR_lt HLT.out B pre u)
    have HLB := Lib.hid hlb
    have HU := Lib.hid hu
    have HO := Lib.hid hO
    have hp9 : (0 : Int) ≤ p := by omega
    have hpq : (p : Int) ≤ q := by omega
    have hqc : q ≤ lc := by omega
    have hqc' : (q : Int) ≤ lc := by omega
    have hne : ¬ lc = p := by omega
    have hq9 : (q : Int) ≤ 900 := by have := HB.out.1; omega
    obtain ⟨Q1, hQ1⟩ : ∃ z, q - p = z := ⟨_, rfl⟩
    clear hp hq hlb hblk hO hX hbl hlc hqp c0 c1 c3 c4 c5 c6 hE hM hu
    simp only [roundAct, List.setIfInBounds_toArray, List.set_cons_succ, List.set_cons_zero]
    gi_wp2
    have HQ1 : Hid (q - p = Q1) := Lib.hid hQ1
    have hQ9 : (Q1 : Int) ≤ 900 := by omega
    clear hQ1
    gi_loopw [31] (fun i wr => ∃ j : Nat, j ≤ Q1 ∧ i = .int .i64 j ∧ Ow kU32 w.heap.size wr (.slice (some ⟨w.heap.size + 1 + 1, 0, none⟩) os.length os.length) (zs (midL addR l B os.length pre u j)) ∧ W.grownBy wr (some (w.heap.size + 1 + 1))) (fun i _ => Q1 - (intOf i).toNat)
    case atStart => exact ⟨0, Nat.zero_le _, rfl, by rw [midL_zero]; exact HO.out, World.grownBy.refl _ _⟩
    case round =>
      obtain ⟨j, hj, rfl, hM9, hg9⟩ := hrel
      have hj0 : (0 : Int) ≤ j := by omega
      have HG := Lib.hid hg9
      have HM9 := Lib.hid hM9
      by_cases hlt : j < Q1
      · have hlt' : (j : Int) < Q1 := by omega
        have hjl : j < (blkL l B u).length := by have := HLB.out; have := HQ1.out; omega
        have hpc := HPC.out.grown hg9 (fun a ha e => by cases ha; have h8 : bx = w.heap.size + 1 + 1 := by simpa using e
                                                        omega)
        obtain ⟨bx', ox', e9, z0, hxl⟩ := u32_at hpc j hjl
        obtain ⟨rfl, rfl⟩ : bx = bx' ∧ ox + p = ox' := by simpa using e9
        have q1 := hg9.cell cR (by simp)
        have q3 := hg9.cell cM (by simp)
        obtain ⟨z1, z2, hal, _, _⟩ := hM9.atN (u := u) (by unfold midL; rw [byN_len]; exact HU.out)
        rw [midL_getD _ _ _ _ _ _ _ HU.out] at z1 hal
        have hsn := foldR_snoc addR (blkL l B u) (accF addR l B pre u) j hjl
        have hset := hM9.setN (u := u) (v := ((blkL l B u).take (j + 1)).foldl addR (accF addR l B pre u)) (by unfold midL; rw [byN_len]; exact HU.out) (foldR_lt addR_lt _ _ HAC.out (fun x hx => HBL.out x (List.mem_of_mem_take hx)))
        rw [midL_set, hsn] at hset
        obtain ⟨x, hx⟩ : ∃ x, (blkL l B u).getD j 0 = x := ⟨_, rfl⟩
        obtain ⟨a, ha⟩ : ∃ a, ((blkL l B u).take j).foldl addR (accF addR l B pre u) = a := ⟨_, rfl⟩
        rw [hx, ha] at hset
        rw [hx] at z0 hxl
        rw [ha] at z1 hal
        have HSET := Lib.hid hset
        have HRU : Hid (Calls Try.prog 28 #[.int .u32 a, .int .u32 x] wr.drew (fun e w'' => e = .returned (.int .u32 (addR a x : Nat)) ∧ w'' = wr.drew)) := Lib.hid ((srule1_any a x _ hal hxl).mono fun _ _ h => ⟨h.1, h.2.symm⟩)
        have z2' := z2 u
        have hu0 : (0 : Int) ≤ u := by omega
        have hu1 : (u : Int) < os.length := by have := HU.out; omega
        have hd1 : decide ((u : Int) < 0) = false := decide_eq_false (by omega)
        have hd2 : decide ((os.length : Int) ≤ (u : Int)) = false := decide_eq_false (by omega)
        have hmo : Try.prog.follows .mixedOrders = true := by kernel_rfl
        obtain ⟨y, hy⟩ : ∃ y, addR a x = y := ⟨_, rfl⟩
        rw [hy] at HRU HSET
        clear hset hsn hx ha z2 hal hxl hM9 hg9 hpc e9 hy hjl cL cR cM h1 h2
        gi_wp2
        refine round_still_tail (by rintro ⟨a, w, h⟩; exact h) 10 hmo (by kernel_rfl) (by kernel_rfl) ?_
        simp only [List.take_succ_cons, List.take_zero, List.drop_succ_cons, List.drop_zero]
        repeat (first | still_step | still_call HRU.out)
        try refine wpStill_nil ?_
        go_wp2_with fail
        gi_wp2
        go_roundw
        case rel => exact ⟨j + 1, by omega, by go_num, HSET.out.ext (Ext.refl _).drew, (HG.out.trans (grown_set _ ⟨w.heap.size + 1 + 1, u, none⟩ _)).trans ⟨rfl, rfl, rfl, Nat.le_refl _, fun _ _ _ => rfl⟩⟩
        case measure => simp [intOf]; omega
      · obtain rfl : j = Q1 := by omega
        gi_wp2
        refine ⟨HG.out, ?_⟩
        have h9 := HM9.out
        rw [← HQ1.out, ← HLB.out, midL_all] at h9
        exact h9
  case done =>
    intro D W hD hO hX hK
    have h9 := hX.cell HC.out.2.2 (by show w.heap.size + 1 + 1 + 1 < _; omega) (by show w.heap.size + 1 + 1 + 1 ≠ _; omega)
    go_wp2_with fail
    refine ⟨by simp, .inl ⟨_, _, rfl, run_takeDeferred hK, ?_⟩⟩
    refine ⟨.slice (some ⟨w.heap.size + 1 + 1, 0, none⟩) os.length os.length, by simp [results, Try.results37, go_sem], ?_⟩
    refine ⟨some ⟨w.heap.size + 1 + 1, 0, none⟩, os.length, by rw [byN_len], by rw [byN_len]; exact hO.kept (grownBy_putObj' W D _) (.inr (fun e => absurd (show w.heap.size + 1 + 1 = D by simpa [Value.ownBlock] using e) (by omega))), ?_⟩
    exact (KeepsBut.ext HE.out hX (by omega) (by omega)).grown (grownBy_putObj' W D _) (fun r e => by cases e; omega)

end Go.Proofs.Ytkpbanfpnilifaa

/- The program's Totals and Back (scan). -/
namespace Go.Proofs.Ytkpbanfpnilifaa
open Go.BigFrame
open Go.RowKit Go.Proofs.Ytkpbanfpnilifaa.Plain

theorem Plain.addF_any : ∀ (l : List Nat) (s : Nat), s < 4294967296 → l.foldl addR s = (s + l.sum) % 4294967296
  | [], s, hs => by simp [Nat.mod_eq_of_lt hs]
  | x :: l, s, _ => by
    have h := addF_any l (addR s x) (Nat.mod_lt _ (by decide))
    rw [List.foldl_cons, h, List.sum_cons]
    unfold addR
    omega
theorem Plain.addF_tot (l : List Nat) : l.foldl addR 0 = totW l := by rw [addF_any l 0 (by decide), Nat.zero_add]; rfl
theorem Plain.blocks_at {n B u : Nat} (hn : n ≤ 1000) (h1 : 1 ≤ B) (h2 : B ≤ 100) (hu : u < blocksP n B) : u * B < n := by
  unfold blocksP at hu
  rw [if_pos (by omega), Int.toNat_natCast] at hu
  have h := (Nat.le_div_iff_mul_le (by omega : 0 < B)).1 (show u + 1 ≤ (n + B - 1) / B from hu)
  rw [Nat.add_mul, Nat.one_mul] at h
  omega
end Go.Proofs.Ytkpbanfpnilifaa

/- The program's drain: one that goes on: a step. Written by wip/mk_d6a.py. -/
namespace Go.Proofs.Ytkpbanfpnilifaa
open Go.BigFrame
open Go.RowKit Go.Proofs.Ytkpbanfpnilifaa.Plain

def D6P (w0 : World) (row : Option Nat) (V : Nat) (ve vo : Value) (B : Nat) (evs : List Ev) (ev : Ev) : Nat → World → List Value → Value → Prop
  | 0, w, ds, v => v = .pointer (some ⟨V, 0, none⟩)
  | 1, w, ds, v => v = .pointer (some ⟨V, 0, none⟩)
  | 2, w, ds, v => v = .pointer (some ⟨V, 0, none⟩)
  | 3, w, ds, v => v = .pointer (some ⟨V, 7, none⟩)
  | 4, w, ds, v => v = vo
  | 5, w, ds, v => v = ve
  | 6, w, ds, v => OneAt kEv w0.heap.size w v ev
  | 7, w, ds, v => AppAt kEv B w v (evs ++ [ev]) vo w0.heap.size
  | 8, w, ds, v => v = .pointer (some ⟨V, 0, none⟩)
  | 9, w, ds, v => v = .pointer (some ⟨V, 7, none⟩)
  | _, _, _, _ => True
theorem D6P_ext (w0 : World) (row : Option Nat) (V : Nat) (ve vo : Value) (B : Nat) (evs : List Ev) (ev : Ev) : ∀ i w w' ds v, D6P w0 row V ve vo B evs ev i w ds v → Ext w w' → D6P w0 row V ve vo B evs ev i w' ds v
  | 0, _, _, _, _, h, _ => h
  | 1, _, _, _, _, h, _ => h
  | 2, _, _, _, _, h, _ => h
  | 3, _, _, _, _, h, _ => h
  | 4, _, _, _, _, h, _ => h
  | 5, _, _, _, _, h, _ => h
  | 6, _, _, _, _, h, hE => OneAt.ext h hE
  | 7, _, _, _, _, h, hE => h.ext hE
  | 8, _, _, _, _, h, _ => h
  | 9, _, _, _, _, h, _ => h
  | _ + 10, _, _, _, _, _, _ => trivial
theorem D6P_sw (w0 : World) (row : Option Nat) (V : Nat) (ve vo : Value) (B : Nat) (evs : List Ev) (ev : Ev) (hrow : ∀ b, row = some b → b < w0.heap.size) : ∀ i w w' ds v, i ≠ 7 → D6P w0 row V ve vo B evs ev i w ds v → Wr row w w' → D6P w0 row V ve vo B evs ev i w' ds v
  | 0, _, _, _, _, _, h, _ => h
  | 1, _, _, _, _, _, h, _ => h
  | 2, _, _, _, _, _, h, _ => h
  | 3, _, _, _, _, _, h, _ => h
  | 4, _, _, _, _, _, h, _ => h
  | 5, _, _, _, _, _, h, _ => h
  | 6, _, _, _, _, _, h, hE => OneAt.sw h hE hrow
  | 7, _, _, _, _, hq, _, _ => absurd rfl hq
  | 8, _, _, _, _, _, h, _ => h
  | 9, _, _, _, _, _, h, _ => h
  | _ + 10, _, _, _, _, _, _, _ => trivial
section
variable (w0 : World) (row : Option Nat) (V : Nat) (ve vo : Value) (B : Nat) (evs : List Ev) (ev : Ev) (w : World) (ds : List Value) (v : Value)
theorem D6P_i0 (h : v = .pointer (some ⟨V, 0, none⟩)) : D6P w0 row V ve vo B evs ev 0 w ds v := h
theorem D6P_e0 (h : D6P w0 row V ve vo B evs ev 0 w ds v) : v = .pointer (some ⟨V, 0, none⟩) := h
theorem D6P_i1 (h : v = .pointer (some ⟨V, 0, none⟩)) : D6P w0 row V ve vo B evs ev 1 w ds v := h
theorem D6P_e1 (h : D6P w0 row V ve vo B evs ev 1 w ds v) : v = .pointer (some ⟨V, 0, none⟩) := h
theorem D6P_i2 (h : v = .pointer (some ⟨V, 0, none⟩)) : D6P w0 row V ve vo B evs ev 2 w ds v := h
theorem D6P_e2 (h : D6P w0 row V ve vo B evs ev 2 w ds v) : v = .pointer (some ⟨V, 0, none⟩) := h
theorem D6P_i3 (h : v = .pointer (some ⟨V, 7, none⟩)) : D6P w0 row V ve vo B evs ev 3 w ds v := h
theorem D6P_e3 (h : D6P w0 row V ve vo B evs ev 3 w ds v) : v = .pointer (some ⟨V, 7, none⟩) := h
theorem D6P_i4 (h : v = vo) : D6P w0 row V ve vo B evs ev 4 w ds v := h
theorem D6P_e4 (h : D6P w0 row V ve vo B evs ev 4 w ds v) : v = vo := h
theorem D6P_i5 (h : v = ve) : D6P w0 row V ve vo B evs ev 5 w ds v := h
theorem D6P_e5 (h : D6P w0 row V ve vo B evs ev 5 w ds v) : v = ve := h
theorem D6P_i6 (h : OneAt kEv w0.heap.size w v ev) : D6P w0 row V ve vo B evs ev 6 w ds v := h
theorem D6P_e6 (h : D6P w0 row V ve vo B evs ev 6 w ds v) : OneAt kEv w0.heap.size w v ev := h
theorem D6P_i7 (h : AppAt kEv B w v (evs ++ [ev]) vo w0.heap.size) : D6P w0 row V ve vo B evs ev 7 w ds v := h
theorem D6P_e7 (h : D6P w0 row V ve vo B evs ev 7 w ds v) : AppAt kEv B w v (evs ++ [ev]) vo w0.heap.size := h
theorem D6P_i8 (h : v = .pointer (some ⟨V, 0, none⟩)) : D6P w0 row V ve vo B evs ev 8 w ds v := h
theorem D6P_e8 (h : D6P w0 row V ve vo B evs ev 8 w ds v) : v = .pointer (some ⟨V, 0, none⟩) := h
theorem D6P_i9 (h : v = .pointer (some ⟨V, 7, none⟩)) : D6P w0 row V ve vo B evs ev 9 w ds v := h
theorem D6P_e9 (h : D6P w0 row V ve vo B evs ev 9 w ds v) : v = .pointer (some ⟨V, 7, none⟩) := h
end

theorem set_box7of8 {w : World} {P : Nat} {T : TypeId} {v0 v1 v2 v3 v4 v5 v6 v7 : Value} {fr : Nat × Nat} (h : w.heap[P]? = some (.cells #[v0, v1, v2, v3, v4, v5, v6, v7] T fr)) (u0 u1 u2 u3 u4 u5 u6 : Value) :
    ((((((((w.setCell ⟨P, 0, none⟩ (u0)).setCell ⟨P, 1, none⟩ (u1)).setCell ⟨P, 2, none⟩ (u2)).setCell ⟨P, 3, none⟩ (u3)).setCell ⟨P, 4, none⟩ (u4)).setCell ⟨P, 5, none⟩ (u5)).setCell ⟨P, 6, none⟩ (u6))).heap[P]? = some (.cells #[u0, u1, u2, u3, u4, u5, u6, v7] T fr) := by
  have h0 : ((w.setCell ⟨P, 0, none⟩ u0)).heap[P]? = some (.cells #[u0, v1, v2, v3, v4, v5, v6, v7] T fr) := by have := set_block (i := 0) h u0; simpa using this
  have h1 : (((w.setCell ⟨P, 0, none⟩ u0).setCell ⟨P, 1, none⟩ u1)).heap[P]? = some (.cells #[u0, u1, v2, v3, v4, v5, v6, v7] T fr) := by have := set_block (i := 1) h0 u1; simpa using this
  have h2 : ((((w.setCell ⟨P, 0, none⟩ u0).setCell ⟨P, 1, none⟩ u1).setCell ⟨P, 2, none⟩ u2)).heap[P]? = some (.cells #[u0, u1, u2, v3, v4, v5, v6, v7] T fr) := by have := set_block (i := 2) h1 u2; simpa using this
  have h3 : (((((w.setCell ⟨P, 0, none⟩ u0).setCell ⟨P, 1, none⟩ u1).setCell ⟨P, 2, none⟩ u2).setCell ⟨P, 3, none⟩ u3)).heap[P]? = some (.cells #[u0, u1, u2, u3, v4, v5, v6, v7] T fr) := by have := set_block (i := 3) h2 u3; simpa using this
  have h4 : ((((((w.setCell ⟨P, 0, none⟩ u0).setCell ⟨P, 1, none⟩ u1).setCell ⟨P, 2, none⟩ u2).setCell ⟨P, 3, none⟩ u3).setCell ⟨P, 4, none⟩ u4)).heap[P]? = some (.cells #[u0, u1, u2, u3, u4, v5, v6, v7] T fr) := by have := set_block (i := 4) h3 u4; simpa using this
  have h5 : (((((((w.setCell ⟨P, 0, none⟩ u0).setCell ⟨P, 1, none⟩ u1).setCell ⟨P, 2, none⟩ u2).setCell ⟨P, 3, none⟩ u3).setCell ⟨P, 4, none⟩ u4).setCell ⟨P, 5, none⟩ u5)).heap[P]? = some (.cells #[u0, u1, u2, u3, u4, u5, v6, v7] T fr) := by have := set_block (i := 5) h4 u5; simpa using this
  have h6 : ((((((((w.setCell ⟨P, 0, none⟩ u0).setCell ⟨P, 1, none⟩ u1).setCell ⟨P, 2, none⟩ u2).setCell ⟨P, 3, none⟩ u3).setCell ⟨P, 4, none⟩ u4).setCell ⟨P, 5, none⟩ u5).setCell ⟨P, 6, none⟩ u6)).heap[P]? = some (.cells #[u0, u1, u2, u3, u4, u5, u6, v7] T fr) := by have := set_block (i := 6) h5 u6; simpa using this
  exact h6

theorem blk_lt {w : World} {x : Nat} {o : Obj} (h : w.heap[x]? = some o) : x < w.heap.size := by
  rcases Nat.lt_or_ge x w.heap.size with h' | h'
  · exact h'
  · rw [Array.getElem?_eq_none h'] at h; cases h
/-- one that goes on to the end, at V: the crew, and what came; its memory has nothing to do with the blocks of S -/
structure DG (S : Nat → Prop) (w : World) (V g m : Nat) (c : Cw) (evs : List Ev) (v : Value) (A B : Option Addr) (e0 eo a b e : Nat) : Prop where
  me : m ≤ e
  box : w.heap[V]? = some (.cells #[.slice A c.ts.length a, .int .i64 g, .slice B c.dn.length b, .slice (some ⟨e0, eo, none⟩) m e, .bool c.over, .int .i64 c.st, .int .i64 c.id, v] 100)
  cr : CrewO (fun x => S x ∨ x = V ∨ v.ownBlock = some x) w m c A B e0 eo a b
  own : Ow kEv (V + 1) w v evs
theorem DG.ext {S : Nat → Prop} {w W : World} {V g m : Nat} {c : Cw} {evs : List Ev} {v : Value} {A B : Option Addr} {e0 eo a b e : Nat} (h : DG S w V g m c evs v A B e0 eo a b e) (hE : Ext w W) : DG S W V g m c evs v A B e0 eo a b e :=
  ⟨h.me, block_keep h.box hE, h.cr.ext hE, h.own.ext hE⟩
/-- what a step leaves -/
def DStepSaid (S : Nat → Prop) (V g m : Nat) (r : Cw × Ev) (evs : List Ev) (w : World) (ed : Ending) (w' : World) : Prop :=
  ∃ (v' : Value) (A B : Option Addr) (e0 a b : Nat), ed = .returned (.int .i64 0) ∧ DG S w' V g m r.1 (evs ++ [r.2]) v' A B e0 0 a b m ∧ Grew (fun x => V ≤ x) w w'

set_option maxHeartbeats 1600000 in
set_option maxRecDepth 100000 in
theorem dstep_any (S : Nat → Prop) (V g n m : Nat) (c : Cw) (evs : List Ev) (v : Value) (A B : Option Addr) (e0 eo a b e : Nat) (p q : Int) (w : World) (hS : ∀ x, S x → x < V) (h : DG S w V g m c evs v A B e0 eo a b e) (hI : ∃ done G, CwI g n m c done G)
    (n1 : 1 ≤ n) (n2 : n ≤ 900) (g1 : 1 ≤ g) (g2 : g ≤ 100) (m1 : 1 ≤ m) (m2 : m ≤ 8) (hst : c.st < 100000) (hid : c.id < 100000) (hp : in64 p) (hq : in64 q) (hl : evs.length ≤ 200000) :
    Calls Try.prog 47 #[.pointer (some ⟨V, 0, none⟩), .int .i64 p, .int .i64 q] w (DStepSaid S V g m (stepP g m c p q) evs w) := by
  obtain ⟨done, G, hI⟩ := hI
  have H := Lib.hid h
  have HI := Lib.hid hI
  have HS := Lib.hid hS
  have HPQ := Lib.hid (And.intro hp hq)
  have k0 : w.cell? ⟨V, 0, none⟩ = some (.slice A c.ts.length a) := (cell_of_row w (V) 0 _ _ _ h.box).trans rfl
  have k1 : w.cell? ⟨V, 1, none⟩ = some (.int .i64 g) := (cell_of_row w (V) 1 _ _ _ h.box).trans rfl
  have k2 : w.cell? ⟨V, 2, none⟩ = some (.slice B c.dn.length b) := (cell_of_row w (V) 2 _ _ _ h.box).trans rfl
  have k3 : w.cell? ⟨V, 3, none⟩ = some (.slice (some ⟨e0, eo, none⟩) m e) := (cell_of_row w (V) 3 _ _ _ h.box).trans rfl
  have k4 : w.cell? ⟨V, 4, none⟩ = some (.bool c.over) := (cell_of_row w (V) 4 _ _ _ h.box).trans rfl
  have k5 : w.cell? ⟨V, 5, none⟩ = some (.int .i64 c.st) := (cell_of_row w (V) 5 _ _ _ h.box).trans rfl
  have k6 : w.cell? ⟨V, 6, none⟩ = some (.int .i64 c.id) := (cell_of_row w (V) 6 _ _ _ h.box).trans rfl
  have k7 : w.cell? ⟨V, 7, none⟩ = some (v) := (cell_of_row w (V) 7 _ _ _ h.box).trans rfl
  have kf := fun o => frozen_of_row w (V) o _ _ h.box
  have lV := blk_lt h.box
  have HOKE : Hid (kEv.ok (stepP g m c p q).2) := Lib.hid (HI.out.evOk g1 n1 n2 m1 m2 _ _)
  obtain ⟨⟨c5, ev⟩, hr⟩ : ∃ x, stepP g m c p q = x := ⟨_, rfl⟩
  have HR := Lib.hid hr
  rw [hr] at HOKE ⊢
  clear h hI hS hp hq hr
  go_enter Try.func47, Try.ntmps47
  go_wp2_with fail
  have hh := cstep_any A B e0 eo a b e g n m c done G p q w (H.out.cr.at_ m1) H.out.me HI.out n1 n2 g1 g2 m1 m2 hst hid HPQ.out.1 HPQ.out.2
  refine hh.mono ?_
  clear hh
  rw [HR.out]
  rintro ed w1 ⟨A5, B5, e5, a5, b5, rfl, hC, hE⟩
  have hz := hE.size
  have HC := Lib.hid hC
  have HE := Lib.hid hE
  have HOK : Hid (kEv.ok ev) := HOKE
  have HB1 := Lib.hid (block_keep H.out.box hE)
  have lV1 : V < w1.heap.size := by omega
  have l0 : w1.cell? ⟨V, 0, none⟩ = some (.slice A c.ts.length a) := (cell_of_row w1 (V) 0 _ _ _ HB1.out).trans rfl
  have l1 : w1.cell? ⟨V, 1, none⟩ = some (.int .i64 g) := (cell_of_row w1 (V) 1 _ _ _ HB1.out).trans rfl
  have l2 : w1.cell? ⟨V, 2, none⟩ = some (.slice B c.dn.length b) := (cell_of_row w1 (V) 2 _ _ _ HB1.out).trans rfl
  have l3 : w1.cell? ⟨V, 3, none⟩ = some (.slice (some ⟨e0, eo, none⟩) m e) := (cell_of_row w1 (V) 3 _ _ _ HB1.out).trans rfl
  have l4 : w1.cell? ⟨V, 4, none⟩ = some (.bool c.over) := (cell_of_row w1 (V) 4 _ _ _ HB1.out).trans rfl
  have l5 : w1.cell? ⟨V, 5, none⟩ = some (.int .i64 c.st) := (cell_of_row w1 (V) 5 _ _ _ HB1.out).trans rfl
  have l6 : w1.cell? ⟨V, 6, none⟩ = some (.int .i64 c.id) := (cell_of_row w1 (V) 6 _ _ _ HB1.out).trans rfl
  have l7 : w1.cell? ⟨V, 7, none⟩ = some (v) := (cell_of_row w1 (V) 7 _ _ _ HB1.out).trans rfl
  have lf := fun o => frozen_of_row w1 (V) o _ _ HB1.out
  clear hC hE k0 k1 k2 k3 k4 k5 k6 k7 kf
  go_upto_region 5 with fail
  have HG8 : Hid (Grew (fun x => x = V) w1 ((((((((w1.setCell ⟨V, 0, none⟩ (.slice A5 c5.ts.length a5)).setCell ⟨V, 1, none⟩ (.int .i64 g)).setCell ⟨V, 2, none⟩ (.slice B5 c5.dn.length b5)).setCell ⟨V, 3, none⟩ (.slice (some ⟨e5, 0, none⟩) m m)).setCell ⟨V, 4, none⟩ (.bool c5.over)).setCell ⟨V, 5, none⟩ (.int .i64 c5.st)).setCell ⟨V, 6, none⟩ (.int .i64 c5.id)))) := Lib.hid (Grew.setCell (S := fun x => x = V) (p := ⟨V, 6, none⟩) (Grew.setCell (S := fun x => x = V) (p := ⟨V, 5, none⟩) (Grew.setCell (S := fun x => x = V) (p := ⟨V, 4, none⟩) (Grew.setCell (S := fun x => x = V) (p := ⟨V, 3, none⟩) (Grew.setCell (S := fun x => x = V) (p := ⟨V, 2, none⟩) (Grew.setCell (S := fun x => x = V) (p := ⟨V, 1, none⟩) (Grew.setCell (S := fun x => x = V) (p := ⟨V, 0, none⟩) (Grew.refl _ _) rfl _) rfl _) rfl _) rfl _) rfl _) rfl _) rfl _)
  have HE2 : Hid (Ext ((((((((w1.setCell ⟨V, 0, none⟩ (.slice A5 c5.ts.length a5)).setCell ⟨V, 1, none⟩ (.int .i64 g)).setCell ⟨V, 2, none⟩ (.slice B5 c5.dn.length b5)).setCell ⟨V, 3, none⟩ (.slice (some ⟨e5, 0, none⟩) m m)).setCell ⟨V, 4, none⟩ (.bool c5.over)).setCell ⟨V, 5, none⟩ (.int .i64 c5.st)).setCell ⟨V, 6, none⟩ (.int .i64 c5.id))) ((((((((((w1.setCell ⟨V, 0, none⟩ (.slice A5 c5.ts.length a5)).setCell ⟨V, 1, none⟩ (.int .i64 g)).setCell ⟨V, 2, none⟩ (.slice B5 c5.dn.length b5)).setCell ⟨V, 3, none⟩ (.slice (some ⟨e5, 0, none⟩) m m)).setCell ⟨V, 4, none⟩ (.bool c5.over)).setCell ⟨V, 5, none⟩ (.int .i64 c5.st)).setCell ⟨V, 6, none⟩ (.int .i64 c5.id)).alloc (.cells #[.slice A5 c5.ts.length a5, .int .i64 g, .slice B5 c5.dn.length b5, .slice (some ⟨e5, 0, none⟩) m m, .bool c5.over, .int .i64 c5.st, .int .i64 c5.id] 81)).alloc (.cells #[.int .i64 ev.wk, .int .i64 ev.fr, .int .i64 ev.tk, .bool ev.pt] 104)))) := Lib.hid (((Ext.refl _).alloc _).alloc _)
  have HBX : Hid (((((((((((w1.setCell ⟨V, 0, none⟩ (.slice A5 c5.ts.length a5)).setCell ⟨V, 1, none⟩ (.int .i64 g)).setCell ⟨V, 2, none⟩ (.slice B5 c5.dn.length b5)).setCell ⟨V, 3, none⟩ (.slice (some ⟨e5, 0, none⟩) m m)).setCell ⟨V, 4, none⟩ (.bool c5.over)).setCell ⟨V, 5, none⟩ (.int .i64 c5.st)).setCell ⟨V, 6, none⟩ (.int .i64 c5.id)).alloc (.cells #[.slice A5 c5.ts.length a5, .int .i64 g, .slice B5 c5.dn.length b5, .slice (some ⟨e5, 0, none⟩) m m, .bool c5.over, .int .i64 c5.st, .int .i64 c5.id] 81)).alloc (.cells #[.int .i64 ev.wk, .int .i64 ev.fr, .int .i64 ev.tk, .bool ev.pt] 104))).heap[V]? = some (.cells #[.slice A5 c5.ts.length a5, .int .i64 g, .slice B5 c5.dn.length b5, .slice (some ⟨e5, 0, none⟩) m m, .bool c5.over, .int .i64 c5.st, .int .i64 c5.id, v] 100)) := Lib.hid (block_keep (set_box7of8 HB1.out _ _ _ _ _ _ _) HE2.out)
  have HBY : Hid (((((((((((w1.setCell ⟨V, 0, none⟩ (.slice A5 c5.ts.length a5)).setCell ⟨V, 1, none⟩ (.int .i64 g)).setCell ⟨V, 2, none⟩ (.slice B5 c5.dn.length b5)).setCell ⟨V, 3, none⟩ (.slice (some ⟨e5, 0, none⟩) m m)).setCell ⟨V, 4, none⟩ (.bool c5.over)).setCell ⟨V, 5, none⟩ (.int .i64 c5.st)).setCell ⟨V, 6, none⟩ (.int .i64 c5.id)).alloc (.cells #[.slice A5 c5.ts.length a5, .int .i64 g, .slice B5 c5.dn.length b5, .slice (some ⟨e5, 0, none⟩) m m, .bool c5.over, .int .i64 c5.st, .int .i64 c5.id] 81)).alloc (.cells #[.int .i64 ev.wk, .int .i64 ev.fr, .int .i64 ev.tk, .bool ev.pt] 104))).heap[w1.heap.size + 1]? = some (.cells #[.int .i64 ev.wk, .int .i64 ev.fr, .int .i64 ev.tk, .bool ev.pt] 104)) := Lib.hid (by
    have h9 := heap_alloc2_new ((((((((w1.setCell ⟨V, 0, none⟩ (.slice A5 c5.ts.length a5)).setCell ⟨V, 1, none⟩ (.int .i64 g)).setCell ⟨V, 2, none⟩ (.slice B5 c5.dn.length b5)).setCell ⟨V, 3, none⟩ (.slice (some ⟨e5, 0, none⟩) m m)).setCell ⟨V, 4, none⟩ (.bool c5.over)).setCell ⟨V, 5, none⟩ (.int .i64 c5.st)).setCell ⟨V, 6, none⟩ (.int .i64 c5.id))) (.cells #[.slice A5 c5.ts.length a5, .int .i64 g, .slice B5 c5.dn.length b5, .slice (some ⟨e5, 0, none⟩) m m, .bool c5.over, .int .i64 c5.st, .int .i64 c5.id] 81) (.cells #[.int .i64 ev.wk, .int .i64 ev.fr, .int .i64 ev.tk, .bool ev.pt] 104)
    rw [show ((((((((w1.setCell ⟨V, 0, none⟩ (.slice A5 c5.ts.length a5)).setCell ⟨V, 1, none⟩ (.int .i64 g)).setCell ⟨V, 2, none⟩ (.slice B5 c5.dn.length b5)).setCell ⟨V, 3, none⟩ (.slice (some ⟨e5, 0, none⟩) m m)).setCell ⟨V, 4, none⟩ (.bool c5.over)).setCell ⟨V, 5, none⟩ (.int .i64 c5.st)).setCell ⟨V, 6, none⟩ (.int .i64 c5.id))).heap.size = w1.heap.size by simp] at h9
    exact h9)
  have hz8 : ((((((((((w1.setCell ⟨V, 0, none⟩ (.slice A5 c5.ts.length a5)).setCell ⟨V, 1, none⟩ (.int .i64 g)).setCell ⟨V, 2, none⟩ (.slice B5 c5.dn.length b5)).setCell ⟨V, 3, none⟩ (.slice (some ⟨e5, 0, none⟩) m m)).setCell ⟨V, 4, none⟩ (.bool c5.over)).setCell ⟨V, 5, none⟩ (.int .i64 c5.st)).setCell ⟨V, 6, none⟩ (.int .i64 c5.id)).alloc (.cells #[.slice A5 c5.ts.length a5, .int .i64 g, .slice B5 c5.dn.length b5, .slice (some ⟨e5, 0, none⟩) m m, .bool c5.over, .int .i64 c5.st, .int .i64 c5.id] 81)).alloc (.cells #[.int .i64 ev.wk, .int .i64 ev.fr, .int .i64 ev.tk, .bool ev.pt] 104))).heap.size = w1.heap.size + 2 := by simp
  have HGW : Hid (Grew (fun x => x = V) w1 ((((((((((w1.setCell ⟨V, 0, none⟩ (.slice A5 c5.ts.length a5)).setCell ⟨V, 1, none⟩ (.int .i64 g)).setCell ⟨V, 2, none⟩ (.slice B5 c5.dn.length b5)).setCell ⟨V, 3, none⟩ (.slice (some ⟨e5, 0, none⟩) m m)).setCell ⟨V, 4, none⟩ (.bool c5.over)).setCell ⟨V, 5, none⟩ (.int .i64 c5.st)).setCell ⟨V, 6, none⟩ (.int .i64 c5.id)).alloc (.cells #[.slice A5 c5.ts.length a5, .int .i64 g, .slice B5 c5.dn.length b5, .slice (some ⟨e5, 0, none⟩) m m, .bool c5.over, .int .i64 c5.st, .int .i64 c5.id] 81)).alloc (.cells #[.int .i64 ev.wk, .int .i64 ev.fr, .int .i64 ev.tk, .bool ev.pt] 104)))) := Lib.hid (HG8.out.ext HE2.out)
  clear HE2 HG8 l0 l1 l2 l3 l4 l5 l6 l7 lf HB1
  generalize (((((((((w1.setCell ⟨V, 0, none⟩ (.slice A5 c5.ts.length a5)).setCell ⟨V, 1, none⟩ (.int .i64 g)).setCell ⟨V, 2, none⟩ (.slice B5 c5.dn.length b5)).setCell ⟨V, 3, none⟩ (.slice (some ⟨e5, 0, none⟩) m m)).setCell ⟨V, 4, none⟩ (.bool c5.over)).setCell ⟨V, 5, none⟩ (.int .i64 c5.st)).setCell ⟨V, 6, none⟩ (.int .i64 c5.id)).alloc (.cells #[.slice A5 c5.ts.length a5, .int .i64 g, .slice B5 c5.dn.length b5, .slice (some ⟨e5, 0, none⟩) m m, .bool c5.over, .int .i64 c5.st, .int .i64 c5.id] 81)).alloc (.cells #[.int .i64 ev.wk, .int .i64 ev.fr, .int .i64 ev.tk, .bool ev.pt] 104)) = w8 at *
  have x0 : w8.cell? ⟨V, 0, none⟩ = some (.slice A5 c5.ts.length a5) := (cell_of_row w8 (V) 0 _ _ _ HBX.out).trans rfl
  have x1 : w8.cell? ⟨V, 1, none⟩ = some (.int .i64 g) := (cell_of_row w8 (V) 1 _ _ _ HBX.out).trans rfl
  have x2 : w8.cell? ⟨V, 2, none⟩ = some (.slice B5 c5.dn.length b5) := (cell_of_row w8 (V) 2 _ _ _ HBX.out).trans rfl
  have x3 : w8.cell? ⟨V, 3, none⟩ = some (.slice (some ⟨e5, 0, none⟩) m m) := (cell_of_row w8 (V) 3 _ _ _ HBX.out).trans rfl
  have x4 : w8.cell? ⟨V, 4, none⟩ = some (.bool c5.over) := (cell_of_row w8 (V) 4 _ _ _ HBX.out).trans rfl
  have x5 : w8.cell? ⟨V, 5, none⟩ = some (.int .i64 c5.st) := (cell_of_row w8 (V) 5 _ _ _ HBX.out).trans rfl
  have x6 : w8.cell? ⟨V, 6, none⟩ = some (.int .i64 c5.id) := (cell_of_row w8 (V) 6 _ _ _ HBX.out).trans rfl
  have x7 : w8.cell? ⟨V, 7, none⟩ = some (v) := (cell_of_row w8 (V) 7 _ _ _ HBX.out).trans rfl
  have xf := fun o => frozen_of_row w8 (V) o _ _ HBX.out
  have y0 : w8.cell? ⟨w1.heap.size + 1, 0, none⟩ = some (.int .i64 ev.wk) := (cell_of_row w8 (w1.heap.size + 1) 0 _ _ _ HBY.out).trans rfl
  have y1 : w8.cell? ⟨w1.heap.size + 1, 1, none⟩ = some (.int .i64 ev.fr) := (cell_of_row w8 (w1.heap.size + 1) 1 _ _ _ HBY.out).trans rfl
  have y2 : w8.cell? ⟨w1.heap.size + 1, 2, none⟩ = some (.int .i64 ev.tk) := (cell_of_row w8 (w1.heap.size + 1) 2 _ _ _ HBY.out).trans rfl
  have y3 : w8.cell? ⟨w1.heap.size + 1, 3, none⟩ = some (.bool ev.pt) := (cell_of_row w8 (w1.heap.size + 1) 3 _ _ _ HBY.out).trans rfl
  have yf := fun o => frozen_of_row w8 (w1.heap.size + 1) o _ _ HBY.out
  obtain ⟨Ao, co, hv, hco⟩ := H.out.own.slice
  obtain ⟨no, hno⟩ : ∃ no, evs.length = no := ⟨_, rfl⟩
  rw [hno] at hv hco
  subst hv
  obtain ⟨row, hrw⟩ : ∃ row, Value.ownBlock (.slice Ao no co) = row := ⟨_, rfl⟩
  have hrlt : ∀ x, row = some x → V + 1 ≤ x ∧ x < w.heap.size := fun x hx => H.out.own.lt x (hrw.trans hx)
  have hrow : ∀ x, row = some x → x < w8.heap.size := fun x hx => by have := hrlt x hx; omega
  have nV : ¬ row = some V := fun hh => by have := hrlt _ hh; omega
  have nY : ¬ row = some (w1.heap.size + 1) := fun hh => by have := hrlt _ hh; omega
  have HRL := Lib.hid hrlt
  have HO8 : Hid (Ow kEv (V + 1) w8 (.slice Ao no co) evs) := Lib.hid ((H.out.own.ext HE.out).grew HGW.out (fun x hx e => by have := (H.out.own.lt x hx).1; omega))
  have HLL : Hid (evs.length + [ev].length ≤ 1048576) := Lib.hid (by simp; omega)
  have HBS : Hid (V + 1 ≤ w8.heap.size) := Lib.hid (by omega)
  have lV8 : V < w8.heap.size := by omega
  clear hno hco hrlt
  refine MonoW.wp_region_write 10 7 (Wr row) (D6P w8 row V (.agg #[.int .i64 ev.wk, .int .i64 ev.fr, .int .i64 ev.tk, .bool ev.pt]) (.slice Ao no co) (V + 1) evs ev) (by kernel_rfl) (by kernel_rfl) (Wr.of row) (Wr.tr row) (D6P_ext w8 row V (.agg #[.int .i64 ev.wk, .int .i64 ev.fr, .int .i64 ev.tk, .bool ev.pt]) (.slice Ao no co) (V + 1) evs ev) (D6P_sw w8 row V (.agg #[.int .i64 ev.wk, .int .i64 ev.fr, .int .i64 ev.tk, .bool ev.pt]) (.slice Ao no co) (V + 1) evs ev hrow) ?_ ?_
  · intro i o hi ho vals w5 hE hQ hcl
    have hi' : i = 0 ∨ i = 1 ∨ i = 2 ∨ i = 3 ∨ i = 4 ∨ i = 5 ∨ i = 6 ∨ i = 7 ∨ i = 8 ∨ i = 9 := by omega
    rcases hi' with rfl | rfl | rfl | rfl | rfl | rfl | rfl | rfl | rfl | rfl
    · simp only [List.getElem?_cons_succ, List.getElem?_cons_zero, Option.some.injEq] at ho
      subst ho
      rw [if_pos (Mono.wanted_none rfl)]
      clear hcl
      refine Mono.yields_same (.pointer (some ⟨V, 0, none⟩)) w5 ?_ ⟨MonoW.Out.of (Wr.of row) (Ext.refl _), D6P_i0 _ _ _ _ _ _ _ _ _ _ _ rfl⟩
      simp only [Mono.all, List.take, Act.put]
      go_simp
    · simp only [List.getElem?_cons_succ, List.getElem?_cons_zero, Option.some.injEq] at ho
      subst ho
      rw [if_pos (Mono.wanted_none rfl)]
      clear hcl
      refine Mono.yields_same (.pointer (some ⟨V, 0, none⟩)) w5 ?_ ⟨MonoW.Out.of (Wr.of row) (Ext.refl _), D6P_i1 _ _ _ _ _ _ _ _ _ _ _ rfl⟩
      simp only [Mono.all, List.take, Act.put]
      go_simp
    · simp only [List.getElem?_cons_succ, List.getElem?_cons_zero, Option.some.injEq] at ho
      subst ho
      rw [if_pos (Mono.wanted_none rfl)]
      have h1 : vals 1 = .pointer (some ⟨V, 0, none⟩) := D6P_e1 _ _ _ _ _ _ _ _ _ _ _ (hcl 1 (by kernel_rfl))
      clear hcl
      refine Mono.yields_same (.pointer (some ⟨V, 0, none⟩)) w5 ?_ ⟨MonoW.Out.of (Wr.of row) (Ext.refl _), D6P_i2 _ _ _ _ _ _ _ _ _ _ _ rfl⟩
      simp only [Mono.all, List.take, Act.put]
      go_simp
    · simp only [List.getElem?_cons_succ, List.getElem?_cons_zero, Option.some.injEq] at ho
      subst ho
      rw [if_pos (Mono.wanted_none rfl)]
      have h2 : vals 2 = .pointer (some ⟨V, 0, none⟩) := D6P_e2 _ _ _ _ _ _ _ _ _ _ _ (hcl 2 (by kernel_rfl))
      clear hcl
      refine Mono.yields_same (.pointer (some ⟨V, 7, none⟩)) w5 ?_ ⟨MonoW.Out.of (Wr.of row) (Ext.refl _), D6P_i3 _ _ _ _ _ _ _ _ _ _ _ rfl⟩
      simp only [Mono.all, List.take, Act.put]
      go_simp
    · simp only [List.getElem?_cons_succ, List.getElem?_cons_zero, Option.some.injEq] at ho
      subst ho
      rw [if_pos (Mono.wanted_none rfl)]
      have h3 : vals 3 = .pointer (some ⟨V, 7, none⟩) := D6P_e3 _ _ _ _ _ _ _ _ _ _ _ (hcl 3 (by kernel_rfl))
      have l7 := hE.cell x7 nV
      clear hcl
      refine Mono.yields_same (.slice Ao no co) w5 ?_ ⟨MonoW.Out.of (Wr.of row) (Ext.refl _), D6P_i4 _ _ _ _ _ _ _ _ _ _ _ rfl⟩
      simp only [Mono.all, List.take, Act.put]
      go_simp
    · simp only [List.getElem?_cons_succ, List.getElem?_cons_zero, Option.some.injEq] at ho
      subst ho
      rw [if_pos (Mono.wanted_none rfl)]
      have l0 := hE.cell y0 nY
      have l1 := hE.cell y1 nY
      have l2 := hE.cell y2 nY
      have l3 := hE.cell y3 nY
      clear hcl
      refine Mono.yields_same (.agg #[.int .i64 ev.wk, .int .i64 ev.fr, .int .i64 ev.tk, .bool ev.pt]) w5 ?_ ⟨MonoW.Out.of (Wr.of row) (Ext.refl _), D6P_i5 _ _ _ _ _ _ _ _ _ _ _ rfl⟩
      simp only [Mono.all, List.take, Act.put]
      go_simp
    · simp only [List.getElem?_cons_succ, List.getElem?_cons_zero, Option.some.injEq] at ho
      subst ho
      rw [if_pos (Mono.wanted_none rfl)]
      have h2 : vals 5 = .agg #[.int .i64 ev.wk, .int .i64 ev.fr, .int .i64 ev.tk, .bool ev.pt] := (D6P_e5 _ _ _ _ _ _ _ _ _ _ _ (hcl 5 (by kernel_rfl)))
      clear hcl
      refine Mono.yields_same (.slice (some ⟨w5.heap.size, 0, none⟩) 1 1) (w5.alloc (.cells #[.int .i64 ev.wk, .int .i64 ev.fr, .int .i64 ev.tk, .bool ev.pt] kEv.e)) ?_ ⟨MonoW.Out.of (Wr.of row) ((Ext.refl _).alloc _), D6P_i6 _ _ _ _ _ _ _ _ _ _ _ (OneAt.made kEv w5 hE.size _ _ rfl HOKE.out)⟩
      simp only [Mono.all, List.take, Act.put, kEv]
      go_simp
    · simp only [List.getElem?_cons_succ, List.getElem?_cons_zero, Option.some.injEq] at ho
      subst ho
      rw [if_pos (Mono.wanted_none rfl)]
      obtain ⟨p, h3, o3⟩ := (D6P_e6 _ _ _ _ _ _ _ _ _ _ _ (hcl 6 (by kernel_rfl)))
      have h1 : vals 4 = .slice Ao no co := (D6P_e4 _ _ _ _ _ _ _ _ _ _ _ (hcl 4 (by kernel_rfl)))
      have hX := hQ rfl
      clear hcl
      refine Kd.yields_grow kEv (B := V + 1) (n := w8.heap.size) (q := 7) (.tmp 32) (.tmp 34) (v := .slice Ao no co) (y := .slice (some ⟨p, 0, none⟩) 1 1) (xs := evs) (ys := [ev]) (HO8.out.ext hX) o3.rd HLL.out (Nat.le_trans HBS.out hX.size) hX.size rfl rfl (by rw [← h1]; kernel_rfl) (by rw [← h3]; kernel_rfl) ?_
      intro v' w' hA hO
      exact ⟨by rw [← hrw]; exact hO, D6P_i7 _ _ _ _ _ _ _ _ _ _ _ hA⟩
    · simp only [List.getElem?_cons_succ, List.getElem?_cons_zero, Option.some.injEq] at ho
      subst ho
      rw [if_pos (Mono.wanted_none rfl)]
      have h0 : vals 0 = .pointer (some ⟨V, 0, none⟩) := D6P_e0 _ _ _ _ _ _ _ _ _ _ _ (hcl 0 (by kernel_rfl))
      clear hcl
      refine Mono.yields_same (.pointer (some ⟨V, 0, none⟩)) w5 ?_ ⟨MonoW.Out.of (Wr.of row) (Ext.refl _), D6P_i8 _ _ _ _ _ _ _ _ _ _ _ rfl⟩
      simp only [Mono.all, List.take, Act.put]
      go_simp
    · simp only [List.getElem?_cons_succ, List.getElem?_cons_zero, Option.some.injEq] at ho
      subst ho
      rw [if_pos (Mono.wanted_none rfl)]
      have h8 : vals 8 = .pointer (some ⟨V, 0, none⟩) := D6P_e8 _ _ _ _ _ _ _ _ _ _ _ (hcl 8 (by kernel_rfl))
      clear hcl
      refine Mono.yields_same (.pointer (some ⟨V, 7, none⟩)) w5 ?_ ⟨MonoW.Out.of (Wr.of row) (Ext.refl _), D6P_i9 _ _ _ _ _ _ _ _ _ _ _ rfl⟩
      simp only [Mono.all, List.take, Act.put]
      go_simp
  · intro vals w5 hE hv
    have hA := (D6P_e7 _ _ _ _ _ _ _ _ _ _ _ (hv 7 (by omega)))
    have ee9 := (D6P_e9 _ _ _ _ _ _ _ _ _ _ _ (hv 9 (by omega)))
    obtain ⟨Az, cz, ee7, hcz⟩ := hA.1.slice
    obtain ⟨nz, hnz⟩ : ∃ nz, (evs ++ [ev]).length = nz := ⟨_, rfl⟩
    rw [hnz] at ee7
    rw [ee7] at hA
    have HA := Lib.hid hA
    have HG := Lib.hid hE
    have hbP : w5.heap[V]? = some (.cells #[.slice A5 c5.ts.length a5, .int .i64 g, .slice B5 c5.dn.length b5, .slice (some ⟨e5, 0, none⟩) m m, .bool c5.over, .int .i64 c5.st, .int .i64 c5.id, .slice Ao no co] 100) := block_wr HBX.out hE nV
    have z0 : w5.cell? ⟨V, 0, none⟩ = some (.slice A5 c5.ts.length a5) := (cell_of_row w5 (V) 0 _ _ _ hbP).trans rfl
    have z1 : w5.cell? ⟨V, 1, none⟩ = some (.int .i64 g) := (cell_of_row w5 (V) 1 _ _ _ hbP).trans rfl
    have z2 : w5.cell? ⟨V, 2, none⟩ = some (.slice B5 c5.dn.length b5) := (cell_of_row w5 (V) 2 _ _ _ hbP).trans rfl
    have z3 : w5.cell? ⟨V, 3, none⟩ = some (.slice (some ⟨e5, 0, none⟩) m m) := (cell_of_row w5 (V) 3 _ _ _ hbP).trans rfl
    have z4 : w5.cell? ⟨V, 4, none⟩ = some (.bool c5.over) := (cell_of_row w5 (V) 4 _ _ _ hbP).trans rfl
    have z5 : w5.cell? ⟨V, 5, none⟩ = some (.int .i64 c5.st) := (cell_of_row w5 (V) 5 _ _ _ hbP).trans rfl
    have z6 : w5.cell? ⟨V, 6, none⟩ = some (.int .i64 c5.id) := (cell_of_row w5 (V) 6 _ _ _ hbP).trans rfl
    have z7 : w5.cell? ⟨V, 7, none⟩ = some (.slice Ao no co) := (cell_of_row w5 (V) 7 _ _ _ hbP).trans rfl
    have zf := fun o => frozen_of_row w5 (V) o _ _ hbP
    have HBP := Lib.hid hbP
    have lV5 : V < w5.heap.size := blk_lt hbP
    clear hA hbP hE hcz hnz
    simp only [Mono.all, List.take, List.drop, Act.put]
    go_wp2_with fail
    go_ret
    have hGV : Grew (fun x => x = V) w5 (w5.setCell ⟨V, 7, none⟩ (.slice Az nz cz)) := Grew.setCell (S := fun x => x = V) (p := ⟨V, 7, none⟩) (Grew.refl _ _) rfl _
    have hGr : Grew (fun x => x = V ∨ row = some x) w8 (w5.setCell ⟨V, 7, none⟩ (.slice Az nz cz)) := (HG.out.mono (fun x _ hx => .inr hx)).trans (hGV.mono (fun x _ hx => .inl hx))
    have hGA : Grew (fun x => x = V ∨ row = some x) w1 (w5.setCell ⟨V, 7, none⟩ (.slice Az nz cz)) := (HGW.out.mono (fun x _ hx => .inl hx)).trans hGr
    refine ⟨.slice Az nz cz, A5, B5, e5, a5, b5, rfl, ⟨Nat.le_refl _, ?_, ?_, ?_⟩, ?_⟩
    · have h9 := set_block (i := 7) HBP.out (.slice Az nz cz)
      simpa using h9
    · refine HC.out.later m1 (hGA.mono (fun x hx hh => ?_)) (fun x hx hT => ?_)
      · rcases hh with hh | hh
        · omega
        · have := (HRL.out x hh).2; omega
      · rcases hT with hT | hT | hT
        · have := HS.out x hT; omega
        · omega
        · rcases HA.out.2 with h9 | ⟨p, h9, h10⟩
          · rw [h9, hrw] at hT
            have := (HRL.out x hT).2; omega
          · rw [h9] at hT; cases hT; omega
    · exact HA.out.1.grew hGV (fun x hx e => by have := (HA.out.1.lt x hx).1; omega)
    · exact (Grew.of HE.out).trans (hGA.mono (fun x _ hx => by
        rcases hx with hx | hx
        · omega
        · have := (HRL.out x hx).1; omega))

set_option maxRecDepth 100000 in
theorem dholds_yes (S : Nat → Prop) (V g m : Nat) (c : Cw) (evs : List Ev) (v : Value) (A B : Option Addr) (e0 eo a b e : Nat) (w : World) (h : DG S w V g m c evs v A B e0 eo a b e) (m1 : 1 ≤ m) (m2 : m ≤ 8) (hp : 0 < (held c.D).length) (hl : (held c.D).length ≤ 1000000) :
    Calls Try.prog 51 #[.pointer (some ⟨V, 0, none⟩)] w fun ed w' => ed = .returned (.bool true) ∧ Ext w w' := by
  have H := Lib.hid h
  have k0 : w.cell? ⟨V, 0, none⟩ = some (.slice A c.ts.length a) := (cell_of_row w (V) 0 _ _ _ h.box).trans rfl
  have k1 : w.cell? ⟨V, 1, none⟩ = some (.int .i64 g) := (cell_of_row w (V) 1 _ _ _ h.box).trans rfl
  have k2 : w.cell? ⟨V, 2, none⟩ = some (.slice B c.dn.length b) := (cell_of_row w (V) 2 _ _ _ h.box).trans rfl
  have k3 : w.cell? ⟨V, 3, none⟩ = some (.slice (some ⟨e0, eo, none⟩) m e) := (cell_of_row w (V) 3 _ _ _ h.box).trans rfl
  have k4 : w.cell? ⟨V, 4, none⟩ = some (.bool c.over) := (cell_of_row w (V) 4 _ _ _ h.box).trans rfl
  have k5 : w.cell? ⟨V, 5, none⟩ = some (.int .i64 c.st) := (cell_of_row w (V) 5 _ _ _ h.box).trans rfl
  have k6 : w.cell? ⟨V, 6, none⟩ = some (.int .i64 c.id) := (cell_of_row w (V) 6 _ _ _ h.box).trans rfl
  have k7 : w.cell? ⟨V, 7, none⟩ = some (v) := (cell_of_row w (V) 7 _ _ _ h.box).trans rfl
  have kf := fun o => frozen_of_row w (V) o _ _ h.box
  obtain ⟨N0, hN0⟩ : ∃ N0, (held c.D).length = N0 := ⟨_, rfl⟩
  have HN0 := Lib.hid hN0
  rw [hN0] at hp hl
  have hp' : (0 : Int) < N0 := by omega
  clear h hN0
  go_enter Try.func51, Try.ntmps51
  go_wp2_with fail
  refine (cheld_any A B e0 eo a b e g m c _ w ((H.out.cr.at_ m1).deq.choose_spec) m2 (by rw [HN0.out]; omega)).mono ?_
  rintro ed w1 ⟨rfl, hE⟩
  rw [HN0.out]
  have HE := Lib.hid hE
  clear hE
  go_wp2_with fail
  go_ret
  exact ⟨ret_bool (by first | rfl | simp; omega), HE.out⟩
end Go.Proofs.Ytkpbanfpnilifaa
