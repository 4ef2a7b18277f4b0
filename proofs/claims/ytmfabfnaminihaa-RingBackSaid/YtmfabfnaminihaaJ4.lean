/- Joined by wip/merge.py: T13L, T13K, T13S, T13T. -/
import Derived.Test.YtmfabfnaminihaaJ3
set_option linter.unusedVariables false
set_option linter.unusedSimpArgs false
set_option linter.unnecessarySimpa false
/- Plain words of rings by places: what is cut out is what is between. No program in it. -/
namespace Go.Proofs.Ytmfabfnaminihaa.Plain
theorem cut_of {l : List Int} {x y : Int} (hx : x ∈ l) {p s : List Int} (h : l.drop (l.idxOf x + 1) ++ l.take (l.idxOf x + 1) = p ++ y :: s) (hp : y ∉ p) : cutPart l x y = p ++ [y] := by
  obtain ⟨u, v, rfl, hu⟩ := at_split hx
  rw [idx_split hu] at h
  have e1 : (u ++ x :: v).drop (u.length + 1) = v := by
    rw [show u ++ x :: v = (u ++ [x]) ++ v by simp, show u.length + 1 = (u ++ [x]).length by simp, List.drop_left]
  have e2 : (u ++ x :: v).take (u.length + 1) = u ++ [x] := by
    rw [show u ++ x :: v = (u ++ [x]) ++ v by simp, show u.length + 1 = (u ++ [x]).length by simp, List.take_left]
  rw [e1, e2] at h
  unfold cutPart
  rw [behind_split hu, show v ++ u ++ [x] = v ++ (u ++ [x]) by simp, h, idx_split hp]
  rw [show p ++ y :: s = (p ++ [y]) ++ s by simp, show p.length + 1 = (p ++ [y]).length by simp, List.take_left]
theorem filter_app3 {a p b : List Int} (ha : ∀ t ∈ a, t ∉ p) (hb : ∀ t ∈ b, t ∉ p) : (a ++ p ++ b).filter (fun t => !p.contains t) = a ++ b := by
  rw [List.filter_append, List.filter_append, filter_out ha, filter_in (fun t ht => ht), filter_out hb, List.append_nil]
theorem cut_fwd {l : List Int} {x y : Int} (hn : l.Nodup) (hx : x ∈ l) (hy : y ∈ l) (hlt : l.idxOf x < l.idxOf y) :
    cutPart l x y = (l.drop (l.idxOf x + 1)).take (l.idxOf y - l.idxOf x) ∧ l.filter (fun t => !(cutPart l x y).contains t) = l.take (l.idxOf x + 1) ++ l.drop (l.idxOf y + 1) := by
  obtain ⟨u, v, rfl, hu⟩ := at_split hx
  have hi := idx_split (v := v) hu
  rw [hi] at hlt
  have hyu : y ∉ u := fun h => by
    obtain ⟨a, b, rfl, ha⟩ := at_split h
    rw [show (a ++ y :: b) ++ x :: v = a ++ y :: (b ++ x :: v) by simp, idx_split ha] at hlt
    simp at hlt; omega
  have hyx : y ≠ x := fun h => by rw [h, hi] at hlt; omega
  have hyv : y ∈ v := by
    rw [List.mem_append, List.mem_cons] at hy
    rcases hy with h | h | h
    · exact absurd h hyu
    · exact absurd h hyx
    · exact h
  obtain ⟨p, q, rfl, hp⟩ := at_split hyv
  have hj : (u ++ x :: (p ++ y :: q)).idxOf y = u.length + 1 + p.length := by
    rw [show u ++ x :: (p ++ y :: q) = (u ++ x :: p) ++ y :: q by simp, idx_split (by simp [hyu, hyx, hp])]
    simp; omega
  have e1 : (u ++ x :: (p ++ y :: q)).drop (u.length + 1) = p ++ y :: q := by
    rw [show u ++ x :: (p ++ y :: q) = (u ++ [x]) ++ (p ++ y :: q) by simp, show u.length + 1 = (u ++ [x]).length by simp, List.drop_left]
  have e2 : (u ++ x :: (p ++ y :: q)).take (u.length + 1) = u ++ [x] := by
    rw [show u ++ x :: (p ++ y :: q) = (u ++ [x]) ++ (p ++ y :: q) by simp, show u.length + 1 = (u ++ [x]).length by simp, List.take_left]
  have hc : cutPart (u ++ x :: (p ++ y :: q)) x y = p ++ [y] := cut_of (s := q ++ (u ++ [x])) hx (by rw [hi, e1, e2]; simp) hp
  rw [hc, hi, hj, e1, e2]
  refine ⟨?_, ?_⟩
  · rw [show u.length + 1 + p.length - u.length = (p ++ [y]).length by simp; omega, show p ++ y :: q = (p ++ [y]) ++ q by simp, List.take_left]
  · have e3 : (u ++ x :: (p ++ y :: q)).drop (u.length + 1 + p.length + 1) = q := by
      rw [show u ++ x :: (p ++ y :: q) = (u ++ [x] ++ (p ++ [y])) ++ q by simp, show u.length + 1 + p.length + 1 = (u ++ [x] ++ (p ++ [y])).length by simp; omega, List.drop_left]
    rw [e3, show u ++ x :: (p ++ y :: q) = (u ++ [x]) ++ (p ++ [y]) ++ q by simp]
    rw [show u ++ x :: (p ++ y :: q) = (u ++ [x]) ++ (p ++ [y]) ++ q by simp, List.nodup_append, List.nodup_append] at hn
    obtain ⟨⟨_, _, h1⟩, _, h2⟩ := hn
    exact filter_app3 (fun t ht ht2 => h1 t ht t ht2 rfl) (fun t ht ht2 => h2 t (List.mem_append.2 (.inr ht2)) t ht rfl)
theorem cut_bwd {l : List Int} {x y : Int} (hn : l.Nodup) (hx : x ∈ l) (hy : y ∈ l) (hle : l.idxOf y ≤ l.idxOf x) :
    cutPart l x y = l.drop (l.idxOf x + 1) ++ l.take (l.idxOf y + 1) ∧ l.filter (fun t => !(cutPart l x y).contains t) = (l.drop (l.idxOf y + 1)).take (l.idxOf x - l.idxOf y) := by
  obtain ⟨u, v, rfl, hu⟩ := at_split hy
  have hj := idx_split (v := v) hu
  have e1 : (u ++ y :: v).drop (u.length + 1) = v := by
    rw [show u ++ y :: v = (u ++ [y]) ++ v by simp, show u.length + 1 = (u ++ [y]).length by simp, List.drop_left]
  have e2 : (u ++ y :: v).take (u.length + 1) = u ++ [y] := by
    rw [show u ++ y :: v = (u ++ [y]) ++ v by simp, show u.length + 1 = (u ++ [y]).length by simp, List.take_left]
  rw [hj] at hle
  obtain ⟨i, hi⟩ : ∃ i, (u ++ y :: v).idxOf x = i := ⟨_, rfl⟩
  have hil := List.idxOf_lt_length_of_mem hx
  rw [hi] at hle hil
  have hil2 : i < u.length + (v.length + 1) := by simpa using hil
  obtain ⟨k, rfl⟩ : ∃ k, i = u.length + k := ⟨i - u.length, by omega⟩
  have f1 : (u ++ y :: v).drop (u.length + k + 1) = v.drop k := by
    rw [show u.length + k + 1 = (u ++ [y]).length + k by simp; omega, show u ++ y :: v = (u ++ [y]) ++ v by simp, List.drop_append]
    simp
  have f2 : (u ++ y :: v).take (u.length + k + 1) = u ++ y :: v.take k := by
    rw [show u.length + k + 1 = (u ++ [y]).length + k by simp; omega, show u ++ y :: v = (u ++ [y]) ++ v by simp, List.take_append, List.take_of_length_le (by simp)]
    simp
  have hn2 := hn
  rw [List.nodup_append, List.nodup_cons] at hn2
  obtain ⟨_, ⟨hyv, _⟩, huv⟩ := hn2
  have hc : cutPart (u ++ y :: v) x y = (v.drop k ++ u) ++ [y] := by
    refine cut_of (s := v.take k) hx (by rw [hi, f1, f2]; simp) ?_
    rw [List.mem_append]
    rintro (h | h)
    · exact hyv (List.mem_of_mem_drop h)
    · exact hu h
  rw [hi, hj, f1, e2, e1, hc, show u.length + k - u.length = k by omega]
  refine ⟨by simp, ?_⟩
  have hs : u ++ y :: v = (u ++ [y]) ++ v.take k ++ v.drop k := by simp
  have hn3 := hn
  rw [hs, List.nodup_append, List.nodup_append] at hn3
  obtain ⟨⟨_, _, h1⟩, _, h2⟩ := hn3
  rw [hs, List.filter_append, List.filter_append, filter_in (s := u ++ [y]) (fun t ht => by
      rw [List.mem_append] at ht ⊢
      rcases ht with ht | ht
      · exact .inl (List.mem_append.2 (.inr ht))
      · exact .inr ht), filter_in (s := v.drop k) (fun t ht => List.mem_append.2 (.inl (List.mem_append.2 (.inl ht)))), filter_out]
  · simp
  · intro t ht h9
    rw [List.mem_append, List.mem_append] at h9
    rcases h9 with (h9 | h9) | h9
    · exact h2 t (List.mem_append.2 (.inr ht)) t h9 rfl
    · exact h1 t (List.mem_append.2 (.inl h9)) t ht rfl
    · exact h1 t (List.mem_append.2 (.inr h9)) t ht rfl
theorem next_plus {l : List Int} {x d k : Int} {p : Nat} (hx : x ∈ l) (hp : l.idxOf x = p) (hk : ((p : Int) + d.tmod l.length + l.length).tmod l.length = k) : ∃ K : Nat, K < l.length ∧ k = K ∧ (fromL l x).getD (d % (l.length : Int)).toNat 0 = l.getD K 0 := by
  have hl0 : 0 < l.length := List.length_pos_of_mem hx
  have hi := List.idxOf_lt_length_of_mem hx
  obtain ⟨n, hn⟩ : ∃ n, l.length = n := ⟨_, rfl⟩
  have hfa := fun d hd => from_at (l := l) hx d hd
  rw [hp, hn] at hi
  rw [hp, hn] at hfa
  rw [hn] at hl0 hk ⊢
  obtain ⟨e, he⟩ : ∃ e : Nat, d % (n : Int) = e := ⟨(d % (n : Int)).toNat, by have := Int.emod_nonneg d (b := (n : Int)) (by omega); omega⟩
  have hen : e < n := by have := Int.emod_lt_of_pos d (b := (n : Int)) (by omega); omega
  have hfe := hfa e hen
  have hK : (p + e) % n < n := Nat.mod_lt _ hl0
  refine ⟨(p + e) % n, hK, ?_, by rw [he]; exact hfe⟩
  have h5 := Int.tmod_lt_of_pos (-d) (b := (n : Int)) (by omega)
  rw [Int.neg_tmod] at h5
  rw [← hk, Int.tmod_eq_emod_of_nonneg (by omega)]
  rw [Int.natCast_emod]
  refine Int.emod_eq_emod_iff_emod_sub_eq_zero.2 ?_
  have a2 := Int.mul_tdiv_add_tmod d n
  have a3 := Int.mul_ediv_add_emod d n
  rw [he] at a3
  have a4 : (p : Int) + d.tmod n + n - ((p + e : Nat) : Int) = (n : Int) * (d / n - d.tdiv n + 1) := by
    rw [Int.mul_add, Int.mul_sub]; omega
  rw [a4, Int.mul_emod_right]
/-- where tokens stand, if all are there -/
def placesP (l ts : List Int) : List Int × Bool := if rightL l = true ∧ ∀ t ∈ ts, t ∈ l then (ts.map (fun t => ((l.idxOf t : Nat) : Int)), true) else ([], false)
theorem places_yes {l ts : List Int} (h : rightL l = true) (ht : ∀ t ∈ ts, t ∈ l) : placesP l ts = (ts.map (fun t => ((l.idxOf t : Nat) : Int)), true) := if_pos ⟨h, ht⟩
theorem places_no {l ts : List Int} (h : ¬ (rightL l = true ∧ ∀ t ∈ ts, t ∈ l)) : placesP l ts = ([], false) := if_neg h
end Go.Proofs.Ytmfabfnaminihaa.Plain

/- The program's small functions of rings: inBounds, eachOnce, Right, places, turned. Written by wip/mk_t13x.py. -/
namespace Go.Proofs.Ytmfabfnaminihaa
open Go.BigFrame
open Go.RowKit Go.Proofs.Ytmfabfnaminihaa.Plain

set_option maxHeartbeats 3200000 in
set_option maxRecDepth 100000 in
theorem pbounds13_any (l : List Int) (L : Option Addr) (lc : Nat) (w : World) (hL : Rd kInt w (.slice L l.length lc) l) :
    Calls Try.prog 31 #[.slice L l.length lc] w fun ed w' => ed = .returned (.bool (l.all tokOk)) ∧ w = w' := by
  have HL := Lib.hid hL
  have hm := hL.len
  have hm' : (l.length : Int) ≤ 9223372036854775807 := by omega
  clear hL hm
  go_enter Try.func31, Try.ntmps31
  go_wp2_with fail
  go_loopw [7] (fun i wr => ∃ j : Nat, j ≤ l.length ∧ i = .int .i64 j ∧ (l.take j).all tokOk = true ∧ w = wr) (fun i _ => l.length - (intOf i).toNat)
  case atStart => exact ⟨0, Nat.zero_le _, rfl, rfl, rfl⟩
  case round =>
    obtain ⟨j, hj, rfl, hin, rfl⟩ := hrel
    have hj0 : (0 : Int) ≤ j := by omega
    by_cases hlt : j < l.length
    · have hlt' : (j : Int) < l.length := by omega
      obtain ⟨bl, ol, rfl, z0⟩ := int_at9 HL.out j hlt
      have htk := ints_take hlt
      have hmem := ints_mem hlt
      obtain ⟨x, hx⟩ : ∃ x, l.getD j 0 = x := ⟨_, rfl⟩
      rw [hx] at z0 htk hmem
      have hout : ¬ (0 ≤ x ∧ x ≤ 10000) → l.all tokOk = false := fun h => by
        rw [← Bool.not_eq_true, List.all_eq_true]
        intro h9
        have h8 := h9 x hmem
        unfold tokOk at h8
        rw [Bool.and_eq_true, decide_eq_true_eq, decide_eq_true_eq] at h8
        exact h h8
      by_cases h1 : x < 0
      · have hd1 : decide (x < 0) = true := decide_eq_true h1
        have HR := Lib.hid (hout (by omega))
        clear htk hmem hout h1 hin hx
        go_wp2_with fail
        go_ret
        exact ⟨ret_bool HR.out.symm, rfl⟩
      have hd1 : decide (x < 0) = false := decide_eq_false h1
      by_cases h2 : 10000 < x
      · have hd2 : decide (10000 < x) = true := decide_eq_true h2
        have HR := Lib.hid (hout (by omega))
        clear htk hmem hout h1 h2 hin hx
        go_wp2_with fail
        go_ret
        exact ⟨ret_bool HR.out.symm, rfl⟩
      have hd2 : decide (10000 < x) = false := decide_eq_false h2
      have HIN : Hid ((l.take (j + 1)).all tokOk = true) := Lib.hid (by
        rw [htk, List.all_append, hin, Bool.true_and, List.all_cons, List.all_nil, Bool.and_true]
        unfold tokOk
        rw [Bool.and_eq_true, decide_eq_true_eq, decide_eq_true_eq]; omega)
      clear htk hmem hout h1 h2 hin hx
      go_wp2_with fail
      go_roundw
      case rel => exact ⟨j + 1, by omega, by go_num, HIN.out, by first | rfl | trivial⟩
      case measure => simp [intOf]; omega
    · obtain rfl : j = l.length := by omega
      rw [List.take_length] at hin
      have HR := Lib.hid hin
      clear hin
      go_wp2_with fail
      go_ret
      exact ⟨ret_bool HR.out.symm, rfl⟩

/-- integers of a list as keys of a set -/
def setZ (xs : List Int) : DataW Unit := Maps.setOf (.agg []) (xs.map fun x : Int => Lit.int .i64 x)
theorem setZ_nil : setZ [] = .map [] := rfl
theorem setZ_snoc (xs : List Int) (x : Int) : setZ (xs ++ [x]) = (setZ xs).put (.int .i64 x) (.agg []) := by simp [setZ, Maps.setOf_snoc]
theorem keyZs (xs : List Int) : ∀ x ∈ xs.map (fun x : Int => Lit.int .i64 x), WideAt.IsKeyLit x := by intro x hx; obtain ⟨y, _, rfl⟩ := List.mem_map.1 hx; exact trivial
theorem has_setZ (xs : List Int) (c : Int) : Maps.has (setZ xs) (.int .i64 c) = decide (c ∈ xs) := by
  rw [setZ, Maps.has_setOf _ _ _ (keyZs xs)]
  rw [Bool.eq_iff_iff]
  simp only [List.any_map, List.any_eq_true, decide_eq_true_eq, Function.comp]
  constructor
  · rintro ⟨x, hx, h⟩
    have : x = c := by simpa [Lit.sameKey] using h
    subst this; exact hx
  · exact fun h => ⟨c, h, by simp [Lit.sameKey]⟩
theorem size_setZ (xs : List Int) : ∀ k, k ≤ xs.length → Maps.size (setZ (xs.take k)) ≤ k ∧ (Maps.size (setZ (xs.take k)) = k ↔ (xs.take k).Nodup) := by
  intro k
  induction k with
  | zero => intro _; exact ⟨Nat.le_refl _, fun _ => by simp, fun _ => rfl⟩
  | succ k ih =>
    intro hk
    obtain ⟨h1, h2⟩ := ih (by omega)
    have hsp := Maps.size_put (D := setZ (xs.take k)) (k := .int .i64 (xs.getD k 0)) (Maps.tidy_setOf _ _ (keyZs _)) (.agg [])
    rw [has_setZ] at hsp
    rw [ints_take (by omega), setZ_snoc, hsp]
    by_cases hm : xs.getD k 0 ∈ xs.take k
    · rw [decide_eq_true hm]
      refine ⟨by simp; omega, fun h => ?_, fun h => ?_⟩
      · simp at h; omega
      · rw [List.nodup_append] at h
        exact absurd rfl (h.2.2 _ hm _ (by simp))
    · rw [decide_eq_false hm]
      refine ⟨by simp; omega, fun h => ?_, fun h => ?_⟩
      · simp at h
        exact ints_snoc _ _ (h2.1 h) hm
      · rw [List.nodup_append] at h
        have := h2.2 h.1
        simp; omega
theorem keyedZ : Maps.Keyed Try.prog 3 := Maps.int_keyed Try.underlying3
theorem keyZ (x : Int) (hx : in64 x) : keyOf Try.prog 3 (.int .i64 x) = some (.int .i64 x) := Maps.keyOf_int_mk Try.underlying3 (by unfold in64 at hx; simp [Lit.wf, IntKind.min, IntKind.max, IntKind.signed, IntKind.bits]; omega)
theorem run_makeMap13 {P : Program} {t k e : TypeId} (hu : P.underlying t = some (.map k e)) (n : Int) (w : World) : (Instr.makeMap t (some (.int .i64 n))).run P w = .ok (.map (some w.heap.size)) (w.alloc (.map #[] 0)) := by
  simp [Instr.makeMap, run_underlying hu, asInt, asIntOf, Result.andThen]
set_option maxHeartbeats 3200000 in
set_option maxRecDepth 100000 in
theorem ponce13_any (l : List Int) (L : Option Addr) (lc : Nat) (w : World) (hL : Rd kInt w (.slice L l.length lc) l) (hl : l.length ≤ 1000000) :
    Calls Try.prog 32 #[.slice L l.length lc] w fun ed w' => ed = .returned (.bool (decide l.Nodup)) ∧ Ext w w' := by
  have HL := Lib.hid hL
  have hl' : (l.length : Int) ≤ 1000000 := by omega
  clear hL
  have hmm := @run_makeMap13 Try.prog 46 _ _ Try.underlying46
  go_enter Try.func32, Try.ntmps32
  go_wp2_with fail
  go_loopw [11] (fun i wr => ∃ k : Nat, k ≤ l.length ∧ i = .int .i64 k ∧ wr.ownsMap Try.prog 3 unitElem w.heap.size k (setZ (l.take k)) ∧ Ext w wr ∧ w.heap.size < wr.heap.size) (fun i _ => l.length - (intOf i).toNat)
  case atStart => exact ⟨0, Nat.zero_le _, rfl, by rw [List.take_zero, setZ_nil]; exact World.ownsMap_made _ _ _ _, (Ext.refl w).alloc _, by simp⟩
  case round =>
    obtain ⟨k, hk, rfl, hown, hX, hsz⟩ := hrel
    have HX := Lib.hid hX
    have HOW := Lib.hid hown
    have hk0 : (0 : Int) ≤ k := by omega
    clear hX hmm hown
    by_cases hlt : k < l.length
    · have hlt' : (k : Int) < l.length := by omega
      obtain ⟨bx, ox, rfl, z0⟩ := int_at9 (HL.out.ext HX.out) k hlt
      have htk := ints_take hlt
      have hok : in64 (l.getD k 0) := HL.out.okAt k hlt
      obtain ⟨x, hx⟩ : ∃ x, l.getD k 0 = x := ⟨_, rfl⟩
      rw [hx] at z0 htk hok
      have HKEY := Lib.hid (keyZ x hok)
      have HTK := Lib.hid htk
      have HSN := Lib.hid (setZ_snoc (l.take k) x)
      have lbx : bx < wr.heap.size := World.block_lt_of_cell? _ _ z0
      have HML : Hid (k < maxLen) := Lib.hid (by unfold maxLen; omega)
      clear htk hx hok
      go_wp2_with (at_mapUpdate; refine wpList_mapUpdate_own _ rfl _ _ _ 46 rfl 3 47 keyedZ Try.underlying46 (unitElem (H := Unit)) w.heap.size k _ rfl HOW.out HML.out _ _ _ rfl rfl HKEY.out _ [] unitElem_mk ?_; intro w1 hown1 hgrow1)
      have H1 := Lib.hid (And.intro hown1 hgrow1)
      clear hown1 hgrow1
      go_wp2_with fail
      go_roundw
      case rel => exact ⟨k + 1, by omega, by go_num, by rw [HTK.out, HSN.out]; exact H1.out.1, HX.out.grown H1.out.2 (fun j hj => by cases hj; exact Nat.le_refl _), by have := H1.out.2.size; omega⟩
      case measure => simp [intOf]; omega
    · obtain rfl : k = l.length := by omega
      have hsz9 := size_setZ l l.length (Nat.le_refl _)
      rw [List.take_length] at HOW hsz9
      obtain ⟨q, hq⟩ : ∃ q, Maps.size (setZ l) = q := ⟨_, rfl⟩
      rw [hq] at hsz9
      have HQ := Lib.hid hq
      have hq9 : (q : Int) ≤ 1000000 := by omega
      clear hq
      by_cases hn : q = l.length
      · have HR : Hid (decide l.Nodup = true) := Lib.hid (decide_eq_true (hsz9.2.1 hn))
        have e1 : ((q : Int) == (l.length : Int)) = true := by simp [hn]
        have e2 : (q == l.length) = true := by simp [hn]
        clear hsz9 hn
        go_wp2_with (at_len; refine wpList_len_own _ rfl _ 46 rfl 3 47 Try.underlying46 _ w.heap.size l.length (setZ l) rfl HOW.out ?_; rw [HQ.out])
        go_ret
        exact ⟨ret_bool HR.out.symm, HX.out⟩
      · have HR : Hid (decide l.Nodup = false) := Lib.hid (decide_eq_false (fun h => hn (hsz9.2.2 h)))
        have e1 : ((q : Int) == (l.length : Int)) = false := by simp; omega
        have e2 : (q == l.length) = false := by simp [hn]
        clear hsz9 hn
        go_wp2_with (at_len; refine wpList_len_own _ rfl _ 46 rfl 3 47 Try.underlying46 _ w.heap.size l.length (setZ l) rfl HOW.out ?_; rw [HQ.out])
        go_ret
        exact ⟨ret_bool HR.out.symm, HX.out⟩
theorem Plain.right_parts (l : List Int) : rightL l = (decide (l.length ≤ 1000) && l.all tokOk && decide l.Nodup) := rfl
set_option maxHeartbeats 3200000 in
set_option maxRecDepth 100000 in
theorem pright13_any (l : List Int) (L : Option Addr) (lc : Nat) (w : World) (hL : Rd kInt w (.slice L l.length lc) l) (hl : l.length ≤ 2000) :
    Calls Try.prog 20 #[.slice L l.length lc] w fun ed w' => ed = .returned (.bool (rightL l)) ∧ Ext w w' := by
  have HB := Lib.hid (pbounds13_any l L lc w hL)
  have HO := Lib.hid (ponce13_any l L lc w hL (by omega))
  have hrp := right_parts l
  have hl9 : (l.length : Int) ≤ 2000 := by omega
  obtain ⟨b1, hb1⟩ : ∃ b, l.all tokOk = b := ⟨_, rfl⟩
  obtain ⟨b2, hb2⟩ : ∃ b, decide l.Nodup = b := ⟨_, rfl⟩
  rw [hb1] at HB hrp
  rw [hb2] at HO hrp
  clear hb1 hb2 hL
  by_cases h1 : l.length ≤ 1000
  · have hd : decide ((l.length : Int) ≤ 1000) = true := decide_eq_true (by omega)
    have hdN : decide (l.length ≤ 1000) = true := decide_eq_true h1
    rw [hdN] at hrp
    have HR := Lib.hid hrp
    clear hrp h1
    cases b1 with
    | false =>
      go_enter Try.func20, Try.ntmps20
      go_wp2_with fail
      refine HB.out.mono ?_
      rintro ed w1 ⟨rfl, rfl⟩
      go_wp2_with fail
      go_ret
      exact ⟨ret_bool (by rw [HR.out]; rfl), Ext.refl _⟩
    | true =>
      go_enter Try.func20, Try.ntmps20
      go_wp2_with fail
      refine HB.out.mono ?_
      rintro ed w1 ⟨rfl, rfl⟩
      go_wp2_with fail
      refine HO.out.mono ?_
      rintro ed w2 ⟨rfl, hE⟩
      have HE := Lib.hid hE
      clear hE
      go_wp2_with fail
      go_ret
      exact ⟨ret_bool (by rw [HR.out]; rfl), HE.out⟩
  · have hd : decide ((l.length : Int) ≤ 1000) = false := decide_eq_false (by omega)
    have hdN : decide (l.length ≤ 1000) = false := decide_eq_false h1
    rw [hdN] at hrp
    have HR := Lib.hid hrp
    clear hrp h1
    go_enter Try.func20, Try.ntmps20
    go_wp2_with fail
    go_ret
    exact ⟨ret_bool (by rw [HR.out]; rfl), Ext.refl _⟩
/-- an integer of one's own is stored -/
theorem Ow.setZ {B g n c : Nat} {w : World} {M : List Int} (h : Ow kInt B w (.slice (some ⟨g, 0, none⟩) n c) M) {u : Nat} {v : Int} (hu : u < M.length) (hv : in64 v) :
    Ow kInt B (w.setCell ⟨g, u, none⟩ (.int .i64 v)) (.slice (some ⟨g, 0, none⟩) n c) (M.set u v) := by
  have h1 := h.set (j := u) (i := 0) (x := v) (u := .int .i64 v) hu (by decide) rfl hv
  rw [show u * kInt.n + 0 = u from by show u * 1 + 0 = u; omega] at h1
  exact h1
theorem Ow.atZ {B g n c : Nat} {w : World} {M : List Int} (h : Ow kInt B w (.slice (some ⟨g, 0, none⟩) n c) M) {u : Nat} (hu : u < M.length) :
    w.cell? ⟨g, u, none⟩ = some (.int .i64 (M.getD u 0)) ∧ (∀ j, w.frozen? ⟨g, j, none⟩ = false) ∧ B ≤ g ∧ g < w.heap.size := by
  obtain ⟨g', eg, h1, h2, h3, h4⟩ := h.pos (by omega)
  cases eg
  have z := h3 u hu 0 _ rfl
  rw [show u * kInt.n + 0 = u from by show u * 1 + 0 = u; omega] at z
  exact ⟨z, h4, h1, h2⟩
/-- the first ones are told, the others are naught -/
def Plain.atP (l ts : List Int) (j : Nat) : List Int := (ts.take j).map (fun t => ((l.idxOf t : Nat) : Int)) ++ List.replicate (ts.length - j) 0
theorem Plain.atP_len (l ts : List Int) (j : Nat) (hj : j ≤ ts.length) : (atP l ts j).length = ts.length := by
  unfold atP; rw [List.length_append, List.length_map, List.length_take, List.length_replicate]; omega
theorem Plain.atP_set (l ts : List Int) (j : Nat) (hj : j < ts.length) : (atP l ts j).set j ((l.idxOf (ts.getD j 0) : Nat) : Int) = atP l ts (j + 1) := by
  unfold atP
  have h1 : ((ts.take j).map (fun t => ((l.idxOf t : Nat) : Int))).length = j := by rw [List.length_map, List.length_take]; omega
  rw [List.set_append, if_neg (by omega), h1, show ts.length - j = (ts.length - (j + 1)) + 1 by omega, List.replicate_succ, Nat.sub_self, List.set_cons_zero, ints_take hj, List.map_append]
  simp
set_option maxHeartbeats 3200000 in
set_option maxRecDepth 100000 in
theorem pplaces13_any (l ts : List Int) (L A : Option Addr) (lc ac : Nat) (w : World) (hL : Rd kInt w (.slice L l.length lc) l) (hA : Rd kInt w (.slice A ts.length ac) ts) (hl : l.length ≤ 2000) (ht : ts.length ≤ 1000) :
    Calls Try.prog 25 #[.slice L l.length lc, .slice A ts.length ac] w (LbSaid (placesP l ts) w) := by
  have HL := Lib.hid hL
  have HA := Lib.hid hA
  have HC := Lib.hid (pright13_any l L lc w hL hl)
  have hl9 : (l.length : Int) ≤ 2000 := by omega
  have ht9 : (ts.length : Int) ≤ 1000 := by omega
  clear hL hA
  cases hr : rightL l with
  | false =>
    rw [hr] at HC
    have HR : Hid (placesP l ts = ([], false)) := Lib.hid (places_no (by rw [hr]; simp))
    clear hr
    go_enter Try.func25, Try.ntmps25
    go_wp2_with fail
    refine HC.out.mono ?_
    rintro ed w1 ⟨rfl, hE⟩
    have HE := Lib.hid hE
    clear hE
    go_wp2_with fail
    exact bodyPost_ret (v := .tuple #[.slice none 0 0, .bool false]) (by simp [results, Try.results25, go_sem]) rfl (by rw [HR.out]; exact ⟨none, 0, rfl, Ow.nil _ _, HE.out⟩)
  | true =>
    rw [hr] at HC
    have HRT := Lib.hid hr
    clear hr
    obtain ⟨n, hn⟩ : ∃ n, ts.length = n := ⟨_, rfl⟩
    have HN := Lib.hid hn
    rw [hn] at ht ht9 ⊢
    obtain ⟨C, hmk, hmo⟩ := kInt.make 0 rfl (show in64 0 by decide) n (by omega)
    have HM := Lib.hid hmo
    have hma : ∀ w : World, (Instr.makeSlice 22 (.int .i64 n) (.int .i64 n)).run Try.prog w = .ok (.slice (some ⟨w.heap.size, 0, none⟩) n n) (w.alloc (.cells C 3)) := hmk
    clear hmk hmo hn
    go_enter Try.func25, Try.ntmps25
    go_wp2_with fail
    refine HC.out.mono ?_
    rintro ed w1 ⟨rfl, hE⟩
    have HE1 := Lib.hid hE
    clear hE HC
    go_wp2_with fail
    go_loopw [17] (fun i wr => ∃ j : Nat, j ≤ n ∧ i = .int .i64 j ∧ (∀ t ∈ ts.take j, t ∈ l) ∧ Ow kInt w1.heap.size wr (.slice (some ⟨w1.heap.size, 0, none⟩) n n) (atP l ts j) ∧ Ext w1 wr) (fun i _ => n - (intOf i).toNat)
    case atStart =>
      refine ⟨0, Nat.zero_le _, rfl, by simp, ?_, (Ext.refl _).alloc _⟩
      have e : atP l ts 0 = List.replicate n 0 := by unfold atP; rw [HN.out]; simp
      rw [e]
      exact HM.out w1 _ _ rfl (Nat.le_refl _)
    case round =>
      obtain ⟨j, hj, rfl, hin, hO, hX⟩ := hrel
      have HX := Lib.hid hX
      have hj0 : (0 : Int) ≤ j := by omega
      clear hX hma
      by_cases hlt : j < n
      · have hlt' : (j : Int) < n := by omega
        have hjl : j < ts.length := by rw [HN.out]; exact hlt
        obtain ⟨ba, oa, rfl, z0⟩ := int_at9 (HA.out.ext (HE1.out.trans HX.out)) j hjl
        have htk := ints_take hjl
        have hst := atP_set l ts j hjl
        have hlen := atP_len l ts j (by omega)
        obtain ⟨x, hx⟩ : ∃ x, ts.getD j 0 = x := ⟨_, rfl⟩
        rw [hx] at z0 htk hst
        obtain ⟨p, hp⟩ : ∃ p, placeP l x = p := ⟨_, rfl⟩
        have hpi := place_iff l x
        have hpl := place_lt l x
        have hpin := fun h : x ∈ l => place_in h
        rw [hp] at hpi hpl hpin
        have HI := Lib.hid (indexI l L lc x wr (HL.out.ext (HE1.out.trans HX.out)))
        rw [hp] at HI
        have hO1 := hO.setZ (u := j) (v := p) (by omega) (by unfold in64; omega)
        have ⟨y0, yf, _, yg⟩ := hO.atZ (u := j) (by omega)
        have yf0 := yf j
        obtain ⟨y1, _, _, _⟩ := hO1.atZ (u := j) (by rw [List.length_set]; omega)
        have hgd : ((atP l ts j).set j p).getD j 0 = p := by
          rw [List.getD_eq_getElem?_getD, List.getElem?_set, if_pos rfl, if_pos (by omega)]; rfl
        rw [hgd] at y1
        have HX1 : Hid (Ext w1 (wr.setCell ⟨w1.heap.size, j, none⟩ (.int .i64 p))) := Lib.hid (HX.out.setCell (p := ⟨w1.heap.size, j, none⟩) (Nat.le_refl _) _)
        have lba : ba < wr.heap.size := World.block_lt_of_cell? _ _ z0
        by_cases hxl : x ∈ l
        · have hd : decide (p < 0) = false := decide_eq_false (by have := hpi.2 hxl; omega)
          rw [← hpin hxl] at hst
          rw [hst] at hO1
          have HO1 := Lib.hid hO1
          have HIN : Hid (∀ t ∈ ts.take (j + 1), t ∈ l) := Lib.hid (by
            rw [htk]
            intro t h9
            rw [List.mem_append, List.mem_singleton] at h9
            rcases h9 with h9 | rfl
            · exact hin t h9
            · exact hxl)
          clear htk hst hlen hx hp hpi hpl hpin hO hO1 y1 hgd hxl hin yf
          go_wp2_with fail
          refine HI.out.mono ?_
          rintro ed w9 ⟨rfl, rfl⟩
          go_wp2_with fail
          go_roundw
          case rel => exact ⟨j + 1, by omega, by go_num, HIN.out, HO1.out, HX1.out⟩
          case measure => simp [intOf]; omega
        · have hd : decide (p < 0) = true := decide_eq_true (by
            refine Decidable.byContradiction fun h => hxl (hpi.1 (by omega)))
          have HR : Hid (placesP l ts = ([], false)) := Lib.hid (places_no (fun h => hxl (h.2 x (by rw [← hx]; exact ints_mem hjl))))
          clear htk hst hlen hx hp hpi hpl hpin hO hO1 y1 hgd hxl hin yf
          go_wp2_with fail
          refine HI.out.mono ?_
          rintro ed w9 ⟨rfl, rfl⟩
          go_wp2_with fail
          exact bodyPost_ret (v := .tuple #[.slice none 0 0, .bool false]) (by simp [results, Try.results25, go_sem]) rfl (by rw [HR.out]; exact ⟨none, 0, rfl, Ow.nil _ _, HE1.out.trans HX1.out⟩)
      · obtain rfl : j = n := by omega
        have hall : ∀ t ∈ ts, t ∈ l := by rw [← HN.out, List.take_length] at hin; exact hin
        have HR : Hid (placesP l ts = (atP l ts j, true)) := Lib.hid (by
          rw [places_yes HRT.out hall]
          unfold atP
          rw [← HN.out, List.take_length]; simp)
        have HO := Lib.hid (hO.mono (B' := w.heap.size) HE1.out.size)
        have hlen := atP_len l ts j (by rw [HN.out]; exact Nat.le_refl _)
        rw [HN.out] at hlen
        have HLN := Lib.hid hlen
        clear hO hin hall hlen
        go_wp2_with fail
        exact bodyPost_ret (v := .tuple #[.slice (some ⟨w1.heap.size, 0, none⟩) j j, .bool true]) (by simp [results, Try.results25, go_sem]) rfl (by rw [HR.out]; exact ⟨_, j, by rw [HLN.out], by rw [HLN.out]; exact HO.out, HE1.out.trans HX.out⟩)
set_option maxHeartbeats 3200000 in
set_option maxRecDepth 100000 in
theorem pturned13_any (l : List Int) (L : Option Addr) (lc q : Nat) (w : World) (hL : Rd kInt w (.slice L l.length lc) l) (hl : l.length ≤ 2000) (hq : q ≤ l.length) :
    Calls Try.prog 28 #[.slice L l.length lc, .int .i64 q] w (LsSaid (l.drop q ++ l.take q) w) := by
  obtain ⟨_, _, hsl, hlc⟩ := hL.slice
  cases hsl
  have hq0 : (0 : Int) ≤ q := by omega
  have hq1 : (q : Int) ≤ l.length := by omega
  have hq2 : (q : Int) ≤ lc := by omega
  have hl2 : (l.length : Int) ≤ lc := by omega
  have HD : Hid (Rd kInt w (.slice (if lc = q then L else Option.map (fun x => x.add q) L) (l.length - q) (lc - q)) (l.drop q)) := Lib.hid (Rd.sliced hL rfl q hq)
  have HT : Hid (Rd kInt w (.slice L q lc) (l.take q)) := Lib.hid (Rd.take hL q lc hq (by omega))
  have HLL : Hid ((l.drop q).length + (l.take q).length ≤ 1000000) := Lib.hid (by rw [List.length_drop, List.length_take]; omega)
  have HK : Hid ((l.drop q ++ l.take q).length = l.length) := Lib.hid (by rw [List.length_append, List.length_drop, List.length_take]; omega)
  obtain ⟨r, hr⟩ : ∃ r, l.drop q ++ l.take q = r := ⟨_, rfl⟩
  rw [hr] at HK ⊢
  have HR := Lib.hid hr
  clear hL hq hl hlc hr
  go_enter Try.func28, Try.ntmps28
  go_upto_region 1 with fail
  go_region_law (first
    | (go_simp; go_at_call 26
       refine (concatI2_to _ _ (.slice (if lc = q then L else Option.map (fun x => x.add q) L) (l.length - q) (lc - q)) (.slice L q lc) (l.drop q) (l.take q) r l.length _ (by first | (go_simp; done) | fail) (by first | (go_simp; done) | fail) (HD.out.ext (by repeat (first | (with_reducible exact Ext.refl _) | (with_reducible assumption) | refine Ext.drew ?_ | refine Ext.drewN ?_ _ | refine Ext.alloc ?_ _))) (HT.out.ext (by repeat (first | (with_reducible exact Ext.refl _) | (with_reducible assumption) | refine Ext.drew ?_ | refine Ext.drewN ?_ _ | refine Ext.alloc ?_ _))) HLL.out HR.out HK.out).mono ?_
       rintro ed w5 ⟨A5, c5, rfl, hO5, hE5⟩
       have hx5 : Ext w w5 := Ext.trans (by repeat (first | (with_reducible exact Ext.refl _) | (with_reducible assumption) | refine Ext.drew ?_ | refine Ext.drewN ?_ _ | refine Ext.alloc ?_ _)) hE5)
    | fail)
  all_goals go_wp2_with fail
  all_goals go_ret
  all_goals exact ⟨A5, c5, by rw [HK.out]; rfl, by rw [HK.out]; exact hO5.mono (by first | (simp; done) | (simp; omega) | omega), hx5⟩
end Go.Proofs.Ytmfabfnaminihaa

/- The document's Plain, Next, Same (ref13). -/
namespace Go.Proofs.Ytmfabfnaminihaa
open Go.BigFrame
open Go.RowKit Go.Proofs.Ytmfabfnaminihaa.Plain

theorem Plain.least_take (l : List Int) (j : Nat) (h : j < l.length) (a : Int) : (l.take (j + 1)).foldl min a = min ((l.take j).foldl min a) (l.getD j 0) := by
  rw [ints_take h, List.foldl_append]; rfl
theorem Plain.head_getD (l : List Int) : l.headD 0 = l.getD 0 0 := by cases l <;> rfl
set_option maxHeartbeats 1600000 in
set_option maxRecDepth 100000 in
theorem rplain_any (l : List Int) (L : Option Addr) (lc : Nat) (w : World) (hL : Rd kInt w (.slice L l.length lc) l) :
    Calls Try.prog 19 #[.slice L l.length lc] w (LsSaid (plainR l) w) := by
  have HL := Lib.hid hL
  have hm := hL.len
  have hm' : (l.length : Int) ≤ 9223372036854775807 := by omega
  clear hL hm
  go_enter Try.func19, Try.ntmps19
  go_wp2_with fail
  refine (rright13_any l L lc _ HL.out).mono ?_
  rintro ed w2 ⟨rfl, hE2⟩
  have HX2 := Lib.hid hE2
  clear hE2
  cases hr : rightL l with
  | false =>
    have HR : Hid (plainR l = []) := Lib.hid (by unfold plainR; rw [if_neg (by rw [hr]; simp)])
    clear hr
    go_wp2_with fail
    exact bodyPost_ret (v := .slice none 0 0) (by simp [results, Try.results19, go_sem]) rfl (by rw [HR.out]; exact ⟨none, 0, rfl, Ow.nil _ _, HX2.out⟩)
  | true =>
    by_cases hne : l.length = 0
    · have HR : Hid (plainR l = []) := Lib.hid (by
        have : l = [] := List.eq_nil_of_length_eq_zero hne
        unfold plainR; rw [if_neg (by rw [this]; simp)])
      have e1 : ((l.length : Int) == 0) = true := by rw [beq_iff_eq]; omega
      clear hr hne
      go_wp2_with fail
      exact bodyPost_ret (v := .slice none 0 0) (by simp [results, Try.results19, go_sem]) rfl (by rw [HR.out]; exact ⟨none, 0, rfl, Ow.nil _ _, HX2.out⟩)
    have e1 : ((l.length : Int) == 0) = false := by rw [beq_eq_false_iff_ne]; omega
    have hlt0 : (0 : Int) < l.length := by omega
    obtain ⟨bl, ol, rfl, hcl⟩ := (ints_of_rd (HL.out.ext HX2.out)).cells (by omega)
    have HCL := Lib.hid hcl
    have z0 : w2.cell? ⟨bl, ol, none⟩ = some (.int .i64 (l.getD 0 0)) := by have := hcl 0 (by omega); simpa using this
    have lbl : bl < w2.heap.size := World.block_lt_of_cell? _ _ z0
    have HNE := Lib.hid hne
    have HRT := Lib.hid hr
    obtain ⟨h0, hh0⟩ : ∃ h, l.getD 0 0 = h := ⟨_, rfl⟩
    have HH0 := Lib.hid hh0
    rw [hh0] at z0
    clear hcl hne hr hh0
    go_wp2_with fail
    clear z0
    go_loopw [3, 4] (fun m i wr => ∃ j : Nat, j ≤ l.length ∧ i = .int .i64 j ∧ m = .int .i64 ((l.take j).foldl min h0) ∧ w2 = wr) (fun _ i _ => l.length - (intOf i).toNat)
    case atStart => exact ⟨0, Nat.zero_le _, rfl, rfl, rfl⟩
    case round =>
      obtain ⟨j, hj, rfl, rfl, rfl⟩ := hrel
      have hj0 : (0 : Int) ≤ j := by omega
      by_cases hlt : j < l.length
      · have hlt' : (j : Int) < l.length := by omega
        have z1 := HCL.out j hlt
        have htk := least_take l j hlt h0
        obtain ⟨y, hy⟩ : ∃ y, l.getD j 0 = y := ⟨_, rfl⟩
        obtain ⟨a, ha⟩ : ∃ a, (l.take j).foldl min h0 = a := ⟨_, rfl⟩
        rw [hy, ha] at htk
        rw [hy] at z1
        rw [ha]
        clear hy ha
        rcases Int.lt_trichotomy a y with hc | hc | hc
        · have HTK : Hid ((l.take (j + 1)).foldl min h0 = a) := Lib.hid (by rw [htk]; omega)
          clear htk
          go_wp2_with fail
          go_roundw
          case rel => exact ⟨j + 1, by omega, by go_num, by rw [HTK.out], by first | rfl | trivial⟩
          case measure => simp [intOf]; omega
        · have HTK : Hid ((l.take (j + 1)).foldl min h0 = y) := Lib.hid (by rw [htk]; omega)
          subst hc
          clear htk
          go_wp2_with fail
          go_roundw
          case rel => exact ⟨j + 1, by omega, by go_num, by rw [HTK.out], by first | rfl | trivial⟩
          case measure => simp [intOf]; omega
        · have HTK : Hid ((l.take (j + 1)).foldl min h0 = y) := Lib.hid (by rw [htk]; omega)
          clear htk
          go_wp2_with fail
          go_roundw
          case rel => exact ⟨j + 1, by omega, by go_num, by rw [HTK.out], by first | rfl | trivial⟩
          case measure => simp [intOf]; omega
      · obtain rfl : j = l.length := by omega
        have hll : (l.take l.length).foldl min h0 = leastL l := by rw [List.take_length, ← HH0.out, ← head_getD]; rfl
        have hlne : l ≠ [] := fun e => HNE.out (by rw [e]; rfl)
        have HR : Hid (plainR l = fromL l (leastL l)) := Lib.hid (by unfold plainR; rw [if_pos ⟨HRT.out, hlne⟩])
        have HFR : Hid (fromR l (leastL l) = (fromL l (leastL l), true)) := Lib.hid (by unfold fromR; rw [if_pos ⟨HRT.out, (least_in hlne).1⟩])
        rw [hll]
        clear hll hlne
        obtain ⟨lst, hlst⟩ : ∃ x, leastL l = x := ⟨_, rfl⟩
        rw [hlst] at HR HFR ⊢
        clear hlst
        go_wp2_with fail
        refine (rfrom_any l _ lc lst _ (HL.out.ext HX2.out)).mono ?_
        rw [HFR.out]
        rintro ed w3 ⟨L3, l3, rfl, hO3, hE3⟩
        simp only at hO3 ⊢
        have HO3 := Lib.hid (hO3.mono HX2.out.size)
        have HX3 := Lib.hid (HX2.out.trans hE3)
        clear hO3 hE3
        go_wp2_with fail
        exact bodyPost_ret (v := .slice L3 (fromL l lst).length l3) (by simp [results, Try.results19, go_sem]) rfl (by rw [HR.out]; exact ⟨L3, l3, rfl, HO3.out, HX3.out⟩)

theorem Plain.next_at {l : List Int} {x d k : Int} {p : Nat} (hx : x ∈ l) (hp : l.idxOf x = p) (hk : ((p : Int) + d.tmod l.length).tmod l.length = k) : ∃ K : Nat, K < l.length ∧ (if k < 0 then k + l.length else k) = K ∧ (fromL l x).getD (d % (l.length : Int)).toNat 0 = l.getD K 0 := by
  have hl0 : 0 < l.length := List.length_pos_of_mem hx
  have hi := List.idxOf_lt_length_of_mem hx
  obtain ⟨n, hn⟩ : ∃ n, l.length = n := ⟨_, rfl⟩
  have hfa := fun d hd => from_at (l := l) hx d hd
  rw [hp, hn] at hi
  rw [hp, hn] at hfa
  rw [hn] at hl0 hk ⊢
  obtain ⟨e, he⟩ : ∃ e : Nat, d % (n : Int) = e := ⟨(d % (n : Int)).toNat, by have := Int.emod_nonneg d (b := (n : Int)) (by omega); omega⟩
  have hen : e < n := by have := Int.emod_lt_of_pos d (b := (n : Int)) (by omega); omega
  have hfe := hfa e hen
  have hK : (p + e) % n < n := Nat.mod_lt _ hl0
  refine ⟨(p + e) % n, hK, ?_, by rw [he]; exact hfe⟩
  -- both are the same by n
  have h1 : (k - ((p + e : Nat) : Int)) % n = 0 := by
    have a1 := Int.mul_tdiv_add_tmod ((p : Int) + d.tmod n) n
    have a2 := Int.mul_tdiv_add_tmod d n
    have a3 := Int.mul_ediv_add_emod d n
    rw [hk] at a1
    rw [he] at a3
    have a4 : k - ((p + e : Nat) : Int) = (n : Int) * (d / n - d.tdiv n - ((p : Int) + d.tmod n).tdiv n) := by
      rw [Int.mul_sub, Int.mul_sub]; omega
    rw [a4, Int.mul_emod_right]
  have h3 : k < n := by rw [← hk]; exact Int.tmod_lt_of_pos _ (by omega)
  have h4 : -(n : Int) < k := by
    rw [← hk]
    have h5 := Int.tmod_lt_of_pos (-((p : Int) + d.tmod n)) (b := (n : Int)) (by omega)
    rw [Int.neg_tmod] at h5
    omega
  have h6 : k % n = (((p + e) % n : Nat) : Int) := by
    rw [Int.natCast_emod]
    exact Int.emod_eq_emod_iff_emod_sub_eq_zero.2 h1
  split
  · rename_i hneg
    rw [← h6, ← Int.add_emod_right (a := k), Int.emod_eq_of_lt (by omega) (by omega)]
  · rw [← h6, Int.emod_eq_of_lt (by omega) h3]
set_option maxHeartbeats 1600000 in
set_option maxRecDepth 100000 in
theorem rnext_any (l : List Int) (L : Option Addr) (lc : Nat) (x d : Int) (w : World) (hL : Rd kInt w (.slice L l.length lc) l) (hd : in64 d) :
    Calls Try.prog 16 #[.slice L l.length lc, .int .i64 x, .int .i64 d] w fun ed w' => ed = .returned (.tuple #[.int .i64 (nextR l x d).1, .bool (nextR l x d).2]) ∧ Ext w w' := by
  have HL := Lib.hid hL
  clear hL
  go_enter Try.func16, Try.ntmps16
  go_wp2_with fail
  refine (rplace_any l L lc x _ HL.out).mono ?_
  rintro ed w1 ⟨rfl, rfl⟩
  have hpi := place_iff l x
  have hin := fun h : x ∈ l => place_in h
  obtain ⟨p, hp⟩ : ∃ p, placeP l x = p := ⟨_, rfl⟩
  rw [hp] at hpi hin ⊢
  clear hp
  go_wp2_with fail
  refine (rright13_any l L lc _ HL.out).mono ?_
  rintro ed w2 ⟨rfl, hE2⟩
  have HX2 := Lib.hid hE2
  clear hE2
  cases hr : rightL l with
  | false =>
    have HR : Hid (nextR l x d = (0, false)) := Lib.hid (by unfold nextR; rw [if_neg (by rw [hr]; simp)])
    clear hr hpi hin
    go_wp2_with fail
    exact bodyPost_ret (v := .tuple #[.int .i64 0, .bool false]) (by simp [results, Try.results16, go_sem]) rfl (by rw [HR.out]; exact ⟨rfl, HX2.out⟩)
  | true =>
    by_cases hx : x ∈ l
    · have hdp : decide (p < 0) = false := decide_eq_false (by have := hpi.2 hx; omega)
      have hil := List.idxOf_lt_length_of_mem hx
      have hl9 := ((rightL_iff l).1 hr).1
      have hpx := hin hx
      obtain ⟨q, hq⟩ : ∃ q, l.idxOf x = q := ⟨_, rfl⟩
      rw [hq] at hil hpx
      subst hpx
      obtain ⟨e, he⟩ : ∃ e, d.tmod l.length = e := ⟨_, rfl⟩
      obtain ⟨k, hk⟩ : ∃ k, ((q : Int) + e).tmod l.length = k := ⟨_, rfl⟩
      obtain ⟨K, hK, hKk, hat⟩ := next_at (d := d) (k := k) hx hq (by rw [he]; exact hk)
      have HR : Hid (nextR l x d = (l.getD K 0, true)) := Lib.hid (by rw [next_is hr hx, hat])
      have hb1 : -(l.length : Int) < e ∧ e < l.length := by
        rw [← he]
        have h5 := Int.tmod_lt_of_pos (-d) (b := (l.length : Int)) (by omega)
        rw [Int.neg_tmod] at h5
        have h6 := Int.tmod_lt_of_pos d (b := (l.length : Int)) (by omega)
        omega
      have hb2 : -(l.length : Int) < k ∧ k < l.length := by
        rw [← hk]
        have h5 := Int.tmod_lt_of_pos (-((q : Int) + e)) (b := (l.length : Int)) (by omega)
        rw [Int.neg_tmod] at h5
        have h6 := Int.tmod_lt_of_pos ((q : Int) + e) (b := (l.length : Int)) (by omega)
        omega
      have hw1 : IntKind.i64.wrap e = e := IntWalk.i64_in _ (by omega)
      have hw2 : IntKind.i64.wrap ((q : Int) + e) = (q : Int) + e := IntWalk.i64_in _ (by omega)
      have hw3 : IntKind.i64.wrap k = k := IntWalk.i64_in _ (by omega)
      have hw4 : IntKind.i64.wrap (k + (l.length : Int)) = k + (l.length : Int) := IntWalk.i64_in _ (by omega)
      obtain ⟨bl, ol, rfl, hcl⟩ := (ints_of_rd (HL.out.ext HX2.out)).cells (by omega)
      have z0 := hcl K hK
      obtain ⟨v, hv⟩ : ∃ v, l.getD K 0 = v := ⟨_, rfl⟩
      rw [hv] at z0 HR
      have hl0 : (0 : Int) < l.length := by omega
      have hlne : (l.length : Int) ≠ 0 := by omega
      have lbl : bl < w2.heap.size := World.block_lt_of_cell? _ _ z0
      have hK0 : (0 : Int) ≤ K := by omega
      have hK1 : (K : Int) < l.length := by omega
      clear hr hpi hin hx hq hcl hv hat hil
      obtain ⟨hb11, hb12⟩ := hb1
      obtain ⟨hb21, hb22⟩ := hb2
      by_cases hneg : k < 0
      · have hdk : decide (k < 0) = true := decide_eq_true hneg
        rw [if_pos hneg] at hKk
        clear hneg
        go_wp2_with fail
        exact bodyPost_ret (v := .tuple #[.int .i64 v, .bool true]) (by simp [results, Try.results16, go_sem]) rfl (by rw [HR.out]; exact ⟨rfl, HX2.out⟩)
      · have hdk : decide (k < 0) = false := decide_eq_false hneg
        rw [if_neg hneg] at hKk
        subst hKk
        clear hneg
        go_wp2_with fail
        exact bodyPost_ret (v := .tuple #[.int .i64 v, .bool true]) (by simp [results, Try.results16, go_sem]) rfl (by rw [HR.out]; exact ⟨rfl, HX2.out⟩)
    · have hdp : decide (p < 0) = true := decide_eq_true (by
        refine Decidable.byContradiction fun h => hx (hpi.1 (by omega)))
      have HR : Hid (nextR l x d = (0, false)) := Lib.hid (by unfold nextR; rw [if_neg (fun h => hx h.2)])
      clear hr hpi hin hx
      go_wp2_with fail
      exact bodyPost_ret (v := .tuple #[.int .i64 0, .bool false]) (by simp [results, Try.results16, go_sem]) rfl (by rw [HR.out]; exact ⟨rfl, HX2.out⟩)

set_option maxHeartbeats 1600000 in
set_option maxRecDepth 100000 in
theorem rsame13_any (a b : List Int) (L O : Option Addr) (lc oc : Nat) (w : World) (hL : Rd kInt w (.slice L a.length lc) a) (hO : Rd kInt w (.slice O b.length oc) b) :
    Calls Try.prog 23 #[.slice L a.length lc, .slice O b.length oc] w fun ed w' => ed = .returned (.bool (sameR a b)) ∧ Ext w w' := by
  have HL := Lib.hid hL
  have HO := Lib.hid hO
  clear hL hO
  have HS : Hid (sameR a b = (rightL a && rightL b && sameB (plainR a) (plainR b))) := Lib.hid rfl
  go_enter Try.func23, Try.ntmps23
  go_wp2_with fail
  refine (rright13_any a L lc _ HL.out).mono ?_
  rintro ed w2 ⟨rfl, hE2⟩
  have HX2 := Lib.hid hE2
  clear hE2
  cases hr : rightL a with
  | false =>
    rw [hr] at HS
    clear hr
    go_wp2_with fail
    go_ret
    exact ⟨ret_bool (by rw [HS.out]; rfl), HX2.out⟩
  | true =>
    rw [hr] at HS
    clear hr
    go_wp2_with fail
    refine (rright13_any b O oc _ (HO.out.ext HX2.out)).mono ?_
    rintro ed w3 ⟨rfl, hE3⟩
    have HX3 := Lib.hid (HX2.out.trans hE3)
    clear hE3
    cases hr : rightL b with
    | false =>
      rw [hr] at HS
      clear hr
      go_wp2_with fail
      go_ret
      exact ⟨ret_bool (by rw [HS.out]; rfl), HX3.out⟩
    | true =>
      rw [hr] at HS
      clear hr
      go_wp2_with fail
      refine (rplain_any a L lc _ (HL.out.ext HX3.out)).mono ?_
      rintro ed w4 ⟨L4, l4, rfl, hO4, hE4⟩
      have HX4 := Lib.hid (HX3.out.trans hE4)
      have HO4 := Lib.hid hO4.rd
      clear hO4 hE4
      go_wp2_with fail
      refine (rplain_any b O oc _ (HO.out.ext HX4.out)).mono ?_
      rintro ed w5 ⟨L5, l5, rfl, hO5, hE5⟩
      have HX5 := Lib.hid (HX4.out.trans hE5)
      have HO5 := Lib.hid hO5.rd
      have HP5 := Lib.hid (HO4.out.ext hE5)
      clear hO5 hE5
      go_wp2_with fail
      refine (ints_e _ _ _ _ _ HP5.out HO5.out).mono ?_
      rintro ed w6 ⟨rfl, hE6⟩
      have HX6 := Lib.hid (HX5.out.trans hE6)
      clear hE6
      go_wp2_with fail
      go_ret
      exact ⟨ret_bool (by rw [HS.out]; rfl), HX6.out⟩
end Go.Proofs.Ytmfabfnaminihaa

/- The document's Join, Cut (ref13). -/
namespace Go.Proofs.Ytmfabfnaminihaa
open Go.BigFrame
open Go.RowKit Go.Proofs.Ytmfabfnaminihaa.Plain

set_option maxHeartbeats 3200000 in
set_option maxRecDepth 100000 in
theorem rjoin_any (a b : List Int) (L O : Option Addr) (lc oc : Nat) (x y : Int) (w : World) (hL : Rd kInt w (.slice L a.length lc) a) (hO : Rd kInt w (.slice O b.length oc) b) :
    Calls Try.prog 10 #[.slice L a.length lc, .int .i64 x, .slice O b.length oc, .int .i64 y] w (LbSaid (joinR a x b y) w) := by
  have HL := Lib.hid hL
  have HO := Lib.hid hO
  clear hL hO
  have HJ : Hid (joinR a x b y = if (rightL b = true ∧ y ∈ b) ∧ (rightL a = true ∧ x ∈ a) ∧ rightL (insB (plainR a) x (fromL b y)) = true then (insB (plainR a) x (fromL b y), true) else ([], false)) := Lib.hid rfl
  obtain ⟨J, hJ⟩ : ∃ J, joinR a x b y = J := ⟨_, rfl⟩
  rw [hJ] at HJ ⊢
  clear hJ
  go_enter Try.func10, Try.ntmps10
  go_wp2_with fail
  have hfr : fromR b y = if rightL b = true ∧ y ∈ b then (fromL b y, true) else ([], false) := rfl
  refine (rfrom_any b O oc y _ HO.out).mono ?_
  obtain ⟨⟨F, okb⟩, hF⟩ : ∃ r, fromR b y = r := ⟨_, rfl⟩
  rw [hF] at hfr ⊢
  rintro ed w1 ⟨L1, l1, rfl, hO1, hE1⟩
  simp only at hO1 ⊢
  have HX1 := Lib.hid hE1
  have HF1 := Lib.hid hO1.rd
  have HFR := Lib.hid hfr
  clear hO1 hE1 hfr hF
  go_wp2_with fail
  refine (rright13_any a L lc _ (HL.out.ext HX1.out)).mono ?_
  rintro ed w2 ⟨rfl, hE2⟩
  have HX2 := Lib.hid (HX1.out.trans hE2)
  have HF2 := Lib.hid (HF1.out.ext hE2)
  clear hE2 HF1
  cases hr : rightL a with
  | false =>
    have HR : Hid (J = ([], false)) := Lib.hid (by rw [HJ.out, if_neg (fun h => by rw [h.2.1.1] at hr; cases hr)])
    clear hr
    go_wp2_with fail
    exact bodyPost_ret (v := .tuple #[.slice none 0 0, .bool false]) (by simp [results, Try.results10, go_sem]) rfl (by rw [HR.out]; exact ⟨none, 0, rfl, Ow.nil _ _, HX2.out⟩)
  | true =>
    have HRA := Lib.hid hr
    clear hr
    go_wp2_with fail
    refine (rplace_any a L lc x _ (HL.out.ext HX2.out)).mono ?_
    rintro ed w3 ⟨rfl, rfl⟩
    have hpi := place_iff a x
    obtain ⟨p, hp⟩ : ∃ p, placeP a x = p := ⟨_, rfl⟩
    rw [hp] at hpi ⊢
    clear hp
    by_cases hx : x ∈ a
    · have hdp : decide (p < 0) = false := decide_eq_false (by have := hpi.2 hx; omega)
      have HXA := Lib.hid hx
      clear hpi hx
      cases okb with
      | false =>
        have HR : Hid (J = ([], false)) := Lib.hid (by
          rw [HJ.out, if_neg]
          intro h
          have h1 := HFR.out
          rw [if_pos h.1] at h1; cases h1)
        go_wp2_with fail
        exact bodyPost_ret (v := .tuple #[.slice none 0 0, .bool false]) (by simp [results, Try.results10, go_sem]) rfl (by rw [HR.out]; exact ⟨none, 0, rfl, Ow.nil _ _, HX2.out⟩)
      | true =>
        have hfr2 : (rightL b = true ∧ y ∈ b) ∧ F = fromL b y := by
          have h1 := HFR.out
          split at h1
          · rename_i h2
            exact ⟨h2, congrArg Prod.fst h1⟩
          · cases h1
        obtain ⟨hbb, rfl⟩ := hfr2
        have HFL : Hid ((fromL b y).length ≤ 1000) := Lib.hid (by rw [from_len]; exact ((rightL_iff b).1 hbb.1).1)
        obtain ⟨F, hFx⟩ : ∃ F, fromL b y = F := ⟨_, rfl⟩
        rw [hFx] at HJ HFL HF2 ⊢
        have HBB := Lib.hid hbb
        clear hFx hbb HFR
        go_wp2_with fail
        refine (rplain_any a L lc _ (HL.out.ext HX2.out)).mono ?_
        rintro ed w4 ⟨L4, l4, rfl, hO4, hE4⟩
        have hpx : x ∈ plainR a := (plain_mem HRA.out x).2 HXA.out
        have HPL : Hid ((plainR a).length ≤ 1000) := Lib.hid (by rw [← (rot_perm (plain_right HRA.out)).length_eq]; exact ((rightL_iff a).1 HRA.out).1)
        obtain ⟨P, hP⟩ : ∃ P, plainR a = P := ⟨_, rfl⟩
        rw [hP] at HJ HPL hpx hO4 ⊢
        have HX4 := Lib.hid (HX2.out.trans hE4)
        have HF4 := Lib.hid (HF2.out.ext hE4)
        have HP4 := Lib.hid hO4.rd
        obtain ⟨_, _, hsl, hlc⟩ := hO4.slice
        cases hsl
        clear hO4 hE4 HF2 hP
        go_wp2_with fail
        refine (rplace_any P L4 l4 x _ HP4.out).mono ?_
        rintro ed w5 ⟨rfl, rfl⟩
        have hil := List.idxOf_lt_length_of_mem hpx
        have hJ2 : insB P x F = P.take (P.idxOf x + 1) ++ F ++ P.drop (P.idxOf x + 1) := rfl
        rw [place_in hpx]
        obtain ⟨k, hk⟩ : ∃ k, P.idxOf x = k := ⟨_, rfl⟩
        rw [hk] at hJ2 hil ⊢
        have hkP : k < P.length := hil
        obtain ⟨K, hK⟩ : ∃ K, k + 1 = K := ⟨_, rfl⟩
        rw [hK] at hJ2
        have hKI : (k : Int) + 1 = (K : Int) := by omega
        have hKP : K ≤ P.length := by omega
        have hw9 : IntKind.i64.wrap (K : Int) = (K : Int) := IntWalk.i64_in _ (by have := HPL.out; omega)
        obtain ⟨out, hout⟩ : ∃ out, insB P x F = out := ⟨_, rfl⟩
        rw [hout] at hJ2 HJ
        have HJ2 := Lib.hid hJ2
        have HLL : Hid (P.length ≤ 1000 ∧ F.length ≤ 1000 ∧ K ≤ P.length) := Lib.hid ⟨HPL.out, HFL.out, by omega⟩
        have hk0 : (0 : Int) ≤ K := by omega
        have hk1 : (K : Int) ≤ P.length := by omega
        have hk2 : (K : Int) ≤ l4 := by omega
        have hk3 : (P.length : Int) ≤ l4 := by omega
        have HD : Hid (Rd kInt w4 (.slice (if l4 = K then L4 else Option.map (fun x => x.add K) L4) (P.length - K) (l4 - K)) (P.drop K)) := Lib.hid (Rd.sliced HP4.out rfl K (by omega))
        have HT : Hid (Rd kInt w4 (.slice L4 K l4) (P.take K)) := Lib.hid (Rd.take HP4.out K l4 (by omega) (by omega))
        have hz4 := HX4.out.size
        clear hpx hil hk hout hJ2 hK hkP hKP
        go_upto_region 1 with fail
        go_region_law (first
          | (refine kInt.step_app (by rfl) (.tmp 40) (.tmp 43) (by rfl) (by rfl) w4.heap.size _ [] (by rfl) (empty_at (by first | exact heap_alloc_new _ _ | exact (heap_alloc_old _ _ (by first | (simp; done) | (simp; omega) | omega)).trans (heap_alloc_new _ _) | exact heap_alloc_at (by first | (simp; done) | (simp; omega) | omega)) (by first | omega | (simp; done) | (simp; omega))) _ (P.take K) (by rfl) (Rd.ext HT.out (by repeat (first | (with_reducible exact Ext.refl _) | (with_reducible assumption) | refine Ext.alloc ?_ _ | refine Ext.drew ?_ | refine Ext.drewN ?_ _))) (by rw [List.length_take, List.length_nil]; have := HLL.out; omega) (by first | omega | (simp; done) | (simp; omega)) ?_
             intro v5 w5 hown5 hgrow5 hat5
             have hx5 : Ext w4 w5 := Ext.grown (by repeat (first | (with_reducible exact Ext.refl _) | (with_reducible assumption) | refine Ext.alloc ?_ _ | refine Ext.drew ?_ | refine Ext.drewN ?_ _)) hgrow5 (fun b hb => by cases hb; simp)
             rw [List.nil_append] at hown5
             have hs5 := hx5.size)
          | (refine kInt.step_app (by rfl) (.tmp 44) (.tmp 45) (by rfl) (by rfl) w4.heap.size _ (P.take K) (by rfl) (Ow.ext hown5 (by repeat (first | (with_reducible exact Ext.refl _) | (with_reducible assumption) | refine Ext.alloc ?_ _ | refine Ext.drew ?_ | refine Ext.drewN ?_ _))) _ F (by rfl) (Rd.ext HF4.out (by repeat (first | (with_reducible exact Ext.refl _) | (with_reducible assumption) | refine Ext.alloc ?_ _ | refine Ext.drew ?_ | refine Ext.drewN ?_ _))) (by rw [List.length_take]; have := HLL.out; omega) (by first | omega | (simp; omega)) ?_
             intro v6 w6 hown6 hgrow6 hat6
             have hx6 : Ext w4 w6 := Ext.grown (by repeat (first | (with_reducible exact Ext.refl _) | (with_reducible assumption) | refine Ext.alloc ?_ _ | refine Ext.drew ?_ | refine Ext.drewN ?_ _)) hgrow6 (fun b hb => (hown5.lt b hb).1)
             have hs6 := hx6.size)
          | (refine kInt.step_app (by rfl) (.tmp 46) (.tmp 49) (by rfl) (by rfl) w4.heap.size _ (P.take K ++ F) (by rfl) (Ow.ext hown6 (by repeat (first | (with_reducible exact Ext.refl _) | (with_reducible assumption) | refine Ext.alloc ?_ _ | refine Ext.drew ?_ | refine Ext.drewN ?_ _))) _ (P.drop K) (by rfl) (Rd.ext HD.out (by repeat (first | (with_reducible exact Ext.refl _) | (with_reducible assumption) | refine Ext.alloc ?_ _ | refine Ext.drew ?_ | refine Ext.drewN ?_ _))) (by rw [List.length_append, List.length_take, List.length_drop]; have := HLL.out; omega) (by first | omega | (simp; omega)) ?_
             intro v7 w7 hown7 hgrow7 hat7
             have hx7 : Ext w4 w7 := Ext.grown (by repeat (first | (with_reducible exact Ext.refl _) | (with_reducible assumption) | refine Ext.alloc ?_ _ | refine Ext.drew ?_ | refine Ext.drewN ?_ _)) hgrow7 (fun b hb => (hown6.lt b hb).1)
             rw [← HJ2.out] at hown7
             obtain ⟨A7, c7, hv7, hc7⟩ := hown7.slice
             subst hv7)
          | fail)
        all_goals
          have HO7 := Lib.hid hown7
          have HX7 := Lib.hid (HX4.out.trans hx7)
          clear hown7 hgrow7 hat7 hown6 hgrow6 hat6 hown5 hgrow5 hat5
          go_wp2_with fail
        all_goals
          refine (rright13_any out A7 c7 _ HO7.out.rd).mono ?_
          rintro ed w8 ⟨rfl, hE8⟩
          have HX8 := Lib.hid (HX7.out.trans hE8)
          have HO8 := Lib.hid (HO7.out.ext hE8)
          clear hE8
          cases hro : rightL out with
          | false =>
            have HR : Hid (J = ([], false)) := Lib.hid (by rw [HJ.out, if_neg (fun h => by rw [h.2.2] at hro; cases hro)])
            clear hro
            go_wp2_with fail
            exact bodyPost_ret (v := .tuple #[.slice none 0 0, .bool false]) (by simp [results, Try.results10, go_sem]) rfl (by rw [HR.out]; exact ⟨none, 0, rfl, Ow.nil _ _, HX8.out⟩)
          | true =>
            have HR : Hid (J = (out, true)) := Lib.hid (by rw [HJ.out, if_pos ⟨HBB.out, ⟨HRA.out, HXA.out⟩, hro⟩])
            clear hro
            go_wp2_with fail
            exact bodyPost_ret (v := .tuple #[.slice A7 out.length c7, .bool true]) (by simp [results, Try.results10, go_sem]) rfl (by rw [HR.out]; exact ⟨A7, c7, rfl, HO8.out.mono hz4, HX8.out⟩)
    · have hdp : decide (p < 0) = true := decide_eq_true (by
        refine Decidable.byContradiction fun h => hx (hpi.1 (by omega)))
      have HR : Hid (J = ([], false)) := Lib.hid (by rw [HJ.out, if_neg (fun h => hx h.2.1.2)])
      clear hpi hx
      go_wp2_with fail
      exact bodyPost_ret (v := .tuple #[.slice none 0 0, .bool false]) (by simp [results, Try.results10, go_sem]) rfl (by rw [HR.out]; exact ⟨none, 0, rfl, Ow.nil _ _, HX2.out⟩)
end Go.Proofs.Ytmfabfnaminihaa
