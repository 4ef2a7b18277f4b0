/- Joined by wip/merge.py: T13K, T15K, LoL, T13S, T13T, T13U, T14R, T14S, T14B, T14C. -/
import Derived.Test.YtllpfegnpakadaaJ2
import Derived.Maps.RangeWalk
import Derived.DeepKeys4
import Derived.Laws.BitsAllLaws
set_option linter.unusedVariables false
set_option linter.unusedSimpArgs false
set_option linter.unnecessarySimpa false
/- The program's small functions of rings: inBounds, eachOnce, Right, places, turned. Written by wip/mk_t13x.py. -/
namespace Go.Proofs.Ytllpfegnpakadaa
open Go.BigFrame
open Go.RowKit Go.Proofs.Ytllpfegnpakadaa.Plain

set_option maxHeartbeats 3200000 in
set_option maxRecDepth 100000 in
theorem pbounds13_any (l : List Int) (L : Option Addr) (lc : Nat) (w : World) (hL : Rd kInt w (.slice L l.length lc) l) :
    Calls Try.prog 56 #[.slice L l.length lc] w fun ed w' => ed = .returned (.bool (l.all tokOk)) ∧ w = w' := by
  have HL := Lib.hid hL
  have hm := hL.len
  have hm' : (l.length : Int) ≤ 9223372036854775807 := by omega
  clear hL hm
  go_enter Try.func56, Try.ntmps56
  go_wp2_with fail
  go_loopw [7] (fun i wr => ∃ j : Nat, j ≤ l.length ∧ i = .int .i64 j ∧ (l.take j).all tokOk = true ∧ w = wr) (fun i _ => l.length - (intOf i).toNat)
  case atStart => exact ⟨0, Nat.zero_le _, rfl, rfl, rfl⟩
  case round =>
    obtain ⟨j, hj, rfl, hin, rfl⟩ := hrel
    have hj0 : (0 : Int) ≤ j := by omega
    by_cases hlt : j < l.length
    · have hlt' : (j : Int) < l.length := by omega
      obtain ⟨bl, ol, rfl, z0⟩ := int_at9 HL.out j hlt
      have htk := ints_take hlt
      have hmem := ints_mem hlt
      obtain ⟨x, hx⟩ : ∃ x, l.getD j 0 = x := ⟨_, rfl⟩
      rw [hx] at z0 htk hmem
      have hout : ¬ (0 ≤ x ∧ x ≤ 10000) → l.all tokOk = false := fun h => by
        rw [← Bool.not_eq_true, List.all_eq_true]
        intro h9
        have h8 := h9 x hmem
        unfold tokOk at h8
        rw [Bool.and_eq_true, decide_eq_true_eq, decide_eq_true_eq] at h8
        exact h h8
      by_cases h1 : x < 0
      · have hd1 : decide (x < 0) = true := decide_eq_true h1
        have HR := Lib.hid (hout (by omega))
        clear htk hmem hout h1 hin hx
        go_wp2_with fail
        go_ret
        exact ⟨ret_bool HR.out.symm, rfl⟩
      have hd1 : decide (x < 0) = false := decide_eq_false h1
      by_cases h2 : 10000 < x
      · have hd2 : decide (10000 < x) = true := decide_eq_true h2
        have HR := Lib.hid (hout (by omega))
        clear htk hmem hout h1 h2 hin hx
        go_wp2_with fail
        go_ret
        exact ⟨ret_bool HR.out.symm, rfl⟩
      have hd2 : decide (10000 < x) = false := decide_eq_false h2
      have HIN : Hid ((l.take (j + 1)).all tokOk = true) := Lib.hid (by
        rw [htk, List.all_append, hin, Bool.true_and, List.all_cons, List.all_nil, Bool.and_true]
        unfold tokOk
        rw [Bool.and_eq_true, decide_eq_true_eq, decide_eq_true_eq]; omega)
      clear htk hmem hout h1 h2 hin hx
      go_wp2_with fail
      go_roundw
      case rel => exact ⟨j + 1, by omega, by go_num, HIN.out, by first | rfl | trivial⟩
      case measure => simp [intOf]; omega
    · obtain rfl : j = l.length := by omega
      rw [List.take_length] at hin
      have HR := Lib.hid hin
      clear hin
      go_wp2_with fail
      go_ret
      exact ⟨ret_bool HR.out.symm, rfl⟩

/-- integers of a list as keys of a set -/
def setZ (xs : List Int) : DataW Unit := Maps.setOf (.agg []) (xs.map fun x : Int => Lit.int .i64 x)
theorem setZ_nil : setZ [] = .map [] := rfl
theorem setZ_snoc (xs : List Int) (x : Int) : setZ (xs ++ [x]) = (setZ xs).put (.int .i64 x) (.agg []) := by simp [setZ, Maps.setOf_snoc]
theorem keyZs (xs : List Int) : ∀ x ∈ xs.map (fun x : Int => Lit.int .i64 x), WideAt.IsKeyLit x := by intro x hx; obtain ⟨y, _, rfl⟩ := List.mem_map.1 hx; exact trivial
theorem has_setZ (xs : List Int) (c : Int) : Maps.has (setZ xs) (.int .i64 c) = decide (c ∈ xs) := by
  rw [setZ, Maps.has_setOf _ _ _ (keyZs xs)]
  rw [Bool.eq_iff_iff]
  simp only [List.any_map, List.any_eq_true, decide_eq_true_eq, Function.comp]
  constructor
  · rintro ⟨x, hx, h⟩
    have : x = c := by simpa [Lit.sameKey] using h
    subst this; exact hx
  · exact fun h => ⟨c, h, by simp [Lit.sameKey]⟩
theorem size_setZ (xs : List Int) : ∀ k, k ≤ xs.length → Maps.size (setZ (xs.take k)) ≤ k ∧ (Maps.size (setZ (xs.take k)) = k ↔ (xs.take k).Nodup) := by
  intro k
  induction k with
  | zero => intro _; exact ⟨Nat.le_refl _, fun _ => by simp, fun _ => rfl⟩
  | succ k ih =>
    intro hk
    obtain ⟨h1, h2⟩ := ih (by omega)
    have hsp := Maps.size_put (D := setZ (xs.take k)) (k := .int .i64 (xs.getD k 0)) (Maps.tidy_setOf _ _ (keyZs _)) (.agg [])
    rw [has_setZ] at hsp
    rw [ints_take (by omega), setZ_snoc, hsp]
    by_cases hm : xs.getD k 0 ∈ xs.take k
    · rw [decide_eq_true hm]
      refine ⟨by simp; omega, fun h => ?_, fun h => ?_⟩
      · simp at h; omega
      · rw [List.nodup_append] at h
        exact absurd rfl (h.2.2 _ hm _ (by simp))
    · rw [decide_eq_false hm]
      refine ⟨by simp; omega, fun h => ?_, fun h => ?_⟩
      · simp at h
        exact ints_snoc _ _ (h2.1 h) hm
      · rw [List.nodup_append] at h
        have := h2.2 h.1
        simp; omega
theorem keyedZ : Maps.Keyed Try.prog 3 := Maps.int_keyed Try.underlying3
theorem keyZ (x : Int) (hx : in64 x) : keyOf Try.prog 3 (.int .i64 x) = some (.int .i64 x) := Maps.keyOf_int_mk Try.underlying3 (by unfold in64 at hx; simp [Lit.wf, IntKind.min, IntKind.max, IntKind.signed, IntKind.bits]; omega)
theorem run_makeMap13 {P : Program} {t k e : TypeId} (hu : P.underlying t = some (.map k e)) (n : Int) (w : World) : (Instr.makeMap t (some (.int .i64 n))).run P w = .ok (.map (some w.heap.size)) (w.alloc (.map #[] 0)) := by
  simp [Instr.makeMap, run_underlying hu, asInt, asIntOf, Result.andThen]
set_option maxHeartbeats 3200000 in
set_option maxRecDepth 100000 in
theorem ponce13_any (l : List Int) (L : Option Addr) (lc : Nat) (w : World) (hL : Rd kInt w (.slice L l.length lc) l) (hl : l.length ≤ 1000000) :
    Calls Try.prog 57 #[.slice L l.length lc] w fun ed w' => ed = .returned (.bool (decide l.Nodup)) ∧ Ext w w' := by
  have HL := Lib.hid hL
  have hl' : (l.length : Int) ≤ 1000000 := by omega
  clear hL
  have hmm := @run_makeMap13 Try.prog 79 _ _ Try.underlying79
  go_enter Try.func57, Try.ntmps57
  go_wp2_with fail
  go_loopw [11] (fun i wr => ∃ k : Nat, k ≤ l.length ∧ i = .int .i64 k ∧ wr.ownsMap Try.prog 3 unitElem w.heap.size k (setZ (l.take k)) ∧ Ext w wr ∧ w.heap.size < wr.heap.size) (fun i _ => l.length - (intOf i).toNat)
  case atStart => exact ⟨0, Nat.zero_le _, rfl, by rw [List.take_zero, setZ_nil]; exact World.ownsMap_made _ _ _ _, (Ext.refl w).alloc _, by simp⟩
  case round =>
    obtain ⟨k, hk, rfl, hown, hX, hsz⟩ := hrel
    have HX := Lib.hid hX
    have HOW := Lib.hid hown
    have hk0 : (0 : Int) ≤ k := by omega
    clear hX hmm hown
    by_cases hlt : k < l.length
    · have hlt' : (k : Int) < l.length := by omega
      obtain ⟨bx, ox, rfl, z0⟩ := int_at9 (HL.out.ext HX.out) k hlt
      have htk := ints_take hlt
      have hok : in64 (l.getD k 0) := HL.out.okAt k hlt
      obtain ⟨x, hx⟩ : ∃ x, l.getD k 0 = x := ⟨_, rfl⟩
      rw [hx] at z0 htk hok
      have HKEY := Lib.hid (keyZ x hok)
      have HTK := Lib.hid htk
      have HSN := Lib.hid (setZ_snoc (l.take k) x)
      have lbx : bx < wr.heap.size := World.block_lt_of_cell? _ _ z0
      have HML : Hid (k < maxLen) := Lib.hid (by unfold maxLen; omega)
      clear htk hx hok
      go_wp2_with (at_mapUpdate; refine wpList_mapUpdate_own _ rfl _ _ _ 79 rfl 3 80 keyedZ Try.underlying79 (unitElem (H := Unit)) w.heap.size k _ rfl HOW.out HML.out _ _ _ rfl rfl HKEY.out _ [] unitElem_mk ?_; intro w1 hown1 hgrow1)
      have H1 := Lib.hid (And.intro hown1 hgrow1)
      clear hown1 hgrow1
      go_wp2_with fail
      go_roundw
      case rel => exact ⟨k + 1, by omega, by go_num, by rw [HTK.out, HSN.out]; exact H1.out.1, HX.out.grown H1.out.2 (fun j hj => by cases hj; exact Nat.le_refl _), by have := H1.out.2.size; omega⟩
      case measure => simp [intOf]; omega
    · obtain rfl : k = l.length := by omega
      have hsz9 := size_setZ l l.length (Nat.le_refl _)
      rw [List.take_length] at HOW hsz9
      obtain ⟨q, hq⟩ : ∃ q, Maps.size (setZ l) = q := ⟨_, rfl⟩
      rw [hq] at hsz9
      have HQ := Lib.hid hq
      have hq9 : (q : Int) ≤ 1000000 := by omega
      clear hq
      by_cases hn : q = l.length
      · have HR : Hid (decide l.Nodup = true) := Lib.hid (decide_eq_true (hsz9.2.1 hn))
        have e1 : ((q : Int) == (l.length : Int)) = true := by simp [hn]
        have e2 : (q == l.length) = true := by simp [hn]
        clear hsz9 hn
        go_wp2_with (at_len; refine wpList_len_own _ rfl _ 79 rfl 3 80 Try.underlying79 _ w.heap.size l.length (setZ l) rfl HOW.out ?_; rw [HQ.out])
        go_ret
        exact ⟨ret_bool HR.out.symm, HX.out⟩
      · have HR : Hid (decide l.Nodup = false) := Lib.hid (decide_eq_false (fun h => hn (hsz9.2.2 h)))
        have e1 : ((q : Int) == (l.length : Int)) = false := by simp; omega
        have e2 : (q == l.length) = false := by simp [hn]
        clear hsz9 hn
        go_wp2_with (at_len; refine wpList_len_own _ rfl _ 79 rfl 3 80 Try.underlying79 _ w.heap.size l.length (setZ l) rfl HOW.out ?_; rw [HQ.out])
        go_ret
        exact ⟨ret_bool HR.out.symm, HX.out⟩
theorem Plain.right_parts (l : List Int) : rightL l = (decide (l.length ≤ 1000) && l.all tokOk && decide l.Nodup) := rfl
set_option maxHeartbeats 3200000 in
set_option maxRecDepth 100000 in
theorem pright13_any (l : List Int) (L : Option Addr) (lc : Nat) (w : World) (hL : Rd kInt w (.slice L l.length lc) l) (hl : l.length ≤ 2000) :
    Calls Try.prog 46 #[.slice L l.length lc] w fun ed w' => ed = .returned (.bool (rightL l)) ∧ Ext w w' := by
  have HB := Lib.hid (pbounds13_any l L lc w hL)
  have HO := Lib.hid (ponce13_any l L lc w hL (by omega))
  have hrp := right_parts l
  have hl9 : (l.length : Int) ≤ 2000 := by omega
  obtain ⟨b1, hb1⟩ : ∃ b, l.all tokOk = b := ⟨_, rfl⟩
  obtain ⟨b2, hb2⟩ : ∃ b, decide l.Nodup = b := ⟨_, rfl⟩
  rw [hb1] at HB hrp
  rw [hb2] at HO hrp
  clear hb1 hb2 hL
  by_cases h1 : l.length ≤ 1000
  · have hd : decide ((l.length : Int) ≤ 1000) = true := decide_eq_true (by omega)
    have hdN : decide (l.length ≤ 1000) = true := decide_eq_true h1
    rw [hdN] at hrp
    have HR := Lib.hid hrp
    clear hrp h1
    cases b1 with
    | false =>
      go_enter Try.func46, Try.ntmps46
      go_wp2_with fail
      refine HB.out.mono ?_
      rintro ed w1 ⟨rfl, rfl⟩
      go_wp2_with fail
      go_ret
      exact ⟨ret_bool (by rw [HR.out]; rfl), Ext.refl _⟩
    | true =>
      go_enter Try.func46, Try.ntmps46
      go_wp2_with fail
      refine HB.out.mono ?_
      rintro ed w1 ⟨rfl, rfl⟩
      go_wp2_with fail
      refine HO.out.mono ?_
      rintro ed w2 ⟨rfl, hE⟩
      have HE := Lib.hid hE
      clear hE
      go_wp2_with fail
      go_ret
      exact ⟨ret_bool (by rw [HR.out]; rfl), HE.out⟩
  · have hd : decide ((l.length : Int) ≤ 1000) = false := decide_eq_false (by omega)
    have hdN : decide (l.length ≤ 1000) = false := decide_eq_false h1
    rw [hdN] at hrp
    have HR := Lib.hid hrp
    clear hrp h1
    go_enter Try.func46, Try.ntmps46
    go_wp2_with fail
    go_ret
    exact ⟨ret_bool (by rw [HR.out]; rfl), Ext.refl _⟩
/-- the first ones are told, the others are naught -/
def Plain.atP (l ts : List Int) (j : Nat) : List Int := (ts.take j).map (fun t => ((l.idxOf t : Nat) : Int)) ++ List.replicate (ts.length - j) 0
theorem Plain.atP_len (l ts : List Int) (j : Nat) (hj : j ≤ ts.length) : (atP l ts j).length = ts.length := by
  unfold atP; rw [List.length_append, List.length_map, List.length_take, List.length_replicate]; omega
theorem Plain.atP_set (l ts : List Int) (j : Nat) (hj : j < ts.length) : (atP l ts j).set j ((l.idxOf (ts.getD j 0) : Nat) : Int) = atP l ts (j + 1) := by
  unfold atP
  have h1 : ((ts.take j).map (fun t => ((l.idxOf t : Nat) : Int))).length = j := by rw [List.length_map, List.length_take]; omega
  rw [List.set_append, if_neg (by omega), h1, show ts.length - j = (ts.length - (j + 1)) + 1 by omega, List.replicate_succ, Nat.sub_self, List.set_cons_zero, ints_take hj, List.map_append]
  simp
set_option maxHeartbeats 3200000 in
set_option maxRecDepth 100000 in
theorem pplaces13_any (l ts : List Int) (L A : Option Addr) (lc ac : Nat) (w : World) (hL : Rd kInt w (.slice L l.length lc) l) (hA : Rd kInt w (.slice A ts.length ac) ts) (hl : l.length ≤ 2000) (ht : ts.length ≤ 1000) :
    Calls Try.prog 44 #[.slice L l.length lc, .slice A ts.length ac] w (LbSaid (placesP l ts) w) := by
  have HL := Lib.hid hL
  have HA := Lib.hid hA
  have HC := Lib.hid (pright13_any l L lc w hL hl)
  have hl9 : (l.length : Int) ≤ 2000 := by omega
  have ht9 : (ts.length : Int) ≤ 1000 := by omega
  clear hL hA
  cases hr : rightL l with
  | false =>
    rw [hr] at HC
    have HR : Hid (placesP l ts = ([], false)) := Lib.hid (places_no (by rw [hr]; simp))
    clear hr
    go_enter Try.func44, Try.ntmps44
    go_wp2_with fail
    refine HC.out.mono ?_
    rintro ed w1 ⟨rfl, hE⟩
    have HE := Lib.hid hE
    clear hE
    go_wp2_with fail
    exact bodyPost_ret (v := .tuple #[.slice none 0 0, .bool false]) (by simp [results, Try.results44, go_sem]) rfl (by rw [HR.out]; exact ⟨none, 0, rfl, Ow.nil _ _, HE.out⟩)
  | true =>
    rw [hr] at HC
    have HRT := Lib.hid hr
    clear hr
    obtain ⟨n, hn⟩ : ∃ n, ts.length = n := ⟨_, rfl⟩
    have HN := Lib.hid hn
    rw [hn] at ht ht9 ⊢
    obtain ⟨C, hmk, hmo⟩ := kInt.make 0 rfl (show in64 0 by decide) n (by omega)
    have HM := Lib.hid hmo
    have hma : ∀ w : World, (Instr.makeSlice 22 (.int .i64 n) (.int .i64 n)).run Try.prog w = .ok (.slice (some ⟨w.heap.size, 0, none⟩) n n) (w.alloc (.cells C 3)) := hmk
    clear hmk hmo hn
    go_enter Try.func44, Try.ntmps44
    go_wp2_with fail
    refine HC.out.mono ?_
    rintro ed w1 ⟨rfl, hE⟩
    have HE1 := Lib.hid hE
    clear hE HC
    go_wp2_with fail
    go_loopw [17] (fun i wr => ∃ j : Nat, j ≤ n ∧ i = .int .i64 j ∧ (∀ t ∈ ts.take j, t ∈ l) ∧ Ow kInt w1.heap.size wr (.slice (some ⟨w1.heap.size, 0, none⟩) n n) (atP l ts j) ∧ Ext w1 wr) (fun i _ => n - (intOf i).toNat)
    case atStart =>
      refine ⟨0, Nat.zero_le _, rfl, by simp, ?_, (Ext.refl _).alloc _⟩
      have e : atP l ts 0 = List.replicate n 0 := by unfold atP; rw [HN.out]; simp
      rw [e]
      exact HM.out w1 _ _ rfl (Nat.le_refl _)
    case round =>
      obtain ⟨j, hj, rfl, hin, hO, hX⟩ := hrel
      have HX := Lib.hid hX
      have hj0 : (0 : Int) ≤ j := by omega
      clear hX hma
      by_cases hlt : j < n
      · have hlt' : (j : Int) < n := by omega
        have hjl : j < ts.length := by rw [HN.out]; exact hlt
        obtain ⟨ba, oa, rfl, z0⟩ := int_at9 (HA.out.ext (HE1.out.trans HX.out)) j hjl
        have htk := ints_take hjl
        have hst := atP_set l ts j hjl
        have hlen := atP_len l ts j (by omega)
        obtain ⟨x, hx⟩ : ∃ x, ts.getD j 0 = x := ⟨_, rfl⟩
        rw [hx] at z0 htk hst
        obtain ⟨p, hp⟩ : ∃ p, placeP l x = p := ⟨_, rfl⟩
        have hpi := place_iff l x
        have hpl := place_lt l x
        have hpin := fun h : x ∈ l => place_in h
        rw [hp] at hpi hpl hpin
        have HI := Lib.hid (indexI l L lc x wr (HL.out.ext (HE1.out.trans HX.out)))
        rw [hp] at HI
        have hO1 := hO.setZ (u := j) (v := p) (by omega) (by unfold in64; omega)
        have ⟨y0, yf, _, yg⟩ := hO.atZ (u := j) (by omega)
        have yf0 := yf j
        obtain ⟨y1, _, _, _⟩ := hO1.atZ (u := j) (by rw [List.length_set]; omega)
        have hgd : ((atP l ts j).set j p).getD j 0 = p := by
          rw [List.getD_eq_getElem?_getD, List.getElem?_set, if_pos rfl, if_pos (by omega)]; rfl
        rw [hgd] at y1
        have HX1 : Hid (Ext w1 (wr.setCell ⟨w1.heap.size, j, none⟩ (.int .i64 p))) := Lib.hid (HX.out.setCell (p := ⟨w1.heap.size, j, none⟩) (Nat.le_refl _) _)
        have lba : ba < wr.heap.size := World.block_lt_of_cell? _ _ z0
        by_cases hxl : x ∈ l
        · have hd : decide (p < 0) = false := decide_eq_false (by have := hpi.2 hxl; omega)
          rw [← hpin hxl] at hst
          rw [hst] at hO1
          have HO1 := Lib.hid hO1
          have HIN : Hid (∀ t ∈ ts.take (j + 1), t ∈ l) := Lib.hid (by
            rw [htk]
            intro t h9
            rw [List.mem_append, List.mem_singleton] at h9
            rcases h9 with h9 | rfl
            · exact hin t h9
            · exact hxl)
          clear htk hst hlen hx hp hpi hpl hpin hO hO1 y1 hgd hxl hin yf
          go_wp2_with fail
          refine HI.out.mono ?_
          rintro ed w9 ⟨rfl, rfl⟩
          go_wp2_with fail
          go_roundw
          case rel => exact ⟨j + 1, by omega, by go_num, HIN.out, HO1.out, HX1.out⟩
          case measure => simp [intOf]; omega
        · have hd : decide (p < 0) = true := decide_eq_true (by
            refine Decidable.byContradiction fun h => hxl (hpi.1 (by omega)))
          have HR : Hid (placesP l ts = ([], false)) := Lib.hid (places_no (fun h => hxl (h.2 x (by rw [← hx]; exact ints_mem hjl))))
          clear htk hst hlen hx hp hpi hpl hpin hO hO1 y1 hgd hxl hin yf
          go_wp2_with fail
          refine HI.out.mono ?_
          rintro ed w9 ⟨rfl, rfl⟩
          go_wp2_with fail
          exact bodyPost_ret (v := .tuple #[.slice none 0 0, .bool false]) (by simp [results, Try.results44, go_sem]) rfl (by rw [HR.out]; exact ⟨none, 0, rfl, Ow.nil _ _, HE1.out.trans HX1.out⟩)
      · obtain rfl : j = n := by omega
        have hall : ∀ t ∈ ts, t ∈ l := by rw [← HN.out, List.take_length] at hin; exact hin
        have HR : Hid (placesP l ts = (atP l ts j, true)) := Lib.hid (by
          rw [places_yes HRT.out hall]
          unfold atP
          rw [← HN.out, List.take_length]; simp)
        have HO := Lib.hid (hO.mono (B' := w.heap.size) HE1.out.size)
        have hlen := atP_len l ts j (by rw [HN.out]; exact Nat.le_refl _)
        rw [HN.out] at hlen
        have HLN := Lib.hid hlen
        clear hO hin hall hlen
        go_wp2_with fail
        exact bodyPost_ret (v := .tuple #[.slice (some ⟨w1.heap.size, 0, none⟩) j j, .bool true]) (by simp [results, Try.results44, go_sem]) rfl (by rw [HR.out]; exact ⟨_, j, by rw [HLN.out], by rw [HLN.out]; exact HO.out, HE1.out.trans HX.out⟩)
set_option maxHeartbeats 3200000 in
set_option maxRecDepth 100000 in
theorem pturned13_any (l : List Int) (L : Option Addr) (lc q : Nat) (w : World) (hL : Rd kInt w (.slice L l.length lc) l) (hl : l.length ≤ 2000) (hq : q ≤ l.length) :
    Calls Try.prog 50 #[.slice L l.length lc, .int .i64 q] w (LsSaid (l.drop q ++ l.take q) w) := by
  obtain ⟨_, _, hsl, hlc⟩ := hL.slice
  cases hsl
  have hq0 : (0 : Int) ≤ q := by omega
  have hq1 : (q : Int) ≤ l.length := by omega
  have hq2 : (q : Int) ≤ lc := by omega
  have hl2 : (l.length : Int) ≤ lc := by omega
  have HD : Hid (Rd kInt w (.slice (if lc = q then L else Option.map (fun x => x.add q) L) (l.length - q) (lc - q)) (l.drop q)) := Lib.hid (Rd.sliced hL rfl q hq)
  have HT : Hid (Rd kInt w (.slice L q lc) (l.take q)) := Lib.hid (Rd.take hL q lc hq (by omega))
  have HLL : Hid ((l.drop q).length + (l.take q).length ≤ 1000000) := Lib.hid (by rw [List.length_drop, List.length_take]; omega)
  have HK : Hid ((l.drop q ++ l.take q).length = l.length) := Lib.hid (by rw [List.length_append, List.length_drop, List.length_take]; omega)
  obtain ⟨r, hr⟩ : ∃ r, l.drop q ++ l.take q = r := ⟨_, rfl⟩
  rw [hr] at HK ⊢
  have HR := Lib.hid hr
  clear hL hq hl hlc hr
  go_enter Try.func50, Try.ntmps50
  go_upto_region 1 with fail
  go_region_law (first
    | (go_simp; go_at_call 45
       refine (concatI2_to _ _ (.slice (if lc = q then L else Option.map (fun x => x.add q) L) (l.length - q) (lc - q)) (.slice L q lc) (l.drop q) (l.take q) r l.length _ (by first | (go_simp; done) | fail) (by first | (go_simp; done) | fail) (HD.out.ext (by repeat (first | (with_reducible exact Ext.refl _) | (with_reducible assumption) | refine Ext.drew ?_ | refine Ext.drewN ?_ _ | refine Ext.alloc ?_ _))) (HT.out.ext (by repeat (first | (with_reducible exact Ext.refl _) | (with_reducible assumption) | refine Ext.drew ?_ | refine Ext.drewN ?_ _ | refine Ext.alloc ?_ _))) HLL.out HR.out HK.out).mono ?_
       rintro ed w5 ⟨A5, c5, rfl, hO5, hE5⟩
       have hx5 : Ext w w5 := Ext.trans (by repeat (first | (with_reducible exact Ext.refl _) | (with_reducible assumption) | refine Ext.drew ?_ | refine Ext.drewN ?_ _ | refine Ext.alloc ?_ _)) hE5)
    | fail)
  all_goals go_wp2_with fail
  all_goals go_ret
  all_goals exact ⟨A5, c5, by rw [HK.out]; rfl, by rw [HK.out]; exact hO5.mono (by first | (simp; done) | (simp; omega) | omega), hx5⟩
end Go.Proofs.Ytllpfegnpakadaa

/- Maps of numbers, by numbers and by spots, as functions. -/
namespace Go.Proofs.Ytllpfegnpakadaa
open Go.BigFrame
open Go.RowKit Go.Proofs.Ytllpfegnpakadaa.Plain

/-- a map as read: what it holds at each key -/
def MapAs {α : Type} (mk : α → Lit) (ok : α → Prop) (D : DataW Unit) (f : α → Option Int) : Prop :=
  Maps.IsMap D ∧ ∀ k, ok k → Maps.has D (mk k) = (f k).isSome ∧ ∀ x, f k = some x → ∀ z, D.atKey (mk k) z = .lit (.int .i64 x)
theorem MapAs.nil {α : Type} (mk : α → Lit) (ok : α → Prop) : MapAs mk ok (.map []) (fun _ => none) := ⟨⟨[], rfl⟩, fun _ _ => ⟨rfl, fun _ h => by cases h⟩⟩
theorem MapAs.put {α : Type} [DecidableEq α] {mk : α → Lit} {ok : α → Prop} {D : DataW Unit} {f : α → Option Int} (h : MapAs mk ok D f) {k : α} (hk : WideAt.IsKeyLit (mk k)) (hinj : ∀ z, ok z → mk z = mk k → z = k) (x : Int) :
    MapAs mk ok (D.put (mk k) (.lit (.int .i64 x))) (fun z => if z = k then some x else f z) := by
  refine ⟨h.1.put _ _, fun z hz => ?_⟩
  by_cases e : z = k
  · subst e
    simp only [if_true]
    refine ⟨Maps.has_put_same h.1 hk _, fun y hy z0 => ?_⟩
    obtain rfl : x = y := by simpa using hy
    exact Maps.atKey_put_same h.1 hk _ _
  · have hne : mk z ≠ mk k := fun e2 => e (hinj z hz e2)
    simp only [if_neg e]
    refine ⟨(Maps.has_put_other hne _).trans (h.2 z hz).1, fun y hy z0 => ?_⟩
    exact (Maps.atKey_put_other hne _ _).trans ((h.2 z hz).2 y hy z0)
theorem MapAs.look {α : Type} {mk : α → Lit} {ok : α → Prop} {D : DataW Unit} {f : α → Option Int} (h : MapAs mk ok D f) {k : α} (hk : ok k) {c : Int} (hat : D.atKey (mk k) (.lit (.int .i64 0)) = .lit (.int .i64 c)) : c = (f k).getD 0 := by
  obtain ⟨h1, h2⟩ := h.2 k hk
  cases e : f k with
  | none =>
    rw [e] at h1
    rw [Maps.atKey_of_not_has h1] at hat
    simpa using hat.symm
  | some x =>
    rw [h2 x e] at hat
    simpa using hat.symm
/-- a number as a key -/
def numK (x : Int) : Lit := .int .i64 x
theorem numK_inj {a b : Int} (h : numK a = numK b) : a = b := by unfold numK at h; injection h
/-- a spot as a key -/
def spotK (k : LKey) : Lit := .string (keyBytes [.int .i64 k.1, .int .i64 k.2])
def okS (k : LKey) : Prop := in64 k.1 ∧ in64 k.2
theorem laid15 : laidOutB Try.prog = true := by kernel_rfl
theorem row15 : 67 < Try.prog.types.size := of_decide_eq_true (by kernel_rfl)
theorem wide15 : (match Try.prog.underlying 67 with | some (.array _ _) | some (.struct _) => true | _ => false) = true := by rw [Try.underlying67]
theorem keyedS : Maps.Keyed Try.prog 67 := Maps.Keyed.of_law (deep_law_laid laid15 (m := 2) (by omega) row15 (by kernel_rfl) wide15)
theorem keyT15 : Try.prog.keyType 67 = true := by kernel_rfl
theorem cells15 : Try.prog.cellsOf 67 = 2 := by kernel_rfl
theorem cells15i : Try.prog.cellsOf 3 = 1 := by kernel_rfl
theorem lits15i (n : Nat) (v : Value) (l : List Lit) (h : Try.prog.keyLits (n + 1) 3 [v] = some l) : ∃ x, v = .int .i64 x ∧ l = [.int .i64 x] ∧ (Lit.int .i64 x).wf = true := by
  rw [Program.keyLits.eq_def] at h
  simp only [Try.underlying3] at h
  cases v <;> simp at h
  obtain ⟨⟨rfl, hw⟩, rfl⟩ := h
  exact ⟨_, rfl, rfl, hw⟩
theorem lits15m (n : Nat) (x : Int) (h : (Lit.int .i64 x).wf = true) : Try.prog.keyLits (n + 1) 3 [.int .i64 x] = some [.int .i64 x] := by
  rw [Program.keyLits.eq_def]
  simp [Try.underlying3, h]
theorem lits15 (n : Nat) (u v : Value) : Try.prog.keyLits (n + 2) 67 [u, v] = (do let a ← Try.prog.keyLits (n + 1) 3 [u]; let b ← Try.prog.keyLits (n + 1) 3 [v]; pure (a ++ b)) := by
  rw [Program.keyLits.eq_def]
  simp only [Try.underlying67, cells15]
  simp [List.mapM_cons, List.mapM_nil, cells15i]
  cases Try.prog.keyLits (n + 1) 3 [u] <;> cases Try.prog.keyLits (n + 1) 3 [v] <;> simp
theorem size15 : ∃ m, Try.prog.types.size + 1 = m + 2 := ⟨Try.prog.types.size - 1, by have := row15; omega⟩
theorem keyS (a b : Int) (ha : (Lit.int .i64 a).wf = true) (hb : (Lit.int .i64 b).wf = true) : keyOf Try.prog 67 (.agg #[.int .i64 a, .int .i64 b]) = some (.string (keyBytes [.int .i64 a, .int .i64 b])) := by
  obtain ⟨m, hm⟩ := size15
  unfold keyOf
  rw [hm]
  simp only [Try.underlying67]
  rw [keyT15]
  have h1 : Value.formed Try.prog 67 (.agg #[.int .i64 a, .int .i64 b]) = true := by simp [Value.formed, Try.underlying67, cells15]
  have h2 : (Value.agg #[.int .i64 a, .int .i64 b]).cells.toList = [.int .i64 a, .int .i64 b] := by simp [Value.cells]
  rw [h1, h2, lits15, lits15m _ _ ha, lits15m _ _ hb]
  rfl
theorem keyS_inv (v : Value) (kl : Lit) (h : keyOf Try.prog 67 v = some kl) : ∃ a b, v = .agg #[.int .i64 a, .int .i64 b] ∧ kl = .string (keyBytes [.int .i64 a, .int .i64 b]) ∧ (Lit.int .i64 a).wf = true ∧ (Lit.int .i64 b).wf = true := by
  obtain ⟨m, hm⟩ := size15
  unfold keyOf at h
  rw [hm] at h
  simp only [Try.underlying67] at h
  rw [keyT15] at h
  by_cases h1 : Value.formed Try.prog 67 v = true
  · rw [h1] at h
    cases v <;> simp [Value.formed, Try.underlying67, cells15] at h1
    rename_i cs
    have h2 : (Value.agg cs).cells.toList = cs.toList := by simp [Value.cells]
    rw [h2] at h
    obtain ⟨u, v, huv⟩ : ∃ u v, cs = #[u, v] := ⟨cs[0], cs[1], by apply Array.ext <;> simp [h1]; intro i h; match i with | 0 => simp | 1 => simp⟩
    subst huv
    have h3 : (#[u, v] : Array Value).toList = [u, v] := rfl
    rw [h3, lits15] at h
    cases e1 : Try.prog.keyLits (m + 1) 3 [u] with
    | none => rw [e1] at h; simp at h
    | some l1 =>
      cases e2 : Try.prog.keyLits (m + 1) 3 [v] with
      | none => rw [e1, e2] at h; simp at h
      | some l2 =>
        rw [e1, e2] at h
        obtain ⟨a, rfl, rfl, wa⟩ := lits15i _ _ _ e1
        obtain ⟨b, rfl, rfl, wb⟩ := lits15i _ _ _ e2
        refine ⟨a, b, rfl, ?_, wa, wb⟩
        simpa using h.symm
  · rw [Bool.not_eq_true] at h1
    rw [h1] at h
    simp at h
theorem wfin64 {x : Int} : (Lit.int .i64 x).wf = true ↔ in64 x := by
  unfold in64
  simp [Lit.wf, IntKind.min, IntKind.max, IntKind.signed, IntKind.bits]
  try omega
theorem keySpot (k : LKey) (h : okS k) : keyOf Try.prog 67 (.agg #[.int .i64 k.1, .int .i64 k.2]) = some (spotK k) := keyS k.1 k.2 (wfin64.2 h.1) (wfin64.2 h.2)
theorem spotK_inj {a b : LKey} (ha : okS a) (hb : okS b) (h : spotK a = spotK b) : a = b := by
  have h1 := keySpot a ha
  rw [h] at h1
  have h2 := keyedS.inj h1 (keySpot b hb)
  simp at h2
  obtain ⟨a1, a2⟩ := a
  obtain ⟨b1, b2⟩ := b
  simp only at h2
  rw [h2.1, h2.2]
theorem spotK_same {a b : LKey} (ha : okS a) (hb : okS b) : (spotK a).sameKey (spotK b) = decide (a = b) := by
  by_cases e : a = b
  · subst e
    rw [decide_eq_true rfl]
    exact WideAt.sameKey_self trivial
  · rw [decide_eq_false e]
    exact Maps.sameKey_ne fun h => e (spotK_inj ha hb h)
theorem keyNum (x : Int) (hx : in64 x) : keyOf Try.prog 3 (.int .i64 x) = some (numK x) := keyZ x hx
theorem mapR_int {x : Int} (hx : in64 x) : plainElem (H := Unit) Try.prog 3 (.int .i64 x) = some (.lit (.int .i64 x), []) := plainElem_int Try.underlying3 (wfin64.2 hx)
theorem zero15 (w : World) : (zeroValue 3).run Try.prog w = .ok (.int .i64 0) w := by kernel_rfl
theorem grown_cell {w w1 : World} {m : Nat} (h : w.grownBy w1 (some m)) {p : Addr} {v : Value} (hp : p.block ≠ m) (hc : w.cell? p = some v) : w1.cell? p = some v := by
  have hb := h.block p.block (World.block_lt_of_cell? _ _ hc) (fun e => hp (by injection e))
  unfold World.cell? at hc ⊢
  rw [hb]; exact hc
theorem owns_ext {w W : World} {k : TypeId} {R : Value → Option (DataW Unit × List MemPlace)} {b n : Nat} {D : DataW Unit} (h : w.ownsMap Try.prog k R b n D) (hE : Ext w W) : W.ownsMap Try.prog k R b n D := by
  have hb := hE.block b h.lt
  unfold World.ownsMap at h ⊢
  rw [hb]; exact h
end Go.Proofs.Ytllpfegnpakadaa

/- Lists of lists of numbers: what reads as one, what a call has made; append. -/
namespace Go.Proofs.Ytllpfegnpakadaa
open Go.BigFrame
open Go.RowKit Go.Proofs.Ytllpfegnpakadaa.Plain

/-- a list's head, as it lies in a list of lists -/
structure Hd where
  A : Option Addr
  n : Nat
  c : Nat
def hd0 : Hd := ⟨none, 0, 0⟩
abbrev Hd.v (h : Hd) : Value := .slice h.A h.n h.c
def kRow : Kd Hd where
  t := 23
  e := 22
  n := 1
  cells := fun h => [.slice h.A h.n h.c]
  ok := fun _ => True
  d := hd0
  z := .slice none 0 0
  bytes := 24
  ht := Try.underlying23
  info := by kernel_rfl
  hzs := rfl
  pos := by decide
  small := by decide
  len := fun _ => rfl
  one := fun a u hu => by simp at hu; subst hu; rfl
/-- a value that reads as these lists -/
def Rdd (w : World) (v : Value) (D : List (List Int)) : Prop := ∃ hs : List Hd, Rd kRow w v hs ∧ hs.length = D.length ∧ ∀ j, j < D.length → Rd kInt w (hs.getD j hd0).v (D.getD j [])
/-- lists that a call has made -/
def Oww (B : Nat) (w : World) (v : Value) (D : List (List Int)) : Prop := ∃ hs : List Hd, Ow kRow B w v hs ∧ hs.length = D.length ∧ ∀ j, j < D.length → Ow kInt B w (hs.getD j hd0).v (D.getD j [])
theorem Rdd.ext {w W : World} {v : Value} {D : List (List Int)} (h : Rdd w v D) (hE : Ext w W) : Rdd W v D := by
  obtain ⟨hs, h1, h2, h3⟩ := h
  exact ⟨hs, h1.ext hE, h2, fun j hj => (h3 j hj).ext hE⟩
theorem Rdd.slice {w : World} {v : Value} {D : List (List Int)} (h : Rdd w v D) : ∃ A c, v = .slice A D.length c ∧ D.length ≤ c := by
  obtain ⟨hs, h1, h2, _⟩ := h
  obtain ⟨A, c, h4, h5⟩ := h1.slice
  rw [h2] at h4 h5
  exact ⟨A, c, h4, h5⟩
theorem Rdd.len {w : World} {v : Value} {D : List (List Int)} (h : Rdd w v D) : D.length ≤ 9223372036854775807 := by
  obtain ⟨hs, h1, h2, _⟩ := h
  rw [← h2]; exact h1.len
theorem Rdd.nil (w : World) (A : Option Addr) (c : Nat) : Rdd w (.slice A 0 c) [] := ⟨[], Rd.nil _ _ _, rfl, fun j hj => absurd hj (Nat.not_lt_zero _)⟩
/-- a row, as it lies -/
theorem Rdd.row {w : World} {A : Option Addr} {n c : Nat} {D : List (List Int)} (h : Rdd w (.slice A n c) D) (j : Nat) (hj : j < D.length) : ∃ b off A' c', A = some ⟨b, off, none⟩ ∧ w.cell? ⟨b, off + j, none⟩ = some (.slice A' (D.getD j []).length c') ∧ Rd kInt w (.slice A' (D.getD j []).length c') (D.getD j []) := by
  obtain ⟨hs, h1, h2, h3⟩ := h
  obtain ⟨b, off, rfl, hc⟩ := h1.cells (by omega)
  have h4 := h3 j hj
  have h5 := hc j (by omega) 0 _ rfl
  obtain ⟨A', c', h6, _⟩ := h4.slice
  have e : (kRow.cells (hs.getD j kRow.d))[0]? = some (hs.getD j hd0).v := rfl
  refine ⟨b, off, A', c', rfl, ?_, by rw [← h6]; exact h4⟩
  rw [← h6]
  rw [show off + j * kRow.n + 0 = off + j from by show off + j * 1 + 0 = off + j; omega] at h5
  exact h5
theorem Oww.rdd {B : Nat} {w : World} {v : Value} {D : List (List Int)} (h : Oww B w v D) : Rdd w v D := by
  obtain ⟨hs, h1, h2, h3⟩ := h
  exact ⟨hs, h1.rd, h2, fun j hj => (h3 j hj).rd⟩
theorem Oww.ext {B : Nat} {w W : World} {v : Value} {D : List (List Int)} (h : Oww B w v D) (hE : Ext w W) : Oww B W v D := by
  obtain ⟨hs, h1, h2, h3⟩ := h
  exact ⟨hs, h1.ext hE, h2, fun j hj => (h3 j hj).ext hE⟩
theorem Oww.mono {B B' : Nat} {w : World} {v : Value} {D : List (List Int)} (h : Oww B w v D) (hB : B' ≤ B) : Oww B' w v D := by
  obtain ⟨hs, h1, h2, h3⟩ := h
  exact ⟨hs, h1.mono hB, h2, fun j hj => (h3 j hj).mono hB⟩
theorem Oww.nil (B : Nat) (w : World) : Oww B w (.slice none 0 0) [] := ⟨[], Ow.nil _ _, rfl, fun j hj => absurd hj (Nat.not_lt_zero _)⟩
theorem Oww.slice {B : Nat} {w : World} {v : Value} {D : List (List Int)} (h : Oww B w v D) : ∃ A c, v = .slice A D.length c ∧ D.length ≤ c := h.rdd.slice
theorem Oww.lt {B : Nat} {w : World} {v : Value} {D : List (List Int)} (h : Oww B w v D) : ∀ k, v.ownBlock = some k → B ≤ k ∧ k < w.heap.size := by
  obtain ⟨hs, h1, _⟩ := h
  exact h1.lt
/-- a store into another block, below all of them -/
theorem Oww.setBelow {B : Nat} {w : World} {v : Value} {D : List (List Int)} (h : Oww B w v D) {p : Addr} (hp : p.block < B) (u : Value) : Oww B (w.setCell p u) v D := by
  obtain ⟨hs, h1, h2, h3⟩ := h
  exact ⟨hs, h1.setBelow hp u, h2, fun j hj => (h3 j hj).setBelow hp u⟩
theorem row_at {w : World} {q : Nat} {h : Hd} (hq : w.heap[q]? = some (.cells #[h.v] 22)) : Rd kRow w (.slice (some ⟨q, 0, none⟩) 1 1) [h] :=
  ⟨by simp [maxLen], fun _ _ => trivial, _, 1, rfl, Nat.le_refl _, fun _ => ⟨q, 0, rfl, fun j hj i u hu => by
    obtain rfl : j = 0 := by simp at hj; omega
    have hi : i = 0 := by
      rcases i with _ | i
      · rfl
      · simp [kRow] at hu
    subst hi
    have hu' : h.v = u := by simpa [kRow] using hu
    subst hu'
    exact (cell_of_row w q 0 _ _ _ hq).trans rfl⟩⟩
theorem Oww.snoc {B : Nat} {w w' : World} {v v' : Value} {D : List (List Int)} {hs : List Hd} {h : Hd} {ys : List Int} (h1 : Ow kRow B w v hs) (h2 : hs.length = D.length) (h3 : ∀ j, j < D.length → Ow kInt B w (hs.getD j hd0).v (D.getD j [])) (hy : Ow kInt B w h.v ys) (hv : Ow kRow B w' v' (hs ++ [h])) (hg : w.grownBy w' v.ownBlock) : Oww B w' v' (D ++ [ys]) := by
  have hne : kInt.e ≠ kRow.e := by decide
  refine ⟨hs ++ [h], hv, by rw [List.length_append, List.length_append, h2]; rfl, fun j hj => ?_⟩
  rw [List.length_append, List.length_singleton] at hj
  rcases Nat.lt_or_ge j D.length with hlt | hge
  · have e1 : (hs ++ [h]).getD j hd0 = hs.getD j hd0 := by rw [List.getD_eq_getElem?_getD, List.getElem?_append_left (by omega), ← List.getD_eq_getElem?_getD]
    have e2 : (D ++ [ys]).getD j [] = D.getD j [] := by rw [List.getD_eq_getElem?_getD, List.getElem?_append_left hlt, ← List.getD_eq_getElem?_getD]
    rw [e1, e2]
    exact (h3 j hlt).beside h1 hne hg
  · obtain rfl : j = D.length := by omega
    have e1 : (hs ++ [h]).getD D.length hd0 = h := by rw [← h2, List.getD_eq_getElem?_getD, List.getElem?_append_right (Nat.le_refl _), Nat.sub_self]; rfl
    have e2 : (D ++ [ys]).getD D.length [] = ys := by rw [List.getD_eq_getElem?_getD, List.getElem?_append_right (Nat.le_refl _), Nat.sub_self]; rfl
    rw [e1, e2]
    exact hy.beside h1 hne hg
/-- append of one row -/
theorem Oww.wpList_app {ops : Array Oper} {rest : List Oper} {o : Oper} {a : Act} {w : World} {Q : Exit → Act → World → Prop} (hw : Region.wanted o (yielded ops a.tmps) = true) (s x : Operand)
    (ho : o.op = .call { callee := .builtin .append, args := #[s, x], argTypes := #[kRow.t, kRow.t] }) (hty : o.type = kRow.t)
    (B : Nat) (v : Value) (D : List (List Int)) (h1 : a.eval s = v) (hown : Oww B w v D) (p : Nat) (h : Hd) (ys : List Int) (hx : a.eval x = .slice (some ⟨p, 0, none⟩) 1 1) (hp : w.heap[p]? = some (.cells #[h.v] 22)) (hy : Ow kInt B w h.v ys) (hl : D.length + 1 ≤ 1048576) (hB : B ≤ w.heap.size)
    (hh : ∀ v' w', Oww B w' v' (D ++ [ys]) → w.grownBy w' v.ownBlock → (v'.ownBlock = v.ownBlock ∨ v'.ownBlock = some w.heap.size) → wpList Try.prog ops Q rest (a.put o.dst v') w') : wpList Try.prog ops Q (o :: rest) a w := by
  obtain ⟨hs, g1, g2, g3⟩ := hown
  refine kRow.wpList_app hw s x ho hty B v hs h1 g1 _ [h] hx (row_at hp) (by rw [g2]; exact hl) hB fun v' w' h2 h3 h4 => hh v' w' (Oww.snoc g1 g2 g3 hy h2 h3) h3 h4
end Go.Proofs.Ytllpfegnpakadaa

/- The document's Plain, Next, Same (ref13). -/
namespace Go.Proofs.Ytllpfegnpakadaa
open Go.BigFrame
open Go.RowKit Go.Proofs.Ytllpfegnpakadaa.Plain

theorem Plain.least_take (l : List Int) (j : Nat) (h : j < l.length) (a : Int) : (l.take (j + 1)).foldl min a = min ((l.take j).foldl min a) (l.getD j 0) := by
  rw [ints_take h, List.foldl_append]; rfl
theorem Plain.head_getD (l : List Int) : l.headD 0 = l.getD 0 0 := by cases l <;> rfl
set_option maxHeartbeats 1600000 in
set_option maxRecDepth 100000 in
theorem rplain_any (l : List Int) (L : Option Addr) (lc : Nat) (w : World) (hL : Rd kInt w (.slice L l.length lc) l) :
    Calls Try.prog 48 #[.slice L l.length lc] w (LsSaid (plainR l) w) := by
  have HL := Lib.hid hL
  have hm := hL.len
  have hm' : (l.length : Int) ≤ 9223372036854775807 := by omega
  clear hL hm
  go_enter Try.func48, Try.ntmps48
  go_wp2_with fail
  refine (rright13_any l L lc _ HL.out).mono ?_
  rintro ed w2 ⟨rfl, hE2⟩
  have HX2 := Lib.hid hE2
  clear hE2
  cases hr : rightL l with
  | false =>
    have HR : Hid (plainR l = []) := Lib.hid (by unfold plainR; rw [if_neg (by rw [hr]; simp)])
    clear hr
    go_wp2_with fail
    exact bodyPost_ret (v := .slice none 0 0) (by simp [results, Try.results48, go_sem]) rfl (by rw [HR.out]; exact ⟨none, 0, rfl, Ow.nil _ _, HX2.out⟩)
  | true =>
    by_cases hne : l.length = 0
    · have HR : Hid (plainR l = []) := Lib.hid (by
        have : l = [] := List.eq_nil_of_length_eq_zero hne
        unfold plainR; rw [if_neg (by rw [this]; simp)])
      have e1 : ((l.length : Int) == 0) = true := by rw [beq_iff_eq]; omega
      clear hr hne
      go_wp2_with fail
      exact bodyPost_ret (v := .slice none 0 0) (by simp [results, Try.results48, go_sem]) rfl (by rw [HR.out]; exact ⟨none, 0, rfl, Ow.nil _ _, HX2.out⟩)
    have e1 : ((l.length : Int) == 0) = false := by rw [beq_eq_false_iff_ne]; omega
    have hlt0 : (0 : Int) < l.length := by omega
    obtain ⟨bl, ol, rfl, hcl⟩ := (ints_of_rd (HL.out.ext HX2.out)).cells (by omega)
    have HCL := Lib.hid hcl
    have z0 : w2.cell? ⟨bl, ol, none⟩ = some (.int .i64 (l.getD 0 0)) := by have := hcl 0 (by omega); simpa using this
    have lbl : bl < w2.heap.size := World.block_lt_of_cell? _ _ z0
    have HNE := Lib.hid hne
    have HRT := Lib.hid hr
    obtain ⟨h0, hh0⟩ : ∃ h, l.getD 0 0 = h := ⟨_, rfl⟩
    have HH0 := Lib.hid hh0
    rw [hh0] at z0
    clear hcl hne hr hh0
    go_wp2_with fail
    clear z0
    go_loopw [3, 4] (fun m i wr => ∃ j : Nat, j ≤ l.length ∧ i = .int .i64 j ∧ m = .int .i64 ((l.take j).foldl min h0) ∧ w2 = wr) (fun _ i _ => l.length - (intOf i).toNat)
    case atStart => exact ⟨0, Nat.zero_le _, rfl, rfl, rfl⟩
    case round =>
      obtain ⟨j, hj, rfl, rfl, rfl⟩ := hrel
      have hj0 : (0 : Int) ≤ j := by omega
      by_cases hlt : j < l.length
      · have hlt' : (j : Int) < l.length := by omega
        have z1 := HCL.out j hlt
        have htk := least_take l j hlt h0
        obtain ⟨y, hy⟩ : ∃ y, l.getD j 0 = y := ⟨_, rfl⟩
        obtain ⟨a, ha⟩ : ∃ a, (l.take j).foldl min h0 = a := ⟨_, rfl⟩
        rw [hy, ha] at htk
        rw [hy] at z1
        rw [ha]
        clear hy ha
        rcases Int.lt_trichotomy a y with hc | hc | hc
        · have HTK : Hid ((l.take (j + 1)).foldl min h0 = a) := Lib.hid (by rw [htk]; omega)
          clear htk
          go_wp2_with fail
          go_roundw
          case rel => exact ⟨j + 1, by omega, by go_num, by rw [HTK.out], by first | rfl | trivial⟩
          case measure => simp [intOf]; omega
        · have HTK : Hid ((l.take (j + 1)).foldl min h0 = y) := Lib.hid (by rw [htk]; omega)
          subst hc
          clear htk
          go_wp2_with fail
          go_roundw
          case rel => exact ⟨j + 1, by omega, by go_num, by rw [HTK.out], by first | rfl | trivial⟩
          case measure => simp [intOf]; omega
        · have HTK : Hid ((l.take (j + 1)).foldl min h0 = y) := Lib.hid (by rw [htk]; omega)
          clear htk
          go_wp2_with fail
          go_roundw
          case rel => exact ⟨j + 1, by omega, by go_num, by rw [HTK.out], by first | rfl | trivial⟩
          case measure => simp [intOf]; omega
      · obtain rfl : j = l.length := by omega
        have hll : (l.take l.length).foldl min h0 = leastL l := by rw [List.take_length, ← HH0.out, ← head_getD]; rfl
        have hlne : l ≠ [] := fun e => HNE.out (by rw [e]; rfl)
        have HR : Hid (plainR l = fromL l (leastL l)) := Lib.hid (by unfold plainR; rw [if_pos ⟨HRT.out, hlne⟩])
        have HFR : Hid (fromR l (leastL l) = (fromL l (leastL l), true)) := Lib.hid (by unfold fromR; rw [if_pos ⟨HRT.out, (least_in hlne).1⟩])
        rw [hll]
        clear hll hlne
        obtain ⟨lst, hlst⟩ : ∃ x, leastL l = x := ⟨_, rfl⟩
        rw [hlst] at HR HFR ⊢
        clear hlst
        go_wp2_with fail
        refine (rfrom_any l _ lc lst _ (HL.out.ext HX2.out)).mono ?_
        rw [HFR.out]
        rintro ed w3 ⟨L3, l3, rfl, hO3, hE3⟩
        simp only at hO3 ⊢
        have HO3 := Lib.hid (hO3.mono HX2.out.size)
        have HX3 := Lib.hid (HX2.out.trans hE3)
        clear hO3 hE3
        go_wp2_with fail
        exact bodyPost_ret (v := .slice L3 (fromL l lst).length l3) (by simp [results, Try.results48, go_sem]) rfl (by rw [HR.out]; exact ⟨L3, l3, rfl, HO3.out, HX3.out⟩)

end Go.Proofs.Ytllpfegnpakadaa

/- The document's Join, Cut (ref13). -/
namespace Go.Proofs.Ytllpfegnpakadaa
open Go.BigFrame
open Go.RowKit Go.Proofs.Ytllpfegnpakadaa.Plain

set_option maxHeartbeats 3200000 in
set_option maxRecDepth 100000 in
theorem rjoin_any (a b : List Int) (L O : Option Addr) (lc oc : Nat) (x y : Int) (w : World) (hL : Rd kInt w (.slice L a.length lc) a) (hO : Rd kInt w (.slice O b.length oc) b) :
    Calls Try.prog 31 #[.slice L a.length lc, .int .i64 x, .slice O b.length oc, .int .i64 y] w (LbSaid (joinR a x b y) w) := by
  have HL := Lib.hid hL
  have HO := Lib.hid hO
  clear hL hO
  have HJ : Hid (joinR a x b y = if (rightL b = true ∧ y ∈ b) ∧ (rightL a = true ∧ x ∈ a) ∧ rightL (insB (plainR a) x (fromL b y)) = true then (insB (plainR a) x (fromL b y), true) else ([], false)) := Lib.hid rfl
  obtain ⟨J, hJ⟩ : ∃ J, joinR a x b y = J := ⟨_, rfl⟩
  rw [hJ] at HJ ⊢
  clear hJ
  go_enter Try.func31, Try.ntmps31
  go_wp2_with fail
  have hfr : fromR b y = if rightL b = true ∧ y ∈ b then (fromL b y, true) else ([], false) := rfl
  refine (rfrom_any b O oc y _ HO.out).mono ?_
  obtain ⟨⟨F, okb⟩, hF⟩ : ∃ r, fromR b y = r := ⟨_, rfl⟩
  rw [hF] at hfr ⊢
  rintro ed w1 ⟨L1, l1, rfl, hO1, hE1⟩
  simp only at hO1 ⊢
  have HX1 := Lib.hid hE1
  have HF1 := Lib.hid hO1.rd
  have HFR := Lib.hid hfr
  clear hO1 hE1 hfr hF
  go_wp2_with fail
  refine (rright13_any a L lc _ (HL.out.ext HX1.out)).mono ?_
  rintro ed w2 ⟨rfl, hE2⟩
  have HX2 := Lib.hid (HX1.out.trans hE2)
  have HF2 := Lib.hid (HF1.out.ext hE2)
  clear hE2 HF1
  cases hr : rightL a with
  | false =>
    have HR : Hid (J = ([], false)) := Lib.hid (by rw [HJ.out, if_neg (fun h => by rw [h.2.1.1] at hr; cases hr)])
    clear hr
    go_wp2_with fail
    exact bodyPost_ret (v := .tuple #[.slice none 0 0, .bool false]) (by simp [results, Try.results31, go_sem]) rfl (by rw [HR.out]; exact ⟨none, 0, rfl, Ow.nil _ _, HX2.out⟩)
  | true =>
    have HRA := Lib.hid hr
    clear hr
    go_wp2_with fail
    refine (rplace_any a L lc x _ (HL.out.ext HX2.out)).mono ?_
    rintro ed w3 ⟨rfl, rfl⟩
    have hpi := place_iff a x
    obtain ⟨p, hp⟩ : ∃ p, placeP a x = p := ⟨_, rfl⟩
    rw [hp] at hpi ⊢
    clear hp
    by_cases hx : x ∈ a
    · have hdp : decide (p < 0) = false := decide_eq_false (by have := hpi.2 hx; omega)
      have HXA := Lib.hid hx
      clear hpi hx
      cases okb with
      | false =>
        have HR : Hid (J = ([], false)) := Lib.hid (by
          rw [HJ.out, if_neg]
          intro h
          have h1 := HFR.out
          rw [if_pos h.1] at h1; cases h1)
        go_wp2_with fail
        exact bodyPost_ret (v := .tuple #[.slice none 0 0, .bool false]) (by simp [results, Try.results31, go_sem]) rfl (by rw [HR.out]; exact ⟨none, 0, rfl, Ow.nil _ _, HX2.out⟩)
      | true =>
        have hfr2 : (rightL b = true ∧ y ∈ b) ∧ F = fromL b y := by
          have h1 := HFR.out
          split at h1
          · rename_i h2
            exact ⟨h2, congrArg Prod.fst h1⟩
          · cases h1
        obtain ⟨hbb, rfl⟩ := hfr2
        have HFL : Hid ((fromL b y).length ≤ 1000) := Lib.hid (by rw [from_len]; exact ((rightL_iff b).1 hbb.1).1)
        obtain ⟨F, hFx⟩ : ∃ F, fromL b y = F := ⟨_, rfl⟩
        rw [hFx] at HJ HFL HF2 ⊢
        have HBB := Lib.hid hbb
        clear hFx hbb HFR
        go_wp2_with fail
        refine (rplain_any a L lc _ (HL.out.ext HX2.out)).mono ?_
        rintro ed w4 ⟨L4, l4, rfl, hO4, hE4⟩
        have hpx : x ∈ plainR a := (plain_mem HRA.out x).2 HXA.out
        have HPL : Hid ((plainR a).length ≤ 1000) := Lib.hid (by rw [← (rot_perm (plain_right HRA.out)).length_eq]; exact ((rightL_iff a).1 HRA.out).1)
        obtain ⟨P, hP⟩ : ∃ P, plainR a = P := ⟨_, rfl⟩
        rw [hP] at HJ HPL hpx hO4 ⊢
        have HX4 := Lib.hid (HX2.out.trans hE4)
        have HF4 := Lib.hid (HF2.out.ext hE4)
        have HP4 := Lib.hid hO4.rd
        obtain ⟨_, _, hsl, hlc⟩ := hO4.slice
        cases hsl
        clear hO4 hE4 HF2 hP
        go_wp2_with fail
        refine (rplace_any P L4 l4 x _ HP4.out).mono ?_
        rintro ed w5 ⟨rfl, rfl⟩
        have hil := List.idxOf_lt_length_of_mem hpx
        have hJ2 : insB P x F = P.take (P.idxOf x + 1) ++ F ++ P.drop (P.idxOf x + 1) := rfl
        rw [place_in hpx]
        obtain ⟨k, hk⟩ : ∃ k, P.idxOf x = k := ⟨_, rfl⟩
        rw [hk] at hJ2 hil ⊢
        have hkP : k < P.length := hil
        obtain ⟨K, hK⟩ : ∃ K, k + 1 = K := ⟨_, rfl⟩
        rw [hK] at hJ2
        have hKI : (k : Int) + 1 = (K : Int) := by omega
        have hKP : K ≤ P.length := by omega
        have hw9 : IntKind.i64.wrap (K : Int) = (K : Int) := IntWalk.i64_in _ (by have := HPL.out; omega)
        obtain ⟨out, hout⟩ : ∃ out, insB P x F = out := ⟨_, rfl⟩
        rw [hout] at hJ2 HJ
        have HJ2 := Lib.hid hJ2
        have HLL : Hid (P.length ≤ 1000 ∧ F.length ≤ 1000 ∧ K ≤ P.length) := Lib.hid ⟨HPL.out, HFL.out, by omega⟩
        have hk0 : (0 : Int) ≤ K := by omega
        have hk1 : (K : Int) ≤ P.length := by omega
        have hk2 : (K : Int) ≤ l4 := by omega
        have hk3 : (P.length : Int) ≤ l4 := by omega
        have HD : Hid (Rd kInt w4 (.slice (if l4 = K then L4 else Option.map (fun x => x.add K) L4) (P.length - K) (l4 - K)) (P.drop K)) := Lib.hid (Rd.sliced HP4.out rfl K (by omega))
        have HT : Hid (Rd kInt w4 (.slice L4 K l4) (P.take K)) := Lib.hid (Rd.take HP4.out K l4 (by omega) (by omega))
        have hz4 := HX4.out.size
        clear hpx hil hk hout hJ2 hK hkP hKP
        go_upto_region 1 with fail
        go_region_law (first
          | (refine kInt.step_app (by rfl) (.tmp 40) (.tmp 43) (by rfl) (by rfl) w4.heap.size _ [] (by rfl) (empty_at (by first | exact heap_alloc_new _ _ | exact (heap_alloc_old _ _ (by first | (simp; done) | (simp; omega) | omega)).trans (heap_alloc_new _ _) | exact heap_alloc_at (by first | (simp; done) | (simp; omega) | omega)) (by first | omega | (simp; done) | (simp; omega))) _ (P.take K) (by rfl) (Rd.ext HT.out (by repeat (first | (with_reducible exact Ext.refl _) | (with_reducible assumption) | refine Ext.alloc ?_ _ | refine Ext.drew ?_ | refine Ext.drewN ?_ _))) (by rw [List.length_take, List.length_nil]; have := HLL.out; omega) (by first | omega | (simp; done) | (simp; omega)) ?_
             intro v5 w5 hown5 hgrow5 hat5
             have hx5 : Ext w4 w5 := Ext.grown (by repeat (first | (with_reducible exact Ext.refl _) | (with_reducible assumption) | refine Ext.alloc ?_ _ | refine Ext.drew ?_ | refine Ext.drewN ?_ _)) hgrow5 (fun b hb => by cases hb; simp)
             rw [List.nil_append] at hown5
             have hs5 := hx5.size)
          | (refine kInt.step_app (by rfl) (.tmp 44) (.tmp 45) (by rfl) (by rfl) w4.heap.size _ (P.take K) (by rfl) (Ow.ext hown5 (by repeat (first | (with_reducible exact Ext.refl _) | (with_reducible assumption) | refine Ext.alloc ?_ _ | refine Ext.drew ?_ | refine Ext.drewN ?_ _))) _ F (by rfl) (Rd.ext HF4.out (by repeat (first | (with_reducible exact Ext.refl _) | (with_reducible assumption) | refine Ext.alloc ?_ _ | refine Ext.drew ?_ | refine Ext.drewN ?_ _))) (by rw [List.length_take]; have := HLL.out; omega) (by first | omega | (simp; omega)) ?_
             intro v6 w6 hown6 hgrow6 hat6
             have hx6 : Ext w4 w6 := Ext.grown (by repeat (first | (with_reducible exact Ext.refl _) | (with_reducible assumption) | refine Ext.alloc ?_ _ | refine Ext.drew ?_ | refine Ext.drewN ?_ _)) hgrow6 (fun b hb => (hown5.lt b hb).1)
             have hs6 := hx6.size)
          | (refine kInt.step_app (by rfl) (.tmp 46) (.tmp 49) (by rfl) (by rfl) w4.heap.size _ (P.take K ++ F) (by rfl) (Ow.ext hown6 (by repeat (first | (with_reducible exact Ext.refl _) | (with_reducible assumption) | refine Ext.alloc ?_ _ | refine Ext.drew ?_ | refine Ext.drewN ?_ _))) _ (P.drop K) (by rfl) (Rd.ext HD.out (by repeat (first | (with_reducible exact Ext.refl _) | (with_reducible assumption) | refine Ext.alloc ?_ _ | refine Ext.drew ?_ | refine Ext.drewN ?_ _))) (by rw [List.length_append, List.length_take, List.length_drop]; have := HLL.out; omega) (by first | omega | (simp; omega)) ?_
             intro v7 w7 hown7 hgrow7 hat7
             have hx7 : Ext w4 w7 := Ext.grown (by repeat (first | (with_reducible exact Ext.refl _) | (with_reducible assumption) | refine Ext.alloc ?_ _ | refine Ext.drew ?_ | refine Ext.drewN ?_ _)) hgrow7 (fun b hb => (hown6.lt b hb).1)
             rw [← HJ2.out] at hown7
             obtain ⟨A7, c7, hv7, hc7⟩ := hown7.slice
             subst hv7)
          | fail)
        all_goals
          have HO7 := Lib.hid hown7
          have HX7 := Lib.hid (HX4.out.trans hx7)
          clear hown7 hgrow7 hat7 hown6 hgrow6 hat6 hown5 hgrow5 hat5
          go_wp2_with fail
        all_goals
          refine (rright13_any out A7 c7 _ HO7.out.rd).mono ?_
          rintro ed w8 ⟨rfl, hE8⟩
          have HX8 := Lib.hid (HX7.out.trans hE8)
          have HO8 := Lib.hid (HO7.out.ext hE8)
          clear hE8
          cases hro : rightL out with
          | false =>
            have HR : Hid (J = ([], false)) := Lib.hid (by rw [HJ.out, if_neg (fun h => by rw [h.2.2] at hro; cases hro)])
            clear hro
            go_wp2_with fail
            exact bodyPost_ret (v := .tuple #[.slice none 0 0, .bool false]) (by simp [results, Try.results31, go_sem]) rfl (by rw [HR.out]; exact ⟨none, 0, rfl, Ow.nil _ _, HX8.out⟩)
          | true =>
            have HR : Hid (J = (out, true)) := Lib.hid (by rw [HJ.out, if_pos ⟨HBB.out, ⟨HRA.out, HXA.out⟩, hro⟩])
            clear hro
            go_wp2_with fail
            exact bodyPost_ret (v := .tuple #[.slice A7 out.length c7, .bool true]) (by simp [results, Try.results31, go_sem]) rfl (by rw [HR.out]; exact ⟨A7, c7, rfl, HO8.out.mono hz4, HX8.out⟩)
    · have hdp : decide (p < 0) = true := decide_eq_true (by
        refine Decidable.byContradiction fun h => hx (hpi.1 (by omega)))
      have HR : Hid (J = ([], false)) := Lib.hid (by rw [HJ.out, if_neg (fun h => hx h.2.1.2)])
      clear hpi hx
      go_wp2_with fail
      exact bodyPost_ret (v := .tuple #[.slice none 0 0, .bool false]) (by simp [results, Try.results31, go_sem]) rfl (by rw [HR.out]; exact ⟨none, 0, rfl, Ow.nil _ _, HX2.out⟩)
end Go.Proofs.Ytllpfegnpakadaa

/- The document's Cut (ref13). -/
namespace Go.Proofs.Ytllpfegnpakadaa
open Go.BigFrame
open Go.RowKit Go.Proofs.Ytllpfegnpakadaa.Plain

theorem Plain.behind_len (l : List Int) (x : Int) (hx : x ∈ l) : (behind l x).length = l.length := by
  have := from_len l x
  have h0 := List.length_pos_of_mem hx
  unfold behind
  rw [List.length_append, List.length_drop, List.length_singleton]; omega
theorem Plain.behind_at {l : List Int} {x : Int} (hx : x ∈ l) (i : Nat) (hi : i < l.length) : (behind l x).getD i 0 = l.getD ((l.idxOf x + (i + 1)) % l.length) 0 := by
  have hl := from_len l x
  have h0 := List.length_pos_of_mem hx
  unfold behind
  rw [List.getD_eq_getElem?_getD]
  by_cases h : i + 1 < l.length
  · rw [List.getElem?_append_left (by rw [List.length_drop]; omega), List.getElem?_drop, ← List.getD_eq_getElem?_getD, show 1 + i = i + 1 by omega, from_at hx (i + 1) h]
  · have e : i + 1 = l.length := by omega
    rw [List.getElem?_append_right (by rw [List.length_drop]; omega), List.length_drop, show i - ((fromL l x).length - 1) = 0 by omega, e, Nat.add_mod_right, Nat.mod_eq_of_lt (List.idxOf_lt_length_of_mem hx), ints_at_idx hx]; rfl
theorem Plain.behind_mem {l : List Int} {x y : Int} (hx : x ∈ l) (hy : y ∈ l) : y ∈ behind l x := by
  obtain ⟨u, v, rfl, hu⟩ := at_split hx
  rw [behind_split hu]
  simp only [List.mem_append, List.mem_cons, List.mem_singleton] at hy ⊢
  rcases hy with h | h | h
  · exact .inl (.inr h)
  · exact .inr (.inl h)
  · exact .inl (.inl h)
theorem Plain.filter_snoc (l : List Int) (f : Int → Bool) (j : Nat) (h : j < l.length) : (l.take (j + 1)).filter f = (l.take j).filter f ++ (if f (l.getD j 0) = true then [l.getD j 0] else []) := by
  rw [ints_take h, List.filter_append]
  congr 1
  by_cases hf : f (l.getD j 0) = true
  · rw [if_pos hf, List.filter_cons, if_pos hf]; rfl
  · rw [if_neg hf, List.filter_cons, if_neg hf]; rfl
/-- two lists of tokens, or not -/
def CutSaid (r : List Int × List Int × Bool) (w : World) (ed : Ending) (w' : World) : Prop :=
  ∃ (R P : Option Addr) (c d : Nat), ed = .returned (.tuple #[.slice R r.1.length c, .slice P r.2.1.length d, .bool r.2.2]) ∧ Ow kInt w.heap.size w' (.slice R r.1.length c) r.1 ∧ Ow kInt w.heap.size w' (.slice P r.2.1.length d) r.2.1 ∧ Ext w w'
set_option maxHeartbeats 3200000 in
set_option maxRecDepth 100000 in
theorem rcut_any (l : List Int) (L : Option Addr) (lc : Nat) (x y : Int) (w : World) (hL : Rd kInt w (.slice L l.length lc) l) :
    Calls Try.prog 34 #[.slice L l.length lc, .int .i64 x, .int .i64 y] w (CutSaid (cutR l x y) w) := by
  have HL := Lib.hid hL
  clear hL
  have HJ : Hid (cutR l x y = if rightL l = true ∧ x ∈ l ∧ y ∈ l then (l.filter (fun t => !(cutPart l x y).contains t), cutPart l x y, true) else ([], [], false)) := Lib.hid rfl
  obtain ⟨J, hJ⟩ : ∃ J, cutR l x y = J := ⟨_, rfl⟩
  rw [hJ] at HJ ⊢
  clear hJ
  go_enter Try.func34, Try.ntmps34
  go_wp2_with fail
  refine (rright13_any l L lc _ HL.out).mono ?_
  rintro ed w2 ⟨rfl, hE2⟩
  have HX2 := Lib.hid hE2
  have HL2 := Lib.hid (HL.out.ext hE2)
  clear hE2
  cases hr : rightL l with
  | false =>
    have HR : Hid (J = ([], [], false)) := Lib.hid (by rw [HJ.out, if_neg (fun h => by rw [h.1] at hr; cases hr)])
    clear hr
    go_wp2_with fail
    exact bodyPost_ret (v := .tuple #[.slice none 0 0, .slice none 0 0, .bool false]) (by simp [results, Try.results34, go_sem]) rfl (by rw [HR.out]; exact ⟨none, none, 0, 0, rfl, Ow.nil _ _, Ow.nil _ _, HX2.out⟩)
  | true =>
    have HRA := Lib.hid hr
    clear hr
    go_wp2_with fail
    refine (rplace_any l L lc x _ HL2.out).mono ?_
    rintro ed w3 ⟨rfl, rfl⟩
    have hpi := place_iff l x
    obtain ⟨p, hp⟩ : ∃ p, placeP l x = p := ⟨_, rfl⟩
    rw [hp] at hpi ⊢
    by_cases hx : x ∈ l
    · have hdp : decide (p < 0) = false := decide_eq_false (by have := hpi.2 hx; omega)
      have HPX := Lib.hid hp
      clear hpi hp
      go_wp2_with fail
      refine (rplace_any l L lc y _ HL2.out).mono ?_
      rintro ed w3 ⟨rfl, rfl⟩
      have hqi := place_iff l y
      obtain ⟨q, hq⟩ : ∃ q, placeP l y = q := ⟨_, rfl⟩
      rw [hq] at hqi ⊢
      clear hq
      by_cases hy : y ∈ l
      · have hdq : decide (q < 0) = false := decide_eq_false (by have := hqi.2 hy; omega)
        have HR : Hid (J = (l.filter (fun t => !(cutPart l x y).contains t), cutPart l x y, true)) := Lib.hid (by rw [HJ.out, if_pos ⟨HRA.out, hx, hy⟩])
        have hl9 := ((rightL_iff l).1 HRA.out).1
        have hix := List.idxOf_lt_length_of_mem hx
        have hbl := behind_len l x hx
        have hba := fun i hi => behind_at (l := l) hx i hi
        have hbm := behind_mem hx hy
        have hpx := place_in hx
        have hcp : cutPart l x y = (behind l x).take ((behind l x).idxOf y + 1) := rfl
        rw [HPX.out] at hpx
        obtain ⟨r, hrx⟩ : ∃ r, l.idxOf x = r := ⟨_, rfl⟩
        rw [hrx] at hpx hix hba
        subst hpx
        obtain ⟨B, hB⟩ : ∃ B, behind l x = B := ⟨_, rfl⟩
        rw [hB] at hbl hba hbm hcp
        have HBA := Lib.hid (And.intro hba (And.intro hbm hcp))
        have hl1 : (l.length : Int) ≤ 1000 := by omega
        have hl0 : (0 : Int) < l.length := by omega
        have hlne : (l.length : Int) ≠ 0 := by omega
        have hr0 : (0 : Int) ≤ r := by omega
        have hr1 : (r : Int) < l.length := by omega
        have HBL := Lib.hid hbl
        have hz2 := HX2.out.size
        clear hqi hx hy hba hbm hcp hrx hB hbl HJ
        go_wp2_with fail
        go_loopw [10, 12] (fun v i wr => ∃ k : Nat, 1 ≤ k ∧ k ≤ l.length + 1 ∧ i = .int .i64 k ∧ Ow kInt w2.heap.size wr v (B.take (k - 1)) ∧ y ∉ B.take (k - 1) ∧ Ext w2 wr) (fun _ i _ => l.length + 1 - (intOf i).toNat)
        case atStart => exact ⟨1, by omega, by omega, rfl, Ow.nil _ _, by simp, Ext.refl _⟩
        case round =>
          obtain ⟨k, hk1, hk2, rfl, hO, hno, hX⟩ := hrel
          have HO := Lib.hid hO
          have HX := Lib.hid hX
          have hk0 : (1 : Int) ≤ k := by omega
          clear hO hX
          by_cases hlt : k ≤ l.length
          · have hlt' : (k : Int) ≤ l.length := by omega
            have hgt : ¬ (l.length : Int) < k := by omega
            go_wp2_with fail
            refine (rplace_any l L lc x _ (HL2.out.ext HX.out)).mono ?_
            rintro ed w4 ⟨rfl, rfl⟩
            rw [HPX.out]
            have hm : (r + k) % l.length < l.length := Nat.mod_lt _ (by omega)
            have hat := HBA.out.1 (k - 1) (by omega)
            rw [show k - 1 + 1 = k by omega] at hat
            have hmI : ((r : Int) + k).tmod l.length = (((r + k) % l.length : Nat) : Int) := by
              rw [Int.tmod_eq_emod_of_nonneg (by omega), Int.natCast_emod, Int.natCast_add]
            obtain ⟨m, hmx⟩ : ∃ m, (r + k) % l.length = m := ⟨_, rfl⟩
            rw [hmx] at hm hat hmI
            obtain ⟨bl, ol, rfl, hcl⟩ := (ints_of_rd (HL2.out.ext HX.out)).cells (by omega)
            have z0 := hcl m hm
            have hok : in64 (l.getD m 0) := HL.out.okAt m hm
            obtain ⟨t, ht⟩ : ∃ t, l.getD m 0 = t := ⟨_, rfl⟩
            rw [ht] at hat z0 hok
            have hkB : k - 1 < B.length := by rw [HBL.out]; omega
            have htk := ints_take hkB
            rw [hat, show k - 1 + 1 = k by omega] at htk
            have hpi2 := fun e => place_is hno hkB (x := y) e
            rw [hat] at hpi2
            have HPI := Lib.hid hpi2
            have HTK := Lib.hid htk
            have HOK := Lib.hid hok
            have HNO := Lib.hid hno
            have HLL : Hid ((B.take (k - 1)).length + [t].length ≤ 1048576) := Lib.hid (by rw [List.length_take, List.length_singleton, HBL.out]; omega)
            have hw1 : IntKind.i64.wrap ((r : Int) + k) = (r : Int) + k := IntWalk.i64_in _ (by omega)
            have hw2 : IntKind.i64.wrap (m : Int) = (m : Int) := IntWalk.i64_in _ (by omega)
            have hm0 : (0 : Int) ≤ m := by omega
            have hm1 : (m : Int) < l.length := by omega
            have lbl : bl < wr.heap.size := World.block_lt_of_cell? _ _ z0
            have hz6 := HX.out.size
            obtain ⟨A, c, hv, hc⟩ := HO.out.slice
            have hbt : (B.take (k - 1)).length = k - 1 := by rw [List.length_take]; omega
            rw [hbt] at hv hc
            subst hv
            have hk9 : k - 1 ≤ 1000 := by omega
            obtain ⟨j, hj⟩ : ∃ j, k - 1 = j := ⟨_, rfl⟩
            rw [hj] at HO HLL HTK HNO HPI hbt hc hk9 ⊢
            have HKJ : Hid (k = j + 1) := Lib.hid (by omega)
            clear hat hcl hmx ht htk hpi2 hok hno hkB hj hbt
            by_cases he : t = y
            · have e1 : (t == y) = true := by simp [he]
              obtain ⟨hpl, hidx⟩ := HPI.out he
              have hcp : cutPart l x y = B.take k := by rw [HBA.out.2.2, hidx, HKJ.out]
              obtain ⟨P, hP⟩ : ∃ P, B.take k = P := ⟨_, rfl⟩
              rw [hP] at hcp
              have HP := Lib.hid hP
              have HPL : Hid (P.length = k) := Lib.hid (by rw [← hP, List.length_take, HBL.out]; omega)
              have HRR : Hid (J = (l.filter (fun t => !P.contains t), P, true)) := Lib.hid (by rw [HR.out, hcp])
              clear hpl hidx hcp hP he
              go_wp2_with (at_builtin; refine kInt.wpList_app (by rfl) (.tmp 47) (.tmp 49) (by rfl) (by rfl) w2.heap.size _ (B.take j) (by rfl) (HO.out.ext ((Ext.refl _).alloc _)) _ [t] (by rfl) (one_at (heap_alloc_new _ _) HOK.out) HLL.out (by simp; omega) ?_; intro v' w8 hown8 hgrow8 hat8)
              have hX8 : Ext w2 w8 := Ext.grown (HX.out.alloc _) hgrow8 (fun b hb => (HO.out.lt b hb).1)
              have hXw : Ext w w8 := HX2.out.trans hX8
              rw [← HTK.out, HP.out] at hown8
              have hP8 := hown8.mono (B' := w.heap.size) hz2
              obtain ⟨A8, c8, hv8, hc8⟩ := hown8.slice
              subst hv8
              have HX8 := Lib.hid hXw
              have HP8 := Lib.hid hP8
              have HL8 := Lib.hid (HL2.out.ext hX8)
              have hz8 := hXw.size
              clear hX8 hXw hP8 hown8 hgrow8 hat8 HO HX z0 lbl
              go_loopw [9, 14] (fun v i wr => ∃ n : Nat, n ≤ l.length ∧ i = .int .i64 n ∧ Ow kInt w8.heap.size wr v ((l.take n).filter (fun t => !P.contains t)) ∧ Ext w8 wr) (fun _ i _ => l.length - (intOf i).toNat)
              case atStart => exact ⟨0, by omega, rfl, Ow.nil _ _, Ext.refl _⟩
              case round =>
                obtain ⟨n, hn, rfl, hO, hX⟩ := hrel
                have HO := Lib.hid hO
                have HX := Lib.hid hX
                have hn0 : (0 : Int) ≤ n := by omega
                clear hO hX
                by_cases hlt2 : n < l.length
                · have hlt2' : (n : Int) < l.length := by omega
                  obtain ⟨bm, om, hbm, hcl⟩ := (ints_of_rd (HL8.out.ext HX.out)).cells (by omega)
                  cases hbm
                  have z1 := hcl n hlt2
                  have hok : in64 (l.getD n 0) := HL.out.okAt n hlt2
                  have hfs := filter_snoc l (fun t => !P.contains t) n hlt2
                  obtain ⟨s, hs⟩ : ∃ s, l.getD n 0 = s := ⟨_, rfl⟩
                  rw [hs] at z1 hok hfs
                  have HOK2 := Lib.hid hok
                  have HPC := Lib.hid (rplace_any P A8 c8 s wr (HP8.out.rd.ext HX.out))
                  have hsi := place_iff P s
                  obtain ⟨g, hg⟩ : ∃ g, placeP P s = g := ⟨_, rfl⟩
                  rw [hg] at HPC hsi
                  have lbl : bl < wr.heap.size := World.block_lt_of_cell? _ _ z1
                  by_cases hin : s ∈ P
                  · have hdg : decide (g < 0) = false := decide_eq_false (by have := hsi.2 hin; omega)
                    have HFS : Hid ((l.take (n + 1)).filter (fun t => !P.contains t) = (l.take n).filter (fun t => !P.contains t)) := Lib.hid (by rw [hfs, if_neg (by simpa using hin), List.append_nil])
                    clear hcl hok hfs hs hsi hg hin
                    go_wp2_with fail
                    refine HPC.out.mono ?_
                    rintro ed w9 ⟨rfl, rfl⟩
                    go_wp2_with fail
                    go_roundw
                    case rel => exact ⟨n + 1, by omega, by go_num, by rw [HFS.out]; exact HO.out, HX.out⟩
                    case measure => simp [intOf]; omega
                  · have hdg : decide (g < 0) = true := decide_eq_true (by
                      refine Decidable.byContradiction fun h => hin (hsi.1 (by omega)))
                    have HFS : Hid ((l.take (n + 1)).filter (fun t => !P.contains t) = (l.take n).filter (fun t => !P.contains t) ++ [s]) := Lib.hid (by rw [hfs, if_pos (by simpa using hin)])
                    have hfl : ((l.take n).filter (fun t => !P.contains t)).length ≤ 1000 := Nat.le_trans (List.length_filter_le _ _) (by rw [List.length_take]; omega)
                    obtain ⟨A, c, hv, hc⟩ := HO.out.slice
                    obtain ⟨fl, hfx⟩ : ∃ fl, (l.take n).filter (fun t => !P.contains t) = fl := ⟨_, rfl⟩
                    rw [hfx] at HO HFS hfl hv hc
                    subst hv
                    have HLL2 : Hid (fl.length + [s].length ≤ 1048576) := Lib.hid (by rw [List.length_singleton]; omega)
                    have hzr := HX.out.size
                    clear hcl hok hfs hs hsi hg hin hfx hfl
                    go_wp2_with fail
                    refine HPC.out.mono ?_
                    rintro ed w9 ⟨rfl, rfl⟩
                    go_wp2_with (at_builtin; refine kInt.wpList_app (by rfl) (.tmp 66) (.tmp 71) (by rfl) (by rfl) w8.heap.size _ fl (by rfl) (HO.out.ext ((Ext.refl _).alloc _)) _ [s] (by rfl) (one_at (heap_alloc_new _ _) HOK2.out) HLL2.out (by simp; omega) ?_; intro v' w9 hown9 hgrow9 hat9)
                    have H9 := Lib.hid (And.intro hown9 hgrow9)
                    clear hown9 hgrow9 hat9
                    try go_wp2_with fail
                    go_roundw
                    case rel =>
                      obtain ⟨hown9, hgrow9⟩ := H9.out
                      exact ⟨n + 1, by omega, by go_num, by rw [HFS.out]; exact hown9, Ext.grown (HX.out.alloc _) hgrow9 (fun b hb => (HO.out.lt b hb).1)⟩
                    case measure => simp [intOf]; omega
                · obtain rfl : n = l.length := by omega
                  have hT := HO.out
                  rw [List.take_length] at hT
                  have hT2 := hT.mono hz8
                  obtain ⟨A, c, hv, hc⟩ := hT2.slice
                  subst hv
                  have HT := Lib.hid hT2
                  have HPP := Lib.hid (HP8.out.ext HX.out)
                  have HXX := Lib.hid (HX8.out.trans HX.out)
                  clear hT hT2 HO
                  go_wp2_with fail
                  exact bodyPost_ret (v := .tuple #[.slice A (l.filter (fun t => !P.contains t)).length c, .slice A8 P.length c8, .bool true]) (by simp [results, Try.results34, go_sem]) rfl (by rw [HRR.out]; exact ⟨A, A8, c, c8, rfl, HT.out, HPP.out, HXX.out⟩)
            · have e1 : (t == y) = false := by simp [he]
              have HNO2 : Hid (y ∉ B.take k) := Lib.hid (by
                rw [HTK.out, List.mem_append, List.mem_singleton]
                rintro (h | h)
                · exact HNO.out h
                · exact he h.symm)
              clear he
              go_wp2_with (at_builtin; refine kInt.wpList_app (by rfl) (.tmp 47) (.tmp 49) (by rfl) (by rfl) w2.heap.size _ (B.take j) (by rfl) (HO.out.ext ((Ext.refl _).alloc _)) _ [t] (by rfl) (one_at (heap_alloc_new _ _) HOK.out) HLL.out (by simp; omega) ?_; intro v' w8 hown8 hgrow8 hat8)
              have H8 := Lib.hid (And.intro hown8 hgrow8)
              clear hown8 hgrow8 hat8
              try go_wp2_with fail
              go_roundw
              case rel =>
                obtain ⟨hown8, hgrow8⟩ := H8.out
                exact ⟨k + 1, by omega, by omega, by go_num, by rw [Nat.add_sub_cancel, HTK.out]; exact hown8, by rw [Nat.add_sub_cancel]; exact HNO2.out, Ext.grown (HX.out.alloc _) hgrow8 (fun b hb => (HO.out.lt b hb).1)⟩
              case measure => simp [intOf]; omega
          · exfalso
            have h1 : k - 1 = B.length := by rw [HBL.out]; omega
            rw [h1, List.take_length] at hno
            exact hno HBA.out.2.1
      · have hdq : decide (q < 0) = true := decide_eq_true (by
          refine Decidable.byContradiction fun h => hy (hqi.1 (by omega)))
        have HR : Hid (J = ([], [], false)) := Lib.hid (by rw [HJ.out, if_neg (fun h => hy h.2.2)])
        clear hqi hx hy
        go_wp2_with fail
        exact bodyPost_ret (v := .tuple #[.slice none 0 0, .slice none 0 0, .bool false]) (by simp [results, Try.results34, go_sem]) rfl (by rw [HR.out]; exact ⟨none, none, 0, 0, rfl, Ow.nil _ _, Ow.nil _ _, HX2.out⟩)
    · have hdp : decide (p < 0) = true := decide_eq_true (by
        refine Decidable.byContradiction fun h => hx (hpi.1 (by omega)))
      have HR : Hid (J = ([], [], false)) := Lib.hid (by rw [HJ.out, if_neg (fun h => hx h.2.1)])
      clear hpi hx hp
      go_wp2_with fail
      exact bodyPost_ret (v := .tuple #[.slice none 0 0, .slice none 0 0, .bool false]) (by simp [results, Try.results34, go_sem]) rfl (by rw [HR.out]; exact ⟨none, none, 0, 0, rfl, Ow.nil _ _, Ow.nil _ _, HX2.out⟩)
end Go.Proofs.Ytllpfegnpakadaa

/- The document's Lists, Same of towers (ref14). -/
namespace Go.Proofs.Ytllpfegnpakadaa
open Go.BigFrame
open Go.RowKit Go.Proofs.Ytllpfegnpakadaa.Plain

theorem Plain.lists_of_all (D E : List (List Int)) (h : D.length = E.length) (ha : ∀ j, j < D.length → D.getD j [] = E.getD j []) : D = E := by
  apply List.ext_getElem h
  intro i h1 h2
  have := ha i h1
  rw [List.getD_eq_getElem?_getD, List.getElem?_eq_getElem h1, List.getD_eq_getElem?_getD, List.getElem?_eq_getElem h2] at this
  exact this
set_option maxHeartbeats 1600000 in
set_option maxRecDepth 100000 in
theorem rlists_any (D E : List (List Int)) (A A' : Option Addr) (c c' : Nat) (w : World) (h : Rdd w (.slice A D.length c) D) (h' : Rdd w (.slice A' E.length c') E) :
    Calls Try.prog 37 #[.slice A D.length c, .slice A' E.length c'] w fun ed w' => ed = .returned (.bool (decide (D = E))) ∧ Ext w w' := by
  have HD := Lib.hid h
  have HE := Lib.hid h'
  have hm := h.len
  have hm' : (D.length : Int) ≤ 9223372036854775807 := by omega
  clear h h' hm
  by_cases hl : D.length = E.length
  · have e : ((D.length : Int) != (E.length : Int)) = false := by rw [bne_eq_false_iff_eq]; omega
    have HLE := Lib.hid hl
    have hlI : (E.length : Int) = D.length := by omega
    clear hl
    go_enter Try.func37, Try.ntmps37
    go_wp2_with fail
    clear hlI
    go_loopw [5] (fun i wr => ∃ k : Nat, k ≤ D.length ∧ i = .int .i64 k ∧ Ext w wr ∧ ∀ j, j < k → D.getD j [] = E.getD j []) (fun i _ => D.length - (intOf i).toNat)
    case atStart => exact ⟨0, Nat.zero_le _, rfl, Ext.refl _, fun j hj => absurd hj (Nat.not_lt_zero _)⟩
    case round =>
      obtain ⟨k, hk, rfl, hX, ha⟩ := hrel
      have HX := Lib.hid hX
      have HA := Lib.hid ha
      have hk0 : (0 : Int) ≤ k := by omega
      clear hX ha
      by_cases hlt : k < D.length
      · have hlt' : (k : Int) < D.length := by omega
        have hlt2 : (k : Int) < E.length := by have := HLE.out; omega
        obtain ⟨b, o, A1, c1, hAb, z0, r0⟩ := (HD.out.ext HX.out).row k hlt
        obtain ⟨b', o', A2, c2, hAb', z1, r1⟩ := (HE.out.ext HX.out).row k (by rw [← HLE.out]; exact hlt)
        subst hAb hAb'
        obtain ⟨x, hx⟩ : ∃ x, D.getD k [] = x := ⟨_, rfl⟩
        obtain ⟨y, hy⟩ : ∃ y, E.getD k [] = y := ⟨_, rfl⟩
        rw [hx] at z0 r0
        rw [hy] at z1 r1
        have HXY := Lib.hid (And.intro hx hy)
        obtain ⟨q, hq⟩ : ∃ q, sameB x y = q := ⟨_, rfl⟩
        have HF1 : Hid (∀ w', Ext wr w' → Calls Try.prog 27 #[.slice A1 x.length c1, .slice A2 y.length c2] w' fun ed w'' => ed = .returned (.bool q) ∧ Ext wr w'') := Lib.hid fun w' hE => (ints_e _ _ _ _ w' (r0.ext hE) (r1.ext hE)).mono fun ed w'' hh => ⟨by rw [hh.1, hq], hE.trans hh.2⟩
        have KS : Hid (∀ w', Ext wr w' → w'.cell? ⟨b, o + k, none⟩ = some (.slice A1 x.length c1) ∧ w'.cell? ⟨b', o' + k, none⟩ = some (.slice A2 y.length c2)) := Lib.hid (fun w' hE => ⟨hE.cell z0, hE.cell z1⟩)
        have lb1 : b < wr.heap.size := World.block_lt_of_cell? _ _ z0
        have lb2 : b' < wr.heap.size := World.block_lt_of_cell? _ _ z1
        have HQ := Lib.hid hq
        clear z0 z1 r0 r1 hx hy hq
        cases q with
        | true =>
          go_wp2_with fail
          refine wp_region_class (Ext wr) (by kernel_rfl) (by kernel_rfl) (Ext.refl _).drew ?_
          try simp only [List.append_eq, List.cons_append, List.nil_append]
          repeat (first
            | go_big_quiet_skip
            | (go_big_quiet_want
               first
               | (go_big_quiet_op; go_big_quiet_on)
               | (unfold Oper.quiet
                  apply Exists.intro
                  refine ⟨fun w' hC => ?_, ?_⟩
                  · (obtain ⟨k1, k2⟩ := KS.out w' hC
                     unfold Oper.quietAt
                     go_simp
                     first
                     | exact rfl
                     | (with_reducible exact HF1.out w' hC))
                  go_simp
                  go_big_quiet_on)
               | (go_big_quiet_op
                  apply Exists.intro
                  refine ⟨fun w' hC => ?_, ?_⟩
                  · exact HF1.out w' hC
                  go_big_quiet_on)))
          refine wpQuiet_nil ?_
          intro w9 hC9
          go_wp2_with fail
          go_roundw
          case rel => exact ⟨k + 1, by omega, by go_num, HX.out.trans hC9, fun j hj => by
            rcases Nat.lt_or_ge j k with h1 | h1
            · exact HA.out j h1
            · obtain rfl : j = k := by omega
              have h9 := HQ.out
              unfold sameB at h9
              rw [HXY.out.1, HXY.out.2]; exact of_decide_eq_true h9⟩
          case measure => simp [intOf]; omega
        | false =>
          have HR : Hid (decide (D = E) = false) := Lib.hid (decide_eq_false (fun h9 => by
            have h8 := HQ.out
            unfold sameB at h8
            have h7 := of_decide_eq_false h8
            exact h7 (by rw [← HXY.out.1, ← HXY.out.2, h9])))
          go_wp2_with fail
          refine wp_region_class (Ext wr) (by kernel_rfl) (by kernel_rfl) (Ext.refl _).drew ?_
          try simp only [List.append_eq, List.cons_append, List.nil_append]
          repeat (first
            | go_big_quiet_skip
            | (go_big_quiet_want
               first
               | (go_big_quiet_op; go_big_quiet_on)
               | (unfold Oper.quiet
                  apply Exists.intro
                  refine ⟨fun w' hC => ?_, ?_⟩
                  · (obtain ⟨k1, k2⟩ := KS.out w' hC
                     unfold Oper.quietAt
                     go_simp
                     first
                     | exact rfl
                     | (with_reducible exact HF1.out w' hC))
                  go_simp
                  go_big_quiet_on)
               | (go_big_quiet_op
                  apply Exists.intro
                  refine ⟨fun w' hC => ?_, ?_⟩
                  · exact HF1.out w' hC
                  go_big_quiet_on)))
          refine wpQuiet_nil ?_
          intro w9 hC9
          go_wp2_with fail
          go_ret
          exact ⟨ret_bool HR.out.symm, HX.out.trans hC9⟩
      · obtain rfl : k = D.length := by omega
        have HR : Hid (decide (D = E) = true) := Lib.hid (decide_eq_true (lists_of_all D E HLE.out HA.out))
        go_wp2_with fail
        go_ret
        exact ⟨ret_bool HR.out.symm, HX.out⟩
  · have e : ((D.length : Int) != (E.length : Int)) = true := by rw [bne_iff_ne]; omega
    have HR : Hid (decide (D = E) = false) := Lib.hid (decide_eq_false (fun h => hl (by rw [h])))
    clear hl
    go_enter Try.func37, Try.ntmps37
    go_wp2_with fail
    go_ret
    exact ⟨ret_bool HR.out.symm, Ext.refl _⟩

abbrev towV (A : Option Addr) (n c : Nat) (B : Option Addr) (m d : Nat) (N : Option Addr) (k e : Nat) : Value := .agg #[.slice A n c, .slice B m d, .slice N k e]
/-- a tower that reads so -/
structure TwR (w : World) (t : Tw) (A B N : Option Addr) (c d e : Nat) : Prop where
  tok : Rd kInt w (.slice A t.tokens.length c) t.tokens
  hts : Rd kInt w (.slice B t.heights.length d) t.heights
  nxt : Rdd w (.slice N t.next.length e) t.next
theorem TwR.ext {w W : World} {t : Tw} {A B N : Option Addr} {c d e : Nat} (h : TwR w t A B N c d e) (hE : Ext w W) : TwR W t A B N c d e := ⟨h.tok.ext hE, h.hts.ext hE, h.nxt.ext hE⟩
theorem Plain.tw_eq (s t : Tw) : decide (s = t) = (sameB s.tokens t.tokens && sameB s.heights t.heights && decide (s.next = t.next)) := by
  unfold sameB
  rw [Bool.eq_iff_iff, decide_eq_true_eq, Bool.and_eq_true, Bool.and_eq_true, decide_eq_true_eq, decide_eq_true_eq, decide_eq_true_eq]
  constructor
  · rintro rfl; exact ⟨⟨rfl, rfl⟩, rfl⟩
  · rintro ⟨⟨h1, h2⟩, h3⟩
    cases s; cases t; simp_all
set_option maxHeartbeats 1600000 in
set_option maxRecDepth 100000 in
theorem rsame14_any (s t : Tw) (A B N A' B' N' : Option Addr) (c d e c' d' e' : Nat) (w : World) (hs : TwR w s A B N c d e) (ht : TwR w t A' B' N' c' d' e') :
    Calls Try.prog 17 #[towV A s.tokens.length c B s.heights.length d N s.next.length e, towV A' t.tokens.length c' B' t.heights.length d' N' t.next.length e'] w fun ed w' => ed = .returned (.bool (decide (s = t))) ∧ Ext w w' := by
  have HS : Hid (decide (s = t) = (sameB s.tokens t.tokens && sameB s.heights t.heights && decide (s.next = t.next))) := Lib.hid (tw_eq s t)
  rw [HS.out]
  obtain ⟨st, sh, sn⟩ := s
  obtain ⟨tt, th, tn⟩ := t
  obtain ⟨h1, h2, h3⟩ := hs
  obtain ⟨h4, h5, h6⟩ := ht
  simp only at h1 h2 h3 h4 h5 h6 ⊢
  have H1 := Lib.hid h1
  have H2 := Lib.hid h2
  have H3 := Lib.hid h3
  have H4 := Lib.hid h4
  have H5 := Lib.hid h5
  have H6 := Lib.hid h6
  have HX0 : Hid (Ext w ((w.alloc (.cells #[.slice A st.length c, .slice B sh.length d, .slice N sn.length e] 25)).alloc (.cells #[.slice A' tt.length c', .slice B' th.length d', .slice N' tn.length e'] 25))) := Lib.hid (((Ext.refl w).alloc _).alloc _)
  clear h1 h2 h3 h4 h5 h6 HS
  obtain ⟨q1, hq1⟩ : ∃ q, sameB st tt = q := ⟨_, rfl⟩
  obtain ⟨q2, hq2⟩ : ∃ q, sameB sh th = q := ⟨_, rfl⟩
  obtain ⟨q3, hq3⟩ : ∃ q, decide (sn = tn) = q := ⟨_, rfl⟩
  rw [hq1, hq2, hq3]
  have HQ := Lib.hid (And.intro hq1 (And.intro hq2 hq3))
  clear hq1 hq2 hq3
  go_enter Try.func17, Try.ntmps17
  go_wp2_with fail
  refine (ints_e _ _ st tt _ (H1.out.ext HX0.out) (H4.out.ext HX0.out)).mono ?_
  rw [HQ.out.1]
  rintro ed w1 ⟨rfl, hE1⟩
  have j0 : w1.cell? ⟨w.heap.size, 0, none⟩ = some (.slice A st.length c) := Ext.cell hE1 (by go_simp)
  have j1 : w1.cell? ⟨w.heap.size, 1, none⟩ = some (.slice B sh.length d) := Ext.cell hE1 (by go_simp)
  have j2 : w1.cell? ⟨w.heap.size, 2, none⟩ = some (.slice N sn.length e) := Ext.cell hE1 (by go_simp)
  have jf : ∀ o, w1.frozen? ⟨w.heap.size, o, none⟩ = false := fun o => (Below.frozen hE1 (p := ⟨w.heap.size, o, none⟩) (by first | omega | (simp; omega) | simp)).trans (by go_simp)
  have k0 : w1.cell? ⟨(w.heap.size + 1), 0, none⟩ = some (.slice A' tt.length c') := Ext.cell hE1 (by go_simp)
  have k1 : w1.cell? ⟨(w.heap.size + 1), 1, none⟩ = some (.slice B' th.length d') := Ext.cell hE1 (by go_simp)
  have k2 : w1.cell? ⟨(w.heap.size + 1), 2, none⟩ = some (.slice N' tn.length e') := Ext.cell hE1 (by go_simp)
  have kf : ∀ o, w1.frozen? ⟨(w.heap.size + 1), o, none⟩ = false := fun o => (Below.frozen hE1 (p := ⟨(w.heap.size + 1), o, none⟩) (by first | omega | (simp; omega) | simp)).trans (by go_simp)
  have lz1 := hE1.size
  simp at lz1
  have n1 : w.heap.size < w1.heap.size := by omega
  have n2 : w.heap.size + 1 < w1.heap.size := by omega
  have HX1 := Lib.hid (HX0.out.trans hE1)
  clear hE1 lz1 HX0
  cases q1 with
  | false =>
    go_wp2_with fail
    go_ret
    exact ⟨ret_bool (by first | rfl | simp), HX1.out⟩
  | true =>
    go_wp2_with fail
    refine (ints_e _ _ sh th _ (H2.out.ext HX1.out) (H5.out.ext HX1.out)).mono ?_
    rw [HQ.out.2.1]
    rintro ed w2 ⟨rfl, hE2⟩
    replace j2 := Ext.cell hE2 j2
    replace k2 := Ext.cell hE2 k2
    have m1 : w.heap.size < w2.heap.size := World.block_lt_of_cell? _ _ j2
    have m2 : w.heap.size + 1 < w2.heap.size := World.block_lt_of_cell? _ _ k2
    have HX2 := Lib.hid (HX1.out.trans hE2)
    clear hE2 HX1 j0 j1 k0 k1 jf kf
    cases q2 with
    | false =>
      go_wp2_with fail
      go_ret
      exact ⟨ret_bool (by first | rfl | simp), HX2.out⟩
    | true =>
      go_wp2_with fail
      refine (rlists_any sn tn N N' e e' _ (H3.out.ext HX2.out) (H6.out.ext HX2.out)).mono ?_
      rw [HQ.out.2.2]
      rintro ed w3 ⟨rfl, hE3⟩
      have HX3 := Lib.hid (HX2.out.trans hE3)
      clear hE3 HX2
      go_wp2_with fail
      go_ret
      exact ⟨ret_bool (by first | rfl | simp), HX3.out⟩
end Go.Proofs.Ytllpfegnpakadaa

/- The document's At, Height (ref01), Heights (ref14). -/
namespace Go.Proofs.Ytllpfegnpakadaa
open Go.BigFrame
open Go.RowKit Go.Proofs.Ytllpfegnpakadaa.Plain

end Go.Proofs.Ytllpfegnpakadaa

/- The document's Build (ref14). -/
namespace Go.Proofs.Ytllpfegnpakadaa
open Go.BigFrame
open Go.RowKit Go.Proofs.Ytllpfegnpakadaa.Plain

def StopB (p : Prop) : Prop := p
theorem StopB.to {p : Prop} (h : StopB p) : p := h
theorem StopB.of {p : Prop} (h : p) : StopB p := h
theorem Oww.besideI {B B' : Nat} {w w' : World} {v u : Value} {xs : List Int} {D : List (List Int)} (h : Ow kInt B w v xs) (h' : Oww B' w u D) (hg : w.grownBy w' u.ownBlock) : Ow kInt B w' v xs := by
  obtain ⟨hs, h1, _⟩ := h'
  exact h.beside h1 (by decide) hg
/-- a tower, an error -/
def TwSaid (r : Tw × Int) (w : World) (ed : Ending) (w' : World) : Prop :=
  ∃ (A B N : Option Addr) (c d e : Nat), ed = .returned (.tuple #[towV A r.1.tokens.length c B r.1.heights.length d N r.1.next.length e, .int .i64 r.2]) ∧ Ow kInt w.heap.size w' (.slice A r.1.tokens.length c) r.1.tokens ∧ Ow kInt w.heap.size w' (.slice B r.1.heights.length d) r.1.heights ∧ Oww w.heap.size w' (.slice N r.1.next.length e) r.1.next ∧ Ext w w'
theorem Plain.nexts_snoc (hs : List Int) (i j : Nat) (h : j < (hs.getD i 0).toNat) : (nextsP hs i).take (j + 1) = (nextsP hs i).take j ++ [(nextP hs i j : Int)] := by
  rw [ints_take (by rw [nextsP_len]; exact h), nextsP_at hs i j h]
theorem Plain.rows_snoc (hs : List Int) (k : Nat) : (List.range (k + 1)).map (nextsP hs) = (List.range k).map (nextsP hs) ++ [nextsP hs k] := by
  rw [List.range_succ, List.map_append]; rfl
set_option maxHeartbeats 3200000 in
set_option maxRecDepth 100000 in
theorem rbuild14_any (tk hs : List Int) (A B : Option Addr) (c d : Nat) (w : World) (hA : Rd kInt w (.slice A tk.length c) tk) (hB : Rd kInt w (.slice B hs.length d) hs) :
    Calls Try.prog 26 #[.slice A tk.length c, .slice B hs.length d] w (TwSaid (buildP tk hs) w) := by
  have HA := Lib.hid hA
  have HB := Lib.hid hB
  have hml := hB.len
  clear hA hB
  go_enter Try.func26, Try.ntmps26
  go_wp2_with fail
  have HX0 : Hid (Ext w (w.alloc (.cells #[.slice none 0 0, .slice none 0 0, .slice none 0 0] 25))) := Lib.hid ((Ext.refl w).alloc _)
  refine (rright13_any tk A c _ (HA.out.ext HX0.out)).mono ?_
  rintro ed w1 ⟨rfl, hE1⟩
  have p0 : w1.cell? ⟨w.heap.size, 0, none⟩ = some (.slice none 0 0) := Ext.cell hE1 (by go_simp)
  have p1 : w1.cell? ⟨w.heap.size, 1, none⟩ = some (.slice none 0 0) := Ext.cell hE1 (by go_simp)
  have p2 : w1.cell? ⟨w.heap.size, 2, none⟩ = some (.slice none 0 0) := Ext.cell hE1 (by go_simp)
  have pf : ∀ o, w1.frozen? ⟨w.heap.size, o, none⟩ = false := fun o => (Below.frozen hE1 (p := ⟨w.heap.size, o, none⟩) (by first | omega | (simp; omega) | simp)).trans (by go_simp)
  have HX1 := Lib.hid (HX0.out.trans hE1)
  have HPW := Lib.hid (And.intro p0 (And.intro p1 p2))
  have lz1 := hE1.size
  simp at lz1
  have n1 : w.heap.size < w1.heap.size := by omega
  clear hE1 HX0 lz1
  by_cases hmay : rightL tk = true ∧ tk.length ≠ 0 ∧ hs.length = tk.length
  · obtain ⟨hr, h0, hl⟩ := hmay
    have htl := ((rightL_iff tk).1 hr).1
    rw [hr]
    have e0 : ((tk.length : Int) == 0) = false := by rw [beq_eq_false_iff_ne]; omega
    have e1 : ((hs.length : Int) != (tk.length : Int)) = false := by rw [bne_eq_false_iff_eq]; omega
    have HL := Lib.hid hl
    have HR := Lib.hid hr
    obtain ⟨n, hn⟩ : ∃ n, tk.length = n := ⟨_, rfl⟩
    have hn2 : hs.length = n := by omega
    have HN := Lib.hid (And.intro hn hn2)
    rw [hn] at e0 e1 h0 htl
    rw [hn2] at e1
    have HA' : Hid (Rd kInt w (.slice A n c) tk) := Lib.hid (by rw [← hn]; exact HA.out)
    have HB' : Hid (Rd kInt w (.slice B n d) hs) := Lib.hid (by rw [← hn2]; exact HB.out)
    rw [hn, hn2]
    have hn9 : (n : Int) ≤ 1000 := by omega
    have hn0 : (0 : Int) < n := by omega
    clear hr hl hn hn2 HA HB hml
    go_wp2_with fail
    go_loopw [7] (fun i wr => ∃ k : Nat, k ≤ n ∧ i = .int .i64 k ∧ (∀ j, j < k → 1 ≤ hs.getD j 0 ∧ hs.getD j 0 ≤ 8) ∧ w1 = wr) (fun i _ => n - (intOf i).toNat)
    case atStart => exact ⟨0, Nat.zero_le _, rfl, fun j hj => absurd hj (Nat.not_lt_zero _), rfl⟩
    case round =>
      obtain ⟨k, hk, rfl, hin, rfl⟩ := hrel
      have HIN := Lib.hid hin
      have hk0 : (0 : Int) ≤ k := by omega
      clear hin
      by_cases hlt : k < n
      · have hlt' : (k : Int) < n := by omega
        have hkl : k < hs.length := by rw [HN.out.2]; exact hlt
        obtain ⟨bl, ol, hbl, hcl⟩ := (ints_of_rd (HB'.out.ext HX1.out)).cells (by omega)
        subst hbl
        have z0 := hcl k hkl
        have hmem := ints_mem hkl
        obtain ⟨x, hx⟩ : ∃ x, hs.getD k 0 = x := ⟨_, rfl⟩
        rw [hx] at z0 hmem
        have HX := Lib.hid hx
        have lbl : bl < w1.heap.size := World.block_lt_of_cell? _ _ z0
        clear hcl hx
        by_cases hbad : x < 1 ∨ 8 < x
        · have HRR : Hid (buildP tk hs = (noTw, 1)) := Lib.hid (by
            unfold buildP
            rw [if_neg]
            rw [mayB_iff]
            intro h9
            have := h9.2.2.2 x hmem
            omega)
          clear hmem
          by_cases h1 : x < 1
          · have hd1 : decide (x < 1) = true := decide_eq_true h1
            clear h1 hbad
            go_wp2_with fail
            exact bodyPost_ret (v := .tuple #[towV none 0 0 none 0 0 none 0 0, .int .i64 1]) (by simp [results, Try.results26, go_sem, p0, p1, p2]) rfl (by rw [HRR.out]; exact ⟨none, none, none, 0, 0, 0, rfl, Ow.nil _ _, Ow.nil _ _, Oww.nil _ _, ((HX1.out.setCell (p := ⟨w.heap.size, 0, none⟩) (Nat.le_refl _) _).setCell (p := ⟨w.heap.size, 1, none⟩) (Nat.le_refl _) _).setCell (p := ⟨w.heap.size, 2, none⟩) (Nat.le_refl _) _⟩)
          · have hd1 : decide (x < 1) = false := decide_eq_false h1
            have hd2 : decide (8 < x) = true := decide_eq_true (by omega)
            clear h1 hbad
            go_wp2_with fail
            exact bodyPost_ret (v := .tuple #[towV none 0 0 none 0 0 none 0 0, .int .i64 1]) (by simp [results, Try.results26, go_sem, p0, p1, p2]) rfl (by rw [HRR.out]; exact ⟨none, none, none, 0, 0, 0, rfl, Ow.nil _ _, Ow.nil _ _, Oww.nil _ _, ((HX1.out.setCell (p := ⟨w.heap.size, 0, none⟩) (Nat.le_refl _) _).setCell (p := ⟨w.heap.size, 1, none⟩) (Nat.le_refl _) _).setCell (p := ⟨w.heap.size, 2, none⟩) (Nat.le_refl _) _⟩)
        · have hd1 : decide (x < 1) = false := decide_eq_false (by omega)
          have hd2 : decide (8 < x) = false := decide_eq_false (by omega)
          have HIN2 : Hid (∀ j, j < k + 1 → 1 ≤ hs.getD j 0 ∧ hs.getD j 0 ≤ 8) := Lib.hid (fun j hj => by
            rcases Nat.lt_or_ge j k with h9 | h9
            · exact HIN.out j h9
            · obtain rfl : j = k := by omega
              rw [HX.out]; omega)
          clear hbad hmem
          go_wp2_with fail
          go_roundw
          case rel => exact ⟨k + 1, by omega, by go_num, HIN2.out, by first | rfl | trivial⟩
          case measure => simp [intOf]; omega
      · have hkn : n = k := by omega
        subst hkn
        have HRR : Hid (buildP tk hs = (twOf tk hs, 0)) := Lib.hid (by
          unfold buildP
          rw [if_pos]
          rw [mayB_iff]
          refine ⟨HR.out, by rw [HN.out.1]; exact h0, by rw [HN.out.1, HN.out.2], fun x hx => ?_⟩
          obtain ⟨j, hj, rfl⟩ := List.getElem_of_mem hx
          have := HIN.out j (by rw [← HN.out.2]; exact hj)
          rw [List.getD_eq_getElem?_getD, List.getElem?_eq_getElem hj] at this
          exact this)
        go_wp2_with (first | (at_builtin; refine StopB.to ?_) | fail)
        refine StopB.of ?_
        refine kInt.wpList_app (by rfl) (.tmp 47) (.tmp 48) (by rfl) (by rfl) w1.heap.size _ [] (by rfl) (empty_at (heap_alloc_new _ _) (Nat.le_refl _)) _ tk (by rfl) (HA'.out.ext (HX1.out.trans ((Ext.refl _).alloc _))) (by rw [List.length_nil, HN.out.1]; omega) (by simp) ?_
        intro v2 w2 hown2 hgrow2 hat2
        rw [List.nil_append] at hown2
        have hx2 : Ext w1 w2 := Ext.grown ((Ext.refl w1).alloc _) hgrow2 (fun b hb => by cases hb; exact Nat.le_refl _)
        obtain ⟨A2, c2, hv2, hc2⟩ := hown2.slice
        rw [HN.out.1] at hv2 hc2
        subst hv2
        have HO2 := Lib.hid hown2
        have HX2 := Lib.hid (HX1.out.trans hx2)
        have HY2 := Lib.hid hx2
        replace p0 := Ext.cell hx2 p0
        replace p1 := Ext.cell hx2 p1
        replace p2 := Ext.cell hx2 p2
        have hs2 := hx2.size
        clear hown2 hgrow2 hat2 hx2
        go_wp2_with (first | (at_builtin; refine StopB.to ?_) | fail)
        refine StopB.of ?_
        refine kInt.wpList_app (by rfl) (.tmp 50) (.tmp 51) (by rfl) (by rfl) w2.heap.size _ [] (by rfl) (empty_at (heap_alloc_new _ _) (Nat.le_refl _)) _ hs (by rfl) (HB'.out.ext (HX2.out.trans ((Ext.refl _).alloc _))) (by rw [List.length_nil, HN.out.2]; omega) (by simp) ?_
        intro v3 w3 hown3 hgrow3 hat3
        rw [List.nil_append] at hown3
        have hx3 : Ext w2 w3 := Ext.grown ((Ext.refl w2).alloc _) hgrow3 (fun b hb => by cases hb; exact Nat.le_refl _)
        obtain ⟨B3, d3, hv3, hc3⟩ := hown3.slice
        rw [HN.out.2] at hv3 hc3
        subst hv3
        have HO3 := Lib.hid (HO2.out.ext hx3)
        have HB3 := Lib.hid (hown3.mono (B' := w1.heap.size) hs2)
        have HX3 := Lib.hid (HX2.out.trans hx3)
        have HY3 := Lib.hid (HY2.out.trans hx3)
        replace p0 := Ext.cell hx3 p0
        replace p1 := Ext.cell hx3 p1
        replace p2 := Ext.cell hx3 p2
        have hs3 : w1.heap.size ≤ w3.heap.size := HY3.out.size
        have HLA : Hid ((∀ b, (Value.slice A2 n c2).ownBlock = some b → b < w3.heap.size) ∧ (∀ b, (Value.slice B3 n d3).ownBlock = some b → b < w3.heap.size)) := Lib.hid ⟨fun b hb => (HO3.out.lt b hb).2, fun b hb => (HB3.out.lt b hb).2⟩
        clear hown3 hgrow3 hat3 hx3 HO2 HX2 HY2
        go_wp2_with fail
        go_loopw [9] (fun i wr => ∃ (k : Nat) (N : Option Addr) (e : Nat), k ≤ n ∧ i = .int .i64 k ∧ (wr.cell? ⟨w3.heap.size, 0, none⟩ = some (.slice A2 n c2) ∧ wr.cell? ⟨w3.heap.size, 1, none⟩ = some (.slice B3 n d3) ∧ wr.cell? ⟨w3.heap.size, 2, none⟩ = some (.slice N k e)) ∧ (∀ o, wr.frozen? ⟨w3.heap.size, o, none⟩ = false) ∧ Oww (w3.heap.size + 1) wr (.slice N k e) ((List.range k).map (nextsP hs)) ∧ Ow kInt w1.heap.size wr (.slice A2 n c2) tk ∧ Ow kInt w1.heap.size wr (.slice B3 n d3) hs ∧ Ext w1 wr ∧ w3.heap.size < wr.heap.size) (fun i _ => n - (intOf i).toNat)
        case atStart => exact ⟨0, none, 0, Nat.zero_le _, rfl, ⟨by go_simp, by go_simp, by go_simp⟩, fun o => by go_simp, Oww.nil _ _, HO3.out.ext ((Ext.refl _).alloc _), HB3.out.ext ((Ext.refl _).alloc _), HY3.out.alloc _, by simp⟩
        case round =>
          obtain ⟨k, N, e, hk, rfl, ⟨q0, q1, q2⟩, qf, hNx, hTk, hHt, hX, hQ⟩ := hrel
          have HNX := Lib.hid hNx
          have HTK := Lib.hid hTk
          have HHT := Lib.hid hHt
          have HX := Lib.hid hX
          have hk0 : (0 : Int) ≤ k := by omega
          clear hNx hTk hHt hX HO3 HB3 HX3 HY3
          by_cases hlt : k < n
          · have hlt' : (k : Int) < n := by omega
            have hkl : k < hs.length := by rw [HN.out.2]; exact hlt
            have hx18 := HIN.out k hlt
            have HIX : Hid (∀ (q : Nat), q < n → ∃ bl ol, B = some ⟨bl, ol, none⟩ ∧ ∀ W, Ext w1 W → W.cell? ⟨bl, ol + q, none⟩ = some (.int .i64 (hs.getD q 0))) := Lib.hid fun q hq => by
              obtain ⟨bl, ol, hbl, hcl⟩ := (ints_of_rd (HB'.out.ext HX1.out)).cells (by rw [HN.out.2]; omega)
              exact ⟨bl, ol, hbl, fun W hW => hW.cell (hcl q (by rw [HN.out.2]; exact hq))⟩
            obtain ⟨bl, ol, rfl, zz⟩ := HIX.out k hlt
            have HZZ := Lib.hid zz
            obtain ⟨x, hx⟩ : ∃ x, hs.getD k 0 = x := ⟨_, rfl⟩
            rw [hx] at hx18 HZZ
            obtain ⟨H, hH⟩ : ∃ H : Nat, x = H := ⟨x.toNat, by omega⟩
            subst hH
            have HXK := Lib.hid hx
            have hHn : (hs.getD k 0).toNat = H := by rw [hx]; rfl
            have HHN := Lib.hid hHn
            have hH8 : (H : Int) ≤ 8 := by omega
            have hH1 : (1 : Int) ≤ H := by omega
            have hnlen := nextsP_len hs k
            rw [hHn] at hnlen
            have HNL := Lib.hid hnlen
            clear zz hx hHn hnlen hx18
            go_wp2_with fail
            go_loopw [10, 11] (fun v hh wq => ∃ j : Nat, j ≤ H ∧ hh = .int .i64 j ∧ Ow kInt wr.heap.size wq v ((nextsP hs k).take j) ∧ Ext wr wq) (fun _ hh _ => H - (intOf hh).toNat)
            case atStart => exact ⟨0, Nat.zero_le _, rfl, Ow.nil _ _, Ext.refl _⟩
            case round =>
              rename World => wq
              obtain ⟨j, hj, rfl, hO, hXq⟩ := hrel
              have HO := Lib.hid hO
              have HXq := Lib.hid hXq
              have hj0 : (0 : Int) ≤ j := by omega
              have zk := HZZ.out wq (HX.out.trans hXq)
              have lbl : bl < wq.heap.size := World.block_lt_of_cell? _ _ zk
              clear hO hXq
              obtain ⟨Av, cv, hv, hcv⟩ := HO.out.slice
              have htl : ((nextsP hs k).take j).length = j := by rw [List.length_take, HNL.out]; omega
              rw [htl] at hv hcv
              subst hv
              by_cases hlj : j < H
              · have hlj' : (j : Int) < H := by omega
                have hnx := next_spec (hs := hs) (i := k) (h := j) hkl (by rw [HXK.out]; omega)
                rw [HN.out.2] at hnx
                obtain ⟨nx1, nx2, K, K1, K2, nx3, nx4, nx5⟩ := hnx
                have hsn := nexts_snoc hs k j (by rw [HHN.out]; exact hlj)
                obtain ⟨nx, hnxx⟩ : ∃ nx, nextP hs k j = nx := ⟨_, rfl⟩
                rw [hnxx] at nx1 nx2 nx3 hsn
                have HN2 := Lib.hid nx2
                have HN3 := Lib.hid nx3
                have HN5 := Lib.hid nx5
                have HSN := Lib.hid hsn
                clear nx2 nx3 nx4 nx5 hsn hnxx
                go_wp2_with fail
                go_loopw [12] (fun m wz => ∃ q : Nat, 1 ≤ q ∧ q ≤ K ∧ m = .int .i64 q ∧ wq = wz) (fun m _ => K - (intOf m).toNat)
                case atStart => exact ⟨1, Nat.le_refl _, K1, rfl, rfl⟩
                case round =>
                  obtain ⟨q, hq1, hq2, rfl, rfl⟩ := hrel
                  have hq0 : (1 : Int) ≤ q := by omega
                  have hqn : (q : Int) ≤ n := by omega
                  obtain ⟨s, hs1⟩ : ∃ s : Nat, (k : Int) + (q : Int) = (s : Int) := ⟨k + q, by omega⟩
                  have hs2 : k + q = s := by omega
                  have hg : s % n < n := Nat.mod_lt _ (by omega)
                  have hgI : (s : Int).tmod (n : Int) = ((s % n : Nat) : Int) := by rw [Int.tmod_eq_emod_of_nonneg (by omega), Int.natCast_emod]
                  obtain ⟨g, hgx⟩ : ∃ g, s % n = g := ⟨_, rfl⟩
                  rw [hgx] at hg hgI
                  obtain ⟨bl', ol', hbb, zg⟩ := HIX.out g hg
                  cases hbb
                  have zg2 := zg wq (HX.out.trans HXq.out)
                  have hws : IntKind.i64.wrap (s : Int) = s := IntWalk.i64_in _ (by omega)
                  have hwg : IntKind.i64.wrap (g : Int) = g := IntWalk.i64_in _ (by omega)
                  have hg0 : (0 : Int) ≤ g := by omega
                  have hg1 : (g : Int) < n := by omega
                  have hnne : (n : Int) ≠ 0 := by omega
                  obtain ⟨y, hy⟩ : ∃ y, hs.getD g 0 = y := ⟨_, rfl⟩
                  rw [hy] at zg2
                  clear zg
                  by_cases hend : q = K
                  · subst hend
                    have hgn : g = nx := by rw [← hgx, ← hs2, HN3.out]
                    subst hgn
                    have hdy : decide (y ≤ (j : Int)) = false := decide_eq_false (by have := HN2.out; rw [hy] at this; omega)
                    have HOK : Hid (in64 (g : Int)) := Lib.hid (in64_nat g (by omega))
                    have HLL : Hid (((nextsP hs k).take j).length + [(g : Int)].length ≤ 1048576) := Lib.hid (by rw [htl, List.length_singleton]; omega)
                    have hzr := HXq.out.size
                    clear hy hgx hs2
                    go_wp2_with (at_builtin; refine kInt.wpList_app (by rfl) (.tmp 79) (.tmp 85) (by rfl) (by rfl) wr.heap.size _ ((nextsP hs k).take j) (by rfl) (HO.out.ext ((Ext.refl _).alloc _)) _ [(g : Int)] (by rfl) (one_at (heap_alloc_new _ _) HOK.out) HLL.out (by simp; omega) ?_; intro v' w9 hown9 hgrow9 hat9)
                    have H9 := Lib.hid (And.intro hown9 hgrow9)
                    clear hown9 hgrow9 hat9
                    try go_wp2_with fail
                    go_roundw
                    case rel =>
                      obtain ⟨hown9, hgrow9⟩ := H9.out
                      exact ⟨j + 1, by omega, by go_num, by rw [HSN.out]; exact hown9, Ext.grown (HXq.out.alloc _) hgrow9 (fun b hb => (HO.out.lt b hb).1)⟩
                    case measure => simp [intOf]; omega
                  · have hdy : decide (y ≤ (j : Int)) = true := decide_eq_true (by
                      have := HN5.out q hq1 (by omega)
                      rw [hs2, hgx, hy] at this; exact this)
                    clear hy hgx hs2
                    go_wp2_with fail
                    go_roundw
                    case rel => exact ⟨q + 1, by omega, by omega, by go_num, by first | rfl | trivial⟩
                    case measure => simp [intOf]; omega
              · obtain rfl : j = H := by omega
                have hTj := HO.out
                rw [List.take_of_length_le (by rw [HNL.out]; exact Nat.le_refl _)] at hTj
                have HTJ := Lib.hid hTj
                have hqz := HXq.out.size
                have q0' := HXq.out.cell q0
                have q1' := HXq.out.cell q1
                have q2' := HXq.out.cell q2
                have qf' : ∀ o, wq.frozen? ⟨w3.heap.size, o, none⟩ = false := fun o => (Below.frozen HXq.out (p := ⟨w3.heap.size, o, none⟩) hQ).trans (qf o)
                have hQ' : w3.heap.size < wq.heap.size := by omega
                clear hTj htl
                go_wp2_with (first | (at_builtin; refine StopB.to ?_) | fail)
                refine StopB.of ?_
                have hNq := HNX.out.ext (HXq.out.alloc (.cells #[.slice Av j cv] 22))
                have hTq := HTK.out.ext (HXq.out.alloc (.cells #[.slice Av j cv] 22))
                have hHq := HHT.out.ext (HXq.out.alloc (.cells #[.slice Av j cv] 22))
                refine Oww.wpList_app (by rfl) (.tmp 88) (.tmp 90) (by rfl) (by rfl) (w3.heap.size + 1) _ ((List.range k).map (nextsP hs)) (by rfl) hNq wq.heap.size ⟨Av, j, cv⟩ (nextsP hs k) (by rfl) (heap_alloc_new _ _) ((HTJ.out.mono (by omega)).ext ((Ext.refl _).alloc _)) (by rw [List.length_map, List.length_range]; omega) (by simp; omega) ?_
                intro v8 w8 hown8 hgrow8 hat8
                rw [← rows_snoc] at hown8
                have hrow : ∀ b, (Value.slice N k e).ownBlock = some b → w3.heap.size + 1 ≤ b := fun b hb => (hNq.lt b hb).1
                have hx8 : Ext w1 w8 := Ext.grown ((HX.out.trans HXq.out).alloc _) hgrow8 (fun b hb => by have := hrow b hb; omega)
                have r0 : w8.cell? ⟨w3.heap.size, 0, none⟩ = some (.slice A2 n c2) := hgrow8.cell (Ext.cell ((Ext.refl wq).alloc _) q0') (fun e => by have := hrow w3.heap.size e.symm; omega)
                have r1 : w8.cell? ⟨w3.heap.size, 1, none⟩ = some (.slice B3 n d3) := hgrow8.cell (Ext.cell ((Ext.refl wq).alloc _) q1') (fun e => by have := hrow w3.heap.size e.symm; omega)
                have r2 : w8.cell? ⟨w3.heap.size, 2, none⟩ = some (.slice N k e) := hgrow8.cell (Ext.cell ((Ext.refl wq).alloc _) q2') (fun e => by have := hrow w3.heap.size e.symm; omega)
                have rf : ∀ o, w8.frozen? ⟨w3.heap.size, o, none⟩ = false := fun o => (hgrow8.frozen_far ⟨w3.heap.size, o, none⟩ (by simp; omega) (fun e => by have := hrow w3.heap.size e.symm; omega)).trans ((Below.frozen ((Ext.refl wq).alloc (.cells #[.slice Av j cv] 22)) (p := ⟨w3.heap.size, o, none⟩) hQ').trans (qf' o))
                have hT8 := Oww.besideI hTq hNq hgrow8
                have hH8' := Oww.besideI hHq hNq hgrow8
                have hQ8 : w3.heap.size < w8.heap.size := World.block_lt_of_cell? _ _ r0
                obtain ⟨N8, e8, hv8, hc8⟩ := hown8.slice
                rw [List.length_map, List.length_range] at hv8
                subst hv8
                have HO8 := Lib.hid hown8
                have HT8 := Lib.hid hT8
                have HH8 := Lib.hid hH8'
                have HX8 := Lib.hid hx8
                clear hown8 hgrow8 hat8 hT8 hH8' hx8 hNq hTq hHq hrow q0 q1 q2 qf q0' q1' q2' qf' zk
                go_wp2_with fail
                go_roundw
                case rel => exact ⟨k + 1, N8, e8, by omega, by go_num, ⟨by go_simp, by go_simp, by go_simp⟩, fun o => by go_simp, HO8.out.setBelow (by simp) _, HT8.out.setOther (fun h9 => by have := HLA.out.1 _ h9; simp at this) _, HH8.out.setOther (fun h9 => by have := HLA.out.2 _ h9; simp at this) _, HX8.out.setCell (p := ⟨w3.heap.size, 2, none⟩) hs3 _, by simp; omega⟩
                case measure => simp [intOf]; omega
          · have hkn : k = n := by omega
            subst hkn
            have hnx2 := HNX.out
            have HTW : Hid (twOf tk hs = ⟨tk, hs, (List.range k).map (nextsP hs)⟩) := Lib.hid (by unfold twOf; rw [HN.out.2])
            have hlen9 : ((List.range k).map (nextsP hs)).length = k := by rw [List.length_map, List.length_range]
            obtain ⟨D, hD⟩ : ∃ D, (List.range k).map (nextsP hs) = D := ⟨_, rfl⟩
            rw [hD] at hnx2 HTW hlen9
            have HD := Lib.hid (hnx2.mono (B' := w1.heap.size) (by omega))
            have HDL := Lib.hid hlen9
            have HXX := Lib.hid (HX1.out.trans HX.out)
            have s0 : wr.cell? ⟨w.heap.size, 0, none⟩ = some (.slice none 0 0) := HX.out.cell HPW.out.1
            have s1 : wr.cell? ⟨w.heap.size, 1, none⟩ = some (.slice none 0 0) := HX.out.cell HPW.out.2.1
            have s2 : wr.cell? ⟨w.heap.size, 2, none⟩ = some (.slice none 0 0) := HX.out.cell HPW.out.2.2
            have sf : ∀ o, wr.frozen? ⟨w.heap.size, o, none⟩ = false := fun o => (Below.frozen HX.out (p := ⟨w.heap.size, o, none⟩) n1).trans (pf o)
            have ls : w.heap.size < wr.heap.size := World.block_lt_of_cell? _ _ s0
            clear hnx2 hlen9 hD HNX
            go_wp2_with fail
            have e1' : Ow kInt w.heap.size (((wr.setCell ⟨w.heap.size, 0, none⟩ (.slice A2 k c2)).setCell ⟨w.heap.size, 1, none⟩ (.slice B3 k d3)).setCell ⟨w.heap.size, 2, none⟩ (.slice N k e)) (.slice A2 k c2) tk := (((HTK.out.setBelow (p := ⟨w.heap.size, 0, none⟩) n1 _).setBelow (p := ⟨w.heap.size, 1, none⟩) n1 _).setBelow (p := ⟨w.heap.size, 2, none⟩) n1 _).mono (by omega)
            have e2' : Ow kInt w.heap.size (((wr.setCell ⟨w.heap.size, 0, none⟩ (.slice A2 k c2)).setCell ⟨w.heap.size, 1, none⟩ (.slice B3 k d3)).setCell ⟨w.heap.size, 2, none⟩ (.slice N k e)) (.slice B3 k d3) hs := (((HHT.out.setBelow (p := ⟨w.heap.size, 0, none⟩) n1 _).setBelow (p := ⟨w.heap.size, 1, none⟩) n1 _).setBelow (p := ⟨w.heap.size, 2, none⟩) n1 _).mono (by omega)
            have e3' : Oww w.heap.size (((wr.setCell ⟨w.heap.size, 0, none⟩ (.slice A2 k c2)).setCell ⟨w.heap.size, 1, none⟩ (.slice B3 k d3)).setCell ⟨w.heap.size, 2, none⟩ (.slice N k e)) (.slice N k e) D := (((HD.out.setBelow (p := ⟨w.heap.size, 0, none⟩) n1 _).setBelow (p := ⟨w.heap.size, 1, none⟩) n1 _).setBelow (p := ⟨w.heap.size, 2, none⟩) n1 _).mono (by omega)
            have hXW := ((HXX.out.setCell (p := ⟨w.heap.size, 0, none⟩) (Nat.le_refl _) (.slice A2 k c2)).setCell (p := ⟨w.heap.size, 1, none⟩) (Nat.le_refl _) (.slice B3 k d3)).setCell (p := ⟨w.heap.size, 2, none⟩) (Nat.le_refl _) (.slice N k e)
            obtain ⟨W, hW⟩ : ∃ W, (((wr.setCell ⟨w.heap.size, 0, none⟩ (.slice A2 k c2)).setCell ⟨w.heap.size, 1, none⟩ (.slice B3 k d3)).setCell ⟨w.heap.size, 2, none⟩ (.slice N k e)) = W := ⟨_, rfl⟩
            have t0 : W.cell? ⟨w.heap.size, 0, none⟩ = some (.slice A2 k c2) := by subst hW; go_simp
            have t1 : W.cell? ⟨w.heap.size, 1, none⟩ = some (.slice B3 k d3) := by subst hW; go_simp
            have t2 : W.cell? ⟨w.heap.size, 2, none⟩ = some (.slice N k e) := by subst hW; go_simp
            rw [hW] at e1' e2' e3' hXW ⊢
            clear hW s0 s1 s2
            refine bodyPost_ret (v := .tuple #[towV A2 k c2 B3 k d3 N k e, .int .i64 0]) (by simp [results, Try.results26, go_sem, t0, t1, t2]) rfl (by
              rw [HRR.out, HTW.out]
              refine ⟨A2, B3, N, c2, d3, e, ?_, ?_, ?_, ?_, hXW⟩
              · show _ = Ending.returned (.tuple #[towV A2 tk.length c2 B3 hs.length d3 N D.length e, .int .i64 0])
                rw [HN.out.1, HN.out.2, HDL.out]
              · show Ow kInt w.heap.size W (.slice A2 tk.length c2) tk
                rw [HN.out.1]; exact e1'
              · show Ow kInt w.heap.size W (.slice B3 hs.length d3) hs
                rw [HN.out.2]; exact e2'
              · show Oww w.heap.size W (.slice N D.length e) D
                rw [HDL.out]; exact e3')
  · have HRR : Hid (buildP tk hs = (noTw, 1)) := Lib.hid (by
      unfold buildP
      rw [if_neg]
      rw [mayB_iff]
      exact fun h9 => hmay ⟨h9.1, h9.2.1, h9.2.2.1⟩)
    have hfin : ∀ W, Ext w W → ∃ (A B N : Option Addr) (c d e : Nat), Ending.returned (.tuple #[towV none 0 0 none 0 0 none 0 0, .int .i64 1]) = Ending.returned (.tuple #[towV A (noTw, (1 : Int)).1.tokens.length c B (noTw, (1 : Int)).1.heights.length d N (noTw, (1 : Int)).1.next.length e, .int .i64 (noTw, (1 : Int)).2]) ∧ Ow kInt w.heap.size W (.slice A (noTw, (1 : Int)).1.tokens.length c) (noTw, (1 : Int)).1.tokens ∧ Ow kInt w.heap.size W (.slice B (noTw, (1 : Int)).1.heights.length d) (noTw, (1 : Int)).1.heights ∧ Oww w.heap.size W (.slice N (noTw, (1 : Int)).1.next.length e) (noTw, (1 : Int)).1.next ∧ Ext w W := fun W hW => ⟨none, none, none, 0, 0, 0, rfl, Ow.nil _ _, Ow.nil _ _, Oww.nil _ _, hW⟩
    have HFIN := Lib.hid hfin
    clear hfin
    cases hr : rightL tk with
    | false =>
      clear hmay hr
      go_wp2_with fail
      exact bodyPost_ret (v := .tuple #[towV none 0 0 none 0 0 none 0 0, .int .i64 1]) (by simp [results, Try.results26, go_sem, p0, p1, p2]) rfl (by rw [HRR.out]; exact HFIN.out _ (((HX1.out.setCell (p := ⟨w.heap.size, 0, none⟩) (Nat.le_refl _) _).setCell (p := ⟨w.heap.size, 1, none⟩) (Nat.le_refl _) _).setCell (p := ⟨w.heap.size, 2, none⟩) (Nat.le_refl _) _))
    | true =>
      by_cases h0 : tk.length = 0
      · have e0 : ((tk.length : Int) == 0) = true := by rw [beq_iff_eq]; omega
        clear hmay hr h0
        go_wp2_with fail
        exact bodyPost_ret (v := .tuple #[towV none 0 0 none 0 0 none 0 0, .int .i64 1]) (by simp [results, Try.results26, go_sem, p0, p1, p2]) rfl (by rw [HRR.out]; exact HFIN.out _ (((HX1.out.setCell (p := ⟨w.heap.size, 0, none⟩) (Nat.le_refl _) _).setCell (p := ⟨w.heap.size, 1, none⟩) (Nat.le_refl _) _).setCell (p := ⟨w.heap.size, 2, none⟩) (Nat.le_refl _) _))
      · have e0 : ((tk.length : Int) == 0) = false := by rw [beq_eq_false_iff_ne]; omega
        have e1 : ((hs.length : Int) != (tk.length : Int)) = true := by
          rw [bne_iff_ne]
          intro h9
          exact hmay ⟨hr, h0, by omega⟩
        clear hmay hr h0
        go_wp2_with fail
        exact bodyPost_ret (v := .tuple #[towV none 0 0 none 0 0 none 0 0, .int .i64 1]) (by simp [results, Try.results26, go_sem, p0, p1, p2]) rfl (by rw [HRR.out]; exact HFIN.out _ (((HX1.out.setCell (p := ⟨w.heap.size, 0, none⟩) (Nat.le_refl _) _).setCell (p := ⟨w.heap.size, 1, none⟩) (Nat.le_refl _) _).setCell (p := ⟨w.heap.size, 2, none⟩) (Nat.le_refl _) _))
end Go.Proofs.Ytllpfegnpakadaa

/- The document's Right, Head, Level (ref14). -/
namespace Go.Proofs.Ytllpfegnpakadaa
open Go.BigFrame
open Go.RowKit Go.Proofs.Ytllpfegnpakadaa.Plain

theorem Plain.rightTw_eq (t : Tw) : rightTw t = (decide ((buildP t.tokens t.heights).2 = 0) && decide ((buildP t.tokens t.heights).1 = t)) := by
  unfold rightTw
  rw [Bool.eq_iff_iff, decide_eq_true_eq, Bool.and_eq_true, decide_eq_true_eq, decide_eq_true_eq]
  constructor
  · intro h; rw [h]; exact ⟨rfl, rfl⟩
  · rintro ⟨h1, h2⟩; exact Prod.ext h2 h1
theorem Plain.build_er (tk hs : List Int) : (buildP tk hs).2 = 0 ∨ (buildP tk hs).2 = 1 := by
  unfold buildP
  split
  · exact .inl rfl
  · exact .inr rfl
set_option maxHeartbeats 1600000 in
set_option maxRecDepth 100000 in
theorem rright14_any (t : Tw) (A B N : Option Addr) (c d e : Nat) (w : World) (h : TwR w t A B N c d e) :
    Calls Try.prog 25 #[towV A t.tokens.length c B t.heights.length d N t.next.length e] w fun ed w' => ed = .returned (.bool (rightTw t)) ∧ Ext w w' := by
  have hrt := rightTw_eq t
  have her := build_er t.tokens t.heights
  obtain ⟨tk, hs, nx⟩ := t
  have HT := Lib.hid h
  obtain ⟨h1, h2, h3⟩ := h
  simp only at h1 h2 h3 hrt her ⊢
  have H1 := Lib.hid h1
  have H2 := Lib.hid h2
  have HX0 : Hid (Ext w (w.alloc (.cells #[.slice A tk.length c, .slice B hs.length d, .slice N nx.length e] 25))) := Lib.hid ((Ext.refl w).alloc _)
  obtain ⟨⟨⟨b1, b2, b3⟩, er⟩, hb⟩ : ∃ r, buildP tk hs = r := ⟨_, rfl⟩
  rw [hb] at hrt her
  simp only at hrt her
  have HBD := Lib.hid hb
  clear h1 h2 h3 hb
  rw [hrt]
  obtain ⟨q, hq⟩ : ∃ q, decide ((⟨b1, b2, b3⟩ : Tw) = ⟨tk, hs, nx⟩) = q := ⟨_, rfl⟩
  rw [hq]
  have HQ := Lib.hid hq
  clear hq hrt
  go_enter Try.func25, Try.ntmps25
  go_wp2_with fail
  refine (rbuild14_any tk hs A B c d _ (H1.out.ext HX0.out) (H2.out.ext HX0.out)).mono ?_
  rw [HBD.out]
  rintro ed w1 ⟨A1, B1, N1, c1, d1, e1, rfl, hA1, hB1, hN1, hE1⟩
  simp only at hA1 hB1 hN1 ⊢
  have p0 : w1.cell? ⟨w.heap.size, 0, none⟩ = some (.slice A tk.length c) := Ext.cell hE1 (by go_simp)
  have p1 : w1.cell? ⟨w.heap.size, 1, none⟩ = some (.slice B hs.length d) := Ext.cell hE1 (by go_simp)
  have p2 : w1.cell? ⟨w.heap.size, 2, none⟩ = some (.slice N nx.length e) := Ext.cell hE1 (by go_simp)
  have pf : ∀ o, w1.frozen? ⟨w.heap.size, o, none⟩ = false := fun o => (Below.frozen hE1 (p := ⟨w.heap.size, o, none⟩) (by first | omega | (simp; omega) | simp)).trans (by go_simp)
  have lz1 := hE1.size
  simp at lz1
  have n1 : w.heap.size < w1.heap.size := by omega
  have HX1 := Lib.hid (HX0.out.trans hE1)
  have HTB : Hid (TwR w1 ⟨b1, b2, b3⟩ A1 B1 N1 c1 d1 e1) := Lib.hid ⟨hA1.rd, hB1.rd, hN1.rdd⟩
  clear hE1 lz1 HX0 hA1 hB1 hN1
  rcases her with rfl | rfl
  · go_wp2_with fail
    refine (rsame14_any ⟨b1, b2, b3⟩ ⟨tk, hs, nx⟩ A1 B1 N1 A B N c1 d1 e1 c d e _ (HTB.out.ext ((Ext.refl _).alloc _)) (HT.out.ext (HX1.out.trans ((Ext.refl _).alloc _)))).mono ?_
    rw [HQ.out]
    rintro ed w2 ⟨rfl, hE2⟩
    have HX2 := Lib.hid (HX1.out.trans (((Ext.refl w1).alloc (.cells #[.slice A1 b1.length c1, .slice B1 b2.length d1, .slice N1 b3.length e1] 25)).trans hE2))
    clear hE2
    go_wp2_with fail
    go_ret
    exact ⟨ret_bool (by first | rfl | simp), HX2.out⟩
  · go_wp2_with fail
    go_ret
    exact ⟨ret_bool (by first | rfl | simp), HX1.out.alloc _⟩

theorem Plain.right_facts {t : Tw} (h : rightTw t = true) : t.heights.length ≤ 1000 ∧ t.heights.length = t.tokens.length ∧ t.heights.length ≠ 0 ∧ (∀ j, j < t.heights.length → 1 ≤ t.heights.getD j 0 ∧ t.heights.getD j 0 ≤ 8) ∧ t.next = (List.range t.heights.length).map (nextsP t.heights) := by
  obtain ⟨h1, h2⟩ := (rightTw_iff t).1 h
  obtain ⟨g1, g2, g3, g4⟩ := (mayB_iff _ _).1 h1
  have g5 := ((rightL_iff _).1 g1).1
  refine ⟨by omega, g3, by omega, fun j hj => g4 _ (ints_mem hj), ?_⟩
  have := congrArg Tw.next h2
  exact this
end Go.Proofs.Ytllpfegnpakadaa
