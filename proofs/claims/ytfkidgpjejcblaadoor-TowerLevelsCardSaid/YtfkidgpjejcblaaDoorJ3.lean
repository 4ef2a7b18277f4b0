/- Joined by wip/merge.py: RowZ, T13L, T13K, LoL, T14P, T13S, T13T, T13U, T14R, T14S. -/
import Derived.Test.YtfkidgpjejcblaaDoorJ2
import Derived.Laws.BitsAllLaws
set_option linter.unusedVariables false
set_option linter.unusedSimpArgs false
set_option linter.unnecessarySimpa false
/- Integers of one's own: a cell is stored, read. Written by wip/tools/pp.py out of wip/raw. -/
namespace Go.Proofs.YtfkidgpjejcblaaDoor
open Go.BigFrame
open Go.RowKit Go.Proofs.YtfkidgpjejcblaaDoor.Plain

/-- an integer of one's own is stored -/
theorem Ow.setZ {B g n c : Nat} {w : World} {M : List Int} (h : Ow kInt B w (.slice (some ⟨g, 0, none⟩) n c) M) {u : Nat} {v : Int} (hu : u < M.length) (hv : in64 v) :
    Ow kInt B (w.setCell ⟨g, u, none⟩ (.int .i64 v)) (.slice (some ⟨g, 0, none⟩) n c) (M.set u v) := by
  have h1 := h.set (j := u) (i := 0) (x := v) (u := .int .i64 v) hu (by decide) rfl hv
  rw [show u * kInt.n + 0 = u from by show u * 1 + 0 = u; omega] at h1
  exact h1
theorem Ow.atZ {B g n c : Nat} {w : World} {M : List Int} (h : Ow kInt B w (.slice (some ⟨g, 0, none⟩) n c) M) {u : Nat} (hu : u < M.length) :
    w.cell? ⟨g, u, none⟩ = some (.int .i64 (M.getD u 0)) ∧ (∀ j, w.frozen? ⟨g, j, none⟩ = false) ∧ B ≤ g ∧ g < w.heap.size := by
  obtain ⟨g', eg, h1, h2, h3, h4⟩ := h.pos (by omega)
  cases eg
  have z := h3 u hu 0 _ rfl
  rw [show u * kInt.n + 0 = u from by show u * 1 + 0 = u; omega] at z
  exact ⟨z, h4, h1, h2⟩
end Go.Proofs.YtfkidgpjejcblaaDoor

/- Plain words of rings by places: what is cut out is what is between. No program in it. -/
namespace Go.Proofs.YtfkidgpjejcblaaDoor.Plain
end Go.Proofs.YtfkidgpjejcblaaDoor.Plain

/- The program's small functions of rings: inBounds, eachOnce, Right, places, turned. Written by wip/mk_t13x.py. -/
namespace Go.Proofs.YtfkidgpjejcblaaDoor
open Go.BigFrame
open Go.RowKit Go.Proofs.YtfkidgpjejcblaaDoor.Plain

set_option maxHeartbeats 3200000 in
set_option maxRecDepth 100000 in
theorem pbounds13_any (l : List Int) (L : Option Addr) (lc : Nat) (w : World) (hL : Rd kInt w (.slice L l.length lc) l) :
    Calls Tryd.prog 32 #[.slice L l.length lc] w fun ed w' => ed = .returned (.bool (l.all tokOk)) ∧ w = w' := by
  have HL := Lib.hid hL
  have hm := hL.len
  have hm' : (l.length : Int) ≤ 9223372036854775807 := by omega
  clear hL hm
  go_enter Tryd.func32, Tryd.ntmps32
  go_wp2_with fail
  go_loopw [7] (fun i wr => ∃ j : Nat, j ≤ l.length ∧ i = .int .i64 j ∧ (l.take j).all tokOk = true ∧ w = wr) (fun i _ => l.length - (intOf i).toNat)
  case atStart => exact ⟨0, Nat.zero_le _, rfl, rfl, rfl⟩
  case round =>
    obtain ⟨j, hj, rfl, hin, rfl⟩ := hrel
    have hj0 : (0 : Int) ≤ j := by omega
    by_cases hlt : j < l.length
    · have hlt' : (j : Int) < l.length := by omega
      obtain ⟨bl, ol, rfl, z0⟩ := int_at9 HL.out j hlt
      have htk := ints_take hlt
      have hmem := ints_mem hlt
      obtain ⟨x, hx⟩ : ∃ x, l.getD j 0 = x := ⟨_, rfl⟩
      rw [hx] at z0 htk hmem
      have hout : ¬ (0 ≤ x ∧ x ≤ 10000) → l.all tokOk = false := fun h => by
        rw [← Bool.not_eq_true, List.all_eq_true]
        intro h9
        have h8 := h9 x hmem
        unfold tokOk at h8
        rw [Bool.and_eq_true, decide_eq_true_eq, decide_eq_true_eq] at h8
        exact h h8
      by_cases h1 : x < 0
      · have hd1 : decide (x < 0) = true := decide_eq_true h1
        have HR := Lib.hid (hout (by omega))
        clear htk hmem hout h1 hin hx
        go_wp2_with fail
        go_ret
        exact ⟨ret_bool HR.out.symm, rfl⟩
      have hd1 : decide (x < 0) = false := decide_eq_false h1
      by_cases h2 : 10000 < x
      · have hd2 : decide (10000 < x) = true := decide_eq_true h2
        have HR := Lib.hid (hout (by omega))
        clear htk hmem hout h1 h2 hin hx
        go_wp2_with fail
        go_ret
        exact ⟨ret_bool HR.out.symm, rfl⟩
      have hd2 : decide (10000 < x) = false := decide_eq_false h2
      have HIN : Hid ((l.take (j + 1)).all tokOk = true) := Lib.hid (by
        rw [htk, List.all_append, hin, Bool.true_and, List.all_cons, List.all_nil, Bool.and_true]
        unfold tokOk
        rw [Bool.and_eq_true, decide_eq_true_eq, decide_eq_true_eq]; omega)
      clear htk hmem hout h1 h2 hin hx
      go_wp2_with fail
      go_roundw
      case rel => exact ⟨j + 1, by omega, by go_num, HIN.out, by first | rfl | trivial⟩
      case measure => simp [intOf]; omega
    · obtain rfl : j = l.length := by omega
      rw [List.take_length] at hin
      have HR := Lib.hid hin
      clear hin
      go_wp2_with fail
      go_ret
      exact ⟨ret_bool HR.out.symm, rfl⟩

/-- integers of a list as keys of a set -/
def setZ (xs : List Int) : DataW Unit := Maps.setOf (.agg []) (xs.map fun x : Int => Lit.int .i64 x)
theorem setZ_nil : setZ [] = .map [] := rfl
theorem setZ_snoc (xs : List Int) (x : Int) : setZ (xs ++ [x]) = (setZ xs).put (.int .i64 x) (.agg []) := by simp [setZ, Maps.setOf_snoc]
theorem keyZs (xs : List Int) : ∀ x ∈ xs.map (fun x : Int => Lit.int .i64 x), WideAt.IsKeyLit x := by intro x hx; obtain ⟨y, _, rfl⟩ := List.mem_map.1 hx; exact trivial
theorem has_setZ (xs : List Int) (c : Int) : Maps.has (setZ xs) (.int .i64 c) = decide (c ∈ xs) := by
  rw [setZ, Maps.has_setOf _ _ _ (keyZs xs)]
  rw [Bool.eq_iff_iff]
  simp only [List.any_map, List.any_eq_true, decide_eq_true_eq, Function.comp]
  constructor
  · rintro ⟨x, hx, h⟩
    have : x = c := by simpa [Lit.sameKey] using h
    subst this; exact hx
  · exact fun h => ⟨c, h, by simp [Lit.sameKey]⟩
theorem size_setZ (xs : List Int) : ∀ k, k ≤ xs.length → Maps.size (setZ (xs.take k)) ≤ k ∧ (Maps.size (setZ (xs.take k)) = k ↔ (xs.take k).Nodup) := by
  intro k
  induction k with
  | zero => intro _; exact ⟨Nat.le_refl _, fun _ => by simp, fun _ => rfl⟩
  | succ k ih =>
    intro hk
    obtain ⟨h1, h2⟩ := ih (by omega)
    have hsp := Maps.size_put (D := setZ (xs.take k)) (k := .int .i64 (xs.getD k 0)) (Maps.tidy_setOf _ _ (keyZs _)) (.agg [])
    rw [has_setZ] at hsp
    rw [ints_take (by omega), setZ_snoc, hsp]
    by_cases hm : xs.getD k 0 ∈ xs.take k
    · rw [decide_eq_true hm]
      refine ⟨by simp; omega, fun h => ?_, fun h => ?_⟩
      · simp at h; omega
      · rw [List.nodup_append] at h
        exact absurd rfl (h.2.2 _ hm _ (by simp))
    · rw [decide_eq_false hm]
      refine ⟨by simp; omega, fun h => ?_, fun h => ?_⟩
      · simp at h
        exact ints_snoc _ _ (h2.1 h) hm
      · rw [List.nodup_append] at h
        have := h2.2 h.1
        simp; omega
theorem keyedZ : Maps.Keyed Tryd.prog 3 := Maps.int_keyed Tryd.underlying3
theorem keyZ (x : Int) (hx : in64 x) : keyOf Tryd.prog 3 (.int .i64 x) = some (.int .i64 x) := Maps.keyOf_int_mk Tryd.underlying3 (by unfold in64 at hx; simp [Lit.wf, IntKind.min, IntKind.max, IntKind.signed, IntKind.bits]; omega)
theorem run_makeMap13 {P : Program} {t k e : TypeId} (hu : P.underlying t = some (.map k e)) (n : Int) (w : World) : (Instr.makeMap t (some (.int .i64 n))).run P w = .ok (.map (some w.heap.size)) (w.alloc (.map #[] 0)) := by
  simp [Instr.makeMap, run_underlying hu, asInt, asIntOf, Result.andThen]
set_option maxHeartbeats 3200000 in
set_option maxRecDepth 100000 in
theorem ponce13_any (l : List Int) (L : Option Addr) (lc : Nat) (w : World) (hL : Rd kInt w (.slice L l.length lc) l) (hl : l.length ≤ 1000000) :
    Calls Tryd.prog 33 #[.slice L l.length lc] w fun ed w' => ed = .returned (.bool (decide l.Nodup)) ∧ Ext w w' := by
  have HL := Lib.hid hL
  have hl' : (l.length : Int) ≤ 1000000 := by omega
  clear hL
  have hmm := @run_makeMap13 Tryd.prog 55 _ _ Tryd.underlying55
  go_enter Tryd.func33, Tryd.ntmps33
  go_wp2_with fail
  go_loopw [11] (fun i wr => ∃ k : Nat, k ≤ l.length ∧ i = .int .i64 k ∧ wr.ownsMap Tryd.prog 3 unitElem w.heap.size k (setZ (l.take k)) ∧ Ext w wr ∧ w.heap.size < wr.heap.size) (fun i _ => l.length - (intOf i).toNat)
  case atStart => exact ⟨0, Nat.zero_le _, rfl, by rw [List.take_zero, setZ_nil]; exact World.ownsMap_made _ _ _ _, (Ext.refl w).alloc _, by simp⟩
  case round =>
    obtain ⟨k, hk, rfl, hown, hX, hsz⟩ := hrel
    have HX := Lib.hid hX
    have HOW := Lib.hid hown
    have hk0 : (0 : Int) ≤ k := by omega
    clear hX hmm hown
    by_cases hlt : k < l.length
    · have hlt' : (k : Int) < l.length := by omega
      obtain ⟨bx, ox, rfl, z0⟩ := int_at9 (HL.out.ext HX.out) k hlt
      have htk := ints_take hlt
      have hok : in64 (l.getD k 0) := HL.out.okAt k hlt
      obtain ⟨x, hx⟩ : ∃ x, l.getD k 0 = x := ⟨_, rfl⟩
      rw [hx] at z0 htk hok
      have HKEY := Lib.hid (keyZ x hok)
      have HTK := Lib.hid htk
      have HSN := Lib.hid (setZ_snoc (l.take k) x)
      have lbx : bx < wr.heap.size := World.block_lt_of_cell? _ _ z0
      have HML : Hid (k < maxLen) := Lib.hid (by unfold maxLen; omega)
      clear htk hx hok
      go_wp2_with (at_mapUpdate; refine wpList_mapUpdate_own _ rfl _ _ _ 55 rfl 3 56 keyedZ Tryd.underlying55 (unitElem (H := Unit)) w.heap.size k _ rfl HOW.out HML.out _ _ _ rfl rfl HKEY.out _ [] unitElem_mk ?_; intro w1 hown1 hgrow1)
      have H1 := Lib.hid (And.intro hown1 hgrow1)
      clear hown1 hgrow1
      go_wp2_with fail
      go_roundw
      case rel => exact ⟨k + 1, by omega, by go_num, by rw [HTK.out, HSN.out]; exact H1.out.1, HX.out.grown H1.out.2 (fun j hj => by cases hj; exact Nat.le_refl _), by have := H1.out.2.size; omega⟩
      case measure => simp [intOf]; omega
    · obtain rfl : k = l.length := by omega
      have hsz9 := size_setZ l l.length (Nat.le_refl _)
      rw [List.take_length] at HOW hsz9
      obtain ⟨q, hq⟩ : ∃ q, Maps.size (setZ l) = q := ⟨_, rfl⟩
      rw [hq] at hsz9
      have HQ := Lib.hid hq
      have hq9 : (q : Int) ≤ 1000000 := by omega
      clear hq
      by_cases hn : q = l.length
      · have HR : Hid (decide l.Nodup = true) := Lib.hid (decide_eq_true (hsz9.2.1 hn))
        have e1 : ((q : Int) == (l.length : Int)) = true := by simp [hn]
        have e2 : (q == l.length) = true := by simp [hn]
        clear hsz9 hn
        go_wp2_with (at_len; refine wpList_len_own _ rfl _ 55 rfl 3 56 Tryd.underlying55 _ w.heap.size l.length (setZ l) rfl HOW.out ?_; rw [HQ.out])
        go_ret
        exact ⟨ret_bool HR.out.symm, HX.out⟩
      · have HR : Hid (decide l.Nodup = false) := Lib.hid (decide_eq_false (fun h => hn (hsz9.2.2 h)))
        have e1 : ((q : Int) == (l.length : Int)) = false := by simp; omega
        have e2 : (q == l.length) = false := by simp [hn]
        clear hsz9 hn
        go_wp2_with (at_len; refine wpList_len_own _ rfl _ 55 rfl 3 56 Tryd.underlying55 _ w.heap.size l.length (setZ l) rfl HOW.out ?_; rw [HQ.out])
        go_ret
        exact ⟨ret_bool HR.out.symm, HX.out⟩
theorem Plain.right_parts (l : List Int) : rightL l = (decide (l.length ≤ 1000) && l.all tokOk && decide l.Nodup) := rfl
set_option maxHeartbeats 3200000 in
set_option maxRecDepth 100000 in
theorem pright13_any (l : List Int) (L : Option Addr) (lc : Nat) (w : World) (hL : Rd kInt w (.slice L l.length lc) l) (hl : l.length ≤ 2000) :
    Calls Tryd.prog 19 #[.slice L l.length lc] w fun ed w' => ed = .returned (.bool (rightL l)) ∧ Ext w w' := by
  have HB := Lib.hid (pbounds13_any l L lc w hL)
  have HO := Lib.hid (ponce13_any l L lc w hL (by omega))
  have hrp := right_parts l
  have hl9 : (l.length : Int) ≤ 2000 := by omega
  obtain ⟨b1, hb1⟩ : ∃ b, l.all tokOk = b := ⟨_, rfl⟩
  obtain ⟨b2, hb2⟩ : ∃ b, decide l.Nodup = b := ⟨_, rfl⟩
  rw [hb1] at HB hrp
  rw [hb2] at HO hrp
  clear hb1 hb2 hL
  by_cases h1 : l.length ≤ 1000
  · have hd : decide ((l.length : Int) ≤ 1000) = true := decide_eq_true (by omega)
    have hdN : decide (l.length ≤ 1000) = true := decide_eq_true h1
    rw [hdN] at hrp
    have HR := Lib.hid hrp
    clear hrp h1
    cases b1 with
    | false =>
      go_enter Tryd.func19, Tryd.ntmps19
      go_wp2_with fail
      refine HB.out.mono ?_
      rintro ed w1 ⟨rfl, rfl⟩
      go_wp2_with fail
      go_ret
      exact ⟨ret_bool (by rw [HR.out]; rfl), Ext.refl _⟩
    | true =>
      go_enter Tryd.func19, Tryd.ntmps19
      go_wp2_with fail
      refine HB.out.mono ?_
      rintro ed w1 ⟨rfl, rfl⟩
      go_wp2_with fail
      refine HO.out.mono ?_
      rintro ed w2 ⟨rfl, hE⟩
      have HE := Lib.hid hE
      clear hE
      go_wp2_with fail
      go_ret
      exact ⟨ret_bool (by rw [HR.out]; rfl), HE.out⟩
  · have hd : decide ((l.length : Int) ≤ 1000) = false := decide_eq_false (by omega)
    have hdN : decide (l.length ≤ 1000) = false := decide_eq_false h1
    rw [hdN] at hrp
    have HR := Lib.hid hrp
    clear hrp h1
    go_enter Tryd.func19, Tryd.ntmps19
    go_wp2_with fail
    go_ret
    exact ⟨ret_bool (by rw [HR.out]; rfl), Ext.refl _⟩
end Go.Proofs.YtfkidgpjejcblaaDoor

/- Lists of lists of numbers: what reads as one, what a call has made; append. -/
namespace Go.Proofs.YtfkidgpjejcblaaDoor
open Go.BigFrame
open Go.RowKit Go.Proofs.YtfkidgpjejcblaaDoor.Plain

/-- a list's head, as it lies in a list of lists -/
structure Hd where
  A : Option Addr
  n : Nat
  c : Nat
def hd0 : Hd := ⟨none, 0, 0⟩
abbrev Hd.v (h : Hd) : Value := .slice h.A h.n h.c
def kRow : Kd Hd where
  t := 25
  e := 22
  n := 1
  cells := fun h => [.slice h.A h.n h.c]
  ok := fun _ => True
  d := hd0
  z := .slice none 0 0
  bytes := 24
  ht := Tryd.underlying25
  info := by kernel_rfl
  hzs := rfl
  pos := by decide
  small := by decide
  len := fun _ => rfl
  one := fun a u hu => by simp at hu; subst hu; rfl
/-- a value that reads as these lists -/
def Rdd (w : World) (v : Value) (D : List (List Int)) : Prop := ∃ hs : List Hd, Rd kRow w v hs ∧ hs.length = D.length ∧ ∀ j, j < D.length → Rd kInt w (hs.getD j hd0).v (D.getD j [])
/-- lists that a call has made -/
def Oww (B : Nat) (w : World) (v : Value) (D : List (List Int)) : Prop := ∃ hs : List Hd, Ow kRow B w v hs ∧ hs.length = D.length ∧ ∀ j, j < D.length → Ow kInt B w (hs.getD j hd0).v (D.getD j [])
theorem Rdd.ext {w W : World} {v : Value} {D : List (List Int)} (h : Rdd w v D) (hE : Ext w W) : Rdd W v D := by
  obtain ⟨hs, h1, h2, h3⟩ := h
  exact ⟨hs, h1.ext hE, h2, fun j hj => (h3 j hj).ext hE⟩
theorem Rdd.slice {w : World} {v : Value} {D : List (List Int)} (h : Rdd w v D) : ∃ A c, v = .slice A D.length c ∧ D.length ≤ c := by
  obtain ⟨hs, h1, h2, _⟩ := h
  obtain ⟨A, c, h4, h5⟩ := h1.slice
  rw [h2] at h4 h5
  exact ⟨A, c, h4, h5⟩
theorem Rdd.len {w : World} {v : Value} {D : List (List Int)} (h : Rdd w v D) : D.length ≤ 9223372036854775807 := by
  obtain ⟨hs, h1, h2, _⟩ := h
  rw [← h2]; exact h1.len
theorem Rdd.nil (w : World) (A : Option Addr) (c : Nat) : Rdd w (.slice A 0 c) [] := ⟨[], Rd.nil _ _ _, rfl, fun j hj => absurd hj (Nat.not_lt_zero _)⟩
/-- a row, as it lies -/
theorem Rdd.row {w : World} {A : Option Addr} {n c : Nat} {D : List (List Int)} (h : Rdd w (.slice A n c) D) (j : Nat) (hj : j < D.length) : ∃ b off A' c', A = some ⟨b, off, none⟩ ∧ w.cell? ⟨b, off + j, none⟩ = some (.slice A' (D.getD j []).length c') ∧ Rd kInt w (.slice A' (D.getD j []).length c') (D.getD j []) := by
  obtain ⟨hs, h1, h2, h3⟩ := h
  obtain ⟨b, off, rfl, hc⟩ := h1.cells (by omega)
  have h4 := h3 j hj
  have h5 := hc j (by omega) 0 _ rfl
  obtain ⟨A', c', h6, _⟩ := h4.slice
  have e : (kRow.cells (hs.getD j kRow.d))[0]? = some (hs.getD j hd0).v := rfl
  refine ⟨b, off, A', c', rfl, ?_, by rw [← h6]; exact h4⟩
  rw [← h6]
  rw [show off + j * kRow.n + 0 = off + j from by show off + j * 1 + 0 = off + j; omega] at h5
  exact h5
theorem Oww.rdd {B : Nat} {w : World} {v : Value} {D : List (List Int)} (h : Oww B w v D) : Rdd w v D := by
  obtain ⟨hs, h1, h2, h3⟩ := h
  exact ⟨hs, h1.rd, h2, fun j hj => (h3 j hj).rd⟩
theorem Oww.ext {B : Nat} {w W : World} {v : Value} {D : List (List Int)} (h : Oww B w v D) (hE : Ext w W) : Oww B W v D := by
  obtain ⟨hs, h1, h2, h3⟩ := h
  exact ⟨hs, h1.ext hE, h2, fun j hj => (h3 j hj).ext hE⟩
theorem Oww.mono {B B' : Nat} {w : World} {v : Value} {D : List (List Int)} (h : Oww B w v D) (hB : B' ≤ B) : Oww B' w v D := by
  obtain ⟨hs, h1, h2, h3⟩ := h
  exact ⟨hs, h1.mono hB, h2, fun j hj => (h3 j hj).mono hB⟩
theorem Oww.nil (B : Nat) (w : World) : Oww B w (.slice none 0 0) [] := ⟨[], Ow.nil _ _, rfl, fun j hj => absurd hj (Nat.not_lt_zero _)⟩
theorem Oww.slice {B : Nat} {w : World} {v : Value} {D : List (List Int)} (h : Oww B w v D) : ∃ A c, v = .slice A D.length c ∧ D.length ≤ c := h.rdd.slice
theorem Oww.lt {B : Nat} {w : World} {v : Value} {D : List (List Int)} (h : Oww B w v D) : ∀ k, v.ownBlock = some k → B ≤ k ∧ k < w.heap.size := by
  obtain ⟨hs, h1, _⟩ := h
  exact h1.lt
/-- a store into another block, below all of them -/
theorem Oww.setBelow {B : Nat} {w : World} {v : Value} {D : List (List Int)} (h : Oww B w v D) {p : Addr} (hp : p.block < B) (u : Value) : Oww B (w.setCell p u) v D := by
  obtain ⟨hs, h1, h2, h3⟩ := h
  exact ⟨hs, h1.setBelow hp u, h2, fun j hj => (h3 j hj).setBelow hp u⟩
theorem row_at {w : World} {q : Nat} {h : Hd} (hq : w.heap[q]? = some (.cells #[h.v] 22)) : Rd kRow w (.slice (some ⟨q, 0, none⟩) 1 1) [h] :=
  ⟨by simp [maxLen], fun _ _ => trivial, _, 1, rfl, Nat.le_refl _, fun _ => ⟨q, 0, rfl, fun j hj i u hu => by
    obtain rfl : j = 0 := by simp at hj; omega
    have hi : i = 0 := by
      rcases i with _ | i
      · rfl
      · simp [kRow] at hu
    subst hi
    have hu' : h.v = u := by simpa [kRow] using hu
    subst hu'
    exact (cell_of_row w q 0 _ _ _ hq).trans rfl⟩⟩
theorem Oww.snoc {B : Nat} {w w' : World} {v v' : Value} {D : List (List Int)} {hs : List Hd} {h : Hd} {ys : List Int} (h1 : Ow kRow B w v hs) (h2 : hs.length = D.length) (h3 : ∀ j, j < D.length → Ow kInt B w (hs.getD j hd0).v (D.getD j [])) (hy : Ow kInt B w h.v ys) (hv : Ow kRow B w' v' (hs ++ [h])) (hg : w.grownBy w' v.ownBlock) : Oww B w' v' (D ++ [ys]) := by
  have hne : kInt.e ≠ kRow.e := by decide
  refine ⟨hs ++ [h], hv, by rw [List.length_append, List.length_append, h2]; rfl, fun j hj => ?_⟩
  rw [List.length_append, List.length_singleton] at hj
  rcases Nat.lt_or_ge j D.length with hlt | hge
  · have e1 : (hs ++ [h]).getD j hd0 = hs.getD j hd0 := by rw [List.getD_eq_getElem?_getD, List.getElem?_append_left (by omega), ← List.getD_eq_getElem?_getD]
    have e2 : (D ++ [ys]).getD j [] = D.getD j [] := by rw [List.getD_eq_getElem?_getD, List.getElem?_append_left hlt, ← List.getD_eq_getElem?_getD]
    rw [e1, e2]
    exact (h3 j hlt).beside h1 hne hg
  · obtain rfl : j = D.length := by omega
    have e1 : (hs ++ [h]).getD D.length hd0 = h := by rw [← h2, List.getD_eq_getElem?_getD, List.getElem?_append_right (Nat.le_refl _), Nat.sub_self]; rfl
    have e2 : (D ++ [ys]).getD D.length [] = ys := by rw [List.getD_eq_getElem?_getD, List.getElem?_append_right (Nat.le_refl _), Nat.sub_self]; rfl
    rw [e1, e2]
    exact hy.beside h1 hne hg
/-- append of one row -/
theorem Oww.wpList_app {ops : Array Oper} {rest : List Oper} {o : Oper} {a : Act} {w : World} {Q : Exit → Act → World → Prop} (hw : Region.wanted o (yielded ops a.tmps) = true) (s x : Operand)
    (ho : o.op = .call { callee := .builtin .append, args := #[s, x], argTypes := #[kRow.t, kRow.t] }) (hty : o.type = kRow.t)
    (B : Nat) (v : Value) (D : List (List Int)) (h1 : a.eval s = v) (hown : Oww B w v D) (p : Nat) (h : Hd) (ys : List Int) (hx : a.eval x = .slice (some ⟨p, 0, none⟩) 1 1) (hp : w.heap[p]? = some (.cells #[h.v] 22)) (hy : Ow kInt B w h.v ys) (hl : D.length + 1 ≤ 1048576) (hB : B ≤ w.heap.size)
    (hh : ∀ v' w', Oww B w' v' (D ++ [ys]) → w.grownBy w' v.ownBlock → (v'.ownBlock = v.ownBlock ∨ v'.ownBlock = some w.heap.size) → wpList Tryd.prog ops Q rest (a.put o.dst v') w') : wpList Tryd.prog ops Q (o :: rest) a w := by
  obtain ⟨hs, g1, g2, g3⟩ := hown
  refine kRow.wpList_app hw s x ho hty B v hs h1 g1 _ [h] hx (row_at hp) (by rw [g2]; exact hl) hB fun v' w' h2 h3 h4 => hh v' w' (Oww.snoc g1 g2 g3 hy h2 h3) h3 h4
end Go.Proofs.YtfkidgpjejcblaaDoor

/- Plain words of towers: next, built, head, walks, levels. No program in it. -/
namespace Go.Proofs.YtfkidgpjejcblaaDoor.Plain
/-- how far on until one is so (least, from 1 on), of n places -/
def farK (f : Nat → Bool) (n : Nat) : Nat := ((List.range n).find? (fun k => f (k + 1))).getD 0 + 1
theorem farK_of (f : Nat → Bool) (n k : Nat) (h1 : 1 ≤ k) (hk : k ≤ n) (hb : ∀ j, 1 ≤ j → j < k → f j = false) (ht : f k = true) : farK f n = k := by
  unfold farK
  have : (List.range n).find? (fun k => f (k + 1)) = some (k - 1) := by
    rw [List.find?_range_eq_some]
    refine ⟨by rw [show k - 1 + 1 = k by omega]; exact ht, List.mem_range.2 (by omega), fun j hj => ?_⟩
    rw [hb (j + 1) (by omega) (by omega)]; rfl
  rw [this]; show k - 1 + 1 = k; omega
theorem farK_spec (f : Nat → Bool) (n : Nat) (h : ∃ k, 1 ≤ k ∧ k ≤ n ∧ f k = true) : 1 ≤ farK f n ∧ farK f n ≤ n ∧ f (farK f n) = true ∧ ∀ j, 1 ≤ j → j < farK f n → f j = false := by
  obtain ⟨k, h1, h2, h3⟩ := h
  cases hf : (List.range n).find? (fun k => f (k + 1)) with
  | none =>
    rw [List.find?_eq_none] at hf
    have := hf (k - 1) (List.mem_range.2 (by omega))
    rw [show k - 1 + 1 = k by omega] at this
    exact absurd h3 this
  | some d =>
    have he : farK f n = d + 1 := by unfold farK; rw [hf]; rfl
    rw [List.find?_range_eq_some] at hf
    rw [he]
    refine ⟨by omega, by have := List.mem_range.1 hf.2.1; omega, hf.1, fun j h4 h5 => ?_⟩
    have := hf.2.2 (j - 1) (by omega)
    rw [show j - 1 + 1 = j by omega] at this
    simpa using this
def above (hs : List Int) (i h : Nat) (k : Nat) : Bool := decide ((h : Int) < hs.getD ((i + k) % hs.length) 0)
def nextP (hs : List Int) (i h : Nat) : Nat := (i + farK (above hs i h) hs.length) % hs.length
def nextsP (hs : List Int) (i : Nat) : List Int := (List.range (hs.getD i 0).toNat).map (fun h => (nextP hs i h : Int))
theorem nextsP_len (hs : List Int) (i : Nat) : (nextsP hs i).length = (hs.getD i 0).toNat := by simp [nextsP]
theorem nextsP_at (hs : List Int) (i h : Nat) (hh : h < (hs.getD i 0).toNat) : (nextsP hs i).getD h 0 = (nextP hs i h : Int) := by
  unfold nextsP
  rw [List.getD_eq_getElem?_getD, List.getElem?_map, List.getElem?_range hh]; rfl
/-- a tower, as it is handed in -/
structure Tw where
  tokens : List Int
  heights : List Int
  next : List (List Int)
deriving DecidableEq
def noTw : Tw := ⟨[], [], []⟩
def hOk (x : Int) : Bool := decide (1 ≤ x) && decide (x ≤ 8)
def mayB (tokens heights : List Int) : Bool := rightL tokens && decide (tokens.length ≠ 0) && decide (heights.length = tokens.length) && heights.all hOk
def twOf (tokens heights : List Int) : Tw := ⟨tokens, heights, (List.range heights.length).map (nextsP heights)⟩
def buildP (tokens heights : List Int) : Tw × Int := if mayB tokens heights = true then (twOf tokens heights, 0) else (noTw, 1)
theorem mayB_iff (tokens heights : List Int) : mayB tokens heights = true ↔ rightL tokens = true ∧ tokens.length ≠ 0 ∧ heights.length = tokens.length ∧ ∀ x ∈ heights, 1 ≤ x ∧ x ≤ 8 := by
  unfold mayB
  rw [Bool.and_eq_true, Bool.and_eq_true, Bool.and_eq_true, decide_eq_true_eq, decide_eq_true_eq, List.all_eq_true]
  constructor
  · rintro ⟨⟨⟨h1, h2⟩, h3⟩, h4⟩
    refine ⟨h1, h2, h3, fun x hx => ?_⟩
    have := h4 x hx
    unfold hOk at this
    rw [Bool.and_eq_true, decide_eq_true_eq, decide_eq_true_eq] at this; exact this
  · rintro ⟨h1, h2, h3, h4⟩
    refine ⟨⟨⟨h1, h2⟩, h3⟩, fun x hx => ?_⟩
    unfold hOk
    rw [Bool.and_eq_true, decide_eq_true_eq, decide_eq_true_eq]; exact h4 x hx
def rightTw (t : Tw) : Bool := decide (buildP t.tokens t.heights = (t, 0))
theorem rightTw_iff (t : Tw) : rightTw t = true ↔ mayB t.tokens t.heights = true ∧ t = twOf t.tokens t.heights := by
  unfold rightTw
  rw [decide_eq_true_eq]
  unfold buildP
  split
  · rename_i h
    constructor
    · intro h2; exact ⟨h, (congrArg Prod.fst h2).symm⟩
    · rintro ⟨_, h2⟩; rw [← h2]
  · rename_i h
    constructor
    · intro h2; have := congrArg Prod.snd h2; cases this
    · rintro ⟨h2, _⟩; exact absurd h2 h
theorem right_built {tokens heights : List Int} (h : mayB tokens heights = true) : rightTw (twOf tokens heights) = true := (rightTw_iff _).2 ⟨h, rfl⟩
/-- first of the highest -/
def headF (hs : List Int) : Nat → Nat
  | 0 => 0
  | k + 1 => if hs.getD (headF hs k) 0 < hs.getD k 0 then k else headF hs k
def headP (t : Tw) : Int := if rightTw t = true then (headF t.heights t.heights.length : Nat) else -1
theorem headF_good (hs : List Int) : ∀ k, k ≤ hs.length → (k = 0 ∨ headF hs k < k) ∧ (∀ j, j < k → hs.getD j 0 ≤ hs.getD (headF hs k) 0) ∧ (∀ j, j < headF hs k → hs.getD j 0 < hs.getD (headF hs k) 0)
  | 0, _ => ⟨.inl rfl, fun j hj => absurd hj (Nat.not_lt_zero _), fun j hj => absurd hj (Nat.not_lt_zero _)⟩
  | k + 1, h => by
    obtain ⟨g1, g2, g3⟩ := headF_good hs k (by omega)
    unfold headF
    split
    · rename_i hlt
      refine ⟨.inr (by omega), fun j hj => ?_, fun j hj => ?_⟩
      · rcases Nat.lt_or_ge j k with h9 | h9
        · have := g2 j h9; omega
        · obtain rfl : j = k := by omega
          exact Int.le_refl _
      · have := g2 j hj; omega
    · rename_i hlt
      refine ⟨.inr (by rcases g1 with h9 | h9 <;> first | omega | (subst h9; simp [headF])), fun j hj => ?_, g3⟩
      rcases Nat.lt_or_ge j k with h9 | h9
      · exact g2 j h9
      · obtain rfl : j = k := by omega
        omega
/-- a walk, of so many steps at most -/
def walkF (hs : List Int) (most : Int) : Nat → Nat → List Int
  | 0, at_ => [(at_ : Int)]
  | n + 1, at_ => (at_ : Int) :: (if hs.getD at_ 0 < most then walkF hs most n (nextP hs at_ ((hs.getD at_ 0).toNat - 1)) else [])
def walkP (t : Tw) (place : Int) : List Int :=
  if rightTw t = true ∧ 0 ≤ place ∧ place < t.tokens.length then walkF t.heights (t.heights.getD (headF t.heights t.heights.length) 0) t.heights.length place.toNat else []
def levelF (hs : List Int) (level : Int) : List Int := ((List.range hs.length).filter (fun i => decide (level < hs.getD i 0))).map (fun i : Nat => (i : Int))
def levelP (t : Tw) (level : Int) : List Int := if rightTw t = true then levelF t.heights level else []
/-- how far it is to one of the greatest height -/
def goK (hs : List Int) (most : Int) (i : Nat) : Nat := ((List.range hs.length).find? (fun k => decide (most ≤ hs.getD ((i + k) % hs.length) 0))).getD 0
theorem goK_spec (hs : List Int) (most : Int) (i : Nat) (h : ∃ k, k < hs.length ∧ most ≤ hs.getD ((i + k) % hs.length) 0) : goK hs most i < hs.length ∧ most ≤ hs.getD ((i + goK hs most i) % hs.length) 0 ∧ ∀ j, j < goK hs most i → hs.getD ((i + j) % hs.length) 0 < most := by
  obtain ⟨k, h1, h2⟩ := h
  unfold goK
  cases hf : (List.range hs.length).find? (fun k => decide (most ≤ hs.getD ((i + k) % hs.length) 0)) with
  | none =>
    rw [List.find?_eq_none] at hf
    have := hf k (List.mem_range.2 h1)
    rw [decide_eq_true_eq] at this
    exact absurd h2 this
  | some d =>
    rw [List.find?_range_eq_some] at hf
    refine ⟨List.mem_range.1 hf.2.1, of_decide_eq_true hf.1, fun j hj => ?_⟩
    have := hf.2.2 j hj
    rw [Bool.not_eq_true', decide_eq_false_iff_not] at this
    show hs.getD ((i + j) % hs.length) 0 < most
    omega
theorem most_round (hs : List Int) (i : Nat) (hi : i < hs.length) (p : Nat) (hp : p < hs.length) : ∃ k, k < hs.length ∧ (i + k) % hs.length = p := by
  rcases Nat.lt_or_ge p i with h | h
  · exact ⟨p + hs.length - i, by omega, by rw [show i + (p + hs.length - i) = p + hs.length by omega, Nat.add_mod_right, Nat.mod_eq_of_lt hp]⟩
  · exact ⟨p - i, by omega, by rw [show i + (p - i) = p by omega, Nat.mod_eq_of_lt hp]⟩
/-- what is next is above, and nothing between is -/
theorem next_spec {hs : List Int} {i h : Nat} (hi : i < hs.length) (hh : (h : Int) < hs.getD i 0) : nextP hs i h < hs.length ∧ (h : Int) < hs.getD (nextP hs i h) 0 ∧ ∃ k, 1 ≤ k ∧ k ≤ hs.length ∧ nextP hs i h = (i + k) % hs.length ∧ farK (above hs i h) hs.length = k ∧ ∀ j, 1 ≤ j → j < k → hs.getD ((i + j) % hs.length) 0 ≤ h := by
  have hn : 0 < hs.length := by omega
  obtain ⟨h1, h2, h3, h4⟩ := farK_spec (above hs i h) hs.length ⟨hs.length, by omega, Nat.le_refl _, by
    unfold above
    rw [Nat.add_mod_right, Nat.mod_eq_of_lt hi]; exact decide_eq_true hh⟩
  refine ⟨Nat.mod_lt _ hn, of_decide_eq_true h3, _, h1, h2, rfl, rfl, fun j h5 h6 => ?_⟩
  have := h4 j h5 h6
  unfold above at this
  rw [decide_eq_false_iff_not] at this
  omega
/-- each step of a walk comes nearer -/
theorem walk_step {hs : List Int} {most : Int} {i : Nat} (hi : i < hs.length) (h1 : 1 ≤ hs.getD i 0) (hlt : hs.getD i 0 < most) (hex : ∃ p, p < hs.length ∧ most ≤ hs.getD p 0) : nextP hs i ((hs.getD i 0).toNat - 1) < hs.length ∧ goK hs most (nextP hs i ((hs.getD i 0).toNat - 1)) < goK hs most i ∧ hs.getD i 0 ≤ hs.getD (nextP hs i ((hs.getD i 0).toNat - 1)) 0 := by
  obtain ⟨p, hp1, hp2⟩ := hex
  have hex : ∀ i, i < hs.length → ∃ k, k < hs.length ∧ most ≤ hs.getD ((i + k) % hs.length) 0 := fun i hi => by
    obtain ⟨k, h3, h4⟩ := most_round hs i hi p hp1
    exact ⟨k, h3, by rw [h4]; exact hp2⟩
  obtain ⟨g1, g2, g3⟩ := goK_spec hs most i (hex i hi)
  obtain ⟨n1, n2, k, k1, k2, k3, _, k5⟩ := next_spec (h := (hs.getD i 0).toNat - 1) hi (by omega)
  obtain ⟨G, hG⟩ : ∃ G, goK hs most i = G := ⟨_, rfl⟩
  rw [hG] at g1 g2 g3 ⊢
  have hG0 : G ≠ 0 := fun e => by
    rw [e, Nat.add_zero, Nat.mod_eq_of_lt hi] at g2; omega
  have hkG : k ≤ G := by
    refine Nat.le_of_not_lt fun h9 => ?_
    have := k5 G (by omega) h9
    omega
  refine ⟨n1, ?_, by omega⟩
  obtain ⟨q1, q2, q3⟩ := goK_spec hs most (nextP hs i ((hs.getD i 0).toNat - 1)) (hex _ n1)
  refine Nat.lt_of_not_le fun h9 => ?_
  have h8 := q3 (G - k) (by omega)
  rw [k3, Nat.mod_add_mod, show i + k + (G - k) = i + G by omega] at h8
  omega
end Go.Proofs.YtfkidgpjejcblaaDoor.Plain

/- The document's Plain, Next, Same (ref13). -/
namespace Go.Proofs.YtfkidgpjejcblaaDoor
open Go.BigFrame
open Go.RowKit Go.Proofs.YtfkidgpjejcblaaDoor.Plain

end Go.Proofs.YtfkidgpjejcblaaDoor

/- The document's Join, Cut (ref13). -/
namespace Go.Proofs.YtfkidgpjejcblaaDoor
open Go.BigFrame
open Go.RowKit Go.Proofs.YtfkidgpjejcblaaDoor.Plain

end Go.Proofs.YtfkidgpjejcblaaDoor

/- The document's Cut (ref13). -/
namespace Go.Proofs.YtfkidgpjejcblaaDoor
open Go.BigFrame
open Go.RowKit Go.Proofs.YtfkidgpjejcblaaDoor.Plain

end Go.Proofs.YtfkidgpjejcblaaDoor

/- The document's Lists, Same of towers (ref14). -/
namespace Go.Proofs.YtfkidgpjejcblaaDoor
open Go.BigFrame
open Go.RowKit Go.Proofs.YtfkidgpjejcblaaDoor.Plain

theorem Plain.lists_of_all (D E : List (List Int)) (h : D.length = E.length) (ha : ∀ j, j < D.length → D.getD j [] = E.getD j []) : D = E := by
  apply List.ext_getElem h
  intro i h1 h2
  have := ha i h1
  rw [List.getD_eq_getElem?_getD, List.getElem?_eq_getElem h1, List.getD_eq_getElem?_getD, List.getElem?_eq_getElem h2] at this
  exact this
set_option maxHeartbeats 1600000 in
set_option maxRecDepth 100000 in
theorem rlists_any (D E : List (List Int)) (A A' : Option Addr) (c c' : Nat) (w : World) (h : Rdd w (.slice A D.length c) D) (h' : Rdd w (.slice A' E.length c') E) :
    Calls Tryd.prog 24 #[.slice A D.length c, .slice A' E.length c'] w fun ed w' => ed = .returned (.bool (decide (D = E))) ∧ Ext w w' := by
  have HD := Lib.hid h
  have HE := Lib.hid h'
  have hm := h.len
  have hm' : (D.length : Int) ≤ 9223372036854775807 := by omega
  clear h h' hm
  by_cases hl : D.length = E.length
  · have e : ((D.length : Int) != (E.length : Int)) = false := by rw [bne_eq_false_iff_eq]; omega
    have HLE := Lib.hid hl
    have hlI : (E.length : Int) = D.length := by omega
    clear hl
    go_enter Tryd.func24, Tryd.ntmps24
    go_wp2_with fail
    clear hlI
    go_loopw [5] (fun i wr => ∃ k : Nat, k ≤ D.length ∧ i = .int .i64 k ∧ Ext w wr ∧ ∀ j, j < k → D.getD j [] = E.getD j []) (fun i _ => D.length - (intOf i).toNat)
    case atStart => exact ⟨0, Nat.zero_le _, rfl, Ext.refl _, fun j hj => absurd hj (Nat.not_lt_zero _)⟩
    case round =>
      obtain ⟨k, hk, rfl, hX, ha⟩ := hrel
      have HX := Lib.hid hX
      have HA := Lib.hid ha
      have hk0 : (0 : Int) ≤ k := by omega
      clear hX ha
      by_cases hlt : k < D.length
      · have hlt' : (k : Int) < D.length := by omega
        have hlt2 : (k : Int) < E.length := by have := HLE.out; omega
        obtain ⟨b, o, A1, c1, hAb, z0, r0⟩ := (HD.out.ext HX.out).row k hlt
        obtain ⟨b', o', A2, c2, hAb', z1, r1⟩ := (HE.out.ext HX.out).row k (by rw [← HLE.out]; exact hlt)
        subst hAb hAb'
        obtain ⟨x, hx⟩ : ∃ x, D.getD k [] = x := ⟨_, rfl⟩
        obtain ⟨y, hy⟩ : ∃ y, E.getD k [] = y := ⟨_, rfl⟩
        rw [hx] at z0 r0
        rw [hy] at z1 r1
        have HXY := Lib.hid (And.intro hx hy)
        obtain ⟨q, hq⟩ : ∃ q, sameB x y = q := ⟨_, rfl⟩
        have HF1 : Hid (∀ w', Ext wr w' → Calls Tryd.prog 11 #[.slice A1 x.length c1, .slice A2 y.length c2] w' fun ed w'' => ed = .returned (.bool q) ∧ Ext wr w'') := Lib.hid fun w' hE => (ints_e _ _ _ _ w' (r0.ext hE) (r1.ext hE)).mono fun ed w'' hh => ⟨by rw [hh.1, hq], hE.trans hh.2⟩
        have KS : Hid (∀ w', Ext wr w' → w'.cell? ⟨b, o + k, none⟩ = some (.slice A1 x.length c1) ∧ w'.cell? ⟨b', o' + k, none⟩ = some (.slice A2 y.length c2)) := Lib.hid (fun w' hE => ⟨hE.cell z0, hE.cell z1⟩)
        have lb1 : b < wr.heap.size := World.block_lt_of_cell? _ _ z0
        have lb2 : b' < wr.heap.size := World.block_lt_of_cell? _ _ z1
        have HQ := Lib.hid hq
        clear z0 z1 r0 r1 hx hy hq
        cases q with
        | true =>
          go_wp2_with fail
          refine wp_region_class (Ext wr) (by kernel_rfl) (by kernel_rfl) (Ext.refl _).drew ?_
          try simp only [List.append_eq, List.cons_append, List.nil_append]
          repeat (first
            | go_big_quiet_skip
            | (go_big_quiet_want
               first
               | (go_big_quiet_op; go_big_quiet_on)
               | (unfold Oper.quiet
                  apply Exists.intro
                  refine ⟨fun w' hC => ?_, ?_⟩
                  · (obtain ⟨k1, k2⟩ := KS.out w' hC
                     unfold Oper.quietAt
                     go_simp
                     first
                     | exact rfl
                     | (with_reducible exact HF1.out w' hC))
                  go_simp
                  go_big_quiet_on)
               | (go_big_quiet_op
                  apply Exists.intro
                  refine ⟨fun w' hC => ?_, ?_⟩
                  · exact HF1.out w' hC
                  go_big_quiet_on)))
          refine wpQuiet_nil ?_
          intro w9 hC9
          go_wp2_with fail
          go_roundw
          case rel => exact ⟨k + 1, by omega, by go_num, HX.out.trans hC9, fun j hj => by
            rcases Nat.lt_or_ge j k with h1 | h1
            · exact HA.out j h1
            · obtain rfl : j = k := by omega
              have h9 := HQ.out
              unfold sameB at h9
              rw [HXY.out.1, HXY.out.2]; exact of_decide_eq_true h9⟩
          case measure => simp [intOf]; omega
        | false =>
          have HR : Hid (decide (D = E) = false) := Lib.hid (decide_eq_false (fun h9 => by
            have h8 := HQ.out
            unfold sameB at h8
            have h7 := of_decide_eq_false h8
            exact h7 (by rw [← HXY.out.1, ← HXY.out.2, h9])))
          go_wp2_with fail
          refine wp_region_class (Ext wr) (by kernel_rfl) (by kernel_rfl) (Ext.refl _).drew ?_
          try simp only [List.append_eq, List.cons_append, List.nil_append]
          repeat (first
            | go_big_quiet_skip
            | (go_big_quiet_want
               first
               | (go_big_quiet_op; go_big_quiet_on)
               | (unfold Oper.quiet
                  apply Exists.intro
                  refine ⟨fun w' hC => ?_, ?_⟩
                  · (obtain ⟨k1, k2⟩ := KS.out w' hC
                     unfold Oper.quietAt
                     go_simp
                     first
                     | exact rfl
                     | (with_reducible exact HF1.out w' hC))
                  go_simp
                  go_big_quiet_on)
               | (go_big_quiet_op
                  apply Exists.intro
                  refine ⟨fun w' hC => ?_, ?_⟩
                  · exact HF1.out w' hC
                  go_big_quiet_on)))
          refine wpQuiet_nil ?_
          intro w9 hC9
          go_wp2_with fail
          go_ret
          exact ⟨ret_bool HR.out.symm, HX.out.trans hC9⟩
      · obtain rfl : k = D.length := by omega
        have HR : Hid (decide (D = E) = true) := Lib.hid (decide_eq_true (lists_of_all D E HLE.out HA.out))
        go_wp2_with fail
        go_ret
        exact ⟨ret_bool HR.out.symm, HX.out⟩
  · have e : ((D.length : Int) != (E.length : Int)) = true := by rw [bne_iff_ne]; omega
    have HR : Hid (decide (D = E) = false) := Lib.hid (decide_eq_false (fun h => hl (by rw [h])))
    clear hl
    go_enter Tryd.func24, Tryd.ntmps24
    go_wp2_with fail
    go_ret
    exact ⟨ret_bool HR.out.symm, Ext.refl _⟩

abbrev towV (A : Option Addr) (n c : Nat) (B : Option Addr) (m d : Nat) (N : Option Addr) (k e : Nat) : Value := .agg #[.slice A n c, .slice B m d, .slice N k e]
/-- a tower that reads so -/
structure TwR (w : World) (t : Tw) (A B N : Option Addr) (c d e : Nat) : Prop where
  tok : Rd kInt w (.slice A t.tokens.length c) t.tokens
  hts : Rd kInt w (.slice B t.heights.length d) t.heights
  nxt : Rdd w (.slice N t.next.length e) t.next
theorem TwR.ext {w W : World} {t : Tw} {A B N : Option Addr} {c d e : Nat} (h : TwR w t A B N c d e) (hE : Ext w W) : TwR W t A B N c d e := ⟨h.tok.ext hE, h.hts.ext hE, h.nxt.ext hE⟩
theorem Plain.tw_eq (s t : Tw) : decide (s = t) = (sameB s.tokens t.tokens && sameB s.heights t.heights && decide (s.next = t.next)) := by
  unfold sameB
  rw [Bool.eq_iff_iff, decide_eq_true_eq, Bool.and_eq_true, Bool.and_eq_true, decide_eq_true_eq, decide_eq_true_eq, decide_eq_true_eq]
  constructor
  · rintro rfl; exact ⟨⟨rfl, rfl⟩, rfl⟩
  · rintro ⟨⟨h1, h2⟩, h3⟩
    cases s; cases t; simp_all
set_option maxHeartbeats 1600000 in
set_option maxRecDepth 100000 in
theorem rsame14_any (s t : Tw) (A B N A' B' N' : Option Addr) (c d e c' d' e' : Nat) (w : World) (hs : TwR w s A B N c d e) (ht : TwR w t A' B' N' c' d' e') :
    Calls Tryd.prog 10 #[towV A s.tokens.length c B s.heights.length d N s.next.length e, towV A' t.tokens.length c' B' t.heights.length d' N' t.next.length e'] w fun ed w' => ed = .returned (.bool (decide (s = t))) ∧ Ext w w' := by
  have HS : Hid (decide (s = t) = (sameB s.tokens t.tokens && sameB s.heights t.heights && decide (s.next = t.next))) := Lib.hid (tw_eq s t)
  rw [HS.out]
  obtain ⟨st, sh, sn⟩ := s
  obtain ⟨tt, th, tn⟩ := t
  obtain ⟨h1, h2, h3⟩ := hs
  obtain ⟨h4, h5, h6⟩ := ht
  simp only at h1 h2 h3 h4 h5 h6 ⊢
  have H1 := Lib.hid h1
  have H2 := Lib.hid h2
  have H3 := Lib.hid h3
  have H4 := Lib.hid h4
  have H5 := Lib.hid h5
  have H6 := Lib.hid h6
  have HX0 : Hid (Ext w ((w.alloc (.cells #[.slice A st.length c, .slice B sh.length d, .slice N sn.length e] 27)).alloc (.cells #[.slice A' tt.length c', .slice B' th.length d', .slice N' tn.length e'] 27))) := Lib.hid (((Ext.refl w).alloc _).alloc _)
  clear h1 h2 h3 h4 h5 h6 HS
  obtain ⟨q1, hq1⟩ : ∃ q, sameB st tt = q := ⟨_, rfl⟩
  obtain ⟨q2, hq2⟩ : ∃ q, sameB sh th = q := ⟨_, rfl⟩
  obtain ⟨q3, hq3⟩ : ∃ q, decide (sn = tn) = q := ⟨_, rfl⟩
  rw [hq1, hq2, hq3]
  have HQ := Lib.hid (And.intro hq1 (And.intro hq2 hq3))
  clear hq1 hq2 hq3
  go_enter Tryd.func10, Tryd.ntmps10
  go_wp2_with fail
  refine (ints_e _ _ st tt _ (H1.out.ext HX0.out) (H4.out.ext HX0.out)).mono ?_
  rw [HQ.out.1]
  rintro ed w1 ⟨rfl, hE1⟩
  have j0 : w1.cell? ⟨w.heap.size, 0, none⟩ = some (.slice A st.length c) := Ext.cell hE1 (by go_simp)
  have j1 : w1.cell? ⟨w.heap.size, 1, none⟩ = some (.slice B sh.length d) := Ext.cell hE1 (by go_simp)
  have j2 : w1.cell? ⟨w.heap.size, 2, none⟩ = some (.slice N sn.length e) := Ext.cell hE1 (by go_simp)
  have jf : ∀ o, w1.frozen? ⟨w.heap.size, o, none⟩ = false := fun o => (Below.frozen hE1 (p := ⟨w.heap.size, o, none⟩) (by first | omega | (simp; omega) | simp)).trans (by go_simp)
  have k0 : w1.cell? ⟨(w.heap.size + 1), 0, none⟩ = some (.slice A' tt.length c') := Ext.cell hE1 (by go_simp)
  have k1 : w1.cell? ⟨(w.heap.size + 1), 1, none⟩ = some (.slice B' th.length d') := Ext.cell hE1 (by go_simp)
  have k2 : w1.cell? ⟨(w.heap.size + 1), 2, none⟩ = some (.slice N' tn.length e') := Ext.cell hE1 (by go_simp)
  have kf : ∀ o, w1.frozen? ⟨(w.heap.size + 1), o, none⟩ = false := fun o => (Below.frozen hE1 (p := ⟨(w.heap.size + 1), o, none⟩) (by first | omega | (simp; omega) | simp)).trans (by go_simp)
  have lz1 := hE1.size
  simp at lz1
  have n1 : w.heap.size < w1.heap.size := by omega
  have n2 : w.heap.size + 1 < w1.heap.size := by omega
  have HX1 := Lib.hid (HX0.out.trans hE1)
  clear hE1 lz1 HX0
  cases q1 with
  | false =>
    go_wp2_with fail
    go_ret
    exact ⟨ret_bool (by first | rfl | simp), HX1.out⟩
  | true =>
    go_wp2_with fail
    refine (ints_e _ _ sh th _ (H2.out.ext HX1.out) (H5.out.ext HX1.out)).mono ?_
    rw [HQ.out.2.1]
    rintro ed w2 ⟨rfl, hE2⟩
    replace j2 := Ext.cell hE2 j2
    replace k2 := Ext.cell hE2 k2
    have m1 : w.heap.size < w2.heap.size := World.block_lt_of_cell? _ _ j2
    have m2 : w.heap.size + 1 < w2.heap.size := World.block_lt_of_cell? _ _ k2
    have HX2 := Lib.hid (HX1.out.trans hE2)
    clear hE2 HX1 j0 j1 k0 k1 jf kf
    cases q2 with
    | false =>
      go_wp2_with fail
      go_ret
      exact ⟨ret_bool (by first | rfl | simp), HX2.out⟩
    | true =>
      go_wp2_with fail
      refine (rlists_any sn tn N N' e e' _ (H3.out.ext HX2.out) (H6.out.ext HX2.out)).mono ?_
      rw [HQ.out.2.2]
      rintro ed w3 ⟨rfl, hE3⟩
      have HX3 := Lib.hid (HX2.out.trans hE3)
      clear hE3 HX2
      go_wp2_with fail
      go_ret
      exact ⟨ret_bool (by first | rfl | simp), HX3.out⟩
end Go.Proofs.YtfkidgpjejcblaaDoor

/- The document's At, Height (ref01), Heights (ref14). -/
namespace Go.Proofs.YtfkidgpjejcblaaDoor
open Go.BigFrame
open Go.RowKit Go.Proofs.YtfkidgpjejcblaaDoor.Plain

/-- a word's height -/
def Plain.heightN (word : Nat) : Nat := ((List.range 7).find? (fun i => decide (word / 2 ^ i % 2 = 1))).getD 7 + 1
theorem Plain.height_of (word k : Nat) (h1 : 1 ≤ k) (h2 : k ≤ 8) (hb : ∀ j, j < k - 1 → word / 2 ^ j % 2 = 0) (ht : k < 8 → word / 2 ^ (k - 1) % 2 = 1) : heightN word = k := by
  unfold heightN
  by_cases h : k < 8
  · have : (List.range 7).find? (fun i => decide (word / 2 ^ i % 2 = 1)) = some (k - 1) := by
      rw [List.find?_range_eq_some]
      refine ⟨decide_eq_true (ht h), List.mem_range.2 (by omega), fun j hj => ?_⟩
      rw [hb j hj]; rfl
    rw [this]; show k - 1 + 1 = k; omega
  · obtain rfl : k = 8 := by omega
    have : (List.range 7).find? (fun i => decide (word / 2 ^ i % 2 = 1)) = none := by
      rw [List.find?_eq_none]
      intro j hj
      rw [hb j (by have := List.mem_range.1 hj; omega)]; decide
    rw [this]; rfl
theorem Plain.height_bd (word : Nat) : 1 ≤ heightN word ∧ heightN word ≤ 8 := by
  unfold heightN
  cases h : (List.range 7).find? (fun i => decide (word / 2 ^ i % 2 = 1)) with
  | none => exact ⟨by simp, by simp⟩
  | some d =>
    rw [List.find?_range_eq_some] at h
    have := List.mem_range.1 h.2.1
    exact ⟨by simp, by simp; omega⟩
def Plain.wordP (s : List Nat) (i : Int) : Nat := if i < 0 ∨ s.length = 0 then 0 else s.getD (i.toNat % s.length) 0
def Plain.htP (s : List Nat) (x : Int) : Int := if 0 ≤ x then (heightN (wordP s x) : Nat) else 1
set_option maxHeartbeats 400000 in
theorem rbit01_any (x k : Nat) (w : World) (hx : x < 4294967296) (hk : k ≤ 30) :
    Calls Tryd.prog 38 #[.int .u32 x, .int .i64 k] w fun ed w' => ed = .returned (.int .u32 (x / 2 ^ k % 2 : Nat)) ∧ w = w' := by
  have h0 : (0 : Int) ≤ k := by omega
  have h1 : (k : Int) ≤ 30 := by omega
  have HX := Lib.hid hx
  clear hx hk
  go_enter Tryd.func38, Tryd.ntmps38
  go_wp2_with fail
  go_ret
  refine ⟨ret_int ?_, rfl⟩
  have h8 : (x : Int) / 2 ^ k = ((x / 2 ^ k : Nat) : Int) := by simp
  have h9 := u32_and_nat (x / 2 ^ k) 1 (Nat.lt_of_le_of_lt (Nat.div_le_self _ _) HX.out) (by decide)
  rw [h8]
  rw [Nat.and_one_is_mod] at h9
  exact h9
set_option maxHeartbeats 1600000 in
set_option maxRecDepth 100000 in
theorem rheight01_any (x : Nat) (w : World) (hx : x < 4294967296) :
    Calls Tryd.prog 26 #[.int .u32 x] w fun ed w' => ed = .returned (.int .i64 (heightN x : Nat)) ∧ w = w' := by
  have HX := Lib.hid hx
  clear hx
  go_enter Tryd.func26, Tryd.ntmps26
  go_wp2_with fail
  go_loopw [3] (fun i wr => ∃ k : Nat, 1 ≤ k ∧ k ≤ 8 ∧ i = .int .i64 k ∧ (∀ j, j < k - 1 → x / 2 ^ j % 2 = 0) ∧ w = wr) (fun i _ => 8 - (intOf i).toNat)
  case atStart => exact ⟨1, Nat.le_refl _, by omega, rfl, fun j hj => by omega, rfl⟩
  case round =>
    obtain ⟨k, hk1, hk2, rfl, hb, rfl⟩ := hrel
    have HB := Lib.hid hb
    have hk0 : (1 : Int) ≤ k := by omega
    clear hb
    by_cases hlt : k < 8
    · have hlt' : (k : Int) < 8 := by omega
      have hdl : decide ((k : Int) < 8) = true := decide_eq_true hlt'
      obtain ⟨j, hj⟩ : ∃ j : Nat, (k : Int) - 1 = (j : Int) := ⟨k - 1, by omega⟩
      have hj2 : k - 1 = j := by omega
      have hwj : IntKind.i64.wrap (j : Int) = j := IntWalk.i64_in _ (by omega)
      have HC := Lib.hid (rbit01_any x j w HX.out (by omega))
      obtain ⟨q, hq⟩ : ∃ q, x / 2 ^ j % 2 = q := ⟨_, rfl⟩
      rw [hq] at HC
      have HQ := Lib.hid hq
      by_cases h1 : q = 1
      · have e1 : ((q : Int) == 0) = false := by rw [beq_eq_false_iff_ne]; omega
        have e2 : (q == 0) = false := by rw [beq_eq_false_iff_ne]; omega
        have HR : Hid (heightN x = k) := Lib.hid (height_of x k hk1 hk2 HB.out (fun _ => by rw [hj2, HQ.out, h1]))
        have hqne : q ≠ 0 := by omega
        clear hq h1
        go_wp2_with fail
        refine HC.out.mono ?_
        rintro ed w1 ⟨rfl, rfl⟩
        go_wp2_with fail
        go_ret
        exact ⟨ret_int (by rw [HR.out]), rfl⟩
      · have hq0 : q = 0 := by have := Nat.mod_lt (x / 2 ^ j) (show 0 < 2 by decide); omega
        subst hq0
        have HB2 : Hid (∀ i, i < k + 1 - 1 → x / 2 ^ i % 2 = 0) := Lib.hid (fun i hi => by
          rcases Nat.lt_or_ge i (k - 1) with h2 | h2
          · exact HB.out i h2
          · obtain rfl : i = j := by omega
            exact HQ.out)
        clear hq h1
        go_wp2_with fail
        refine HC.out.mono ?_
        rintro ed w1 ⟨rfl, rfl⟩
        go_wp2_with fail
        go_roundw
        case rel => exact ⟨k + 1, by omega, by omega, by go_num, HB2.out, by first | rfl | trivial⟩
        case measure => simp [intOf]; omega
    · obtain rfl : k = 8 := by omega
      have HR : Hid (heightN x = 8) := Lib.hid (height_of x 8 hk1 hk2 HB.out (fun h => by omega))
      go_wp2_with fail
      go_ret
      exact ⟨ret_int (by rw [HR.out]), rfl⟩
set_option maxHeartbeats 1600000 in
set_option maxRecDepth 100000 in
theorem rat01_any (s : List Nat) (S : Option Addr) (sc : Nat) (i : Int) (w : World) (hS : Rd kU32 w (.slice S s.length sc) (zs s)) (hi : in64 i) :
    Calls Tryd.prog 27 #[.slice S s.length sc, .int .i64 i] w fun ed w' => (ed = .returned (.int .u32 (wordP s i : Nat)) ∧ wordP s i < 4294967296) ∧ w = w' := by
  have HS := Lib.hid hS
  have hm := hS.len
  rw [zs_len] at hm
  clear hS
  by_cases h1 : i < 0
  · have hd1 : decide (i < 0) = true := decide_eq_true h1
    have HR : Hid (wordP s i = 0) := Lib.hid (by unfold wordP; rw [if_pos (.inl h1)])
    rw [HR.out]
    go_enter Tryd.func27, Tryd.ntmps27
    go_wp2_with fail
    go_ret
    exact ⟨⟨ret_int rfl, by decide⟩, rfl⟩
  have hd1 : decide (i < 0) = false := decide_eq_false h1
  by_cases h2 : s.length = 0
  · have e1 : ((s.length : Int) == 0) = true := by rw [beq_iff_eq]; omega
    have HR : Hid (wordP s i = 0) := Lib.hid (by unfold wordP; rw [if_pos (.inr h2)])
    rw [HR.out]
    clear h2
    go_enter Tryd.func27, Tryd.ntmps27
    go_wp2_with fail
    go_ret
    first | exact ⟨⟨ret_int rfl, by decide⟩, rfl⟩ | exact ⟨ret_int rfl, rfl⟩ | rfl | trace_state
  have e1 : ((s.length : Int) == 0) = false := by rw [beq_eq_false_iff_ne]; omega
  have hq : i.toNat % s.length < s.length := Nat.mod_lt _ (by omega)
  have HR : Hid (wordP s i = s.getD (i.toNat % s.length) 0) := Lib.hid (by unfold wordP; rw [if_neg (by omega)])
  have hqI : i.tmod (s.length : Int) = ((i.toNat % s.length : Nat) : Int) := by
    rw [Int.tmod_eq_emod_of_nonneg (by omega), Int.natCast_emod, Int.toNat_of_nonneg (by omega)]
  obtain ⟨q, hqx⟩ : ∃ q, i.toNat % s.length = q := ⟨_, rfl⟩
  rw [hqx] at hq HR hqI
  obtain ⟨bs, os, rfl, z0, hzl⟩ := u32_at HS.out q hq
  obtain ⟨v, hv⟩ : ∃ v, s.getD q 0 = v := ⟨_, rfl⟩
  rw [hv] at z0 hzl HR
  rw [HR.out]
  have HZ := Lib.hid hzl
  have hwq : IntKind.i64.wrap (q : Int) = q := IntWalk.i64_in _ (by omega)
  have hsne : (s.length : Int) ≠ 0 := by omega
  have hsnl : s ≠ [] := fun e => h2 (by rw [e]; rfl)
  have hq0 : (0 : Int) ≤ q := by omega
  have hq1 : (q : Int) < s.length := by omega
  have lbs : bs < w.heap.size := World.block_lt_of_cell? _ _ z0
  clear hqx hv hzl h2
  go_enter Tryd.func27, Tryd.ntmps27
  go_wp2_with fail
  go_ret
  exact ⟨⟨ret_int rfl, HZ.out⟩, rfl⟩
set_option maxHeartbeats 1600000 in
set_option maxRecDepth 100000 in
theorem rheights14_any (l : List Int) (s : List Nat) (L S : Option Addr) (lc sc : Nat) (w : World) (hL : Rd kInt w (.slice L l.length lc) l) (hS : Rd kU32 w (.slice S s.length sc) (zs s)) (hl : l.length ≤ 100000) :
    Calls Tryd.prog 13 #[.slice L l.length lc, .slice S s.length sc] w (LsSaid (l.map (htP s)) w) := by
  have HL := Lib.hid hL
  have HS := Lib.hid hS
  have hl' : (l.length : Int) ≤ 100000 := by omega
  clear hL hS
  go_enter Tryd.func13, Tryd.ntmps13
  go_wp2_with fail
  go_loopw [5, 6] (fun v i wr => ∃ k : Nat, k ≤ l.length ∧ i = .int .i64 k ∧ Ow kInt w.heap.size wr v ((l.take k).map (htP s)) ∧ Ext w wr) (fun _ i _ => l.length - (intOf i).toNat)
  case atStart => exact ⟨0, Nat.zero_le _, rfl, Ow.nil _ _, Ext.refl _⟩
  case round =>
    obtain ⟨k, hk, rfl, hO, hX⟩ := hrel
    have HO := Lib.hid hO
    have HX := Lib.hid hX
    have hk0 : (0 : Int) ≤ k := by omega
    clear hO hX
    by_cases hlt : k < l.length
    · have hlt' : (k : Int) < l.length := by omega
      obtain ⟨bl, ol, rfl, hcl⟩ := (ints_of_rd (HL.out.ext HX.out)).cells (by omega)
      have z0 := hcl k hlt
      have hok : in64 (l.getD k 0) := HL.out.okAt k hlt
      have htk : (l.take (k + 1)).map (htP s) = (l.take k).map (htP s) ++ [htP s (l.getD k 0)] := by rw [ints_take hlt, List.map_append]; rfl
      obtain ⟨x, hx⟩ : ∃ x, l.getD k 0 = x := ⟨_, rfl⟩
      rw [hx] at z0 hok htk
      obtain ⟨A, c, hv, hc⟩ := HO.out.slice
      obtain ⟨fl, hfl⟩ : ∃ fl, (l.take k).map (htP s) = fl := ⟨_, rfl⟩
      have hfln : fl.length = k := by rw [← hfl, List.length_map, List.length_take]; omega
      rw [hfl] at HO htk hv hc
      rw [hfln] at hv hc
      subst hv
      have lbl : bl < wr.heap.size := World.block_lt_of_cell? _ _ z0
      have hzr := HX.out.size
      have HTK := Lib.hid htk
      have HOK := Lib.hid hok
      have HFL := Lib.hid hfln
      clear hcl hx htk hok hfl hfln
      by_cases hneg : 0 ≤ x
      · have hdn : decide (0 ≤ x) = true := decide_eq_true hneg
        have HH : Hid (htP s x = (heightN (wordP s x) : Nat)) := Lib.hid (by unfold htP; rw [if_pos hneg])
        clear hneg
        go_wp2_with fail
        refine (rat01_any s S sc x _ (HS.out.ext HX.out) HOK.out).mono ?_
        rintro ed w1 ⟨⟨rfl, hal⟩, rfl⟩
        obtain ⟨aw, haw⟩ : ∃ aw, wordP s x = aw := ⟨_, rfl⟩
        rw [haw] at hal HH ⊢
        have HAL := Lib.hid hal
        clear haw hal
        go_wp2_with fail
        refine (rheight01_any aw _ HAL.out).mono ?_
        rintro ed w1 ⟨rfl, rfl⟩
        have hb := height_bd aw
        obtain ⟨g, hg⟩ : ∃ g, heightN aw = g := ⟨_, rfl⟩
        rw [hg] at hb HH ⊢
        have HGB : Hid (in64 (g : Int)) := Lib.hid (in64_nat g (by omega))
        clear hg hb
        go_wp2_with (at_builtin; refine kInt.wpList_app (by rfl) (.tmp 26) (.tmp 28) (by rfl) (by rfl) w.heap.size _ fl (by rfl) (HO.out.ext ((Ext.refl _).alloc _)) _ [(g : Int)] (by rfl) (one_at (heap_alloc_new _ _) HGB.out) (by rw [List.length_singleton, HFL.out]; omega) (by simp; omega) ?_; intro v' w9 hown9 hgrow9 hat9)
        have H9 := Lib.hid (And.intro hown9 hgrow9)
        clear hown9 hgrow9 hat9
        try go_wp2_with fail
        go_roundw
        case rel =>
          obtain ⟨hown9, hgrow9⟩ := H9.out
          exact ⟨k + 1, by omega, by go_num, by rw [HTK.out, HH.out]; exact hown9, Ext.grown (HX.out.alloc _) hgrow9 (fun b hb => (HO.out.lt b hb).1)⟩
        case measure => simp [intOf]; omega
      · have hdn : decide (0 ≤ x) = false := decide_eq_false hneg
        have HH : Hid (htP s x = 1) := Lib.hid (by unfold htP; rw [if_neg hneg])
        clear hneg
        go_wp2_with (at_builtin; refine kInt.wpList_app (by rfl) (.tmp 26) (.tmp 28) (by rfl) (by rfl) w.heap.size _ fl (by rfl) (HO.out.ext ((Ext.refl _).alloc _)) _ [(1 : Int)] (by rfl) (one_at (heap_alloc_new _ _) (by decide)) (by rw [List.length_singleton, HFL.out]; omega) (by simp; omega) ?_; intro v' w9 hown9 hgrow9 hat9)
        have H9 := Lib.hid (And.intro hown9 hgrow9)
        clear hown9 hgrow9 hat9
        try go_wp2_with fail
        go_roundw
        case rel =>
          obtain ⟨hown9, hgrow9⟩ := H9.out
          exact ⟨k + 1, by omega, by go_num, by rw [HTK.out, HH.out]; exact hown9, Ext.grown (HX.out.alloc _) hgrow9 (fun b hb => (HO.out.lt b hb).1)⟩
        case measure => simp [intOf]; omega
    · obtain rfl : k = l.length := by omega
      have hT := HO.out
      rw [List.take_length] at hT
      obtain ⟨A, c, hv, hc⟩ := hT.slice
      subst hv
      have HT := Lib.hid hT
      clear hT HO
      go_wp2_with fail
      exact bodyPost_ret (v := .slice A (l.map (htP s)).length c) (by simp [results, Tryd.results13, go_sem]) rfl ⟨A, c, rfl, HT.out, HX.out⟩
end Go.Proofs.YtfkidgpjejcblaaDoor
