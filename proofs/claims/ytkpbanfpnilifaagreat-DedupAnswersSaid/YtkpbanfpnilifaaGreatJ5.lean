/- Joined by wip/merge.py: R7A, R7B, R7C, R7D, S8P, P9P, R10P, R11P, HasW, S8R, S8S, S8T, R11A, TCount, F7B, R10O, R10R, R10S, P9R, R11G, R11E, R11U, R11C, R10T, R10Q, S8C, S8L, R10C, R10E. -/
import Derived.Test.YtkpbanfpnilifaaGreatJ4
import Derived.BigRegion
import Derived.BigQuiet
import Derived.Deep.DeepCutAuto
import Derived.Laws.BitsAllLaws
import Derived.IntWalk
import Derived.Deep.RegionLaw
import Derived.Deep.RegionLawGrows
import Derived.Deep.QuietTactic
import Derived.StillTailTactics
import Derived.Deep.CutBlock
set_option linter.unusedVariables false
set_option linter.unusedSimpArgs false
set_option linter.unnecessarySimpa false
/- The document's Right and Order of a plan (ref07). -/
namespace Go.Proofs.YtkpbanfpnilifaaGreat
open Go.BigFrame
open Go.RowKit Go.Proofs.YtkpbanfpnilifaaGreat.Plain

/-- may a plan be? -/
def Plain.planB (g m : Int) (np : Nat) : Bool := decide (1 ≤ g) && decide (g ≤ 100) && decide (1 ≤ m) && decide (m ≤ 8) && decide (np ≤ 4000)
theorem Plain.planB_iff (g m : Int) (np : Nat) : planB g m np = true ↔ (1 ≤ g ∧ g ≤ 100 ∧ 1 ≤ m ∧ m ≤ 8 ∧ np ≤ 4000) := by
  unfold planB; simp only [Bool.and_eq_true, decide_eq_true_eq]; constructor <;> intro h <;> omega
/-- units as they are done, how many steps, an error -/
def Plain.ordP (n : Nat) (g m : Int) (picks : List (Int × Int)) : List Nat × Nat × Int :=
  if planB g m picks.length = false then ([], 0, 1) else if n = 0 then ([], 0, 0) else
    (orderL (wholeP g.toNat n m.toNat picks).1.ts (wholeP g.toNat n m.toNat picks).2, (wholeP g.toNat n m.toNat picks).2.length, 0)
abbrev planV (g m : Int) (Ap : Option Addr) (np cp : Nat) : Value := .agg #[.int .i64 g, .int .i64 m, .slice Ap np cp]

set_option maxHeartbeats 800000 in
set_option maxRecDepth 100000 in
theorem rright7_any (g m : Int) (Ap : Option Addr) (np cp : Nat) (w : World) (hg : in64 g) (hm : in64 m) (hn : np ≤ 9223372036854775807) :
    Calls Tryz.prog 47 #[planV g m Ap np cp] w fun ed w' => ed = .returned (.bool (planB g m np)) ∧ Ext w w' := by
  unfold in64 at hg hm
  have hE : Ext w (w.alloc (.cells #[.int .i64 g, .int .i64 m, .slice Ap np cp] 25)) := (Ext.refl w).alloc _
  go_enter Tryz.func47, Tryz.ntmps47
  go_upto_region 1 with fail
  have HE := Lib.hid hE
  by_cases h1 : 1 ≤ g
  · by_cases h2 : g ≤ 100
    · by_cases h3 : 1 ≤ m
      · by_cases h4 : m ≤ 8
        · by_cases h5 : (np : Int) ≤ 4000
          · have e : planB g m np = true := by rw [planB_iff]; omega
            go_wp2_with fail
            all_goals go_ret
            all_goals exact ⟨ret_bool (by first | rfl | (rw [e]; done) | (rw [e]; simp; omega)), HE.out⟩
          · have e : planB g m np = false := by
              rw [← Bool.not_eq_true, planB_iff]; omega
            have d5 : decide ((np : Int) ≤ 4000) = false := decide_eq_false h5
            go_wp2_with fail
            all_goals go_ret
            all_goals exact ⟨ret_bool (by first | rfl | (rw [e]; done) | (rw [e]; simp; omega)), HE.out⟩
        · have e : planB g m np = false := by rw [← Bool.not_eq_true, planB_iff]; omega
          have d5 : decide (m ≤ 8) = false := decide_eq_false h4
          go_wp2_with fail
          all_goals go_ret
          all_goals exact ⟨ret_bool (by first | rfl | (rw [e]; done) | (rw [e]; simp; omega)), HE.out⟩
      · have e : planB g m np = false := by rw [← Bool.not_eq_true, planB_iff]; omega
        have d5 : decide (1 ≤ m) = false := decide_eq_false h3
        go_wp2_with fail
        all_goals go_ret
        all_goals exact ⟨ret_bool (by first | rfl | (rw [e]; done) | (rw [e]; simp; omega)), HE.out⟩
    · have e : planB g m np = false := by rw [← Bool.not_eq_true, planB_iff]; omega
      have d5 : decide (g ≤ 100) = false := decide_eq_false h2
      go_wp2_with fail
      all_goals go_ret
      all_goals exact ⟨ret_bool (by first | rfl | (rw [e]; done) | (rw [e]; simp; omega)), HE.out⟩
  · have e : planB g m np = false := by rw [← Bool.not_eq_true, planB_iff]; omega
    have d5 : decide (1 ≤ g) = false := decide_eq_false h1
    go_wp2_with fail
    all_goals go_ret
    all_goals exact ⟨ret_bool (by first | rfl | (rw [e]; done) | (rw [e]; simp; omega)), HE.out⟩

abbrev Plain.rngS (x : Int × Int) : List Nat := List.range' x.1.toNat (x.2.toNat - x.1.toNat)
theorem Plain.leavesL_bd {ts : List Tk} {evs : List Ev} {n : Nat} (h : ∀ k, k < ts.length → 0 ≤ (T ts k).lo ∧ (T ts k).lo ≤ (T ts k).hi ∧ (T ts k).hi ≤ n) (hin : evsIn ts.length evs) : ∀ x ∈ leavesL ts evs, 0 ≤ x.1 ∧ x.1 ≤ x.2 ∧ x.2 ≤ n := by
  intro x hx
  unfold leavesL at hx
  rw [List.mem_flatMap] at hx
  obtain ⟨e, he, hx⟩ := hx
  have h1 := hin e he
  split at hx
  · cases hx
  · rw [List.mem_singleton] at hx
    subst hx
    exact h _ (by omega)
theorem Plain.flat_split (S : List (Int × Int)) (f : Int × Int → List Nat) (j : Nat) (hj : j < S.length) : (S.flatMap f).length = ((S.take j).flatMap f).length + (f (S.getD j (0, 0))).length + ((S.drop (j + 1)).flatMap f).length ∧ (S.take (j + 1)).flatMap f = (S.take j).flatMap f ++ f (S.getD j (0, 0)) := by
  have e : S.getD j (0, 0) = S[j] := by rw [List.getD_eq_getElem?_getD, List.getElem?_eq_getElem hj]; rfl
  constructor
  · conv => lhs; rw [split_at S j hj]
    rw [List.flatMap_append, List.flatMap_cons, List.length_append, List.length_append, e]; omega
  · rw [List.take_succ_eq_append_getElem hj, List.flatMap_append, e]; simp
theorem Rd.spans {w : World} {A : Option Addr} {n c : Nat} {xs : List (Int × Int)} (h : Rd kSpan w (.slice A n c) xs) (hl : 0 < xs.length) : ∃ b off, A = some ⟨b, off, none⟩ ∧ ∀ j, j < xs.length → w.cell? ⟨b, off + j * 2, none⟩ = some (.int .i64 (xs.getD j (0, 0)).1) ∧ w.cell? ⟨b, off + j * 2 + 1, none⟩ = some (.int .i64 (xs.getD j (0, 0)).2) := by
  obtain ⟨b, off, rfl, hcc⟩ := h.cells hl
  exact ⟨b, off, rfl, fun j hj => ⟨by have := hcc j hj 0 _ rfl; simpa [kSpan] using this, by have := hcc j hj 1 _ rfl; simpa [kSpan] using this⟩⟩
/-- what Order leaves -/
def OrdSaid (r : List Nat × Nat × Int) (w : World) (ed : Ending) (w' : World) : Prop :=
  ∃ (L : Option Addr) (l : Nat), ed = .returned (.tuple #[.slice L r.1.length l, .int .i64 r.2.1, .int .i64 r.2.2]) ∧ Ow kInt w.heap.size w' (.slice L r.1.length l) (zs r.1) ∧ Ext w w'

set_option maxHeartbeats 1600000 in
set_option maxRecDepth 100000 in
theorem rorder_any (n : Nat) (g m : Int) (Ap : Option Addr) (cp : Nat) (picks : List (Int × Int)) (w : World) (hp : Rd kPk w (.slice Ap picks.length cp) picks) (n2 : n ≤ 900) (hg : in64 g) (hm : in64 m) :
    Calls Tryz.prog 38 #[.int .i64 n, planV g m Ap picks.length cp] w (OrdSaid (ordP n g m picks) w) := by
  have HP := Lib.hid hp
  have HL : Hid (picks.length ≤ 9223372036854775807) := Lib.hid hp.len
  have HGM := Lib.hid (And.intro hg hm)
  have n3 : (n : Int) ≤ 900 := by omega
  have n0 : (0 : Int) ≤ n := by omega
  clear hp hg hm
  go_enter Tryz.func38, Tryz.ntmps38
  go_wp2_with fail
  refine (rright7_any g m Ap picks.length cp _ HGM.out.1 HGM.out.2 HL.out).mono ?_
  rintro ed w1 ⟨rfl, hE1⟩
  have hb := block_keep (heap_alloc_new w (.cells #[.int .i64 g, .int .i64 m, .slice Ap picks.length cp] 25)) hE1
  have HB := Lib.hid hb
  have HX1 := Lib.hid (((Ext.refl w).alloc _).trans hE1)
  have q0 : w1.cell? ⟨w.heap.size, 0, none⟩ = some (.int .i64 g) := (cell_of_row w1 w.heap.size 0 _ _ _ hb).trans rfl
  have q1 : w1.cell? ⟨w.heap.size, 1, none⟩ = some (.int .i64 m) := (cell_of_row w1 w.heap.size 1 _ _ _ hb).trans rfl
  have q2 : w1.cell? ⟨w.heap.size, 2, none⟩ = some (.slice Ap picks.length cp) := (cell_of_row w1 w.heap.size 2 _ _ _ hb).trans rfl
  clear hb hE1
  cases hok : planB g m picks.length with
  | false =>
    have e : ordP n g m picks = ([], 0, 1) := by unfold ordP; rw [if_pos hok]
    have HEE := Lib.hid e
    clear e hok
    go_wp2_with fail
    exact bodyPost_ret (v := .tuple #[.slice none 0 0, .int .i64 0, .int .i64 1]) (by simp [results, Tryz.results38, go_sem]) rfl (by rw [HEE.out]; exact ⟨none, 0, rfl, Ow.nil _ _, HX1.out⟩)
  | true =>
    obtain ⟨p1, p2, p3, p4, p5⟩ := (planB_iff _ _ _).1 hok
    obtain ⟨G, rfl⟩ : ∃ G : Nat, g = G := ⟨g.toNat, by omega⟩
    obtain ⟨M, rfl⟩ : ∃ M : Nat, m = M := ⟨m.toNat, by omega⟩
    by_cases hz : n = 0
    · subst hz
      have e : ordP 0 G M picks = ([], 0, 0) := by unfold ordP; rw [if_neg (by rw [hok]; decide), if_pos rfl]
      have HEE := Lib.hid e
      clear e hok
      go_wp2_with fail
      exact bodyPost_ret (v := .tuple #[.slice none 0 0, .int .i64 0, .int .i64 0]) (by simp [results, Tryz.results38, go_sem]) rfl (by rw [HEE.out]; exact ⟨none, 0, rfl, Ow.nil _ _, HX1.out⟩)
    · have e : ordP n G M picks = (orderL (wholeP G n M picks).1.ts (wholeP G n M picks).2, (wholeP G n M picks).2.length, 0) := by unfold ordP; rw [if_neg (by rw [hok]; decide), if_neg hz]; rfl
      have hne : ((n : Int) == 0) = false := by simp; omega
      obtain ⟨we1, we2, we3, we4⟩ := whole_ends (g := G) (n := n) (m := M) (by omega) (by omega) (by omega) picks
      have hin := we2.ins
      obtain ⟨dn, hI⟩ := we2.inv
      have hcn := (hI.counts (by omega) (by omega)).2.2.1
      have hevl : (wholeP G n M picks).2.length ≤ 60000 := by
        have h2 : M * (cntT n G + 1) ≤ 8 * 1801 := Nat.mul_le_mul (by omega) (by omega)
        omega
      have hbd : ∀ k, k < (wholeP G n M picks).1.ts.length → 0 ≤ (T (wholeP G n M picks).1.ts k).lo ∧ (T (wholeP G n M picks).1.ts k).lo ≤ (T (wholeP G n M picks).1.ts k).hi ∧ (T (wholeP G n M picks).1.ts k).hi ≤ n := fun k hk => by
        have ht := (CrI.inv hI).task k hk
        omega
      have hol : (orderL (wholeP G n M picks).1.ts (wholeP G n M picks).2).length = n := by rw [we4.length_eq, List.length_range]
      obtain ⟨⟨c, evs⟩, hW⟩ : ∃ x, wholeP G n M picks = x := ⟨_, rfl⟩
      rw [hW] at hin hevl hbd hol e
      simp only at hin hevl hbd hol e
      rw [order_leaves] at hol e
      have hsb : ∀ x ∈ leavesL c.ts evs, 0 ≤ x.1 ∧ x.1 ≤ x.2 ∧ x.2 ≤ n := leavesL_bd hbd hin
      have hsl : (leavesL c.ts evs).length ≤ 60000 := Nat.le_trans (leavesL_len _ _) hevl
      have HEE := Lib.hid e
      have HOL := Lib.hid hol
      have HSB := Lib.hid hsb
      have HIN := Lib.hid hin
      have HEV := Lib.hid hevl
      have HSL := Lib.hid hsl
      have HWW := Lib.hid hW
      have hGn : (0 : Int) ≤ G := by omega
      clear e hok we1 we2 we3 we4 hI hcn hW hin hevl hbd hol hsb hsl
      go_wp2_with fail
      refine (rwhole_any n G M Ap cp picks w1 (HP.out.ext HX1.out) (by omega) n2 (by omega) (by omega) (by omega) (by omega) p5).mono ?_
      rw [HWW.out]
      rintro ed w2 ⟨A1, B1, L1, e0, o1, a1, b1, e1, l1, hme, rfl, hC, hO, hE2⟩
      simp only at hC hO ⊢
      have HC := Lib.hid hC
      have HO := Lib.hid hO
      have HX2 := Lib.hid (HX1.out.trans hE2)
      clear hC hO hE2 q0 q1 q2
      go_wp2_with fail
      refine (rleaves_any A1 B1 L1 e0 o1 a1 b1 e1 G M l1 c evs _ (HC.out.ext ((Ext.refl _).alloc _)) (HO.out.rd.ext ((Ext.refl _).alloc _)) (by have := HEV.out; omega) HIN.out).mono ?_
      rintro ed w3 ⟨vs, rfl, hS, hE3⟩
      obtain ⟨S, hSS⟩ : ∃ S, leavesL c.ts evs = S := ⟨_, rfl⟩
      rw [hSS] at hS HEE HOL HSB HSL
      obtain ⟨Ls, ls, hv, hls⟩ := hS.slice
      subst hv
      have HS := Lib.hid hS.rd
      have HX3 := Lib.hid ((HX2.out.alloc _).trans hE3)
      have hsl' : (S.length : Int) ≤ 60000 := by have := HSL.out; omega
      clear hS hE3 hls
      go_wp2_with fail
      go_loopw [10, 12] (fun v i wr => ∃ j : Nat, j ≤ S.length ∧ i = .int .i64 j ∧ Ow kInt w3.heap.size wr v (zs ((S.take j).flatMap rngS)) ∧ Ext w3 wr) (fun _ i _ => S.length - (intOf i).toNat)
      case atStart => exact ⟨0, Nat.zero_le _, rfl, Ow.nil _ _, Ext.refl _⟩
      case round =>
        obtain ⟨j, hj, rfl, hO, hX⟩ := hrel
        have HO5 := Lib.hid hO
        have HX5 := Lib.hid hX
        have hj0 : (0 : Int) ≤ j := by omega
        clear hO hX
        by_cases hlt : j < S.length
        · have hlt' : (j : Int) < S.length := by omega
          obtain ⟨bs, os, rfl, hcs⟩ := Rd.spans HS.out (by omega)
          obtain ⟨z0, z1⟩ := hcs j hlt
          have hmem : S.getD j (0, 0) ∈ S := by rw [List.getD_eq_getElem?_getD, List.getElem?_eq_getElem hlt]; exact List.getElem_mem hlt
          obtain ⟨fl1, fl2⟩ := flat_split S rngS j hlt
          obtain ⟨b1', b2', b3'⟩ := HSB.out _ hmem
          obtain ⟨⟨lo, hi⟩, hlh⟩ : ∃ x, S.getD j (0, 0) = x := ⟨_, rfl⟩
          rw [hlh] at z0 z1 fl1 fl2 b1' b2' b3'
          simp only at z0 z1 b1' b2' b3'
          obtain ⟨Lo, rfl⟩ : ∃ x : Nat, lo = x := ⟨lo.toNat, by omega⟩
          obtain ⟨Hi, rfl⟩ : ∃ x : Nat, hi = x := ⟨hi.toNat, by omega⟩
          have hpre : ((S.take j).flatMap rngS).length + (Hi - Lo) ≤ 900 := by
            have h9 := HOL.out
            change (S.flatMap rngS).length = n at h9
            have e9 : (rngS ((Lo : Int), (Hi : Int))).length = Hi - Lo := by simp [rngS]
            omega
          have HFL := Lib.hid fl2
          have HPRE := Lib.hid hpre
          have lbs : bs < w3.heap.size := World.block_lt_of_cell? _ _ z0
          have HZ1 := Lib.hid z1
          replace z0 := HX5.out.cell z0
          replace z1 := HX5.out.cell z1
          have hll : Lo ≤ Hi := by omega
          have hhi : (Hi : Int) ≤ 900 := by omega
          clear hcs hmem fl1 fl2 hlh hpre
          go_wp2_with fail
          go_loopw [10, 13] (fun v i wr' => ∃ u : Nat, Lo ≤ u ∧ u ≤ Hi ∧ i = .int .i64 u ∧ Ow kInt w3.heap.size wr' v (zs ((S.take j).flatMap rngS ++ List.range' Lo (u - Lo))) ∧ Ext w3 wr') (fun _ i _ => Hi - (intOf i).toNat)
          case atStart => exact ⟨Lo, Nat.le_refl _, hll, rfl, by simpa using HO5.out, HX5.out⟩
          case round =>
            obtain ⟨u, hu1, hu2, rfl, hO, hX⟩ := hrel
            have z1 := hX.cell HZ1.out
            have HO6 := Lib.hid hO
            have HX6 := Lib.hid hX
            have hu0 : (0 : Int) ≤ u := by omega
            clear hO hX
            by_cases hul : u < Hi
            · have hul' : (u : Int) < Hi := by omega
              have HY : ∀ w6 : World, Rd kInt (w6.alloc (.cells #[.int .i64 u] 3)) (.slice (some ⟨w6.heap.size, 0, none⟩) 1 1) [(u : Int)] := fun w6 => Ow.rd (K := kInt) (B := 0) (Ow.lit (K := kInt) (p := w6.heap.size) (n := 1) w6 [(u : Int)] #[.int .i64 u] rfl rfl rfl (Nat.zero_le _) (by simp [maxLen]) (by intro x hx; simp only [List.mem_singleton] at hx; subst hx; exact in64_nat u (by omega)))
              have HYY := Lib.hid HY
              have HLL : Hid ((zs ((S.take j).flatMap rngS ++ List.range' Lo (u - Lo))).length + [(u : Int)].length ≤ 1048576) := Lib.hid (by have := HPRE.out; rw [zs_len, List.length_append, List.length_range', List.length_singleton]; omega)
              have hz6 := HX6.out.size
              clear HY
              go_wp2_with (at_builtin; refine kInt.wpList_app (by rfl) (.tmp 65) (.tmp 67) (by rfl) (by rfl) w3.heap.size _ (zs ((S.take j).flatMap rngS ++ List.range' Lo (u - Lo))) (by rfl) (HO6.out.ext ((Ext.refl _).alloc _)) _ [(u : Int)] (by rfl) (HYY.out _) HLL.out (by simp; omega) ?_; intro v' w8 hown8 hgrow8 hat8)
              have H8 := Lib.hid (And.intro hown8 (And.intro hgrow8 hat8))
              clear hown8 hgrow8 hat8
              go_roundw
              case rel =>
                obtain ⟨hown8, hgrow8, hat8⟩ := H8.out
                refine ⟨u + 1, by omega, by omega, by go_num, ?_, ?_⟩
                · rw [show u + 1 - Lo = (u - Lo) + 1 by omega, List.range'_1_concat, show Lo + (u - Lo) = u by omega, ← List.append_assoc, zs_app]
                  exact hown8
                · exact Ext.grown (HX6.out.alloc _) hgrow8 (fun x hx => (HO6.out.lt x hx).1)
              case measure => simp [intOf]; omega
            · obtain rfl : u = Hi := by omega
              go_wp2_with fail
              go_roundw
              case rel => exact ⟨j + 1, by omega, by go_num, by rw [HFL.out]; exact HO6.out, HX6.out⟩
              case measure => simp [intOf]; omega
        · obtain rfl : j = S.length := by omega
          rw [List.take_length] at HO5
          have HXX := Lib.hid (HX3.out.trans HX5.out)
          have hzz := HX3.out.size
          obtain ⟨Lz, lz, hv, hlz⟩ := HO5.out.slice
          subst hv
          go_wp2_with fail
          refine bodyPost_ret (v := .tuple #[.slice Lz (zs (S.flatMap rngS)).length lz, .int .i64 evs.length, .int .i64 0]) (by simp [results, Tryz.results38, go_sem]) rfl (by rw [HEE.out]; exact ⟨Lz, lz, by rw [zs_len], by have := HO5.out.mono (B' := w.heap.size) (by omega); rw [zs_len] at this; exact this, HXX.out⟩)
end Go.Proofs.YtkpbanfpnilifaaGreat

/- The document's One (ref07): what is done to a cell. -/
namespace Go.Proofs.YtkpbanfpnilifaaGreat
open Go.BigFrame
open Go.RowKit Go.Proofs.YtkpbanfpnilifaaGreat.Plain

end Go.Proofs.YtkpbanfpnilifaaGreat

/- The document's Words and Fill (ref07). -/
namespace Go.Proofs.YtkpbanfpnilifaaGreat
open Go.BigFrame
open Go.RowKit Go.Proofs.YtkpbanfpnilifaaGreat.Plain

theorem Plain.ordP_err (n : Nat) (g m : Int) (picks : List (Int × Int)) : (ordP n g m picks).2.2 = 0 ∨ (ordP n g m picks).2.2 = 1 := by
  unfold ordP
  split
  · exact .inr rfl
  · split
    · exact .inl rfl
    · exact .inl rfl
/-- words, a number, an error -/
def WordsSaid (r : List Nat × Nat × Int) (w : World) (ed : Ending) (w' : World) : Prop :=
  ∃ (L : Option Addr) (l : Nat), ed = .returned (.tuple #[.slice L r.1.length l, .int .i64 r.2.1, .int .i64 r.2.2]) ∧ Ow kU32 w.heap.size w' (.slice L r.1.length l) (zs r.1) ∧ Ext w w'
end Go.Proofs.YtkpbanfpnilifaaGreat

/- The document's Zip (ref07). -/
namespace Go.Proofs.YtkpbanfpnilifaaGreat
open Go.BigFrame
open Go.RowKit Go.Proofs.YtkpbanfpnilifaaGreat.Plain

end Go.Proofs.YtkpbanfpnilifaaGreat

/- Plain words of scans: sums of all ahead, the highest, blocks. No program in it. -/
namespace Go.Proofs.YtkpbanfpnilifaaGreat.Plain

/-- the sum, cut to 32 bits -/
def totW (l : List Nat) : Nat := l.sum % 4294967296
theorem totW_lt (l : List Nat) : totW l < 4294967296 := Nat.mod_lt _ (by decide)
theorem totW_snoc (l : List Nat) (x : Nat) : totW (l ++ [x]) = (totW l + x) % 4294967296 := by unfold totW; rw [List.sum_append]; simp
def sumsW (l : List Nat) : List Nat := byN l.length (fun i => totW (l.take i))
def blocksP (n : Nat) (b : Int) : Nat := if n ≤ 1000 ∧ 1 ≤ b ∧ b ≤ 100 then (n + b.toNat - 1) / b.toNat else 0
theorem blocksP_le (n : Nat) (b : Int) : blocksP n b ≤ n := by
  unfold blocksP
  split
  · rename_i h
    obtain ⟨B, rfl⟩ : ∃ B : Nat, b = B := ⟨b.toNat, by omega⟩
    rw [Int.toNat_natCast]
    have hB : 1 ≤ B := by omega
    rcases Nat.eq_zero_or_pos n with h0 | h0
    · subst h0
      rw [Nat.div_eq_of_lt (by omega)]; exact Nat.zero_le _
    · apply Nat.div_le_of_le_mul
      have h1 : 1 * (n - 1) ≤ B * (n - 1) := Nat.mul_le_mul_right _ hB
      have h2 : B * n = B * (n - 1) + B := by
        conv => lhs; rw [show n = (n - 1) + 1 by omega]
        rw [Nat.mul_add, Nat.mul_one]
      omega
  · exact Nat.zero_le _
/-- how many steps, an error -/
def stepsP (n : Nat) (b g m : Int) (picks : List (Int × Int)) : Nat × Int :=
  if ¬ (1 ≤ b ∧ b ≤ 100) then (0, 1) else if (ordP n g m picks).2.2 ≠ 0 then (0, (ordP n g m picks).2.2) else (2 * (ordP (blocksP n b) g m picks).2.1, 0)
def sumsP (l : List Nat) (b g m : Int) (picks : List (Int × Int)) : List Nat × Nat × Nat × Int :=
  if (stepsP l.length b g m picks).2 ≠ 0 then ([], 0, 0, (stepsP l.length b g m picks).2) else (sumsW l, totW l, (stepsP l.length b g m picks).1, 0)
/-- an order's error is the plan's -/
theorem ordP_err_any (n k : Nat) (g m : Int) (picks : List (Int × Int)) (h : (ordP n g m picks).2.2 = 0) : (ordP k g m picks).2.2 = 0 := by
  unfold ordP at h ⊢
  by_cases hb : planB g m picks.length = false
  · rw [if_pos hb] at h; cases h
  · rw [if_neg hb]
    split <;> rfl
theorem ordP_steps (n : Nat) (g m : Int) (picks : List (Int × Int)) (hn : n ≤ 900) : (ordP n g m picks).2.1 ≤ picks.length + 16008 := by
  rcases ordP_err n g m picks with h | h
  · obtain ⟨⟨os, st, er⟩, hr⟩ : ∃ x, ordP n g m picks = x := ⟨_, rfl⟩
    rw [hr] at h ⊢
    simp only at h ⊢
    subst h
    unfold ordP at hr
    split at hr
    · simp at hr
    · rename_i hb
      have hb' : planB g m picks.length = true := by simpa using hb
      obtain ⟨h1, h2, h3, h4, h5⟩ := (planB_iff _ _ _).1 hb'
      split at hr
      · simp at hr; omega
      · rename_i hz
        simp only [Prod.mk.injEq] at hr
        obtain ⟨_, rfl, _⟩ := hr
        obtain ⟨w1, w2, w3, w4⟩ := whole_ends (g := g.toNat) (n := n) (m := m.toNat) (by omega) (by omega) (by omega) picks
        have h9 : cntT n g.toNat ≤ 2000 := (count_ok n g.toNat (by omega) (by omega) (by omega) (by omega)).2.2.1
        have h8 : m.toNat * (cntT n g.toNat + 1) ≤ 8 * 2001 := Nat.mul_le_mul (by omega) (by omega)
        omega
  · unfold ordP at h ⊢
    split
    · exact Nat.zero_le _
    · split
      · exact Nat.zero_le _
      · rename_i h1 h2
        rw [if_neg h1, if_neg h2] at h; cases h
theorem stepsP_err (n : Nat) (b g m : Int) (picks : List (Int × Int)) : (stepsP n b g m picks).2 = 0 ∨ (stepsP n b g m picks).2 = 1 := by
  unfold stepsP
  split
  · exact .inr rfl
  · split
    · exact ordP_err _ _ _ _
    · exact .inl rfl
end Go.Proofs.YtkpbanfpnilifaaGreat.Plain

/- Plain words of packing: what is kept, where, and spread again. No program in it. -/
namespace Go.Proofs.YtkpbanfpnilifaaGreat.Plain

/-- places below n that are kept -/
def whereF (keep : List Bool) (n : Nat) : List Nat := (List.range n).filter (kept keep)
def whereL (keep : List Bool) : List Nat := whereF keep keep.length
theorem whereF_succ (keep : List Bool) (n : Nat) : whereF keep (n + 1) = whereF keep n ++ (if kept keep n = true then [n] else []) := by
  unfold whereF
  rw [List.range_succ, List.filter_append]
  congr 1
  by_cases h : kept keep n = true
  · rw [if_pos h, List.filter_cons_of_pos h]; rfl
  · rw [if_neg h, List.filter_cons_of_neg h]; rfl
theorem whereF_len (keep : List Bool) (n : Nat) : (whereF keep n).length ≤ n := by
  unfold whereF
  have := List.length_filter_le (kept keep) (List.range n)
  rw [List.length_range] at this; exact this
theorem whereF_mem (keep : List Bool) (n i : Nat) : i ∈ whereF keep n ↔ i < n ∧ kept keep i = true := by unfold whereF; rw [List.mem_filter, List.mem_range]
def rank (keep : List Bool) (i : Nat) : Nat := (whereF keep i).length
theorem rank_succ (keep : List Bool) (i : Nat) : rank keep (i + 1) = rank keep i + (if kept keep i = true then 1 else 0) := by
  unfold rank
  rw [whereF_succ, List.length_append]
  split <;> rfl
theorem rank_le (keep : List Bool) : ∀ (i j : Nat), i ≤ j → rank keep i ≤ rank keep j := by
  intro i j h
  induction j with
  | zero => obtain rfl : i = 0 := by omega
            exact Nat.le_refl _
  | succ j ih =>
    by_cases e : i = j + 1
    · subst e; exact Nat.le_refl _
    · have := ih (by omega)
      rw [rank_succ]; omega
theorem where_rank (keep : List Bool) : ∀ n, (whereF keep n).map (rank keep) = List.range (rank keep n)
  | 0 => rfl
  | n + 1 => by
    rw [whereF_succ, List.map_append, where_rank keep n, rank_succ]
    by_cases h : kept keep n = true
    · rw [if_pos h, if_pos h, List.range_succ]; rfl
    · rw [if_neg h, if_neg h]; simp
theorem where_at (keep : List Bool) (i : Nat) (hk : kept keep i = true) : ∀ n, i < n → (whereF keep n).getD (rank keep i) 0 = i
  | 0, h => by omega
  | n + 1, h => by
    rw [whereF_succ]
    by_cases e : i = n
    · subst e
      rw [if_pos hk]
      show (whereF keep i ++ [i]).getD (whereF keep i).length 0 = i
      rw [List.getD_eq_getElem?_getD, List.getElem?_append_right (Nat.le_refl _)]
      simp
    · have ih := where_at keep i hk n (by omega)
      have hlt : rank keep i < (whereF keep n).length := by
        have h1 := rank_succ keep i
        rw [if_pos hk] at h1
        have h2 := rank_le keep (i + 1) n (by omega)
        show rank keep i < rank keep n
        omega
      rw [List.getD_eq_getElem?_getD, List.getElem?_append_left hlt, ← List.getD_eq_getElem?_getD]
      exact ih
theorem where_in (keep : List Bool) (n i : Nat) (h : i < (whereF keep n).length) : (whereF keep n).getD i 0 < n ∧ kept keep ((whereF keep n).getD i 0) = true := by
  have hm : (whereF keep n).getD i 0 ∈ whereF keep n := by
    rw [List.getD_eq_getElem?_getD, List.getElem?_eq_getElem h]; exact List.getElem_mem h
  exact (whereF_mem _ _ _).1 hm
/-- places, steps, an error -/
def whereP (keep : List Bool) (b g m : Int) (picks : List (Int × Int)) : List Nat × Nat × Int :=
  if (stepsP keep.length b g m picks).2 ≠ 0 then ([], 0, (stepsP keep.length b g m picks).2) else (whereL keep, (stepsP keep.length b g m picks).1 + (ordP keep.length g m picks).2.1, 0)
/-- without an error: so many steps at most -/
theorem stepsP_bd (n : Nat) (b g m : Int) (picks : List (Int × Int)) (hn : n ≤ 900) (h : (stepsP n b g m picks).2 = 0) : (stepsP n b g m picks).1 ≤ 60000 ∧ (ordP n g m picks).2.2 = 0 ∧ (ordP n g m picks).2.1 ≤ 30000 := by
  unfold stepsP at h ⊢
  split at h
  · cases h
  · rename_i h1
    rw [if_neg h1]
    split at h
    · rename_i h2; exact absurd h h2
    · rename_i h2
      rw [if_neg h2]
      have h3 : (ordP n g m picks).2.2 = 0 := by simpa using h2
      have h4 : picks.length ≤ 4000 := by
        unfold ordP at h3
        by_cases hb : planB g m picks.length = false
        · rw [if_pos hb] at h3; cases h3
        · exact ((planB_iff _ _ _).1 (by simpa using hb)).2.2.2.2
      have h5 := ordP_steps n g m picks hn
      have h6 := ordP_steps (blocksP n b) g m picks (Nat.le_trans (blocksP_le n b) hn)
      refine ⟨?_, h3, by omega⟩
      show 2 * (ordP (blocksP n b) g m picks).2.1 ≤ 60000
      omega
end Go.Proofs.YtkpbanfpnilifaaGreat.Plain

/- Plain words of sorting: digits, a pass, all passes, the order of the keys. No program in it. -/
namespace Go.Proofs.YtkpbanfpnilifaaGreat.Plain
/-- how many digits there are -/
def passesP (b : Int) : Nat := if b < 1 ∨ 16 < b then 0 else (31 + b.toNat) / b.toNat
/-- a key's digit -/
def digitP (key : Nat) (p b : Int) : Nat := if p < 0 ∨ (passesP b : Int) ≤ p then 0 else key / 2 ^ (p.toNat * b.toNat) % 2 ^ b.toNat
/-- from the end on back, to behind the first one that isn't more -/
def backTo (f : Nat → Nat) (out : List Nat) (x : Nat) : Nat → Nat
  | 0 => 0
  | k + 1 => if f x < f (out.getD k 0) then backTo f out x k else k + 1
theorem backTo_le (f : Nat → Nat) (out : List Nat) (x : Nat) : ∀ k, backTo f out x k ≤ k
  | 0 => Nat.le_refl _
  | k + 1 => by
    unfold backTo
    split
    · exact Nat.le_succ_of_le (backTo_le f out x k)
    · exact Nat.le_refl _
/-- all behind it are more; the one ahead isn't -/
theorem backTo_more (f : Nat → Nat) (out : List Nat) (x : Nat) : ∀ k j, backTo f out x k ≤ j → j < k → f x < f (out.getD j 0)
  | 0, j, _, h => by omega
  | k + 1, j, h1, h2 => by
    unfold backTo at h1
    split at h1
    · rename_i h
      rcases Nat.lt_or_ge j k with h3 | h3
      · exact backTo_more f out x k j h1 h3
      · obtain rfl : j = k := by omega
        exact h
    · omega
theorem backTo_last (f : Nat → Nat) (out : List Nat) (x : Nat) : ∀ k, 0 < backTo f out x k → f (out.getD (backTo f out x k - 1) 0) ≤ f x
  | 0, h => by simp [backTo] at h
  | k + 1, h => by
    unfold backTo at h ⊢
    split at h
    · rename_i h1
      rw [if_pos h1]
      exact backTo_last f out x k h
    · rename_i h1
      rw [if_neg h1, Nat.add_sub_cancel]
      omega
/-- each behind all that have no more -/
def insP (f : Nat → Nat) (out : List Nat) (x : Nat) : List Nat := out.take (backTo f out x out.length) ++ [x] ++ out.drop (backTo f out x out.length)
def insAll (f : Nat → Nat) (l : List Nat) : List Nat := l.foldl (insP f) []
theorem insP_len (f : Nat → Nat) (out : List Nat) (x : Nat) : (insP f out x).length = out.length + 1 := by
  have := backTo_le f out x out.length
  unfold insP
  simp only [List.length_append, List.length_take, List.length_drop, List.length_singleton]; omega
theorem insP_perm (f : Nat → Nat) (out : List Nat) (x : Nat) : (insP f out x).Perm (out ++ [x]) := by
  unfold insP
  rw [List.append_assoc]
  refine (List.perm_middle (l₁ := out.take (backTo f out x out.length)) (l₂ := out.drop (backTo f out x out.length)) (a := x)).trans ?_
  rw [List.take_append_drop]
  exact (List.perm_append_comm (l₁ := [x]) (l₂ := out))
theorem insAll_snoc (f : Nat → Nat) (l : List Nat) (x : Nat) : insAll f (l ++ [x]) = insP f (insAll f l) x := by unfold insAll; rw [List.foldl_append]; rfl
theorem list_snoc {α : Type} (l : List α) (h : l ≠ []) : ∃ m x, l = m ++ [x] := ⟨l.dropLast, l.getLast h, (List.dropLast_concat_getLast h).symm⟩
/-- what is first by f, then as it stood -/
abbrev byF (f : Nat → Nat) (R : Nat → Nat → Prop) (a b : Nat) : Prop := f a < f b ∨ f a = f b ∧ R a b
theorem insAll_good (f : Nat → Nat) (R : Nat → Nat → Prop) : ∀ (n : Nat) (l : List Nat), l.length = n → l.Pairwise R → (insAll f l).Perm l ∧ (insAll f l).Pairwise (byF f R) := by
  intro n
  induction n with
  | zero =>
    intro l hl _
    obtain rfl : l = [] := List.eq_nil_of_length_eq_zero hl
    exact ⟨List.Perm.refl _, List.Pairwise.nil⟩
  | succ n ih =>
    intro l hl hp
    obtain ⟨m, x, rfl⟩ := list_snoc l (by intro h; subst h; simp at hl)
    rw [List.length_append, List.length_singleton] at hl
    rw [List.pairwise_append] at hp
    obtain ⟨hp1, _, hp3⟩ := hp
    obtain ⟨h1, h2⟩ := ih m (by omega) hp1
    rw [insAll_snoc]
    refine ⟨(insP_perm _ _ _).trans (h1.append_right _), ?_⟩
    obtain ⟨out, ho⟩ : ∃ o, insAll f m = o := ⟨_, rfl⟩
    rw [ho] at h1 h2 ⊢
    obtain ⟨k, hk⟩ : ∃ k, backTo f out x out.length = k := ⟨_, rfl⟩
    have hle := backTo_le f out x out.length
    have hmore := backTo_more f out x out.length
    have hlast := backTo_last f out x out.length
    unfold insP
    rw [hk] at hle hmore hlast ⊢
    have hR : ∀ y ∈ out, R y x := fun y hy => hp3 y (h1.mem_iff.1 hy) x (by simp)
    have h2' := h2
    rw [List.pairwise_iff_getElem] at h2'
    have hbefore : ∀ y ∈ out.take k, byF f R y x := by
      intro y hy
      refine (Nat.lt_or_ge (f y) (f x)).elim .inl fun h9 => .inr ⟨?_, hR y (List.mem_of_mem_take hy)⟩
      obtain ⟨j, hj, rfl⟩ := List.getElem_of_mem hy
      rw [List.length_take] at hj
      rw [List.getElem_take] at h9 ⊢
      have hl2 := hlast (by omega)
      rw [List.getD_eq_getElem?_getD, List.getElem?_eq_getElem (by omega), Option.getD_some] at hl2
      rcases Nat.lt_or_ge j (k - 1) with h8 | h8
      · rcases h2' j (k - 1) (by omega) (by omega) h8 with h7 | h7 <;> omega
      · have e : j = k - 1 := by omega
        subst e; omega
    have hafter : ∀ y ∈ out.drop k, byF f R x y := by
      intro y hy
      obtain ⟨j, hj, rfl⟩ := List.getElem_of_mem hy
      rw [List.length_drop] at hj
      rw [List.getElem_drop]
      have h9 := hmore (k + j) (by omega) (by omega)
      rw [List.getD_eq_getElem?_getD, List.getElem?_eq_getElem (by omega), Option.getD_some] at h9
      exact .inl h9
    have hcross : ∀ a ∈ out.take k, ∀ b ∈ out.drop k, byF f R a b := by
      have := h2
      rw [← List.take_append_drop k out, List.pairwise_append] at this
      exact this.2.2
    rw [List.pairwise_append, List.pairwise_append]
    refine ⟨⟨h2.sublist (List.take_sublist _ _), List.pairwise_singleton _ _, fun a ha b hb => by rw [List.mem_singleton] at hb; subst hb; exact hbefore a ha⟩, h2.sublist (List.drop_sublist _ _), fun a ha b hb => ?_⟩
    rcases List.mem_append.1 ha with h | h
    · exact hcross a h b hb
    · rw [List.mem_singleton] at h; subst h; exact hafter b hb
/-- one list alone is so -/
theorem byF_one {R : Nat → Nat → Prop} (hR : ∀ a b, R a b → ¬ R b a) {l m : List Nat} (h : l.Pairwise R) (k : m.Pairwise R) (hp : l.Perm m) : l = m :=
  hp.eq_of_pairwise (fun a b _ _ h1 h2 => absurd h2 (hR a b h1)) h k
/-- the order of all keys -/
def sortL (keys : List Nat) : List Nat := insAll (fun i => keys.getD i 0) (List.range keys.length)
def passL (keys order : List Nat) (p b : Int) : List Nat := insAll (fun i => digitP (keys.getD i 0) p b) order
def passesL (keys : List Nat) (b : Int) : Nat → List Nat
  | 0 => List.range keys.length
  | p + 1 => passL keys (passesL keys b p) (p : Nat) b
theorem mod_both (x y m d : Nat) (_hd : 0 < d) : x % (m * d) < y % (m * d) ↔ (x / m % d < y / m % d ∨ x / m % d = y / m % d ∧ x % m < y % m) := by
  rcases Nat.eq_zero_or_pos m with h0 | h0
  · subst h0; simp
  have e : ∀ z, z % (m * d) = m * (z / m % d) + z % m := fun z => by rw [Nat.mod_mul]; omega
  rw [e x, e y]
  have h1 := Nat.mod_lt x h0
  have h2 := Nat.mod_lt y h0
  obtain ⟨a, ha⟩ : ∃ a, x / m % d = a := ⟨_, rfl⟩
  obtain ⟨c, hc⟩ : ∃ c, y / m % d = c := ⟨_, rfl⟩
  rw [ha, hc]
  rcases Nat.lt_trichotomy a c with h | h | h
  · have : m * (a + 1) ≤ m * c := Nat.mul_le_mul_left _ h
    rw [Nat.mul_add, Nat.mul_one] at this
    constructor
    · intro _; exact .inl h
    · intro _; omega
  · subst h; constructor
    · intro h9; exact .inr ⟨rfl, by omega⟩
    · rintro (h9 | ⟨_, h9⟩) <;> omega
  · have : m * (c + 1) ≤ m * a := Nat.mul_le_mul_left _ h
    rw [Nat.mul_add, Nat.mul_one] at this
    constructor
    · intro h9; omega
    · rintro (h9 | ⟨h9, _⟩) <;> omega
theorem mod_same (x y m d : Nat) : x % (m * d) = y % (m * d) ↔ (x / m % d = y / m % d ∧ x % m = y % m) := by
  have e : ∀ z, z % (m * d) = m * (z / m % d) + z % m := fun z => by rw [Nat.mod_mul]; omega
  constructor
  · intro h
    refine ⟨?_, ?_⟩
    · have h1 : x % (m * d) / m = y % (m * d) / m := by rw [h]
      rw [Nat.mod_mul_right_div_self, Nat.mod_mul_right_div_self] at h1
      exact h1
    · have h1 : x % (m * d) % m = y % (m * d) % m := by rw [h]
      rw [Nat.mod_mul_right_mod, Nat.mod_mul_right_mod] at h1
      exact h1
  · rintro ⟨h1, h2⟩; rw [e, e, h1, h2]
abbrev byM (keys : List Nat) (M : Nat) (a b : Nat) : Prop := keys.getD a 0 % M < keys.getD b 0 % M ∨ keys.getD a 0 % M = keys.getD b 0 % M ∧ a < b
theorem passesL_good (keys : List Nat) (b : Nat) (h1 : 1 ≤ b) (h2 : b ≤ 16) : ∀ p, p ≤ passesP b → (passesL keys b p).Perm (List.range keys.length) ∧ (passesL keys b p).Pairwise (byM keys (2 ^ (p * b)))
  | 0, _ => by
    refine ⟨List.Perm.refl _, ?_⟩
    show (List.range keys.length).Pairwise _
    refine (List.pairwise_lt_range (n := keys.length)).imp fun {a c} h => .inr ⟨?_, h⟩
    rw [Nat.zero_mul, Nat.pow_zero, Nat.mod_one, Nat.mod_one]
  | p + 1, h => by
    obtain ⟨h3, h4⟩ := passesL_good keys b h1 h2 p (by omega)
    obtain ⟨h5, h6⟩ := insAll_good (fun i => digitP (keys.getD i 0) (p : Nat) b) _ _ _ rfl h4
    refine ⟨h5.trans h3, h6.imp fun {a c} h7 => ?_⟩
    have e : ∀ k, digitP k (p : Nat) b = k / 2 ^ (p * b) % 2 ^ b := fun k => by
      unfold digitP
      rw [if_neg (by omega)]; simp
    have em : 2 ^ ((p + 1) * b) = 2 ^ (p * b) * 2 ^ b := by rw [Nat.add_mul, Nat.one_mul, Nat.pow_add]
    unfold byF at h7
    simp only [e] at h7
    unfold byM
    rw [em, mod_both _ _ _ _ (Nat.two_pow_pos b), mod_same]
    unfold byM at h7
    omega
theorem passesP_enough (b : Nat) (h1 : 1 ≤ b) (h2 : b ≤ 16) : 32 ≤ passesP b * b ∧ (passesP b - 1) * b < 32 ∧ 1 ≤ passesP b ∧ passesP b ≤ 32 := by
  have : b = 1 ∨ b = 2 ∨ b = 3 ∨ b = 4 ∨ b = 5 ∨ b = 6 ∨ b = 7 ∨ b = 8 ∨ b = 9 ∨ b = 10 ∨ b = 11 ∨ b = 12 ∨ b = 13 ∨ b = 14 ∨ b = 15 ∨ b = 16 := by omega
  rcases this with rfl | rfl | rfl | rfl | rfl | rfl | rfl | rfl | rfl | rfl | rfl | rfl | rfl | rfl | rfl | rfl <;> decide
theorem sortL_good (keys : List Nat) : (sortL keys).Perm (List.range keys.length) ∧ (sortL keys).Pairwise (fun a b => keys.getD a 0 < keys.getD b 0 ∨ keys.getD a 0 = keys.getD b 0 ∧ a < b) := by
  exact insAll_good (fun i => keys.getD i 0) (· < ·) _ _ rfl List.pairwise_lt_range
theorem passes_sort (keys : List Nat) (hk : ∀ i, keys.getD i 0 < 4294967296) (b : Nat) (h1 : 1 ≤ b) (h2 : b ≤ 16) : passesL keys b (passesP b) = sortL keys := by
  obtain ⟨h3, h4⟩ := passesL_good keys b h1 h2 _ (Nat.le_refl _)
  obtain ⟨h5, h6⟩ := sortL_good keys
  have he := (passesP_enough b h1 h2).1
  have hM : ∀ i, keys.getD i 0 % 2 ^ (passesP b * b) = keys.getD i 0 := fun i => Nat.mod_eq_of_lt (Nat.lt_of_lt_of_le (hk i) (by
    have : 2 ^ 32 ≤ 2 ^ (passesP b * b) := Nat.pow_le_pow_right (by decide) he
    omega))
  refine byF_one (R := fun a b => keys.getD a 0 < keys.getD b 0 ∨ keys.getD a 0 = keys.getD b 0 ∧ a < b) (fun a b h => by omega) (h4.imp fun {a c} h => ?_) h6 (h3.trans h5.symm)
  unfold byM at h
  rw [hM, hM] at h
  exact h
end Go.Proofs.YtkpbanfpnilifaaGreat.Plain

/- Plain words of each once: runs of a rising list, and how many there are. No program in it. -/
namespace Go.Proofs.YtkpbanfpnilifaaGreat.Plain
/-- one more key of a rising list: one more of the last one, or a new one -/
def stepG (r : List Nat × List Nat) (k : Nat) : List Nat × List Nat :=
  if 0 < r.1.length ∧ r.1.getD (r.1.length - 1) 0 = k then (r.1, r.2.set (r.1.length - 1) (r.2.getD (r.1.length - 1) 0 + 1)) else (r.1 ++ [k], r.2 ++ [1])
def grpL (ks : List Nat) : List Nat × List Nat := ks.foldl stepG ([], [])
theorem grpL_snoc (ks : List Nat) (k : Nat) : grpL (ks ++ [k]) = stepG (grpL ks) k := by unfold grpL; rw [List.foldl_append]; rfl
structure Grp (ks : List Nat) (o t : List Nat) : Prop where
  rise : o.Pairwise (· < ·)
  len : t.length = o.length
  mem : ∀ x, x ∈ o ↔ x ∈ ks
  cnt : ∀ i, i < o.length → t.getD i 0 = ks.count (o.getD i 0)
  sum : t.sum = ks.length
theorem sum_set : ∀ (t : List Nat) (i : Nat), i < t.length → (t.set i (t.getD i 0 + 1)).sum = t.sum + 1
  | [], i, h => by simp at h
  | a :: t, 0, _ => by simp; omega
  | a :: t, i + 1, h => by
    have := sum_set t i (by simpa using h)
    rw [List.getD_cons_succ, List.set_cons_succ, List.sum_cons, List.sum_cons, this]; omega
theorem grp_good : ∀ (n : Nat) (ks : List Nat), ks.length = n → ks.Pairwise (· ≤ ·) → Grp ks (grpL ks).1 (grpL ks).2 := by
  intro n
  induction n with
  | zero =>
    intro ks hl _
    obtain rfl : ks = [] := List.eq_nil_of_length_eq_zero hl
    exact ⟨List.Pairwise.nil, rfl, fun x => Iff.rfl, fun i h => by simp [grpL] at h, rfl⟩
  | succ n ih =>
    intro ks hl hp
    obtain ⟨m, k, rfl⟩ := list_snoc ks (by intro h; subst h; simp at hl)
    rw [List.length_append, List.length_singleton] at hl
    rw [List.pairwise_append] at hp
    obtain ⟨hp1, _, hp3⟩ := hp
    have H := ih m (by omega) hp1
    rw [grpL_snoc]
    obtain ⟨⟨o, t⟩, hr⟩ : ∃ r, grpL m = r := ⟨_, rfl⟩
    rw [hr] at H ⊢
    simp only at H
    have hle : ∀ y ∈ o, y ≤ k := fun y hy => hp3 y ((H.mem y).1 hy) k (by simp)
    have hlt := H.rise
    rw [List.pairwise_iff_getElem] at hlt
    unfold stepG
    simp only
    split
    · rename_i hc
      obtain ⟨h1, h2⟩ := hc
      rw [List.getD_eq_getElem?_getD, List.getElem?_eq_getElem (by omega), Option.getD_some] at h2
      have hko : k ∈ o := by rw [← h2]; exact List.getElem_mem _
      refine ⟨H.rise, by simp only [List.length_set]; exact H.len, fun x => ?_, fun i hi => ?_, ?_⟩
      · simp only [List.mem_append, List.mem_singleton]
        rw [H.mem]
        exact ⟨.inl, fun h => h.elim id fun h => by rw [h]; exact (H.mem k).1 hko⟩
      · simp only at hi ⊢
        have hc := H.cnt i hi
        have hoi : o.getD i 0 = o[i] := by rw [List.getD_eq_getElem?_getD, List.getElem?_eq_getElem hi]; rfl
        have hil : i < t.length := by rw [H.len]; exact hi
        rw [hoi] at hc ⊢
        rw [List.count_append, List.getD_eq_getElem?_getD, List.getElem?_set]
        by_cases he : o.length - 1 = i
        · rw [if_pos he, if_pos (by omega)]
          subst he
          rw [Option.getD_some, hc, h2]
          simp
        · rw [if_neg he, ← List.getD_eq_getElem?_getD, hc]
          have hne : o[i] ≠ k := by
            have := hlt i (o.length - 1) hi (by omega) (by omega)
            omega
          rw [List.count_singleton]
          simp [hne.symm]
      · simp only [List.length_append, List.length_singleton]
        rw [sum_set _ _ (by rw [H.len]; omega), H.sum]
    · rename_i hc
      have hkm : k ∉ o := by
        intro hk
        apply hc
        have h0 : 0 < o.length := List.length_pos_of_mem hk
        refine ⟨h0, ?_⟩
        rw [List.getD_eq_getElem?_getD, List.getElem?_eq_getElem (by omega), Option.getD_some]
        obtain ⟨j, hj, hjk⟩ := List.getElem_of_mem hk
        have h9 := hle o[o.length - 1] (List.getElem_mem _)
        rcases Nat.lt_or_ge j (o.length - 1) with h8 | h8
        · have := hlt j (o.length - 1) hj (by omega) h8
          omega
        · have e : j = o.length - 1 := by omega
          subst e; exact hjk
      refine ⟨?_, by simp only [List.length_append, List.length_singleton]; rw [H.len], fun x => ?_, fun i hi => ?_, ?_⟩
      · simp only
        rw [List.pairwise_append]
        refine ⟨H.rise, List.pairwise_singleton _ _, fun a ha b hb => ?_⟩
        rw [List.mem_singleton] at hb
        subst hb
        have := hle a ha
        have : a ≠ b := fun e => hkm (e ▸ ha)
        omega
      · simp only [List.mem_append, List.mem_singleton]
        rw [H.mem]
      · simp only [List.length_append, List.length_singleton] at hi
        simp only
        rw [List.getD_eq_getElem?_getD, List.getD_eq_getElem?_getD (l := o ++ [k]), List.count_append]
        rcases Nat.lt_or_ge i o.length with h | h
        · rw [List.getElem?_append_left (by rw [H.len]; exact h), List.getElem?_append_left h, ← List.getD_eq_getElem?_getD, ← List.getD_eq_getElem?_getD, H.cnt i h]
          have hne : o.getD i 0 ≠ k := fun e => hkm (by rw [← e, List.getD_eq_getElem?_getD, List.getElem?_eq_getElem h]; exact List.getElem_mem _)
          rw [List.count_singleton, if_neg (by rw [beq_iff_eq]; exact hne.symm)]
          rfl
        · have e : i = o.length := by omega
          subst e
          rw [List.getElem?_append_right (Nat.le_refl _), List.getElem?_append_right (by rw [H.len]; exact Nat.le_refl _), H.len]
          simp
          exact List.count_eq_zero_of_not_mem fun h => hkm ((H.mem k).2 h)
      · simp only [List.sum_append, List.length_append, List.length_singleton, List.sum_singleton]
        rw [H.sum]
/-- an edge's key -/
def keyOk (u v : Int) : Bool := decide (0 ≤ u) && decide (0 ≤ v) && decide (u ≤ 65535) && decide (v ≤ 65535)
def keyP (u v : Int) : Nat := if keyOk u v = true then (min u v).toNat * 65536 + (max u v).toNat else 0
end Go.Proofs.YtkpbanfpnilifaaGreat.Plain

/- The document's Has, Without (ref11). -/
namespace Go.Proofs.YtkpbanfpnilifaaGreat
open Go.BigFrame
open Go.RowKit Go.Proofs.YtkpbanfpnilifaaGreat.Plain

set_option maxHeartbeats 1600000 in
set_option maxRecDepth 100000 in
theorem rhas11_any (l : List Nat) (L : Option Addr) (lc x : Nat) (w : World) (hL : Rd kU32 w (.slice L l.length lc) (zs l)) :
    Calls Tryz.prog 26 #[.slice L l.length lc, .int .u32 x] w fun ed w' => ed = .returned (.bool (decide (x ∈ l))) ∧ w = w' := by
  have HL := Lib.hid hL
  have hll : (l.length : Int) ≤ 9223372036854775807 := by have := hL.len; rw [zs_len] at this; omega
  clear hL
  go_enter Tryz.func26, Tryz.ntmps26
  go_wp2_with fail
  go_loopw [5] (fun i wr => ∃ k : Nat, k ≤ l.length ∧ i = .int .i64 k ∧ x ∉ l.take k ∧ w = wr) (fun i _ => l.length - (intOf i).toNat)
  case atStart => exact ⟨0, Nat.zero_le _, rfl, by simp, rfl⟩
  case round =>
    obtain ⟨k, hk, rfl, hno, rfl⟩ := hrel
    have hk0 : (0 : Int) ≤ k := by omega
    by_cases hlt : k < l.length
    · have hlt' : (k : Int) < l.length := by omega
      obtain ⟨bx, ox, rfl, z0, hxl⟩ := u32_at HL.out k hlt
      have htk := takeN_snoc hlt
      have hmem : l.getD k 0 ∈ l := by rw [List.getD_eq_getElem?_getD, List.getElem?_eq_getElem hlt]; exact List.getElem_mem hlt
      obtain ⟨y, hy⟩ : ∃ y, l.getD k 0 = y := ⟨_, rfl⟩
      rw [hy] at z0 htk hmem
      by_cases hxy : y = x
      · subst hxy
        have HM := Lib.hid hmem
        clear hno htk hmem hy hxl
        go_wp2_with fail
        go_ret
        exact ⟨ret_bool (by rw [decide_eq_true HM.out]), rfl⟩
      · have hne : (y == x) = false := by simp [hxy]
        have hni : ((y : Int) == (x : Int)) = false := by simp; omega
        have HN : Hid (x ∉ l.take (k + 1)) := Lib.hid (by
          rw [htk, List.mem_append, List.mem_singleton]
          rintro (h | h)
          · exact hno h
          · exact hxy h.symm)
        have hk9 : IntKind.i64.wrap ((k : Int) + 1) = (k : Int) + 1 := IntWalk.i64_in _ (by omega)
        clear hno htk hmem hy hxl
        go_wp2_with fail
        go_roundw
        case rel => exact ⟨k + 1, by omega, by go_num, HN.out, trivial⟩
        case measure => simp [intOf]; omega
    · obtain rfl : k = l.length := by omega
      rw [List.take_length] at hno
      have HN := Lib.hid hno
      clear hno
      go_wp2_with fail
      go_ret
      exact ⟨ret_bool (by rw [decide_eq_false HN.out]), rfl⟩
/-- those that aren't among others -/
def Plain.withoutL (a b : List Nat) : List Nat := a.filter (fun x => !decide (x ∈ b))
theorem Plain.withoutL_snoc (a b : List Nat) (x : Nat) : withoutL (a ++ [x]) b = withoutL a b ++ (if x ∈ b then [] else [x]) := by
  unfold withoutL
  rw [List.filter_append]
  congr 1
  by_cases h : x ∈ b
  · rw [if_pos h, List.filter_cons_of_neg (by simp [h])]; rfl
  · rw [if_neg h, List.filter_cons_of_pos (by simp [h])]; rfl
set_option maxHeartbeats 1600000 in
set_option maxRecDepth 100000 in
theorem rwithout_any (l r : List Nat) (L R : Option Addr) (lc rc : Nat) (w : World) (hL : Rd kU32 w (.slice L l.length lc) (zs l)) (hR : Rd kU32 w (.slice R r.length rc) (zs r)) (hl : l.length ≤ 900) :
    Calls Tryz.prog 12 #[.slice L l.length lc, .slice R r.length rc] w fun ed w' => ∃ (A : Option Addr) (c : Nat), ed = .returned (.slice A (withoutL l r).length c) ∧ Ow kU32 w.heap.size w' (.slice A (withoutL l r).length c) (zs (withoutL l r)) ∧ Ext w w' := by
  have HL := Lib.hid hL
  have HR := Lib.hid hR
  have hl' : (l.length : Int) ≤ 900 := by omega
  clear hL hR
  go_enter Tryz.func12, Tryz.ntmps12
  go_wp2_with fail
  go_loopw [5, 6] (fun v i wr => ∃ k : Nat, k ≤ l.length ∧ i = .int .i64 k ∧ Ow kU32 w.heap.size wr v (zs (withoutL (l.take k) r)) ∧ Ext w wr) (fun _ i _ => l.length - (intOf i).toNat)
  case atStart => exact ⟨0, Nat.zero_le _, rfl, Ow.nil _ _, Ext.refl _⟩
  case round =>
    obtain ⟨k, hk, rfl, hO, hX⟩ := hrel
    have HO := Lib.hid hO
    have HX := Lib.hid hX
    have hk0 : (0 : Int) ≤ k := by omega
    clear hO hX
    by_cases hlt : k < l.length
    · have hlt' : (k : Int) < l.length := by omega
      obtain ⟨bx, ox, rfl, z0, hxl⟩ := u32_at (HL.out.ext HX.out) k hlt
      have lbx : bx < wr.heap.size := World.block_lt_of_cell? _ _ z0
      have htk := takeN_snoc hlt
      obtain ⟨x, hx⟩ : ∃ y, l.getD k 0 = y := ⟨_, rfl⟩
      rw [hx] at z0 htk hxl
      have hws := withoutL_snoc (l.take k) r x
      rw [← htk] at hws
      have HXL := Lib.hid hxl
      clear htk hx hxl
      by_cases hxr : x ∈ r
      · rw [if_pos hxr, List.append_nil] at hws
        have HWS := Lib.hid hws
        have HXR := Lib.hid hxr
        clear hws hxr
        go_wp2_with fail
        refine (rhas11_any r R rc x _ (HR.out.ext HX.out)).mono ?_
        rintro ed w9 ⟨rfl, rfl⟩
        rw [decide_eq_true HXR.out]
        go_wp2_with fail
        go_roundw
        case rel => exact ⟨k + 1, by omega, by go_num, by rw [HWS.out]; exact HO.out, HX.out⟩
        case measure => simp [intOf]; omega
      · rw [if_neg hxr] at hws
        have HWS := Lib.hid hws
        have HXR := Lib.hid hxr
        have hwl : (withoutL (l.take k) r).length ≤ k := Nat.le_trans (List.length_filter_le _ _) (by rw [List.length_take]; omega)
        have HLL : Hid ((zs (withoutL (l.take k) r)).length + [(x : Int)].length ≤ 1048576) := Lib.hid (by rw [zs_len, List.length_singleton]; omega)
        have hzx := HX.out.size
        clear hws hxr hwl
        go_wp2_with fail
        refine (rhas11_any r R rc x _ (HR.out.ext HX.out)).mono ?_
        rintro ed w9 ⟨rfl, rfl⟩
        rw [decide_eq_false HXR.out]
        go_wp2_with (at_builtin; refine kU32.wpList_app (by rfl) (.tmp 20) (.tmp 25) (by rfl) (by rfl) w.heap.size _ (zs (withoutL (l.take k) r)) (by rfl) (HO.out.ext ((Ext.refl _).alloc _)) _ [(x : Int)] (by rfl) (u32_lit _ x HXL.out) HLL.out (by simp; omega) ?_; intro v' w8 hown8 hgrow8 hat8)
        have H8 := Lib.hid (And.intro hown8 (And.intro hgrow8 hat8))
        clear hown8 hgrow8 hat8
        go_wp2_with fail
        go_roundw
        case rel =>
          obtain ⟨hown8, hgrow8, hat8⟩ := H8.out
          exact ⟨k + 1, by omega, by go_num, by rw [HWS.out, zs_app]; exact hown8, Ext.grown (HX.out.alloc _) hgrow8 (fun q hq => (HO.out.lt q hq).1)⟩
        case measure => simp [intOf]; omega
    · obtain rfl : k = l.length := by omega
      rw [List.take_length] at HO
      obtain ⟨Lz, lz, hv, hlz⟩ := HO.out.slice
      subst hv
      go_wp2_with fail
      refine bodyPost_ret (v := .slice Lz (zs (withoutL l r)).length lz) (by simp [results, Tryz.results12, go_sem]) rfl ⟨Lz, lz, by rw [zs_len], by have := HO.out; rw [zs_len] at this; exact this, HX.out⟩
end Go.Proofs.YtkpbanfpnilifaaGreat

/- The document's Blocks, Steps, Sums, Highest, Back, Totals (ref08). -/
namespace Go.Proofs.YtkpbanfpnilifaaGreat
open Go.BigFrame
open Go.RowKit Go.Proofs.YtkpbanfpnilifaaGreat.Plain

theorem Plain.ordP_plan {n : Nat} {g m : Int} {picks : List (Int × Int)} (h : (ordP n g m picks).2.2 = 0) : picks.length ≤ 4000 := by
  unfold ordP at h
  by_cases hb : planB g m picks.length = false
  · rw [if_pos hb] at h; cases h
  · exact ((planB_iff _ _ _).1 (by simpa using hb)).2.2.2.2
set_option maxRecDepth 100000 in
theorem rblocks_any (n : Nat) (b : Int) (w : World) (hn : n ≤ 1000) (hb : in64 b) :
    Calls Tryz.prog 60 #[.int .i64 n, .int .i64 b] w fun ed w' => ed = .returned (.int .i64 (blocksP n b)) ∧ w = w' := by
  have hn1 : (n : Int) ≤ 1000 := by omega
  have hn0 : (0 : Int) ≤ n := by omega
  unfold in64 at hb
  by_cases h1 : b < 1
  · have e : blocksP n b = 0 := by unfold blocksP; rw [if_neg (by omega)]
    rw [e]
    clear e
    go_enter Tryz.func60, Tryz.ntmps60
    go_wp2
    go_ret
    exact ⟨rfl, rfl⟩
  by_cases h2 : 100 < b
  · have e : blocksP n b = 0 := by unfold blocksP; rw [if_neg (by omega)]
    have h1' : 1 ≤ b := by omega
    rw [e]
    clear e h1
    go_enter Tryz.func60, Tryz.ntmps60
    go_wp2
    go_ret
    exact ⟨rfl, rfl⟩
  obtain ⟨B, rfl⟩ : ∃ B : Nat, b = B := ⟨b.toNat, by omega⟩
  have e : blocksP n B = (n + B - 1) / B := by unfold blocksP; rw [if_pos (by omega), Int.toNat_natCast]
  have h1' : (1 : Int) ≤ B := by omega
  have h2' : (B : Int) ≤ 100 := by omega
  have E := Lib.hid e
  clear e h1 h2 hb
  go_enter Tryz.func60, Tryz.ntmps60
  go_wp2
  all_goals go_ret
  all_goals refine ⟨ret_int ?_, rfl⟩
  all_goals (rw [E.out, Int.natCast_ediv]; congr 1; omega)
/-- a number, an error -/
def StepsSaid (r : Nat × Int) (w : World) (ed : Ending) (w' : World) : Prop := ed = .returned (.tuple #[.int .i64 r.1, .int .i64 r.2]) ∧ Ext w w'
set_option maxHeartbeats 1600000 in
set_option maxRecDepth 100000 in
theorem rsteps_any (n : Nat) (b g m : Int) (Ap : Option Addr) (cp : Nat) (picks : List (Int × Int)) (w : World) (hp : Rd kPk w (.slice Ap picks.length cp) picks) (n2 : n ≤ 900) (hb : in64 b) (hg : in64 g) (hm : in64 m) :
    Calls Tryz.prog 46 #[.int .i64 n, .int .i64 b, planV g m Ap picks.length cp] w (StepsSaid (stepsP n b g m picks) w) := by
  have HP := Lib.hid hp
  have HG := Lib.hid (And.intro hg (And.intro hm hb))
  unfold in64 at hb
  clear hp hg hm
  by_cases h1 : b < 1
  · have e : stepsP n b g m picks = (0, 1) := by unfold stepsP; rw [if_pos (by omega)]
    rw [e]
    clear e
    go_enter Tryz.func46, Tryz.ntmps46
    go_wp2_with fail
    go_ret2
    exact ⟨rfl, (Ext.refl _).alloc _⟩
  by_cases h2 : 100 < b
  · have e : stepsP n b g m picks = (0, 1) := by unfold stepsP; rw [if_pos (by omega)]
    have h1' : 1 ≤ b := by omega
    rw [e]
    clear e h1
    go_enter Tryz.func46, Tryz.ntmps46
    go_wp2_with fail
    go_ret2
    exact ⟨rfl, (Ext.refl _).alloc _⟩
  have h1' : 1 ≤ b := by omega
  have h2' : b ≤ 100 := by omega
  have herr := ordP_err n g m picks
  have HF : Hid (stepsP n b g m picks = if (ordP n g m picks).2.2 ≠ 0 then (0, (ordP n g m picks).2.2) else (2 * (ordP (blocksP n b) g m picks).2.1, 0)) := Lib.hid (by unfold stepsP; rw [if_neg (by omega)])
  have HE2 : Hid ((ordP n g m picks).2.2 = 0 → (ordP (blocksP n b) g m picks).2.2 = 0 ∧ (ordP (blocksP n b) g m picks).2.1 ≤ 30000) := Lib.hid (fun h => ⟨ordP_err_any _ _ _ _ _ h, by have := ordP_steps (blocksP n b) g m picks (Nat.le_trans (blocksP_le n b) n2); have := ordP_plan h; omega⟩)
  clear h1 h2 hb
  go_enter Tryz.func46, Tryz.ntmps46
  go_wp2_with fail
  refine (rorder_any n g m Ap cp picks _ (HP.out.ext ((Ext.refl _).alloc _)) n2 HG.out.1 HG.out.2.1).mono ?_
  obtain ⟨⟨os, st, er⟩, hr⟩ : ∃ x, ordP n g m picks = x := ⟨_, rfl⟩
  rw [hr] at HF HE2 herr ⊢
  simp only at HF HE2 herr
  rintro ed w1 ⟨L1, l1, rfl, hO, hE⟩
  simp only
  have k0 : w1.cell? ⟨w.heap.size, 0, none⟩ = some (.int .i64 g) := Ext.cell hE (by go_simp)
  have k1 : w1.cell? ⟨w.heap.size, 1, none⟩ = some (.int .i64 m) := Ext.cell hE (by go_simp)
  have k2 : w1.cell? ⟨w.heap.size, 2, none⟩ = some (.slice Ap picks.length cp) := Ext.cell hE (by go_simp)
  have kf : ∀ o, w1.frozen? ⟨w.heap.size, o, none⟩ = false := fun o => (Below.frozen hE (p := ⟨w.heap.size, o, none⟩) (by first | omega | (simp; omega) | simp)).trans (by go_simp)
  have HX := Lib.hid (((Ext.refl w).alloc (.cells #[.int .i64 g, .int .i64 m, .slice Ap picks.length cp] 25)).trans hE)
  clear hO hE hr kf
  rcases herr with rfl | rfl
  · rw [if_neg (by simp)] at HF
    obtain ⟨he2, hs2⟩ := HE2.out rfl
    obtain ⟨N, hN⟩ : ∃ N, blocksP n b = N := ⟨_, rfl⟩
    have hNl : N ≤ 900 := by have := blocksP_le n b; omega
    have HN := Lib.hid hN
    rw [hN] at he2 hs2 HF
    obtain ⟨⟨ou, su, eu⟩, hr⟩ : ∃ x, ordP N g m picks = x := ⟨_, rfl⟩
    have HR := Lib.hid hr
    rw [hr] at he2 hs2 HF
    simp only at he2 hs2
    subst he2
    have KS : Hid (∀ w', Ext w1 w' → w'.cell? ⟨w.heap.size, 0, none⟩ = some (.int .i64 g) ∧ w'.cell? ⟨w.heap.size, 1, none⟩ = some (.int .i64 m) ∧ w'.cell? ⟨w.heap.size, 2, none⟩ = some (.slice Ap picks.length cp)) := Lib.hid (fun w' hE => ⟨hE.cell k0, hE.cell k1, hE.cell k2⟩)
    have HB : ∀ w', Calls Tryz.prog 60 #[.int .i64 n, .int .i64 b] w' fun ed w'' => ed = .returned (.int .i64 N) ∧ w' = w'' := fun w' => by
      have h9 := rblocks_any n b w' (by omega) HG.out.2.2
      rw [HN.out] at h9; exact h9
    have HBB := Lib.hid HB
    have hsu : (su : Int) ≤ 30000 := by omega
    have hs0 : (0 : Int) ≤ su := by omega
    have hs2' := Lib.hid hs2
    clear hr hN HE2 HB hs2
    go_upto_region 6 with fail
    go_region_with (first
      | (go_at_call 60; refine (HBB.out _).mono ?_; rintro ed w5 ⟨rfl, rfl⟩)
      | (go_at_call 38; refine (rorder_any N g m Ap cp picks _ (HP.out.ext (by repeat (first | (with_reducible exact HX.out) | refine Ext.drew ?_ | refine Ext.drewN ?_ _))) hNl HG.out.1 HG.out.2.1).mono ?_; rw [HR.out]; rintro ed w5 ⟨L5, l5, rfl, hO5, hE5⟩))
    all_goals go_wp2_with fail
    all_goals go_ret2
    all_goals (rw [HF.out]; exact ⟨by first | rfl | simp, by first | exact HX.out.trans hE5 | exact (HX.out.drew).trans hE5⟩)
  · rw [if_pos (by decide)] at HF
    go_wp2_with fail
    go_ret2
    rw [HF.out]
    exact ⟨rfl, HX.out⟩
end Go.Proofs.YtkpbanfpnilifaaGreat

/- The document's Sums, Highest, Back (ref08). -/
namespace Go.Proofs.YtkpbanfpnilifaaGreat
open Go.BigFrame
open Go.RowKit Go.Proofs.YtkpbanfpnilifaaGreat.Plain

/-- words, a sum, steps, an error -/
def SumsSaid (r : List Nat × Nat × Nat × Int) (w : World) (ed : Ending) (w' : World) : Prop :=
  ∃ (L : Option Addr) (l : Nat), ed = .returned (.tuple #[.slice L r.1.length l, .int .u32 r.2.1, .int .i64 r.2.2.1, .int .i64 r.2.2.2]) ∧ Ow kU32 w.heap.size w' (.slice L r.1.length l) (zs r.1) ∧ Ext w w'
set_option maxHeartbeats 1600000 in
set_option maxRecDepth 100000 in
theorem rsums_any (l : List Nat) (L : Option Addr) (lc : Nat) (b g m : Int) (Ap : Option Addr) (cp : Nat) (picks : List (Int × Int)) (w : World) (hL : Rd kU32 w (.slice L l.length lc) (zs l)) (hp : Rd kPk w (.slice Ap picks.length cp) picks) (hl : l.length ≤ 900) (hb : in64 b) (hg : in64 g) (hm : in64 m) :
    Calls Tryz.prog 37 #[.slice L l.length lc, .int .i64 b, planV g m Ap picks.length cp] w (SumsSaid (sumsP l b g m picks) w) := by
  have HP := Lib.hid hp
  have HL := Lib.hid hL
  have HG := Lib.hid (And.intro hg (And.intro hm hb))
  have hl' : (l.length : Int) ≤ 900 := by omega
  have herr := stepsP_err l.length b g m picks
  clear hp hL hg hm hb
  go_enter Tryz.func37, Tryz.ntmps37
  go_wp2_with fail
  refine (rsteps_any l.length b g m Ap cp picks _ (HP.out.ext ((Ext.refl _).alloc _)) hl HG.out.2.2 HG.out.1 HG.out.2.1).mono ?_
  have HF : Hid (sumsP l b g m picks = if (stepsP l.length b g m picks).2 ≠ 0 then ([], 0, 0, (stepsP l.length b g m picks).2) else (sumsW l, totW l, (stepsP l.length b g m picks).1, 0)) := Lib.hid rfl
  obtain ⟨⟨st, er⟩, hr⟩ : ∃ x, stepsP l.length b g m picks = x := ⟨_, rfl⟩
  rw [hr] at HF herr ⊢
  simp only at HF herr
  rintro ed w1 ⟨rfl, hE1⟩
  have HX1 := Lib.hid (((Ext.refl w).alloc (.cells #[.int .i64 g, .int .i64 m, .slice Ap picks.length cp] 25)).trans hE1)
  clear hE1 hr
  rcases herr with rfl | rfl
  · rw [if_neg (by simp)] at HF
    have hz1 := HX1.out.size
    go_wp2_with fail
    go_loopw [12, 13, 14] (fun v s i wr => ∃ k : Nat, k ≤ l.length ∧ i = .int .i64 k ∧ s = .int .u32 (totW (l.take k)) ∧ Ow kU32 w1.heap.size wr v (zs (byN k (fun i => totW (l.take i)))) ∧ Ext w1 wr) (fun _ _ i _ => l.length - (intOf i).toNat)
    case atStart => exact ⟨0, Nat.zero_le _, rfl, rfl, Ow.nil _ _, Ext.refl _⟩
    case round =>
      obtain ⟨k, hk, rfl, rfl, hO, hX⟩ := hrel
      have HO := Lib.hid hO
      have HX := Lib.hid hX
      have hk0 : (0 : Int) ≤ k := by omega
      clear hO hX
      by_cases hlt : k < l.length
      · have hlt' : (k : Int) < l.length := by omega
        obtain ⟨bx, ox, rfl, z0, hxl⟩ := u32_at (HL.out.ext HX1.out) k hlt
        have lb1 : bx < w1.heap.size := World.block_lt_of_cell? _ _ z0
        have HNB : Hid (some bx ≠ u12.ownBlock) := Lib.hid (fun e => by have := (HO.out.lt _ e.symm).1; omega)
        replace z0 := HX.out.cell z0
        have htk := takeN_snoc hlt
        have hts := totW_snoc (l.take k) (l.getD k 0)
        rw [← htk] at hts
        obtain ⟨x, hx⟩ : ∃ x, l.getD k 0 = x := ⟨_, rfl⟩
        rw [hx] at z0 hxl hts
        have hsl := totW_lt (l.take k)
        have hbs := byN_snoc k (fun i => totW (l.take i))
        obtain ⟨s, hs⟩ : ∃ s, totW (l.take k) = s := ⟨_, rfl⟩
        rw [hs] at hts hsl hbs ⊢
        have HTS := Lib.hid hts
        have HBS := Lib.hid hbs
        have HSL := Lib.hid hsl
        have hx0 : (0 : Int) ≤ x := by omega
        have hs0 : (0 : Int) ≤ s := by omega
        have HLL : Hid ((zs (byN k (fun i => totW (l.take i)))).length + [(s : Int)].length ≤ 1048576) := Lib.hid (by rw [zs_len, byN_len, List.length_singleton]; omega)
        have hzx := HX.out.size
        have lbx : bx < wr.heap.size := World.block_lt_of_cell? _ _ z0
        have HZ := Lib.hid z0
        clear htk hts hx hxl hbs hs hsl
        go_wp2_with (at_builtin; refine kU32.wpList_app (by rfl) (.tmp 32) (.tmp 34) (by rfl) (by rfl) w1.heap.size _ (zs (byN k (fun i => totW (l.take i)))) (by rfl) (HO.out.ext ((Ext.refl _).alloc _)) _ [(s : Int)] (by rfl) (u32_lit _ s HSL.out) HLL.out (by simp; omega) ?_; intro v' w8 hown8 hgrow8 hat8; have z8 := hgrow8.cell (Ext.cell ((Ext.refl _).alloc (.cells #[.int .u32 s] 42)) z0) HNB.out)
        have H8 := Lib.hid (And.intro hown8 (And.intro hgrow8 hat8))
        clear hown8 hgrow8 hat8
        go_wp2_with fail
        go_roundw
        case rel =>
          obtain ⟨hown8, hgrow8, hat8⟩ := H8.out
          refine ⟨k + 1, by omega, by go_num, ?_, by rw [HBS.out, zs_app]; exact hown8, Ext.grown (HX.out.alloc _) hgrow8 (fun q hq => (HO.out.lt q hq).1)⟩
          rw [HTS.out]
          first | rfl | (congr 1; omega) | (simp; omega)
        case measure => simp [intOf]; omega
      · obtain rfl : k = l.length := by omega
        rw [List.take_length]
        obtain ⟨Lz, lz, hv, hlz⟩ := HO.out.slice
        subst hv
        have HXX := Lib.hid (HX1.out.trans HX.out)
        go_wp2_with fail
        refine bodyPost_ret (v := .tuple #[.slice Lz (zs (byN l.length (fun i => totW (l.take i)))).length lz, .int .u32 (totW l), .int .i64 st, .int .i64 0]) (by simp [results, Tryz.results37, go_sem]) rfl (by rw [HF.out]; exact ⟨Lz, lz, by rw [zs_len]; rfl, by have := HO.out.mono (B' := w.heap.size) (by omega); rw [zs_len] at this; exact this, HXX.out⟩)
  · rw [if_pos (by decide)] at HF
    go_wp2_with fail
    exact bodyPost_ret (v := .tuple #[.slice none 0 0, .int .u32 0, .int .i64 0, .int .i64 1]) (by simp [results, Tryz.results37, go_sem]) rfl (by rw [HF.out]; exact ⟨none, 0, rfl, Ow.nil _ _, HX1.out⟩)
/-- a list of words -/
def ListSaid (l : List Nat) (w : World) (ed : Ending) (w' : World) : Prop :=
  ∃ (L : Option Addr) (c : Nat), ed = .returned (.slice L l.length c) ∧ Ow kU32 w.heap.size w' (.slice L l.length c) (zs l) ∧ Ext w w'
end Go.Proofs.YtkpbanfpnilifaaGreat

/- The document's Totals (ref08). -/
namespace Go.Proofs.YtkpbanfpnilifaaGreat
open Go.BigFrame
open Go.RowKit Go.Proofs.YtkpbanfpnilifaaGreat.Plain

end Go.Proofs.YtkpbanfpnilifaaGreat

/- The document's Key, Edge, Has, Without, Same (ref11). -/
namespace Go.Proofs.YtkpbanfpnilifaaGreat
open Go.BigFrame
open Go.RowKit Go.Proofs.YtkpbanfpnilifaaGreat.Plain

/-- edges: pairs of numbers -/
def kEdge : Kd (Int × Int) where
  t := 39
  e := 46
  n := 2
  cells := fun x => [.int .i64 x.1, .int .i64 x.2]
  ok := fun x => in64 x.1 ∧ in64 x.2
  d := (0, 0)
  z := .agg #[.int .i64 0, .int .i64 0]
  bytes := 16
  ht := Tryz.underlying39
  info := by kernel_rfl
  hzs := rfl
  pos := by decide
  small := by decide
  len := fun _ => rfl
  one := fun a u hu => by simp at hu; rcases hu with rfl | rfl <;> rfl
theorem Rd.edges {w : World} {A : Option Addr} {n c : Nat} {xs : List (Int × Int)} (h : Rd kEdge w (.slice A n c) xs) (hl : 0 < xs.length) : ∃ b off, A = some ⟨b, off, none⟩ ∧ ∀ j, j < xs.length → w.cell? ⟨b, off + j * 2, none⟩ = some (.int .i64 (xs.getD j (0, 0)).1) ∧ w.cell? ⟨b, off + j * 2 + 1, none⟩ = some (.int .i64 (xs.getD j (0, 0)).2) := by
  obtain ⟨b, off, rfl, hcc⟩ := h.cells hl
  exact ⟨b, off, rfl, fun j hj => ⟨by have := hcc j hj 0 _ rfl; simpa [kEdge] using this, by have := hcc j hj 1 _ rfl; simpa [kEdge] using this⟩⟩

theorem Plain.keyP_no {u v : Int} (h : ¬ (0 ≤ u ∧ 0 ≤ v ∧ u ≤ 65535 ∧ v ≤ 65535)) : keyOk u v = false ∧ keyP u v = 0 := by
  have h1 : keyOk u v = false := by
    unfold keyOk
    rw [Bool.eq_false_iff]
    intro h2
    simp only [Bool.and_eq_true, decide_eq_true_eq] at h2
    omega
  exact ⟨h1, by unfold keyP; rw [if_neg (by rw [h1]; decide)]⟩
theorem Plain.keyP_yes {U V : Nat} (h1 : U ≤ 65535) (h2 : V ≤ 65535) : keyOk U V = true ∧ keyP U V = min U V * 65536 + max U V := by
  have h3 : keyOk (U : Int) V = true := by
    unfold keyOk
    simp only [Bool.and_eq_true, decide_eq_true_eq]; omega
  exact ⟨h3, by unfold keyP; rw [if_pos h3, show (min (U : Int) V).toNat = min U V by omega, show (max (U : Int) V).toNat = max U V by omega]⟩
set_option maxHeartbeats 1600000 in
set_option maxRecDepth 100000 in
theorem rkey_any (u v : Int) (w : World) (hu : in64 u) (hv : in64 v) :
    Calls Tryz.prog 16 #[.agg #[.int .i64 u, .int .i64 v]] w fun ed w' => ed = .returned (.tuple #[.int .u32 (keyP u v : Nat), .bool (keyOk u v)]) ∧ Ext w w' := by
  by_cases hok : 0 ≤ u ∧ 0 ≤ v ∧ u ≤ 65535 ∧ v ≤ 65535
  · obtain ⟨U, rfl⟩ : ∃ U : Nat, u = U := ⟨u.toNat, by omega⟩
    obtain ⟨V, rfl⟩ : ∃ V : Nat, v = V := ⟨v.toNat, by omega⟩
    obtain ⟨k1, k2⟩ := keyP_yes (U := U) (V := V) (by omega) (by omega)
    obtain ⟨M, hM⟩ : ∃ M, min U V = M := ⟨_, rfl⟩
    obtain ⟨X, hX⟩ : ∃ X, max U V = X := ⟨_, rfl⟩
    rw [hM, hX] at k2
    have hMl : M ≤ 65535 := by omega
    have hXl : X ≤ 65535 := by omega
    obtain ⟨K, hK⟩ : ∃ K, M * 65536 + X = K := ⟨_, rfl⟩
    rw [hK] at k2
    have HK := Lib.hid (And.intro k1 k2)
    have hMI : min (U : Int) V = (M : Int) := by omega
    have hXI : max (U : Int) V = (X : Int) := by omega
    have hK2 : (M : Int) * 65536 + (X : Int) = (K : Int) := by omega
    obtain ⟨M6, hM6⟩ : ∃ M6 : Nat, (M : Int) * 65536 = (M6 : Int) := ⟨M * 65536, by simp⟩
    have hM7 : IntKind.i64.wrap (M6 : Int) = (M6 : Int) := IntWalk.i64_in _ (by omega)
    have hM8 : (M6 : Int) + (X : Int) = (K : Int) := by omega
    have hK3 : IntKind.i64.wrap (K : Int) = (K : Int) := IntWalk.i64_in _ (by omega)
    have hK4 : IntKind.u32.wrap (K : Int) = (K : Int) := by rw [IntKind.wrap_u32]; omega
    have d1 : decide ((U : Int) < 0) = false := decide_eq_false (by omega)
    have d2 : decide ((V : Int) < 0) = false := decide_eq_false (by omega)
    have d3 : decide ((65535 : Int) < (U : Int)) = false := decide_eq_false (by omega)
    have d4 : decide ((65535 : Int) < (V : Int)) = false := decide_eq_false (by omega)
    have d5 : decide (65535 < U) = false := decide_eq_false (by omega)
    have d6 : decide (65535 < V) = false := decide_eq_false (by omega)
    rw [HK.out.1, HK.out.2]
    rcases Nat.lt_trichotomy U V with h | rfl | h
    · obtain rfl : M = U := by omega
      obtain rfl : X = V := by omega
      have h' : (M : Int) < X := by omega
      clear k1 k2 hM hX hK hu hv hok
      go_enter Tryz.func16, Tryz.ntmps16
      go_wp2_with fail
      exact bodyPost_ret (v := .tuple #[.int .u32 K, .bool true]) (by simp [results, Tryz.results16, go_sem]) rfl ⟨rfl, (Ext.refl _).alloc _⟩
    · obtain rfl : M = U := by omega
      obtain rfl : X = M := by omega
      clear k1 k2 hM hX hK hu hv hok
      go_enter Tryz.func16, Tryz.ntmps16
      go_wp2_with fail
      exact bodyPost_ret (v := .tuple #[.int .u32 K, .bool true]) (by simp [results, Tryz.results16, go_sem]) rfl ⟨rfl, (Ext.refl _).alloc _⟩
    · obtain rfl : M = V := by omega
      obtain rfl : X = U := by omega
      have h' : (M : Int) < X := by omega
      clear k1 k2 hM hX hK hu hv hok
      go_enter Tryz.func16, Tryz.ntmps16
      go_wp2_with fail
      exact bodyPost_ret (v := .tuple #[.int .u32 K, .bool true]) (by simp [results, Tryz.results16, go_sem]) rfl ⟨rfl, (Ext.refl _).alloc _⟩
  · have HK := Lib.hid (keyP_no hok)
    rw [HK.out.1, HK.out.2]
    go_enter Tryz.func16, Tryz.ntmps16
    by_cases h1 : u < 0
    · have d1 : decide (u < 0) = true := decide_eq_true h1
      clear hok hu hv
      go_wp2_with fail
      exact bodyPost_ret (v := .tuple #[.int .u32 0, .bool false]) (by simp [results, Tryz.results16, go_sem]) rfl ⟨rfl, (Ext.refl _).alloc _⟩
    have d1 : decide (u < 0) = false := decide_eq_false h1
    by_cases h2 : v < 0
    · have d2 : decide (v < 0) = true := decide_eq_true h2
      clear hok hu hv
      go_wp2_with fail
      exact bodyPost_ret (v := .tuple #[.int .u32 0, .bool false]) (by simp [results, Tryz.results16, go_sem]) rfl ⟨rfl, (Ext.refl _).alloc _⟩
    have d2 : decide (v < 0) = false := decide_eq_false h2
    by_cases h3 : 65535 < u
    · have d3 : decide (65535 < u) = true := decide_eq_true h3
      clear hok hu hv
      go_wp2_with fail
      exact bodyPost_ret (v := .tuple #[.int .u32 0, .bool false]) (by simp [results, Tryz.results16, go_sem]) rfl ⟨rfl, (Ext.refl _).alloc _⟩
    have d3 : decide (65535 < u) = false := decide_eq_false h3
    have h4 : 65535 < v := by omega
    have d4 : decide (65535 < v) = true := decide_eq_true h4
    clear hok hu hv
    go_wp2_with fail
    exact bodyPost_ret (v := .tuple #[.int .u32 0, .bool false]) (by simp [results, Tryz.results16, go_sem]) rfl ⟨rfl, (Ext.refl _).alloc _⟩
/-- a key's edge -/
def Plain.edgeP (k : Nat) : Int × Int := (((k / 65536 : Nat) : Int), ((k % 65536 : Nat) : Int))
set_option maxHeartbeats 1600000 in
set_option maxRecDepth 100000 in
theorem redge_any (k : Nat) (w : World) (hk : k < 4294967296) :
    Calls Tryz.prog 18 #[.int .u32 k] w fun ed w' => ed = .returned (.agg #[.int .i64 (edgeP k).1, .int .i64 (edgeP k).2]) ∧ Ext w w' := by
  unfold edgeP
  obtain ⟨P, hP⟩ : ∃ P, k / 65536 = P := ⟨_, rfl⟩
  obtain ⟨R, hR⟩ : ∃ R, k % 65536 = R := ⟨_, rfl⟩
  rw [hP, hR]
  have h1 : (k : Int) / 65536 = (P : Int) := by omega
  have h2 : (k : Int) % 65536 = (R : Int) := by omega
  have h3 : (k : Int).tdiv 65536 = (P : Int) := by rw [Int.tdiv_eq_ediv_of_nonneg (by omega)]; exact h1
  have h4 : (k : Int).tmod 65536 = (R : Int) := by rw [Int.tmod_eq_emod_of_nonneg (by omega)]; exact h2
  have h5 : IntKind.u32.wrap (P : Int) = (P : Int) := by rw [IntKind.wrap_u32]; omega
  have h6 : IntKind.u32.wrap (R : Int) = (R : Int) := by rw [IntKind.wrap_u32]; omega
  have h7 : IntKind.i64.wrap (P : Int) = (P : Int) := IntWalk.i64_in _ (by omega)
  have h8 : IntKind.i64.wrap (R : Int) = (R : Int) := IntWalk.i64_in _ (by omega)
  clear hP hR hk
  go_enter Tryz.func18, Tryz.ntmps18
  go_wp2_with fail
  exact bodyPost_ret (v := .agg #[.int .i64 P, .int .i64 R]) (by simp [results, Tryz.results18, go_sem]) rfl ⟨rfl, by first | exact (Ext.refl _).alloc _ | exact ((Ext.refl _).alloc _).setCell (Nat.le_refl _) _⟩
set_option maxHeartbeats 1600000 in
set_option maxRecDepth 100000 in
theorem rsame11_any (l r : List (Int × Int)) (L R : Option Addr) (lc rc : Nat) (w : World) (hL : Rd kEdge w (.slice L l.length lc) l) (hR : Rd kEdge w (.slice R r.length rc) r) (hl : l.length ≤ 900) :
    Calls Tryz.prog 19 #[.slice L l.length lc, .slice R r.length rc] w fun ed w' => ed = .returned (.bool (decide (l = r))) ∧ Ext w w' := by
  have HL := Lib.hid hL
  have HR := Lib.hid hR
  have hl' : (l.length : Int) ≤ 900 := by omega
  clear hL hR
  go_enter Tryz.func19, Tryz.ntmps19
  by_cases hlr : l.length = r.length
  · have hlr' : (r.length : Int) = (l.length : Int) := by omega
    have hne : ((l.length : Int) != (l.length : Int)) = false := by simp
    have HLR := Lib.hid hlr
    rw [← hlr] at HR ⊢
    clear hlr hlr'
    go_wp2_with fail
    go_loopw [5] (fun i wr => ∃ k : Nat, k ≤ l.length ∧ i = .int .i64 k ∧ (∀ j, j < k → l.getD j (0, 0) = r.getD j (0, 0)) ∧ Ext w wr) (fun i _ => l.length - (intOf i).toNat)
    case atStart => exact ⟨0, Nat.zero_le _, rfl, by simp, Ext.refl _⟩
    case round =>
      obtain ⟨k, hk, rfl, hno, hX⟩ := hrel
      have HX := Lib.hid hX
      have HNO := Lib.hid hno
      have hk0 : (0 : Int) ≤ k := by omega
      clear hX hno
      by_cases hlt : k < l.length
      · have hlt' : (k : Int) < l.length := by omega
        obtain ⟨bx, ox, rfl, hcx⟩ := Rd.edges (HL.out.ext HX.out) (by omega)
        obtain ⟨by_, oy, rfl, hcy⟩ := Rd.edges (HR.out.ext HX.out) (by have := HLR.out; omega)
        obtain ⟨x0, x1⟩ := hcx k hlt
        obtain ⟨y0, y1⟩ := hcy k (by have := HLR.out; omega)
        obtain ⟨⟨a, b⟩, hab⟩ : ∃ x, l.getD k (0, 0) = x := ⟨_, rfl⟩
        obtain ⟨⟨c, d⟩, hcd⟩ : ∃ x, r.getD k (0, 0) = x := ⟨_, rfl⟩
        rw [hab] at x0 x1
        rw [hcd] at y0 y1
        simp only at x0 x1 y0 y1
        have HAB := Lib.hid (And.intro hab hcd)
        have KS : Hid (∀ w', Ext wr w' → w'.cell? ⟨bx, ox + k * 2, none⟩ = some (.int .i64 a) ∧ w'.cell? ⟨bx, ox + k * 2 + 1, none⟩ = some (.int .i64 b) ∧ w'.cell? ⟨by_, oy + k * 2, none⟩ = some (.int .i64 c) ∧ w'.cell? ⟨by_, oy + k * 2 + 1, none⟩ = some (.int .i64 d)) := Lib.hid (fun w' hE => ⟨hE.cell x0, hE.cell x1, hE.cell y0, hE.cell y1⟩)
        clear hcx hcy x0 x1 y0 y1 hab hcd
        by_cases hq : a = c ∧ b = d
        · obtain ⟨rfl, rfl⟩ := hq
          go_wp2_with fail
          refine wp_region_class (Ext wr) (by kernel_rfl) (by kernel_rfl) (Ext.refl _).drew ?_
          try simp only [List.append_eq, List.cons_append, List.nil_append]
          repeat (first
            | go_big_quiet_skip
            | (go_big_quiet_want
               first
               | (go_big_quiet_op; go_big_quiet_on)
               | (unfold Oper.quiet
                  apply Exists.intro
                  refine ⟨fun w' hC => ?_, ?_⟩
                  · (obtain ⟨k1, k2, k3, k4⟩ := KS.out w' hC
                     unfold Oper.quietAt
                     go_simp
                     first
                     | exact rfl)
                  go_simp
                  go_big_quiet_on)))
          refine wpQuiet_nil ?_
          intro w9 hC9
          go_wp2_with fail
          go_roundw
          case rel => exact ⟨k + 1, by omega, by go_num, fun j hj => by
            by_cases e : j = k
            · subst e; rw [HAB.out.1, HAB.out.2]
            · exact HNO.out j (by omega), HX.out.trans hC9⟩
          case measure => simp [intOf]; omega
        · have HNE : Hid (l ≠ r) := Lib.hid fun e => hq (by
            have h1 := HAB.out.1
            rw [e, HAB.out.2] at h1
            cases h1
            exact ⟨rfl, rfl⟩)
          by_cases hac : a = c
          · subst hac
            have hbd : b ≠ d := fun e => hq ⟨rfl, e⟩
            have hb1 : (b == d) = false := by simp [hbd]
            have hb2 : decide (b = d) = false := decide_eq_false hbd
            have hb3 : (b != d) = true := by simp [hbd]
            clear hq
            go_wp2_with fail
            refine wp_region_class (Ext wr) (by kernel_rfl) (by kernel_rfl) (Ext.refl _).drew ?_
            try simp only [List.append_eq, List.cons_append, List.nil_append]
            repeat (first
              | go_big_quiet_skip
              | (go_big_quiet_want
                 first
                 | (go_big_quiet_op; go_big_quiet_on)
                 | (unfold Oper.quiet
                    apply Exists.intro
                    refine ⟨fun w' hC => ?_, ?_⟩
                    · (obtain ⟨k1, k2, k3, k4⟩ := KS.out w' hC
                       unfold Oper.quietAt
                       go_simp
                       first
                       | exact rfl)
                    go_simp
                    go_big_quiet_on)))
            refine wpQuiet_nil ?_
            intro w9 hC9
            go_wp2_with fail
            go_ret
            exact ⟨ret_bool (by rw [decide_eq_false HNE.out]), HX.out.trans hC9⟩
          · have hb1 : (a == c) = false := by simp [hac]
            have hb2 : decide (a = c) = false := decide_eq_false hac
            have hb3 : (a != c) = true := by simp [hac]
            clear hq
            go_wp2_with fail
            refine wp_region_class (Ext wr) (by kernel_rfl) (by kernel_rfl) (Ext.refl _).drew ?_
            try simp only [List.append_eq, List.cons_append, List.nil_append]
            repeat (first
              | go_big_quiet_skip
              | (go_big_quiet_want
                 first
                 | (go_big_quiet_op; go_big_quiet_on)
                 | (unfold Oper.quiet
                    apply Exists.intro
                    refine ⟨fun w' hC => ?_, ?_⟩
                    · (obtain ⟨k1, k2, k3, k4⟩ := KS.out w' hC
                       unfold Oper.quietAt
                       go_simp
                       first
                       | exact rfl)
                    go_simp
                    go_big_quiet_on)))
            refine wpQuiet_nil ?_
            intro w9 hC9
            go_wp2_with fail
            go_ret
            exact ⟨ret_bool (by rw [decide_eq_false HNE.out]), HX.out.trans hC9⟩
      · obtain rfl : k = l.length := by omega
        have heq : l = r := by
          apply List.ext_getElem?
          intro i
          by_cases hi : i < l.length
          · have h9 := HNO.out i hi
            rw [List.getD_eq_getElem?_getD, List.getD_eq_getElem?_getD, List.getElem?_eq_getElem hi, List.getElem?_eq_getElem (by rw [← HLR.out]; exact hi)] at h9
            rw [List.getElem?_eq_getElem hi, List.getElem?_eq_getElem (by rw [← HLR.out]; exact hi)]
            exact congrArg some h9
          · rw [List.getElem?_eq_none (by omega), List.getElem?_eq_none (by rw [← HLR.out]; omega)]
        have HEQ := Lib.hid heq
        clear heq
        go_wp2_with fail
        go_ret
        exact ⟨ret_bool (by rw [decide_eq_true HEQ.out]), HX.out⟩
  · have hne : ((l.length : Int) != (r.length : Int)) = true := by simp; omega
    have HN : Hid (l ≠ r) := Lib.hid (fun e => hlr (by rw [e]))
    clear hlr
    go_wp2_with fail
    go_ret
    exact ⟨ret_bool (by rw [decide_eq_false HN.out]), Ext.refl _⟩
end Go.Proofs.YtkpbanfpnilifaaGreat

/- The document's Count. -/
namespace Go.Proofs.YtkpbanfpnilifaaGreat
open Go.RowKit Go.Proofs.YtkpbanfpnilifaaGreat.Plain

end Go.Proofs.YtkpbanfpnilifaaGreat

/- The document's Bound (ref06) and Once (ref07). -/
namespace Go.Proofs.YtkpbanfpnilifaaGreat
open Go.BigFrame
open Go.RowKit Go.Proofs.YtkpbanfpnilifaaGreat.Plain

end Go.Proofs.YtkpbanfpnilifaaGreat

/- The document's Once (ref07), of whatever list. -/
namespace Go.Proofs.YtkpbanfpnilifaaGreat
open Go.BigFrame
open Go.RowKit Go.Proofs.YtkpbanfpnilifaaGreat.Plain

/-- is each number from 0 to below n there once? -/
def Plain.onceB (l : List Int) (n : Nat) : Bool := decide (l.length = n) && l.all (fun x => decide (0 ≤ x) && decide (x < n)) && (List.range n).all (fun k => decide ((k : Int) ∈ l))
theorem Plain.perm_of_all : ∀ (n : Nat) (os : List Nat), os.length = n → (∀ k, k < n → k ∈ os) → os.Perm (List.range n)
  | 0, os, h, _ => by rw [List.eq_nil_of_length_eq_zero h]; exact List.Perm.refl _
  | n + 1, os, h, ha => by
    obtain ⟨a, b, rfl⟩ := List.append_of_mem (ha n (by omega))
    have h1 : (a ++ b).length = n := by rw [List.length_append, List.length_cons] at h; rw [List.length_append]; omega
    have h2 := Plain.perm_of_all n (a ++ b) h1 (fun k hk => by
      have h3 := ha k (by omega)
      rw [List.mem_append, List.mem_cons] at h3
      rw [List.mem_append]
      rcases h3 with h3 | h3 | h3
      · exact .inl h3
      · omega
      · exact .inr h3)
    rw [List.range_succ]
    exact (List.perm_middle (l₁ := a) (l₂ := b) (a := n)).trans ((h2.cons n).trans (List.perm_append_comm (l₁ := [n]) (l₂ := List.range n)))
theorem Plain.onceB_iff (l : List Int) (n : Nat) : onceB l n = true ↔ ∃ os : List Nat, l = zs os ∧ os.Perm (List.range n) := by
  unfold onceB
  rw [Bool.and_eq_true, Bool.and_eq_true, decide_eq_true_eq, List.all_eq_true, List.all_eq_true]
  constructor
  · rintro ⟨⟨h1, h2⟩, h3⟩
    have hz : l = zs (l.map Int.toNat) := by
      unfold zs
      rw [List.map_map]
      conv => lhs; rw [← List.map_id l]
      refine List.map_congr_left fun x hx => ?_
      have := h2 x hx
      rw [Bool.and_eq_true, decide_eq_true_eq] at this
      show x = ((x.toNat : Nat) : Int)
      omega
    refine ⟨l.map Int.toNat, hz, perm_of_all n _ (by rw [List.length_map]; exact h1) fun k hk => ?_⟩
    have h4 := h3 k (List.mem_range.2 hk)
    rw [decide_eq_true_eq] at h4
    exact List.mem_map.2 ⟨_, h4, by simp⟩
  · rintro ⟨os, rfl, hp⟩
    refine ⟨⟨by rw [zs_len, hp.length_eq, List.length_range], fun x hx => ?_⟩, fun k hk => ?_⟩
    · unfold zs at hx
      obtain ⟨k, hk, rfl⟩ := List.mem_map.1 hx
      have := List.mem_range.1 (hp.mem_iff.1 hk)
      rw [Bool.and_eq_true, decide_eq_true_eq, decide_eq_true_eq]
      omega
    · rw [decide_eq_true_eq]
      unfold zs
      exact List.mem_map.2 ⟨k, hp.mem_iff.2 hk, rfl⟩

end Go.Proofs.YtkpbanfpnilifaaGreat

/- The document's Passes, Digit, Sorted (ref10). -/
namespace Go.Proofs.YtkpbanfpnilifaaGreat
open Go.BigFrame
open Go.RowKit Go.Proofs.YtkpbanfpnilifaaGreat.Plain

theorem Plain.passesP_no (b : Int) (h : b < 1 ∨ 16 < b) : passesP b = 0 := by unfold passesP; rw [if_pos h]
set_option maxHeartbeats 1600000 in
set_option maxRecDepth 100000 in
theorem rpasses_any (b : Int) (w : World) (hb : in64 b) :
    Calls Tryz.prog 36 #[.int .i64 b] w fun ed w' => ed = .returned (.int .i64 (passesP b : Nat)) ∧ w = w' := by
  unfold in64 at hb
  by_cases h : b < 1 ∨ 16 < b
  · have HR := Lib.hid (passesP_no b h)
    rw [HR.out]
    go_enter Tryz.func36, Tryz.ntmps36
    by_cases h1 : b < 1
    · have hd1 : decide (b < 1) = true := decide_eq_true h1
      go_wp2_with fail
      all_goals go_ret
      all_goals exact ⟨ret_int rfl, rfl⟩
    · have hd1 : decide (b < 1) = false := decide_eq_false h1
      have hd2 : decide (16 < b) = true := decide_eq_true (by omega)
      go_wp2_with fail
      all_goals go_ret
      all_goals exact ⟨ret_int rfl, rfl⟩
  · have h9 : b = 1 ∨ b = 2 ∨ b = 3 ∨ b = 4 ∨ b = 5 ∨ b = 6 ∨ b = 7 ∨ b = 8 ∨ b = 9 ∨ b = 10 ∨ b = 11 ∨ b = 12 ∨ b = 13 ∨ b = 14 ∨ b = 15 ∨ b = 16 := by omega
    clear h hb
    go_enter Tryz.func36, Tryz.ntmps36
    rcases h9 with rfl | rfl | rfl | rfl | rfl | rfl | rfl | rfl | rfl | rfl | rfl | rfl | rfl | rfl | rfl | rfl
    all_goals
      go_wp2_with fail
      go_ret
      exact ⟨ret_int (by first | rfl | decide +kernel), rfl⟩

theorem Plain.passes_mul (P B : Nat) (h1 : 1 ≤ B) (h2 : B ≤ 16) (hp : P < passesP B) : P * B < 32 := by
  have h := passesP_enough B h1 h2
  have : P * B ≤ (passesP B - 1) * B := Nat.mul_le_mul_right _ (by omega)
  omega
end Go.Proofs.YtkpbanfpnilifaaGreat

/- The document's Sort (ref10).  -/
namespace Go.Proofs.YtkpbanfpnilifaaGreat
open Go.BigFrame
open Go.RowKit Go.Proofs.YtkpbanfpnilifaaGreat.Plain

/-- the order of all keys, how many steps, an error -/
def Plain.sortP (l : List Nat) (b blk g m : Int) (picks : List (Int × Int)) : List Nat × Nat × Int :=
  if passesP b = 0 then ([], 0, 1) else if (stepsP l.length blk g m picks).2 ≠ 0 then ([], 0, (stepsP l.length blk g m picks).2) else (sortL l, (stepsP l.length blk g m picks).1 * passesP b, 0)
theorem Plain.insAll_len (f : Nat → Nat) : ∀ (n : Nat) (l : List Nat), l.length = n → (insAll f l).length = n
  | 0, l, h => by rw [List.eq_nil_of_length_eq_zero h]; rfl
  | n + 1, l, h => by
    obtain ⟨m, x, rfl⟩ := list_snoc l (by intro e; subst e; simp at h)
    rw [List.length_append, List.length_singleton] at h
    rw [insAll_snoc, insP_len, insAll_len f n m (by omega)]
theorem Plain.insAll_mem (f : Nat → Nat) (l : List Nat) : (insAll f l).Perm l := (insAll_good f (fun _ _ => True) _ l rfl (List.pairwise_of_forall fun _ _ => trivial)).1
theorem Plain.passesP_le (b : Int) : passesP b ≤ 32 := by
  by_cases h : b < 1 ∨ 16 < b
  · rw [passesP_no b h]; omega
  · obtain ⟨B, rfl⟩ : ∃ B : Nat, b = B := ⟨b.toNat, by omega⟩
    exact (passesP_enough B (by omega) (by omega)).2.2.2
set_option maxHeartbeats 3200000 in
set_option maxRecDepth 100000 in
theorem rsort_any (l : List Nat) (L : Option Addr) (lc : Nat) (b blk g m : Int) (Ap : Option Addr) (cp : Nat) (picks : List (Int × Int)) (w : World) (hL : Rd kU32 w (.slice L l.length lc) (zs l)) (hp : Rd kPk w (.slice Ap picks.length cp) picks) (hl : l.length ≤ 900) (hb : in64 b) (hk : in64 blk) (hg : in64 g) (hm : in64 m) :
    Calls Tryz.prog 24 #[.slice L l.length lc, .int .i64 b, .int .i64 blk, planV g m Ap picks.length cp] w (OrdSaid (sortP l b blk g m picks) w) := by
  have HP := Lib.hid hp
  have HL := Lib.hid hL
  have HG := Lib.hid (And.intro hg (And.intro hm (And.intro hb hk)))
  have hl' : (l.length : Int) ≤ 900 := by omega
  clear hp hL hg hm hb hk
  obtain ⟨N, hN⟩ : ∃ N, passesP b = N := ⟨_, rfl⟩
  have HN := Lib.hid hN
  have hN1 : N ≤ 32 := by rw [← hN]; exact passesP_le b
  go_enter Tryz.func24, Tryz.ntmps24
  go_wp2_with fail
  refine (rpasses_any b _ HG.out.2.2.1).mono ?_
  rintro ed w1 ⟨rfl, rfl⟩
  rw [hN]
  by_cases h0 : N = 0
  · subst h0
    have HE : Hid (sortP l b blk g m picks = ([], 0, 1)) := Lib.hid (by unfold sortP; rw [if_pos hN])
    clear hN
    go_wp2_with fail
    exact bodyPost_ret (v := .tuple #[.slice none 0 0, .int .i64 0, .int .i64 1]) (by simp [results, Tryz.results24, go_sem]) rfl (by rw [HE.out]; exact ⟨none, 0, rfl, Ow.nil _ _, (Ext.refl _).alloc _⟩)
  have hne : ((N : Int) == 0) = false := by simp; omega
  have HF : Hid (sortP l b blk g m picks = if (stepsP l.length blk g m picks).2 ≠ 0 then ([], 0, (stepsP l.length blk g m picks).2) else (sortL l, (stepsP l.length blk g m picks).1 * N, 0)) := Lib.hid (by unfold sortP; rw [hN, if_neg h0])
  clear hN h0
  go_wp2_with fail
  refine (rsums_any l L lc blk g m Ap cp picks _ (HL.out.ext ((Ext.refl _).alloc _)) (HP.out.ext ((Ext.refl _).alloc _)) hl HG.out.2.2.2 HG.out.1 HG.out.2.1).mono ?_
  have herr := stepsP_err l.length blk g m picks
  have hbd : (stepsP l.length blk g m picks).2 = 0 → (stepsP l.length blk g m picks).1 ≤ 60000 := fun h => (stepsP_bd l.length blk g m picks hl h).1
  unfold sumsP
  obtain ⟨⟨st, er⟩, hr⟩ : ∃ x, stepsP l.length blk g m picks = x := ⟨_, rfl⟩
  rw [hr] at HF herr hbd ⊢
  simp only at HF herr hbd ⊢
  rcases herr with rfl | rfl
  · rw [if_neg (by simp)] at HF
    rw [if_neg (by simp)]
    rintro ed w1 ⟨Lo, lo, rfl, hO, hE1⟩
    simp only at hO ⊢
    have HX1 := Lib.hid (((Ext.refl w).alloc _).trans hE1)
    have hst : st ≤ 60000 := hbd rfl
    have hz1 := HX1.out.size
    have hmul : st * N ≤ 60000 * 32 := Nat.mul_le_mul hst hN1
    obtain ⟨M, hM⟩ : ∃ M, st * N = M := ⟨_, rfl⟩
    have hM2 : (st : Int) * (N : Int) = (M : Int) := by rw [← hM]; simp
    rw [hM] at HF hmul
    have hM9 : IntKind.i64.wrap (M : Int) = (M : Int) := IntWalk.i64_in _ (by omega)
    clear hO hE1 hr hbd hM hmul hst
    go_wp2_with fail
    obtain ⟨f, hf⟩ : ∃ f : Nat → Nat, (fun i => l.getD i 0) = f := ⟨_, rfl⟩
    have HFN := Lib.hid hf
    clear hf
    go_loopw [15, 16] (fun v i wr => ∃ k : Nat, k ≤ l.length ∧ i = .int .i64 k ∧ Ow kInt w1.heap.size wr v (zs (insAll f (List.range k))) ∧ Ext w1 wr) (fun _ i _ => l.length - (intOf i).toNat)
    case atStart => exact ⟨0, Nat.zero_le _, rfl, Ow.nil _ _, Ext.refl _⟩
    case round =>
      obtain ⟨k, hk, rfl, hO, hX⟩ := hrel
      have HO := Lib.hid hO
      have HX := Lib.hid hX
      have hk0 : (0 : Int) ≤ k := by omega
      clear hO hX
      by_cases hlt : k < l.length
      · have hlt' : (k : Int) < l.length := by omega
        have hins := insAll_snoc f (List.range k) k
        rw [← List.range_succ] at hins
        have hlen := insAll_len f k (List.range k) List.length_range
        have hmem : ∀ u ∈ insAll f (List.range k), u < k := fun u hu => List.mem_range.1 ((insAll_mem f (List.range k)).mem_iff.1 hu)
        obtain ⟨bx, ox, rfl, z0, hxl⟩ := u32_at (HL.out.ext (HX1.out.trans HX.out)) k hlt
        obtain ⟨out, hout⟩ : ∃ out, insAll f (List.range k) = out := ⟨_, rfl⟩
        rw [hout] at hins hlen hmem HO
        have hfk : f k = l.getD k 0 := by rw [← HFN.out]
        obtain ⟨x, hx⟩ : ∃ x, l.getD k 0 = x := ⟨_, rfl⟩
        rw [hx] at z0 hxl hfk
        have HZ0 := Lib.hid z0
        have HINS := Lib.hid hins
        have HMEM := Lib.hid hmem
        have HFK := Lib.hid hfk
        have HLEN := Lib.hid hlen
        obtain ⟨A, c, hv, hc⟩ := HO.out.slice
        rw [zs_len, hlen] at hv hc
        subst hv
        have hzx := HX.out.size
        have hkc : (k : Int) ≤ c := by omega
        have lbx : bx < wr.heap.size := World.block_lt_of_cell? _ _ z0
        clear hins hlen hmem hout hx hfk
        go_upto_block 2 with fail
        go_cut [17] from 41 to 59 (fun c wx => ∃ q : Nat, q ≤ k ∧ c = .int .i64 q ∧ backTo f out k k = q ∧ Ext wr wx)
        case first =>
          go_wp2_with fail
          go_loopw [17] (fun c wq => ∃ q : Nat, q ≤ k ∧ c = .int .i64 q ∧ backTo f out k k = backTo f out k q ∧ Ext wr wq) (fun c _ => (intOf c).toNat)
          case atStart => exact ⟨k, Nat.le_refl _, rfl, rfl, Ext.refl _⟩
          case round =>
            obtain ⟨q, hq, rfl, hbk, hXq⟩ := hrel
            have HXq := Lib.hid hXq
            have hq0 : (0 : Int) ≤ q := by omega
            clear hXq
            rename World => wq
            rcases q with _ | j
            · have HBK : Hid (backTo f out k k = 0) := Lib.hid hbk
              have hgn : decide ((0 : Int) < 0) = false := by decide
              clear hbk
              go_wp2_with fail
              refine wp_region_class (Ext wq) (by kernel_rfl) (by kernel_rfl) (Ext.refl _).drew ?_
              try simp only [List.append_eq, List.cons_append, List.nil_append]
              repeat (first
                | go_big_quiet_skip
                | (go_big_quiet_want
                   first
                   | (go_big_quiet_op; go_big_quiet_on)
                   | (unfold Oper.quiet
                      apply Exists.intro
                      refine ⟨fun w' hC => ?_, ?_⟩
                      · (skip
                         unfold Oper.quietAt
                         go_simp
                         first
                         | exact rfl)
                      go_simp
                      go_big_quiet_on)))
              refine wpQuiet_nil ?_
              intro w9 hC9
              go_wp2_with fail
              go_meet
              exact ⟨0, Nat.zero_le _, rfl, HBK.out, HXq.out.trans hC9⟩
            · have hjk : j < k := by omega
              have hol : j < (zs out).length := by rw [zs_len, HLEN.out]; exact hjk
              obtain ⟨bo, oo, rfl, hco⟩ := (ints_of_rd (HO.out.rd.ext HXq.out)).cells (by omega)
              have y0 := hco j hol
              rw [zs_getD] at y0
              have hum : out.getD j 0 ∈ out := by rw [List.getD_eq_getElem?_getD, List.getElem?_eq_getElem (by have := HLEN.out; omega)]; exact List.getElem_mem _
              have hul := HMEM.out _ hum
              have hb1 : backTo f out k (j + 1) = if f k < f (out.getD j 0) then backTo f out k j else j + 1 := rfl
              obtain ⟨u, hu⟩ : ∃ u, out.getD j 0 = u := ⟨_, rfl⟩
              rw [hu] at y0 hul hb1
              obtain ⟨bx', ox', e9, y1, hyl⟩ := u32_at (HL.out.ext ((HX1.out.trans HX.out).trans HXq.out)) u (by omega)
              cases e9
              have hfu : f u = l.getD u 0 := by rw [← HFN.out]
              obtain ⟨a, ha⟩ : ∃ a, l.getD u 0 = a := ⟨_, rfl⟩
              rw [ha] at y1 hyl hfu
              rw [HFK.out, hfu] at hb1
              have y2 := HXq.out.cell HZ0.out
              have KS : Hid (∀ w', Ext wq w' → w'.cell? ⟨bo, oo + j, none⟩ = some (.int .i64 u) ∧ w'.cell? ⟨bx, ox + u, none⟩ = some (.int .u32 a) ∧ w'.cell? ⟨bx, ox + k, none⟩ = some (.int .u32 x)) := Lib.hid (fun w' hE => ⟨hE.cell y0, hE.cell y1, hE.cell y2⟩)
              have hi9 : IntKind.i64.wrap (j : Int) = (j : Int) := IntWalk.i64_in _ (by omega)
              have hj0 : (0 : Int) ≤ j := by omega
              have hj1 : (j : Int) < k := by omega
              have hgt : (0 : Int) < (j : Int) + 1 := by omega
              have hgn : decide (0 < j + 1) = true := by simp
              have hu0 : (0 : Int) ≤ u := by omega
              have hu1 : (u : Int) < l.length := by omega
              have hj2 : (j : Int) ≤ 900 := by omega
              have HB1 := Lib.hid hb1
              have HBK := Lib.hid hbk
              clear hbk hb1 hco hol hum hul hu ha hfu y0 y1 y2
              by_cases hcmp : x < a
              · have hcm : decide ((x : Int) < (a : Int)) = true := decide_eq_true (by omega)
                have hcn : decide (x < a) = true := decide_eq_true hcmp
                have hcx : (x : Int) < a := by omega
                rw [if_pos hcmp] at HB1
                clear hxl hyl
                go_wp2_with fail
                refine wp_region_class (Ext wq) (by kernel_rfl) (by kernel_rfl) (Ext.refl _).drew ?_
                try simp only [List.append_eq, List.cons_append, List.nil_append]
                repeat (first
                  | go_big_quiet_skip
                  | (go_big_quiet_want
                     first
                     | (go_big_quiet_op; go_big_quiet_on)
                     | (unfold Oper.quiet
                        apply Exists.intro
                        refine ⟨fun w' hC => ?_, ?_⟩
                        · (obtain ⟨k1, k2, k3⟩ := KS.out w' hC
                           unfold Oper.quietAt
                           go_simp
                           first
                           | exact rfl)
                        go_simp
                        go_big_quiet_on)))
                refine wpQuiet_nil ?_
                intro w9 hC9
                go_wp2_with fail
                go_roundw
                case rel => exact ⟨j, by omega, by first | rfl | go_num, by rw [HBK.out, HB1.out], HXq.out.trans hC9⟩
                case measure => simp [intOf]
              · have hcm : decide ((x : Int) < (a : Int)) = false := decide_eq_false (by omega)
                have hcn : decide (x < a) = false := decide_eq_false hcmp
                rw [if_neg hcmp] at HB1
                clear hxl hyl
                go_wp2_with fail
                refine wp_region_class (Ext wq) (by kernel_rfl) (by kernel_rfl) (Ext.refl _).drew ?_
                try simp only [List.append_eq, List.cons_append, List.nil_append]
                repeat (first
                  | go_big_quiet_skip
                  | (go_big_quiet_want
                     first
                     | (go_big_quiet_op; go_big_quiet_on)
                     | (unfold Oper.quiet
                        apply Exists.intro
                        refine ⟨fun w' hC => ?_, ?_⟩
                        · (obtain ⟨k1, k2, k3⟩ := KS.out w' hC
                           unfold Oper.quietAt
                           go_simp
                           first
                           | exact rfl)
                        go_simp
                        go_big_quiet_on)))
                refine wpQuiet_nil ?_
                intro w9 hC9
                go_wp2_with fail
                go_meet
                exact ⟨j + 1, by omega, by first | rfl | go_num, by rw [HBK.out, HB1.out], HXq.out.trans hC9⟩
        case rest =>
          obtain ⟨q, hq, rfl, hbq, hXq⟩ := hcut
          generalize wc = w9 at *
          have HXW := Lib.hid hXq
          have HBQ := Lib.hid hbq
          have hqk : (q : Int) ≤ k := by omega
          have hqc : (q : Int) ≤ c := by omega
          have hq1 : (0 : Int) ≤ q := by omega
          clear hXq hbq
          have HT : Hid (Rd kInt w9 (.slice A q c) (zs (out.take q))) := Lib.hid (by rw [zs_take9]; exact Rd.take (HO.out.rd.ext HXW.out) q c (by rw [zs_len, HLEN.out]; omega) (by omega))
          have HD : Hid (Rd kInt w9 (.slice (if c = q then A else Option.map (fun x => x.add q) A) (k - q) (c - q)) (zs (out.drop q))) := Lib.hid (by rw [zs_drop9]; exact Rd.sliced (HO.out.rd.ext HXW.out) rfl q (by rw [zs_len, HLEN.out]; omega))
          have HFIN : Hid (zs (out.take q) ++ [(k : Int)] ++ zs (out.drop q) = zs (insAll f (List.range (k + 1)))) := Lib.hid (by rw [HINS.out]; unfold insP; rw [HLEN.out, HBQ.out, zs_app, zs_app]; rfl)
          have HKK : Hid (in64 (k : Int) ∧ k ≤ 900) := Lib.hid ⟨in64_nat k (by omega), by omega⟩
          have HZ9 : Hid (w1.heap.size ≤ w9.heap.size) := Lib.hid (by have h8 := HX.out.size; have h9 := Ext.size HXW.out; omega)
          have HXX : Hid (Ext w1 w9) := Lib.hid (HX.out.trans HXW.out)
          go_upto_region 13 with fail
          go_region_law (first
            | (refine kInt.step_app (by rfl) (.tmp 60) (.tmp 63) (by rfl) (by rfl) w9.heap.size _ [] (by rfl) (empty_at (by first | exact heap_alloc_new _ _ | exact (heap_alloc_old _ _ (by first | (simp; done) | (simp; omega) | omega)).trans (heap_alloc_new _ _) | exact heap_alloc_at (by first | (simp; done) | (simp; omega) | omega) | exact (heap_alloc_old _ _ (by first | (simp; done) | (simp; omega) | omega)).trans (heap_alloc_at (by first | (simp; done) | (simp; omega) | omega))) (by first | omega | (simp; done) | (simp; omega))) _ (zs (out.take q)) (by rfl) (Rd.ext HT.out (by repeat (first | (with_reducible exact Ext.refl _) | (with_reducible assumption) | refine Ext.alloc ?_ _ | refine Ext.drew ?_ | refine Ext.drewN ?_ _))) (by rw [zs_len, List.length_take, HLEN.out, List.length_nil]; have := HKK.out.2; omega) (by first | omega | (simp; done) | (simp; omega)) ?_
               intro v5 w5 hown5 hgrow5 hat5
               have hx5 : Ext w9 w5 := Ext.grown (by repeat (first | (with_reducible exact Ext.refl _) | (with_reducible assumption) | refine Ext.alloc ?_ _ | refine Ext.drew ?_ | refine Ext.drewN ?_ _)) hgrow5 (fun b hb => by cases hb; simp)
               rw [List.nil_append] at hown5
               have hs5 := hx5.size)
            | (refine kInt.step_app (by rfl) (.tmp 64) (.tmp 66) (by rfl) (by rfl) w9.heap.size _ (zs (out.take q)) (by rfl) (Ow.ext hown5 (by repeat (first | (with_reducible exact Ext.refl _) | (with_reducible assumption) | refine Ext.alloc ?_ _ | refine Ext.drew ?_ | refine Ext.drewN ?_ _))) _ [(k : Int)] (by rfl) (one_at (by first | exact heap_alloc_new _ _ | exact (hgrow5.block _ (by first | (simp; done) | (simp; omega) | omega) (by simp [Value.ownBlock])).trans (by first | exact heap_alloc_new _ _ | exact (heap_alloc_old _ _ (by first | (simp; done) | (simp; omega) | omega)).trans (heap_alloc_new _ _) | exact heap_alloc_at (by first | (simp; done) | (simp; omega) | omega) | exact (heap_alloc_old _ _ (by first | (simp; done) | (simp; omega) | omega)).trans (heap_alloc_at (by first | (simp; done) | (simp; omega) | omega)))) HKK.out.1) (by rw [zs_len, List.length_take, HLEN.out, List.length_singleton]; have := HKK.out.2; omega) (by first | omega | (simp; omega)) ?_
               intro v6 w6 hown6 hgrow6 hat6
               have hx6 : Ext w9 w6 := Ext.grown (by repeat (first | (with_reducible exact Ext.refl _) | (with_reducible assumption) | refine Ext.alloc ?_ _ | refine Ext.drew ?_ | refine Ext.drewN ?_ _)) hgrow6 (fun b hb => (hown5.lt b hb).1)
               have hs6 := hx6.size)
            | (refine kInt.step_app (by rfl) (.tmp 67) (.tmp 70) (by rfl) (by rfl) w9.heap.size _ (zs (out.take q) ++ [(k : Int)]) (by rfl) (Ow.ext hown6 (by repeat (first | (with_reducible exact Ext.refl _) | (with_reducible assumption) | refine Ext.alloc ?_ _ | refine Ext.drew ?_ | refine Ext.drewN ?_ _))) _ (zs (out.drop q)) (by rfl) (Rd.ext HD.out (by repeat (first | (with_reducible exact Ext.refl _) | (with_reducible assumption) | refine Ext.alloc ?_ _ | refine Ext.drew ?_ | refine Ext.drewN ?_ _))) (by rw [List.length_append, zs_len, zs_len, List.length_take, List.length_drop, HLEN.out, List.length_singleton]; have := HKK.out.2; omega) (by first | omega | (simp; omega)) ?_
               intro v7 w7 hown7 hgrow7 hat7
               have hx7 : Ext w9 w7 := Ext.grown (by repeat (first | (with_reducible exact Ext.refl _) | (with_reducible assumption) | refine Ext.alloc ?_ _ | refine Ext.drew ?_ | refine Ext.drewN ?_ _)) hgrow7 (fun b hb => (hown6.lt b hb).1))
            | fail)
          all_goals go_wp2_with fail
          all_goals go_roundw
          all_goals first
            | exact ⟨k + 1, by omega, by go_num, by rw [HFIN.out] at hown7; exact hown7.mono HZ9.out, HXX.out.trans hx7⟩
            | (simp [intOf]; omega)
      · obtain rfl : k = l.length := by omega
        obtain ⟨Lz, lz, hv, hlz⟩ := HO.out.slice
        subst hv
        have HXX := Lib.hid (HX1.out.trans HX.out)
        have HSL : Hid (sortL l = insAll f (List.range l.length)) := Lib.hid (by rw [← HFN.out]; rfl)
        have hM0 : (0 : Int) ≤ M := by omega
        go_wp2_with fail
        refine (rpasses_any b _ HG.out.2.2.1).mono ?_
        rintro ed w9 ⟨rfl, rfl⟩
        rw [HN.out]
        go_wp2_with fail
        refine bodyPost_ret (v := .tuple #[.slice Lz (zs (insAll f (List.range l.length))).length lz, .int .i64 M, .int .i64 0]) (by simp [results, Tryz.results24, go_sem]) rfl (by rw [HF.out, HSL.out]; exact ⟨Lz, lz, by rw [zs_len], by have := HO.out.mono (B' := w.heap.size) (by omega); rw [zs_len] at this; exact this, HXX.out⟩)
  · rw [if_pos (by decide)] at HF
    rw [if_pos (by decide)]
    rintro ed w1 ⟨Lo, lo, rfl, hO, hE1⟩
    simp only at hO ⊢
    have HX1 := Lib.hid (((Ext.refl w).alloc _).trans hE1)
    clear hO hE1
    go_wp2_with fail
    exact bodyPost_ret (v := .tuple #[.slice none 0 0, .int .i64 0, .int .i64 1]) (by simp [results, Tryz.results24, go_sem]) rfl (by rw [HF.out]; exact ⟨none, 0, rfl, Ow.nil _ _, HX1.out⟩)
end Go.Proofs.YtkpbanfpnilifaaGreat

/- The document's Where, Pack, Part, Spread (ref09). -/
namespace Go.Proofs.YtkpbanfpnilifaaGreat
open Go.BigFrame
open Go.RowKit Go.Proofs.YtkpbanfpnilifaaGreat.Plain

theorem Plain.sumsP_steps (l : List Nat) (b g m : Int) (picks : List (Int × Int)) : (sumsP l b g m picks).2.2.2 = (stepsP l.length b g m picks).2 ∧ ((stepsP l.length b g m picks).2 = 0 → (sumsP l b g m picks).2.2.1 = (stepsP l.length b g m picks).1) := by
  unfold sumsP
  split
  · rename_i h; exact ⟨rfl, fun h0 => absurd h0 h⟩
  · rename_i h
    have h0 : (stepsP l.length b g m picks).2 = 0 := by simpa using h
    exact ⟨h0.symm, fun _ => rfl⟩
set_option maxHeartbeats 1600000 in
set_option maxRecDepth 100000 in
theorem rwhere_any (keep : List Bool) (K : Option Addr) (kc : Nat) (b g m : Int) (Ap : Option Addr) (cp : Nat) (picks : List (Int × Int)) (w : World) (hK : Rd kBool w (.slice K keep.length kc) keep) (hp : Rd kPk w (.slice Ap picks.length cp) picks) (hl : keep.length ≤ 900) (hb : in64 b) (hg : in64 g) (hm : in64 m) :
    Calls Tryz.prog 25 #[.slice K keep.length kc, .int .i64 b, planV g m Ap picks.length cp] w (OrdSaid (whereP keep b g m picks) w) := by
  have HP := Lib.hid hp
  have HK := Lib.hid hK
  have HG := Lib.hid (And.intro hg (And.intro hm hb))
  have hl' : (keep.length : Int) ≤ 900 := by omega
  have HF : Hid (whereP keep b g m picks = if (stepsP keep.length b g m picks).2 ≠ 0 then ([], 0, (stepsP keep.length b g m picks).2) else (whereL keep, (stepsP keep.length b g m picks).1 + (ordP keep.length g m picks).2.1, 0)) := Lib.hid rfl
  have herr := stepsP_err keep.length b g m picks
  have hbd := stepsP_bd keep.length b g m picks hl
  have hsm := sumsP_steps (List.replicate keep.length 0) b g m picks
  rw [List.length_replicate] at hsm
  obtain ⟨⟨st, er⟩, hr⟩ : ∃ x, stepsP keep.length b g m picks = x := ⟨_, rfl⟩
  obtain ⟨⟨sl, stt, sst, ser⟩, hr2⟩ : ∃ x, sumsP (List.replicate keep.length 0) b g m picks = x := ⟨_, rfl⟩
  obtain ⟨⟨ou, su, eu⟩, hr3⟩ : ∃ x, ordP keep.length g m picks = x := ⟨_, rfl⟩
  rw [hr, hr3] at hbd HF
  rw [hr] at herr hsm
  rw [hr2] at hsm
  simp only at herr hbd hsm HF
  obtain ⟨rfl, hsm2⟩ := hsm
  have HR2 := Lib.hid hr2
  have HR3 := Lib.hid hr3
  have HBD : Hid (ser = 0 → st ≤ 60000 ∧ eu = 0 ∧ su ≤ 30000) := Lib.hid hbd
  have HSM : Hid (ser = 0 → sst = st) := Lib.hid hsm2
  obtain ⟨C, hmk, hmown⟩ := kU32.make 0 rfl (by show (0 : Int) ≤ 0 ∧ (0 : Int) ≤ 4294967295; omega) keep.length (by omega)
  have HMK := Lib.hid hmown
  have hmk2 : ∀ w : World, (Instr.makeSlice 22 (.int .i64 keep.length) (.int .i64 keep.length)).run Tryz.prog w = .ok (.slice (some ⟨w.heap.size, 0, none⟩) keep.length keep.length) (w.alloc (.cells C 42)) := hmk
  clear hp hK hg hm hb hr hr2 hr3 hbd hsm2 hmk hmown
  go_enter Tryz.func25, Tryz.ntmps25
  go_upto_region 1 with fail
  obtain ⟨w1, hw1⟩ : ∃ w1, w.alloc (.cells #[.int .i64 g, .int .i64 m, .slice Ap picks.length cp] 25) = w1 := ⟨_, rfl⟩
  have k0 : w1.cell? ⟨w.heap.size, 0, none⟩ = some (.int .i64 g) := by subst hw1; go_simp
  have k1 : w1.cell? ⟨w.heap.size, 1, none⟩ = some (.int .i64 m) := by subst hw1; go_simp
  have k2 : w1.cell? ⟨w.heap.size, 2, none⟩ = some (.slice Ap picks.length cp) := by subst hw1; go_simp
  have HX1 : Hid (Ext w w1) := Lib.hid (by rw [← hw1]; exact (Ext.refl w).alloc _)
  have lw1 : w.heap.size < w1.heap.size := by rw [← hw1]; simp
  rw [hw1]
  clear hw1
  go_cut [11, 12] (fun s e wx => s = .int .i64 sst ∧ e = .int .i64 ser ∧ Ext w1 wx)
  case first =>
    go_region_law (first
      | (go_simp; go_at_call 37
         have hh := rsums_any (List.replicate keep.length 0) (some ⟨w1.heap.size, 0, none⟩) keep.length b g m Ap cp picks ((w1.alloc (.cells C 42)).drew) (by
            have h9 := (HMK.out w1 0 w1.heap.size rfl (Nat.zero_le _)).rd
            rw [List.length_replicate]
            have e9 : zs (List.replicate keep.length 0) = List.replicate keep.length (0 : Int) := by unfold zs; rw [List.map_replicate]; rfl
            rw [e9]
            exact h9.ext (Ext.refl _).drew) (HP.out.ext ((HX1.out.alloc _).drew)) (by rw [List.length_replicate]; omega) HG.out.2.2 HG.out.1 HG.out.2.1
         rw [List.length_replicate] at hh
         refine hh.mono ?_
         rw [HR2.out]
         rintro ed w5 ⟨L5, l5, rfl, hO5, hE5⟩))
    all_goals go_wp2_with fail
    all_goals go_meet
    all_goals exact ⟨rfl, rfl, (((Ext.refl w1).alloc _).drew).trans hE5⟩
  case rest =>
  obtain ⟨rfl, rfl, hE2⟩ := hcut
  generalize wc = w2 at *
  replace k0 := Ext.cell hE2 k0
  replace k1 := Ext.cell hE2 k1
  replace k2 := Ext.cell hE2 k2
  have lw2 : w.heap.size < w2.heap.size := by have := hE2.size; omega
  have HX2 := Lib.hid (HX1.out.trans hE2)
  clear hE2 lw1 hmk2 HMK HX1
  rcases herr with rfl | rfl
  · obtain ⟨hb1, rfl, hb2⟩ := HBD.out rfl
    obtain rfl := HSM.out rfl
    rw [if_neg (by simp)] at HF
    have hs1 : (sst : Int) ≤ 60000 := by omega
    have hs2 : (su : Int) ≤ 30000 := by omega
    have hs10 : (0 : Int) ≤ sst := by omega
    have hs20 : (0 : Int) ≤ su := by omega
    go_wp2_with fail
    refine (rorder_any keep.length g m Ap cp picks _ (HP.out.ext HX2.out) hl HG.out.1 HG.out.2.1).mono ?_
    rw [HR3.out]
    rintro ed w3 ⟨L3, l3, rfl, hO3, hE3⟩
    have HX3 := Lib.hid (HX2.out.trans hE3)
    clear hO3 hE3 k0 k1 k2 lw2 HX2 hb1 hb2
    go_wp2_with fail
    go_loopw [15, 16] (fun v i wr => ∃ k : Nat, k ≤ keep.length ∧ i = .int .i64 k ∧ Ow kInt w3.heap.size wr v (zs (whereF keep k)) ∧ Ext w3 wr) (fun _ i _ => keep.length - (intOf i).toNat)
    case atStart => exact ⟨0, Nat.zero_le _, rfl, Ow.nil _ _, Ext.refl _⟩
    case round =>
      obtain ⟨k, hk, rfl, hO, hX⟩ := hrel
      have HO := Lib.hid hO
      have HX := Lib.hid hX
      have hk0 : (0 : Int) ≤ k := by omega
      clear hO hX
      by_cases hlt : k < keep.length
      · have hlt' : (k : Int) < keep.length := by omega
        obtain ⟨bx, ox, rfl, z0⟩ := bool_at (HK.out.ext (HX3.out.trans HX.out)) k hlt
        have lbx : bx < wr.heap.size := World.block_lt_of_cell? _ _ z0
        have hws := whereF_succ keep k
        cases hkp : kept keep k with
        | false =>
          rw [hkp] at z0 hws
          rw [if_neg (by decide), List.append_nil] at hws
          have HWS := Lib.hid hws
          clear hws hkp
          go_wp2_with fail
          go_roundw
          case rel => exact ⟨k + 1, by omega, by go_num, by rw [HWS.out]; exact HO.out, HX.out⟩
          case measure => simp [intOf]; omega
        | true =>
          rw [hkp] at z0 hws
          rw [if_pos rfl] at hws
          have HWS := Lib.hid hws
          have HLL : Hid ((zs (whereF keep k)).length + [(k : Int)].length ≤ 1048576) := Lib.hid (by rw [zs_len, List.length_singleton]; have := whereF_len keep k; omega)
          have hzx := HX.out.size
          clear hws hkp
          go_wp2_with (at_builtin; refine kInt.wpList_app (by rfl) (.tmp 52) (.tmp 54) (by rfl) (by rfl) w3.heap.size _ (zs (whereF keep k)) (by rfl) (HO.out.ext ((Ext.refl _).alloc _)) _ [(k : Int)] (by rfl) (int_list1 _ k (by omega)) HLL.out (by simp; omega) ?_; intro v' w8 hown8 hgrow8 hat8)
          have H8 := Lib.hid (And.intro hown8 (And.intro hgrow8 hat8))
          clear hown8 hgrow8 hat8
          go_wp2_with fail
          go_roundw
          case rel =>
            obtain ⟨hown8, hgrow8, hat8⟩ := H8.out
            exact ⟨k + 1, by omega, by go_num, by rw [HWS.out, zs_app]; exact hown8, Ext.grown (HX.out.alloc _) hgrow8 (fun q hq => (HO.out.lt q hq).1)⟩
          case measure => simp [intOf]; omega
      · obtain rfl : k = keep.length := by omega
        obtain ⟨Lz, lz, hv, hlz⟩ := HO.out.slice
        subst hv
        have HXX := Lib.hid (HX3.out.trans HX.out)
        go_wp2_with fail
        refine bodyPost_ret (v := .tuple #[.slice Lz (zs (whereF keep keep.length)).length lz, .int .i64 ((sst : Int) + su), .int .i64 0]) (by simp [results, Tryz.results25, go_sem]) rfl (by rw [HF.out]; exact ⟨Lz, lz, by rw [zs_len]; simp [whereL], by have := HO.out.mono (B' := w.heap.size) HX3.out.size; rw [zs_len] at this; exact this, HXX.out⟩)
  · rw [if_pos (by decide)] at HF
    go_wp2_with fail
    exact bodyPost_ret (v := .tuple #[.slice none 0 0, .int .i64 0, .int .i64 1]) (by simp [results, Tryz.results25, go_sem]) rfl (by rw [HF.out]; exact ⟨none, 0, rfl, Ow.nil _ _, HX2.out⟩)
end Go.Proofs.YtkpbanfpnilifaaGreat

/- The document's Groups, Once (ref11). -/
namespace Go.Proofs.YtkpbanfpnilifaaGreat
open Go.BigFrame
open Go.RowKit Go.Proofs.YtkpbanfpnilifaaGreat.Plain

/-- the keys, rising -/
def Plain.risingL (l : List Nat) : List Nat := (sortL l).map (fun i => l.getD i 0)
theorem Plain.sortL_length (l : List Nat) : (sortL l).length = l.length := by rw [(sortL_good l).1.length_eq, List.length_range]
theorem Plain.risingL_len (l : List Nat) : (risingL l).length = l.length := by unfold risingL; rw [List.length_map, sortL_length]
theorem Plain.risingL_rises (l : List Nat) : (risingL l).Pairwise (· ≤ ·) := by
  unfold risingL
  rw [List.pairwise_map]
  exact (sortL_good l).2.imp fun {a b} h => by omega
theorem Plain.grp_take (l : List Nat) (k : Nat) : Grp ((risingL l).take k) (grpL ((risingL l).take k)).1 (grpL ((risingL l).take k)).2 := grp_good _ _ rfl ((risingL_rises l).sublist (List.take_sublist _ _))
theorem Plain.sum_ge : ∀ (t : List Nat), (∀ i, i < t.length → 1 ≤ t.getD i 0) → t.length ≤ t.sum
  | [], _ => Nat.le_refl _
  | a :: t, h => by
    have h1 := h 0 (by simp)
    have h2 := sum_ge t fun i hi => by
      have := h (i + 1) (by simpa using hi)
      rw [List.getD_cons_succ] at this; exact this
    rw [List.getD_cons_zero] at h1
    rw [List.sum_cons, List.length_cons]; omega
theorem Plain.grp_le {ks o t : List Nat} (h : Grp ks o t) : o.length ≤ ks.length := by
  rw [← h.sum, ← h.len]
  refine sum_ge t fun i hi => ?_
  rw [h.cnt i (by rw [← h.len]; exact hi)]
  refine List.count_pos_iff.2 ((h.mem _).1 ?_)
  rw [List.getD_eq_getElem?_getD, List.getElem?_eq_getElem (by rw [← h.len]; exact hi)]
  exact List.getElem_mem _
theorem int_one (w : World) : Rd kInt (w.alloc (.cells #[.int .i64 1] 3)) (.slice (some ⟨w.heap.size, 0, none⟩) 1 1) [1] :=
  Ow.rd (K := kInt) (B := 0) (Ow.lit (K := kInt) (p := w.heap.size) (n := 1) w [1] #[.int .i64 1] rfl rfl rfl (Nat.zero_le _) (by simp [maxLen]) (by intro x hx; simp only [List.mem_singleton] at hx; subst hx; exact in64_nat 1 (by omega)))
theorem Ow.atI' {B g n c : Nat} {w : World} {M : List Nat} (h : Ow kInt B w (.slice (some ⟨g, 0, none⟩) n c) (zs M)) {u : Nat} (hu : u < M.length) :
    w.cell? ⟨g, u, none⟩ = some (.int .i64 (M.getD u 0 : Nat)) ∧ (∀ j, w.frozen? ⟨g, j, none⟩ = false) ∧ B ≤ g ∧ g < w.heap.size := by
  obtain ⟨g', eg, h1, h2, h3, h4⟩ := h.pos (by rw [zs_len]; omega)
  cases eg
  have z := h3 u (by rw [zs_len]; exact hu) 0 _ rfl
  rw [show u * kInt.n + 0 = u from by show u * 1 + 0 = u; omega] at z
  have e : (zs M).getD u kInt.d = ((M.getD u 0 : Nat) : Int) := zs_getD M u
  rw [e] at z
  exact ⟨z, h4, h1, h2⟩
theorem Plain.getD_le_sum : ∀ (t : List Nat) (i : Nat), t.getD i 0 ≤ t.sum
  | [], i => by simp
  | a :: t, 0 => by simp
  | a :: t, i + 1 => by
    have := getD_le_sum t i
    rw [List.getD_cons_succ, List.sum_cons]; omega
/-- each once, how many of each, how many steps, an error -/
def Plain.groupsP (l : List Nat) (b blk g m : Int) (picks : List (Int × Int)) : List Nat × List Nat × Nat × Int :=
  if (sortP l b blk g m picks).2.2 ≠ 0 then ([], [], 0, (sortP l b blk g m picks).2.2) else ((grpL (risingL l)).1, (grpL (risingL l)).2, (sortP l b blk g m picks).2.1 + (whereP (List.replicate l.length false) blk g m picks).2.1, 0)
theorem Plain.sortP_err (l : List Nat) (b blk g m : Int) (picks : List (Int × Int)) : ((sortP l b blk g m picks).2.2 = 0 ∧ (sortP l b blk g m picks).1 = sortL l ∧ (stepsP l.length blk g m picks).2 = 0 ∧ (sortP l b blk g m picks).2.1 = (stepsP l.length blk g m picks).1 * passesP b) ∨ (sortP l b blk g m picks).2.2 = 1 := by
  unfold sortP
  split
  · exact .inr rfl
  · rcases stepsP_err l.length blk g m picks with h | h
    · rw [if_neg (by simp [h])]; exact .inl ⟨rfl, rfl, h, rfl⟩
    · rw [if_pos (by simp [h])]; exact .inr h
theorem Plain.whereP_of (keep : List Bool) (b g m : Int) (picks : List (Int × Int)) (h : (stepsP keep.length b g m picks).2 = 0) : whereP keep b g m picks = (whereL keep, (stepsP keep.length b g m picks).1 + (ordP keep.length g m picks).2.1, 0) := by
  unfold whereP
  rw [if_neg (by simp [h])]
def Grp11Said (r : List Nat × List Nat × Nat × Int) (w : World) (ed : Ending) (w' : World) : Prop :=
  ∃ (L T : Option Addr) (l t : Nat), ed = .returned (.tuple #[.slice L r.1.length l, .slice T r.2.1.length t, .int .i64 r.2.2.1, .int .i64 r.2.2.2]) ∧ Ow kU32 w.heap.size w' (.slice L r.1.length l) (zs r.1) ∧ Ow kInt w.heap.size w' (.slice T r.2.1.length t) (zs r.2.1) ∧ Ext w w'
/-- a plan of sorting -/
abbrev wayV (b blk g m : Int) (A : Option Addr) (n c : Nat) : Value := .agg #[.int .i64 b, .int .i64 blk, .int .i64 g, .int .i64 m, .slice A n c]
theorem Ow.setI' {B g n c : Nat} {w : World} {M : List Nat} (h : Ow kInt B w (.slice (some ⟨g, 0, none⟩) n c) (zs M)) {u v : Nat} (hu : u < M.length) (hv : v ≤ 1000000) :
    Ow kInt B (w.setCell ⟨g, u, none⟩ (.int .i64 v)) (.slice (some ⟨g, 0, none⟩) n c) (zs (M.set u v)) := by
  have h1 := h.set (j := u) (i := 0) (x := (v : Int)) (u := .int .i64 v) (by rw [zs_len]; exact hu) (by decide) rfl (in64_nat v (by omega))
  rw [show u * kInt.n + 0 = u from by show u * 1 + 0 = u; omega] at h1
  have e : (zs M).set u (v : Int) = zs (M.set u v) := by unfold zs; rw [List.map_set]
  rw [e] at h1
  exact h1
theorem Ow.beside' {α β : Type} {K : Kd α} {K' : Kd β} {B B' : Nat} {w w' : World} {v u : Value} {xs : List α} {ys : List β} (h : Ow K B w v xs) (h' : Ow K' B' w u ys) (hne : K.e ≠ K'.e) (hg : w.grownBy w' u.ownBlock) : Ow K B w' v xs :=
  h.kept hg (by
    cases hv : v.ownBlock with
    | none => exact .inl rfl
    | some k => exact .inr fun e => Ow.far hne h h' k hv e.symm)
set_option maxHeartbeats 3200000 in
set_option maxRecDepth 100000 in
theorem rgroups_any (l : List Nat) (L : Option Addr) (lc : Nat) (b blk g m : Int) (Ap : Option Addr) (cp : Nat) (picks : List (Int × Int)) (w : World) (hL : Rd kU32 w (.slice L l.length lc) (zs l)) (hp : Rd kPk w (.slice Ap picks.length cp) picks) (hl : l.length ≤ 900) (hb : in64 b) (hk : in64 blk) (hg : in64 g) (hm : in64 m) :
    Calls Tryz.prog 7 #[.slice L l.length lc, wayV b blk g m Ap picks.length cp] w (Grp11Said (groupsP l b blk g m picks) w) := by
  have HP := Lib.hid hp
  have HL := Lib.hid hL
  have HG := Lib.hid (And.intro hg (And.intro hm (And.intro hb hk)))
  have hl' : (l.length : Int) ≤ 900 := by omega
  have herr := sortP_err l b blk g m picks
  have hbd : (stepsP l.length blk g m picks).2 = 0 → (stepsP l.length blk g m picks).1 ≤ 60000 ∧ (ordP l.length g m picks).2.1 ≤ 30000 := fun h => ⟨(stepsP_bd l.length blk g m picks hl h).1, (stepsP_bd l.length blk g m picks hl h).2.2⟩
  have hps := passesP_le b
  have HF : Hid (groupsP l b blk g m picks = if (sortP l b blk g m picks).2.2 ≠ 0 then ([], [], 0, (sortP l b blk g m picks).2.2) else ((grpL (risingL l)).1, (grpL (risingL l)).2, (sortP l b blk g m picks).2.1 + (whereP (List.replicate l.length false) blk g m picks).2.1, 0)) := Lib.hid rfl
  clear hp hL hg hm hb hk
  obtain ⟨⟨os, st, er⟩, hr⟩ : ∃ x, sortP l b blk g m picks = x := ⟨_, rfl⟩
  rw [hr] at HF herr
  simp only at HF herr
  have HR := Lib.hid hr
  clear hr
  go_enter Tryz.func7, Tryz.ntmps7
  go_wp2_with fail
  have hh := rsort_any l L lc b blk g m Ap cp picks (w.alloc (.cells #[.int .i64 b, .int .i64 blk, .int .i64 g, .int .i64 m, .slice Ap picks.length cp] 27)) (HL.out.ext ((Ext.refl _).alloc _)) (HP.out.ext ((Ext.refl _).alloc _)) hl HG.out.2.2.1 HG.out.2.2.2 HG.out.1 HG.out.2.1
  rw [HR.out] at hh
  refine hh.mono ?_
  clear hh
  rintro ed w1 ⟨L1, l1, rfl, hO1, hE1⟩
  simp only at hO1 ⊢
  have HX1 := Lib.hid (((Ext.refl w).alloc (.cells #[.int .i64 b, .int .i64 blk, .int .i64 g, .int .i64 m, .slice Ap picks.length cp] 27)).trans hE1)
  have hb1 := block_keep (heap_alloc_new w (.cells #[.int .i64 b, .int .i64 blk, .int .i64 g, .int .i64 m, .slice Ap picks.length cp] 27)) hE1
  have k1 : w1.cell? ⟨w.heap.size, 1, none⟩ = some (.int .i64 blk) := (cell_of_row w1 w.heap.size 1 _ _ _ hb1).trans rfl
  have k2 : w1.cell? ⟨w.heap.size, 2, none⟩ = some (.int .i64 g) := (cell_of_row w1 w.heap.size 2 _ _ _ hb1).trans rfl
  have k3 : w1.cell? ⟨w.heap.size, 3, none⟩ = some (.int .i64 m) := (cell_of_row w1 w.heap.size 3 _ _ _ hb1).trans rfl
  have k4 : w1.cell? ⟨w.heap.size, 4, none⟩ = some (.slice Ap picks.length cp) := (cell_of_row w1 w.heap.size 4 _ _ _ hb1).trans rfl
  have HO1 := Lib.hid hO1.rd
  have lw1 : w.heap.size < w1.heap.size := World.block_lt_of_cell? _ _ k1
  clear hE1 hO1 hb1
  rcases herr with ⟨rfl, hos, hse, hst⟩ | rfl
  case inr =>
    rw [if_pos (by decide)] at HF
    go_wp2_with fail
    exact bodyPost_ret (v := .tuple #[.slice none 0 0, .slice none 0 0, .int .i64 0, .int .i64 1]) (by simp [results, Tryz.results7, go_sem]) rfl (by rw [HF.out]; exact ⟨none, none, 0, 0, rfl, Ow.nil _ _, Ow.nil _ _, HX1.out⟩)
  rw [if_neg (by simp)] at HF
  have hrl : (List.replicate l.length false).length = l.length := List.length_replicate ..
  have hwp := whereP_of (List.replicate l.length false) blk g m picks (by rw [hrl]; exact hse)
  rw [hrl] at hwp
  obtain ⟨hb2, hb3⟩ := hbd hse
  have hs1 : st ≤ 60000 * 32 := by rw [hst]; exact Nat.mul_le_mul hb2 hps
  obtain ⟨wl, hwl⟩ : ∃ x, whereL (List.replicate l.length false) = x := ⟨_, rfl⟩
  obtain ⟨s2, hs2⟩ : ∃ x, (stepsP l.length blk g m picks).1 + (ordP l.length g m picks).2.1 = x := ⟨_, rfl⟩
  rw [hwl, hs2] at hwp
  have hs3 : (s2 : Int) ≤ 90000 := by omega
  have hs4 : (st : Int) ≤ 1920000 := by omega
  have hs5 : (0 : Int) ≤ st := by omega
  have hs6 : (0 : Int) ≤ s2 := by omega
  have HWP := Lib.hid hwp
  have HRL := Lib.hid hrl
  rw [hwp] at HF
  simp only at HF
  subst hos
  have hsl := sortL_length l
  have HSL := Lib.hid hsl
  obtain ⟨C, hmk, hmown⟩ := kBool.make false rfl trivial l.length (by omega)
  have HMK := Lib.hid hmown
  have hmk2 : ∀ w : World, (Instr.makeSlice 55 (.int .i64 l.length) (.int .i64 l.length)).run Tryz.prog w = .ok (.slice (some ⟨w.heap.size, 0, none⟩) l.length l.length) (w.alloc (.cells C 4)) := hmk
  rw [hsl] at HO1 ⊢
  clear hwl hs2 hwp hrl hb2 hb3 hst hse hs1 hps hbd hmk hmown hsl
  go_wp2_with fail
  go_cut [11, 12, 10] (fun p s e wx => s = .int .i64 s2 ∧ e = .int .i64 0 ∧ Ext w1 wx)
  case first =>
    go_region_law (first
      | (go_simp; go_at_call 25
         have hh := rwhere_any (List.replicate l.length false) (some ⟨w1.heap.size, 0, none⟩) l.length blk g m Ap cp picks ((w1.alloc (.cells C 4)).drew) (by
            have h9 := (HMK.out w1 0 w1.heap.size rfl (Nat.zero_le _)).rd
            rw [HRL.out]
            exact h9.ext (Ext.refl _).drew) (HP.out.ext ((HX1.out.alloc _).drew)) (by rw [HRL.out]; omega) HG.out.2.2.2 HG.out.1 HG.out.2.1
         rw [HRL.out, HWP.out] at hh
         refine hh.mono ?_
         rintro ed w5 ⟨L5, l5, rfl, hO5, hE5⟩))
    all_goals go_wp2_with fail
    all_goals go_meet
    all_goals exact ⟨rfl, rfl, (((Ext.refl w1).alloc _).drew).trans hE5⟩
  case rest =>
  obtain ⟨rfl, rfl, hE2⟩ := hcut
  generalize wc = w2 at *
  have HX2 := Lib.hid (HX1.out.trans hE2)
  have HO2 := Lib.hid (HO1.out.ext hE2)
  have HGT := Lib.hid (grp_take l)
  have HRG := Lib.hid (risingL_len l)
  have hzw := HX2.out.size
  clear hE2 HX1 HO1 k1 k2 k3 k4 lw1 hmk2 HMK
  go_wp2_with fail
  go_loopw [13, 14, 15] (fun v t i wr => ∃ k : Nat, k ≤ l.length ∧ i = .int .i64 k ∧ Ow kU32 w2.heap.size wr v (zs (grpL ((risingL l).take k)).1) ∧ Ow kInt w2.heap.size wr t (zs (grpL ((risingL l).take k)).2) ∧ Ext w2 wr) (fun _ _ i _ => l.length - (intOf i).toNat)
  case atStart => exact ⟨0, Nat.zero_le _, rfl, Ow.nil _ _, Ow.nil _ _, Ext.refl _⟩
  case round =>
    obtain ⟨k, hk, rfl, hO, hT, hX⟩ := hrel
    have HO := Lib.hid hO
    have HT := Lib.hid hT
    have HX := Lib.hid hX
    have hk0 : (0 : Int) ≤ k := by omega
    clear hO hT hX
    by_cases hlt : k < l.length
    · have hlt' : (k : Int) < l.length := by omega
      have hks : k < (sortL l).length := by rw [HSL.out]; exact hlt
      obtain ⟨bw, ow, rfl, hcw⟩ := (ints_of_rd (HO2.out.ext HX.out)).cells (by rw [zs_len]; omega)
      have y0 := hcw k (by rw [zs_len]; exact hks)
      rw [zs_getD] at y0
      have hin : (sortL l).getD k 0 < l.length := by
        have h9 : (sortL l).getD k 0 ∈ sortL l := by rw [List.getD_eq_getElem?_getD, List.getElem?_eq_getElem hks]; exact List.getElem_mem hks
        exact List.mem_range.1 (((sortL_good l).1.mem_iff).1 h9)
      have hxk : (risingL l).getD k 0 = l.getD ((sortL l).getD k 0) 0 := by
        unfold risingL
        rw [List.getD_eq_getElem?_getD, List.getElem?_map, List.getElem?_eq_getElem hks, List.getD_eq_getElem?_getD (l := sortL l), List.getElem?_eq_getElem hks]; rfl
      have hsn : (risingL l).take (k + 1) = (risingL l).take k ++ [(risingL l).getD k 0] := takeN_snoc (by rw [HRG.out]; exact hlt)
      obtain ⟨u, hu⟩ : ∃ u, (sortL l).getD k 0 = u := ⟨_, rfl⟩
      rw [hu] at y0 hin hxk
      obtain ⟨bx, ox, rfl, z0, hxl⟩ := u32_at (HL.out.ext (HX2.out.trans HX.out)) u hin
      obtain ⟨x, hx⟩ : ∃ x, l.getD u 0 = x := ⟨_, rfl⟩
      rw [hx] at z0 hxl hxk
      rw [hxk] at hsn
      have hgs := grpL_snoc ((risingL l).take k) x
      rw [← hsn] at hgs
      have hgk := HGT.out k
      have hgl := grp_le hgk
      have hgt := hgk.len
      have hgm := hgk.sum
      rw [List.length_take, HRG.out] at hgl hgm
      obtain ⟨⟨o, t⟩, hot⟩ : ∃ r, grpL ((risingL l).take k) = r := ⟨_, rfl⟩
      rw [hot] at hgs hgl hgt hgm HO HT
      simp only at hgs hgl hgt hgm HO HT
      rw [show Plain.stepG (o, t) x = if 0 < o.length ∧ o.getD (o.length - 1) 0 = x then (o, t.set (o.length - 1) (t.getD (o.length - 1) 0 + 1)) else (o ++ [x], t ++ [1]) from rfl] at hgs
      have HXL := Lib.hid hxl
      have hu0 : (0 : Int) ≤ u := by omega
      have hu1 : (u : Int) < l.length := by omega
      have lbw : bw < wr.heap.size := World.block_lt_of_cell? _ _ y0
      have lbx : bx < wr.heap.size := World.block_lt_of_cell? _ _ z0
      obtain ⟨Ao, ca, hvo, hca⟩ := HO.out.slice
      obtain ⟨At, ct, hvt, hct⟩ := HT.out.slice
      rw [zs_len] at hvo hvt
      rw [hgt] at hvt
      subst hvo hvt
      have hzx := HX.out.size
      obtain ⟨q, hq⟩ : ∃ q, o.length = q := ⟨_, rfl⟩
      rw [hq] at hgs hgl hgt HO HT ⊢
      have HGG := Lib.hid (And.intro hgl (And.intro hgt (And.intro hgm hq)))
      have hq9 : (q : Int) ≤ 900 := by omega
      clear hcw hxk hsn hu hx hxl hgk hot hca hct hks hgt hgm hq
      rcases q with _ | m
      · rw [if_neg (by omega)] at hgs
        have HGS := Lib.hid hgs
        clear hgs hgl
        have HL1 : Hid ((zs o).length + [(x : Int)].length ≤ 1048576) := Lib.hid (by rw [zs_len, List.length_singleton, HGG.out.2.2.2]; omega)
        have HL2 : Hid ((zs t).length + [(1 : Int)].length ≤ 1048576) := Lib.hid (by rw [zs_len, List.length_singleton, HGG.out.2.1]; omega)
        go_wp2_with (first
          | (at_builtin; refine kU32.wpList_app (by rfl) (.tmp 80) (.tmp 82) (by rfl) (by rfl) w2.heap.size _ (zs o) (by rfl) (HO.out.ext ((Ext.refl _).alloc _)) _ [(x : Int)] (by rfl) (u32_lit _ x HXL.out) HL1.out (by simp; omega) ?_; intro v8 w8 hown8 hgrow8 hat8)
          | (at_builtin; have hT8 := (HT.out.ext ((Ext.refl _).alloc _)).beside' (HO.out.ext ((Ext.refl _).alloc _)) (by decide) hgrow8; have hx8 : Ext w2 w8 := Ext.grown (HX.out.alloc _) hgrow8 (fun q hq => (HO.out.lt q hq).1); have hs8 := hx8.size; refine kInt.wpList_app (by rfl) (.tmp 84) (.tmp 85) (by rfl) (by rfl) w2.heap.size _ (zs t) (by rfl) (hT8.ext ((Ext.refl _).alloc _)) _ [(1 : Int)] (by rfl) (int_one _) HL2.out (by simp; omega) ?_; intro v9 w9 hown9 hgrow9 hat9))
        have H9 := Lib.hid (And.intro (And.intro hown8 hgrow8) (And.intro hT8 (And.intro hx8 (And.intro hown9 hgrow9))))
        clear hown8 hgrow8 hat8 hT8 hx8 hs8 hown9 hgrow9 hat9
        go_wp2_with fail
        go_roundw
        case rel =>
          obtain ⟨⟨hown8, hgrow8⟩, hT8, hx8, hown9, hgrow9⟩ := H9.out
          exact ⟨k + 1, by omega, by go_num, by rw [HGS.out, zs_app]; exact (hown8.ext ((Ext.refl _).alloc _)).beside' (hT8.ext ((Ext.refl _).alloc _)) (by decide) hgrow9, by rw [HGS.out, zs_app]; exact hown9, Ext.grown (hx8.alloc _) hgrow9 (fun q hq => (hT8.lt q hq).1)⟩
        case measure => simp [intOf]; omega
      · have hmi : IntKind.i64.wrap (m : Int) = (m : Int) := IntWalk.i64_in _ (by omega)
        have hm0 : (0 : Int) ≤ m := by omega
        have hmo : m < o.length := by rw [HGG.out.2.2.2]; omega
        have hmt : m < t.length := by rw [HGG.out.2.1]; omega
        rw [show m + 1 - 1 = m by omega] at hgs
        have hRo := HO.out.rd
        rw [show m + 1 = o.length from HGG.out.2.2.2.symm] at hRo
        obtain ⟨ba, oa, eA, x0, _⟩ := u32_at hRo m hmo
        subst eA
        have lba : ba < wr.heap.size := World.block_lt_of_cell? _ _ x0
        obtain ⟨y, hy⟩ : ∃ y, o.getD m 0 = y := ⟨_, rfl⟩
        rw [hy] at x0 hgs
        by_cases hyx : y = x
        · subst hyx
          rw [if_pos ⟨by omega, rfl⟩] at hgs
          obtain ⟨gt, rfl, hgtB, hgtl, _, _⟩ := HT.out.pos (by rw [zs_len]; omega)
          obtain ⟨c1, c2, _, _⟩ := HT.out.atI' hmt
          have c2' := c2 m
          have htv : t.getD m 0 ≤ 900 := by
            have := getD_le_sum t m
            have := HGG.out.2.2.1
            omega
          have hset := HT.out.setI' (u := m) (v := t.getD m 0 + 1) hmt (by omega)
          have hoth := HO.out.setOther (p := ⟨gt, m, none⟩) (fun e => (Ow.far (K := kInt) (K' := kU32) (by decide) HT.out HO.out gt rfl) e) (.int .i64 ((t.getD m 0 + 1 : Nat) : Int))
          obtain ⟨tv, htw⟩ : ∃ v, t.getD m 0 = v := ⟨_, rfl⟩
          rw [htw] at c1 hset hoth htv hgs
          have HGS := Lib.hid hgs
          have HST := Lib.hid (And.intro hset hoth)
          have ht9 : (tv : Int) ≤ 900 := by omega
          have ht0 : (0 : Int) ≤ tv := by omega
          have heq1 : (y == y) = true := by simp
          have heq2 : ((y : Int) == (y : Int)) = true := by simp
          have hlm : (m : Int) < m + 1 := by omega
          clear hgs hset hoth htw hy c2 hRo htv hmo hmt
          go_wp2_with fail
          go_roundw
          case rel => exact ⟨k + 1, by omega, by go_num, by rw [HGS.out]; exact HST.out.2, by rw [HGS.out]; exact HST.out.1, HX.out.setCell (p := ⟨gt, m, none⟩) hgtB _⟩
          case measure => simp [intOf]; omega
        · rw [if_neg (fun h => hyx h.2)] at hgs
          have HGS := Lib.hid hgs
          have heq1 : (y == x) = false := by simp [hyx]
          have heq2 : ((y : Int) == (x : Int)) = false := by simp; omega
          have hlm : (m : Int) < m + 1 := by omega
          clear hgs hy hRo hmo hmt hyx
          have HL1 : Hid ((zs o).length + [(x : Int)].length ≤ 1048576) := Lib.hid (by rw [zs_len, List.length_singleton, HGG.out.2.2.2]; omega)
          have HL2 : Hid ((zs t).length + [(1 : Int)].length ≤ 1048576) := Lib.hid (by rw [zs_len, List.length_singleton, HGG.out.2.1]; omega)
          go_wp2_with (first
            | (at_builtin; refine kU32.wpList_app (by rfl) (.tmp 80) (.tmp 82) (by rfl) (by rfl) w2.heap.size _ (zs o) (by rfl) (HO.out.ext ((Ext.refl _).alloc _)) _ [(x : Int)] (by rfl) (u32_lit _ x HXL.out) HL1.out (by simp; omega) ?_; intro v8 w8 hown8 hgrow8 hat8)
            | (at_builtin; have hT8 := (HT.out.ext ((Ext.refl _).alloc _)).beside' (HO.out.ext ((Ext.refl _).alloc _)) (by decide) hgrow8; have hx8 : Ext w2 w8 := Ext.grown (HX.out.alloc _) hgrow8 (fun q hq => (HO.out.lt q hq).1); have hs8 := hx8.size; refine kInt.wpList_app (by rfl) (.tmp 84) (.tmp 85) (by rfl) (by rfl) w2.heap.size _ (zs t) (by rfl) (hT8.ext ((Ext.refl _).alloc _)) _ [(1 : Int)] (by rfl) (int_one _) HL2.out (by simp; omega) ?_; intro v9 w9 hown9 hgrow9 hat9))
          have H9 := Lib.hid (And.intro (And.intro hown8 hgrow8) (And.intro hT8 (And.intro hx8 (And.intro hown9 hgrow9))))
          clear hown8 hgrow8 hat8 hT8 hx8 hs8 hown9 hgrow9 hat9
          go_wp2_with fail
          go_roundw
          case rel =>
            obtain ⟨⟨hown8, hgrow8⟩, hT8, hx8, hown9, hgrow9⟩ := H9.out
            exact ⟨k + 1, by omega, by go_num, by rw [HGS.out, zs_app]; exact (hown8.ext ((Ext.refl _).alloc _)).beside' (hT8.ext ((Ext.refl _).alloc _)) (by decide) hgrow9, by rw [HGS.out, zs_app]; exact hown9, Ext.grown (hx8.alloc _) hgrow9 (fun q hq => (hT8.lt q hq).1)⟩
          case measure => simp [intOf]; omega
    · obtain rfl : k = l.length := by omega
      rw [List.take_of_length_le (by rw [HRG.out]; exact Nat.le_refl _)] at HO HT
      obtain ⟨Lz, lz, hv, hlz⟩ := HO.out.slice
      obtain ⟨Tz, tz, hv2, hlz2⟩ := HT.out.slice
      subst hv hv2
      have HXX := Lib.hid (HX2.out.trans HX.out)
      go_wp2_with fail
      refine bodyPost_ret (v := .tuple #[.slice Lz (zs (grpL (risingL l)).1).length lz, .slice Tz (zs (grpL (risingL l)).2).length tz, .int .i64 ((st : Int) + s2), .int .i64 0]) (by simp [results, Tryz.results7, go_sem]) rfl (by rw [HF.out]; exact ⟨Lz, Tz, lz, tz, by rw [zs_len, zs_len]; simp, by have := HO.out.mono (B' := w.heap.size) hzw; rw [zs_len] at this; exact this, by have := HT.out.mono (B' := w.heap.size) hzw; rw [zs_len] at this; exact this, HXX.out⟩)
/-- each once, how many steps, an error -/
def Plain.once11P (l : List Nat) (b blk g m : Int) (picks : List (Int × Int)) : List Nat × Nat × Int := ((groupsP l b blk g m picks).1, (groupsP l b blk g m picks).2.2)
set_option maxHeartbeats 1600000 in
set_option maxRecDepth 100000 in
theorem ronce11_any (l : List Nat) (L : Option Addr) (lc : Nat) (b blk g m : Int) (Ap : Option Addr) (cp : Nat) (picks : List (Int × Int)) (w : World) (hL : Rd kU32 w (.slice L l.length lc) (zs l)) (hp : Rd kPk w (.slice Ap picks.length cp) picks) (hl : l.length ≤ 900) (hb : in64 b) (hk : in64 blk) (hg : in64 g) (hm : in64 m) :
    Calls Tryz.prog 28 #[.slice L l.length lc, wayV b blk g m Ap picks.length cp] w (WordsSaid (once11P l b blk g m picks) w) := by
  have hh := rgroups_any l L lc b blk g m Ap cp picks (w.alloc (.cells #[.int .i64 b, .int .i64 blk, .int .i64 g, .int .i64 m, .slice Ap picks.length cp] 27)) (hL.ext ((Ext.refl _).alloc _)) (hp.ext ((Ext.refl _).alloc _)) hl hb hk hg hm
  have HH := Lib.hid hh
  clear hh hL hp hl hb hk hg hm
  go_enter Tryz.func28, Tryz.ntmps28
  go_wp2_with fail
  obtain ⟨⟨o, t, st, er⟩, hr⟩ : ∃ r, groupsP l b blk g m picks = r := ⟨_, rfl⟩
  have HR : Hid (once11P l b blk g m picks = (o, st, er)) := Lib.hid (by unfold once11P; rw [hr])
  rw [hr] at HH
  clear hr
  refine HH.out.mono ?_
  rintro ed w1 ⟨L1, T1, l1, t1, rfl, hO, _, hE⟩
  simp only at hO ⊢
  have HO := Lib.hid (And.intro hO hE)
  clear hO hE HH
  go_wp2_with fail
  exact bodyPost_ret (v := .tuple #[.slice L1 o.length l1, .int .i64 st, .int .i64 er]) (by simp [results, Tryz.results28, go_sem]) rfl (by rw [HR.out]; exact ⟨L1, l1, rfl, HO.out.1.mono (B' := w.heap.size) (by simp), ((Ext.refl _).alloc _).trans HO.out.2⟩)
end Go.Proofs.YtkpbanfpnilifaaGreat

/- The document's Edges (ref11). -/
namespace Go.Proofs.YtkpbanfpnilifaaGreat
open Go.BigFrame
open Go.RowKit Go.Proofs.YtkpbanfpnilifaaGreat.Plain

/-- the keys of those that aren't from a vertex to itself -/
def Plain.keysOf (l : List (Int × Int)) : List Nat := (l.filter (fun e => decide (e.1 ≠ e.2))).map (fun e => keyP e.1 e.2)
theorem Plain.keysOf_snoc (l : List (Int × Int)) (e : Int × Int) : keysOf (l ++ [e]) = keysOf l ++ (if e.1 = e.2 then [] else [keyP e.1 e.2]) := by
  unfold keysOf
  rw [List.filter_append, List.map_append]
  congr 1
  by_cases h : e.1 = e.2
  · rw [if_pos h, List.filter_cons_of_neg (by simp [h])]; rfl
  · rw [if_neg h, List.filter_cons_of_pos (by simp [h])]; rfl
theorem Plain.keysOf_len (l : List (Int × Int)) : (keysOf l).length ≤ l.length := by
  unfold keysOf
  rw [List.length_map]
  exact List.length_filter_le _ _
/-- do all have keys? -/
def Plain.allOk (l : List (Int × Int)) : Bool := l.all (fun e => keyOk e.1 e.2)
/-- edges, each once, how many steps, an error -/
def Plain.edgesP (l : List (Int × Int)) (b blk g m : Int) (picks : List (Int × Int)) : List (Int × Int) × Nat × Int :=
  if allOk l = false then ([], 0, 10) else if (once11P (keysOf l) b blk g m picks).2.2 ≠ 0 then ([], 0, (once11P (keysOf l) b blk g m picks).2.2) else ((once11P (keysOf l) b blk g m picks).1.map edgeP, (once11P (keysOf l) b blk g m picks).2.1, 0)
def EdgSaid (r : List (Int × Int) × Nat × Int) (w : World) (ed : Ending) (w' : World) : Prop :=
  ∃ (L : Option Addr) (l : Nat), ed = .returned (.tuple #[.slice L r.1.length l, .int .i64 r.2.1, .int .i64 r.2.2]) ∧ Ow kEdge w.heap.size w' (.slice L r.1.length l) r.1 ∧ Ext w w'
theorem Plain.once11P_err (l : List Nat) (b blk g m : Int) (picks : List (Int × Int)) : (once11P l b blk g m picks).2.2 = 0 ∨ (once11P l b blk g m picks).2.2 = 1 := by
  unfold once11P groupsP
  rcases sortP_err l b blk g m picks with ⟨h, _⟩ | h
  · rw [if_neg (by simp [h])]; exact .inl rfl
  · rw [if_pos (by simp [h])]; exact .inr h
theorem Plain.keyP_lt (u v : Int) : keyP u v < 4294967296 := by
  by_cases h : 0 ≤ u ∧ 0 ≤ v ∧ u ≤ 65535 ∧ v ≤ 65535
  · obtain ⟨U, rfl⟩ : ∃ U : Nat, u = U := ⟨u.toNat, by omega⟩
    obtain ⟨V, rfl⟩ : ∃ V : Nat, v = V := ⟨v.toNat, by omega⟩
    rw [(keyP_yes (U := U) (V := V) (by omega) (by omega)).2]
    have h1 : min U V ≤ 65535 := by omega
    have h2 : max U V ≤ 65535 := by omega
    omega
  · rw [(keyP_no h).2]; decide
theorem Plain.takeD_snoc {α : Type} {l : List α} {k : Nat} (d : α) (h : k < l.length) : l.take (k + 1) = l.take k ++ [l.getD k d] := by
  rw [List.take_succ_eq_append_getElem h, List.getD_eq_getElem?_getD, List.getElem?_eq_getElem h]; rfl
theorem edge_one (w : World) (u v : Int) (hu : in64 u) (hv : in64 v) : Rd kEdge (w.alloc (.cells #[.int .i64 u, .int .i64 v] 46)) (.slice (some ⟨w.heap.size, 0, none⟩) 1 1) [(u, v)] :=
  Ow.rd (K := kEdge) (B := 0) (Ow.lit (K := kEdge) (p := w.heap.size) (n := 1) w [(u, v)] #[.int .i64 u, .int .i64 v] rfl rfl rfl (Nat.zero_le _) (by simp [maxLen]) (by intro x hx; simp only [List.mem_singleton] at hx; subst hx; exact ⟨hu, hv⟩))
theorem Plain.edgeP_in (k : Nat) (hk : k < 4294967296) : in64 (edgeP k).1 ∧ in64 (edgeP k).2 := by
  unfold edgeP
  exact ⟨in64_nat _ (by omega), in64_nat _ (by omega)⟩
set_option maxHeartbeats 3200000 in
set_option maxRecDepth 100000 in
theorem redges_any (l : List (Int × Int)) (L : Option Addr) (lc : Nat) (b blk g m : Int) (Ap : Option Addr) (cp : Nat) (picks : List (Int × Int)) (w : World) (hL : Rd kEdge w (.slice L l.length lc) l) (hp : Rd kPk w (.slice Ap picks.length cp) picks) (hl : l.length ≤ 900) (hb : in64 b) (hk : in64 blk) (hg : in64 g) (hm : in64 m) :
    Calls Tryz.prog 14 #[.slice L l.length lc, wayV b blk g m Ap picks.length cp] w (EdgSaid (edgesP l b blk g m picks) w) := by
  have HP := Lib.hid hp
  have HL := Lib.hid hL
  have HG := Lib.hid (And.intro hg (And.intro hm (And.intro hb hk)))
  have hl' : (l.length : Int) ≤ 900 := by omega
  clear hp hL hg hm hb hk
  go_enter Tryz.func14, Tryz.ntmps14
  go_wp2_with fail
  obtain ⟨W0, hW0⟩ : ∃ W0, w.alloc (.cells #[.int .i64 b, .int .i64 blk, .int .i64 g, .int .i64 m, .slice Ap picks.length cp] 27) = W0 := ⟨_, rfl⟩
  have k0 : W0.cell? ⟨w.heap.size, 0, none⟩ = some (.int .i64 b) := by subst hW0; go_simp
  have k1 : W0.cell? ⟨w.heap.size, 1, none⟩ = some (.int .i64 blk) := by subst hW0; go_simp
  have k2 : W0.cell? ⟨w.heap.size, 2, none⟩ = some (.int .i64 g) := by subst hW0; go_simp
  have k3 : W0.cell? ⟨w.heap.size, 3, none⟩ = some (.int .i64 m) := by subst hW0; go_simp
  have k4 : W0.cell? ⟨w.heap.size, 4, none⟩ = some (.slice Ap picks.length cp) := by subst hW0; go_simp
  have HKS := Lib.hid (And.intro k0 (And.intro k1 (And.intro k2 (And.intro k3 k4))))
  have HX0 : Hid (Ext w W0) := Lib.hid (by rw [← hW0]; exact (Ext.refl w).alloc _)
  try rw [hW0]
  clear hW0 k0 k1 k2 k3 k4
  go_loopw [7, 8] (fun v i wr => ∃ k : Nat, k ≤ l.length ∧ i = .int .i64 k ∧ allOk (l.take k) = true ∧ Ow kU32 W0.heap.size wr v (zs (keysOf (l.take k))) ∧ Ext W0 wr) (fun _ i _ => l.length - (intOf i).toNat)
  case atStart => exact ⟨0, Nat.zero_le _, rfl, rfl, Ow.nil _ _, Ext.refl _⟩
  case round =>
    obtain ⟨k, hk, rfl, hok, hO, hX⟩ := hrel
    have HO := Lib.hid hO
    have HX := Lib.hid hX
    have HOK := Lib.hid hok
    have hk0 : (0 : Int) ≤ k := by omega
    clear hO hX hok
    by_cases hlt : k < l.length
    · have hlt' : (k : Int) < l.length := by omega
      obtain ⟨bx, ox, rfl, hcx⟩ := Rd.edges (HL.out.ext (HX0.out.trans HX.out)) (by omega)
      obtain ⟨x0, x1⟩ := hcx k hlt
      have hin := HL.out.okAt k hlt
      have htk : l.take (k + 1) = l.take k ++ [l.getD k (0, 0)] := takeD_snoc (0, 0) hlt
      have hsn := keysOf_snoc (l.take k) (l.getD k (0, 0))
      rw [← htk] at hsn
      have hao : allOk (l.take (k + 1)) = keyOk (l.getD k (0, 0)).1 (l.getD k (0, 0)).2 := by
        have h9 := HOK.out
        unfold allOk at h9 ⊢
        rw [htk, List.all_append, h9]; simp
      have hbad : keyOk (l.getD k (0, 0)).1 (l.getD k (0, 0)).2 = false → allOk l = false := fun h => by
        unfold allOk
        rw [List.all_eq_false]
        exact ⟨l.getD k (0, 0), by rw [List.getD_eq_getElem?_getD, List.getElem?_eq_getElem hlt]; exact List.getElem_mem hlt, by rw [h]; decide⟩
      obtain ⟨⟨u, v⟩, huv⟩ : ∃ x, l.getD k (0, 0) = x := ⟨_, rfl⟩
      have hin' : in64 u ∧ in64 v := by
        have h9 : kEdge.ok (l.getD k (0, 0)) := hin
        rw [huv] at h9; exact h9
      rw [huv] at x0 x1 hsn hao hbad
      simp only at x0 x1 hsn hao hbad
      have HIN := Lib.hid hin'
      have HSN := Lib.hid hsn
      have HAO := Lib.hid hao
      have HBAD := Lib.hid hbad
      have hzx := HX0.out.size
      have hzy := HX.out.size
      have lbx : bx < wr.heap.size := World.block_lt_of_cell? _ _ x0
      have HC := Lib.hid (And.intro x0 x1)
      clear hcx hin htk hsn hao hbad huv hin'
      go_wp2_with fail
      refine (rkey_any u v _ HIN.out.1 HIN.out.2).mono ?_
      obtain ⟨K, hK⟩ : ∃ K, keyP u v = K := ⟨_, rfl⟩
      have HKL : Hid (K < 4294967296) := Lib.hid (by rw [← hK]; exact keyP_lt u v)
      rw [hK] at HSN ⊢
      rintro ed w3 ⟨rfl, hE3⟩
      have HX3 := Lib.hid (HX.out.trans hE3)
      have HO3 := Lib.hid (HO.out.ext hE3)
      have y0 := hE3.cell HC.out.1
      have y1 := hE3.cell HC.out.2
      clear hE3 x0 x1 hK HO HX HC
      cases hok : keyOk u v with
      | false =>
        have HE : Hid (edgesP l b blk g m picks = ([], 0, 10)) := Lib.hid (by unfold edgesP; rw [if_pos (HBAD.out hok)])
        clear hok
        go_wp2_with fail
        exact bodyPost_ret (v := .tuple #[.slice none 0 0, .int .i64 0, .int .i64 10]) (by simp [results, Tryz.results14, go_sem]) rfl (by rw [HE.out]; exact ⟨none, 0, rfl, Ow.nil _ _, HX0.out.trans HX3.out⟩)
      | true =>
        rw [hok] at HAO
        clear hok
        have KS : Hid (∀ w', Ext w3 w' → w'.cell? ⟨bx, ox + k * 2, none⟩ = some (.int .i64 u) ∧ w'.cell? ⟨bx, ox + k * 2 + 1, none⟩ = some (.int .i64 v)) := Lib.hid (fun w' hE => ⟨hE.cell y0, hE.cell y1⟩)
        clear y0 y1
        by_cases huv : u = v
        · subst huv
          rw [if_pos rfl, List.append_nil] at HSN
          go_wp2_with fail
          refine wp_region_class (Ext w3) (by kernel_rfl) (by kernel_rfl) (Ext.refl _).drew ?_
          try simp only [List.append_eq, List.cons_append, List.nil_append]
          repeat (first
            | go_big_quiet_skip
            | (go_big_quiet_want
               first
               | (go_big_quiet_op; go_big_quiet_on)
               | (unfold Oper.quiet
                  apply Exists.intro
                  refine ⟨fun w' hC => ?_, ?_⟩
                  · (obtain ⟨k1, k2⟩ := KS.out w' hC
                     unfold Oper.quietAt
                     go_simp
                     first
                     | exact rfl)
                  go_simp
                  go_big_quiet_on)))
          refine wpQuiet_nil ?_
          intro w4 hC4
          go_wp2_with fail
          go_roundw
          case rel => exact ⟨k + 1, by omega, by go_num, HAO.out, by rw [HSN.out]; exact HO3.out.ext hC4, HX3.out.trans hC4⟩
          case measure => simp [intOf]; omega
        · rw [if_neg huv] at HSN
          have hn1 : (u != v) = true := by simp [huv]
          have hn2 : (u == v) = false := by simp [huv]
          have HLL : Hid ((zs (keysOf (l.take k))).length + [(K : Int)].length ≤ 1048576) := Lib.hid (by have := keysOf_len (l.take k); rw [zs_len, List.length_singleton]; rw [List.length_take] at this; omega)
          clear huv
          go_wp2_with fail
          refine wp_region_class (Ext w3) (by kernel_rfl) (by kernel_rfl) (Ext.refl _).drew ?_
          try simp only [List.append_eq, List.cons_append, List.nil_append]
          repeat (first
            | go_big_quiet_skip
            | (go_big_quiet_want
               first
               | (go_big_quiet_op; go_big_quiet_on)
               | (unfold Oper.quiet
                  apply Exists.intro
                  refine ⟨fun w' hC => ?_, ?_⟩
                  · (obtain ⟨k1, k2⟩ := KS.out w' hC
                     unfold Oper.quietAt
                     go_simp
                     first
                     | exact rfl)
                  go_simp
                  go_big_quiet_on)))
          refine wpQuiet_nil ?_
          intro w4 hC4
          have HX4 := Lib.hid (HX3.out.trans hC4)
          have HO4 := Lib.hid (HO3.out.ext hC4)
          have hz4 := HX4.out.size
          clear hC4 HX3 HO3 KS
          go_wp2_with (at_builtin; refine kU32.wpList_app (by rfl) (.tmp 43) (.tmp 45) (by rfl) (by rfl) W0.heap.size _ (zs (keysOf (l.take k))) (by rfl) (HO4.out.ext ((Ext.refl _).alloc _)) _ [(K : Int)] (by rfl) (u32_lit _ K HKL.out) HLL.out (by simp; omega) ?_; intro v' w8 hown8 hgrow8 hat8)
          have H8 := Lib.hid (And.intro hown8 (And.intro hgrow8 hat8))
          clear hown8 hgrow8 hat8
          go_wp2_with fail
          go_roundw
          case rel =>
            obtain ⟨hown8, hgrow8, hat8⟩ := H8.out
            exact ⟨k + 1, by omega, by go_num, HAO.out, by rw [HSN.out, zs_app]; exact hown8, Ext.grown (HX4.out.alloc _) hgrow8 (fun q hq => (HO4.out.lt q hq).1)⟩
          case measure => simp [intOf]; omega
    · obtain rfl : k = l.length := by omega
      rw [List.take_length] at HO HOK
      have hF : edgesP l b blk g m picks = if (once11P (keysOf l) b blk g m picks).2.2 ≠ 0 then ([], 0, (once11P (keysOf l) b blk g m picks).2.2) else ((once11P (keysOf l) b blk g m picks).1.map edgeP, (once11P (keysOf l) b blk g m picks).2.1, 0) := by unfold edgesP; rw [if_neg (by rw [HOK.out]; decide)]
      have hkl := keysOf_len l
      obtain ⟨ks, hks⟩ : ∃ x, keysOf l = x := ⟨_, rfl⟩
      rw [hks] at HO hF hkl
      have herr := once11P_err ks b blk g m picks
      obtain ⟨A1, c1, hv, _⟩ := HO.out.slice
      rw [zs_len] at hv
      subst hv
      obtain ⟨k0, k1, k2, k3, k4⟩ := HKS.out
      replace k0 := HX.out.cell k0
      replace k1 := HX.out.cell k1
      replace k2 := HX.out.cell k2
      replace k3 := HX.out.cell k3
      replace k4 := HX.out.cell k4
      have lw : w.heap.size < wr.heap.size := World.block_lt_of_cell? _ _ k0
      have HRk := Lib.hid HO.out.rd
      have HX1 := Lib.hid (HX0.out.trans HX.out)
      obtain ⟨⟨os, st, er⟩, hr⟩ : ∃ x, once11P ks b blk g m picks = x := ⟨_, rfl⟩
      rw [hr] at hF herr
      simp only at hF herr
      have HF := Lib.hid hF
      have HR := Lib.hid hr
      clear hF hr hks HO HOK HKS
      go_wp2_with fail
      have hh := ronce11_any ks A1 c1 b blk g m Ap cp picks wr HRk.out (HP.out.ext HX1.out) (by omega) HG.out.2.2.1 HG.out.2.2.2 HG.out.1 HG.out.2.1
      rw [HR.out] at hh
      refine hh.mono ?_
      clear hh
      rintro ed w5 ⟨L5, l5, rfl, hO5, hE5⟩
      simp only at hO5 ⊢
      have HO5 := Lib.hid hO5.rd
      have HX5 := Lib.hid (HX1.out.trans hE5)
      clear hO5 hE5 k0 k1 k2 k3 k4 lw
      rcases herr with rfl | rfl
      case inr =>
        rw [if_pos (by decide)] at HF
        go_wp2_with fail
        exact bodyPost_ret (v := .tuple #[.slice none 0 0, .int .i64 0, .int .i64 1]) (by simp [results, Tryz.results14, go_sem]) rfl (by rw [HF.out]; exact ⟨none, 0, rfl, Ow.nil _ _, HX5.out⟩)
      rw [if_neg (by simp)] at HF
      have hol : os.length ≤ 1000000 := by
        have h9 := HR.out
        have h8 : os = (grpL (risingL ks)).1 := by
          unfold once11P groupsP at h9
          rcases sortP_err ks b blk g m picks with ⟨h, _⟩ | h
          · rw [if_neg (by simp [h])] at h9
            exact (congrArg Prod.fst h9).symm
          · rw [if_pos (by simp [h])] at h9
            have := congrArg (fun x => x.2.2) h9
            simp [h] at this
        have h7 := grp_le (grp_take ks ks.length)
        rw [List.take_of_length_le (by rw [risingL_len]; exact Nat.le_refl _), risingL_len, ← h8] at h7
        omega
      have hol' : (os.length : Int) ≤ 1000000 := by omega
      have HOL := Lib.hid hol
      have hz5 := HX5.out.size
      clear hol hkl
      rename_i wr0
      go_wp2_with fail
      go_loopw [14, 15] (fun v i wr => ∃ k : Nat, k ≤ os.length ∧ i = .int .i64 k ∧ Ow kEdge w5.heap.size wr v ((os.take k).map edgeP) ∧ Ext w5 wr) (fun _ i _ => os.length - (intOf i).toNat)
      case atStart => exact ⟨0, Nat.zero_le _, rfl, Ow.nil _ _, Ext.refl _⟩
      case round =>
        obtain ⟨k, hk, rfl, hO, hX⟩ := hrel
        have HO := Lib.hid hO
        have HXa := Lib.hid hX
        have hk0 : (0 : Int) ≤ k := by omega
        clear hO hX
        by_cases hlt : k < os.length
        · have hlt' : (k : Int) < os.length := by omega
          obtain ⟨bx, ox, rfl, z0, hxl⟩ := u32_at (HO5.out.ext HXa.out) k hlt
          have htk := takeN_snoc hlt
          obtain ⟨x, hx⟩ : ∃ x, os.getD k 0 = x := ⟨_, rfl⟩
          rw [hx] at z0 hxl htk
          have hem := edgeP_in x hxl
          have hsn : (os.take (k + 1)).map edgeP = (os.take k).map edgeP ++ [edgeP x] := by rw [htk, List.map_append]; rfl
          have HXL := Lib.hid hxl
          clear htk hx hxl
          go_wp2_with fail
          refine (redge_any x _ HXL.out).mono ?_
          obtain ⟨⟨eu, ev⟩, hev⟩ : ∃ y, edgeP x = y := ⟨_, rfl⟩
          rw [hev] at hem hsn ⊢
          have HEM := Lib.hid hem
          have HSN := Lib.hid hsn
          rintro ed w6 ⟨rfl, hE6⟩
          simp only
          have HX6 := Lib.hid (HXa.out.trans hE6)
          have HO6 := Lib.hid (HO.out.ext hE6)
          have hz6 := HX6.out.size
          have HLL : Hid (((os.take k).map edgeP).length + [(eu, ev)].length ≤ 1048576) := Lib.hid (by have := HOL.out; rw [List.length_map, List.length_take, List.length_singleton]; omega)
          clear hE6 hem hsn hev HXa HO z0
          go_wp2_with (at_builtin; refine kEdge.wpList_app (by rfl) (.tmp 63) (.tmp 69) (by rfl) (by rfl) w5.heap.size _ ((os.take k).map edgeP) (by rfl) (HO6.out.ext ((Ext.refl _).alloc _)) _ [(eu, ev)] (by rfl) (edge_one _ eu ev HEM.out.1 HEM.out.2) HLL.out (by simp; omega) ?_; intro v' w8 hown8 hgrow8 hat8)
          have H8 := Lib.hid (And.intro hown8 (And.intro hgrow8 hat8))
          clear hown8 hgrow8 hat8
          go_wp2_with fail
          go_roundw
          case rel =>
            obtain ⟨hown8, hgrow8, hat8⟩ := H8.out
            exact ⟨k + 1, by omega, by go_num, by rw [HSN.out]; exact hown8, Ext.grown (HX6.out.alloc _) hgrow8 (fun q hq => (HO6.out.lt q hq).1)⟩
          case measure => simp [intOf]; omega
        · obtain rfl : k = os.length := by omega
          rw [List.take_length] at HO
          obtain ⟨Lz, lz, hv, hlz⟩ := HO.out.slice
          subst hv
          have HXX := Lib.hid (HX5.out.trans HXa.out)
          go_wp2_with fail
          refine bodyPost_ret (v := .tuple #[.slice Lz (os.map edgeP).length lz, .int .i64 st, .int .i64 0]) (by simp [results, Tryz.results14, go_sem]) rfl (by rw [HF.out]; exact ⟨Lz, lz, rfl, HO.out.mono (B' := w.heap.size) hz5, HXX.out⟩)
end Go.Proofs.YtkpbanfpnilifaaGreat

/- Plain words of each once by places: where runs of a rising list begin. No program in it. -/
namespace Go.Proofs.YtkpbanfpnilifaaGreat.Plain
def firstB (ks : List Nat) (i : Nat) : Bool := decide (i = 0) || decide (ks.getD i 0 ≠ ks.getD (i - 1) 0)
/-- which ones are the first of those that are the same -/
def firstsL (ks : List Nat) : List Bool := (List.range ks.length).map (firstB ks)
theorem firstsL_len (ks : List Nat) : (firstsL ks).length = ks.length := by unfold firstsL; rw [List.length_map, List.length_range]
theorem firstsL_at (ks : List Nat) (i : Nat) (h : i < ks.length) : kept (firstsL ks) i = firstB ks i := by
  unfold kept firstsL
  rw [List.getD_eq_getElem?_getD, List.getElem?_map, List.getElem?_range h]; rfl
/-- where the next run begins -/
def nxt (ps : List Nat) (k i : Nat) : Nat := if i < ps.length then ps.getD i 0 else k
structure Fst (ks : List Nat) (k : Nat) (ps o t : List Nat) : Prop where
  lo : o.length = ps.length
  lt : t.length = ps.length
  pos : 0 < k → 0 < ps.length
  none : k = 0 → ps.length = 0
  last : 0 < k → o.getD (o.length - 1) 0 = ks.getD (k - 1) 0
  each : ∀ i, i < ps.length → ps.getD i 0 < k ∧ o.getD i 0 = ks.getD (ps.getD i 0) 0 ∧ nxt ps k (i + 1) = ps.getD i 0 + t.getD i 0
theorem getD_snoc_lt (l : List Nat) (x i : Nat) (h : i < l.length) : (l ++ [x]).getD i 0 = l.getD i 0 := by
  rw [List.getD_eq_getElem?_getD, List.getD_eq_getElem?_getD, List.getElem?_append_left h]
theorem getD_snoc_eq (l : List Nat) (x i : Nat) (h : i = l.length) : (l ++ [x]).getD i 0 = x := by
  subst h; rw [List.getD_eq_getElem?_getD, List.getElem?_append_right (Nat.le_refl _)]; simp
theorem fst_at (ks : List Nat) : ∀ k, k ≤ ks.length → Fst ks k (whereF (firstsL ks) k) (grpL (ks.take k)).1 (grpL (ks.take k)).2 := by
  intro k
  induction k with
  | zero => exact fun _ => ⟨rfl, rfl, fun h => absurd h (Nat.lt_irrefl 0), fun _ => rfl, fun h => absurd h (Nat.lt_irrefl 0), fun i h => absurd h (Nat.not_lt_zero i)⟩
  | succ k ih =>
    intro hk
    have H := ih (by omega)
    have htk : ks.take (k + 1) = ks.take k ++ [ks.getD k 0] := by
      rw [List.take_succ_eq_append_getElem (by omega), List.getD_eq_getElem?_getD, List.getElem?_eq_getElem (by omega)]; rfl
    rw [whereF_succ, firstsL_at _ _ (by omega), htk, grpL_snoc]
    obtain ⟨ps, hps⟩ : ∃ x, whereF (firstsL ks) k = x := ⟨_, rfl⟩
    obtain ⟨⟨o, t⟩, hg⟩ : ∃ x, grpL (ks.take k) = x := ⟨_, rfl⟩
    rw [hps, hg] at H ⊢
    clear hps hg ih htk
    obtain ⟨h1, h2, h3, h4, h5, h6⟩ := H
    simp only at h1 h2 h5 h6
    obtain ⟨x, hx⟩ : ∃ x, ks.getD k 0 = x := ⟨_, rfl⟩
    unfold stepG
    simp only
    by_cases hf : firstB ks k = true
    · have hc : ¬ (0 < o.length ∧ o.getD (o.length - 1) 0 = ks.getD k 0) := by
        rintro ⟨c1, c2⟩
        have hk0 : 0 < k := by
          rcases Nat.eq_zero_or_pos k with e | e
          · have := h4 e; omega
          · exact e
        rw [h5 hk0] at c2
        unfold firstB at hf
        rw [Bool.or_eq_true, decide_eq_true_eq, decide_eq_true_eq] at hf
        rcases hf with e | e
        · omega
        · exact e c2.symm
      rw [if_neg hc, if_pos hf]
      refine ⟨by simp [h1], by simp [h2], fun _ => by simp, fun h => by omega, fun _ => ?_, fun i hi => ?_⟩
      · rw [getD_snoc_eq _ _ _ (by simp)]; rfl
      · rw [List.length_append, List.length_singleton] at hi
        rcases Nat.lt_or_ge i ps.length with e | e
        · obtain ⟨e1, e2, e3⟩ := h6 i e
          rw [getD_snoc_lt _ _ _ e, getD_snoc_lt _ _ _ (by omega), getD_snoc_lt _ _ _ (by omega)]
          refine ⟨by omega, e2, ?_⟩
          rw [← e3]
          unfold nxt
          rw [List.length_append, List.length_singleton]
          by_cases e4 : i + 1 < ps.length
          · rw [if_pos e4, if_pos (by omega), getD_snoc_lt _ _ _ e4]
          · rw [if_neg e4, if_pos (by omega), getD_snoc_eq _ _ _ (by omega)]
        · rw [getD_snoc_eq _ _ _ (by omega), getD_snoc_eq _ _ _ (by omega), getD_snoc_eq _ _ _ (by omega)]
          refine ⟨by omega, rfl, ?_⟩
          unfold nxt
          rw [List.length_append, List.length_singleton, if_neg (by omega)]
    · have hk0 : 0 < k := by
        rcases Nat.eq_zero_or_pos k with e | e
        · subst e; exact absurd rfl hf
        · exact e
      have hsm : ks.getD k 0 = ks.getD (k - 1) 0 := by
        unfold firstB at hf
        rw [Bool.or_eq_true, decide_eq_true_eq, decide_eq_true_eq] at hf
        by_cases e : ks.getD k 0 = ks.getD (k - 1) 0
        · exact e
        · exact absurd (.inr e) hf
      have hq := h3 hk0
      rw [if_neg hf, List.append_nil, if_pos (show 0 < o.length ∧ o.getD (o.length - 1) 0 = ks.getD k 0 from ⟨by omega, by rw [h5 hk0, hsm]⟩)]
      refine ⟨h1, by simp [h2], fun _ => hq, fun h => by omega, fun _ => ?_, fun i hi => ?_⟩
      · simp only; rw [h5 hk0, ← hsm]; rfl
      · obtain ⟨e1, e2, e3⟩ := h6 i hi
        refine ⟨by omega, e2, ?_⟩
        simp only
        unfold nxt at e3 ⊢
        by_cases e4 : i + 1 < ps.length
        · rw [if_pos e4] at e3 ⊢
          rw [e3, List.getD_eq_getElem?_getD, List.getD_eq_getElem?_getD (l := t.set _ _), List.getElem?_set, if_neg (by omega), ← List.getD_eq_getElem?_getD]
          rw [← List.getD_eq_getElem?_getD]
        · rw [if_neg e4] at e3 ⊢
          have e5 : o.length - 1 = i := by omega
          rw [e5, List.getD_eq_getElem?_getD (l := t.set _ _), List.getElem?_set, if_pos rfl, if_pos (by omega), Option.getD_some]
          omega
theorem fst_all (ks : List Nat) : Fst ks ks.length (whereL (firstsL ks)) (grpL ks).1 (grpL ks).2 := by
  have h := fst_at ks ks.length (Nat.le_refl _)
  rw [List.take_length] at h
  unfold whereL
  rw [firstsL_len]
  exact h
/-- the last of some, what is ahead nothing -/
def lastsL (o : List Nat) (j : Nat) : List Nat := byN o.length (fun i => if j ≤ i then o.getD i 0 else 0)
theorem lastsL_len (o : List Nat) (j : Nat) : (lastsL o j).length = o.length := by unfold lastsL byN; rw [List.length_map, List.length_range]
theorem lastsL_all (o : List Nat) : lastsL o 0 = o := by
  unfold lastsL
  rw [byN_congr _ _ (fun i => o.getD i 0) fun i _ => if_pos (Nat.zero_le _)]
  exact byN_id o
/-- .. the first j told -/
def firstsJ (ks : List Nat) (j : Nat) : List Bool := (List.range ks.length).map (fun i => if i < j then firstB ks i else false)
theorem firstsJ_len (ks : List Nat) (j : Nat) : (firstsJ ks j).length = ks.length := by unfold firstsJ; rw [List.length_map, List.length_range]
theorem firstsJ_zero (ks : List Nat) : firstsJ ks 0 = List.replicate ks.length false := by
  unfold firstsJ
  apply List.ext_getElem?
  intro i
  by_cases hi : i < ks.length
  · rw [List.getElem?_map, List.getElem?_range hi, List.getElem?_replicate, if_pos hi]; rfl
  · rw [List.getElem?_eq_none (by simpa using hi), List.getElem?_eq_none (by simpa using hi)]
theorem firstsJ_all (ks : List Nat) : firstsJ ks ks.length = firstsL ks := by
  unfold firstsJ firstsL
  exact List.map_congr_left fun i hi => if_pos (List.mem_range.1 hi)
theorem firstsJ_set (ks : List Nat) (j : Nat) : (firstsJ ks j).set j (firstB ks j) = firstsJ ks (j + 1) := by
  unfold firstsJ
  apply List.ext_getElem?
  intro i
  by_cases hi : i < ks.length
  · rw [List.getElem?_set, List.getElem?_map, List.getElem?_map, List.getElem?_range hi, List.length_map, List.length_range, Option.map_some, Option.map_some]
    by_cases h : j = i
    · subst h; rw [if_pos rfl, if_pos hi, if_pos (by omega)]
    · rw [if_neg h]
      by_cases h2 : i < j
      · rw [if_pos h2, if_pos (by omega)]
      · rw [if_neg h2, if_neg (by omega)]
  · rw [List.getElem?_eq_none (by simp; omega), List.getElem?_eq_none (by simp; omega)]
theorem lastsL_set (o : List Nat) (j : Nat) (h : j < o.length) : (lastsL o (j + 1)).set j (o.getD j 0) = lastsL o j := by
  unfold lastsL byN
  apply List.ext_getElem?
  intro i
  by_cases hi : i < o.length
  · rw [List.getElem?_set, List.getElem?_map, List.getElem?_map, List.getElem?_range hi, List.length_map, List.length_range, Option.map_some, Option.map_some]
    by_cases e : j = i
    · subst e; rw [if_pos rfl, if_pos hi, if_pos (Nat.le_refl _)]
    · rw [if_neg e]
      by_cases h2 : j ≤ i
      · rw [if_pos h2, if_pos (by omega)]
      · rw [if_neg h2, if_neg (by omega)]
  · rw [List.getElem?_eq_none (by simp; omega), List.getElem?_eq_none (by simp; omega)]
theorem lastsL_none (o : List Nat) : lastsL o o.length = List.replicate o.length 0 := by
  unfold lastsL byN
  apply List.ext_getElem?
  intro i
  by_cases hi : i < o.length
  · rw [List.getElem?_map, List.getElem?_range hi, List.getElem?_replicate, if_pos hi, Option.map_some, if_neg (by omega)]
  · rw [List.getElem?_eq_none (by simpa using hi), List.getElem?_eq_none (by simpa using hi)]
end Go.Proofs.YtkpbanfpnilifaaGreat.Plain

/- The program's Key, Edge, firsts, keysOf (dedup, real code). Written by wip/mk_r11c.py. -/
namespace Go.Proofs.YtkpbanfpnilifaaGreat
open Go.BigFrame
open Go.RowKit Go.Proofs.YtkpbanfpnilifaaGreat.Plain

theorem Plain.keyOk_mm (u v : Int) : keyOk u v = (!decide (min u v < 0) && !decide (65535 < max u v)) := by
  unfold keyOk
  rw [Bool.eq_iff_iff]
  simp only [Bool.and_eq_true, decide_eq_true_eq, Bool.not_eq_true', decide_eq_false_iff_not]
  omega
set_option maxHeartbeats 1600000 in
set_option maxRecDepth 100000 in
theorem pkey_any (u v : Int) (w : World) (hu : in64 u) (hv : in64 v) :
    Calls Tryz.prog 15 #[.agg #[.int .i64 u, .int .i64 v]] w fun ed w' => ed = .returned (.tuple #[.int .u32 (keyP u v : Nat), .bool (keyOk u v)]) ∧ Ext w w' := by
  have HG := Lib.hid (And.intro hu hv)
  clear hu hv
  go_enter Tryz.func15, Tryz.ntmps15
  go_wp2_with fail
  have k0 : (w.alloc (.cells #[.int .i64 u, .int .i64 v] 46)).cell? ⟨w.heap.size, 0, none⟩ = some (.int .i64 u) := by go_simp
  have k1 : (w.alloc (.cells #[.int .i64 u, .int .i64 v] 46)).cell? ⟨w.heap.size, 1, none⟩ = some (.int .i64 v) := by go_simp
  obtain ⟨W0, hW0⟩ : ∃ W0, w.alloc (.cells #[.int .i64 u, .int .i64 v] 46) = W0 := ⟨_, rfl⟩
  rw [hW0] at k0 k1
  have HX0 : Hid (Ext w W0) := Lib.hid (by rw [← hW0]; exact (Ext.refl w).alloc _)
  try rw [hW0]
  clear hW0
  have KS : Hid (∀ w', Ext W0 w' → w'.cell? ⟨w.heap.size, 0, none⟩ = some (.int .i64 u) ∧ w'.cell? ⟨w.heap.size, 1, none⟩ = some (.int .i64 v)) := Lib.hid (fun w' hE => ⟨hE.cell k0, hE.cell k1⟩)
  clear k0 k1
  go_cut [4, 5] (fun a b wx => a = .int .i64 (min u v) ∧ b = .int .i64 (max u v) ∧ Ext w wx)
  case first =>
    rcases Int.lt_trichotomy u v with h | rfl | h
    · skip
      refine wp_region_class (Ext W0) (by kernel_rfl) (by kernel_rfl) (Ext.refl _).drew ?_
      try simp only [List.append_eq, List.cons_append, List.nil_append]
      repeat (first
        | go_big_quiet_skip
        | (go_big_quiet_want
           first
           | (go_big_quiet_op; go_big_quiet_on)
           | (unfold Oper.quiet
              apply Exists.intro
              refine ⟨fun w' hC => ?_, ?_⟩
              · (obtain ⟨k1, k2⟩ := KS.out w' hC
                 unfold Oper.quietAt
                 go_simp
                 first
                 | exact rfl)
              go_simp
              go_big_quiet_on)))
      refine wpQuiet_nil ?_
      intro w4 hC4
      go_wp2_with fail
      go_meet
      exact ⟨by congr 1; omega, by congr 1; omega, HX0.out.trans hC4⟩
    · skip
      refine wp_region_class (Ext W0) (by kernel_rfl) (by kernel_rfl) (Ext.refl _).drew ?_
      try simp only [List.append_eq, List.cons_append, List.nil_append]
      repeat (first
        | go_big_quiet_skip
        | (go_big_quiet_want
           first
           | (go_big_quiet_op; go_big_quiet_on)
           | (unfold Oper.quiet
              apply Exists.intro
              refine ⟨fun w' hC => ?_, ?_⟩
              · (obtain ⟨k1, k2⟩ := KS.out w' hC
                 unfold Oper.quietAt
                 go_simp
                 first
                 | exact rfl)
              go_simp
              go_big_quiet_on)))
      refine wpQuiet_nil ?_
      intro w4 hC4
      go_wp2_with fail
      go_meet
      exact ⟨by congr 1; omega, by congr 1; omega, HX0.out.trans hC4⟩
    · skip
      refine wp_region_class (Ext W0) (by kernel_rfl) (by kernel_rfl) (Ext.refl _).drew ?_
      try simp only [List.append_eq, List.cons_append, List.nil_append]
      repeat (first
        | go_big_quiet_skip
        | (go_big_quiet_want
           first
           | (go_big_quiet_op; go_big_quiet_on)
           | (unfold Oper.quiet
              apply Exists.intro
              refine ⟨fun w' hC => ?_, ?_⟩
              · (obtain ⟨k1, k2⟩ := KS.out w' hC
                 unfold Oper.quietAt
                 go_simp
                 first
                 | exact rfl)
              go_simp
              go_big_quiet_on)))
      refine wpQuiet_nil ?_
      intro w4 hC4
      go_wp2_with fail
      go_meet
      exact ⟨by congr 1; omega, by congr 1; omega, HX0.out.trans hC4⟩
  case rest =>
  obtain ⟨rfl, rfl, hE⟩ := hcut
  have HX := Lib.hid hE
  clear hE HX0 KS
  have HKO := Lib.hid (keyOk_mm u v)
  have HKP : Hid (keyP u v = if (!decide (min u v < 0) && !decide (65535 < max u v)) = true then (min u v).toNat * 65536 + (max u v).toNat else 0) := Lib.hid (by unfold keyP; rw [keyOk_mm])
  have HMM : Hid (min u v ≤ max u v) := Lib.hid (by omega)
  obtain ⟨M, hM⟩ : ∃ M, min u v = M := ⟨_, rfl⟩
  obtain ⟨X, hX⟩ : ∃ X, max u v = X := ⟨_, rfl⟩
  rw [hM, hX] at HKP HMM HKO
  rw [hM, hX]
  clear hM hX HG
  by_cases h1 : M < 0
  · have d1 : decide (M < 0) = true := decide_eq_true h1
    rw [d1] at HKP HKO
    clear h1
    go_wp2_with fail
    exact bodyPost_ret (v := .tuple #[.int .u32 0, .bool false]) (by simp [results, Tryz.results15, go_sem]) rfl ⟨by rw [HKP.out, HKO.out]; rfl, HX.out⟩
  · have d1 : decide (M < 0) = false := decide_eq_false h1
    by_cases h2 : 65535 < X
    · have d2 : decide (65535 < X) = true := decide_eq_true h2
      rw [d1, d2] at HKP HKO
      clear h1
      go_wp2_with fail
      exact bodyPost_ret (v := .tuple #[.int .u32 0, .bool false]) (by simp [results, Tryz.results15, go_sem]) rfl ⟨by rw [HKP.out, HKO.out]; rfl, HX.out⟩
    · have d2 : decide (65535 < X) = false := decide_eq_false h2
      have hmm := HMM.out
      obtain ⟨m, rfl⟩ : ∃ m : Nat, M = m := ⟨M.toNat, by omega⟩
      obtain ⟨x, rfl⟩ : ∃ x : Nat, X = x := ⟨X.toNat, by omega⟩
      rw [d1, d2] at HKP HKO
      have h4 : IntKind.u32.wrap (m : Int) = (m : Int) := by rw [IntKind.wrap_u32]; omega
      have h5 : IntKind.u32.wrap (x : Int) = (x : Int) := by rw [IntKind.wrap_u32]; omega
      have h6 : m * 65536 % 4294967296 = m * 65536 := Nat.mod_eq_of_lt (by omega)
      have h7 : (m : Int) * 65536 % 4294967296 = ((m * 65536 : Nat) : Int) := by omega
      have hor : bits .or .u32 ((m * 65536 : Nat) : Int) (x : Int) = ((m * 65536 + x : Nat) : Int) := by
        rw [u32_or_nat _ _ (by omega) (by omega), ← Nat.shiftLeft_eq m 16, ← Nat.shiftLeft_add_eq_or_of_lt (by omega : x < 2 ^ 16), Nat.shiftLeft_eq]
      have HOR := Lib.hid (And.intro hor (And.intro h7 (And.intro h4 h5)))
      have hkp : keyP u v = m * 65536 + x := by rw [HKP.out]; rfl
      have HKK := Lib.hid hkp
      clear h1 hmm hor h6 h7 h4 h5 HKP HMM hkp
      have h4 := HOR.out.2.2.1
      have h5 := HOR.out.2.2.2
      go_wp2_with fail
      refine bodyPost_ret (v := .tuple #[.int .u32 ((m * 65536 + x : Nat) : Int), .bool true]) (by
        simp [results, Tryz.results15, go_sem]
        have := HOR.out.1; have h9 := HOR.out.2.1
        simpa [h9] using this) rfl ⟨by rw [HKK.out, HKO.out]; rfl, HX.out⟩
set_option maxHeartbeats 1600000 in
set_option maxRecDepth 100000 in
theorem pedge_any (k : Nat) (w : World) (hk : k < 4294967296) :
    Calls Tryz.prog 17 #[.int .u32 k] w fun ed w' => ed = .returned (.agg #[.int .i64 (edgeP k).1, .int .i64 (edgeP k).2]) ∧ Ext w w' := by
  unfold edgeP
  have hand : bits .and .u32 (k : Int) 65535 = ((k % 65536 : Nat) : Int) := by
    have := u32_and_nat k 65535 hk (by omega)
    rw [show (65535 : Nat) = 2 ^ 16 - 1 from rfl, Nat.and_two_pow_sub_one_eq_mod] at this
    exact this
  obtain ⟨P, hP⟩ : ∃ P, k / 65536 = P := ⟨_, rfl⟩
  obtain ⟨R, hR⟩ : ∃ R, k % 65536 = R := ⟨_, rfl⟩
  rw [hR] at hand
  rw [hP, hR]
  have h1 : (k : Int) / 65536 = (P : Int) := by omega
  have h7 : IntKind.i64.wrap (P : Int) = (P : Int) := IntWalk.i64_in _ (by omega)
  have h8 : IntKind.i64.wrap (R : Int) = (R : Int) := IntWalk.i64_in _ (by omega)
  clear hP hR hk
  go_enter Tryz.func17, Tryz.ntmps17
  go_wp2_with fail
  exact bodyPost_ret (v := .agg #[.int .i64 P, .int .i64 R]) (by simp [results, Tryz.results17, go_sem]) rfl ⟨rfl, by first | exact (Ext.refl _).alloc _ | exact ((Ext.refl _).alloc _).setCell (Nat.le_refl _) _⟩
set_option maxHeartbeats 1600000 in
set_option maxRecDepth 100000 in
theorem pfirsts_any (l : List Nat) (L : Option Addr) (lc : Nat) (w : World) (hL : Rd kU32 w (.slice L l.length lc) (zs l)) (hl : l.length ≤ 900) :
    Calls Tryz.prog 23 #[.slice L l.length lc] w fun ed w' => ∃ A : Option Addr, ed = .returned (.slice A l.length l.length) ∧ Ow kBool w.heap.size w' (.slice A l.length l.length) (firstsL l) ∧ Ext w w' := by
  have HL := Lib.hid hL
  have hl' : (l.length : Int) ≤ 900 := by omega
  clear hL
  obtain ⟨C, hmk, hmown⟩ := kBool.make false rfl trivial l.length (by omega)
  have HM : Hid (∀ w3 : World, Ow kBool w3.heap.size (w3.alloc (.cells C 4)) (.slice (some ⟨w3.heap.size, 0, none⟩) l.length l.length) (firstsJ l 0)) := Lib.hid fun w3 => by
    rw [firstsJ_zero]
    exact hmown w3 w3.heap.size w3.heap.size rfl (Nat.le_refl _)
  have hmk2 : ∀ w : World, (Instr.makeSlice 55 (.int .i64 l.length) (.int .i64 l.length)).run Tryz.prog w = .ok (.slice (some ⟨w.heap.size, 0, none⟩) l.length l.length) (w.alloc (.cells C 4)) := hmk
  clear hmk hmown
  go_enter Tryz.func23, Tryz.ntmps23
  go_wp2_with fail
  go_loopw [11] (fun i wr => ∃ k : Nat, k ≤ l.length ∧ i = .int .i64 k ∧ Ow kBool w.heap.size wr (.slice (some ⟨w.heap.size, 0, none⟩) l.length l.length) (firstsJ l k) ∧ Ext w wr) (fun i _ => l.length - (intOf i).toNat)
  case atStart => exact ⟨0, Nat.zero_le _, rfl, HM.out w, (Ext.refl _).alloc _⟩
  case round =>
    obtain ⟨k, hk, rfl, hO, hX⟩ := hrel
    have HO := Lib.hid hO
    have HX := Lib.hid hX
    have hk0 : (0 : Int) ≤ k := by omega
    clear hO hX hmk2
    by_cases hlt : k < l.length
    · have hlt' : (k : Int) < l.length := by omega
      obtain ⟨bx, ox, rfl, z0, _⟩ := u32_at (HL.out.ext HX.out) k hlt
      obtain ⟨x, hx⟩ : ∃ x, l.getD k 0 = x := ⟨_, rfl⟩
      obtain ⟨m1, m2, _, _⟩ := HO.out.atB (u := k) (by rw [firstsJ_len]; exact hlt)
      have m2' := m2 k
      obtain ⟨mo, hmo⟩ : ∃ mo, (firstsJ l k).getD k false = mo := ⟨_, rfl⟩
      rw [hmo] at m1
      have hset := HO.out.setB (u := k) (v := firstB l k) (by rw [firstsJ_len]; exact hlt)
      rw [firstsJ_set] at hset
      have lbx : bx < wr.heap.size := World.block_lt_of_cell? _ _ z0
      rcases k with _ | j
      · have HSET := Lib.hid (show Ow kBool w.heap.size (wr.setCell ⟨w.heap.size, 0, none⟩ (.bool true)) (.slice (some ⟨w.heap.size, 0, none⟩) l.length l.length) (firstsJ l 1) from hset)
        have z1 : wr.cell? ⟨bx, ox, none⟩ = some (.int .u32 x) := by rw [← hx]; exact z0
        clear hset z0 hx m2 hmo
        go_wp2_with fail
        go_roundw
        case rel => exact ⟨1, by omega, by go_num, HSET.out, HX.out.setCell (p := ⟨w.heap.size, 0, none⟩) (Nat.le_refl _) _⟩
        case measure => simp [intOf]; omega
      · obtain ⟨bx', ox', e, y0, _⟩ := u32_at (HL.out.ext HX.out) j (by omega)
        cases e
        obtain ⟨y, hy⟩ : ∃ y, l.getD j 0 = y := ⟨_, rfl⟩
        have hfb : firstB l (j + 1) = (x != y) := by
          unfold firstB
          rw [show j + 1 - 1 = j by omega, hx, hy, decide_eq_false (by omega), Bool.false_or]
          exact Bool.eq_iff_iff.2 (by rw [bne_iff_ne, decide_eq_true_eq])
        rw [hfb] at hset
        rw [hx] at z0
        rw [hy] at y0
        have HSET := Lib.hid hset
        have hne : ((x : Int) != (y : Int)) = (x != y) := Bool.eq_iff_iff.2 (by rw [bne_iff_ne, bne_iff_ne]; omega)
        have hjw : IntKind.i64.wrap (j : Int) = (j : Int) := IntWalk.i64_in _ (by omega)
        have hj1 : (j : Int) < l.length := by omega
        have hj2 : decide (((j + 1 : Nat) : Int) = 0) = false := decide_eq_false (by omega)
        have hj3 : (((j + 1 : Nat) : Int) == 0) = false := by simp; omega
        clear hset hx hy hfb m2 hmo
        go_wp2_with fail
        go_roundw
        case rel => exact ⟨j + 1 + 1, by omega, by go_num, by first | exact HSET.out | (rw [hne] at *; exact HSET.out), HX.out.setCell (p := ⟨w.heap.size, j + 1, none⟩) (Nat.le_refl _) _⟩
        case measure => simp [intOf]; omega
    · obtain rfl : k = l.length := by omega
      have hT := HO.out
      rw [firstsJ_all] at hT
      have HT := Lib.hid hT
      clear hT
      go_wp2_with fail
      exact bodyPost_ret (v := .slice (some ⟨w.heap.size, 0, none⟩) l.length l.length) (by simp [results, Tryz.results23, go_sem]) rfl ⟨_, rfl, HT.out, HX.out⟩
end Go.Proofs.YtkpbanfpnilifaaGreat

/- The document's Sorted, Pass (ref10). -/
namespace Go.Proofs.YtkpbanfpnilifaaGreat
open Go.BigFrame
open Go.RowKit Go.Proofs.YtkpbanfpnilifaaGreat.Plain

def Plain.orderN (order : List Int) : List Nat := order.map Int.toNat
theorem Plain.orderN_zs (os : List Nat) : orderN (zs os) = os := by
  unfold orderN zs
  rw [List.map_map]
  conv => rhs; rw [← List.map_id os]
  exact List.map_congr_left fun x _ => by simp
/-- keys in an order, or not -/
def Plain.sortedR (keys : List Nat) (order : List Int) : List Nat × Bool := if onceB order keys.length = true then ((orderN order).map (fun i => keys.getD i 0), true) else ([], false)
/-- keys, or not -/
def SrtSaid (r : List Nat × Bool) (w : World) (ed : Ending) (w' : World) : Prop :=
  ∃ (L : Option Addr) (c : Nat), ed = .returned (.tuple #[.slice L r.1.length c, .bool r.2]) ∧ Ow kU32 w.heap.size w' (.slice L r.1.length c) (zs r.1) ∧ Ext w w'
end Go.Proofs.YtkpbanfpnilifaaGreat

/- Plain words of sorting by counting: which spot a place gets. No program in it. -/
namespace Go.Proofs.YtkpbanfpnilifaaGreat.Plain
/-- one that stands at k has k ahead of it -/
theorem spot_of {T : Nat → Nat → Bool} : ∀ (l : List Nat) (k : Nat), l.Pairwise (fun a b => T a b = true ∧ T b a = false) → (∀ a ∈ l, T a a = false) → k < l.length → l.countP (fun y => T y (l.getD k 0)) = k
  | [], k, _, _, h => absurd h (Nat.not_lt_zero _)
  | a :: l, 0, hp, hr, _ => by
    rw [List.pairwise_cons] at hp
    rw [List.countP_eq_zero]
    intro y hy
    show ¬ T y a = true
    rcases List.mem_cons.1 hy with rfl | hy
    · rw [hr y (by simp)]; decide
    · rw [(hp.1 y hy).2]; decide
  | a :: l, k + 1, hp, hr, h => by
    rw [List.pairwise_cons] at hp
    have hk : k < l.length := by simpa using h
    have ih := spot_of l k hp.2 (fun b hb => hr b (List.mem_cons_of_mem _ hb)) hk
    have hm : l.getD k 0 ∈ l := by rw [List.getD_eq_getElem?_getD, List.getElem?_eq_getElem hk]; exact List.getElem_mem _
    have e : (a :: l).getD (k + 1) 0 = l.getD k 0 := rfl
    rw [e, List.countP_cons, ih, (hp.1 _ hm).1]; rfl
theorem countP_or {p q : Nat → Bool} : ∀ (l : List Nat), (∀ x ∈ l, p x = true → q x = false) → l.countP (fun x => p x || q x) = l.countP p + l.countP q
  | [], _ => rfl
  | a :: l, h => by
    have ih := countP_or (p := p) (q := q) l (fun x hx => h x (List.mem_cons_of_mem _ hx))
    rw [List.countP_cons, List.countP_cons, List.countP_cons, ih]
    have h1 := h a (by simp)
    cases hp : p a
    · cases hq : q a <;> simp <;> omega
    · rw [h1 hp]; simp; omega
def lessF (f : Nat → Nat) (n d : Nat) : Nat := (List.range n).countP (fun i => decide (f i < d))
def sameF (f : Nat → Nat) (l : List Nat) (d : Nat) : Nat := l.countP (fun i => decide (f i = d))
theorem lessF_zero (f : Nat → Nat) (n : Nat) : lessF f n 0 = 0 := by unfold lessF; rw [List.countP_eq_zero]; intro x _; simp
theorem lessF_succ (f : Nat → Nat) (n d : Nat) : lessF f n (d + 1) = lessF f n d + sameF f (List.range n) d := by
  unfold lessF sameF
  rw [← countP_or _ (fun x _ h => by rw [decide_eq_true_eq] at h; rw [decide_eq_false_iff_not]; omega)]
  refine List.countP_congr fun x _ => ?_
  rw [decide_eq_true_eq, Bool.or_eq_true, decide_eq_true_eq, decide_eq_true_eq]; omega
theorem sameF_snoc (f : Nat → Nat) (l : List Nat) (x d : Nat) : sameF f (l ++ [x]) d = sameF f l d + if f x = d then 1 else 0 := by
  unfold sameF
  rw [List.countP_append, List.countP_singleton]
  congr 1
  by_cases h : f x = d
  · rw [if_pos h, if_pos (by simpa using h)]
  · rw [if_neg h, if_neg (by simpa using h)]
theorem sameF_le (f : Nat → Nat) (l : List Nat) (d : Nat) : sameF f l d ≤ l.length := List.countP_le_length
theorem lessF_le (f : Nat → Nat) (n d : Nat) : lessF f n d ≤ n := by
  have := List.countP_le_length (p := fun i => decide (f i < d)) (l := List.range n)
  rw [List.length_range] at this; exact this
theorem nodup_at {l : List Nat} (h : l.Nodup) {i j : Nat} (hi : i < l.length) (hj : j < l.length) (e : l.getD i 0 = l.getD j 0) : i = j := by
  rw [List.nodup_iff_pairwise_ne, List.pairwise_iff_getElem] at h
  rw [List.getD_eq_getElem?_getD, List.getElem?_eq_getElem hi, List.getD_eq_getElem?_getD, List.getElem?_eq_getElem hj] at e
  simp only [Option.getD_some] at e
  rcases Nat.lt_trichotomy i j with h1 | h1 | h1
  · exact absurd e (h i j hi hj h1)
  · exact h1
  · exact absurd e.symm (h j i hj hi h1)
theorem idx_at {l : List Nat} (h : l.Nodup) {i : Nat} (hi : i < l.length) : l.idxOf (l.getD i 0) = i := by
  have hm : l.getD i 0 ∈ l := by rw [List.getD_eq_getElem?_getD, List.getElem?_eq_getElem hi]; exact List.getElem_mem _
  have hlt := List.idxOf_lt_length_of_mem hm
  refine nodup_at h hlt hi ?_
  rw [List.getD_eq_getElem?_getD, List.getElem?_eq_getElem hlt, List.getElem_idxOf hlt]; rfl
/-- .. in the order of all that come, which spot is whose -/
theorem spot_in (f : Nat → Nat) (os : List Nat) (n j : Nat) (hp : os.Perm (List.range n)) (hj : j < os.length) :
    lessF f n (f (os.getD j 0)) + sameF f (os.take j) (f (os.getD j 0)) < n ∧ (insAll f os).getD (lessF f n (f (os.getD j 0)) + sameF f (os.take j) (f (os.getD j 0))) 0 = os.getD j 0 := by
  have hnd : os.Nodup := hp.nodup_iff.2 List.nodup_range
  have hR : os.Pairwise (fun a b => os.idxOf a < os.idxOf b) := by
    rw [List.pairwise_iff_getElem]
    intro i k hi hk hik
    have h1 := idx_at hnd hi
    have h2 := idx_at hnd hk
    rw [List.getD_eq_getElem?_getD, List.getElem?_eq_getElem hi] at h1
    rw [List.getD_eq_getElem?_getD, List.getElem?_eq_getElem hk] at h2
    simp only [Option.getD_some] at h1 h2
    rw [h1, h2]; exact hik
  obtain ⟨g1, g2⟩ := insAll_good f _ _ os rfl hR
  obtain ⟨s, hs⟩ : ∃ s, os.getD j 0 = s := ⟨_, rfl⟩
  have hix := idx_at hnd hj
  rw [hs] at hix
  rw [hs]
  have hm : s ∈ os := by rw [← hs, List.getD_eq_getElem?_getD, List.getElem?_eq_getElem hj]; exact List.getElem_mem _
  obtain ⟨k, hk, hks⟩ := List.getElem_of_mem (g1.mem_iff.2 hm)
  have hks' : (insAll f os).getD k 0 = s := by rw [List.getD_eq_getElem?_getD, List.getElem?_eq_getElem hk, hks]; rfl
  have hkn : k < n := by rw [g1.length_eq, hp.length_eq, List.length_range] at hk; exact hk
  have hc := spot_of (T := fun a b => decide (f a < f b ∨ f a = f b ∧ os.idxOf a < os.idxOf b)) (insAll f os) k (g2.imp fun {a b} h => by
    refine ⟨decide_eq_true h, decide_eq_false ?_⟩
    unfold byF at h; omega) (fun a _ => decide_eq_false (by omega)) hk
  rw [hks', g1.countP_eq] at hc
  have he : os.countP (fun y => decide (f y < f s ∨ f y = f s ∧ os.idxOf y < os.idxOf s)) = lessF f n (f s) + sameF f (os.take j) (f s) := by
    rw [hix]
    have e1 : os.countP (fun y => decide (f y < f s ∨ f y = f s ∧ os.idxOf y < j)) = os.countP (fun y => decide (f y < f s) || decide (f y = f s ∧ os.idxOf y < j)) := by
      refine List.countP_congr fun x _ => ?_
      rw [decide_eq_true_eq, Bool.or_eq_true, decide_eq_true_eq, decide_eq_true_eq]
    rw [e1, countP_or _ (fun x _ h => by rw [decide_eq_true_eq] at h; rw [decide_eq_false_iff_not]; omega)]
    unfold lessF sameF
    rw [hp.countP_eq]
    congr 1
    have e2 : os.countP (fun y => decide (f y = f s ∧ os.idxOf y < j)) = (os.take j ++ os.drop j).countP (fun y => decide (f y = f s ∧ os.idxOf y < j)) := by rw [List.take_append_drop]
    rw [e2, List.countP_append]
    have e3 : (os.drop j).countP (fun y => decide (f y = f s ∧ os.idxOf y < j)) = 0 := by
      rw [List.countP_eq_zero]
      intro y hy
      obtain ⟨q, hq, rfl⟩ := List.getElem_of_mem hy
      rw [List.length_drop] at hq
      have h1 := idx_at hnd (i := j + q) (by omega)
      rw [List.getD_eq_getElem?_getD, List.getElem?_eq_getElem (by omega)] at h1
      simp only [Option.getD_some] at h1
      rw [List.getElem_drop, h1, decide_eq_true_eq]; omega
    rw [e3, Nat.add_zero]
    refine List.countP_congr fun y hy => ?_
    obtain ⟨q, hq, rfl⟩ := List.getElem_of_mem hy
    rw [List.length_take] at hq
    have h1 := idx_at hnd (i := q) (by omega)
    rw [List.getD_eq_getElem?_getD, List.getElem?_eq_getElem (by omega)] at h1
    simp only [Option.getD_some] at h1
    rw [List.getElem_take, h1, decide_eq_true_eq, decide_eq_true_eq]; omega
  rw [he] at hc
  rw [hc]
  exact ⟨hkn, hks'⟩
/-- what is put down so far -/
def madeJ (S pre : List Nat) : List Nat := byN S.length (fun k => if S.getD k 0 ∈ pre then S.getD k 0 else 0)
theorem madeJ_len (S pre : List Nat) : (madeJ S pre).length = S.length := byN_len _ _
theorem byN_set' (n : Nat) (f : Nat → Nat) (u v : Nat) : (byN n f).set u v = byN n (fun i => if i = u then v else f i) := by
  apply List.ext_getElem?
  intro i
  unfold byN
  by_cases hi : i < n
  · rw [List.getElem?_set, List.getElem?_map, List.getElem?_map, List.getElem?_range hi]
    by_cases h : u = i
    · subst h; simp [hi]
    · rw [if_neg h, Option.map_some, Option.map_some, if_neg (fun e => h e.symm)]
  · rw [List.getElem?_eq_none (by simp; omega), List.getElem?_eq_none (by simp; omega)]
theorem madeJ_set (S pre : List Nat) (q s : Nat) (hn : S.Nodup) (hq : q < S.length) (hs : S.getD q 0 = s) : (madeJ S pre).set q s = madeJ S (pre ++ [s]) := by
  unfold madeJ
  rw [byN_set']
  refine byN_congr _ _ _ fun k hk => ?_
  by_cases e : k = q
  · subst e; rw [if_pos rfl, hs, if_pos (by simp)]
  · rw [if_neg e]
    have hne : S.getD k 0 ≠ s := fun h => e (nodup_at hn hk hq (by rw [h, hs]))
    by_cases h2 : S.getD k 0 ∈ pre
    · rw [if_pos h2, if_pos (List.mem_append_left _ h2)]
    · rw [if_neg h2, if_neg (fun h3 => by
        rcases List.mem_append.1 h3 with h4 | h4
        · exact h2 h4
        · exact hne (by simpa using h4))]
theorem madeJ_all (S os : List Nat) (h : os.Perm S) : madeJ S os = S := by
  have e : madeJ S os = byN S.length (fun k => S.getD k 0) := by
    unfold madeJ
    refine byN_congr _ _ _ fun k hk => if_pos (h.mem_iff.2 ?_)
    rw [List.getD_eq_getElem?_getD, List.getElem?_eq_getElem hk]; exact List.getElem_mem _
  rw [e, byN_id]
/-- how many have come of each -/
def spotsJ (g f : Nat → Nat) (D : Nat) (pre : List Nat) : List Nat := byN D (fun d => g d + sameF f pre d)
theorem spotsJ_len (g f : Nat → Nat) (D : Nat) (pre : List Nat) : (spotsJ g f D pre).length = D := byN_len _ _
theorem spotsJ_at (g f : Nat → Nat) (D : Nat) (pre : List Nat) (d : Nat) (hd : d < D) : (spotsJ g f D pre).getD d 0 = g d + sameF f pre d := byN_getD _ _ _ hd
theorem spotsJ_set (g f : Nat → Nat) (D : Nat) (pre : List Nat) (s : Nat) : (spotsJ g f D pre).set (f s) (g (f s) + sameF f pre (f s) + 1) = spotsJ g f D (pre ++ [s]) := by
  unfold spotsJ
  rw [byN_set']
  refine byN_congr _ _ _ fun d _ => ?_
  rw [sameF_snoc]
  by_cases e : d = f s
  · subst e; rw [if_pos rfl, if_pos rfl]; omega
  · rw [if_neg e, if_neg (fun h => e h.symm)]; omega
/-- counts, turned to beginnings, so far -/
def begJ (f : Nat → Nat) (n D q : Nat) : List Nat := byN D (fun d => if d < q then lessF f n d else sameF f (List.range n) d)
theorem begJ_len (f : Nat → Nat) (n D q : Nat) : (begJ f n D q).length = D := byN_len _ _
theorem begJ_at (f : Nat → Nat) (n D q : Nat) (h : q < D) : (begJ f n D q).getD q 0 = sameF f (List.range n) q := by
  unfold begJ
  rw [byN_getD _ _ _ h, if_neg (by omega)]
theorem begJ_set (f : Nat → Nat) (n D q : Nat) : (begJ f n D q).set q (lessF f n q) = begJ f n D (q + 1) := by
  unfold begJ
  rw [byN_set']
  refine byN_congr _ _ _ fun d _ => ?_
  by_cases e : d = q
  · subst e; rw [if_pos rfl, if_pos (by omega)]
  · rw [if_neg e]
    by_cases h : d < q
    · rw [if_pos h, if_pos (by omega)]
    · rw [if_neg h, if_neg (by omega)]
theorem begJ_zero (f : Nat → Nat) (n D : Nat) : begJ f n D 0 = spotsJ (fun _ => 0) f D (List.range n) := byN_congr _ _ _ fun d _ => by rw [if_neg (by omega)]; exact (Nat.zero_add _).symm
theorem begJ_all (f : Nat → Nat) (n D : Nat) : begJ f n D D = spotsJ (lessF f n) f D [] := byN_congr _ _ _ fun d hd => by rw [if_pos hd]; rfl
/-- each once, none that isn't -/
theorem all_of_nodup : ∀ (n : Nat) (l : List Nat), l.Nodup → l.length = n → (∀ x ∈ l, x < n) → ∀ k, k < n → k ∈ l
  | 0, _, _, _, _, k, hk => absurd hk (Nat.not_lt_zero _)
  | n + 1, l, hn, hl, hb, k, hk => by
    by_cases h : n ∈ l
    · obtain ⟨a, b, rfl⟩ := List.append_of_mem h
      have hn2 := (List.perm_middle (l₁ := a) (l₂ := b) (a := n)).nodup_iff.1 hn
      rw [List.nodup_cons] at hn2
      have h1 : (a ++ b).length = n := by rw [List.length_append, List.length_cons] at hl; rw [List.length_append]; omega
      have ih := all_of_nodup n (a ++ b) hn2.2 h1 (fun x hx => by
        have h2 := hb x ((List.perm_middle (l₁ := a) (l₂ := b) (a := n)).mem_iff.2 (List.mem_cons_of_mem _ hx))
        have h3 : x ≠ n := fun e => hn2.1 (e ▸ hx)
        omega)
      rcases Nat.lt_or_ge k n with h2 | h2
      · exact (List.perm_middle (l₁ := a) (l₂ := b) (a := n)).mem_iff.2 (List.mem_cons_of_mem _ (ih k h2))
      · obtain rfl : k = n := by omega
        exact h
    · exfalso
      rcases l with _ | ⟨x, l⟩
      · simp at hl
      · rw [List.nodup_cons] at hn
        have ih := all_of_nodup n l hn.2 (by simpa using hl) (fun y hy => by
          have h2 := hb y (List.mem_cons_of_mem _ hy)
          have h3 : y ≠ n := fun e => h (e ▸ List.mem_cons_of_mem _ hy)
          omega)
        have h2 := hb x (by simp)
        have h3 : x ≠ n := fun e => h (e ▸ by simp)
        exact hn.1 (ih x (by omega))
end Go.Proofs.YtkpbanfpnilifaaGreat.Plain

/- The program's small ones of scan: right, Blocks, the rules, along. -/
namespace Go.Proofs.YtkpbanfpnilifaaGreat
open Go.BigFrame
open Go.RowKit Go.Proofs.YtkpbanfpnilifaaGreat.Plain

set_option maxRecDepth 100000 in
theorem sright_any (b : Int) (w : World) (hb : in64 b) :
    Calls Tryz.prog 50 #[.int .i64 b] w fun ed w' => ed = .returned (.bool (decide (1 ≤ b ∧ b ≤ 100))) ∧ w = w' := by
  unfold in64 at hb
  go_enter Tryz.func50, Tryz.ntmps50
  go_wp2
  all_goals go_ret
  all_goals exact ⟨ret_bool (by simp; try omega), rfl⟩

set_option maxRecDepth 100000 in
theorem sblocksE_any (n : Nat) (b : Int) (w : World) (hn : n ≤ 1000) (hb : in64 b) :
    Calls Tryz.prog 51 #[.int .i64 n, .int .i64 b] w fun ed w' => ed = .returned (.int .i64 (blocksP n b)) ∧ w = w' := by
  have hn1 : (n : Int) ≤ 1000 := by omega
  have hn0 : (0 : Int) ≤ n := by omega
  have HB := Lib.hid hb
  unfold in64 at hb
  by_cases h1 : 1 ≤ b ∧ b ≤ 100
  · obtain ⟨B, rfl⟩ : ∃ B : Nat, b = B := ⟨b.toNat, by omega⟩
    have e : blocksP n B = (n + B - 1) / B := by unfold blocksP; rw [if_pos (by omega), Int.toNat_natCast]
    have h1' : (1 : Int) ≤ B := by omega
    have h2' : (B : Int) ≤ 100 := by omega
    have hr : ∀ w, Calls Tryz.prog 50 #[.int .i64 B] w fun ed w' => ed = .returned (.bool true) ∧ w = w' := fun w => (sright_any B w HB.out).mono fun ed w' h => ⟨by rw [h.1, decide_eq_true h1], h.2⟩
    have HR := Lib.hid hr
    have E := Lib.hid e
    clear e h1 hb hr
    go_enter Tryz.func51, Tryz.ntmps51
    go_wp2_with fail
    refine (HR.out _).mono ?_
    rintro ed w1 ⟨rfl, rfl⟩
    go_wp2_with fail
    all_goals go_ret
    all_goals refine ⟨ret_int ?_, rfl⟩
    all_goals (rw [E.out, Int.natCast_ediv]; congr 1; omega)
  · have e : blocksP n b = 0 := by unfold blocksP; rw [if_neg (by omega)]
    have hr : ∀ w, Calls Tryz.prog 50 #[.int .i64 b] w fun ed w' => ed = .returned (.bool false) ∧ w = w' := fun w => (sright_any b w HB.out).mono fun ed w' h => ⟨by rw [h.1, decide_eq_false h1], h.2⟩
    have HR := Lib.hid hr
    rw [e]
    clear e h1 hr
    go_enter Tryz.func51, Tryz.ntmps51
    go_wp2_with fail
    refine (HR.out _).mono ?_
    rintro ed w1 ⟨rfl, rfl⟩
    go_wp2_with fail
    all_goals go_ret
    all_goals exact ⟨rfl, rfl⟩

/-- the two rules -/
def Plain.addR (a x : Nat) : Nat := (a + x) % 4294967296
theorem Plain.addR_lt (a x : Nat) (_ : a < 4294967296) (_ : x < 4294967296) : addR a x < 4294967296 := Nat.mod_lt _ (by decide)
theorem srule1_any (a x : Nat) (w : World) (ha : a < 4294967296) (hx : x < 4294967296) :
    Calls Tryz.prog 40 #[.int .u32 a, .int .u32 x] w fun ed w' => ed = .returned (.int .u32 (addR a x : Nat)) ∧ w = w' := by
  obtain ⟨z, hz⟩ : ∃ z, addR a x = z := ⟨_, rfl⟩
  have e : ((a : Int) + x) % 4294967296 = (z : Int) := by unfold addR at hz; omega
  rw [hz]
  clear hz
  go_enter Tryz.func40, Tryz.ntmps40
  go_wp2_with fail
  go_ret
  exact ⟨ret_int e, rfl⟩
end Go.Proofs.YtkpbanfpnilifaaGreat

/- The program's along (scan): of each cell what a rule makes of a start and all ahead of it. -/
namespace Go.Proofs.YtkpbanfpnilifaaGreat
open Go.BigFrame
open Go.RowKit Go.Proofs.YtkpbanfpnilifaaGreat.Plain

/-- what along makes of a list: from 'off' on so many cells are others -/
def Plain.alongL (R : Nat → Nat → Nat) (M l : List Nat) (off s j : Nat) : List Nat := byN M.length (fun u => if off ≤ u ∧ u < off + j then (l.take (u - off)).foldl R s else M.getD u 0)
theorem Plain.alongL_len (R : Nat → Nat → Nat) (M l : List Nat) (off s j : Nat) : (alongL R M l off s j).length = M.length := byN_len _ _
theorem Plain.alongL_zero (R : Nat → Nat → Nat) (M l : List Nat) (off s : Nat) : alongL R M l off s 0 = M := by
  unfold alongL
  rw [byN_congr _ _ (fun u => M.getD u 0) (fun u _ => if_neg (by omega))]
  exact byN_id M
theorem Plain.alongL_set (R : Nat → Nat → Nat) (M l : List Nat) (off s j : Nat) : (alongL R M l off s j).set (off + j) ((l.take j).foldl R s) = alongL R M l off s (j + 1) := by
  unfold alongL
  rw [byN_set]
  refine byN_congr _ _ _ (fun u _ => ?_)
  by_cases h : u = off + j
  · subst h
    rw [if_pos rfl, if_pos (by omega), show off + j - off = j by omega]
  · rw [if_neg h]
    by_cases h2 : off ≤ u ∧ u < off + j
    · rw [if_pos h2, if_pos (by omega)]
    · rw [if_neg h2, if_neg (by omega)]
theorem Plain.foldR_lt {R : Nat → Nat → Nat} (hR : ∀ a x, a < 4294967296 → x < 4294967296 → R a x < 4294967296) : ∀ (l : List Nat) (s : Nat), s < 4294967296 → (∀ x ∈ l, x < 4294967296) → l.foldl R s < 4294967296
  | [], _, hs, _ => hs
  | x :: l, s, hs, hl => foldR_lt hR l (R s x) (hR _ _ hs (hl x (by simp))) (fun z hz => hl z (by simp [hz]))
theorem Plain.foldR_snoc (R : Nat → Nat → Nat) (l : List Nat) (s j : Nat) (hj : j < l.length) : (l.take (j + 1)).foldl R s = R ((l.take j).foldl R s) (l.getD j 0) := by
  rw [takeN_snoc hj, List.foldl_append]; rfl
set_option maxHeartbeats 1600000 in
set_option maxRecDepth 100000 in
theorem salong1_any (g off m c c0 B0 s : Nat) (M l : List Nat) (L : Option Addr) (lc : Nat) (w : World) (hM : Ow kU32 B0 w (.slice (some ⟨g, 0, none⟩) M.length c0) (zs M)) (hL : Rd kU32 w (.slice L l.length lc) (zs l))
    (hfar : ∀ a, L = some a → a.block ≠ g) (hom : off + m ≤ M.length) (hlm : l.length ≤ m) (hs : s < 4294967296) (hM9 : M.length ≤ 1000) :
    Calls Tryz.prog 52 #[.slice (some ⟨g, off, none⟩) m c, .slice L l.length lc, .int .u32 s, .func (.func 40) #[] #[]] w fun ed w' =>
      ed = .returned (.int .u32 (l.foldl addR s : Nat)) ∧ Ow kU32 B0 w' (.slice (some ⟨g, 0, none⟩) M.length c0) (zs (alongL addR M l off s l.length)) ∧ w.grownBy w' (some g) := by
  have HM := Lib.hid hM
  have HL := Lib.hid hL
  have HFAR := Lib.hid hfar
  have HS := Lib.hid (And.intro hs (zs_lt hL))
  have hl' : (l.length : Int) ≤ m := by omega
  have hm' : (m : Int) ≤ 1000 := by omega
  clear hM hL hfar hs
  go_enter Tryz.func52, Tryz.ntmps52
  go_wp2_with fail
  go_loopw [2, 13] (fun a i wr => ∃ j : Nat, j ≤ l.length ∧ i = .int .i64 j ∧ a = .int .u32 ((l.take j).foldl addR s : Nat) ∧ Ow kU32 B0 wr (.slice (some ⟨g, 0, none⟩) M.length c0) (zs (alongL addR M l off s j)) ∧ w.grownBy wr (some g)) (fun _ i _ => l.length - (intOf i).toNat)
  case atStart => exact ⟨0, Nat.zero_le _, rfl, rfl, by rw [alongL_zero]; exact HM.out, World.grownBy.refl _ _⟩
  case round =>
    obtain ⟨j, hj, rfl, rfl, hO, hX⟩ := hrel
    have HO := Lib.hid hO
    have HX := Lib.hid hX
    have hj0 : (0 : Int) ≤ j := by omega
    clear hO hX
    by_cases hlt : j < l.length
    · have hlt' : (j : Int) < l.length := by omega
      have hjm : (j : Int) < m := by omega
      obtain ⟨bx, ox, rfl, z0, hxl⟩ := u32_at (HL.out.grown HX.out (fun a ha e => HFAR.out a ha (by cases e; rfl))) j hlt
      obtain ⟨z1, z2, _, _, zg⟩ := HO.out.atN (u := off + j) (by rw [alongL_len]; omega)
      have hal : (l.take j).foldl addR s < 4294967296 := foldR_lt addR_lt _ _ HS.out.1 (fun x hx => HS.out.2 x (List.mem_of_mem_take hx))
      have hset := HO.out.setN (u := off + j) (v := (l.take j).foldl addR s) (by rw [alongL_len]; omega) hal
      rw [alongL_set] at hset
      have hsn := foldR_snoc addR l s j hlt
      obtain ⟨ov, hov⟩ : ∃ ov, Value.int IntKind.u32 (((alongL addR M l off s j).getD (off + j) 0 : Nat) : Int) = ov := ⟨_, rfl⟩
      rw [hov] at z1
      obtain ⟨x, hx⟩ : ∃ x, l.getD j 0 = x := ⟨_, rfl⟩
      obtain ⟨a, ha⟩ : ∃ a, (l.take j).foldl addR s = a := ⟨_, rfl⟩
      rw [hx] at z0 hxl hsn
      rw [ha] at hal hset hsn ⊢
      have HSET := Lib.hid hset
      have HSN := Lib.hid hsn
      have HRU := Lib.hid (fun w => srule1_any a x w hal hxl)
      have z2' := z2 (off + j)
      have hbg : bx ≠ g := HFAR.out _ rfl
      clear hset hsn hov hx ha z2 hal hxl
      go_wp2_with fail
      refine (HRU.out _).mono ?_
      rintro ed w1 ⟨rfl, rfl⟩
      go_wp2_with fail
      go_roundw
      case rel =>
        exact ⟨j + 1, by omega, by go_num, by rw [HSN.out], HSET.out, HX.out.trans (grown_set _ _ _)⟩
      case measure => simp [intOf]; omega
    · obtain rfl : j = l.length := by omega
      go_wp2_with fail
      go_ret
      exact ⟨by rw [List.take_length]; rfl, HO.out, HX.out⟩

end Go.Proofs.YtkpbanfpnilifaaGreat

/- The program's small ones of radix: Passes, isPass, Digit, isOrder, asTheyStand (real code). -/
namespace Go.Proofs.YtkpbanfpnilifaaGreat
open Go.BigFrame
open Go.RowKit Go.Proofs.YtkpbanfpnilifaaGreat.Plain

set_option maxHeartbeats 1600000 in
set_option maxRecDepth 100000 in
theorem ppasses0_any (b : Int) (w : World) (hb : in64 b) :
    Calls Tryz.prog 29 #[.int .i64 b] w fun ed w' => ed = .returned (.int .i64 (passesP b : Nat)) ∧ w = w' := by
  unfold in64 at hb
  by_cases h : b < 1 ∨ 16 < b
  · have HR := Lib.hid (passesP_no b h)
    rw [HR.out]
    go_enter Tryz.func29, Tryz.ntmps29
    by_cases h1 : b < 1
    · have hd1 : decide (b < 1) = true := decide_eq_true h1
      go_wp2_with fail
      all_goals go_ret
      all_goals exact ⟨ret_int rfl, rfl⟩
    · have hd1 : decide (b < 1) = false := decide_eq_false h1
      have hd2 : decide (16 < b) = true := decide_eq_true (by omega)
      go_wp2_with fail
      all_goals go_ret
      all_goals exact ⟨ret_int rfl, rfl⟩
  · have h9 : b = 1 ∨ b = 2 ∨ b = 3 ∨ b = 4 ∨ b = 5 ∨ b = 6 ∨ b = 7 ∨ b = 8 ∨ b = 9 ∨ b = 10 ∨ b = 11 ∨ b = 12 ∨ b = 13 ∨ b = 14 ∨ b = 15 ∨ b = 16 := by omega
    clear h hb
    go_enter Tryz.func29, Tryz.ntmps29
    rcases h9 with rfl | rfl | rfl | rfl | rfl | rfl | rfl | rfl | rfl | rfl | rfl | rfl | rfl | rfl | rfl | rfl
    all_goals
      go_wp2_with fail
      go_ret
      exact ⟨ret_int (by first | rfl | decide +kernel), rfl⟩
/-- is there such a pass? -/
def Plain.isPassB (p b : Int) : Bool := decide (0 ≤ p) && decide (p < passesP b)
set_option maxHeartbeats 1600000 in
set_option maxRecDepth 100000 in
theorem pispass_any (p b : Int) (w : World) (hp : in64 p) (hb : in64 b) :
    Calls Tryz.prog 55 #[.int .i64 p, .int .i64 b] w fun ed w' => ed = .returned (.bool (isPassB p b)) ∧ w = w' := by
  have HB := Lib.hid hb
  by_cases h1 : 0 ≤ p
  · have hd1 : decide (0 ≤ p) = true := decide_eq_true h1
    have hd3 : decide (p < 0) = false := decide_eq_false (by omega)
    obtain ⟨N, hN⟩ : ∃ N, passesP b = N := ⟨_, rfl⟩
    have HN := Lib.hid hN
    have HR : Hid (isPassB p b = decide (p < (N : Int))) := Lib.hid (by unfold isPassB; rw [hd1, hN]; rfl)
    obtain ⟨d, hd⟩ : ∃ d, decide (p < (N : Int)) = d := ⟨_, rfl⟩
    rw [hd] at HR
    clear hp hb hN
    go_enter Tryz.func55, Tryz.ntmps55
    go_wp2_with fail
    refine (ppasses0_any b _ HB.out).mono ?_
    rintro ed w1 ⟨rfl, rfl⟩
    rw [HN.out]
    go_wp2_with fail
    go_ret
    exact ⟨ret_bool (by rw [HR.out]), rfl⟩
  · have hd1 : decide (0 ≤ p) = false := decide_eq_false h1
    have HR : Hid (isPassB p b = false) := Lib.hid (by unfold isPassB; rw [hd1]; rfl)
    clear hp hb
    go_enter Tryz.func55, Tryz.ntmps55
    go_wp2_with fail
    all_goals go_ret
    all_goals exact ⟨ret_bool (by rw [HR.out]), rfl⟩

set_option maxHeartbeats 1600000 in
set_option maxRecDepth 100000 in
theorem pdigit_any (key : Nat) (p b : Int) (w : World) (hk : key < 4294967296) (hp : in64 p) (hb : in64 b) :
    Calls Tryz.prog 42 #[.int .u32 key, .int .i64 p, .int .i64 b] w fun ed w' => ed = .returned (.int .u32 (digitP key p b : Nat)) ∧ Ext w w' := by
  have HB := Lib.hid hb
  have HP := Lib.hid hp
  cases hip : isPassB p b with
  | false =>
    have HR : Hid (digitP key p b = 0) := Lib.hid (by
      unfold digitP
      refine if_pos ?_
      unfold isPassB at hip
      rw [Bool.and_eq_false_iff, decide_eq_false_iff_not, decide_eq_false_iff_not] at hip
      omega)
    have HI := Lib.hid hip
    rw [HR.out]
    clear hp hb hk hip
    go_enter Tryz.func42, Tryz.ntmps42
    go_wp2_with fail
    refine (pispass_any p b _ HP.out HB.out).mono ?_
    rintro ed w1 ⟨rfl, rfl⟩
    rw [HI.out]
    go_wp2_with fail
    go_ret
    exact ⟨ret_int rfl, Ext.refl _⟩
  | true =>
    have HI := Lib.hid hip
    unfold isPassB at hip
    rw [Bool.and_eq_true, decide_eq_true_eq, decide_eq_true_eq] at hip
    obtain ⟨P, rfl⟩ : ∃ P : Nat, p = P := ⟨p.toNat, by omega⟩
    have h4 : 1 ≤ b ∧ b ≤ 16 := by
      by_cases h9 : b < 1 ∨ 16 < b
      · rw [passesP_no b h9] at hip; omega
      · omega
    obtain ⟨B, rfl⟩ : ∃ B : Nat, b = B := ⟨b.toNat, by omega⟩
    obtain ⟨h5, h6⟩ : 1 ≤ B ∧ B ≤ 16 := by omega
    have hq := passes_mul P B h5 h6 (by omega)
    have HR : Hid (digitP key P B = key / 2 ^ (P * B) % 2 ^ B) := Lib.hid (by unfold digitP; rw [if_neg (by omega)]; simp)
    obtain ⟨Q, hQ⟩ : ∃ Q, P * B = Q := ⟨_, rfl⟩
    have hQ' : (P : Int) * (B : Int) = (Q : Int) := by rw [← hQ]; simp
    have hQ9 : IntKind.i64.wrap (Q : Int) = (Q : Int) := IntWalk.i64_in _ (by omega)
    rw [hQ] at HR hq
    have hQ0 : (0 : Int) ≤ Q := by omega
    have hQ1 : (Q : Int) < 32 := by omega
    have hB0 : (0 : Int) ≤ B := by omega
    have hB1 : (B : Int) < 32 := by omega
    have hpw : 2 ^ B ≤ 65536 := by have := Nat.pow_le_pow_right (n := 2) (by decide) h6; simpa using this
    have hpw1 : 1 ≤ 2 ^ B := Nat.one_le_two_pow
    have HK := Lib.hid hk
    rw [HR.out]
    clear hp hb hk hip h4 hQ
    go_enter Tryz.func42, Tryz.ntmps42
    go_wp2_with fail
    refine (pispass_any P B _ HP.out HB.out).mono ?_
    rintro ed w1 ⟨rfl, rfl⟩
    rw [HI.out]
    go_wp2_with fail
    try go_quiet (fail)
    go_wp2_with fail
    go_ret
    exact ⟨ret_int (by
      have h8 : (key : Int) / 2 ^ Q = ((key / 2 ^ Q : Nat) : Int) := by simp
      have h9 : ((2 : Int) ^ B - 1) % 4294967296 = ((2 ^ B - 1 : Nat) : Int) := by
        have e : (2 : Int) ^ B = ((2 ^ B : Nat) : Int) := by simp
        rw [e]
        obtain ⟨z, hz⟩ : ∃ z, 2 ^ B = z := ⟨_, rfl⟩
        rw [hz] at hpw hpw1 ⊢
        omega
      rw [h8, h9, u32_and_nat _ _ (Nat.lt_of_le_of_lt (Nat.div_le_self _ _) HK.out) (by omega), Nat.and_two_pow_sub_one_eq_mod]), (Ext.refl _).drewN _⟩
/-- who has come so far -/
def Plain.metJ (l : List Int) (n j : Nat) : List Bool := (List.range n).map (fun u : Nat => decide ((u : Int) ∈ l.take j))
theorem Plain.metJ_len (l : List Int) (n j : Nat) : (metJ l n j).length = n := by simp [metJ]
theorem Plain.metJ_zero (l : List Int) (n : Nat) : metJ l n 0 = List.replicate n false := by
  unfold metJ
  apply List.ext_getElem?
  intro i
  by_cases hi : i < n
  · rw [List.getElem?_map, List.getElem?_range hi, List.getElem?_replicate, if_pos hi]; rfl
  · rw [List.getElem?_eq_none (by simpa using hi), List.getElem?_eq_none (by simpa using hi)]
theorem Plain.metJ_at (l : List Int) (n j u : Nat) (hu : u < n) : (metJ l n j).getD u false = decide ((u : Int) ∈ l.take j) := by
  unfold metJ
  rw [List.getD_eq_getElem?_getD, List.getElem?_map, List.getElem?_range hu]; rfl
theorem Plain.metJ_set (l : List Int) (n j u : Nat) (h : l.take (j + 1) = l.take j ++ [(u : Int)]) : (metJ l n j).set u true = metJ l n (j + 1) := by
  unfold metJ
  apply List.ext_getElem?
  intro i
  by_cases hi : i < n
  · rw [List.getElem?_set, List.getElem?_map, List.getElem?_map, List.getElem?_range hi]
    by_cases e : u = i
    · subst e; simp [hi, h]
    · rw [if_neg e, Option.map_some, Option.map_some, h]
      have : ((i : Int) = (u : Int)) = False := by simp; omega
      simp [this]
  · rw [List.getElem?_eq_none (by simp; omega), List.getElem?_eq_none (by simp; omega)]
theorem Plain.onceB_of (l : List Int) (n : Nat) (hl : l.length = n) (hb : ∀ x ∈ l, 0 ≤ x ∧ x < n) (hn : l.Nodup) : onceB l n = true := by
  have hz : l = zs (l.map Int.toNat) := by
    unfold zs
    rw [List.map_map]
    conv => lhs; rw [← List.map_id l]
    refine List.map_congr_left fun x hx => ?_
    have := hb x hx
    show x = ((x.toNat : Nat) : Int)
    omega
  have hnd : (l.map Int.toNat).Nodup := by
    rw [List.nodup_iff_pairwise_ne, List.pairwise_map]
    refine List.Pairwise.imp_of_mem (fun {a b} ha hb' h e => h ?_) (List.nodup_iff_pairwise_ne.1 hn)
    have h1 := hb a ha
    have h2 := hb b hb'
    omega
  refine (onceB_iff l n).2 ⟨l.map Int.toNat, hz, perm_of_all n _ (by rw [List.length_map]; exact hl) (all_of_nodup n _ hnd (by rw [List.length_map]; exact hl) fun x hx => ?_)⟩
  obtain ⟨y, hy, rfl⟩ := List.mem_map.1 hx
  have := hb y hy
  omega
theorem Plain.onceB_out (l : List Int) (n : Nat) (x : Int) (hx : x ∈ l) (h : x < 0 ∨ (n : Int) ≤ x) : onceB l n = false := by
  rw [← Bool.not_eq_true]
  intro h9
  unfold onceB at h9
  rw [Bool.and_eq_true, Bool.and_eq_true, List.all_eq_true] at h9
  have := h9.1.2 x hx
  rw [Bool.and_eq_true, decide_eq_true_eq, decide_eq_true_eq] at this
  omega
theorem Plain.onceB_len (l : List Int) (n : Nat) (h : l.length ≠ n) : onceB l n = false := by unfold onceB; rw [decide_eq_false h]; simp
theorem Plain.onceB_nodup (l : List Int) (n : Nat) (h : onceB l n = true) : l.Nodup := by
  obtain ⟨os, rfl, hp⟩ := (onceB_iff l n).1 h
  have h1 : os.Nodup := hp.nodup_iff.2 List.nodup_range
  unfold zs
  rw [List.nodup_iff_pairwise_ne, List.pairwise_map]
  exact (List.nodup_iff_pairwise_ne.1 h1).imp fun {a b} h2 e => h2 (by omega)
theorem Plain.nodup_snoc (l : List Int) (x : Int) (h : l.Nodup) (hx : x ∉ l) : (l ++ [x]).Nodup := by
  rw [List.nodup_append]
  refine ⟨h, by simp, fun a ha b hb => ?_⟩
  rw [List.mem_singleton] at hb
  subst hb
  exact fun e => hx (e ▸ ha)
theorem Plain.onceB_twice (l : List Int) (n j : Nat) (x : Int) (h : l.take (j + 1) = l.take j ++ [x]) (hx : x ∈ l.take j) : onceB l n = false := by
  rw [← Bool.not_eq_true]
  intro h9
  have h1 := onceB_nodup l n h9
  rw [← List.take_append_drop (j + 1) l, h, List.nodup_append] at h1
  have h2 := h1.1
  rw [List.nodup_append] at h2
  exact h2.2.2 x hx x (by simp) rfl

set_option maxHeartbeats 1600000 in
set_option maxRecDepth 100000 in
theorem pisorder_any (n : Nat) (l : List Int) (L : Option Addr) (lc : Nat) (w : World) (hl : Rd kInt w (.slice L l.length lc) l) (hn : n ≤ 1000) :
    Calls Tryz.prog 33 #[.slice L l.length lc, .int .i64 n] w fun ed w' => ed = .returned (.bool (onceB l n)) ∧ Ext w w' := by
  have HLN : Hid (l.length ≤ 9223372036854775807) := Lib.hid hl.len
  have HL := Lib.hid hl
  have hn0 : (0 : Int) ≤ n := by omega
  have hn1 : (n : Int) ≤ 1000 := by omega
  clear hl
  by_cases hne : l.length = n
  · subst hne
    obtain ⟨n, hN⟩ : ∃ n, l.length = n := ⟨_, rfl⟩
    rw [hN] at hn hn0 hn1 HL HLN ⊢
    have HN := Lib.hid hN
    obtain ⟨C, hmk, hmown⟩ := kBool.make false rfl trivial n (by omega)
    have HM : Hid (Ow kBool w.heap.size (w.alloc (.cells C 4)) (.slice (some ⟨w.heap.size, 0, none⟩) n n) (metJ l n 0)) := Lib.hid (by rw [metJ_zero]; exact hmown w w.heap.size w.heap.size rfl (Nat.le_refl _))
    have hmk2 : ∀ w : World, (Instr.makeSlice 55 (.int .i64 n) (.int .i64 n)).run Tryz.prog w = .ok (.slice (some ⟨w.heap.size, 0, none⟩) n n) (w.alloc (.cells C 4)) := hmk
    have hl9 : (n : Int) ≤ 9223372036854775807 := by omega
    clear hmk hmown hN hn
    go_enter Tryz.func33, Tryz.ntmps33
    go_wp2_with fail
    go_loopw [16] (fun i wr => ∃ j : Nat, j ≤ n ∧ i = .int .i64 j ∧ (∀ x ∈ l.take j, 0 ≤ x ∧ x < n) ∧ (l.take j).Nodup ∧ Ow kBool w.heap.size wr (.slice (some ⟨w.heap.size, 0, none⟩) n n) (metJ l n j) ∧ Ext w wr) (fun i _ => n - (intOf i).toNat)
    case atStart => exact ⟨0, Nat.zero_le _, rfl, by simp, by simp, HM.out, (Ext.refl _).alloc _⟩
    case round =>
      obtain ⟨j, hj, rfl, hin, hnd, hM, hX⟩ := hrel
      have HM := Lib.hid hM
      have HX := Lib.hid hX
      have HIN := Lib.hid (And.intro hin hnd)
      have hj0 : (0 : Int) ≤ j := by omega
      clear hM hX hin hnd hmk2
      by_cases hlj : j < n
      · have hlj' : (j : Int) < n := by omega
        have hjl : j < l.length := by rw [HN.out]; exact hlj
        obtain ⟨bl, ol, rfl, hcl⟩ := (ints_of_rd (HN.out ▸ HL.out.ext HX.out : Rd kInt wr (.slice L l.length lc) l)).cells (by omega)
        have z0 := hcl j hjl
        have hmem : l.getD j 0 ∈ l := by rw [List.getD_eq_getElem?_getD, List.getElem?_eq_getElem hjl]; exact List.getElem_mem hjl
        have htk : l.take (j + 1) = l.take j ++ [l.getD j 0] := by rw [List.take_succ_eq_append_getElem hjl, List.getD_eq_getElem?_getD, List.getElem?_eq_getElem hjl]; rfl
        obtain ⟨x, hx⟩ : ∃ x, l.getD j 0 = x := ⟨_, rfl⟩
        rw [hx] at z0 hmem htk
        have lbl : bl < wr.heap.size := World.block_lt_of_cell? _ _ z0
        by_cases hbad : x < 0 ∨ (n : Int) ≤ x
        · have HR : Hid (onceB l n = false) := Lib.hid (onceB_out l n x hmem hbad)
          clear hcl hmem htk hx
          by_cases hneg : x < 0
          · have hd1 : decide (x < 0) = true := decide_eq_true hneg
            clear hbad hneg
            go_wp2_with fail
            try (go_quiet (fail))
            go_wp2_with fail
            go_ret
            exact ⟨ret_bool HR.out.symm, by repeat (first | exact HX.out | refine Ext.drew ?_ | refine Ext.drewN ?_ _)⟩
          · have hd1 : decide (x < 0) = false := decide_eq_false hneg
            have hbig : (n : Int) ≤ x := by omega
            have hd2 : decide ((n : Int) ≤ x) = true := decide_eq_true hbig
            clear hbad hneg
            go_wp2_with fail
            try (go_quiet (fail))
            go_wp2_with fail
            go_ret
            exact ⟨ret_bool HR.out.symm, by repeat (first | exact HX.out | refine Ext.drew ?_ | refine Ext.drewN ?_ _)⟩
        · obtain ⟨u, rfl⟩ : ∃ u : Nat, x = u := ⟨x.toNat, by omega⟩
          have hun : u < n := by omega
          obtain ⟨z1, z2, _, hgl⟩ := HM.out.atB (u := u) (by rw [metJ_len]; exact hun)
          have z2' := z2 u
          rw [metJ_at l n j u hun] at z1
          have hset := HM.out.setB (u := u) (v := true) (by rw [metJ_len]; exact hun)
          rw [metJ_set l n j u htk] at hset
          have HSET := Lib.hid hset
          have hd1 : decide ((u : Int) < 0) = false := decide_eq_false (by omega)
          have hd2 : decide ((n : Int) ≤ (u : Int)) = false := decide_eq_false (by omega)
          have hu0 : (0 : Int) ≤ u := by omega
          have hu1 : (u : Int) < n := by omega
          by_cases hm : (u : Int) ∈ l.take j
          · have HR : Hid (onceB l n = false) := Lib.hid (onceB_twice l n j u htk hm)
            rw [decide_eq_true hm] at z1
            clear hcl hmem htk hx hm hset z2 hbad
            go_wp2_with fail
            try (go_quiet (fail))
            go_wp2_with fail
            go_ret
            exact ⟨ret_bool HR.out.symm, by repeat (first | exact HX.out | refine Ext.drew ?_ | refine Ext.drewN ?_ _)⟩
          · have HIN2 : Hid ((∀ x ∈ l.take (j + 1), 0 ≤ x ∧ x < (n : Int)) ∧ (l.take (j + 1)).Nodup) := Lib.hid (by
              rw [htk]
              refine ⟨fun y hy => ?_, nodup_snoc _ _ HIN.out.2 hm⟩
              rw [List.mem_append, List.mem_singleton] at hy
              rcases hy with hy | hy
              · exact HIN.out.1 y hy
              · rw [hy]; omega)
            rw [decide_eq_false hm] at z1
            clear hcl hmem htk hx hm hset z2 hbad
            go_wp2_with fail
            try (go_quiet (fail))
            go_wp2_with fail
            go_roundw
            case rel => exact ⟨j + 1, by omega, by go_num, HIN2.out.1, HIN2.out.2, HSET.out, HX.out.setCell (p := ⟨w.heap.size, u, none⟩) (Nat.le_refl _) _⟩
            case measure => simp [intOf]; omega
      · obtain rfl : j = n := by omega
        have HR : Hid (onceB l j = true) := Lib.hid (by
          have h1 := HIN.out
          rw [List.take_of_length_le (by rw [HN.out]; exact Nat.le_refl _)] at h1
          exact onceB_of l j HN.out h1.1 h1.2)
        go_wp2_with fail
        go_ret
        exact ⟨ret_bool HR.out.symm, HX.out⟩
  · have HR : Hid (onceB l n = false) := Lib.hid (onceB_len l n hne)
    have e : ((l.length : Int) != (n : Int)) = true := by simp; omega
    clear hne
    go_enter Tryz.func33, Tryz.ntmps33
    go_wp2_with fail
    go_ret
    exact ⟨ret_bool HR.out.symm, Ext.refl _⟩

/-- places, so far -/
def Plain.standJ (n j : Nat) : List Nat := byN n (fun i => if i < j then i else 0)
theorem Plain.standJ_len (n j : Nat) : (standJ n j).length = n := byN_len _ _
theorem Plain.standJ_set (n j : Nat) : (standJ n j).set j j = standJ n (j + 1) := by
  unfold standJ
  rw [byN_set]
  refine byN_congr _ _ _ fun i _ => ?_
  by_cases e : i = j
  · subst e; rw [if_pos rfl, if_pos (by omega)]
  · rw [if_neg e]
    by_cases h : i < j
    · rw [if_pos h, if_pos (by omega)]
    · rw [if_neg h, if_neg (by omega)]
theorem Plain.standJ_zero (n : Nat) : zs (standJ n 0) = List.replicate n (0 : Int) := byN_rep _ _ fun i _ => if_neg (by omega)
theorem Plain.standJ_all (n : Nat) : standJ n n = List.range n := by
  unfold standJ
  rw [byN_congr n _ id (fun i hi => by rw [if_pos hi]; rfl)]
  unfold byN
  rw [List.map_id]

set_option maxHeartbeats 1600000 in
set_option maxRecDepth 100000 in
theorem pstand_any (n : Nat) (w : World) (hn : n ≤ 900) :
    Calls Tryz.prog 31 #[.int .i64 n] w fun ed w' => ∃ (L : Option Addr) (l : Nat), ed = .returned (.slice L n l) ∧ Ow kInt w.heap.size w' (.slice L n l) (zs (List.range n)) ∧ Ext w w' := by
  have hn1 : (n : Int) ≤ 900 := by omega
  have hn0 : (0 : Int) ≤ n := by omega
  obtain ⟨C, hmk, hmown⟩ := kInt.make 0 rfl (show in64 0 by unfold in64; omega) n (by omega)
  have HM : Hid (Ow kInt w.heap.size (w.alloc (.cells C 3)) (.slice (some ⟨w.heap.size, 0, none⟩) n n) (zs (standJ n 0))) := Lib.hid (by rw [standJ_zero]; exact hmown w w.heap.size w.heap.size rfl (Nat.le_refl _))
  have hmk2 : ∀ w : World, (Instr.makeSlice 29 (.int .i64 n) (.int .i64 n)).run Tryz.prog w = .ok (.slice (some ⟨w.heap.size, 0, none⟩) n n) (w.alloc (.cells C 3)) := hmk
  clear hmk hmown
  go_enter Tryz.func31, Tryz.ntmps31
  go_wp2_with fail
  go_loopw [9] (fun i wr => ∃ j : Nat, j ≤ n ∧ i = .int .i64 j ∧ Ow kInt w.heap.size wr (.slice (some ⟨w.heap.size, 0, none⟩) n n) (zs (standJ n j)) ∧ Ext w wr) (fun i _ => n - (intOf i).toNat)
  case atStart => exact ⟨0, Nat.zero_le _, rfl, HM.out, (Ext.refl _).alloc _⟩
  case round =>
    obtain ⟨j, hj, rfl, hO, hX⟩ := hrel
    have HO := Lib.hid hO
    have HX := Lib.hid hX
    have hj0 : (0 : Int) ≤ j := by omega
    clear hO hX hmk2
    by_cases hlt : j < n
    · have hlt' : (j : Int) < n := by omega
      obtain ⟨z1, z2, _, hgl⟩ := HO.out.atI (u := j) (by rw [standJ_len]; exact hlt)
      have z2' := z2 j
      have hset := HO.out.setI (u := j) (v := j) (by rw [standJ_len]; exact hlt) (by omega)
      rw [standJ_set n j] at hset
      obtain ⟨q, hq⟩ : ∃ q, (standJ n j).getD j 0 = q := ⟨_, rfl⟩
      rw [hq] at z1
      have HSET := Lib.hid hset
      clear hset z2 hq
      go_wp2_with fail
      go_roundw
      case rel => exact ⟨j + 1, by omega, by go_num, HSET.out, HX.out.setCell (p := ⟨w.heap.size, j, none⟩) (Nat.le_refl _) _⟩
      case measure => simp [intOf]; omega
    · obtain rfl : j = n := by omega
      have hT := HO.out
      rw [standJ_all] at hT
      have HT := Lib.hid hT
      clear hT
      go_wp2_with fail
      exact bodyPost_ret (v := .slice (some ⟨w.heap.size, 0, none⟩) j j) (by simp [results, Tryz.results31, go_sem]) rfl ⟨_, _, rfl, HT.out, HX.out⟩
end Go.Proofs.YtkpbanfpnilifaaGreat

/- The program's starts, byDigit (radix, real code): sorting by counting. -/
namespace Go.Proofs.YtkpbanfpnilifaaGreat
open Go.BigFrame
open Go.RowKit Go.Proofs.YtkpbanfpnilifaaGreat.Plain

/-- a place's digit -/
abbrev Plain.digF (keys : List Nat) (p b : Int) (i : Nat) : Nat := digitP (keys.getD i 0) p b
theorem Plain.digF_lt (keys : List Nat) (P B i : Nat) (h1 : 1 ≤ B) (hp : P < passesP B) : digF keys P B i < 2 ^ B := by
  unfold digF digitP
  rw [if_neg (by omega)]
  exact Nat.mod_lt _ (Nat.two_pow_pos _)

set_option maxHeartbeats 1600000 in
set_option maxRecDepth 100000 in
theorem pstarts_any (keys : List Nat) (K : Option Addr) (kc P B D : Nat) (w : World) (hK : Rd kU32 w (.slice K keys.length kc) (zs keys)) (hl : keys.length ≤ 900) (h1 : 1 ≤ B) (h2 : B ≤ 16) (hP : P < passesP B) (hD : 2 ^ B = D) :
    Calls Tryz.prog 41 #[.slice K keys.length kc, .int .i64 P, .int .i64 B] w fun ed w' => ∃ g : Nat, ed = .returned (.slice (some ⟨g, 0, none⟩) D D) ∧ g = w.heap.size ∧ Ow kInt w.heap.size w' (.slice (some ⟨g, 0, none⟩) D D) (zs (spotsJ (lessF (digF keys P B) keys.length) (digF keys P B) D [])) ∧ Ext w w' := by
  have HK := Lib.hid hK
  have hl' : (keys.length : Int) ≤ 900 := by omega
  have hD9 : D ≤ 65536 := by rw [← hD]; have := Nat.pow_le_pow_right (n := 2) (by decide) h2; simpa using this
  have hP9 : P < 32 := by have := (passesP_enough B h1 h2).2.2.2; omega
  have HDL : Hid (∀ i, digF keys P B i < D) := Lib.hid fun i => by rw [← hD]; exact digF_lt keys P B i h1 hP
  have HG : Hid (in64 (P : Int) ∧ in64 (B : Int)) := Lib.hid ⟨in64_nat P (by omega), in64_nat B (by omega)⟩
  have hDp : (2 : Int) ^ B = (D : Int) := by rw [← hD]; simp
  have hDi : (D : Int) ≤ 65536 := by omega
  have hD0 : (0 : Int) ≤ D := by omega
  have hDw : IntKind.i64.wrap (D : Int) = (D : Int) := IntWalk.i64_in _ (by omega)
  have hB0 : (0 : Int) ≤ B := by omega
  have hB1 : (B : Int) ≤ 16 := by omega
  obtain ⟨C, hmk, hmown⟩ := kInt.make 0 rfl (show in64 0 by unfold in64; omega) D (by omega)
  obtain ⟨f, hf⟩ : ∃ f, digF keys P B = f := ⟨_, rfl⟩
  have HFX : Hid (∀ i, digitP (keys.getD i 0) P B = f i) := Lib.hid fun i => by rw [← hf]
  rw [hf] at HDL ⊢
  have HM : Hid (Ow kInt w.heap.size (w.alloc (.cells C 3)) (.slice (some ⟨w.heap.size, 0, none⟩) D D) (zs (spotsJ (fun _ => 0) f D (List.range 0)))) := Lib.hid (by
    rw [show zs (spotsJ (fun _ => 0) f D (List.range 0)) = List.replicate D (0 : Int) from byN_rep _ _ fun i _ => rfl]
    exact hmown w w.heap.size w.heap.size rfl (Nat.le_refl _))
  have hmk2 : ∀ w : World, (Instr.makeSlice 29 (.int .i64 D) (.int .i64 D)).run Tryz.prog w = .ok (.slice (some ⟨w.heap.size, 0, none⟩) D D) (w.alloc (.cells C 3)) := hmk
  clear hK hmk hmown hf hP hD h1 h2
  go_enter Tryz.func41, Tryz.ntmps41
  go_wp2_with fail
  go_loopw [18] (fun i wr => ∃ j : Nat, j ≤ keys.length ∧ i = .int .i64 j ∧ Ow kInt w.heap.size wr (.slice (some ⟨w.heap.size, 0, none⟩) D D) (zs (spotsJ (fun _ => 0) f D (List.range j))) ∧ Ext w wr) (fun i _ => keys.length - (intOf i).toNat)
  case atStart => exact ⟨0, Nat.zero_le _, rfl, HM.out, (Ext.refl _).alloc _⟩
  case round =>
    obtain ⟨j, hj, rfl, hO, hX⟩ := hrel
    have HO := Lib.hid hO
    have HX := Lib.hid hX
    have hj0 : (0 : Int) ≤ j := by omega
    clear hO hX hmk2
    by_cases hlt : j < keys.length
    · have hlt' : (j : Int) < keys.length := by omega
      obtain ⟨bx, ox, rfl, z0, hxl⟩ := u32_at (HK.out.ext HX.out) j hlt
      have lbx : bx < wr.heap.size := World.block_lt_of_cell? _ _ z0
      have hfx := HFX.out j
      have hset0 := spotsJ_set (fun _ => 0) f D (List.range j) j
      rw [← List.range_succ] at hset0
      have hdl := HDL.out j
      have hsl := sameF_le f (List.range j) (f j)
      rw [List.length_range] at hsl
      have hat := spotsJ_at (fun _ => 0) f D (List.range j) (f j) hdl
      have hlen := spotsJ_len (fun _ => 0) f D (List.range j)
      obtain ⟨x, hx⟩ : ∃ x, keys.getD j 0 = x := ⟨_, rfl⟩
      rw [hx] at z0 hxl hfx
      obtain ⟨d, hd⟩ : ∃ d, f j = d := ⟨_, rfl⟩
      rw [hd] at hfx hset0 hdl hsl hat
      simp only [Nat.zero_add] at hset0 hat
      obtain ⟨q, hq⟩ : ∃ q, sameF f (List.range j) d = q := ⟨_, rfl⟩
      rw [hq] at hset0 hsl hat
      have HCALL : Hid (∀ W, Calls Tryz.prog 42 #[.int .u32 x, .int .i64 P, .int .i64 B] W fun ed w' => ed = .returned (.int .u32 d) ∧ Ext W w') := Lib.hid fun W => by
        rw [← hfx]
        exact pdigit_any x P B W hxl HG.out.1 HG.out.2
      have HA := Lib.hid (And.intro hset0 (And.intro hat hlen))
      have hd0 : (0 : Int) ≤ d := by omega
      have hd1 : (d : Int) < D := by omega
      have hq0 : (0 : Int) ≤ q := by omega
      have hq1 : (q : Int) ≤ 900 := by omega
      clear hset0 hat hlen hx hd hq hfx hxl
      go_wp2_with fail
      refine (HCALL.out _).mono ?_
      rintro ed w9 ⟨rfl, hE9⟩
      have HO9 := Lib.hid (HO.out.ext hE9)
      have HX9 := Lib.hid (HX.out.trans hE9)
      obtain ⟨z1, z2, _, hgl⟩ := HO9.out.atI (u := d) (by rw [HA.out.2.2]; exact hdl)
      have z2' := z2 d
      rw [HA.out.2.1] at z1
      have hset := HO9.out.setI (u := d) (v := q + 1) (by rw [HA.out.2.2]; exact hdl) (by omega)
      rw [HA.out.1] at hset
      have HSET := Lib.hid hset
      clear hset z2 hE9
      go_wp2_with fail
      go_roundw
      case rel => exact ⟨j + 1, by omega, by go_num, HSET.out, HX9.out.setCell (p := ⟨w.heap.size, d, none⟩) (Nat.le_refl _) _⟩
      case measure => simp [intOf]; omega
    · obtain rfl : j = keys.length := by omega
      have hO2 := HO.out
      rw [← begJ_zero] at hO2
      have HO2 := Lib.hid hO2
      obtain ⟨n, hn⟩ : ∃ n, keys.length = n := ⟨_, rfl⟩
      rw [hn] at HO2 hl' hj0 ⊢
      have HN9 := Lib.hid hn
      clear hO2 HK HFX HO hn
      go_wp2_with fail
      go_loopw [10, 34] (fun a i wq => ∃ q : Nat, q ≤ D ∧ i = .int .i64 q ∧ a = .int .i64 (lessF f n q) ∧ Ow kInt w.heap.size wq (.slice (some ⟨w.heap.size, 0, none⟩) D D) (zs (begJ f n D q)) ∧ Ext w wq) (fun _ i _ => D - (intOf i).toNat)
      case atStart => exact ⟨0, Nat.zero_le _, rfl, by rw [lessF_zero]; rfl, HO2.out, HX.out⟩
      case round =>
        obtain ⟨q, hq, rfl, rfl, hO, hX⟩ := hrel
        have HO := Lib.hid hO
        have HX := Lib.hid hX
        have hq0 : (0 : Int) ≤ q := by omega
        clear hO hX
        have hss := lessF_succ f n q
        have hsl := sameF_le f (List.range n) q
        rw [List.length_range] at hsl
        have hll := lessF_le f n q
        have hsg := begJ_set f n D q
        obtain ⟨a, ha⟩ : ∃ a, lessF f n q = a := ⟨_, rfl⟩
        obtain ⟨s, hs⟩ : ∃ s, sameF f (List.range n) q = s := ⟨_, rfl⟩
        rw [ha, hs] at hss
        rw [ha] at hll hsg ⊢
        rw [hs] at hsl
        have ha0 : (0 : Int) ≤ a := by omega
        have ha1 : (a : Int) ≤ 900 := by omega
        have hs0 : (0 : Int) ≤ s := by omega
        have hs1 : (s : Int) ≤ 900 := by omega
        by_cases hlt : q < D
        · have hlt' : (q : Int) < D := by omega
          have hat := begJ_at f n D q hlt
          rw [hs] at hat
          have HSS := Lib.hid hss
          obtain ⟨z1, z2, _, hgl⟩ := HO.out.atI (u := q) (by rw [begJ_len]; exact hlt)
          have z2' := z2 q
          rw [hat] at z1
          have hset := HO.out.setI (u := q) (v := a) (by rw [begJ_len]; exact hlt) (by omega)
          rw [hsg] at hset
          have HSET := Lib.hid hset
          clear hset z2 hat hss hsg ha hs hsl hll
          go_wp2_with fail
          go_roundw
          case rel => exact ⟨q + 1, by omega, by go_num, by rw [HSS.out]; go_num, HSET.out, HX.out.setCell (p := ⟨w.heap.size, q, none⟩) (Nat.le_refl _) _⟩
          case measure => simp [intOf]; omega
        · obtain rfl : q = D := by omega
          have hT := HO.out
          rw [begJ_all] at hT
          have HT := Lib.hid hT
          clear hT hss hsg ha hs hsl hll
          go_wp2_with fail
          exact bodyPost_ret (v := .slice (some ⟨w.heap.size, 0, none⟩) q q) (by simp [results, Tryz.results41, go_sem]) rfl ⟨_, rfl, rfl, by rw [HN9.out]; exact HT.out, HX.out⟩

set_option maxHeartbeats 1600000 in
set_option maxRecDepth 100000 in
theorem pbydigit_any (keys os : List Nat) (K O : Option Addr) (kc oc P B : Nat) (w : World) (hK : Rd kU32 w (.slice K keys.length kc) (zs keys)) (hO : Rd kInt w (.slice O os.length oc) (zs os)) (hl : keys.length ≤ 900) (hperm : os.Perm (List.range keys.length)) (h1 : 1 ≤ B) (h2 : B ≤ 16) (hP : P < passesP B) :
    Calls Tryz.prog 32 #[.slice K keys.length kc, .slice O os.length oc, .int .i64 P, .int .i64 B] w fun ed w' => ∃ (L : Option Addr) (l : Nat), ed = .returned (.slice L os.length l) ∧ Ow kInt w.heap.size w' (.slice L os.length l) (zs (passL keys os P B)) ∧ Ext w w' := by
  have HK := Lib.hid hK
  have HQ := Lib.hid hO
  have hos : os.length = keys.length := by rw [hperm.length_eq, List.length_range]
  have hl' : (os.length : Int) ≤ 900 := by omega
  have HOS := Lib.hid hos
  have HPERM := Lib.hid hperm
  have hP9 : P < 32 := by have := (passesP_enough B h1 h2).2.2.2; omega
  have HG : Hid (in64 (P : Int) ∧ in64 (B : Int)) := Lib.hid ⟨in64_nat P (by omega), in64_nat B (by omega)⟩
  obtain ⟨D, hD⟩ : ∃ D, 2 ^ B = D := ⟨_, rfl⟩
  have HST := Lib.hid fun W h => pstarts_any keys K kc P B D W h hl h1 h2 hP hD
  have hD9 : D ≤ 65536 := by rw [← hD]; have := Nat.pow_le_pow_right (n := 2) (by decide) h2; simpa using this
  have hDi : (D : Int) ≤ 65536 := by omega
  have HDL : Hid (∀ i, digF keys P B i < D) := Lib.hid fun i => by rw [← hD]; exact digF_lt keys P B i h1 hP
  obtain ⟨C, hmk, hmown⟩ := kInt.make 0 rfl (show in64 0 by unfold in64; omega) os.length (by omega)
  obtain ⟨f, hf⟩ : ∃ f, digF keys P B = f := ⟨_, rfl⟩
  have HFX : Hid (∀ i, digitP (keys.getD i 0) P B = f i) := Lib.hid fun i => by rw [← hf]
  have hpl : passL keys os P B = insAll f os := by rw [← hf]; rfl
  rw [hf] at HDL HST
  obtain ⟨S, hS⟩ : ∃ S, insAll f os = S := ⟨_, rfl⟩
  have hSp : S.Perm os := by rw [← hS]; exact insAll_mem f os
  have HSI : Hid (∀ j, j < os.length → lessF f keys.length (f (os.getD j 0)) + sameF f (os.take j) (f (os.getD j 0)) < keys.length ∧ S.getD (lessF f keys.length (f (os.getD j 0)) + sameF f (os.take j) (f (os.getD j 0))) 0 = os.getD j 0) := Lib.hid fun j hj => by rw [← hS]; exact spot_in f os keys.length j hperm hj
  have HSN : Hid (S.Nodup ∧ S.length = os.length) := Lib.hid ⟨(hSp.trans hperm).nodup_iff.2 List.nodup_range, hSp.length_eq⟩
  have HALL : Hid (madeJ S os = S) := Lib.hid (madeJ_all S os hSp.symm)
  rw [hpl, hS]
  have HM : Hid (∀ w3 : World, Ow kInt w3.heap.size (w3.alloc (.cells C 3)) (.slice (some ⟨w3.heap.size, 0, none⟩) os.length os.length) (zs (madeJ S (os.take 0)))) := Lib.hid fun w3 => by
    rw [show zs (madeJ S (os.take 0)) = List.replicate os.length (0 : Int) from by rw [← hSp.length_eq]; exact byN_rep _ _ fun i _ => by simp]
    exact hmown w3 w3.heap.size w3.heap.size rfl (Nat.le_refl _)
  have hmk2 : ∀ w : World, (Instr.makeSlice 29 (.int .i64 os.length) (.int .i64 os.length)).run Tryz.prog w = .ok (.slice (some ⟨w.heap.size, 0, none⟩) os.length os.length) (w.alloc (.cells C 3)) := hmk
  clear hK hO hmk hmown hf hP hD h1 h2 hpl hSp hperm hos hS
  go_enter Tryz.func32, Tryz.ntmps32
  go_wp2_with fail
  refine (HST.out _ HK.out).mono ?_
  rintro ed w1 ⟨_, rfl, rfl, hO1, hE1⟩
  have HO1 := Lib.hid hO1
  have HX1 := Lib.hid hE1
  have hz1 := hE1.size
  have hg1 : w.heap.size < w1.heap.size := (hO1.lt w.heap.size rfl).2
  clear hO1 hE1 HST
  go_wp2_with fail
  go_loopw [23] (fun i wr => ∃ j : Nat, j ≤ os.length ∧ i = .int .i64 j ∧ Ow kInt w.heap.size wr (.slice (some ⟨w.heap.size, 0, none⟩) D D) (zs (spotsJ (lessF f keys.length) f D (os.take j))) ∧ Ow kInt w1.heap.size wr (.slice (some ⟨w1.heap.size, 0, none⟩) os.length os.length) (zs (madeJ S (os.take j))) ∧ Ext w wr) (fun i _ => os.length - (intOf i).toNat)
  case atStart => exact ⟨0, Nat.zero_le _, rfl, HO1.out.ext ((Ext.refl _).alloc _), HM.out w1, HX1.out.alloc _⟩
  case round =>
    obtain ⟨j, hj, rfl, hO, hN, hX⟩ := hrel
    have HO := Lib.hid hO
    have HN := Lib.hid hN
    have HX := Lib.hid hX
    have hj0 : (0 : Int) ≤ j := by omega
    clear hO hX hN hmk2
    by_cases hlt : j < os.length
    · have hlt' : (j : Int) < os.length := by omega
      obtain ⟨bw, ow, rfl, hcw⟩ := (ints_of_rd (HQ.out.ext HX.out)).cells (by rw [zs_len]; omega)
      have y0 := hcw j (by rw [zs_len]; exact hlt)
      rw [zs_getD] at y0
      have hin : os.getD j 0 < keys.length := by
        have h9 : os.getD j 0 ∈ os := by rw [List.getD_eq_getElem?_getD, List.getElem?_eq_getElem hlt]; exact List.getElem_mem hlt
        exact List.mem_range.1 ((HPERM.out.mem_iff).1 h9)
      have htk : os.take (j + 1) = os.take j ++ [os.getD j 0] := takeN_snoc hlt
      obtain ⟨hsp1, hsp2⟩ := HSI.out j hlt
      obtain ⟨s, hs⟩ : ∃ s, os.getD j 0 = s := ⟨_, rfl⟩
      rw [hs] at y0 hin htk hsp1 hsp2
      obtain ⟨bx, ox, rfl, z0, hxl⟩ := u32_at (HK.out.ext HX.out) s hin
      have lbw : bw < wr.heap.size := World.block_lt_of_cell? _ _ y0
      have lbx : bx < wr.heap.size := World.block_lt_of_cell? _ _ z0
      have hfx := HFX.out s
      have hset0 := spotsJ_set (lessF f keys.length) f D (os.take j) s
      rw [← htk] at hset0
      have hdl := HDL.out s
      have hat := spotsJ_at (lessF f keys.length) f D (os.take j) (f s) hdl
      have hlen := spotsJ_len (lessF f keys.length) f D (os.take j)
      have hmset : ∀ q, q < S.length → S.getD q 0 = s → (madeJ S (os.take j)).set q s = madeJ S (os.take (j + 1)) := fun q h3 h4 => by rw [htk]; exact madeJ_set S _ q s HSN.out.1 h3 h4
      obtain ⟨x, hx⟩ : ∃ x, keys.getD s 0 = x := ⟨_, rfl⟩
      rw [hx] at z0 hxl hfx
      obtain ⟨d, hd⟩ : ∃ d, f s = d := ⟨_, rfl⟩
      rw [hd] at hfx hset0 hdl hat hsp1 hsp2
      obtain ⟨q, hq⟩ : ∃ q, lessF f keys.length d + sameF f (os.take j) d = q := ⟨_, rfl⟩
      rw [hq] at hset0 hat hsp1 hsp2
      have hqo : q < os.length := by rw [HOS.out]; exact hsp1
      have HCALL : Hid (∀ W, Calls Tryz.prog 42 #[.int .u32 x, .int .i64 P, .int .i64 B] W fun ed w' => ed = .returned (.int .u32 d) ∧ Ext W w') := Lib.hid fun W => by
        rw [← hfx]
        exact pdigit_any x P B W hxl HG.out.1 HG.out.2
      have HA := Lib.hid (And.intro hset0 (And.intro hat (And.intro hlen (hmset q (by rw [HSN.out.2]; exact hqo) hsp2))))
      have HKL : Hid (keys.length ≤ 900) := Lib.hid hl
      have hd0 : (0 : Int) ≤ d := by omega
      have hd1 : (d : Int) < D := by omega
      have hq0 : (0 : Int) ≤ q := by omega
      have hq1 : (q : Int) ≤ 900 := by omega
      have hq2 : (q : Int) < os.length := by omega
      have hs0 : (0 : Int) ≤ s := by omega
      have hs1 : (s : Int) < keys.length := by omega
      clear hset0 hat hlen hx hd hq hfx hxl hcw htk hs hmset hsp1 hsp2
      go_wp2_with fail
      refine (HCALL.out _).mono ?_
      rintro ed w9 ⟨rfl, hE9⟩
      have HO9 := Lib.hid (HO.out.ext hE9)
      have HN9 := Lib.hid (HN.out.ext hE9)
      have HX9 := Lib.hid (HX.out.trans hE9)
      obtain ⟨z1, z2, _, hgl⟩ := HO9.out.atI (u := d) (by rw [HA.out.2.2.1]; exact hdl)
      have z2' := z2 d
      rw [HA.out.2.1] at z1
      obtain ⟨m1, m2, _, hml⟩ := HN9.out.atI (u := q) (by rw [madeJ_len, HSN.out.2]; exact hqo)
      have m2' := m2 q
      obtain ⟨mo, hmo⟩ : ∃ mo, (madeJ S (os.take j)).getD q 0 = mo := ⟨_, rfl⟩
      rw [hmo] at m1
      have hmst := HN9.out.setI (u := q) (v := s) (by rw [madeJ_len, HSN.out.2]; exact hqo) (by have := HKL.out; omega)
      rw [HA.out.2.2.2] at hmst
      have hset := (HO9.out.setOther (p := ⟨w1.heap.size, q, none⟩) (by simp [Value.ownBlock]; omega) (.int .i64 s)).setI (u := d) (v := q + 1) (by rw [HA.out.2.2.1]; exact hdl) (by omega)
      rw [HA.out.1] at hset
      have hmst2 := hmst.setOther (p := ⟨w.heap.size, d, none⟩) (by simp [Value.ownBlock]; omega) (.int .i64 ((q : Int) + 1))
      have HSET := Lib.hid hset
      have HMST := Lib.hid hmst2
      have hgne : w.heap.size ≠ w1.heap.size := by omega
      have hgne2 : w1.heap.size ≠ w.heap.size := by omega
      clear hset z2 hE9 m2 hmo hmst hmst2
      go_wp2_with fail
      go_roundw
      case rel => exact ⟨j + 1, by omega, by go_num, HSET.out, HMST.out, (HX9.out.setCell (p := ⟨w1.heap.size, q, none⟩) hz1 _).setCell (p := ⟨w.heap.size, d, none⟩) (Nat.le_refl _) _⟩
      case measure => simp [intOf]; omega
    · obtain rfl : j = os.length := by omega
      have hT := HN.out
      rw [List.take_of_length_le (Nat.le_refl _), HALL.out] at hT
      have HT := Lib.hid hT
      clear hT
      go_wp2_with fail
      exact bodyPost_ret (v := .slice (some ⟨w1.heap.size, 0, none⟩) os.length os.length) (by simp [results, Tryz.results32, go_sem]) rfl ⟨_, _, rfl, HT.out.mono hz1, HX.out⟩
end Go.Proofs.YtkpbanfpnilifaaGreat
