/- Joined by wip/merge.py: T13U, T13M, T13X. -/
import Derived.Test.YtmfabfnaminihaaJ4
set_option linter.unusedVariables false
set_option linter.unusedSimpArgs false
set_option linter.unnecessarySimpa false
/- The document's Cut (ref13). -/
namespace Go.Proofs.Ytmfabfnaminihaa
open Go.BigFrame
open Go.RowKit Go.Proofs.Ytmfabfnaminihaa.Plain

theorem Plain.behind_len (l : List Int) (x : Int) (hx : x ∈ l) : (behind l x).length = l.length := by
  have := from_len l x
  have h0 := List.length_pos_of_mem hx
  unfold behind
  rw [List.length_append, List.length_drop, List.length_singleton]; omega
theorem Plain.behind_at {l : List Int} {x : Int} (hx : x ∈ l) (i : Nat) (hi : i < l.length) : (behind l x).getD i 0 = l.getD ((l.idxOf x + (i + 1)) % l.length) 0 := by
  have hl := from_len l x
  have h0 := List.length_pos_of_mem hx
  unfold behind
  rw [List.getD_eq_getElem?_getD]
  by_cases h : i + 1 < l.length
  · rw [List.getElem?_append_left (by rw [List.length_drop]; omega), List.getElem?_drop, ← List.getD_eq_getElem?_getD, show 1 + i = i + 1 by omega, from_at hx (i + 1) h]
  · have e : i + 1 = l.length := by omega
    rw [List.getElem?_append_right (by rw [List.length_drop]; omega), List.length_drop, show i - ((fromL l x).length - 1) = 0 by omega, e, Nat.add_mod_right, Nat.mod_eq_of_lt (List.idxOf_lt_length_of_mem hx), ints_at_idx hx]; rfl
theorem Plain.behind_mem {l : List Int} {x y : Int} (hx : x ∈ l) (hy : y ∈ l) : y ∈ behind l x := by
  obtain ⟨u, v, rfl, hu⟩ := at_split hx
  rw [behind_split hu]
  simp only [List.mem_append, List.mem_cons, List.mem_singleton] at hy ⊢
  rcases hy with h | h | h
  · exact .inl (.inr h)
  · exact .inr (.inl h)
  · exact .inl (.inl h)
theorem Plain.filter_snoc (l : List Int) (f : Int → Bool) (j : Nat) (h : j < l.length) : (l.take (j + 1)).filter f = (l.take j).filter f ++ (if f (l.getD j 0) = true then [l.getD j 0] else []) := by
  rw [ints_take h, List.filter_append]
  congr 1
  by_cases hf : f (l.getD j 0) = true
  · rw [if_pos hf, List.filter_cons, if_pos hf]; rfl
  · rw [if_neg hf, List.filter_cons, if_neg hf]; rfl
/-- two lists of tokens, or not -/
def CutSaid (r : List Int × List Int × Bool) (w : World) (ed : Ending) (w' : World) : Prop :=
  ∃ (R P : Option Addr) (c d : Nat), ed = .returned (.tuple #[.slice R r.1.length c, .slice P r.2.1.length d, .bool r.2.2]) ∧ Ow kInt w.heap.size w' (.slice R r.1.length c) r.1 ∧ Ow kInt w.heap.size w' (.slice P r.2.1.length d) r.2.1 ∧ Ext w w'
set_option maxHeartbeats 3200000 in
set_option maxRecDepth 100000 in
theorem rcut_any (l : List Int) (L : Option Addr) (lc : Nat) (x y : Int) (w : World) (hL : Rd kInt w (.slice L l.length lc) l) :
    Calls Try.prog 12 #[.slice L l.length lc, .int .i64 x, .int .i64 y] w (CutSaid (cutR l x y) w) := by
  have HL := Lib.hid hL
  clear hL
  have HJ : Hid (cutR l x y = if rightL l = true ∧ x ∈ l ∧ y ∈ l then (l.filter (fun t => !(cutPart l x y).contains t), cutPart l x y, true) else ([], [], false)) := Lib.hid rfl
  obtain ⟨J, hJ⟩ : ∃ J, cutR l x y = J := ⟨_, rfl⟩
  rw [hJ] at HJ ⊢
  clear hJ
  go_enter Try.func12, Try.ntmps12
  go_wp2_with fail
  refine (rright13_any l L lc _ HL.out).mono ?_
  rintro ed w2 ⟨rfl, hE2⟩
  have HX2 := Lib.hid hE2
  have HL2 := Lib.hid (HL.out.ext hE2)
  clear hE2
  cases hr : rightL l with
  | false =>
    have HR : Hid (J = ([], [], false)) := Lib.hid (by rw [HJ.out, if_neg (fun h => by rw [h.1] at hr; cases hr)])
    clear hr
    go_wp2_with fail
    exact bodyPost_ret (v := .tuple #[.slice none 0 0, .slice none 0 0, .bool false]) (by simp [results, Try.results12, go_sem]) rfl (by rw [HR.out]; exact ⟨none, none, 0, 0, rfl, Ow.nil _ _, Ow.nil _ _, HX2.out⟩)
  | true =>
    have HRA := Lib.hid hr
    clear hr
    go_wp2_with fail
    refine (rplace_any l L lc x _ HL2.out).mono ?_
    rintro ed w3 ⟨rfl, rfl⟩
    have hpi := place_iff l x
    obtain ⟨p, hp⟩ : ∃ p, placeP l x = p := ⟨_, rfl⟩
    rw [hp] at hpi ⊢
    by_cases hx : x ∈ l
    · have hdp : decide (p < 0) = false := decide_eq_false (by have := hpi.2 hx; omega)
      have HPX := Lib.hid hp
      clear hpi hp
      go_wp2_with fail
      refine (rplace_any l L lc y _ HL2.out).mono ?_
      rintro ed w3 ⟨rfl, rfl⟩
      have hqi := place_iff l y
      obtain ⟨q, hq⟩ : ∃ q, placeP l y = q := ⟨_, rfl⟩
      rw [hq] at hqi ⊢
      clear hq
      by_cases hy : y ∈ l
      · have hdq : decide (q < 0) = false := decide_eq_false (by have := hqi.2 hy; omega)
        have HR : Hid (J = (l.filter (fun t => !(cutPart l x y).contains t), cutPart l x y, true)) := Lib.hid (by rw [HJ.out, if_pos ⟨HRA.out, hx, hy⟩])
        have hl9 := ((rightL_iff l).1 HRA.out).1
        have hix := List.idxOf_lt_length_of_mem hx
        have hbl := behind_len l x hx
        have hba := fun i hi => behind_at (l := l) hx i hi
        have hbm := behind_mem hx hy
        have hpx := place_in hx
        have hcp : cutPart l x y = (behind l x).take ((behind l x).idxOf y + 1) := rfl
        rw [HPX.out] at hpx
        obtain ⟨r, hrx⟩ : ∃ r, l.idxOf x = r := ⟨_, rfl⟩
        rw [hrx] at hpx hix hba
        subst hpx
        obtain ⟨B, hB⟩ : ∃ B, behind l x = B := ⟨_, rfl⟩
        rw [hB] at hbl hba hbm hcp
        have HBA := Lib.hid (And.intro hba (And.intro hbm hcp))
        have hl1 : (l.length : Int) ≤ 1000 := by omega
        have hl0 : (0 : Int) < l.length := by omega
        have hlne : (l.length : Int) ≠ 0 := by omega
        have hr0 : (0 : Int) ≤ r := by omega
        have hr1 : (r : Int) < l.length := by omega
        have HBL := Lib.hid hbl
        have hz2 := HX2.out.size
        clear hqi hx hy hba hbm hcp hrx hB hbl HJ
        go_wp2_with fail
        go_loopw [10, 12] (fun v i wr => ∃ k : Nat, 1 ≤ k ∧ k ≤ l.length + 1 ∧ i = .int .i64 k ∧ Ow kInt w2.heap.size wr v (B.take (k - 1)) ∧ y ∉ B.take (k - 1) ∧ Ext w2 wr) (fun _ i _ => l.length + 1 - (intOf i).toNat)
        case atStart => exact ⟨1, by omega, by omega, rfl, Ow.nil _ _, by simp, Ext.refl _⟩
        case round =>
          obtain ⟨k, hk1, hk2, rfl, hO, hno, hX⟩ := hrel
          have HO := Lib.hid hO
          have HX := Lib.hid hX
          have hk0 : (1 : Int) ≤ k := by omega
          clear hO hX
          by_cases hlt : k ≤ l.length
          · have hlt' : (k : Int) ≤ l.length := by omega
            have hgt : ¬ (l.length : Int) < k := by omega
            go_wp2_with fail
            refine (rplace_any l L lc x _ (HL2.out.ext HX.out)).mono ?_
            rintro ed w4 ⟨rfl, rfl⟩
            rw [HPX.out]
            have hm : (r + k) % l.length < l.length := Nat.mod_lt _ (by omega)
            have hat := HBA.out.1 (k - 1) (by omega)
            rw [show k - 1 + 1 = k by omega] at hat
            have hmI : ((r : Int) + k).tmod l.length = (((r + k) % l.length : Nat) : Int) := by
              rw [Int.tmod_eq_emod_of_nonneg (by omega), Int.natCast_emod, Int.natCast_add]
            obtain ⟨m, hmx⟩ : ∃ m, (r + k) % l.length = m := ⟨_, rfl⟩
            rw [hmx] at hm hat hmI
            obtain ⟨bl, ol, rfl, hcl⟩ := (ints_of_rd (HL2.out.ext HX.out)).cells (by omega)
            have z0 := hcl m hm
            have hok : in64 (l.getD m 0) := HL.out.okAt m hm
            obtain ⟨t, ht⟩ : ∃ t, l.getD m 0 = t := ⟨_, rfl⟩
            rw [ht] at hat z0 hok
            have hkB : k - 1 < B.length := by rw [HBL.out]; omega
            have htk := ints_take hkB
            rw [hat, show k - 1 + 1 = k by omega] at htk
            have hpi2 := fun e => place_is hno hkB (x := y) e
            rw [hat] at hpi2
            have HPI := Lib.hid hpi2
            have HTK := Lib.hid htk
            have HOK := Lib.hid hok
            have HNO := Lib.hid hno
            have HLL : Hid ((B.take (k - 1)).length + [t].length ≤ 1048576) := Lib.hid (by rw [List.length_take, List.length_singleton, HBL.out]; omega)
            have hw1 : IntKind.i64.wrap ((r : Int) + k) = (r : Int) + k := IntWalk.i64_in _ (by omega)
            have hw2 : IntKind.i64.wrap (m : Int) = (m : Int) := IntWalk.i64_in _ (by omega)
            have hm0 : (0 : Int) ≤ m := by omega
            have hm1 : (m : Int) < l.length := by omega
            have lbl : bl < wr.heap.size := World.block_lt_of_cell? _ _ z0
            have hz6 := HX.out.size
            obtain ⟨A, c, hv, hc⟩ := HO.out.slice
            have hbt : (B.take (k - 1)).length = k - 1 := by rw [List.length_take]; omega
            rw [hbt] at hv hc
            subst hv
            have hk9 : k - 1 ≤ 1000 := by omega
            obtain ⟨j, hj⟩ : ∃ j, k - 1 = j := ⟨_, rfl⟩
            rw [hj] at HO HLL HTK HNO HPI hbt hc hk9 ⊢
            have HKJ : Hid (k = j + 1) := Lib.hid (by omega)
            clear hat hcl hmx ht htk hpi2 hok hno hkB hj hbt
            by_cases he : t = y
            · have e1 : (t == y) = true := by simp [he]
              obtain ⟨hpl, hidx⟩ := HPI.out he
              have hcp : cutPart l x y = B.take k := by rw [HBA.out.2.2, hidx, HKJ.out]
              obtain ⟨P, hP⟩ : ∃ P, B.take k = P := ⟨_, rfl⟩
              rw [hP] at hcp
              have HP := Lib.hid hP
              have HPL : Hid (P.length = k) := Lib.hid (by rw [← hP, List.length_take, HBL.out]; omega)
              have HRR : Hid (J = (l.filter (fun t => !P.contains t), P, true)) := Lib.hid (by rw [HR.out, hcp])
              clear hpl hidx hcp hP he
              go_wp2_with (at_builtin; refine kInt.wpList_app (by rfl) (.tmp 47) (.tmp 49) (by rfl) (by rfl) w2.heap.size _ (B.take j) (by rfl) (HO.out.ext ((Ext.refl _).alloc _)) _ [t] (by rfl) (one_at (heap_alloc_new _ _) HOK.out) HLL.out (by simp; omega) ?_; intro v' w8 hown8 hgrow8 hat8)
              have hX8 : Ext w2 w8 := Ext.grown (HX.out.alloc _) hgrow8 (fun b hb => (HO.out.lt b hb).1)
              have hXw : Ext w w8 := HX2.out.trans hX8
              rw [← HTK.out, HP.out] at hown8
              have hP8 := hown8.mono (B' := w.heap.size) hz2
              obtain ⟨A8, c8, hv8, hc8⟩ := hown8.slice
              subst hv8
              have HX8 := Lib.hid hXw
              have HP8 := Lib.hid hP8
              have HL8 := Lib.hid (HL2.out.ext hX8)
              have hz8 := hXw.size
              clear hX8 hXw hP8 hown8 hgrow8 hat8 HO HX z0 lbl
              go_loopw [9, 14] (fun v i wr => ∃ n : Nat, n ≤ l.length ∧ i = .int .i64 n ∧ Ow kInt w8.heap.size wr v ((l.take n).filter (fun t => !P.contains t)) ∧ Ext w8 wr) (fun _ i _ => l.length - (intOf i).toNat)
              case atStart => exact ⟨0, by omega, rfl, Ow.nil _ _, Ext.refl _⟩
              case round =>
                obtain ⟨n, hn, rfl, hO, hX⟩ := hrel
                have HO := Lib.hid hO
                have HX := Lib.hid hX
                have hn0 : (0 : Int) ≤ n := by omega
                clear hO hX
                by_cases hlt2 : n < l.length
                · have hlt2' : (n : Int) < l.length := by omega
                  obtain ⟨bm, om, hbm, hcl⟩ := (ints_of_rd (HL8.out.ext HX.out)).cells (by omega)
                  cases hbm
                  have z1 := hcl n hlt2
                  have hok : in64 (l.getD n 0) := HL.out.okAt n hlt2
                  have hfs := filter_snoc l (fun t => !P.contains t) n hlt2
                  obtain ⟨s, hs⟩ : ∃ s, l.getD n 0 = s := ⟨_, rfl⟩
                  rw [hs] at z1 hok hfs
                  have HOK2 := Lib.hid hok
                  have HPC := Lib.hid (rplace_any P A8 c8 s wr (HP8.out.rd.ext HX.out))
                  have hsi := place_iff P s
                  obtain ⟨g, hg⟩ : ∃ g, placeP P s = g := ⟨_, rfl⟩
                  rw [hg] at HPC hsi
                  have lbl : bl < wr.heap.size := World.block_lt_of_cell? _ _ z1
                  by_cases hin : s ∈ P
                  · have hdg : decide (g < 0) = false := decide_eq_false (by have := hsi.2 hin; omega)
                    have HFS : Hid ((l.take (n + 1)).filter (fun t => !P.contains t) = (l.take n).filter (fun t => !P.contains t)) := Lib.hid (by rw [hfs, if_neg (by simpa using hin), List.append_nil])
                    clear hcl hok hfs hs hsi hg hin
                    go_wp2_with fail
                    refine HPC.out.mono ?_
                    rintro ed w9 ⟨rfl, rfl⟩
                    go_wp2_with fail
                    go_roundw
                    case rel => exact ⟨n + 1, by omega, by go_num, by rw [HFS.out]; exact HO.out, HX.out⟩
                    case measure => simp [intOf]; omega
                  · have hdg : decide (g < 0) = true := decide_eq_true (by
                      refine Decidable.byContradiction fun h => hin (hsi.1 (by omega)))
                    have HFS : Hid ((l.take (n + 1)).filter (fun t => !P.contains t) = (l.take n).filter (fun t => !P.contains t) ++ [s]) := Lib.hid (by rw [hfs, if_pos (by simpa using hin)])
                    have hfl : ((l.take n).filter (fun t => !P.contains t)).length ≤ 1000 := Nat.le_trans (List.length_filter_le _ _) (by rw [List.length_take]; omega)
                    obtain ⟨A, c, hv, hc⟩ := HO.out.slice
                    obtain ⟨fl, hfx⟩ : ∃ fl, (l.take n).filter (fun t => !P.contains t) = fl := ⟨_, rfl⟩
                    rw [hfx] at HO HFS hfl hv hc
                    subst hv
                    have HLL2 : Hid (fl.length + [s].length ≤ 1048576) := Lib.hid (by rw [List.length_singleton]; omega)
                    have hzr := HX.out.size
                    clear hcl hok hfs hs hsi hg hin hfx hfl
                    go_wp2_with fail
                    refine HPC.out.mono ?_
                    rintro ed w9 ⟨rfl, rfl⟩
                    go_wp2_with (at_builtin; refine kInt.wpList_app (by rfl) (.tmp 66) (.tmp 71) (by rfl) (by rfl) w8.heap.size _ fl (by rfl) (HO.out.ext ((Ext.refl _).alloc _)) _ [s] (by rfl) (one_at (heap_alloc_new _ _) HOK2.out) HLL2.out (by simp; omega) ?_; intro v' w9 hown9 hgrow9 hat9)
                    have H9 := Lib.hid (And.intro hown9 hgrow9)
                    clear hown9 hgrow9 hat9
                    try go_wp2_with fail
                    go_roundw
                    case rel =>
                      obtain ⟨hown9, hgrow9⟩ := H9.out
                      exact ⟨n + 1, by omega, by go_num, by rw [HFS.out]; exact hown9, Ext.grown (HX.out.alloc _) hgrow9 (fun b hb => (HO.out.lt b hb).1)⟩
                    case measure => simp [intOf]; omega
                · obtain rfl : n = l.length := by omega
                  have hT := HO.out
                  rw [List.take_length] at hT
                  have hT2 := hT.mono hz8
                  obtain ⟨A, c, hv, hc⟩ := hT2.slice
                  subst hv
                  have HT := Lib.hid hT2
                  have HPP := Lib.hid (HP8.out.ext HX.out)
                  have HXX := Lib.hid (HX8.out.trans HX.out)
                  clear hT hT2 HO
                  go_wp2_with fail
                  exact bodyPost_ret (v := .tuple #[.slice A (l.filter (fun t => !P.contains t)).length c, .slice A8 P.length c8, .bool true]) (by simp [results, Try.results12, go_sem]) rfl (by rw [HRR.out]; exact ⟨A, A8, c, c8, rfl, HT.out, HPP.out, HXX.out⟩)
            · have e1 : (t == y) = false := by simp [he]
              have HNO2 : Hid (y ∉ B.take k) := Lib.hid (by
                rw [HTK.out, List.mem_append, List.mem_singleton]
                rintro (h | h)
                · exact HNO.out h
                · exact he h.symm)
              clear he
              go_wp2_with (at_builtin; refine kInt.wpList_app (by rfl) (.tmp 47) (.tmp 49) (by rfl) (by rfl) w2.heap.size _ (B.take j) (by rfl) (HO.out.ext ((Ext.refl _).alloc _)) _ [t] (by rfl) (one_at (heap_alloc_new _ _) HOK.out) HLL.out (by simp; omega) ?_; intro v' w8 hown8 hgrow8 hat8)
              have H8 := Lib.hid (And.intro hown8 hgrow8)
              clear hown8 hgrow8 hat8
              try go_wp2_with fail
              go_roundw
              case rel =>
                obtain ⟨hown8, hgrow8⟩ := H8.out
                exact ⟨k + 1, by omega, by omega, by go_num, by rw [Nat.add_sub_cancel, HTK.out]; exact hown8, by rw [Nat.add_sub_cancel]; exact HNO2.out, Ext.grown (HX.out.alloc _) hgrow8 (fun b hb => (HO.out.lt b hb).1)⟩
              case measure => simp [intOf]; omega
          · exfalso
            have h1 : k - 1 = B.length := by rw [HBL.out]; omega
            rw [h1, List.take_length] at hno
            exact hno HBA.out.2.1
      · have hdq : decide (q < 0) = true := decide_eq_true (by
          refine Decidable.byContradiction fun h => hy (hqi.1 (by omega)))
        have HR : Hid (J = ([], [], false)) := Lib.hid (by rw [HJ.out, if_neg (fun h => hy h.2.2)])
        clear hqi hx hy
        go_wp2_with fail
        exact bodyPost_ret (v := .tuple #[.slice none 0 0, .slice none 0 0, .bool false]) (by simp [results, Try.results12, go_sem]) rfl (by rw [HR.out]; exact ⟨none, none, 0, 0, rfl, Ow.nil _ _, Ow.nil _ _, HX2.out⟩)
    · have hdp : decide (p < 0) = true := decide_eq_true (by
        refine Decidable.byContradiction fun h => hx (hpi.1 (by omega)))
      have HR : Hid (J = ([], [], false)) := Lib.hid (by rw [HJ.out, if_neg (fun h => hx h.2.1)])
      clear hpi hx hp
      go_wp2_with fail
      exact bodyPost_ret (v := .tuple #[.slice none 0 0, .slice none 0 0, .bool false]) (by simp [results, Try.results12, go_sem]) rfl (by rw [HR.out]; exact ⟨none, none, 0, 0, rfl, Ow.nil _ _, Ow.nil _ _, HX2.out⟩)
end Go.Proofs.Ytmfabfnaminihaa

/- The program's From, Plain, Next, Same (ring). Written by wip/mk_t13x.py. -/
namespace Go.Proofs.Ytmfabfnaminihaa
open Go.BigFrame
open Go.RowKit Go.Proofs.Ytmfabfnaminihaa.Plain

set_option maxHeartbeats 3200000 in
set_option maxRecDepth 100000 in
theorem pfrom13_any (l : List Int) (L : Option Addr) (lc : Nat) (x : Int) (w : World) (hL : Rd kInt w (.slice L l.length lc) l) (hl : l.length ≤ 2000) (hx : in64 x) :
    Calls Try.prog 13 #[.slice L l.length lc, .int .i64 x] w (LbSaid (fromR l x) w) := by
  have HL := Lib.hid hL
  have HLL := Lib.hid hl
  have HXX := Lib.hid hx
  clear hL hx hl
  by_cases h : rightL l = true ∧ x ∈ l
  · have hP : placesP l [x] = ([((l.idxOf x : Nat) : Int)], true) := places_yes h.1 (by simpa using h.2)
    have hf : fromR l x = (l.drop (l.idxOf x) ++ l.take (l.idxOf x), true) := by unfold fromR fromL; rw [if_pos h]
    have hi := List.idxOf_lt_length_of_mem h.2
    obtain ⟨q, hq⟩ : ∃ q, l.idxOf x = q := ⟨_, rfl⟩
    rw [hq] at hP hf hi
    have HP := Lib.hid hP
    have HF := Lib.hid hf
    have HI : Hid (q ≤ l.length) := Lib.hid (by omega)
    clear h hP hf hi hq
    go_enter Try.func13, Try.ntmps13
    go_wp2_with fail
    refine (pplaces13_any l [x] L _ lc 1 _ (HL.out.ext ((Ext.refl _).alloc _)) (one_at (heap_alloc_new _ _) HXX.out) HLL.out (by simp)).mono ?_
    rw [HP.out]
    rintro ed w1 ⟨A, c, rfl, hO, hE⟩
    have HX : Hid (Ext w w1) := Lib.hid (((Ext.refl w).alloc _).trans hE)
    simp only at hO ⊢
    obtain ⟨ba, oa, rfl, z0'⟩ := int_at9 hO.rd 0 (by simp)
    have z0 : w1.cell? ⟨ba, oa, none⟩ = some (.int .i64 q) := z0'
    have lba : ba < w1.heap.size := World.block_lt_of_cell? _ _ z0
    clear hO hE z0'
    go_wp2_with fail
    refine (pturned13_any l L lc q _ (HL.out.ext HX.out) HLL.out HI.out).mono ?_
    rintro ed w2 ⟨T, c2, rfl, hO2, hE2⟩
    have HO := Lib.hid (hO2.mono (B' := w.heap.size) HX.out.size)
    have HX2 := Lib.hid (HX.out.trans hE2)
    obtain ⟨r, hr⟩ : ∃ r, l.drop q ++ l.take q = r := ⟨_, rfl⟩
    rw [hr] at HO HF ⊢
    clear hO2 hE2 hr
    go_wp2_with fail
    exact bodyPost_ret (v := .tuple #[.slice T r.length c2, .bool true]) (by simp [results, Try.results13, go_sem]) rfl (by rw [HF.out]; exact ⟨T, c2, rfl, HO.out, HX2.out⟩)
  · have hP : placesP l [x] = ([], false) := places_no (fun h9 => h ⟨h9.1, by simpa using h9.2⟩)
    have HF : Hid (fromR l x = ([], false)) := Lib.hid (by unfold fromR; rw [if_neg h])
    have HP := Lib.hid hP
    clear h hP
    go_enter Try.func13, Try.ntmps13
    go_wp2_with fail
    refine (pplaces13_any l [x] L _ lc 1 _ (HL.out.ext ((Ext.refl _).alloc _)) (one_at (heap_alloc_new _ _) HXX.out) HLL.out (by simp)).mono ?_
    rw [HP.out]
    rintro ed w1 ⟨A, c, rfl, hO, hE⟩
    have HX : Hid (Ext w w1) := Lib.hid (((Ext.refl w).alloc _).trans hE)
    simp only at hO ⊢
    clear hO hE
    go_wp2_with fail
    exact bodyPost_ret (v := .tuple #[.slice none 0 0, .bool false]) (by simp [results, Try.results13, go_sem]) rfl (by rw [HF.out]; exact ⟨none, 0, rfl, Ow.nil _ _, HX.out⟩)
set_option maxHeartbeats 3200000 in
set_option maxRecDepth 100000 in
theorem pplain13_any (l : List Int) (L : Option Addr) (lc : Nat) (w : World) (hL : Rd kInt w (.slice L l.length lc) l) (hl : l.length ≤ 2000) :
    Calls Try.prog 18 #[.slice L l.length lc] w (LsSaid (plainR l) w) := by
  have HL := Lib.hid hL
  have HLL := Lib.hid hl
  have hl9 : (l.length : Int) ≤ 2000 := by omega
  have HC := Lib.hid (pright13_any l L lc w hL hl)
  clear hL
  cases hr : rightL l with
  | false =>
    rw [hr] at HC
    have HF : Hid (plainR l = []) := Lib.hid (by unfold plainR; rw [if_neg (by rw [hr]; simp)])
    clear hr
    go_enter Try.func18, Try.ntmps18
    go_wp2_with fail
    refine HC.out.mono ?_
    rintro ed w1 ⟨rfl, hE⟩
    have HE := Lib.hid hE
    clear hE
    go_wp2_with fail
    go_ret
    exact (by rw [HF.out]; exact ⟨none, 0, rfl, Ow.nil _ _, HE.out⟩)
  | true =>
    rw [hr] at HC
    by_cases h0 : l = []
    · have HF : Hid (plainR l = []) := Lib.hid (by unfold plainR; rw [if_neg (by simp [h0])])
      have e1 : ((l.length : Int) == 0) = true := by rw [h0]; rfl
      have e2 : (l.length == 0) = true := by rw [h0]; rfl
      have e3 : l.length = 0 := by rw [h0]; rfl
      clear hr h0 hl9 hl
      rw [e3] at HC ⊢
      go_enter Try.func18, Try.ntmps18
      go_wp2_with fail
      refine HC.out.mono ?_
      rintro ed w1 ⟨rfl, hE⟩
      have HE := Lib.hid hE
      clear hE
      go_wp2_with fail
      go_ret
      exact (by rw [HF.out]; exact ⟨none, 0, rfl, Ow.nil _ _, HE.out⟩)
    · have hpos : 0 < l.length := List.length_pos_iff.2 h0
      have e1 : ((l.length : Int) == 0) = false := by simp [h0]
      have e2 : (l.length == 0) = false := by simp [h0]
      have hmem := (least_in h0).1
      have hi := List.idxOf_lt_length_of_mem hmem
      have hpin := place_in hmem
      have hf : plainR l = l.drop (l.idxOf (leastL l)) ++ l.take (l.idxOf (leastL l)) := by unfold plainR fromL; rw [if_pos ⟨hr, h0⟩]
      have HNE := Lib.hid h0
      obtain ⟨m, hm⟩ : ∃ m, leastL l = m := ⟨_, rfl⟩
      rw [hm] at hi hpin hf
      obtain ⟨q, hq⟩ : ∃ q, l.idxOf m = q := ⟨_, rfl⟩
      rw [hq] at hi hpin hf
      have HM := Lib.hid hm
      have HF := Lib.hid hf
      have HI : Hid (q ≤ l.length) := Lib.hid (by omega)
      have HPI := Lib.hid hpin
      clear hr h0 hmem hi hpin hf hm hq hpos
      go_enter Try.func18, Try.ntmps18
      go_wp2_with fail
      refine HC.out.mono ?_
      rintro ed w1 ⟨rfl, hE⟩
      have HE := Lib.hid hE
      clear hE
      go_wp2_with fail
      refine (minI l L lc _ (HL.out.ext HE.out) HNE.out (Nat.le_trans HLL.out (by decide))).mono ?_
      rintro ed w2 ⟨rfl, rfl⟩
      rw [HM.out]
      go_wp2_with fail
      refine (indexI l L lc m _ (HL.out.ext HE.out)).mono ?_
      rintro ed w2 ⟨rfl, rfl⟩
      rw [HPI.out]
      go_wp2_with fail
      refine (pturned13_any l L lc q _ (HL.out.ext HE.out) HLL.out HI.out).mono ?_
      rintro ed w2 ⟨T, c2, rfl, hO2, hE2⟩
      have HO := Lib.hid (hO2.mono (B' := w.heap.size) HE.out.size)
      have HX2 := Lib.hid (HE.out.trans hE2)
      obtain ⟨r, hr⟩ : ∃ r, l.drop q ++ l.take q = r := ⟨_, rfl⟩
      rw [hr] at HO HF ⊢
      clear hO2 hE2 hr
      go_wp2_with fail
      go_ret
      exact (by rw [HF.out]; exact ⟨T, c2, rfl, HO.out, HX2.out⟩)
set_option maxHeartbeats 3200000 in
set_option maxRecDepth 100000 in
theorem pnext13_any (l : List Int) (L : Option Addr) (lc : Nat) (x d : Int) (w : World) (hL : Rd kInt w (.slice L l.length lc) l) (hl : l.length ≤ 2000) (hx : in64 x) (hd : in64 d) :
    Calls Try.prog 15 #[.slice L l.length lc, .int .i64 x, .int .i64 d] w fun ed w' => ed = .returned (.tuple #[.int .i64 (nextR l x d).1, .bool (nextR l x d).2]) ∧ Ext w w' := by
  have HL := Lib.hid hL
  have HLL := Lib.hid hl
  have HXX := Lib.hid hx
  clear hL hx hd
  by_cases h : rightL l = true ∧ x ∈ l
  · have hP : placesP l [x] = ([((l.idxOf x : Nat) : Int)], true) := places_yes h.1 (by simpa using h.2)
    have hi := List.idxOf_lt_length_of_mem h.2
    obtain ⟨q, hq⟩ : ∃ q, l.idxOf x = q := ⟨_, rfl⟩
    obtain ⟨n, hn⟩ : ∃ n, l.length = n := ⟨_, rfl⟩
    obtain ⟨e, he⟩ : ∃ e, d.tmod (n : Int) = e := ⟨_, rfl⟩
    obtain ⟨s, hs⟩ : ∃ s, (q : Int) + e = s := ⟨_, rfl⟩
    obtain ⟨t, ht⟩ : ∃ t, s + (n : Int) = t := ⟨_, rfl⟩
    obtain ⟨k, hk⟩ : ∃ k, t.tmod (n : Int) = k := ⟨_, rfl⟩
    obtain ⟨K, hK, hKk, hat⟩ := next_plus (d := d) (k := k) h.2 hq (by rw [hn, he, hs, ht]; exact hk)
    subst hKk
    have HR : Hid (nextR l x d = (l.getD K 0, true)) := Lib.hid (by rw [next_is h.1 h.2, hat])
    rw [hq] at hP hi
    have HP := Lib.hid hP
    have HN := Lib.hid hn
    rw [hn] at hi hl hK
    have hb1 : -(n : Int) < e ∧ e < n := by
      rw [← he]
      have h5 := Int.tmod_lt_of_pos (-d) (b := (n : Int)) (by omega)
      rw [Int.neg_tmod] at h5
      have h6 := Int.tmod_lt_of_pos d (b := (n : Int)) (by omega)
      omega
    have hw1 : IntKind.i64.wrap e = e := IntWalk.i64_in _ (by omega)
    have hw2 : IntKind.i64.wrap s = s := IntWalk.i64_in _ (by omega)
    have hw3 : IntKind.i64.wrap t = t := IntWalk.i64_in _ (by omega)
    have hw4 : IntKind.i64.wrap (K : Int) = (K : Int) := IntWalk.i64_in _ (by omega)
    have hn0 : (0 : Int) < n := by omega
    have hnz : (n : Int) ≠ 0 := by omega
    have hnzN : n ≠ 0 := by omega
    have hK0 : (0 : Int) ≤ K := by omega
    have hK1 : (K : Int) < n := by omega
    obtain ⟨v, hv⟩ : ∃ v, l.getD K 0 = v := ⟨_, rfl⟩
    rw [hv] at HR
    have HV := Lib.hid hv
    have HKL := Lib.hid hK
    rw [hn]
    rw [hn] at HLL HL
    clear h hP hi hq hn hat hl hb1 hv hK
    go_enter Try.func15, Try.ntmps15
    go_wp2_with fail
    have hh := pplaces13_any l [x] L _ lc 1 _ (by rw [HN.out]; exact HL.out.ext ((Ext.refl _).alloc _)) (one_at (heap_alloc_new w _) HXX.out) (by rw [HN.out]; exact HLL.out) (by simp)
    rw [HP.out, HN.out] at hh
    refine hh.mono ?_
    rintro ed w1 ⟨A, c, rfl, hO, hE⟩
    have HX : Hid (Ext w w1) := Lib.hid (((Ext.refl w).alloc _).trans hE)
    simp only at hO ⊢
    obtain ⟨ba, oa, rfl, z0'⟩ := int_at9 hO.rd 0 (by simp)
    have z0 : w1.cell? ⟨ba, oa, none⟩ = some (.int .i64 q) := z0'
    obtain ⟨bl, ol, rfl, z1⟩ := int_at9 (HL.out.ext HX.out) K (by rw [HN.out]; exact HKL.out)
    rw [HV.out] at z1
    have KS := Lib.hid (fun w' (hE : Ext w1 w') => And.intro (hE.cell z0) (hE.cell z1))
    have lba : ba < w1.heap.size := World.block_lt_of_cell? _ _ z0
    have lbl : bl < w1.heap.size := World.block_lt_of_cell? _ _ z1
    clear hO hE z0' z0 z1 hh
    go_wp2_with fail
    refine wp_region_class (Ext w1) (by kernel_rfl) (by kernel_rfl) (Ext.refl _).drew ?_
    try simp only [List.append_eq, List.cons_append, List.nil_append]
    repeat (first
      | go_big_quiet_skip
      | (go_big_quiet_want
         first
         | (go_big_quiet_op; go_big_quiet_on)
         | (unfold Oper.quiet
            apply Exists.intro
            refine ⟨fun w' hC => ?_, ?_⟩
            · (obtain ⟨k1, k2⟩ := KS.out w' hC
               unfold Oper.quietAt
               go_simp
               first
               | exact rfl)
            go_simp
            go_big_quiet_on)))
    refine wpQuiet_nil ?_
    intro w9 hC9
    go_wp2_with fail
    exact bodyPost_ret (v := .tuple #[.int .i64 v, .bool true]) (by simp [results, Try.results15, go_sem]) rfl (by rw [HR.out]; exact ⟨rfl, HX.out.trans hC9⟩)
  · have hP : placesP l [x] = ([], false) := places_no (fun h9 => h ⟨h9.1, by simpa using h9.2⟩)
    have HF : Hid (nextR l x d = (0, false)) := Lib.hid (by unfold nextR; rw [if_neg h])
    have HP := Lib.hid hP
    clear h hP hl
    go_enter Try.func15, Try.ntmps15
    go_wp2_with fail
    refine (pplaces13_any l [x] L _ lc 1 _ (HL.out.ext ((Ext.refl _).alloc _)) (one_at (heap_alloc_new _ _) HXX.out) HLL.out (by simp)).mono ?_
    rw [HP.out]
    rintro ed w1 ⟨A, c, rfl, hO, hE⟩
    have HX : Hid (Ext w w1) := Lib.hid (((Ext.refl w).alloc _).trans hE)
    simp only at hO ⊢
    clear hO hE
    go_wp2_with fail
    exact bodyPost_ret (v := .tuple #[.int .i64 0, .bool false]) (by simp [results, Try.results15, go_sem]) rfl (by rw [HF.out]; exact ⟨rfl, HX.out⟩)
set_option maxHeartbeats 3200000 in
set_option maxRecDepth 100000 in
theorem psame13_any (a b : List Int) (L O : Option Addr) (lc oc : Nat) (w : World) (hL : Rd kInt w (.slice L a.length lc) a) (hO : Rd kInt w (.slice O b.length oc) b) (ha : a.length ≤ 2000) (hb : b.length ≤ 2000) :
    Calls Try.prog 22 #[.slice L a.length lc, .slice O b.length oc] w fun ed w' => ed = .returned (.bool (sameR a b)) ∧ Ext w w' := by
  have HL := Lib.hid hL
  have HO := Lib.hid hO
  have HA := Lib.hid ha
  have HB := Lib.hid hb
  clear hL hO ha hb
  have HS : Hid (sameR a b = (rightL a && rightL b && decide (plainR a = plainR b))) := Lib.hid rfl
  go_enter Try.func22, Try.ntmps22
  go_wp2_with fail
  refine (pright13_any a L lc _ HL.out HA.out).mono ?_
  rintro ed w2 ⟨rfl, hE2⟩
  have HX2 := Lib.hid hE2
  clear hE2
  cases hr : rightL a with
  | false =>
    rw [hr] at HS
    clear hr
    go_wp2_with fail
    go_ret
    exact ⟨ret_bool (by rw [HS.out]; rfl), HX2.out⟩
  | true =>
    rw [hr] at HS
    clear hr
    go_wp2_with fail
    refine (pright13_any b O oc _ (HO.out.ext HX2.out) HB.out).mono ?_
    rintro ed w3 ⟨rfl, hE3⟩
    have HX3 := Lib.hid (HX2.out.trans hE3)
    clear hE3
    cases hr : rightL b with
    | false =>
      rw [hr] at HS
      clear hr
      go_wp2_with fail
      go_ret
      exact ⟨ret_bool (by rw [HS.out]; rfl), HX3.out⟩
    | true =>
      rw [hr] at HS
      have hq : (plainR a).length ≤ 1048576 := by
        by_cases h0 : rightL a = true
        · have := (rot_perm (plain_right h0)).length_eq
          have := HA.out
          omega
        · unfold plainR; rw [if_neg (fun h => h0 h.1)]; simp
      obtain ⟨p, hp⟩ : ∃ p, plainR a = p := ⟨_, rfl⟩
      obtain ⟨q, hq2⟩ : ∃ q, plainR b = q := ⟨_, rfl⟩
      have hcp := fun w h => pplain13_any a L lc w h HA.out
      have hcq := fun w h => pplain13_any b O oc w h HB.out
      rw [hp] at HS hq hcp
      rw [hq2] at HS hcq
      have HCP := Lib.hid hcp
      have HCQ := Lib.hid hcq
      have HPL := Lib.hid hq
      clear hr hcp hcq hp hq2 hq
      go_wp2_with fail
      refine (HCP.out _ (HL.out.ext HX3.out)).mono ?_
      rintro ed w4 ⟨L4, l4, rfl, hO4, hE4⟩
      have HX4 := Lib.hid (HX3.out.trans hE4)
      have HO4 := Lib.hid hO4.rd
      clear hO4 hE4
      go_wp2_with fail
      refine (HCQ.out _ (HO.out.ext HX4.out)).mono ?_
      rintro ed w5 ⟨L5, l5, rfl, hO5, hE5⟩
      have HX5 := Lib.hid (HX4.out.trans hE5)
      have HO5 := Lib.hid hO5.rd
      have HP5 := Lib.hid (HO4.out.ext hE5)
      clear hO5 hE5
      go_wp2_with fail
      refine (equalI p q L4 L5 l4 l5 _ HP5.out HO5.out HPL.out).mono ?_
      rintro ed w6 ⟨rfl, hE6⟩
      have HX6 := Lib.hid (HX5.out.trans hE6)
      clear hE6
      go_wp2_with fail
      go_ret
      exact ⟨ret_bool (by rw [HS.out]; rfl), HX6.out⟩
end Go.Proofs.Ytmfabfnaminihaa

/- The program's Join, Cut (ring). Written by wip/mk_t13x.py. -/
namespace Go.Proofs.Ytmfabfnaminihaa
open Go.BigFrame
open Go.RowKit Go.Proofs.Ytmfabfnaminihaa.Plain

set_option maxHeartbeats 3200000 in
set_option maxRecDepth 100000 in
theorem pjoin13_any (a b : List Int) (L O : Option Addr) (lc oc : Nat) (x y : Int) (w : World) (hL : Rd kInt w (.slice L a.length lc) a) (hO : Rd kInt w (.slice O b.length oc) b) (ha : a.length ≤ 2000) (hb : b.length ≤ 2000) (hx : in64 x) (hy : in64 y) :
    Calls Try.prog 9 #[.slice L a.length lc, .int .i64 x, .slice O b.length oc, .int .i64 y] w (LbSaid (joinR a x b y) w) := by
  have HL := Lib.hid hL
  have HO := Lib.hid hO
  have HA := Lib.hid ha
  have HB := Lib.hid hb
  have HXX := Lib.hid hx
  have HYY := Lib.hid hy
  clear hL hO ha hb hx hy
  obtain ⟨J, hJ⟩ : ∃ J, joinR a x b y = J := ⟨_, rfl⟩
  have HJ : Hid (J = if (rightL b = true ∧ y ∈ b) ∧ (rightL a = true ∧ x ∈ a) ∧ rightL (insB (plainR a) x (fromL b y)) = true then (insB (plainR a) x (fromL b y), true) else ([], false)) := Lib.hid hJ.symm
  rw [hJ]
  clear hJ
  go_enter Try.func9, Try.ntmps9
  go_wp2_with fail
  have hcf := pfrom13_any b O oc y w HO.out HB.out HYY.out
  by_cases hb : rightL b = true ∧ y ∈ b
  · have hf : fromR b y = (fromL b y, true) := by unfold fromR; rw [if_pos hb]
    have hfl := from_len b y
    have hb9 := ((rightL_iff b).1 hb.1).1
    obtain ⟨F, hF⟩ : ∃ F, fromL b y = F := ⟨_, rfl⟩
    rw [hF] at hf hfl HJ
    rw [hf] at hcf
    refine hcf.mono ?_
    clear hcf
    rintro ed w1 ⟨L1, l1, rfl, hO1, hE1⟩
    simp only at hO1 ⊢
    have HX1 := Lib.hid hE1
    have HF1 := Lib.hid hO1.rd
    have HFL : Hid (F.length ≤ 1000) := Lib.hid (by omega)
    have HBB := Lib.hid hb
    clear hO1 hE1 hb hf hfl hb9 hF
    go_wp2_with fail
    have hcp := pplain13_any a L lc w1 (HL.out.ext HX1.out) HA.out
    have hpl : (plainR a).length ≤ 1000 ∧ (∀ h : rightL a = true, rightL (plainR a) = true ∧ ∀ x, x ∈ plainR a ↔ x ∈ a) ∧ (rightL a = false → plainR a = []) := by
      refine ⟨?_, fun h => ⟨plain_is_right h, plain_mem h⟩, fun h => by unfold plainR; rw [if_neg (by rw [h]; simp)]⟩
      by_cases h0 : rightL a = true
      · have := (rot_perm (plain_right h0)).length_eq
        have := ((rightL_iff a).1 h0).1
        omega
      · unfold plainR; rw [if_neg (fun h => h0 h.1)]; simp
    obtain ⟨p, hp⟩ : ∃ p, plainR a = p := ⟨_, rfl⟩
    rw [hp] at hcp hpl HJ
    refine hcp.mono ?_
    clear hcp hp
    rintro ed w2 ⟨L2, l2, rfl, hO2, hE2⟩
    have HX2 := Lib.hid (HX1.out.trans hE2)
    have HP2 := Lib.hid hO2.rd
    have HF2 := Lib.hid (HF1.out.ext hE2)
    have HPL := Lib.hid hpl
    clear hO2 hE2 hpl HF1
    go_wp2_with fail
    have hcl := pplaces13_any p [x] L2 (some ⟨w2.heap.size, 0, none⟩) l2 1 (w2.alloc (.cells #[.int .i64 x] 3)) (HP2.out.ext ((Ext.refl _).alloc _)) (one_at (heap_alloc_new _ _) HXX.out) (Nat.le_trans HPL.out.1 (by decide)) (by simp)
    by_cases h : rightL a = true ∧ x ∈ a
    · obtain ⟨hrp, hmp⟩ := HPL.out.2.1 h.1
      have hxp : x ∈ p := (hmp x).2 h.2
      have hP : placesP p [x] = ([((p.idxOf x : Nat) : Int)], true) := places_yes hrp (by simpa using hxp)
      have hi := List.idxOf_lt_length_of_mem hxp
      have hins : insB p x F = p.take (p.idxOf x + 1) ++ F ++ p.drop (p.idxOf x + 1) := rfl
      rw [hP] at hcl
      obtain ⟨q, hq⟩ : ∃ q, p.idxOf x = q := ⟨_, rfl⟩
      rw [hq] at hcl hi hins
      have HJ2 : Hid (J = if rightL (insB p x F) = true then (insB p x F, true) else ([], false)) := Lib.hid (by
        rw [HJ.out]
        by_cases h9 : rightL (insB p x F) = true
        · rw [if_pos ⟨HBB.out, h, h9⟩, if_pos h9]
        · rw [if_neg (fun h8 => h9 h8.2.2), if_neg h9])
      refine hcl.mono ?_
      rintro ed w3 ⟨A, c, rfl, hO3, hE3⟩
      simp only at hO3 ⊢
      have hE3' : Ext w2 w3 := ((Ext.refl w2).alloc _).trans hE3
      have HX3 := Lib.hid (HX2.out.trans hE3')
      have HP3 := Lib.hid (HP2.out.ext hE3')
      have HF3 := Lib.hid (HF2.out.ext hE3')
      obtain ⟨ba, oa, rfl, z0'⟩ := int_at9 hO3.rd 0 (by simp)
      have z0 : w3.cell? ⟨ba, oa, none⟩ = some (.int .i64 q) := z0'
      have lba : ba < w3.heap.size := World.block_lt_of_cell? _ _ z0
      obtain ⟨q1, hq1⟩ : ∃ q1, q + 1 = q1 := ⟨_, rfl⟩
      rw [hq1] at hins
      have hq1I : (q : Int) + 1 = (q1 : Int) := by omega
      have hqw : IntKind.i64.wrap (q1 : Int) = (q1 : Int) := IntWalk.i64_in _ (by have := HPL.out.1; omega)
      have hq0 : (0 : Int) ≤ q1 := by omega
      have hqn : (q1 : Int) ≤ p.length := by omega
      obtain ⟨_, _, hsl, hlc⟩ := HP3.out.slice
      cases hsl
      have hqc : (q1 : Int) ≤ l2 := by omega
      have hpc : (p.length : Int) ≤ l2 := by omega
      have HT : Hid (Rd kInt w3 (.slice L2 q1 l2) (p.take q1)) := Lib.hid (Rd.take HP3.out q1 l2 (by omega) (by omega))
      have HD : Hid (Rd kInt w3 (.slice (if l2 = q1 then L2 else Option.map (fun x => x.add q1) L2) (p.length - q1) (l2 - q1)) (p.drop q1)) := Lib.hid (Rd.sliced HP3.out rfl q1 (by omega))
      have HLL : Hid ((p.take q1).length + F.length + (p.drop q1).length ≤ 1000000) := Lib.hid (by
        rw [List.length_take, List.length_drop]; have := HPL.out.1; have := HFL.out; omega)
      obtain ⟨r, hr⟩ : ∃ r, insB p x F = r := ⟨_, rfl⟩
      rw [hr] at hins HJ2
      have HR : Hid (p.take q1 ++ F ++ p.drop q1 = r) := Lib.hid hins.symm
      obtain ⟨k, hk⟩ : ∃ k, r.length = k := ⟨_, rfl⟩
      have HK := Lib.hid hk
      have HKL : Hid (k ≤ 2000) := Lib.hid (by
        rw [← hk, ← HR.out, List.length_append, List.length_append, List.length_take, List.length_drop]; have := HPL.out.1; have := HFL.out; omega)
      have HZ3 : Hid (w.heap.size ≤ w3.heap.size) := Lib.hid HX3.out.size
      clear hcl h hrp hmp hxp hP hi hins hq hq1 hO3 hE3 hE3' z0' hlc hr hk HJ HX2 HP2 HF2
      go_wp2_with fail
      go_region_law (first
        | (go_simp; go_at_call 26
           refine (concatI3_to _ _ (.slice L2 q1 l2) (.slice L1 F.length l1) (.slice (if l2 = q1 then L2 else Option.map (fun x => x.add q1) L2) (p.length - q1) (l2 - q1)) (p.take q1) F (p.drop q1) r k _ (by first | (go_simp; done) | fail) (by first | (go_simp; done) | fail) (by first | (go_simp; done) | fail) (HT.out.ext (by repeat (first | (with_reducible exact Ext.refl _) | (with_reducible assumption) | refine Ext.drew ?_ | refine Ext.drewN ?_ _ | refine Ext.alloc ?_ _))) (HF3.out.ext (by repeat (first | (with_reducible exact Ext.refl _) | (with_reducible assumption) | refine Ext.drew ?_ | refine Ext.drewN ?_ _ | refine Ext.alloc ?_ _))) (HD.out.ext (by repeat (first | (with_reducible exact Ext.refl _) | (with_reducible assumption) | refine Ext.drew ?_ | refine Ext.drewN ?_ _ | refine Ext.alloc ?_ _))) HLL.out HR.out HK.out).mono ?_
           rintro ed w5 ⟨A5, c5, rfl, hO5, hE5⟩
           have hx5 : Ext w3 w5 := Ext.trans (by repeat (first | (with_reducible exact Ext.refl _) | (with_reducible assumption) | refine Ext.drew ?_ | refine Ext.drewN ?_ _ | refine Ext.alloc ?_ _)) hE5
           have ho5 := hO5.mono (B' := w.heap.size) (by first | exact Nat.le_trans HZ3.out (Ext.size (w := w3) (by repeat (first | (with_reducible exact Ext.refl _) | (with_reducible assumption) | refine Ext.drew ?_ | refine Ext.drewN ?_ _ | refine Ext.alloc ?_ _))) | fail))
        | fail)
      all_goals go_wp2_with fail
      all_goals
        have hcr := pright13_any r A5 c5 w5 (by rw [HK.out]; exact ho5.rd) (by rw [HK.out]; exact HKL.out)
        rw [HK.out] at hcr
        have HX5 := Lib.hid (HX3.out.trans hx5)
        have HO5 := Lib.hid ho5
        clear hx5 ho5 hO5 hE5
        cases hr : rightL r with
        | false =>
          have HR : Hid (J = ([], false)) := Lib.hid (by rw [HJ2.out, if_neg (by rw [hr]; simp)])
          rw [hr] at hcr
          refine hcr.mono ?_
          rintro ed w6 ⟨rfl, hE6⟩
          have HX6 := Lib.hid (HX5.out.trans hE6)
          clear hr hcr hE6
          go_wp2_with fail
          exact bodyPost_ret (v := .tuple #[.slice none 0 0, .bool false]) (by simp [results, Try.results9, go_sem]) rfl (by rw [HR.out]; exact ⟨none, 0, rfl, Ow.nil _ _, HX6.out⟩)
        | true =>
          have HR : Hid (J = (r, true)) := Lib.hid (by rw [HJ2.out, if_pos hr])
          rw [hr] at hcr
          refine hcr.mono ?_
          rintro ed w6 ⟨rfl, hE6⟩
          have HX6 := Lib.hid (HX5.out.trans hE6)
          have HO6 := Lib.hid (HO5.out.ext hE6)
          clear hr hcr hE6
          go_wp2_with fail
          exact bodyPost_ret (v := .tuple #[.slice A5 k c5, .bool true]) (by simp [results, Try.results9, go_sem]) rfl (by rw [HR.out]; exact ⟨A5, c5, by rw [HK.out], by rw [HK.out]; exact HO6.out, HX6.out⟩)
    · have hP : placesP p [x] = ([], false) := places_no (fun h9 => h (by
        by_cases h0 : rightL a = true
        · exact ⟨h0, ((HPL.out.2.1 h0).2 x).1 (by simpa using h9.2)⟩
        · rw [HPL.out.2.2 (by simpa using h0)] at h9
          exact absurd (h9.2 x (by simp)) (by simp)))
      rw [hP] at hcl
      have HR : Hid (J = ([], false)) := Lib.hid (by rw [HJ.out, if_neg (fun h8 => h h8.2.1)])
      refine hcl.mono ?_
      rintro ed w3 ⟨A, c, rfl, hO3, hE3⟩
      simp only at hO3 ⊢
      have HX3 := Lib.hid (HX2.out.trans (((Ext.refl w2).alloc _).trans hE3))
      clear hcl h hP hO3 hE3
      go_wp2_with fail
      exact bodyPost_ret (v := .tuple #[.slice none 0 0, .bool false]) (by simp [results, Try.results9, go_sem]) rfl (by rw [HR.out]; exact ⟨none, 0, rfl, Ow.nil _ _, HX3.out⟩)
  · have hf : fromR b y = ([], false) := by unfold fromR; rw [if_neg hb]
    have HR : Hid (J = ([], false)) := Lib.hid (by rw [HJ.out, if_neg (fun h8 => hb h8.1)])
    rw [hf] at hcf
    refine hcf.mono ?_
    clear hcf
    rintro ed w1 ⟨L1, l1, rfl, hO1, hE1⟩
    simp only at hO1 ⊢
    have HX1 := Lib.hid hE1
    clear hO1 hE1 hb hf
    go_wp2_with fail
    exact bodyPost_ret (v := .tuple #[.slice none 0 0, .bool false]) (by simp [results, Try.results9, go_sem]) rfl (by rw [HR.out]; exact ⟨none, 0, rfl, Ow.nil _ _, HX1.out⟩)
set_option maxHeartbeats 3200000 in
set_option maxRecDepth 100000 in
theorem pcut13_any (l : List Int) (L : Option Addr) (lc : Nat) (x y : Int) (w : World) (hL : Rd kInt w (.slice L l.length lc) l) (hl : l.length ≤ 2000) (hx : in64 x) (hy : in64 y) :
    Calls Try.prog 11 #[.slice L l.length lc, .int .i64 x, .int .i64 y] w (CutSaid (cutR l x y) w) := by
  have HL := Lib.hid hL
  have hcl := pplaces13_any l [x, y] L (some ⟨w.heap.size, 0, none⟩) lc 2 (w.alloc (.cells #[.int .i64 x, .int .i64 y] 3)) (hL.ext ((Ext.refl _).alloc _)) (int_list w [x, y] _ 2 _ rfl rfl rfl (by decide) (by intro z hz; simp only [List.mem_cons, List.not_mem_nil, or_false] at hz; rcases hz with h9 | h9; (rw [h9]; exact hx); (rw [h9]; exact hy))) hl (by simp)
  obtain ⟨J, hJ⟩ : ∃ J, cutR l x y = J := ⟨_, rfl⟩
  have hJ2 : J = if rightL l = true ∧ x ∈ l ∧ y ∈ l then (l.filter (fun t => !(cutPart l x y).contains t), cutPart l x y, true) else ([], [], false) := hJ.symm
  rw [hJ]
  clear hJ hx hy hL
  by_cases h : rightL l = true ∧ x ∈ l ∧ y ∈ l
  · have hP : placesP l [x, y] = ([((l.idxOf x : Nat) : Int), ((l.idxOf y : Nat) : Int)], true) := places_yes h.1 (by simpa using h.2)
    rw [hP] at hcl
    rw [if_pos h] at hJ2
    obtain ⟨hr, hxl, hyl⟩ := h
    have hi := List.idxOf_lt_length_of_mem hxl
    have hj := List.idxOf_lt_length_of_mem hyl
    have hl9 := ((rightL_iff l).1 hr).1
    have hcf := cut_fwd (right_nodup hr) hxl hyl
    have hcb := cut_bwd (right_nodup hr) hxl hyl
    obtain ⟨i, hix⟩ : ∃ i, l.idxOf x = i := ⟨_, rfl⟩
    obtain ⟨j, hjx⟩ : ∃ j, l.idxOf y = j := ⟨_, rfl⟩
    rw [hix] at hcl hi hcf hcb
    rw [hjx] at hcl hj hcf hcb
    obtain ⟨f, hf⟩ : ∃ f, i + 1 = f := ⟨_, rfl⟩
    obtain ⟨t, ht⟩ : ∃ t, j + 1 = t := ⟨_, rfl⟩
    rw [hf, ht] at hcf hcb
    have hfI : (i : Int) + 1 = (f : Int) := by omega
    have htI : (j : Int) + 1 = (t : Int) := by omega
    have hfw : IntKind.i64.wrap (f : Int) = (f : Int) := IntWalk.i64_in _ (by omega)
    have htw : IntKind.i64.wrap (t : Int) = (t : Int) := IntWalk.i64_in _ (by omega)
    have HIJ : Hid (i + 1 = f ∧ j + 1 = t) := Lib.hid ⟨hf, ht⟩
    have HCF := Lib.hid hcf
    have HCB := Lib.hid hcb
    have HJ := Lib.hid hJ2
    have HB : Hid (f ≤ l.length ∧ t ≤ l.length ∧ l.length ≤ 1000) := Lib.hid ⟨by omega, by omega, hl9⟩
    have HCL := Lib.hid hcl
    clear hP hr hxl hyl hi hj hcf hcb hix hjx hf ht hJ2 hcl hl9 hl
    go_enter Try.func11, Try.ntmps11
    go_wp2_with fail
    refine HCL.out.mono ?_
    clear HCL
    rintro ed w1 ⟨A, c, rfl, hO1, hE1⟩
    simp only at hO1 ⊢
    have hE1' : Ext w w1 := ((Ext.refl w).alloc _).trans hE1
    have HX1 := Lib.hid hE1'
    obtain ⟨ba, oa, rfl, z0'⟩ := int_at9 hO1.rd 0 (by simp)
    have z0 : w1.cell? ⟨ba, oa, none⟩ = some (.int .i64 i) := z0'
    obtain ⟨ba2, oa2, hba, z1'⟩ := int_at9 hO1.rd 1 (by simp)
    cases hba
    have z1 : w1.cell? ⟨ba, oa + 1, none⟩ = some (.int .i64 j) := z1'
    have lba : ba < w1.heap.size := World.block_lt_of_cell? _ _ z0
    have hc2 : (2 : Int) ≤ c := by have := hO1.slice; obtain ⟨_, _, hs, hsc⟩ := this; cases hs; simp at hsc; omega
    have KS := Lib.hid (fun w' (hE : Ext w1 w') => And.intro (hE.cell z0) (hE.cell z1))
    clear hO1 hE1 hE1' z0' z1' z0 z1
    go_wp2_with fail
    refine wp_region_class (Ext w1) (by kernel_rfl) (by kernel_rfl) (Ext.refl _).drew ?_
    try simp only [List.append_eq, List.cons_append, List.nil_append]
    repeat (first
      | go_big_quiet_skip
      | (go_big_quiet_want
         first
         | (go_big_quiet_op; go_big_quiet_on)
         | (unfold Oper.quiet
            apply Exists.intro
            refine ⟨fun w' hC => ?_, ?_⟩
            · (obtain ⟨k1, k2⟩ := KS.out w' hC
               unfold Oper.quietAt
               go_simp
               first
               | exact rfl)
            go_simp
            go_big_quiet_on)))
    refine wpQuiet_nil ?_
    intro w2 hC2
    have HX2 := Lib.hid (HX1.out.trans hC2)
    have HL2 := Lib.hid (HL.out.ext HX2.out)
    have HZ2 : Hid (w.heap.size ≤ w2.heap.size) := Lib.hid HX2.out.size
    obtain ⟨_, _, hsl, hlc⟩ := HL.out.slice
    cases hsl
    have hf0 : (0 : Int) ≤ f := by omega
    have ht0 : (0 : Int) ≤ t := by omega
    have hfn : (f : Int) ≤ l.length := by have := HB.out; omega
    have htn : (t : Int) ≤ l.length := by have := HB.out; omega
    have hfc : (f : Int) ≤ lc := by omega
    have htc : (t : Int) ≤ lc := by omega
    have hlc9 : (l.length : Int) ≤ lc := by omega
    have HD := Lib.hid (fun q (hq : q ≤ l.length) => Rd.sliced HL2.out rfl q hq)
    have HT := Lib.hid (fun q (hq : q ≤ l.length) => Rd.take HL2.out q lc hq (by omega))
    clear hC2 HX1 KS hlc
    by_cases hlt : f < t
    · have hd : decide ((f : Int) < t) = true := decide_eq_true (by omega)
      have hdN : decide (f < t) = true := decide_eq_true hlt
      have hft : (f : Int) ≤ t := by omega
      obtain ⟨hp1, hp2⟩ := HCF.out (by have := HIJ.out; omega)
      rw [hp2, hp1, show j - i = t - f by have := HIJ.out; omega] at HJ
      obtain ⟨rr, hrr⟩ : ∃ r, l.take f ++ l.drop t = r := ⟨_, rfl⟩
      obtain ⟨pp, hpp⟩ : ∃ r, (l.drop f).take (t - f) = r := ⟨_, rfl⟩
      obtain ⟨kr, hkr⟩ : ∃ k, rr.length = k := ⟨_, rfl⟩
      obtain ⟨kp, hkp⟩ : ∃ k, t - f = k := ⟨_, rfl⟩
      have HRR := Lib.hid hrr
      have HKR := Lib.hid hkr
      have HKPL : Hid (kp ≤ 1048576) := Lib.hid (by have := HB.out; omega)
      have HU := Lib.hid (HT.out f HB.out.1)
      have HV := Lib.hid (HD.out t HB.out.2.1)
      have HLL : Hid ((l.take f).length + (l.drop t).length ≤ 1000000) := Lib.hid (by rw [List.length_take, List.length_drop]; have := HB.out; omega)
      have hps : Rd kInt w2 (.slice (if lc = f then L else Option.map (fun x => x.add f) L) (t - f) (lc - f)) pp := by
        rw [← hpp]
        exact Rd.take (HD.out f HB.out.1) (t - f) (lc - f) (by rw [List.length_drop]; have := HB.out; omega) (by have := HB.out; omega)
      have HP := Lib.hid hps
      have HKP : Hid (pp.length = kp) := Lib.hid (by rw [← hpp, List.length_take, List.length_drop]; have := HB.out; omega)
      rw [hrr, hpp] at HJ
      clear hlt hp1 hp2 hrr hpp hkr hps HCF HCB HT HD hkp
      go_wp2_with fail
      go_region_law (first
        | (go_simp; go_at_call 26
           refine (concatI2_to _ _ (.slice L f lc) (.slice (if lc = t then L else Option.map (fun x => x.add t) L) (l.length - t) (lc - t)) (l.take f) (l.drop t) rr kr _ (by first | (go_simp; done) | exact Ext.cell hEb (by first | (go_simp; done) | fail) | fail) (by first | (go_simp; done) | exact Ext.cell hEb (by first | (go_simp; done) | fail) | fail) (HU.out.ext (by repeat (first | (with_reducible exact Ext.refl _) | (with_reducible assumption) | refine Ext.drew ?_ | refine Ext.drewN ?_ _ | refine Ext.alloc ?_ _))) (HV.out.ext (by repeat (first | (with_reducible exact Ext.refl _) | (with_reducible assumption) | refine Ext.drew ?_ | refine Ext.drewN ?_ _ | refine Ext.alloc ?_ _))) HLL.out HRR.out HKR.out).mono ?_
           rintro ed wa ⟨Aa, ca, rfl, hOa, hEa⟩
           have xa : Ext w2 wa := Ext.trans (by repeat (first | (with_reducible exact Ext.refl _) | (with_reducible assumption) | refine Ext.drew ?_ | refine Ext.drewN ?_ _ | refine Ext.alloc ?_ _)) hEa
           have oa := hOa.mono (B' := w.heap.size) (by first | exact Nat.le_trans HZ2.out (Ext.size (w := w2) (by repeat (first | (with_reducible exact Ext.refl _) | (with_reducible assumption) | refine Ext.drew ?_ | refine Ext.drewN ?_ _ | refine Ext.alloc ?_ _))) | fail))
        | (go_simp; go_at_call 27
           refine (cloneI_to _ pp kp _ (HP.out.ext (by repeat (first | (with_reducible exact Ext.refl _) | (with_reducible assumption) | refine Ext.drew ?_ | refine Ext.drewN ?_ _ | refine Ext.alloc ?_ _))) HKP.out HKPL.out).mono ?_
           rintro ed wb ⟨Ab, cb, rfl, hOb, hEb⟩
           have xb : Ext w2 wb := Ext.trans (by repeat (first | (with_reducible exact Ext.refl _) | (with_reducible assumption) | refine Ext.drew ?_ | refine Ext.drewN ?_ _ | refine Ext.alloc ?_ _)) hEb
           have ob := hOb.mono (B' := w.heap.size) (by first | exact Nat.le_trans HZ2.out (Ext.size (w := w2) (by repeat (first | (with_reducible exact Ext.refl _) | (with_reducible assumption) | refine Ext.drew ?_ | refine Ext.drewN ?_ _ | refine Ext.alloc ?_ _))) | fail))
        | fail)

      all_goals go_wp2_with fail
      all_goals first
        | (refine bodyPost_ret (v := .tuple #[.slice Aa kr ca, .slice Ab kp cb, .bool true]) (by simp [results, Try.results11, go_sem]) rfl ?_; rw [HJ.out]; refine ⟨Aa, Ab, ca, cb, by rw [HKR.out, HKP.out], ?_, ?_, HX2.out.trans xb⟩; (rw [HKR.out]; exact oa.ext (Ext.trans (by first | ((repeat (first | (with_reducible exact Ext.refl _) | (with_reducible assumption) | refine Ext.drew ?_ | refine Ext.drewN ?_ _ | refine Ext.alloc ?_ _)); done) | fail) hEb)); (rw [HKP.out]; exact ob))
        | (refine bodyPost_ret (v := .tuple #[.slice Aa kr ca, .slice Ab kp cb, .bool true]) (by simp [results, Try.results11, go_sem]) rfl ?_; rw [HJ.out]; refine ⟨Aa, Ab, ca, cb, by rw [HKR.out, HKP.out], ?_, ?_, HX2.out.trans xa⟩; (rw [HKR.out]; exact oa); (rw [HKP.out]; exact ob.ext (Ext.trans (by first | ((repeat (first | (with_reducible exact Ext.refl _) | (with_reducible assumption) | refine Ext.drew ?_ | refine Ext.drewN ?_ _ | refine Ext.alloc ?_ _)); done) | fail) hEa)))
        | fail
    · have hd : decide ((f : Int) < t) = false := decide_eq_false (by omega)
      have hdN : decide (f < t) = false := decide_eq_false hlt
      have hft : (t : Int) ≤ f := by omega
      obtain ⟨hp1, hp2⟩ := HCB.out (by have := HIJ.out; omega)
      rw [hp2, hp1, show i - j = f - t by have := HIJ.out; omega] at HJ
      obtain ⟨rr, hrr⟩ : ∃ r, l.drop f ++ l.take t = r := ⟨_, rfl⟩
      obtain ⟨pp, hpp⟩ : ∃ r, (l.drop t).take (f - t) = r := ⟨_, rfl⟩
      obtain ⟨kr, hkr⟩ : ∃ k, rr.length = k := ⟨_, rfl⟩
      obtain ⟨kp, hkp⟩ : ∃ k, f - t = k := ⟨_, rfl⟩
      have HRR := Lib.hid hrr
      have HKR := Lib.hid hkr
      have HKPL : Hid (kp ≤ 1048576) := Lib.hid (by have := HB.out; omega)
      have HU := Lib.hid (HD.out f HB.out.1)
      have HV := Lib.hid (HT.out t HB.out.2.1)
      have HLL : Hid ((l.drop f).length + (l.take t).length ≤ 1000000) := Lib.hid (by rw [List.length_take, List.length_drop]; have := HB.out; omega)
      have hps : Rd kInt w2 (.slice (if lc = t then L else Option.map (fun x => x.add t) L) (f - t) (lc - t)) pp := by
        rw [← hpp]
        exact Rd.take (HD.out t HB.out.2.1) (f - t) (lc - t) (by rw [List.length_drop]; have := HB.out; omega) (by have := HB.out; omega)
      have HP := Lib.hid hps
      have HKP : Hid (pp.length = kp) := Lib.hid (by rw [← hpp, List.length_take, List.length_drop]; have := HB.out; omega)
      rw [hrr, hpp] at HJ
      clear hlt hp1 hp2 hrr hpp hkr hps HCF HCB HT HD hkp
      go_wp2_with fail
      go_region_law (first
        | (go_simp; go_at_call 26
           refine (concatI2_to _ _ (.slice (if lc = f then L else Option.map (fun x => x.add f) L) (l.length - f) (lc - f)) (.slice L t lc) (l.drop f) (l.take t) rr kr _ (by first | (go_simp; done) | exact Ext.cell hEb (by first | (go_simp; done) | fail) | fail) (by first | (go_simp; done) | exact Ext.cell hEb (by first | (go_simp; done) | fail) | fail) (HU.out.ext (by repeat (first | (with_reducible exact Ext.refl _) | (with_reducible assumption) | refine Ext.drew ?_ | refine Ext.drewN ?_ _ | refine Ext.alloc ?_ _))) (HV.out.ext (by repeat (first | (with_reducible exact Ext.refl _) | (with_reducible assumption) | refine Ext.drew ?_ | refine Ext.drewN ?_ _ | refine Ext.alloc ?_ _))) HLL.out HRR.out HKR.out).mono ?_
           rintro ed wa ⟨Aa, ca, rfl, hOa, hEa⟩
           have xa : Ext w2 wa := Ext.trans (by repeat (first | (with_reducible exact Ext.refl _) | (with_reducible assumption) | refine Ext.drew ?_ | refine Ext.drewN ?_ _ | refine Ext.alloc ?_ _)) hEa
           have oa := hOa.mono (B' := w.heap.size) (by first | exact Nat.le_trans HZ2.out (Ext.size (w := w2) (by repeat (first | (with_reducible exact Ext.refl _) | (with_reducible assumption) | refine Ext.drew ?_ | refine Ext.drewN ?_ _ | refine Ext.alloc ?_ _))) | fail))
        | (go_simp; go_at_call 27
           refine (cloneI_to _ pp kp _ (HP.out.ext (by repeat (first | (with_reducible exact Ext.refl _) | (with_reducible assumption) | refine Ext.drew ?_ | refine Ext.drewN ?_ _ | refine Ext.alloc ?_ _))) HKP.out HKPL.out).mono ?_
           rintro ed wb ⟨Ab, cb, rfl, hOb, hEb⟩
           have xb : Ext w2 wb := Ext.trans (by repeat (first | (with_reducible exact Ext.refl _) | (with_reducible assumption) | refine Ext.drew ?_ | refine Ext.drewN ?_ _ | refine Ext.alloc ?_ _)) hEb
           have ob := hOb.mono (B' := w.heap.size) (by first | exact Nat.le_trans HZ2.out (Ext.size (w := w2) (by repeat (first | (with_reducible exact Ext.refl _) | (with_reducible assumption) | refine Ext.drew ?_ | refine Ext.drewN ?_ _ | refine Ext.alloc ?_ _))) | fail))
        | fail)

      all_goals go_wp2_with fail
      all_goals first
        | (refine bodyPost_ret (v := .tuple #[.slice Ab kp cb, .slice Aa kr ca, .bool true]) (by simp [results, Try.results11, go_sem]) rfl ?_; rw [HJ.out]; refine ⟨Ab, Aa, cb, ca, by rw [HKR.out, HKP.out], ?_, ?_, HX2.out.trans xb⟩; (rw [HKP.out]; exact ob); (rw [HKR.out]; exact oa.ext (Ext.trans (by first | ((repeat (first | (with_reducible exact Ext.refl _) | (with_reducible assumption) | refine Ext.drew ?_ | refine Ext.drewN ?_ _ | refine Ext.alloc ?_ _)); done) | fail) hEb)))
        | (refine bodyPost_ret (v := .tuple #[.slice Ab kp cb, .slice Aa kr ca, .bool true]) (by simp [results, Try.results11, go_sem]) rfl ?_; rw [HJ.out]; refine ⟨Ab, Aa, cb, ca, by rw [HKR.out, HKP.out], ?_, ?_, HX2.out.trans xa⟩; (rw [HKP.out]; exact ob.ext (Ext.trans (by first | ((repeat (first | (with_reducible exact Ext.refl _) | (with_reducible assumption) | refine Ext.drew ?_ | refine Ext.drewN ?_ _ | refine Ext.alloc ?_ _)); done) | fail) hEa)); (rw [HKR.out]; exact oa))
        | fail
  · have hP : placesP l [x, y] = ([], false) := places_no (fun h9 => h ⟨h9.1, by simpa using h9.2⟩)
    rw [hP] at hcl
    have HR : Hid (J = ([], [], false)) := Lib.hid (by rw [hJ2, if_neg h])
    have HCL := Lib.hid hcl
    clear h hP hcl hJ2 hl
    go_enter Try.func11, Try.ntmps11
    go_wp2_with fail
    refine HCL.out.mono ?_
    rintro ed w1 ⟨A, c, rfl, hO, hE⟩
    have HX : Hid (Ext w w1) := Lib.hid (((Ext.refl w).alloc _).trans hE)
    simp only at hO ⊢
    clear hO hE
    go_wp2_with fail
    exact bodyPost_ret (v := .tuple #[.slice none 0 0, .slice none 0 0, .bool false]) (by simp [results, Try.results11, go_sem]) rfl (by rw [HR.out]; exact ⟨none, none, 0, 0, rfl, Ow.nil _ _, Ow.nil _ _, HX.out⟩)
end Go.Proofs.Ytmfabfnaminihaa
