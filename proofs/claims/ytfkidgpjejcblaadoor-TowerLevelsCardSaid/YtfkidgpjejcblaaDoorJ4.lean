/- Joined by wip/merge.py: T14B, T14C, T14M, T14V, RoundR, MonoR. -/
import Derived.Test.YtfkidgpjejcblaaDoorJ3
import Derived.StillTailTactics
import Derived.RangeFuncNested
import Derived.RangeFuncBound
import Derived.RangeFuncCalls
import Derived.RangeFuncLeaves
import Derived.OwnWalkIn
import Derived.TacticsInMore
import Derived.LoopNIn
import Derived.LoopIn
import Derived.OrdersIn
set_option linter.unusedVariables false
set_option linter.unusedSimpArgs false
set_option linter.unnecessarySimpa false
/- The document's Build (ref14). -/
namespace Go.Proofs.YtfkidgpjejcblaaDoor
open Go.BigFrame
open Go.RowKit Go.Proofs.YtfkidgpjejcblaaDoor.Plain

def StopB (p : Prop) : Prop := p
theorem StopB.to {p : Prop} (h : StopB p) : p := h
theorem StopB.of {p : Prop} (h : p) : StopB p := h
theorem Oww.besideI {B B' : Nat} {w w' : World} {v u : Value} {xs : List Int} {D : List (List Int)} (h : Ow kInt B w v xs) (h' : Oww B' w u D) (hg : w.grownBy w' u.ownBlock) : Ow kInt B w' v xs := by
  obtain ⟨hs, h1, _⟩ := h'
  exact h.beside h1 (by decide) hg
/-- a tower, an error -/
def TwSaid (r : Tw × Int) (w : World) (ed : Ending) (w' : World) : Prop :=
  ∃ (A B N : Option Addr) (c d e : Nat), ed = .returned (.tuple #[towV A r.1.tokens.length c B r.1.heights.length d N r.1.next.length e, .int .i64 r.2]) ∧ Ow kInt w.heap.size w' (.slice A r.1.tokens.length c) r.1.tokens ∧ Ow kInt w.heap.size w' (.slice B r.1.heights.length d) r.1.heights ∧ Oww w.heap.size w' (.slice N r.1.next.length e) r.1.next ∧ Ext w w'
theorem Plain.nexts_snoc (hs : List Int) (i j : Nat) (h : j < (hs.getD i 0).toNat) : (nextsP hs i).take (j + 1) = (nextsP hs i).take j ++ [(nextP hs i j : Int)] := by
  rw [ints_take (by rw [nextsP_len]; exact h), nextsP_at hs i j h]
theorem Plain.rows_snoc (hs : List Int) (k : Nat) : (List.range (k + 1)).map (nextsP hs) = (List.range k).map (nextsP hs) ++ [nextsP hs k] := by
  rw [List.range_succ, List.map_append]; rfl
set_option maxHeartbeats 3200000 in
set_option maxRecDepth 100000 in
theorem rbuild14_any (tk hs : List Int) (A B : Option Addr) (c d : Nat) (w : World) (hA : Rd kInt w (.slice A tk.length c) tk) (hB : Rd kInt w (.slice B hs.length d) hs) :
    Calls Tryd.prog 9 #[.slice A tk.length c, .slice B hs.length d] w (TwSaid (buildP tk hs) w) := by
  have HA := Lib.hid hA
  have HB := Lib.hid hB
  have hml := hB.len
  clear hA hB
  go_enter Tryd.func9, Tryd.ntmps9
  go_wp2_with fail
  have HX0 : Hid (Ext w (w.alloc (.cells #[.slice none 0 0, .slice none 0 0, .slice none 0 0] 27))) := Lib.hid ((Ext.refl w).alloc _)
  refine (rright13_any tk A c _ (HA.out.ext HX0.out)).mono ?_
  rintro ed w1 ⟨rfl, hE1⟩
  have p0 : w1.cell? ⟨w.heap.size, 0, none⟩ = some (.slice none 0 0) := Ext.cell hE1 (by go_simp)
  have p1 : w1.cell? ⟨w.heap.size, 1, none⟩ = some (.slice none 0 0) := Ext.cell hE1 (by go_simp)
  have p2 : w1.cell? ⟨w.heap.size, 2, none⟩ = some (.slice none 0 0) := Ext.cell hE1 (by go_simp)
  have pf : ∀ o, w1.frozen? ⟨w.heap.size, o, none⟩ = false := fun o => (Below.frozen hE1 (p := ⟨w.heap.size, o, none⟩) (by first | omega | (simp; omega) | simp)).trans (by go_simp)
  have HX1 := Lib.hid (HX0.out.trans hE1)
  have HPW := Lib.hid (And.intro p0 (And.intro p1 p2))
  have lz1 := hE1.size
  simp at lz1
  have n1 : w.heap.size < w1.heap.size := by omega
  clear hE1 HX0 lz1
  by_cases hmay : rightL tk = true ∧ tk.length ≠ 0 ∧ hs.length = tk.length
  · obtain ⟨hr, h0, hl⟩ := hmay
    have htl := ((rightL_iff tk).1 hr).1
    rw [hr]
    have e0 : ((tk.length : Int) == 0) = false := by rw [beq_eq_false_iff_ne]; omega
    have e1 : ((hs.length : Int) != (tk.length : Int)) = false := by rw [bne_eq_false_iff_eq]; omega
    have HL := Lib.hid hl
    have HR := Lib.hid hr
    obtain ⟨n, hn⟩ : ∃ n, tk.length = n := ⟨_, rfl⟩
    have hn2 : hs.length = n := by omega
    have HN := Lib.hid (And.intro hn hn2)
    rw [hn] at e0 e1 h0 htl
    rw [hn2] at e1
    have HA' : Hid (Rd kInt w (.slice A n c) tk) := Lib.hid (by rw [← hn]; exact HA.out)
    have HB' : Hid (Rd kInt w (.slice B n d) hs) := Lib.hid (by rw [← hn2]; exact HB.out)
    rw [hn, hn2]
    have hn9 : (n : Int) ≤ 1000 := by omega
    have hn0 : (0 : Int) < n := by omega
    clear hr hl hn hn2 HA HB hml
    go_wp2_with fail
    go_loopw [7] (fun i wr => ∃ k : Nat, k ≤ n ∧ i = .int .i64 k ∧ (∀ j, j < k → 1 ≤ hs.getD j 0 ∧ hs.getD j 0 ≤ 8) ∧ w1 = wr) (fun i _ => n - (intOf i).toNat)
    case atStart => exact ⟨0, Nat.zero_le _, rfl, fun j hj => absurd hj (Nat.not_lt_zero _), rfl⟩
    case round =>
      obtain ⟨k, hk, rfl, hin, rfl⟩ := hrel
      have HIN := Lib.hid hin
      have hk0 : (0 : Int) ≤ k := by omega
      clear hin
      by_cases hlt : k < n
      · have hlt' : (k : Int) < n := by omega
        have hkl : k < hs.length := by rw [HN.out.2]; exact hlt
        obtain ⟨bl, ol, hbl, hcl⟩ := (ints_of_rd (HB'.out.ext HX1.out)).cells (by omega)
        subst hbl
        have z0 := hcl k hkl
        have hmem := ints_mem hkl
        obtain ⟨x, hx⟩ : ∃ x, hs.getD k 0 = x := ⟨_, rfl⟩
        rw [hx] at z0 hmem
        have HX := Lib.hid hx
        have lbl : bl < w1.heap.size := World.block_lt_of_cell? _ _ z0
        clear hcl hx
        by_cases hbad : x < 1 ∨ 8 < x
        · have HRR : Hid (buildP tk hs = (noTw, 1)) := Lib.hid (by
            unfold buildP
            rw [if_neg]
            rw [mayB_iff]
            intro h9
            have := h9.2.2.2 x hmem
            omega)
          clear hmem
          by_cases h1 : x < 1
          · have hd1 : decide (x < 1) = true := decide_eq_true h1
            clear h1 hbad
            go_wp2_with fail
            exact bodyPost_ret (v := .tuple #[towV none 0 0 none 0 0 none 0 0, .int .i64 1]) (by simp [results, Tryd.results9, go_sem, p0, p1, p2]) rfl (by rw [HRR.out]; exact ⟨none, none, none, 0, 0, 0, rfl, Ow.nil _ _, Ow.nil _ _, Oww.nil _ _, ((HX1.out.setCell (p := ⟨w.heap.size, 0, none⟩) (Nat.le_refl _) _).setCell (p := ⟨w.heap.size, 1, none⟩) (Nat.le_refl _) _).setCell (p := ⟨w.heap.size, 2, none⟩) (Nat.le_refl _) _⟩)
          · have hd1 : decide (x < 1) = false := decide_eq_false h1
            have hd2 : decide (8 < x) = true := decide_eq_true (by omega)
            clear h1 hbad
            go_wp2_with fail
            exact bodyPost_ret (v := .tuple #[towV none 0 0 none 0 0 none 0 0, .int .i64 1]) (by simp [results, Tryd.results9, go_sem, p0, p1, p2]) rfl (by rw [HRR.out]; exact ⟨none, none, none, 0, 0, 0, rfl, Ow.nil _ _, Ow.nil _ _, Oww.nil _ _, ((HX1.out.setCell (p := ⟨w.heap.size, 0, none⟩) (Nat.le_refl _) _).setCell (p := ⟨w.heap.size, 1, none⟩) (Nat.le_refl _) _).setCell (p := ⟨w.heap.size, 2, none⟩) (Nat.le_refl _) _⟩)
        · have hd1 : decide (x < 1) = false := decide_eq_false (by omega)
          have hd2 : decide (8 < x) = false := decide_eq_false (by omega)
          have HIN2 : Hid (∀ j, j < k + 1 → 1 ≤ hs.getD j 0 ∧ hs.getD j 0 ≤ 8) := Lib.hid (fun j hj => by
            rcases Nat.lt_or_ge j k with h9 | h9
            · exact HIN.out j h9
            · obtain rfl : j = k := by omega
              rw [HX.out]; omega)
          clear hbad hmem
          go_wp2_with fail
          go_roundw
          case rel => exact ⟨k + 1, by omega, by go_num, HIN2.out, by first | rfl | trivial⟩
          case measure => simp [intOf]; omega
      · have hkn : n = k := by omega
        subst hkn
        have HRR : Hid (buildP tk hs = (twOf tk hs, 0)) := Lib.hid (by
          unfold buildP
          rw [if_pos]
          rw [mayB_iff]
          refine ⟨HR.out, by rw [HN.out.1]; exact h0, by rw [HN.out.1, HN.out.2], fun x hx => ?_⟩
          obtain ⟨j, hj, rfl⟩ := List.getElem_of_mem hx
          have := HIN.out j (by rw [← HN.out.2]; exact hj)
          rw [List.getD_eq_getElem?_getD, List.getElem?_eq_getElem hj] at this
          exact this)
        go_wp2_with (first | (at_builtin; refine StopB.to ?_) | fail)
        refine StopB.of ?_
        refine kInt.wpList_app (by rfl) (.tmp 47) (.tmp 48) (by rfl) (by rfl) w1.heap.size _ [] (by rfl) (empty_at (heap_alloc_new _ _) (Nat.le_refl _)) _ tk (by rfl) (HA'.out.ext (HX1.out.trans ((Ext.refl _).alloc _))) (by rw [List.length_nil, HN.out.1]; omega) (by simp) ?_
        intro v2 w2 hown2 hgrow2 hat2
        rw [List.nil_append] at hown2
        have hx2 : Ext w1 w2 := Ext.grown ((Ext.refl w1).alloc _) hgrow2 (fun b hb => by cases hb; exact Nat.le_refl _)
        obtain ⟨A2, c2, hv2, hc2⟩ := hown2.slice
        rw [HN.out.1] at hv2 hc2
        subst hv2
        have HO2 := Lib.hid hown2
        have HX2 := Lib.hid (HX1.out.trans hx2)
        have HY2 := Lib.hid hx2
        replace p0 := Ext.cell hx2 p0
        replace p1 := Ext.cell hx2 p1
        replace p2 := Ext.cell hx2 p2
        have hs2 := hx2.size
        clear hown2 hgrow2 hat2 hx2
        go_wp2_with (first | (at_builtin; refine StopB.to ?_) | fail)
        refine StopB.of ?_
        refine kInt.wpList_app (by rfl) (.tmp 50) (.tmp 51) (by rfl) (by rfl) w2.heap.size _ [] (by rfl) (empty_at (heap_alloc_new _ _) (Nat.le_refl _)) _ hs (by rfl) (HB'.out.ext (HX2.out.trans ((Ext.refl _).alloc _))) (by rw [List.length_nil, HN.out.2]; omega) (by simp) ?_
        intro v3 w3 hown3 hgrow3 hat3
        rw [List.nil_append] at hown3
        have hx3 : Ext w2 w3 := Ext.grown ((Ext.refl w2).alloc _) hgrow3 (fun b hb => by cases hb; exact Nat.le_refl _)
        obtain ⟨B3, d3, hv3, hc3⟩ := hown3.slice
        rw [HN.out.2] at hv3 hc3
        subst hv3
        have HO3 := Lib.hid (HO2.out.ext hx3)
        have HB3 := Lib.hid (hown3.mono (B' := w1.heap.size) hs2)
        have HX3 := Lib.hid (HX2.out.trans hx3)
        have HY3 := Lib.hid (HY2.out.trans hx3)
        replace p0 := Ext.cell hx3 p0
        replace p1 := Ext.cell hx3 p1
        replace p2 := Ext.cell hx3 p2
        have hs3 : w1.heap.size ≤ w3.heap.size := HY3.out.size
        have HLA : Hid ((∀ b, (Value.slice A2 n c2).ownBlock = some b → b < w3.heap.size) ∧ (∀ b, (Value.slice B3 n d3).ownBlock = some b → b < w3.heap.size)) := Lib.hid ⟨fun b hb => (HO3.out.lt b hb).2, fun b hb => (HB3.out.lt b hb).2⟩
        clear hown3 hgrow3 hat3 hx3 HO2 HX2 HY2
        go_wp2_with fail
        go_loopw [9] (fun i wr => ∃ (k : Nat) (N : Option Addr) (e : Nat), k ≤ n ∧ i = .int .i64 k ∧ (wr.cell? ⟨w3.heap.size, 0, none⟩ = some (.slice A2 n c2) ∧ wr.cell? ⟨w3.heap.size, 1, none⟩ = some (.slice B3 n d3) ∧ wr.cell? ⟨w3.heap.size, 2, none⟩ = some (.slice N k e)) ∧ (∀ o, wr.frozen? ⟨w3.heap.size, o, none⟩ = false) ∧ Oww (w3.heap.size + 1) wr (.slice N k e) ((List.range k).map (nextsP hs)) ∧ Ow kInt w1.heap.size wr (.slice A2 n c2) tk ∧ Ow kInt w1.heap.size wr (.slice B3 n d3) hs ∧ Ext w1 wr ∧ w3.heap.size < wr.heap.size) (fun i _ => n - (intOf i).toNat)
        case atStart => exact ⟨0, none, 0, Nat.zero_le _, rfl, ⟨by go_simp, by go_simp, by go_simp⟩, fun o => by go_simp, Oww.nil _ _, HO3.out.ext ((Ext.refl _).alloc _), HB3.out.ext ((Ext.refl _).alloc _), HY3.out.alloc _, by simp⟩
        case round =>
          obtain ⟨k, N, e, hk, rfl, ⟨q0, q1, q2⟩, qf, hNx, hTk, hHt, hX, hQ⟩ := hrel
          have HNX := Lib.hid hNx
          have HTK := Lib.hid hTk
          have HHT := Lib.hid hHt
          have HX := Lib.hid hX
          have hk0 : (0 : Int) ≤ k := by omega
          clear hNx hTk hHt hX HO3 HB3 HX3 HY3
          by_cases hlt : k < n
          · have hlt' : (k : Int) < n := by omega
            have hkl : k < hs.length := by rw [HN.out.2]; exact hlt
            have hx18 := HIN.out k hlt
            have HIX : Hid (∀ (q : Nat), q < n → ∃ bl ol, B = some ⟨bl, ol, none⟩ ∧ ∀ W, Ext w1 W → W.cell? ⟨bl, ol + q, none⟩ = some (.int .i64 (hs.getD q 0))) := Lib.hid fun q hq => by
              obtain ⟨bl, ol, hbl, hcl⟩ := (ints_of_rd (HB'.out.ext HX1.out)).cells (by rw [HN.out.2]; omega)
              exact ⟨bl, ol, hbl, fun W hW => hW.cell (hcl q (by rw [HN.out.2]; exact hq))⟩
            obtain ⟨bl, ol, rfl, zz⟩ := HIX.out k hlt
            have HZZ := Lib.hid zz
            obtain ⟨x, hx⟩ : ∃ x, hs.getD k 0 = x := ⟨_, rfl⟩
            rw [hx] at hx18 HZZ
            obtain ⟨H, hH⟩ : ∃ H : Nat, x = H := ⟨x.toNat, by omega⟩
            subst hH
            have HXK := Lib.hid hx
            have hHn : (hs.getD k 0).toNat = H := by rw [hx]; rfl
            have HHN := Lib.hid hHn
            have hH8 : (H : Int) ≤ 8 := by omega
            have hH1 : (1 : Int) ≤ H := by omega
            have hnlen := nextsP_len hs k
            rw [hHn] at hnlen
            have HNL := Lib.hid hnlen
            clear zz hx hHn hnlen hx18
            go_wp2_with fail
            go_loopw [10, 11] (fun v hh wq => ∃ j : Nat, j ≤ H ∧ hh = .int .i64 j ∧ Ow kInt wr.heap.size wq v ((nextsP hs k).take j) ∧ Ext wr wq) (fun _ hh _ => H - (intOf hh).toNat)
            case atStart => exact ⟨0, Nat.zero_le _, rfl, Ow.nil _ _, Ext.refl _⟩
            case round =>
              rename World => wq
              obtain ⟨j, hj, rfl, hO, hXq⟩ := hrel
              have HO := Lib.hid hO
              have HXq := Lib.hid hXq
              have hj0 : (0 : Int) ≤ j := by omega
              have zk := HZZ.out wq (HX.out.trans hXq)
              have lbl : bl < wq.heap.size := World.block_lt_of_cell? _ _ zk
              clear hO hXq
              obtain ⟨Av, cv, hv, hcv⟩ := HO.out.slice
              have htl : ((nextsP hs k).take j).length = j := by rw [List.length_take, HNL.out]; omega
              rw [htl] at hv hcv
              subst hv
              by_cases hlj : j < H
              · have hlj' : (j : Int) < H := by omega
                have hnx := next_spec (hs := hs) (i := k) (h := j) hkl (by rw [HXK.out]; omega)
                rw [HN.out.2] at hnx
                obtain ⟨nx1, nx2, K, K1, K2, nx3, nx4, nx5⟩ := hnx
                have hsn := nexts_snoc hs k j (by rw [HHN.out]; exact hlj)
                obtain ⟨nx, hnxx⟩ : ∃ nx, nextP hs k j = nx := ⟨_, rfl⟩
                rw [hnxx] at nx1 nx2 nx3 hsn
                have HN2 := Lib.hid nx2
                have HN3 := Lib.hid nx3
                have HN5 := Lib.hid nx5
                have HSN := Lib.hid hsn
                clear nx2 nx3 nx4 nx5 hsn hnxx
                go_wp2_with fail
                go_loopw [12] (fun m wz => ∃ q : Nat, 1 ≤ q ∧ q ≤ K ∧ m = .int .i64 q ∧ wq = wz) (fun m _ => K - (intOf m).toNat)
                case atStart => exact ⟨1, Nat.le_refl _, K1, rfl, rfl⟩
                case round =>
                  obtain ⟨q, hq1, hq2, rfl, rfl⟩ := hrel
                  have hq0 : (1 : Int) ≤ q := by omega
                  have hqn : (q : Int) ≤ n := by omega
                  obtain ⟨s, hs1⟩ : ∃ s : Nat, (k : Int) + (q : Int) = (s : Int) := ⟨k + q, by omega⟩
                  have hs2 : k + q = s := by omega
                  have hg : s % n < n := Nat.mod_lt _ (by omega)
                  have hgI : (s : Int).tmod (n : Int) = ((s % n : Nat) : Int) := by rw [Int.tmod_eq_emod_of_nonneg (by omega), Int.natCast_emod]
                  obtain ⟨g, hgx⟩ : ∃ g, s % n = g := ⟨_, rfl⟩
                  rw [hgx] at hg hgI
                  obtain ⟨bl', ol', hbb, zg⟩ := HIX.out g hg
                  cases hbb
                  have zg2 := zg wq (HX.out.trans HXq.out)
                  have hws : IntKind.i64.wrap (s : Int) = s := IntWalk.i64_in _ (by omega)
                  have hwg : IntKind.i64.wrap (g : Int) = g := IntWalk.i64_in _ (by omega)
                  have hg0 : (0 : Int) ≤ g := by omega
                  have hg1 : (g : Int) < n := by omega
                  have hnne : (n : Int) ≠ 0 := by omega
                  obtain ⟨y, hy⟩ : ∃ y, hs.getD g 0 = y := ⟨_, rfl⟩
                  rw [hy] at zg2
                  clear zg
                  by_cases hend : q = K
                  · subst hend
                    have hgn : g = nx := by rw [← hgx, ← hs2, HN3.out]
                    subst hgn
                    have hdy : decide (y ≤ (j : Int)) = false := decide_eq_false (by have := HN2.out; rw [hy] at this; omega)
                    have HOK : Hid (in64 (g : Int)) := Lib.hid (in64_nat g (by omega))
                    have HLL : Hid (((nextsP hs k).take j).length + [(g : Int)].length ≤ 1048576) := Lib.hid (by rw [htl, List.length_singleton]; omega)
                    have hzr := HXq.out.size
                    clear hy hgx hs2
                    go_wp2_with (at_builtin; refine kInt.wpList_app (by rfl) (.tmp 79) (.tmp 85) (by rfl) (by rfl) wr.heap.size _ ((nextsP hs k).take j) (by rfl) (HO.out.ext ((Ext.refl _).alloc _)) _ [(g : Int)] (by rfl) (one_at (heap_alloc_new _ _) HOK.out) HLL.out (by simp; omega) ?_; intro v' w9 hown9 hgrow9 hat9)
                    have H9 := Lib.hid (And.intro hown9 hgrow9)
                    clear hown9 hgrow9 hat9
                    try go_wp2_with fail
                    go_roundw
                    case rel =>
                      obtain ⟨hown9, hgrow9⟩ := H9.out
                      exact ⟨j + 1, by omega, by go_num, by rw [HSN.out]; exact hown9, Ext.grown (HXq.out.alloc _) hgrow9 (fun b hb => (HO.out.lt b hb).1)⟩
                    case measure => simp [intOf]; omega
                  · have hdy : decide (y ≤ (j : Int)) = true := decide_eq_true (by
                      have := HN5.out q hq1 (by omega)
                      rw [hs2, hgx, hy] at this; exact this)
                    clear hy hgx hs2
                    go_wp2_with fail
                    go_roundw
                    case rel => exact ⟨q + 1, by omega, by omega, by go_num, by first | rfl | trivial⟩
                    case measure => simp [intOf]; omega
              · obtain rfl : j = H := by omega
                have hTj := HO.out
                rw [List.take_of_length_le (by rw [HNL.out]; exact Nat.le_refl _)] at hTj
                have HTJ := Lib.hid hTj
                have hqz := HXq.out.size
                have q0' := HXq.out.cell q0
                have q1' := HXq.out.cell q1
                have q2' := HXq.out.cell q2
                have qf' : ∀ o, wq.frozen? ⟨w3.heap.size, o, none⟩ = false := fun o => (Below.frozen HXq.out (p := ⟨w3.heap.size, o, none⟩) hQ).trans (qf o)
                have hQ' : w3.heap.size < wq.heap.size := by omega
                clear hTj htl
                go_wp2_with (first | (at_builtin; refine StopB.to ?_) | fail)
                refine StopB.of ?_
                have hNq := HNX.out.ext (HXq.out.alloc (.cells #[.slice Av j cv] 22))
                have hTq := HTK.out.ext (HXq.out.alloc (.cells #[.slice Av j cv] 22))
                have hHq := HHT.out.ext (HXq.out.alloc (.cells #[.slice Av j cv] 22))
                refine Oww.wpList_app (by rfl) (.tmp 88) (.tmp 90) (by rfl) (by rfl) (w3.heap.size + 1) _ ((List.range k).map (nextsP hs)) (by rfl) hNq wq.heap.size ⟨Av, j, cv⟩ (nextsP hs k) (by rfl) (heap_alloc_new _ _) ((HTJ.out.mono (by omega)).ext ((Ext.refl _).alloc _)) (by rw [List.length_map, List.length_range]; omega) (by simp; omega) ?_
                intro v8 w8 hown8 hgrow8 hat8
                rw [← rows_snoc] at hown8
                have hrow : ∀ b, (Value.slice N k e).ownBlock = some b → w3.heap.size + 1 ≤ b := fun b hb => (hNq.lt b hb).1
                have hx8 : Ext w1 w8 := Ext.grown ((HX.out.trans HXq.out).alloc _) hgrow8 (fun b hb => by have := hrow b hb; omega)
                have r0 : w8.cell? ⟨w3.heap.size, 0, none⟩ = some (.slice A2 n c2) := hgrow8.cell (Ext.cell ((Ext.refl wq).alloc _) q0') (fun e => by have := hrow w3.heap.size e.symm; omega)
                have r1 : w8.cell? ⟨w3.heap.size, 1, none⟩ = some (.slice B3 n d3) := hgrow8.cell (Ext.cell ((Ext.refl wq).alloc _) q1') (fun e => by have := hrow w3.heap.size e.symm; omega)
                have r2 : w8.cell? ⟨w3.heap.size, 2, none⟩ = some (.slice N k e) := hgrow8.cell (Ext.cell ((Ext.refl wq).alloc _) q2') (fun e => by have := hrow w3.heap.size e.symm; omega)
                have rf : ∀ o, w8.frozen? ⟨w3.heap.size, o, none⟩ = false := fun o => (hgrow8.frozen_far ⟨w3.heap.size, o, none⟩ (by simp; omega) (fun e => by have := hrow w3.heap.size e.symm; omega)).trans ((Below.frozen ((Ext.refl wq).alloc (.cells #[.slice Av j cv] 22)) (p := ⟨w3.heap.size, o, none⟩) hQ').trans (qf' o))
                have hT8 := Oww.besideI hTq hNq hgrow8
                have hH8' := Oww.besideI hHq hNq hgrow8
                have hQ8 : w3.heap.size < w8.heap.size := World.block_lt_of_cell? _ _ r0
                obtain ⟨N8, e8, hv8, hc8⟩ := hown8.slice
                rw [List.length_map, List.length_range] at hv8
                subst hv8
                have HO8 := Lib.hid hown8
                have HT8 := Lib.hid hT8
                have HH8 := Lib.hid hH8'
                have HX8 := Lib.hid hx8
                clear hown8 hgrow8 hat8 hT8 hH8' hx8 hNq hTq hHq hrow q0 q1 q2 qf q0' q1' q2' qf' zk
                go_wp2_with fail
                go_roundw
                case rel => exact ⟨k + 1, N8, e8, by omega, by go_num, ⟨by go_simp, by go_simp, by go_simp⟩, fun o => by go_simp, HO8.out.setBelow (by simp) _, HT8.out.setOther (fun h9 => by have := HLA.out.1 _ h9; simp at this) _, HH8.out.setOther (fun h9 => by have := HLA.out.2 _ h9; simp at this) _, HX8.out.setCell (p := ⟨w3.heap.size, 2, none⟩) hs3 _, by simp; omega⟩
                case measure => simp [intOf]; omega
          · have hkn : k = n := by omega
            subst hkn
            have hnx2 := HNX.out
            have HTW : Hid (twOf tk hs = ⟨tk, hs, (List.range k).map (nextsP hs)⟩) := Lib.hid (by unfold twOf; rw [HN.out.2])
            have hlen9 : ((List.range k).map (nextsP hs)).length = k := by rw [List.length_map, List.length_range]
            obtain ⟨D, hD⟩ : ∃ D, (List.range k).map (nextsP hs) = D := ⟨_, rfl⟩
            rw [hD] at hnx2 HTW hlen9
            have HD := Lib.hid (hnx2.mono (B' := w1.heap.size) (by omega))
            have HDL := Lib.hid hlen9
            have HXX := Lib.hid (HX1.out.trans HX.out)
            have s0 : wr.cell? ⟨w.heap.size, 0, none⟩ = some (.slice none 0 0) := HX.out.cell HPW.out.1
            have s1 : wr.cell? ⟨w.heap.size, 1, none⟩ = some (.slice none 0 0) := HX.out.cell HPW.out.2.1
            have s2 : wr.cell? ⟨w.heap.size, 2, none⟩ = some (.slice none 0 0) := HX.out.cell HPW.out.2.2
            have sf : ∀ o, wr.frozen? ⟨w.heap.size, o, none⟩ = false := fun o => (Below.frozen HX.out (p := ⟨w.heap.size, o, none⟩) n1).trans (pf o)
            have ls : w.heap.size < wr.heap.size := World.block_lt_of_cell? _ _ s0
            clear hnx2 hlen9 hD HNX
            go_wp2_with fail
            have e1' : Ow kInt w.heap.size (((wr.setCell ⟨w.heap.size, 0, none⟩ (.slice A2 k c2)).setCell ⟨w.heap.size, 1, none⟩ (.slice B3 k d3)).setCell ⟨w.heap.size, 2, none⟩ (.slice N k e)) (.slice A2 k c2) tk := (((HTK.out.setBelow (p := ⟨w.heap.size, 0, none⟩) n1 _).setBelow (p := ⟨w.heap.size, 1, none⟩) n1 _).setBelow (p := ⟨w.heap.size, 2, none⟩) n1 _).mono (by omega)
            have e2' : Ow kInt w.heap.size (((wr.setCell ⟨w.heap.size, 0, none⟩ (.slice A2 k c2)).setCell ⟨w.heap.size, 1, none⟩ (.slice B3 k d3)).setCell ⟨w.heap.size, 2, none⟩ (.slice N k e)) (.slice B3 k d3) hs := (((HHT.out.setBelow (p := ⟨w.heap.size, 0, none⟩) n1 _).setBelow (p := ⟨w.heap.size, 1, none⟩) n1 _).setBelow (p := ⟨w.heap.size, 2, none⟩) n1 _).mono (by omega)
            have e3' : Oww w.heap.size (((wr.setCell ⟨w.heap.size, 0, none⟩ (.slice A2 k c2)).setCell ⟨w.heap.size, 1, none⟩ (.slice B3 k d3)).setCell ⟨w.heap.size, 2, none⟩ (.slice N k e)) (.slice N k e) D := (((HD.out.setBelow (p := ⟨w.heap.size, 0, none⟩) n1 _).setBelow (p := ⟨w.heap.size, 1, none⟩) n1 _).setBelow (p := ⟨w.heap.size, 2, none⟩) n1 _).mono (by omega)
            have hXW := ((HXX.out.setCell (p := ⟨w.heap.size, 0, none⟩) (Nat.le_refl _) (.slice A2 k c2)).setCell (p := ⟨w.heap.size, 1, none⟩) (Nat.le_refl _) (.slice B3 k d3)).setCell (p := ⟨w.heap.size, 2, none⟩) (Nat.le_refl _) (.slice N k e)
            obtain ⟨W, hW⟩ : ∃ W, (((wr.setCell ⟨w.heap.size, 0, none⟩ (.slice A2 k c2)).setCell ⟨w.heap.size, 1, none⟩ (.slice B3 k d3)).setCell ⟨w.heap.size, 2, none⟩ (.slice N k e)) = W := ⟨_, rfl⟩
            have t0 : W.cell? ⟨w.heap.size, 0, none⟩ = some (.slice A2 k c2) := by subst hW; go_simp
            have t1 : W.cell? ⟨w.heap.size, 1, none⟩ = some (.slice B3 k d3) := by subst hW; go_simp
            have t2 : W.cell? ⟨w.heap.size, 2, none⟩ = some (.slice N k e) := by subst hW; go_simp
            rw [hW] at e1' e2' e3' hXW ⊢
            clear hW s0 s1 s2
            refine bodyPost_ret (v := .tuple #[towV A2 k c2 B3 k d3 N k e, .int .i64 0]) (by simp [results, Tryd.results9, go_sem, t0, t1, t2]) rfl (by
              rw [HRR.out, HTW.out]
              refine ⟨A2, B3, N, c2, d3, e, ?_, ?_, ?_, ?_, hXW⟩
              · show _ = Ending.returned (.tuple #[towV A2 tk.length c2 B3 hs.length d3 N D.length e, .int .i64 0])
                rw [HN.out.1, HN.out.2, HDL.out]
              · show Ow kInt w.heap.size W (.slice A2 tk.length c2) tk
                rw [HN.out.1]; exact e1'
              · show Ow kInt w.heap.size W (.slice B3 hs.length d3) hs
                rw [HN.out.2]; exact e2'
              · show Oww w.heap.size W (.slice N D.length e) D
                rw [HDL.out]; exact e3')
  · have HRR : Hid (buildP tk hs = (noTw, 1)) := Lib.hid (by
      unfold buildP
      rw [if_neg]
      rw [mayB_iff]
      exact fun h9 => hmay ⟨h9.1, h9.2.1, h9.2.2.1⟩)
    have hfin : ∀ W, Ext w W → ∃ (A B N : Option Addr) (c d e : Nat), Ending.returned (.tuple #[towV none 0 0 none 0 0 none 0 0, .int .i64 1]) = Ending.returned (.tuple #[towV A (noTw, (1 : Int)).1.tokens.length c B (noTw, (1 : Int)).1.heights.length d N (noTw, (1 : Int)).1.next.length e, .int .i64 (noTw, (1 : Int)).2]) ∧ Ow kInt w.heap.size W (.slice A (noTw, (1 : Int)).1.tokens.length c) (noTw, (1 : Int)).1.tokens ∧ Ow kInt w.heap.size W (.slice B (noTw, (1 : Int)).1.heights.length d) (noTw, (1 : Int)).1.heights ∧ Oww w.heap.size W (.slice N (noTw, (1 : Int)).1.next.length e) (noTw, (1 : Int)).1.next ∧ Ext w W := fun W hW => ⟨none, none, none, 0, 0, 0, rfl, Ow.nil _ _, Ow.nil _ _, Oww.nil _ _, hW⟩
    have HFIN := Lib.hid hfin
    clear hfin
    cases hr : rightL tk with
    | false =>
      clear hmay hr
      go_wp2_with fail
      exact bodyPost_ret (v := .tuple #[towV none 0 0 none 0 0 none 0 0, .int .i64 1]) (by simp [results, Tryd.results9, go_sem, p0, p1, p2]) rfl (by rw [HRR.out]; exact HFIN.out _ (((HX1.out.setCell (p := ⟨w.heap.size, 0, none⟩) (Nat.le_refl _) _).setCell (p := ⟨w.heap.size, 1, none⟩) (Nat.le_refl _) _).setCell (p := ⟨w.heap.size, 2, none⟩) (Nat.le_refl _) _))
    | true =>
      by_cases h0 : tk.length = 0
      · have e0 : ((tk.length : Int) == 0) = true := by rw [beq_iff_eq]; omega
        clear hmay hr h0
        go_wp2_with fail
        exact bodyPost_ret (v := .tuple #[towV none 0 0 none 0 0 none 0 0, .int .i64 1]) (by simp [results, Tryd.results9, go_sem, p0, p1, p2]) rfl (by rw [HRR.out]; exact HFIN.out _ (((HX1.out.setCell (p := ⟨w.heap.size, 0, none⟩) (Nat.le_refl _) _).setCell (p := ⟨w.heap.size, 1, none⟩) (Nat.le_refl _) _).setCell (p := ⟨w.heap.size, 2, none⟩) (Nat.le_refl _) _))
      · have e0 : ((tk.length : Int) == 0) = false := by rw [beq_eq_false_iff_ne]; omega
        have e1 : ((hs.length : Int) != (tk.length : Int)) = true := by
          rw [bne_iff_ne]
          intro h9
          exact hmay ⟨hr, h0, by omega⟩
        clear hmay hr h0
        go_wp2_with fail
        exact bodyPost_ret (v := .tuple #[towV none 0 0 none 0 0 none 0 0, .int .i64 1]) (by simp [results, Tryd.results9, go_sem, p0, p1, p2]) rfl (by rw [HRR.out]; exact HFIN.out _ (((HX1.out.setCell (p := ⟨w.heap.size, 0, none⟩) (Nat.le_refl _) _).setCell (p := ⟨w.heap.size, 1, none⟩) (Nat.le_refl _) _).setCell (p := ⟨w.heap.size, 2, none⟩) (Nat.le_refl _) _))
end Go.Proofs.YtfkidgpjejcblaaDoor

/- The document's Right, Head, Level (ref14). -/
namespace Go.Proofs.YtfkidgpjejcblaaDoor
open Go.BigFrame
open Go.RowKit Go.Proofs.YtfkidgpjejcblaaDoor.Plain

theorem Plain.build_er (tk hs : List Int) : (buildP tk hs).2 = 0 ∨ (buildP tk hs).2 = 1 := by
  unfold buildP
  split
  · exact .inl rfl
  · exact .inr rfl
theorem Plain.right_facts {t : Tw} (h : rightTw t = true) : t.heights.length ≤ 1000 ∧ t.heights.length = t.tokens.length ∧ t.heights.length ≠ 0 ∧ (∀ j, j < t.heights.length → 1 ≤ t.heights.getD j 0 ∧ t.heights.getD j 0 ≤ 8) ∧ t.next = (List.range t.heights.length).map (nextsP t.heights) := by
  obtain ⟨h1, h2⟩ := (rightTw_iff t).1 h
  obtain ⟨g1, g2, g3, g4⟩ := (mayB_iff _ _).1 h1
  have g5 := ((rightL_iff _).1 g1).1
  refine ⟨by omega, g3, by omega, fun j hj => g4 _ (ints_mem hj), ?_⟩
  have := congrArg Tw.next h2
  exact this
end Go.Proofs.YtfkidgpjejcblaaDoor

/- The library's Max and EqualFunc, tower's inBounds; ring's Right with no limit. Written by wip/tools/gen14m.py. -/
namespace Go.Proofs.YtfkidgpjejcblaaDoor
open Go.BigFrame
open Go.RowKit Go.Proofs.YtfkidgpjejcblaaDoor.Plain

/-- the greatest of a list -/
def Plain.mostL (l : List Int) : Int := l.foldl max (l.headD 0)
theorem Plain.fold_max_take (l : List Int) (j : Nat) (h : j < l.length) (a : Int) : (l.take (j + 1)).foldl max a = max ((l.take j).foldl max a) (l.getD j 0) := by
  rw [ints_take h, List.foldl_append]; rfl
set_option maxHeartbeats 3200000 in
set_option maxRecDepth 100000 in
theorem maxI (l : List Int) (L : Option Addr) (lc : Nat) (w : World) (hL : Rd kInt w (.slice L l.length lc) l) (hne : l ≠ []) (hl : l.length ≤ 1000000) :
    Calls Tryd.prog 29 #[.slice L l.length lc] w fun ed w' => ed = .returned (.int .i64 (mostL l)) ∧ w = w' := by
  have HL := Lib.hid hL
  have hpos : 0 < l.length := List.length_pos_iff.2 hne
  have hpos' : (1 : Int) ≤ l.length := by omega
  have hl' : (l.length : Int) ≤ 1000000 := by omega
  have hd0 : decide ((l.length : Int) < 1) = false := decide_eq_false (by omega)
  have hd0N : decide (l.length < 1) = false := decide_eq_false (by omega)
  obtain ⟨b0, o0, hb0, z00⟩ := int_at9 hL 0 hpos
  have z0 : w.cell? ⟨b0, o0, none⟩ = some (.int .i64 (l.getD 0 0)) := z00
  subst hb0
  have HNE := Lib.hid hne
  obtain ⟨h0, hh0⟩ : ∃ h, l.getD 0 0 = h := ⟨_, rfl⟩
  have HH0 := Lib.hid hh0
  rw [hh0] at z0
  have H1 : Hid ((l.take 1).foldl max h0 = h0) := Lib.hid (by
    have e := fold_max_take l 0 hpos h0
    rw [hh0] at e
    rw [show (1 : Nat) = 0 + 1 from rfl, e]
    simp)
  clear hL hne z00 hh0
  have lb0 : b0 < w.heap.size := World.block_lt_of_cell? _ _ z0
  go_enter Tryd.func29, Tryd.ntmps29
  go_wp2_with fail
  clear z0
  go_loopw [3, 4] (fun m i wr => ∃ j : Nat, (1 ≤ j ∧ j ≤ l.length) ∧ i = .int .i64 j ∧ m = .int .i64 ((l.take j).foldl max h0) ∧ w = wr) (fun _ i _ => l.length - (intOf i).toNat)
  case atStart => exact ⟨1, ⟨Nat.le_refl _, hpos⟩, rfl, by rw [H1.out], rfl⟩
  case round =>
    obtain ⟨j, ⟨hj1, hj⟩, rfl, rfl, rfl⟩ := hrel
    have hj0 : (0 : Int) ≤ j := by omega
    by_cases hlt : j < l.length
    · have hlt' : (j : Int) < l.length := by omega
      obtain ⟨b1, o1, hb1, z1⟩ := int_at9 HL.out j hlt
      cases hb1
      have htk := fold_max_take l j hlt h0
      obtain ⟨y, hy⟩ : ∃ y, l.getD j 0 = y := ⟨_, rfl⟩
      obtain ⟨a, ha⟩ : ∃ a, (l.take j).foldl max h0 = a := ⟨_, rfl⟩
      rw [hy, ha] at htk
      rw [hy] at z1
      rw [ha]
      clear hy ha
      rcases Int.lt_trichotomy a y with hc | hc | hc
      · have HTK : Hid ((l.take (j + 1)).foldl max h0 = y) := Lib.hid (by rw [htk]; omega)
        clear htk
        go_wp2_with fail
        go_roundw
        case rel => exact ⟨j + 1, ⟨by omega, by omega⟩, by go_num, by rw [HTK.out], by first | rfl | trivial⟩
        case measure => simp [intOf]; omega
      · have HTK : Hid ((l.take (j + 1)).foldl max h0 = y) := Lib.hid (by rw [htk]; omega)
        subst hc
        clear htk
        go_wp2_with fail
        go_roundw
        case rel => exact ⟨j + 1, ⟨by omega, by omega⟩, by go_num, by rw [HTK.out], by first | rfl | trivial⟩
        case measure => simp [intOf]; omega
      · have HTK : Hid ((l.take (j + 1)).foldl max h0 = a) := Lib.hid (by rw [htk]; omega)
        clear htk
        go_wp2_with fail
        go_roundw
        case rel => exact ⟨j + 1, ⟨by omega, by omega⟩, by go_num, by rw [HTK.out], by first | rfl | trivial⟩
        case measure => simp [intOf]; omega
    · obtain rfl : j = l.length := by omega
      have hll : (l.take l.length).foldl max h0 = mostL l := by
        rw [List.take_length, ← HH0.out]
        unfold mostL
        obtain ⟨a, t, rfl⟩ := List.exists_cons_of_ne_nil HNE.out
        rfl
      have HLL := Lib.hid hll
      rw [hll]
      clear hll
      go_wp2_with fail
      go_ret
      exact ⟨rfl, rfl⟩
set_option maxHeartbeats 3200000 in
set_option maxRecDepth 100000 in
theorem pbounds14_any (l : List Int) (L : Option Addr) (lc : Nat) (w : World) (hL : Rd kInt w (.slice L l.length lc) l) :
    Calls Tryd.prog 20 #[.slice L l.length lc] w fun ed w' => ed = .returned (.bool (l.all hOk)) ∧ w = w' := by
  have HL := Lib.hid hL
  have hm := hL.len
  have hm' : (l.length : Int) ≤ 9223372036854775807 := by omega
  clear hL hm
  go_enter Tryd.func20, Tryd.ntmps20
  go_wp2_with fail
  go_loopw [7] (fun i wr => ∃ j : Nat, j ≤ l.length ∧ i = .int .i64 j ∧ (l.take j).all hOk = true ∧ w = wr) (fun i _ => l.length - (intOf i).toNat)
  case atStart => exact ⟨0, Nat.zero_le _, rfl, rfl, rfl⟩
  case round =>
    obtain ⟨j, hj, rfl, hin, rfl⟩ := hrel
    have hj0 : (0 : Int) ≤ j := by omega
    by_cases hlt : j < l.length
    · have hlt' : (j : Int) < l.length := by omega
      obtain ⟨bl, ol, rfl, z0⟩ := int_at9 HL.out j hlt
      have htk := ints_take hlt
      have hmem := ints_mem hlt
      obtain ⟨x, hx⟩ : ∃ x, l.getD j 0 = x := ⟨_, rfl⟩
      rw [hx] at z0 htk hmem
      have hout : ¬ (1 ≤ x ∧ x ≤ 8) → l.all hOk = false := fun h => by
        rw [← Bool.not_eq_true, List.all_eq_true]
        intro h9
        have h8 := h9 x hmem
        unfold hOk at h8
        rw [Bool.and_eq_true, decide_eq_true_eq, decide_eq_true_eq] at h8
        exact h h8
      by_cases h1 : x < 1
      · have hd1 : decide (x < 1) = true := decide_eq_true h1
        have HR := Lib.hid (hout (by omega))
        clear htk hmem hout h1 hin hx
        go_wp2_with fail
        go_ret
        exact ⟨ret_bool HR.out.symm, rfl⟩
      have hd1 : decide (x < 1) = false := decide_eq_false h1
      by_cases h2 : 8 < x
      · have hd2 : decide (8 < x) = true := decide_eq_true h2
        have HR := Lib.hid (hout (by omega))
        clear htk hmem hout h1 h2 hin hx
        go_wp2_with fail
        go_ret
        exact ⟨ret_bool HR.out.symm, rfl⟩
      have hd2 : decide (8 < x) = false := decide_eq_false h2
      have HIN : Hid ((l.take (j + 1)).all hOk = true) := Lib.hid (by
        rw [htk, List.all_append, hin, Bool.true_and, List.all_cons, List.all_nil, Bool.and_true]
        unfold hOk
        rw [Bool.and_eq_true, decide_eq_true_eq, decide_eq_true_eq]; omega)
      clear htk hmem hout h1 h2 hin hx
      go_wp2_with fail
      go_roundw
      case rel => exact ⟨j + 1, by omega, by go_num, HIN.out, by first | rfl | trivial⟩
      case measure => simp [intOf]; omega
    · obtain rfl : j = l.length := by omega
      rw [List.take_length] at hin
      have HR := Lib.hid hin
      clear hin
      go_wp2_with fail
      go_ret
      exact ⟨ret_bool HR.out.symm, rfl⟩

set_option maxHeartbeats 3200000 in
set_option maxRecDepth 100000 in
theorem prightN_any (l : List Int) (L : Option Addr) (lc : Nat) (w : World) (hL : Rd kInt w (.slice L l.length lc) l) :
    Calls Tryd.prog 19 #[.slice L l.length lc] w fun ed w' => ed = .returned (.bool (rightL l)) ∧ Ext w w' := by
  by_cases h : l.length ≤ 2000
  · exact pright13_any l L lc w hL h
  · have HR : Hid (rightL l = false) := Lib.hid (by
      rw [← Bool.not_eq_true]
      intro h9
      have := ((rightL_iff l).1 h9).1
      omega)
    have hd : decide ((l.length : Int) ≤ 1000) = false := decide_eq_false (by omega)
    have hdN : decide (l.length ≤ 1000) = false := decide_eq_false (by omega)
    have hm := hL.len
    clear hL h
    go_enter Tryd.func19, Tryd.ntmps19
    go_wp2_with fail
    go_ret
    exact ⟨ret_bool HR.out.symm, Ext.refl _⟩
set_option maxHeartbeats 3200000 in
set_option maxRecDepth 100000 in
theorem equalN (l1 l2 : List Int) (A1 A2 : Option Addr) (c1 c2 : Nat) (w : World) (h1 : Rd kInt w (.slice A1 l1.length c1) l1) (h2 : Rd kInt w (.slice A2 l2.length c2) l2) (hl : l2.length ≤ 1048576) :
    Calls Tryd.prog 31 #[.slice A1 l1.length c1, .slice A2 l2.length c2] w fun ed w' => ed = .returned (.bool (decide (l1 = l2))) ∧ Ext w w' := by
  by_cases hlen : l1.length = l2.length
  · exact equalI l1 l2 A1 A2 c1 c2 w h1 h2 (by omega)
  · have hd0 : ((l1.length : Int) != (l2.length : Int)) = true := by simp; omega
    have hd0N : (l1.length != l2.length) = true := by simp [hlen]
    have HR : Hid (decide (l1 = l2) = false) := Lib.hid (decide_eq_false fun e => hlen (by rw [e]))
    clear hlen h1 h2
    go_enter Tryd.func31, Tryd.ntmps31
    go_wp2_with fail
    go_ret
    exact ⟨ret_bool HR.out.symm, Ext.refl _⟩
set_option maxHeartbeats 3200000 in
set_option maxRecDepth 100000 in
theorem equalF (D E : List (List Int)) (A A' : Option Addr) (c c' : Nat) (w : World) (h : Rdd w (.slice A D.length c) D) (h' : Rdd w (.slice A' E.length c') E) (hrow : ∀ j, j < E.length → (E.getD j []).length ≤ 1048576) :
    Calls Tryd.prog 30 #[.slice A D.length c, .slice A' E.length c', .func (.func 31) #[] #[]] w fun ed w' => ed = .returned (.bool (decide (D = E))) ∧ Ext w w' := by
  have HD := Lib.hid h
  have HE := Lib.hid h'
  have HW := Lib.hid hrow
  have hm := h.len
  have hm' : (D.length : Int) ≤ 9223372036854775807 := by omega
  clear h h' hm hrow
  by_cases hl : D.length = E.length
  · have e : ((D.length : Int) != (E.length : Int)) = false := by rw [bne_eq_false_iff_eq]; omega
    have HLE := Lib.hid hl
    have hlI : (E.length : Int) = D.length := by omega
    clear hl
    go_enter Tryd.func30, Tryd.ntmps30
    go_wp2_with fail
    clear hlI
    go_loopw [17] (fun i wr => ∃ k : Nat, k ≤ D.length ∧ i = .int .i64 k ∧ Ext w wr ∧ ∀ j, j < k → D.getD j [] = E.getD j []) (fun i _ => D.length - (intOf i).toNat)
    case atStart => exact ⟨0, Nat.zero_le _, rfl, Ext.refl _, fun j hj => absurd hj (Nat.not_lt_zero _)⟩
    case round =>
      obtain ⟨k, hk, rfl, hX, ha⟩ := hrel
      have HX := Lib.hid hX
      have HA := Lib.hid ha
      have hk0 : (0 : Int) ≤ k := by omega
      clear hX ha
      by_cases hlt : k < D.length
      · have hlt' : (k : Int) < D.length := by omega
        have hlt2 : (k : Int) < E.length := by have := HLE.out; omega
        obtain ⟨b, o, A1, c1, hAb, z0, r0⟩ := (HD.out.ext HX.out).row k hlt
        obtain ⟨b', o', A2, c2, hAb', z1, r1⟩ := (HE.out.ext HX.out).row k (by rw [← HLE.out]; exact hlt)
        subst hAb hAb'
        have hw := HW.out k (by rw [← HLE.out]; exact hlt)
        obtain ⟨x, hx⟩ : ∃ x, D.getD k [] = x := ⟨_, rfl⟩
        obtain ⟨y, hy⟩ : ∃ y, E.getD k [] = y := ⟨_, rfl⟩
        rw [hx] at z0 r0
        rw [hy] at z1 r1 hw
        have HXY := Lib.hid (And.intro hx hy)
        have HF1 := Lib.hid (equalN x y A1 A2 c1 c2 wr r0 r1 hw)
        have lb1 : b < wr.heap.size := World.block_lt_of_cell? _ _ z0
        have lb2 : b' < wr.heap.size := World.block_lt_of_cell? _ _ z1
        obtain ⟨q, hq⟩ : ∃ q, decide (x = y) = q := ⟨_, rfl⟩
        rw [hq] at HF1
        have HQ := Lib.hid hq
        clear r0 r1 hx hy hq hw
        cases q with
        | true =>
          go_wp2_with fail
          refine HF1.out.mono ?_
          rintro ed w1 ⟨rfl, hE1⟩
          have HE1 := Lib.hid hE1
          clear hE1
          go_wp2_with fail
          go_roundw
          case rel => exact ⟨k + 1, by omega, by go_num, HX.out.trans HE1.out, fun j hj => by
            rcases Nat.lt_or_ge j k with h1 | h1
            · exact HA.out j h1
            · obtain rfl : j = k := by omega
              rw [HXY.out.1, HXY.out.2]; exact of_decide_eq_true HQ.out⟩
          case measure => simp [intOf]; omega
        | false =>
          have HR : Hid (decide (D = E) = false) := Lib.hid (decide_eq_false (fun h9 => of_decide_eq_false HQ.out (by rw [← HXY.out.1, ← HXY.out.2, h9])))
          go_wp2_with fail
          refine HF1.out.mono ?_
          rintro ed w1 ⟨rfl, hE1⟩
          have HE1 := Lib.hid hE1
          clear hE1
          go_wp2_with fail
          go_ret
          exact ⟨ret_bool HR.out.symm, HX.out.trans HE1.out⟩
      · obtain rfl : k = D.length := by omega
        have HR : Hid (decide (D = E) = true) := Lib.hid (decide_eq_true (lists_of_all D E HLE.out HA.out))
        go_wp2_with fail
        go_ret
        exact ⟨ret_bool HR.out.symm, HX.out⟩
  · have e : ((D.length : Int) != (E.length : Int)) = true := by rw [bne_iff_ne]; omega
    have HR : Hid (decide (D = E) = false) := Lib.hid (decide_eq_false (fun h => hl (by rw [h])))
    clear hl
    go_enter Tryd.func30, Tryd.ntmps30
    go_wp2_with fail
    go_ret
    exact ⟨ret_bool HR.out.symm, Ext.refl _⟩
end Go.Proofs.YtfkidgpjejcblaaDoor

/- Plain words: of each level the nearest place, found from the end to the beginning, twice. -/
namespace Go.Proofs.YtfkidgpjejcblaaDoor.Plain

/-- the first place from p on that is above a level; else b -/
def firstF (hs : List Int) (p l b : Nat) : Nat := ((List.range hs.length).find? (fun q => decide (p ≤ q) && decide ((l : Int) < hs.getD q 0))).getD b
theorem first_cases (hs : List Int) (p l : Nat) :
    (∃ q, p ≤ q ∧ q < hs.length ∧ (l : Int) < hs.getD q 0 ∧ (∀ j, p ≤ j → j < q → ¬ (l : Int) < hs.getD j 0) ∧ ∀ b, firstF hs p l b = q) ∨
    ((∀ j, p ≤ j → j < hs.length → ¬ (l : Int) < hs.getD j 0) ∧ ∀ b, firstF hs p l b = b) := by
  unfold firstF
  cases h : (List.range hs.length).find? (fun q => decide (p ≤ q) && decide ((l : Int) < hs.getD q 0)) with
  | none =>
    right
    rw [List.find?_eq_none] at h
    refine ⟨fun j hj hn hc => ?_, fun b => rfl⟩
    have h1 := h j (List.mem_range.2 hn)
    rw [decide_eq_true hj, decide_eq_true hc] at h1
    exact h1 rfl
  | some q =>
    left
    rw [List.find?_range_eq_some] at h
    obtain ⟨h1, h2, h3⟩ := h
    rw [Bool.and_eq_true, decide_eq_true_eq, decide_eq_true_eq] at h1
    refine ⟨q, h1.1, List.mem_range.1 h2, h1.2, fun j hj hq hc => ?_, fun b => rfl⟩
    have h4 := h3 j hq
    rw [decide_eq_true hj, decide_eq_true hc] at h4
    exact absurd h4 (by decide)
theorem first_step (hs : List Int) (p l b : Nat) (hp : p < hs.length) : firstF hs p l b = if (l : Int) < hs.getD p 0 then p else firstF hs (p + 1) l b := by
  by_cases hc : (l : Int) < hs.getD p 0
  · rw [if_pos hc]
    rcases first_cases hs p l with ⟨q, h1, h2, h3, h4, h5⟩ | ⟨h1, h2⟩
    · rw [h5]
      rcases Nat.lt_or_ge p q with h | h
      · exact absurd hc (h4 p (Nat.le_refl _) h)
      · omega
    · exact absurd hc (h1 p (Nat.le_refl _) hp)
  · rw [if_neg hc]
    rcases first_cases hs p l with ⟨q, h1, h2, h3, h4, h5⟩ | ⟨h1, h2⟩
    · rw [h5]
      have hpq : p ≠ q := fun e => hc (by rw [e]; exact h3)
      rcases first_cases hs (p + 1) l with ⟨r, k1, k2, k3, k4, k5⟩ | ⟨k1, k2⟩
      · rw [k5]
        rcases Nat.lt_trichotomy q r with h | h | h
        · exact absurd h3 (k4 q (by omega) h)
        · exact h
        · exact absurd k3 (h4 r (by omega) h)
      · exact absurd h3 (k1 q (by omega) h2)
    · rw [h2]
      rcases first_cases hs (p + 1) l with ⟨r, k1, k2, k3, k4, k5⟩ | ⟨k1, k2⟩
      · exact absurd k3 (h1 r (by omega) k2)
      · rw [k2]
theorem first_end (hs : List Int) (l b : Nat) : firstF hs hs.length l b = b := by
  rcases first_cases hs hs.length l with ⟨q, h1, h2, _⟩ | ⟨_, h2⟩
  · omega
  · exact h2 b
theorem first_next (hs : List Int) (p l : Nat) (hp : p < hs.length) (hl : (l : Int) < hs.getD p 0) : firstF hs (p + 1) l (firstF hs 0 l 0) = nextP hs p l := by
  have key : ∀ K, 1 ≤ K → K ≤ hs.length → (∀ j, 1 ≤ j → j < K → ¬ (l : Int) < hs.getD ((p + j) % hs.length) 0) → (l : Int) < hs.getD ((p + K) % hs.length) 0 → nextP hs p l = (p + K) % hs.length := fun K h1 h2 h3 h4 => by
    unfold nextP
    rw [farK_of (above hs p l) hs.length K h1 h2 (fun j a b => decide_eq_false (h3 j a b)) (decide_eq_true h4)]
  rcases first_cases hs (p + 1) l with ⟨q, h1, h2, h3, h4, h5⟩ | ⟨h1, h2⟩
  · rw [h5, key (q - p) (by omega) (by omega) (fun j a b => ?_) (by rw [show p + (q - p) = q by omega, Nat.mod_eq_of_lt h2]; exact h3), show p + (q - p) = q by omega, Nat.mod_eq_of_lt h2]
    rw [Nat.mod_eq_of_lt (by omega)]
    exact h4 _ (by omega) (by omega)
  · rw [h2]
    rcases first_cases hs 0 l with ⟨q, k1, k2, k3, k4, k5⟩ | ⟨k1, k2⟩
    · rw [k5]
      have hqp : q ≤ p := by
        rcases Nat.lt_or_ge p q with h | h
        · exact absurd hl (k4 p (Nat.zero_le _) h)
        · exact h
      have hm : (p + (hs.length - p + q)) % hs.length = q := by rw [show p + (hs.length - p + q) = q + hs.length by omega, Nat.add_mod_right, Nat.mod_eq_of_lt k2]
      rw [key (hs.length - p + q) (by omega) (by omega) (fun j a b => ?_) (by rw [hm]; exact k3), hm]
      rcases Nat.lt_or_ge (p + j) hs.length with h | h
      · rw [Nat.mod_eq_of_lt h]; exact h1 _ (by omega) h
      · rw [show p + j = p + j - hs.length + hs.length by omega, Nat.add_mod_right, Nat.mod_eq_of_lt (by omega)]
        exact k4 _ (Nat.zero_le _) (by omega)
    · exact absurd hl (k1 p (Nat.zero_le _) hp)

/-- of each level the nearest place from p on -/
def nearL (hs : List Int) (p : Nat) (f : Nat → Nat) : List Int := (List.range 8).map (fun l => (firstF hs p l (f l) : Int))
theorem nearL_len (hs : List Int) (p : Nat) (f : Nat → Nat) : (nearL hs p f).length = 8 := by simp [nearL]
theorem nearL_at (hs : List Int) (p : Nat) (f : Nat → Nat) (l : Nat) (hl : l < 8) : (nearL hs p f).getD l 0 = (firstF hs p l (f l) : Int) := by
  unfold nearL
  rw [List.getD_eq_getElem?_getD, List.getElem?_map, List.getElem?_range hl]; rfl
theorem list_of_at (a b : List Int) (h : a.length = b.length) (ha : ∀ j, j < a.length → a.getD j 0 = b.getD j 0) : a = b := by
  apply List.ext_getElem h
  intro j h1 h2
  have := ha j h1
  rw [List.getD_eq_getElem?_getD, List.getD_eq_getElem?_getD, List.getElem?_eq_getElem h1, List.getElem?_eq_getElem h2] at this
  exact this
theorem nearL_end (hs : List Int) (f : Nat → Nat) : nearL hs hs.length f = (List.range 8).map (fun l => (f l : Int)) := by
  unfold nearL
  apply List.map_congr_left
  intro l _
  rw [first_end]
/-- so many of the lowest levels set to p -/
def midN (X : List Int) (p : Int) (j : Nat) : List Int := List.replicate j p ++ X.drop j
theorem midN_len (X : List Int) (p : Int) (j : Nat) (hj : j ≤ X.length) : (midN X p j).length = X.length := by
  unfold midN
  rw [List.length_append, List.length_replicate, List.length_drop]; omega
theorem midN_zero (X : List Int) (p : Int) : midN X p 0 = X := by simp [midN]
theorem midN_at (X : List Int) (p : Int) (j i : Nat) : (midN X p j).getD i 0 = if i < j then p else X.getD i 0 := by
  unfold midN
  by_cases h : i < j
  · rw [if_pos h, List.getD_eq_getElem?_getD, List.getElem?_append_left (by simpa using h), List.getElem?_replicate, if_pos h]; rfl
  · rw [if_neg h, List.getD_eq_getElem?_getD, List.getElem?_append_right (by simpa using Nat.le_of_not_lt h), List.length_replicate, List.getElem?_drop, show j + (i - j) = i by omega, ← List.getD_eq_getElem?_getD]
theorem midN_set (X : List Int) (p : Int) (j : Nat) (hj : j < X.length) : (midN X p j).set j p = midN X p (j + 1) := by
  apply list_of_at
  · rw [List.length_set, midN_len _ _ _ (by omega), midN_len _ _ _ (by omega)]
  intro i hi
  rw [List.length_set, midN_len _ _ _ (by omega)] at hi
  rw [midN_at]
  by_cases h : j = i
  · subst h
    rw [List.getD_eq_getElem?_getD, List.getElem?_set_self (by rw [midN_len _ _ _ (by omega)]; exact hj), if_pos (by omega)]; rfl
  · rw [List.getD_eq_getElem?_getD, List.getElem?_set_ne h, ← List.getD_eq_getElem?_getD, midN_at]
    by_cases h2 : i < j
    · rw [if_pos h2, if_pos (by omega)]
    · rw [if_neg h2, if_neg (by omega)]
theorem near_step (hs : List Int) (p : Nat) (f : Nat → Nat) (hp : p < hs.length) (h1 : 1 ≤ hs.getD p 0) (h8 : hs.getD p 0 ≤ 8) : midN (nearL hs (p + 1) f) p (hs.getD p 0).toNat = nearL hs p f := by
  apply list_of_at
  · rw [midN_len _ _ _ (by rw [nearL_len]; omega), nearL_len, nearL_len]
  intro i hi
  rw [midN_len _ _ _ (by rw [nearL_len]; omega), nearL_len] at hi
  rw [midN_at, nearL_at _ _ _ _ hi, nearL_at _ _ _ _ hi, first_step hs p i (f i) hp]
  by_cases h : i < (hs.getD p 0).toNat
  · rw [if_pos h, if_pos (by omega)]
  · rw [if_neg h, if_neg (by omega)]
theorem near_row (hs : List Int) (p : Nat) (hp : p < hs.length) (h8 : hs.getD p 0 ≤ 8) : (nearL hs (p + 1) (fun l => firstF hs 0 l 0)).take (hs.getD p 0).toNat = nextsP hs p := by
  apply list_of_at
  · rw [List.length_take, nearL_len, nextsP_len]; omega
  intro i hi
  rw [List.length_take, nearL_len] at hi
  rw [List.getD_eq_getElem?_getD, List.getElem?_take_of_lt (by omega), ← List.getD_eq_getElem?_getD, nearL_at _ _ _ _ (by omega), nextsP_at _ _ _ (by omega)]
  rw [first_next hs p i hp (by omega)]
/-- the places, from the last one down -/
def downs (n j : Nat) : List Nat := (List.range j).map (fun i => n - 1 - i)
theorem downs_len (n j : Nat) : (downs n j).length = j := by simp [downs]
theorem downs_succ (n j : Nat) : downs n (j + 1) = downs n j ++ [n - 1 - j] := by simp [downs, List.range_succ]
/-- rows and nearest places, behind a round at each of these places -/
def stF (hs : List Int) (s : List (List Int) × List Int) (pre : List Nat) : List (List Int) × List Int :=
  pre.foldl (fun s p => (s.1.set p (s.2.take (hs.getD p 0).toNat), midN s.2 p (hs.getD p 0).toNat)) s
theorem stF_snoc (hs : List Int) (s : List (List Int) × List Int) (pre : List Nat) (p : Nat) :
    stF hs s (pre ++ [p]) = ((stF hs s pre).1.set p ((stF hs s pre).2.take (hs.getD p 0).toNat), midN (stF hs s pre).2 p (hs.getD p 0).toNat) := by
  unfold stF
  rw [List.foldl_append]; rfl
theorem stF_down (hs : List Int) (D : List (List Int)) (f : Nat → Nat) (hD : D.length = hs.length) (hh : ∀ j, j < hs.length → 1 ≤ hs.getD j 0 ∧ hs.getD j 0 ≤ 8) :
    ∀ j, j ≤ hs.length → (stF hs (D, nearL hs hs.length f) (downs hs.length j)).1.length = hs.length ∧ (stF hs (D, nearL hs hs.length f) (downs hs.length j)).2 = nearL hs (hs.length - j) f ∧
      ((∀ l, f l = firstF hs 0 l 0) → ∀ q, hs.length - j ≤ q → q < hs.length → (stF hs (D, nearL hs hs.length f) (downs hs.length j)).1.getD q [] = nextsP hs q) := by
  intro j
  induction j with
  | zero => exact fun _ => ⟨hD, rfl, fun _ q h1 h2 => by omega⟩
  | succ j ih =>
    intro hj
    obtain ⟨h1, h2, h3⟩ := ih (by omega)
    have hp : hs.length - j = (hs.length - 1 - j) + 1 := by omega
    have hq : hs.length - (j + 1) = hs.length - 1 - j := by omega
    obtain ⟨a1, a2⟩ := hh (hs.length - 1 - j) (by omega)
    rw [downs_succ, stF_snoc, h2, hq]
    refine ⟨by rw [List.length_set]; exact h1, by rw [hp]; exact near_step hs _ f (by omega) a1 a2, fun hf q q1 q2 => ?_⟩
    by_cases e : hs.length - 1 - j = q
    · subst e
      rw [List.getD_eq_getElem?_getD, List.getElem?_set_self (by rw [h1]; omega)]
      rw [hp, show f = fun l => firstF hs 0 l 0 from funext hf]
      exact near_row hs _ (by omega) a2
    · rw [List.getD_eq_getElem?_getD, List.getElem?_set_ne e, ← List.getD_eq_getElem?_getD]
      exact h3 hf q (by omega) q2
theorem stF_once (hs : List Int) (D : List (List Int)) (hD : D.length = hs.length) (hh : ∀ j, j < hs.length → 1 ≤ hs.getD j 0 ∧ hs.getD j 0 ≤ 8) :
    (stF hs (D, List.replicate 8 0) (downs hs.length hs.length)).1.length = hs.length ∧ (stF hs (D, List.replicate 8 0) (downs hs.length hs.length)).2 = nearL hs hs.length (fun l => firstF hs 0 l 0) := by
  have h0 : nearL hs hs.length (fun _ => 0) = List.replicate 8 (0 : Int) := by rw [nearL_end]; rfl
  obtain ⟨h1, h2, _⟩ := stF_down hs D (fun _ => 0) hD hh hs.length (Nat.le_refl _)
  rw [h0] at h1 h2
  refine ⟨h1, ?_⟩
  rw [h2, Nat.sub_self, nearL_end]; rfl
theorem stF_twice (hs : List Int) (D : List (List Int)) (hD : D.length = hs.length) (hh : ∀ j, j < hs.length → 1 ≤ hs.getD j 0 ∧ hs.getD j 0 ≤ 8) :
    (stF hs (D, nearL hs hs.length (fun l => firstF hs 0 l 0)) (downs hs.length hs.length)).1 = (List.range hs.length).map (nextsP hs) := by
  obtain ⟨h1, _, h3⟩ := stF_down hs D (fun l => firstF hs 0 l 0) hD hh hs.length (Nat.le_refl _)
  apply List.ext_getElem
  · rw [h1, List.length_map, List.length_range]
  intro j hj hj2
  have h4 := h3 (fun _ => rfl) j (by omega) (by omega)
  rw [List.getD_eq_getElem?_getD, List.getElem?_eq_getElem hj] at h4
  rw [List.getElem_map, List.getElem_range]
  exact h4
end Go.Proofs.YtfkidgpjejcblaaDoor.Plain

/- A region that draws its order, in the body of a range over a function (at the wide fence): by the plain law 'still, then a tail'. -/
namespace Go.Proofs.YtfkidgpjejcblaaDoor
open Go.RowKit

/-- no statement 'defer' -/
def NoDefer (o : Oper) : Bool := match o.op with | .defer _ => false | _ => true
theorem NoDefer.ne {o : Oper} (h : NoDefer o = true) : ∀ c, o.op ≠ .defer c := fun c e => by simp [NoDefer, e] at h

/-- what may be done of an operation outside may be done in a round -/
theorem round_op {P : Program} {Q : Exit → Act → World → Prop} {l n : Nat} {o : Oper} {a : Act} {w : World} {K K' : Act → World → Prop} (ho : NoDefer o = true) (hK : ∀ a w, K a w → K' a w) (h : o.wp P a w K Q) :
    o.wpIn (Fence.wide.inRound l) n P a w K' Q := by
  refine ⟨fun _ _ => trivial, ?_⟩
  rw [Oper.semAt_eq _ _ _ (NoDefer.ne ho)]
  unfold Oper.wp at h
  generalize (execOp a.eval o).run P w = r at *
  cases r with
  | ok x w' =>
    cases x with
    | value v => exact hK _ _ h
    | skip => exact hK _ _ h
    | defer d => exact hK _ _ h
    | enter f args =>
      refine ⟨fun e => by simp [Fence.wide] at e, ?_⟩
      refine CallsIn.inRound l (callsIn_wide.2 (Calls.mono h fun e w'' he => ?_))
      cases e <;> first | exact hK _ _ he | exact he
    | row row args =>
      refine ⟨fun e => by simp [Fence.wide] at e, fun c cs _ => ?_⟩
      obtain ⟨v, w'', r, s⟩ := h c cs
      exact ⟨v, w'', hK _ _ r, stepsIn_wide.2 s⟩
    | _ => exact h.elim
  | halt x w' => cases x <;> first | exact h | exact h.elim
theorem round_wpOp {P : Program} {Q : Exit → Act → World → Prop} {l n : Nat} {ops : Array Oper} (hnd : ops.all NoDefer = true) (hQ : ¬ LetsOut Q) {i : Nat} {K K' : Act → World → Prop} {a : Act} {w : World} (hK : ∀ a w, K a w → K' a w) (h : wpOp P ops Q i K a w) :
    wpOpIn (Fence.wide.inRound l) n P ops Q i K' a w := by
  unfold wpOp at h
  unfold wpOpIn
  cases ho : ops[i]? with
  | none => rw [ho] at h; exact hK _ _ h
  | some o =>
    rw [ho] at h
    have hd : NoDefer o = true := by
      obtain ⟨hi, rfl⟩ := Array.getElem?_eq_some_iff.1 ho
      exact Array.all_eq_true.1 hnd i hi
    by_cases hw : Region.wanted o (yielded ops a.tmps) = true
    · simp only [hw, if_true] at h ⊢
      rcases h with h | h
      · exact round_op hd hK h
      · exact absurd h.2 hQ
    · simp only [hw] at h ⊢
      exact ⟨fun _ _ => trivial, hK _ _ h⟩
theorem round_any {P : Program} {Q : Exit → Act → World → Prop} {l n : Nat} {md : Region.Mode} {ops : Array Oper} (hnd : ops.all NoDefer = true) (hQ : ¬ LetsOut Q) : ∀ (fuel : Nat) (listed : Array Bool) (a : Act) (w : World),
    wpAny P md ops Q fuel listed a w → wpAnyIn (Fence.wide.inRound l) n P md ops Q fuel listed a w := by
  intro fuel
  induction fuel with
  | zero => intro listed a w h; exact h
  | succ fuel ih => exact fun listed a w h => ⟨h.1, fun i hi => round_wpOp hnd hQ (fun a w => ih _ a w) (h.2 i hi)⟩
end Go.Proofs.YtfkidgpjejcblaaDoor

/- A region whose order is open, in the body of a range over a function: what each of its operations leaves is said once (Mono's law, at the round's fence). -/
namespace Go.Proofs.YtfkidgpjejcblaaDoor.Mono
open Go.RowKit Go.Proofs.YtfkidgpjejcblaaDoor
section
variable {P : Program} {l : List Oper} {m : Nat} {Q : Exit → Act → World → Prop} {a0 : Act} {w0 : World} {V : Nat → World → List Value → Value → Prop}
theorem any_region_mono (m : Nat) (V : Nat → World → List Value → Value → Prop) (hB : monoB l m = true)
    (hst : ∀ i w w' d v, V i w d v → Ext w w' → V i w' d v)
    (hop : ∀ i o, i < m → l[i]? = some o → ∀ (vals : Nat → Value) (w : World), Ext w0 w → (∀ j, (deps l i).contains j = true → V j w ((deps l j).map vals) (vals j)) →
      if Region.wanted o (yielded l.toArray (all vals (l.take m) 0 a0).tmps) = true
      then Yields P (fun v w' => Ext w w' ∧ V i w' ((deps l i).map vals) v) ((execOp (all vals (l.take m) 0 a0).eval o).run P w)
      else V i w ((deps l i).map vals) undef)
    (hend : ∀ (vals : Nat → Value) (w : World), Ext w0 w → (∀ j, j < m → V j w ((deps l j).map vals) (vals j)) → wpList P l.toArray Q (l.drop m) (all vals (l.take m) 0 a0) w) :
    wpAny P .any l.toArray Q l.toArray.size (Array.replicate l.toArray.size false) a0 { w0 with drawn := w0.drawn + 1 } := by
  have hml : m ≤ l.length := by
    unfold monoB at hB
    simp only [Bool.and_eq_true, decide_eq_true_eq] at hB
    exact hB.1
  refine (any_of_inv (Inv P l m Q a0 w0 V) (fun _ _ _ h => h.1) (step hB hst hop hend) (fun listed a w hI hr => ?_) _ _ _ _ ?_ ?_)
  · obtain ⟨hsz, hI⟩ := hI
    have hal := all_listed hB hsz hr
    rcases hI with ⟨vals, hE, htail, hdc, hV, ha⟩ | ⟨k, hmk, hkl, hiff, hw⟩
    · have hm' : m = l.length := by
        rcases Nat.lt_or_ge m l.length with h | h
        · have := hal m h
          rw [htail m (Nat.le_refl _)] at this; cases this
        · omega
      have hw := hend vals w hE (fun j hj => hV j hj (hal j (by omega)))
      rw [ha, sel_all _ _ _ (fun j _ hj => hal j (by simp at hj; omega))]
      rw [hm', List.drop_length] at hw
      rw [hm']
      exact hw
    · have hk : k = l.length := by
        rcases Nat.lt_or_ge k l.length with h | h
        · have := (hiff k h).1 (hal k h)
          omega
        · omega
      subst hk
      rw [List.drop_length] at hw
      exact hw
  · unfold count
    exact Nat.le_trans (List.length_filter_le (fun b => !b) (Array.replicate l.toArray.size false).toList) (by simp)
  · refine ⟨by simp, .inl ⟨fun _ => undef, (Ext.refl w0).drew, fun j _ => ?_, fun i hi => ?_, fun i _ hi => ?_, ?_⟩⟩
    · by_cases h : j < l.length <;> simp [h]
    · exfalso
      by_cases h : i < l.length <;> simp [h] at hi
    · exfalso
      by_cases h : i < l.length <;> simp [h] at hi
    · have : ∀ (r : List Oper) (k : Nat) (a : Act), sel (Array.replicate l.toArray.size false) (fun _ => undef) r k a = a := by
        intro r
        induction r with
        | nil => intro k a; rfl
        | cons o r ih =>
          intro k a
          simp only [sel]
          rw [if_neg (by by_cases h : k < l.length <;> simp [h])]
          exact ih _ _
      exact (this _ _ _).symm
theorem round_region_mono {id r k : Nat} (m : Nat) (V : Nat → World → List Value → Value → Prop) (hm : P.follows .mixedOrders = true) (hQ : ¬ LetsOut Q) (hnd : l.toArray.all NoDefer = true) (hB : monoB l m = true)
    (hst : ∀ i w w' d v, V i w d v → Ext w w' → V i w' d v)
    (hop : ∀ i o, i < m → l[i]? = some o → ∀ (vals : Nat → Value) (w : World), Ext w0 w → (∀ j, (deps l i).contains j = true → V j w ((deps l j).map vals) (vals j)) →
      if Region.wanted o (yielded l.toArray (all vals (l.take m) 0 a0).tmps) = true
      then Yields P (fun v w' => Ext w w' ∧ V i w' ((deps l i).map vals) v) ((execOp (all vals (l.take m) 0 a0).eval o).run P w)
      else V i w ((deps l i).map vals) undef)
    (hend : ∀ (vals : Nat → Value) (w : World), Ext w0 w → (∀ j, j < m → V j w ((deps l j).map vals) (vals j)) → wpList P l.toArray Q (l.drop m) (all vals (l.take m) 0 a0) w) :
    (Code.region id l.toArray true).wpIn (Fence.wide.inRound r) k P Q a0 w0 :=
  wpIn_region_any hm (round_any hnd hQ _ _ _ _ (any_region_mono m V hB hst hop hend))
end
end Go.Proofs.YtfkidgpjejcblaaDoor.Mono
