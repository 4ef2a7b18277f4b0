/- The document's own answers: a pool is made. -/
import Derived.Test.YtpmibjjplclkeaaMake
namespace Go.Proofs.Ytpmibjjplclkeaa
open Go.RowKit Go.Proofs.Ytpmibjjplclkeaa.Plain

theorem grow_cell' {w w' : World} {row : Option Nat} (hg : w.grownBy w' row) {b : Nat} (hb : b < w.heap.size) (hne : some b ≠ row) :
    (∀ o, w'.cell? ⟨b, o, none⟩ = w.cell? ⟨b, o, none⟩) ∧ (∀ o, w'.frozen? ⟨b, o, none⟩ = w.frozen? ⟨b, o, none⟩) :=
  ⟨fun o => World.cell?_of_block (a := ⟨b, o, none⟩) (hg.block b hb hne), fun o => World.frozen?_of_block (a := ⟨b, o, none⟩) (hg.block b hb hne)⟩

theorem hp_new' {w : World} {o : Obj} {k : Nat} (h : k = w.heap.size) : (w.alloc o).heap[k]? = some o := by subst h; exact heap_alloc_new w o

set_option maxHeartbeats 800000 in
theorem rmake_no (n : Int) (w : World) (hn : n < 1 ∨ 1000 < n) (hs : sizedB n = false) :
    Calls Try.prog 14 #[.int .i64 n] w (MakeSaid w n) := by
  have HS := Lib.hid hs
  clear hs
  rcases hn with h | h
  · go_enter Try.func14, Try.ntmps14
    go_wp2
    refine bodyPost_ret (v := .tuple #[.agg #[.slice none 0 0, .slice none 0 0], .int .i64 1]) (by simp [results, Try.results14, go_sem]) rfl (makeSaid_err HS.out ?_)
    exact (Ext.refl w).alloc _
  · have h' : decide (n < 1) = false := decide_eq_false (by omega)
    go_enter Try.func14, Try.ntmps14
    go_wp2
    refine bodyPost_ret (v := .tuple #[.agg #[.slice none 0 0, .slice none 0 0], .int .i64 1]) (by simp [results, Try.results14, go_sem]) rfl (makeSaid_err HS.out ?_)
    exact (Ext.refl w).alloc _

set_option maxHeartbeats 1600000 in
theorem rmake_yes (n : Nat) (w : World) (hs : sizedB n = true) (h1 : 1 ≤ n) (h2 : n ≤ 1000) :
    Calls Try.prog 14 #[.int .i64 n] w (MakeSaid w n) := by
  have HS := Lib.hid hs
  clear hs
  have hmk := run_mk n (by omega)
  have n1 : ¬ (n : Int) < 1 := by omega
  have n2 : ¬ (1000 : Int) < n := by omega
  go_enter Try.func14, Try.ntmps14
  go_wp2
  go_loopw [5] (fun i wr => ∃ (k : Nat) (A : Option Addr) (c : Nat), k ≤ n ∧ i = .int .i64 ((n : Int) - 1 - k) ∧ wr.cell? ⟨w.heap.size + 1 + 1, 0, none⟩ = some (.slice (some ⟨w.heap.size + 1, 0, none⟩) n n) ∧
      wr.cell? ⟨w.heap.size + 1 + 1, 1, none⟩ = some (.slice A k c) ∧ (∀ o, wr.frozen? ⟨w.heap.size + 1 + 1, o, none⟩ = false) ∧ Own (w.heap.size + 1) wr (.slice (some ⟨w.heap.size + 1, 0, none⟩) n n) (List.replicate n 0) ∧
      Own (w.heap.size + 1 + 1 + 1) wr (.slice A k c) ((downFrom n).take k) ∧ Ext (w.alloc (.cells #[.slice none 0 0, .slice none 0 0] 24)) wr ∧ w.heap.size + 1 + 1 < wr.heap.size) (fun i _ => (intOf i + 1).toNat)
  case atStart =>
    refine ⟨0, none, 0, Nat.zero_le _, by congr 1; omega, (cell_of_row _ _ 0 _ _ _ (hp_new' (by simp))).trans rfl, (cell_of_row _ _ 1 _ _ _ (hp_new' (by simp))).trans rfl, fun o => ?_, ?_, ?_, ?_, by simp⟩
    · exact frozen_of_row _ _ o _ _ (hp_new' (by simp))
    · have h := (Own.lit (w.alloc (.cells #[.slice none 0 0, .slice none 0 0] 24)) (List.replicate n 0) (B := w.heap.size + 1) (by simp) (by simp [maxLen]; omega) (by intro x hx; rw [List.mem_replicate] at hx; omega)).ext ((Ext.refl _).alloc (.cells #[.slice (some ⟨w.heap.size + 1, 0, none⟩) n n, .slice none 0 0] 24))
      simpa using h
    · rw [List.take_zero]; exact Own.nil _ _
    · exact ((Ext.refl _).alloc _).alloc _
  case round =>
    obtain ⟨k, A, c, hk, rfl, k0, k1, k2, ho1, ho2, hE, hz⟩ := hrel
    obtain ⟨hc1, hf1⟩ := bcell hE
    have hz0 : w.heap.size < wr.heap.size := by omega
    have HO1 := Lib.hid ho1
    have HO2 := Lib.hid ho2
    have HE := Lib.hid hE
    have hlen : ((downFrom n).take k).length = k := by rw [List.length_take, downFrom_len]; omega
    have HL := Lib.hid hlen
    clear ho1 ho2 hE
    by_cases hlt : k < n
    · have hi0 : (0 : Int) ≤ (n : Int) - 1 - (k : Int) := by omega
      have hT := Lib.hid (downFrom_take n k hlt)
      have hcast : Hid (((n - 1 - k : Nat) : Int) = (n : Int) - 1 - (k : Int)) := Lib.hid (by omega)
      have hO2 := Lib.hid (HO2.out.ext ((Ext.refl wr).alloc (.cells #[.int .i64 ((n : Int) - 1 - (k : Int))] 3)))
      have hlt2 := HO2.out.lt
      have q1 : some (w.heap.size + 1 + 1) ≠ Value.ownBlock (.slice A k c) := fun e => by have := hlt2 _ e.symm; omega
      have q2 : ∀ j, Value.ownBlock (.slice A k c) = some j → w.heap.size + 1 + 1 < j := fun j e => by have := hlt2 _ e; omega
      have Q1 := Lib.hid q1
      have Q2 := Lib.hid q2
      have hz1 : w.heap.size + 1 + 1 < wr.heap.size + 1 := by omega
      have HLL : Hid ((List.take k (downFrom n) ++ [(n : Int) - 1 - (k : Int)]).length = k + 1) := Lib.hid (by rw [List.length_append, hlen]; rfl)
      clear hlt2 q1 q2 hlen
      go_wp2_with (at_builtin; refine wpList_app rfl _ _ rfl rfl _ _ ((downFrom n).take k) rfl hO2.out _ [(n : Int) - 1 - (k : Int)] rfl (Ints.one wr _ 1 (Nat.le_refl _) (by omega)) (by rw [HL.out]; simp; omega) (by simp; omega) ?_; intro u w4 hown hgrow hat; obtain ⟨A5, c5, hu, _⟩ := hown.shape; rw [HLL.out] at hu; subst hu; obtain ⟨g1, g2⟩ := grow_cell' hgrow (by simp; omega) Q1.out; have HOW := Lib.hid hown; have HGR := Lib.hid hgrow; clear hown hgrow hat)
      go_roundw
      case rel =>
        have e2 : List.take (k + 1) (downFrom n) = List.take k (downFrom n) ++ [(n : Int) - 1 - (k : Int)] := by rw [hT.out, hcast.out]
        refine ⟨k + 1, A5, c5, by omega, by congr 1; omega, ?_, ?_, fun o => ?_, ?_, ?_, ?_, ?_⟩
        · rw [World.cell?_setCell_other _ _ _ _ (by intro h; cases h), g1, World.cell?_alloc_lt _ _ _ hz]; exact k0
        · exact World.cell?_setCell_same _ _ _ ((g1 1).trans ((World.cell?_alloc_lt _ _ _ hz).trans k1))
        · rw [World.frozen?_setCell, g2, Below.frozen (B := wr.heap.size) ((Below.refl _ wr).alloc (Nat.le_refl _) _) hz]; exact k2 o
        · exact ((HO1.out.ext ((Ext.refl wr).alloc _)).kept HGR.out (.inr (fun e => by have := Q2.out (w.heap.size + 1) e.symm; omega))).setOther (by simp [Value.ownBlock]) _
        · rw [e2]
          exact HOW.out.setBelow (by simp) _
        · exact ((HE.out.alloc _).grown HGR.out (fun j hj => by have := Q2.out j hj; simp; omega)).setCell (by simp) _
        · have := HGR.out.size
          simp at this ⊢
          omega
      case measure => simp [intOf]; omega
    · have hi0 : ¬ (0 : Int) ≤ (n : Int) - 1 - (k : Int) := by omega
      obtain rfl : n = k := by omega
      have e1 : makeG n = List.replicate n 0 := by unfold makeG; rw [if_pos HS.out, Int.toNat_natCast]
      have e2 : makeX n = downFrom n := by unfold makeX; rw [if_pos HS.out, Int.toNat_natCast]
      have e3 : makeE n = 0 := by unfold makeE; rw [if_pos HS.out]
      have e4 : (makeG n).length = n := by rw [e1]; simp
      have e5 : (makeX n).length = n := by rw [e2, downFrom_len]
      have HH := Lib.hid (And.intro e1 (And.intro e2 (And.intro e3 (And.intro e4 e5))))
      clear hlen e1 e2 e3 e4 e5
      go_wp2
      obtain ⟨e1, e2, e3, e4, e5⟩ := HH.out
      refine bodyPost_ret (v := .tuple #[.agg #[.slice (some ⟨w.heap.size + 1, 0, none⟩) n n, .slice A n c], .int .i64 0]) (by simp [results, Try.results14, go_sem, hc1, hz0]) rfl
        ⟨some ⟨w.heap.size + 1, 0, none⟩, n, A, c, ?_, ?_, ?_, ?_⟩
      · rw [e4, e5, e3]
      · rw [e4, e1]
        have h := (HO1.out.setBelow (p := ⟨w.heap.size, 0, none⟩) (by simp) (.slice (some ⟨w.heap.size + 1, 0, none⟩) n n)).setBelow (p := ⟨w.heap.size, 1, none⟩) (by simp) (.slice A n c)
        exact h.ints
      · rw [e5, e2]
        have h := (HO2.out.setBelow (p := ⟨w.heap.size, 0, none⟩) (by simp; omega) (.slice (some ⟨w.heap.size + 1, 0, none⟩) n n)).setBelow (p := ⟨w.heap.size, 1, none⟩) (by simp; omega) (.slice A n c)
        have e6 : List.take n (downFrom n) = downFrom n := List.take_of_length_le (by rw [downFrom_len]; exact Nat.le_refl _)
        rw [e6] at h
        exact h.ints
      · exact ((((Ext.refl w).alloc _).trans HE.out).setCell (by simp) _).setCell (by simp) _

theorem rmake_any (n : Int) (w : World) (hn : -9223372036854775808 ≤ n ∧ n ≤ 9223372036854775807) : Calls Try.prog 14 #[.int .i64 n] w (MakeSaid w n) := by
  cases hs : sizedB n with
  | false =>
    refine rmake_no n w ?_ hs
    unfold sizedB at hs
    simp only [Bool.and_eq_false_iff, decide_eq_false_iff_not] at hs
    omega
  | true =>
    have h := hs
    unfold sizedB at h
    simp only [Bool.and_eq_true, decide_eq_true_eq] at h
    obtain ⟨k, rfl⟩ : ∃ k : Nat, n = k := ⟨n.toNat, by omega⟩
    exact rmake_yes k w hs (by omega) (by omega)
end Go.Proofs.Ytpmibjjplclkeaa
