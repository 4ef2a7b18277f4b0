/- A pool is made. -/
import Derived.Test.YtbkheglogmkbgaaFree
import Derived.Laws.MakeOwn
namespace Go.Proofs.Ytbkheglogmkbgaa
open Go.RowKit Go.Proofs.Ytbkheglogmkbgaa.Plain

def MakeSaid (w : World) (n : Int) (e : Ending) (w' : World) : Prop :=
  ∃ A c B d, e = .returned (.tuple #[.agg #[.slice A (makeG n).length c, .slice B (makeX n).length d], .int .i64 (makeE n)]) ∧
    Ints w' (.slice A (makeG n).length c) (makeG n) ∧ Ints w' (.slice B (makeX n).length d) (makeX n) ∧ Ext w w'

theorem makeSaid_err {w w' : World} {n : Int} (hs : sizedB n = false) (hx : Ext w w') : MakeSaid w n (.returned (.tuple #[.agg #[.slice none 0 0, .slice none 0 0], .int .i64 1])) w' := by
  have h1 : makeG n = [] := by unfold makeG; rw [hs]; rfl
  have h2 : makeX n = [] := by unfold makeX; rw [hs]; rfl
  have h3 : makeE n = 1 := by unfold makeE; rw [hs]; rfl
  refine ⟨none, 0, none, 0, ?_, ?_, ?_, hx⟩
  · rw [h1, h2, h3]; rfl
  · rw [h1]; exact Ints.nil _ _ _
  · rw [h2]; exact Ints.nil _ _ _

/-- make([]int, n) -/
theorem run_mk (n : Nat) (hn : n ≤ 1048576) (w : World) : (Instr.makeSlice 24 (.int .i64 n) (.int .i64 n)).run Try.prog w = .ok (.slice (some ⟨w.heap.size, 0, none⟩) n n) (w.alloc (.cells ((List.replicate n (0 : Int)).map (Value.int .i64)).toArray 3)) := by
  obtain ⟨i0, hi, hz0, hz1, hz2⟩ := info_parts intInfo
  have h := run_make (P := Try.prog) w 24 3 i0 (.int .i64 0) Try.underlying24 hi hz0 .i64 .i64 n n (by omega) (by omega) (by rw [hz2]; omega) (by omega)
  simp only [Int.toNat_natCast] at h
  rw [h, hz1, Nat.mul_one]
  congr 3
  apply Array.toList_inj.1
  rw [show (Value.int IntKind.i64 0).cells = #[Value.int IntKind.i64 0] from rfl, toList_madeCells_one]
  simp

set_option maxHeartbeats 800000 in
theorem make_no (n : Int) (w : World) (hn : -9223372036854775808 ≤ n ∧ n ≤ 9223372036854775807) (hs : sizedB n = false) :
    Calls Try.prog 6 #[.int .i64 n] w (MakeSaid w n) := by
  have HS := Lib.hid hs
  clear hs
  go_enter Try.func6, Try.ntmps6
  go_wp2_with (go_at_call 13; refine (sized_any _ _ hn).mono ?_; rw [HS.out]; rintro e w1 ⟨rfl, rfl⟩)
  refine bodyPost_ret (v := .tuple #[.agg #[.slice none 0 0, .slice none 0 0], .int .i64 1]) (by simp [results, Try.results6, go_sem]) rfl (makeSaid_err HS.out ?_)
  exact (Ext.refl w).alloc _

set_option maxHeartbeats 800000 in
theorem make_yes (n : Nat) (w : World) (hs : sizedB n = true) (h1 : 1 ≤ n) (h2 : n ≤ 1000) :
    Calls Try.prog 6 #[.int .i64 n] w (MakeSaid w n) := by
  have HS := Lib.hid hs
  clear hs
  have hmk := run_mk n (by omega)
  go_enter Try.func6, Try.ntmps6
  go_wp2_with (go_at_call 13; refine (sized_any _ _ (by omega)).mono ?_; rw [HS.out]; rintro e w1 ⟨rfl, rfl⟩)
  go_loopw [13] (fun i wr => ∃ k : Nat, k ≤ n ∧ i = .int .i64 k ∧ Own (w.heap.size + 1) wr (.slice (some ⟨w.heap.size + 1, 0, none⟩) n n) (fillL n k) ∧
      Ext (w.alloc (.cells #[.slice none 0 0, .slice none 0 0] 26)) wr ∧ w.heap.size + 1 < wr.heap.size) (fun i _ => n - (intOf i).toNat)
  case atStart =>
    refine ⟨0, Nat.zero_le _, rfl, ?_, (Ext.refl _).alloc _, by simp⟩
    rw [fillL_zero]
    have h := Own.lit (w.alloc (.cells #[.slice none 0 0, .slice none 0 0] 26)) (List.replicate n 0) (B := w.heap.size + 1) (by simp) (by simp [maxLen]; omega) (by intro x hx; rw [List.mem_replicate] at hx; omega)
    simpa using h
  case round =>
    obtain ⟨k, hk, rfl, hown, hE, hz⟩ := hrel
    by_cases hlt : k < n
    · have hp := hown.pos (by rw [fillL_len]; omega)
      obtain ⟨g, hg, _, _, hcells, hfr, hset⟩ := hp
      cases hg
      have hc := hcells (n - 1 - k) (by rw [fillL_len]; omega)
      have hf := hfr (n - 1 - k)
      have hS := Lib.hid (hset (n - 1 - k) k (by rw [fillL_len]; omega) (by omega))
      have HE := Lib.hid hE
      clear hown hcells hfr hset hE
      obtain ⟨v0, hv0⟩ : ∃ v0, (fillL n k).getD (n - 1 - k) 0 = v0 := ⟨_, rfl⟩
      rw [hv0] at hc
      clear hv0
      have hi1 : 0 ≤ (n : Int) - 1 - (k : Int) := by omega
      have hi2 : (n : Int) - 1 - (k : Int) < (n : Int) := by omega
      have hi3 : ((n : Int) - 1 - (k : Int)).toNat = n - 1 - k := by omega
      go_wp2
      go_roundw
      case rel => exact ⟨k + 1, by omega, by go_num, by rw [← fillL_succ n k hlt]; exact hS.out, HE.out.setCell (by simp) _, by simpa using hz⟩
      case measure => simp [intOf]; omega
    · obtain ⟨hc1, hf1⟩ := bcell hE
      have HO := Lib.hid hown
      have HE := Lib.hid hE
      have l0 : w.heap.size < wr.heap.size := by omega
      have l1 : w.heap.size < wr.heap.size + 1 := by omega
      have l2 : w.heap.size ≠ wr.heap.size := by omega
      obtain rfl : n = k := by omega
      clear hown hE
      go_wp2
      have e1 : makeG n = List.replicate n 0 := by unfold makeG; rw [if_pos HS.out, Int.toNat_natCast]
      have e2 : makeX n = downFrom n := by unfold makeX; rw [if_pos HS.out, Int.toNat_natCast]
      have e3 : makeE n = 0 := by unfold makeE; rw [if_pos HS.out]
      have e4 : (makeG n).length = n := by rw [e1]; simp
      have e5 : (makeX n).length = n := by rw [e2, downFrom_len]
      refine bodyPost_ret (v := .tuple #[.agg #[.slice (some ⟨wr.heap.size, 0, none⟩) n n, .slice (some ⟨w.heap.size + 1, 0, none⟩) n n], .int .i64 0]) (by simp [results, Try.results6, go_sem, hc1, l0, l1, l2]) rfl
        ⟨some ⟨wr.heap.size, 0, none⟩, n, some ⟨w.heap.size + 1, 0, none⟩, n, ?_, ?_, ?_, ?_⟩
      · rw [e4, e5, e3]
      · rw [e4, e1]
        have h := Own.lit ((wr.setCell ⟨w.heap.size, 0, none⟩ (.slice (some ⟨wr.heap.size, 0, none⟩) n n)).setCell ⟨w.heap.size, 1, none⟩ (.slice (some ⟨w.heap.size + 1, 0, none⟩) n n)) (List.replicate n 0) (B := w.heap.size + 1) (by simp; omega) (by simp [maxLen]; omega) (by intro x hx; rw [List.mem_replicate] at hx; omega)
        simpa using h.ints
      · rw [e5, e2, ← fillL_full]
        exact (((HO.out.setBelow (p := ⟨w.heap.size, 0, none⟩) (by simp) (.slice (some ⟨wr.heap.size, 0, none⟩) n n)).setBelow (p := ⟨w.heap.size, 1, none⟩) (by simp) (.slice (some ⟨w.heap.size + 1, 0, none⟩) n n)).ext ((Ext.refl _).alloc _)).ints
      · exact (((((Ext.refl w).alloc _).trans HE.out).setCell (by simp) _).setCell (by simp) _).alloc _

theorem make_any (n : Int) (w : World) (hn : -9223372036854775808 ≤ n ∧ n ≤ 9223372036854775807) : Calls Try.prog 6 #[.int .i64 n] w (MakeSaid w n) := by
  cases hs : sizedB n with
  | false => exact make_no n w hn hs
  | true =>
    have h := hs
    unfold sizedB at h
    simp only [Bool.and_eq_true, decide_eq_true_eq] at h
    obtain ⟨k, rfl⟩ : ∃ k : Nat, n = k := ⟨n.toNat, by omega⟩
    exact make_yes k w hs (by omega) (by omega)
end Go.Proofs.Ytbkheglogmkbgaa
