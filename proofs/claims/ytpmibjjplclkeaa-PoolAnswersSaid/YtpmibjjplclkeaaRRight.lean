/- The document's own answers: may a pool be? -/
import Derived.Test.YtpmibjjplclkeaaFree
import Derived.Laws.MakeOwn
namespace Go.Proofs.Ytpmibjjplclkeaa
open Go.RowKit Go.Proofs.Ytpmibjjplclkeaa.Plain

/-- the cells that were met, as marks -/
def Marks (w : World) (g n : Nat) (ys : List Int) : Prop :=
  g < w.heap.size ∧ (∀ j, j < n → w.cell? ⟨g, j, none⟩ = some (.bool (decide ((j : Int) ∈ ys)))) ∧ ∀ j, w.frozen? ⟨g, j, none⟩ = false
theorem Marks.set {w : World} {g n k : Nat} {ys : List Int} (h : Marks w g n ys) (hk : k < n) : Marks (w.setCell ⟨g, k, none⟩ (.bool true)) g n (ys ++ [(k : Int)]) := by
  refine ⟨by simpa using h.1, fun j hj => ?_, fun j => ?_⟩
  · by_cases e : j = k
    · subst e
      rw [World.cell?_setCell_same _ _ _ (h.2.1 j hj)]
      simp
    · rw [World.cell?_setCell_other _ _ _ _ (by intro h; cases h; exact e rfl), h.2.1 j hj]
      congr 2
      have : ¬ (j : Int) = (k : Int) := by omega
      simp [this]
  · rw [World.frozen?_setCell]; exact h.2.2 j

theorem boolInfo : (Try.prog.info? 4).map (fun i => (i.zero, i.size, i.bytes)) = some (some (.bool false), 1, 1) := by kernel_rfl
/-- make([]bool, n) -/
theorem run_mkb (n : Nat) (hn : n ≤ 1048576) (w : World) : (Instr.makeSlice 49 (.int .i64 n) (.int .i64 n)).run Try.prog w = .ok (.slice (some ⟨w.heap.size, 0, none⟩) n n) (w.alloc (.cells (Array.replicate n (.bool false)) 4)) := by
  obtain ⟨i0, hi, hz0, hz1, hz2⟩ := info_parts boolInfo
  have h := run_make (P := Try.prog) w 49 4 i0 (.bool false) Try.underlying49 hi hz0 .i64 .i64 n n (by omega) (by omega) (by rw [hz2]; omega) (by omega)
  simp only [Int.toNat_natCast] at h
  rw [h, hz1, Nat.mul_one]
  congr 3
  apply Array.toList_inj.1
  rw [show (Value.bool false).cells = #[Value.bool false] from rfl, toList_madeCells_one]
  simp
theorem Marks.new (w : World) (n : Nat) : Marks (w.alloc (.cells (Array.replicate n (.bool false)) 4)) w.heap.size n [] := by
  refine ⟨by simp, fun j hj => ?_, fun j => ?_⟩
  · rw [World.cell?_alloc_new]; simp [hj]
  · exact frozen_of_row _ _ j _ _ (heap_alloc_new w _)
theorem Marks.alloc {w : World} {g n : Nat} {ys : List Int} (h : Marks w g n ys) (o : Obj) : Marks (w.alloc o) g n ys :=
  ⟨by have := h.1; simp; omega, fun j hj => by rw [World.cell?_alloc_lt _ _ _ h.1]; exact h.2.1 j hj, fun j => by
    rw [Below.frozen (B := w.heap.size) ((Below.refl _ w).alloc (Nat.le_refl _) o) h.1]; exact h.2.2 j⟩

set_option maxHeartbeats 1600000 in
theorem rright_any (A B : Option Addr) (c d : Nat) (gs xs : List Int) (w : World) (h : Ints w (.slice A gs.length c) gs) (h' : Ints w (.slice B xs.length d) xs) :
    Calls Try.prog 17 #[.agg #[.slice A gs.length c, .slice B xs.length d]] w fun e w' => e = .returned (.bool (rightB gs xs)) ∧ Ext w w' := by
  have HG := Lib.hid h
  have HX := Lib.hid h'
  have hm1 := h.1
  have hm2 := h'.1
  unfold maxLen at hm1 hm2
  clear h h'
  by_cases h1 : gs.length < 1
  · have HR : Hid (rightB gs xs = false) := Lib.hid (by unfold rightB sizedB; rw [decide_eq_false (by omega)]; simp)
    go_enter Try.func17, Try.ntmps17
    go_wp2
    go_ret
    exact ⟨ret_bool HR.out.symm, (Ext.refl w).alloc _⟩
  · by_cases h2 : 1000 < gs.length
    · have HR : Hid (rightB gs xs = false) := Lib.hid (by unfold rightB sizedB; rw [decide_eq_false (show ¬ ((gs.length : Int) ≤ 1000) by omega)]; simp)
      go_enter Try.func17, Try.ntmps17
      go_wp2
      go_ret
      exact ⟨ret_bool HR.out.symm, (Ext.refl w).alloc _⟩
    · by_cases h3 : gs.length < xs.length
      · have HR : Hid (rightB gs xs = false) := Lib.hid (by
          unfold rightB
          cases hf : freeB gs.length xs with
          | false => simp
          | true => have := freeB_len _ _ hf; omega)
        go_enter Try.func17, Try.ntmps17
        go_wp2
        go_ret
        exact ⟨ret_bool HR.out.symm, (Ext.refl w).alloc _⟩
      · have HS : Hid (sizedB gs.length = true) := Lib.hid (by unfold sizedB; rw [decide_eq_true (show (1 : Int) ≤ (gs.length : Int) by omega), decide_eq_true (show (gs.length : Int) ≤ 1000 by omega)]; rfl)
        have hmk := run_mkb gs.length (by omega)
        have hlt0 : 0 < gs.length := by omega
        obtain ⟨b, off, rfl, hcc⟩ := HG.out.cells hlt0
        have HCC := Lib.hid hcc
        have hb0 : b < w.heap.size := World.block_lt_of_cell? _ _ (hcc 0 hlt0)
        clear hcc
        go_enter Try.func17, Try.ntmps17
        go_wp2
        go_loop [4] (fun i => ∃ k : Nat, k ≤ gs.length ∧ i = .int .i64 k ∧ agedB (gs.take k) = true) (fun i => gs.length - (intOf i).toNat)
        case atStart => exact ⟨0, Nat.zero_le _, rfl, by simp [agedB]⟩
        case round =>
          obtain ⟨k, hk, rfl, ha⟩ := hrel
          have HA := Lib.hid ha
          clear ha
          by_cases hlt : k < gs.length
          · have hcell := HCC.out k hlt
            have hno := Lib.hid (aged_false gs k hlt)
            have hsn := Lib.hid (aged_snoc gs k hlt HA.out)
            generalize hg : gs.getD k 0 = g at *
            clear hg
            by_cases n1 : g < 0
            · have HR : Hid (rightB gs xs = false) := Lib.hid (by unfold rightB; rw [hno.out (by unfold gOk; simp; omega)]; simp)
              go_wp2
              go_ret
              exact ⟨ret_bool HR.out.symm, (Ext.refl w).alloc _⟩
            · by_cases n2 : 1073741824 < g
              · have HR : Hid (rightB gs xs = false) := Lib.hid (by unfold rightB; rw [hno.out (by unfold gOk; simp; omega)]; simp)
                go_wp2
                go_ret
                exact ⟨ret_bool HR.out.symm, (Ext.refl w).alloc _⟩
              · have H0 := Lib.hid (hsn.out (by unfold gOk; simp; omega))
                go_wp2
                go_round
                case rel => exact ⟨k + 1, by omega, by go_num, H0.out⟩
                case measure => simp [intOf]; omega
          · have HR : Hid (rightB gs xs = freeB gs.length xs) := Lib.hid (by
              unfold rightB
              rw [HS.out, show agedB gs = true from by rw [← HA.out, List.take_of_length_le (by omega)]]; rfl)
            go_wp2
            clear hlt hk
            have hx1 : xs.length ≤ gs.length := by omega
            go_loopw [6] (fun i wr => ∃ k : Nat, k ≤ xs.length ∧ i = .int .i64 k ∧ freeB gs.length (xs.take k) = true ∧ Marks wr (w.heap.size + 1) gs.length (xs.take k) ∧ Ext (w.alloc (.cells #[.slice (some ⟨b, off, none⟩) gs.length c, .slice B xs.length d] 24)) wr)
              (fun i _ => xs.length - (intOf i).toNat)
            case atStart =>
              refine ⟨0, Nat.zero_le _, rfl, by simp [freeB], ?_, (Ext.refl _).alloc _⟩
              have := Marks.new (w.alloc (.cells #[.slice (some ⟨b, off, none⟩) gs.length c, .slice B xs.length d] 24)) gs.length
              simpa using this
            case round =>
              obtain ⟨k, hk, rfl, hf, hM, hE⟩ := hrel
              obtain ⟨hc1, hf1⟩ := bcell hE
              have HF := Lib.hid hf
              have HM := Lib.hid hM
              have HE := Lib.hid hE
              clear hf hM hE
              by_cases hlt : k < xs.length
              · obtain ⟨b', off', rfl, hcc'⟩ := HX.out.cells (by omega)
                have hcell := HE.out.cell (((Ext.refl w).alloc (.cells #[.slice (some ⟨b, off, none⟩) gs.length c, .slice (some ⟨b', off', none⟩) xs.length d] 24)).cell (hcc' k hlt))
                have hS := Lib.hid (freeB_snoc gs.length xs k hlt HF.out)
                have hN := Lib.hid (freeB_no gs.length xs k hlt)
                have hT := Lib.hid (take_snoc xs k hlt)
                clear hcc'
                generalize hg : xs.getD k 0 = g at *
                clear hg
                by_cases n1 : g < 0
                · have H0 := Lib.hid (hN.out (.inr (.inl n1)))
                  go_wp2
                  go_ret
                  exact ⟨ret_bool (by rw [HR.out, H0.out]), ((Ext.refl w).alloc _).trans HE.out⟩
                · by_cases n2 : (gs.length : Int) ≤ g
                  · have H0 := Lib.hid (hN.out (.inr (.inr n2)))
                    go_wp2
                    go_ret
                    exact ⟨ret_bool (by rw [HR.out, H0.out]), ((Ext.refl w).alloc _).trans HE.out⟩
                  · obtain ⟨q, rfl⟩ : ∃ q : Nat, g = q := ⟨g.toNat, by omega⟩
                    have hmc := HM.out.2.1 q (by omega)
                    have hmf := HM.out.2.2 q
                    by_cases hmem : (q : Int) ∈ xs.take k
                    · have H0 := Lib.hid (hN.out (.inl hmem))
                      rw [decide_eq_true hmem] at hmc
                      clear hmem
                      go_wp2
                      go_ret
                      exact ⟨ret_bool (by rw [HR.out, H0.out]), ((Ext.refl w).alloc _).trans HE.out⟩
                    · have H0 := Lib.hid (hS.out hmem (by omega) (by omega))
                      rw [decide_eq_false hmem] at hmc
                      clear hmem
                      go_wp2
                      go_roundw
                      case rel => exact ⟨k + 1, by omega, by go_num, H0.out, by rw [hT.out]; exact HM.out.set (by omega), HE.out.setCell (by simp) _⟩
                      case measure => simp [intOf]; omega
              · have H0 := Lib.hid (show freeB gs.length xs = true from by rw [← HF.out, List.take_of_length_le (by omega)])
                go_wp2
                go_ret
                exact ⟨ret_bool (by rw [HR.out, H0.out]), ((Ext.refl w).alloc _).trans HE.out⟩
end Go.Proofs.Ytpmibjjplclkeaa
