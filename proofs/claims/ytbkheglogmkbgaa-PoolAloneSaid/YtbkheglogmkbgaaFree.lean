/- The free cells of a pool as a set, and whether a handle is good. -/
import Derived.Test.YtbkheglogmkbgaaBase
namespace Go.Proofs.Ytbkheglogmkbgaa
open Go.RowKit Go.Proofs.Ytbkheglogmkbgaa.Plain

def FreeSaid (w : World) (gs xs : List Int) (e : Ending) (w' : World) : Prop :=
  Ext w w' ∧ ((rightB gs xs = false ∧ e = .returned (.tuple #[.map none, .bool false])) ∨ (rightB gs xs = true ∧ ∃ b, e = .returned (.tuple #[.map (some b), .bool true]) ∧ SetIs w' (.map (some b)) xs))

set_option maxHeartbeats 800000 in
theorem free_any (A B : Option Addr) (c d : Nat) (gs xs : List Int) (w : World) (h : Ints w (.slice A gs.length c) gs) (h' : Ints w (.slice B xs.length d) xs) :
    Calls Try.prog 15 #[.agg #[.slice A gs.length c, .slice B xs.length d]] w (FreeSaid w gs xs) := by
  have HG := Lib.hid h
  have HX := Lib.hid h'
  have hm1 := h.1
  have hm2 := h'.1
  unfold maxLen at hm1 hm2
  clear h h'
  have hmm := @run_makeMap Try.prog
  cases hs : sizedB gs.length with
  | false =>
    have HR : Hid (rightB gs xs = false) := Lib.hid (by unfold rightB; rw [hs]; rfl)
    go_enter Try.func15, Try.ntmps15
    go_wp2_with (go_at_call 13; refine (sized_any _ _ (by omega)).mono ?_; rintro e w' ⟨rfl, rfl⟩)
    go_ret2
    exact ⟨(Ext.refl w).alloc _, .inl ⟨HR.out, rfl⟩⟩
  | true =>
    cases ha : agedB gs with
    | false =>
      have HR : Hid (rightB gs xs = false) := Lib.hid (by unfold rightB; rw [ha]; simp)
      go_enter Try.func15, Try.ntmps15
      go_wp2_with (first | (go_at_call 13; refine (sized_any _ _ (by omega)).mono ?_; rintro e w' ⟨rfl, rfl⟩) | (go_at_call 18; refine (aged_any _ _ _ (HG.out.ext ((Ext.refl w).alloc _))).mono ?_; rintro e w' ⟨rfl, rfl⟩))
      go_ret2
      exact ⟨(Ext.refl w).alloc _, .inl ⟨HR.out, rfl⟩⟩
    | true =>
      have HR : Hid (rightB gs xs = freeB gs.length xs) := Lib.hid (by unfold rightB; rw [hs, ha]; simp)
      go_enter Try.func15, Try.ntmps15
      go_wp2_with (first | (go_at_call 13; refine (sized_any _ _ (by omega)).mono ?_; rintro e w' ⟨rfl, rfl⟩) | (go_at_call 18; refine (aged_any _ _ _ (HG.out.ext ((Ext.refl w).alloc _))).mono ?_; rintro e w' ⟨rfl, rfl⟩))
      clear hs ha
      go_loopw [26] (fun i wr => ∃ k : Nat, k ≤ xs.length ∧ i = .int .i64 k ∧ wr.ownsMap Try.prog 3 unitElem (w.heap.size + 1) k (setD (xs.take k)) ∧ freeB gs.length (xs.take k) = true ∧ Ext w wr ∧ w.heap.size + 1 < wr.heap.size)
        (fun i _ => xs.length - (intOf i).toNat)
      case atStart => exact ⟨0, Nat.zero_le _, rfl, by rw [List.take_zero, setD_nil]; simpa using World.ownsMap_made (w.alloc _) _ _ _, by simp [freeB], ((Ext.refl w).alloc _).alloc _, by simp⟩
      case round =>
        obtain ⟨k, hk, rfl, hown, hfr, hE, hsz⟩ := hrel
        have HF := Lib.hid hfr
        clear hfr
        by_cases hlt : k < xs.length
        · obtain ⟨b, off, rfl, hcc⟩ := HX.out.cells (by omega)
          have hcell := hE.cell (hcc k hlt)
          have hxb := HX.out.getD_bd k
          have hh := has_setD (xs.take k) (xs.getD k 0)
          have HS := Lib.hid (freeB_snoc gs.length xs k hlt HF.out)
          have HN := Lib.hid (freeB_no gs.length xs k hlt)
          have HD := Lib.hid (setD_snoc (xs.take k) (xs.getD k 0))
          have HT := Lib.hid (take_snoc xs k hlt)
          clear hcc
          generalize hg : xs.getD k 0 = g at *
          clear hg
          have hkey : keyOf Try.prog 3 (.int .i64 g) = some (.int .i64 g) := Maps.keyOf_int_mk Try.underlying3 (by simp [Lit.wf, IntKind.min, IntKind.max, IntKind.signed, IntKind.bits]; omega)
          by_cases hmem : g ∈ xs.take k
          · have H0 := Lib.hid (HN.out (.inl hmem))
            have hh1 : Maps.has (setD (xs.take k)) (.int .i64 g) = true := by rw [hh]; simpa using hmem
            clear hh hmem
            go_wp2_with (at_lookup; refine wpList_lookup_own_unit _ rfl _ _ 43 rfl 3 47 keyedInt Try.underlying43 (zeroUnit _) (w.heap.size + 1) k _ rfl hown _ _ rfl hkey ?_)
            go_ret2
            exact ⟨hE.alloc _, .inl ⟨HR.out.trans H0.out, rfl⟩⟩
          · have hh1 : Maps.has (setD (xs.take k)) (.int .i64 g) = false := by rw [hh]; simpa using hmem
            have HM := Lib.hid hmem
            clear hh hmem
            by_cases h1 : g < 0
            · have H0 := Lib.hid (HN.out (.inr (.inl h1)))
              go_wp2_with (at_lookup; refine wpList_lookup_own_unit _ rfl _ _ 43 rfl 3 47 keyedInt Try.underlying43 (zeroUnit _) (w.heap.size + 1) k _ rfl hown _ _ rfl hkey ?_)
              go_ret2
              exact ⟨hE.alloc _, .inl ⟨HR.out.trans H0.out, rfl⟩⟩
            · by_cases h2 : (gs.length : Int) ≤ g
              · have H0 := Lib.hid (HN.out (.inr (.inr h2)))
                go_wp2_with (at_lookup; refine wpList_lookup_own_unit _ rfl _ _ 43 rfl 3 47 keyedInt Try.underlying43 (zeroUnit _) (w.heap.size + 1) k _ rfl hown _ _ rfl hkey ?_)
                go_ret2
                exact ⟨hE.alloc _, .inl ⟨HR.out.trans H0.out, rfl⟩⟩
              · have H0 := Lib.hid (HS.out HM.out (by omega) (by omega))
                go_wp2_with (first
                  | (at_lookup; refine wpList_lookup_own_unit _ rfl _ _ 43 rfl 3 47 keyedInt Try.underlying43 (zeroUnit _) (w.heap.size + 1) k _ rfl hown _ _ rfl hkey ?_)
                  | (at_mapUpdate; refine wpList_mapUpdate_own _ rfl _ _ _ 43 rfl 3 47 keyedInt Try.underlying43 (unitElem (H := Unit)) (w.heap.size + 1) k _ rfl (hown.alloc _) (by unfold maxLen; omega) _ _ _ rfl rfl hkey _ [] unitElem_mk ?_; intro w1 hown1 hgrow1))
                go_roundw
                case rel =>
                  refine ⟨k + 1, by omega, by go_num, ?_, H0.out, (hE.alloc _).grown hgrow1 (fun j hj => by cases hj; omega), by have := hgrow1.size; simp at this; omega⟩
                  rw [HT.out, HD.out]; exact hown1
                case measure => simp [intOf]; omega
        · have H0 := Lib.hid (show rightB gs xs = true from by rw [HR.out, ← HF.out, List.take_of_length_le (by omega)])
          have HT := Lib.hid (show xs.take k = xs from List.take_of_length_le (by omega))
          go_wp2
          go_ret2
          refine ⟨hE, .inr ⟨H0.out, _, rfl, _, k, _, rfl, hown, fun c => ?_⟩⟩
          rw [has_setD, HT.out]

theorem free_no (A B : Option Addr) (c d : Nat) (gs xs : List Int) (w : World) (h : Ints w (.slice A gs.length c) gs) (h' : Ints w (.slice B xs.length d) xs) (hr : rightB gs xs = false) :
    Calls Try.prog 15 #[.agg #[.slice A gs.length c, .slice B xs.length d]] w fun e w' => e = .returned (.tuple #[.map none, .bool false]) ∧ Ext w w' :=
  (free_any A B c d gs xs w h h').mono fun e w' hh => by
    rcases hh with ⟨hE, ⟨_, he⟩ | ⟨h1, _⟩⟩
    · exact ⟨he, hE⟩
    · rw [hr] at h1; cases h1
theorem free_yes (A B : Option Addr) (c d : Nat) (gs xs : List Int) (w : World) (h : Ints w (.slice A gs.length c) gs) (h' : Ints w (.slice B xs.length d) xs) (hr : rightB gs xs = true) :
    Calls Try.prog 15 #[.agg #[.slice A gs.length c, .slice B xs.length d]] w fun e w' => ∃ b, e = .returned (.tuple #[.map (some b), .bool true]) ∧ SetIs w' (.map (some b)) xs ∧ Ext w w' :=
  (free_any A B c d gs xs w h h').mono fun e w' hh => by
    rcases hh with ⟨hE, ⟨h1, _⟩ | ⟨_, b, he, hs⟩⟩
    · rw [hr] at h1; cases h1
    · exact ⟨b, he, hs, hE⟩

set_option maxHeartbeats 800000 in
theorem right_any (A B : Option Addr) (c d : Nat) (gs xs : List Int) (w : World) (h : Ints w (.slice A gs.length c) gs) (h' : Ints w (.slice B xs.length d) xs) :
    Calls Try.prog 11 #[.agg #[.slice A gs.length c, .slice B xs.length d]] w fun e w' => e = .returned (.bool (rightB gs xs)) ∧ Ext w w' := by
  have HG := Lib.hid h
  have HX := Lib.hid h'
  clear h h'
  cases hr : rightB gs xs with
  | false =>
    have HR := Lib.hid hr
    clear hr
    go_enter Try.func11, Try.ntmps11
    go_wp2_with (go_at_call 15; refine (free_no _ _ _ _ _ _ _ (HG.out.ext ((Ext.refl w).alloc _)) (HX.out.ext ((Ext.refl w).alloc _)) HR.out).mono ?_; rintro e w1 ⟨rfl, hE⟩)
    go_ret
    exact ⟨rfl, ((Ext.refl w).alloc _).trans hE⟩
  | true =>
    have HR := Lib.hid hr
    clear hr
    go_enter Try.func11, Try.ntmps11
    go_wp2_with (go_at_call 15; refine (free_yes _ _ _ _ _ _ _ (HG.out.ext ((Ext.refl w).alloc _)) (HX.out.ext ((Ext.refl w).alloc _)) HR.out).mono ?_; rintro e w1 ⟨b, rfl, _, hE⟩)
    go_ret
    exact ⟨rfl, ((Ext.refl w).alloc _).trans hE⟩

set_option maxHeartbeats 800000 in
theorem good_any (A B : Option Addr) (c d : Nat) (gs xs : List Int) (m : Value) (hc hg : Int) (w : World) (h : Ints w (.slice A gs.length c) gs) (h' : SetIs w m xs)
    (bc : -9223372036854775808 ≤ hc ∧ hc ≤ 9223372036854775807) :
    Calls Try.prog 16 #[.agg #[.slice A gs.length c, .slice B xs.length d], m, .agg #[.int .i64 hc, .int .i64 hg]] w fun e w' => e = .returned (.bool (goodB gs xs hc hg)) ∧ Ext w w' := by
  have HG := Lib.hid h
  have hm1 := h.1
  unfold maxLen at hm1
  clear h
  obtain ⟨b, n, D, rfl, hown, hD⟩ := h'
  have hh := hD hc
  have HD := Lib.hid hD
  clear hD
  by_cases h1 : hc < 0
  · have HR : Hid (goodB gs xs hc hg = false) := Lib.hid (by unfold goodB; simp; omega)
    clear hh
    go_enter Try.func16, Try.ntmps16
    go_wp2
    go_ret
    exact ⟨ret_bool HR.out.symm, ((Ext.refl w).alloc _).alloc _⟩
  · by_cases h2 : (gs.length : Int) ≤ hc
    · have HR : Hid (goodB gs xs hc hg = false) := Lib.hid (by unfold goodB; simp; omega)
      clear hh
      go_enter Try.func16, Try.ntmps16
      go_wp2
      go_ret
      exact ⟨ret_bool HR.out.symm, ((Ext.refl w).alloc _).alloc _⟩
    · have hkey : keyOf Try.prog 3 (.int .i64 hc) = some (.int .i64 hc) := Maps.keyOf_int_mk Try.underlying3 (by simp [Lit.wf, IntKind.min, IntKind.max, IntKind.signed, IntKind.bits]; omega)
      by_cases hmem : hc ∈ xs
      · have HR : Hid (goodB gs xs hc hg = false) := Lib.hid (by unfold goodB; simp [hmem])
        have hh1 : Maps.has D (.int .i64 hc) = true := by rw [hh]; simpa using hmem
        clear hh hmem
        go_enter Try.func16, Try.ntmps16
        go_wp2_with (at_lookup; refine wpList_lookup_own_unit _ rfl _ _ 43 rfl 3 47 keyedInt Try.underlying43 (zeroUnit _) b n _ rfl ((hown.alloc _).alloc _) _ _ rfl hkey ?_)
        go_quiet (fail)
        go_wp2
        go_ret
        exact ⟨ret_bool HR.out.symm, ((((Ext.refl w).alloc _).alloc _).alloc _).drewN _⟩
      · have hh1 : Maps.has D (.int .i64 hc) = false := by rw [hh]; simpa using hmem
        obtain ⟨k, rfl⟩ : ∃ k : Nat, hc = k := ⟨hc.toNat, by omega⟩
        obtain ⟨b', off, rfl, hcc⟩ := HG.out.cells (by omega)
        have hlt : k < gs.length := by omega
        have hcell := hcc k hlt
        have hblt : b' < w.heap.size := World.block_lt_of_cell? _ _ hcell
        have hblt1 : b' < w.heap.size + 1 := by omega
        have hblt2 : b' < w.heap.size + 1 + 1 := by omega
        have HR : Hid (goodB gs xs (k : Int) hg = decide (gs.getD k 0 = hg)) := Lib.hid (by unfold goodB; simp [hmem, hlt])
        clear hh hcc hmem
        generalize hgg : gs.getD k 0 = g at *
        clear hgg
        go_enter Try.func16, Try.ntmps16
        go_wp2_with (at_lookup; refine wpList_lookup_own_unit _ rfl _ _ 43 rfl 3 47 keyedInt Try.underlying43 (zeroUnit _) b n _ rfl ((hown.alloc _).alloc _) _ _ rfl hkey ?_)
        go_quiet (fail)
        go_wp2
        go_ret
        exact ⟨ret_bool (by rw [HR.out]; rfl), ((((Ext.refl w).alloc _).alloc _).alloc _).drewN _⟩
end Go.Proofs.Ytbkheglogmkbgaa
