/- The deque's Move. -/
import Derived.Test.YtfhkmaikilgolaaDeque
import Derived.Laws.Cover1
import Derived.Deep.RegionWith
import Derived.Deep.DeepCutAuto
namespace Go.Proofs.Ytfhkmaikilgolaa
open Go.RowKit Go.Proofs.Ytfhkmaikilgolaa.Plain

theorem clone_to (v : Value) (xs : List Int) (n : Nat) (w : World) (h : Ints w v xs) (hn : xs.length = n) (hl : xs.length ≤ 1048576) :
    Calls Try.prog 33 #[v] w fun e w' => ∃ A c, e = .returned (.slice A n c) ∧ Own w.heap.size w' (.slice A n c) xs ∧ Ext w w' := by
  subst hn
  exact clone_any v xs w h hl
theorem val_int {k : IntKind} {a b : Int} (h : a = b) : Value.int k a = .int k b := by rw [h]

set_option maxHeartbeats 1600000 in
set_option maxRecDepth 100000 in
theorem move_any (A B : Option Addr) (c d : Nat) (f t : List Int) (m : Int) (w : World) (h : Ints w (.slice A f.length c) f) (h' : Ints w (.slice B t.length d) t) (hf : f.length ≤ 4000) (ht : t.length ≤ 4000) (hm : -9223372036854775808 ≤ m ∧ m ≤ 9223372036854775807) :
    Calls Try.prog 26 #[.slice A f.length c, .slice B t.length d, .int .i64 m] w fun e w' => ∃ A c B d, e = .returned (.tuple #[.slice A (moveF f t m).length c, .slice B (moveT f t m).length d]) ∧ Ints w' (.slice A (moveF f t m).length c) (moveF f t m) ∧ Ints w' (.slice B (moveT f t m).length d) (moveT f t m) ∧ Ext w w' := by
  have HF := Lib.hid h
  have HT := Lib.hid h'
  clear h h'
  obtain ⟨N, hN⟩ : ∃ N, moveN f t m = N := ⟨_, rfl⟩
  have hN1 := moveN_from f t m
  rw [hN] at hN1
  obtain ⟨r, hr⟩ : ∃ r, roomN t.length = r := ⟨_, rfl⟩
  have HN : Hid ((N : Int) = max 0 (min (min m f.length) r)) := Lib.hid (by rw [← hN, ← hr]; unfold moveN; omega)
  have HR := Lib.hid hr
  have eF : Hid (moveF f t m = f.drop N) := Lib.hid (by unfold moveF; rw [hN])
  have eT : Hid (moveT f t m = t ++ f.take N) := Lib.hid (by unfold moveT; rw [hN])
  clear hN hr
  go_enter Try.func26, Try.ntmps26
  go_upto_region 1 with fail
  go_cut [8] (fun s wx => s = .int .i64 N ∧ wx = w)
  case first =>
    go_wp2_with (go_at_call 32; refine (room_any _ _ _ _ (by omega)).mono ?_; rw [HR.out]; rintro e w1 ⟨rfl, rfl⟩)
    all_goals (go_meet; exact ⟨val_int (by have := HN.out; omega), rfl⟩)
  case rest =>
    obtain ⟨rfl, rfl⟩ := hcut
    have hNm : (0 : Int) ≤ N := by omega
    have hcap : f.length ≤ c := by obtain ⟨_, _, A', c', he, hc', _⟩ := HF.out; cases he; exact hc'
    have hNc : (N : Int) ≤ c := by omega
    have hNf : (N : Int) ≤ f.length := by omega
    have HP := Lib.hid (HF.out.take N c hN1 (by omega))
    have eL : Hid ((f.take N).length = N) := Lib.hid (by rw [List.length_take]; omega)
    have eD : Hid ((f.drop N).length = f.length - N) := Lib.hid (by rw [List.length_drop])
    rcases A with _ | ad
    · have h0 : f.length = 0 := by
        rcases Nat.lt_or_ge 0 f.length with h | h
        · obtain ⟨b, off, he, _⟩ := HF.out.cells h; cases he
        · omega
      obtain rfl : f = [] := List.eq_nil_of_length_eq_zero h0
      obtain rfl : N = 0 := by simpa using hN1
      have HD : Hid ((([] : List Int).drop 0).length = 0) := Lib.hid rfl
      have HI : Hid (Ints wc (.slice none 0 c) (([] : List Int).drop 0)) := Lib.hid (Ints.nil _ _ _)
      clear h0 hcap hNc hNf hN1
      go_wp2
      go_region_with (first
        | (go_at_call 33
           refine (clone_to _ (([] : List Int).drop 0) _ _ (HI.out.ext (by first | exact (Ext.refl _).drew | exact ((Ext.refl _).alloc _).drew)) HD.out (by rw [eD.out]; omega)).mono ?_
           rintro e w1 ⟨A1, c1, rfl, ho1, hE1⟩)
        | (go_at_call 34
           refine (concat_any _ _ _ _ t (([] : List Int).take 0) _ (by first | (go_simp; done) | exact hE1.cell (by go_simp)) (by first | (go_simp; done) | exact hE1.cell (by go_simp)) (HT.out.ext (by first | exact (((Ext.refl _).alloc _).drew.trans hE1) | exact (((Ext.refl _).drew.trans hE1).alloc _))) (HP.out.ext (by first | exact (((Ext.refl _).alloc _).drew.trans hE1) | exact (((Ext.refl _).drew.trans hE1).alloc _))) (by rw [eL.out]; omega)).mono ?_
           rintro e w2 ⟨v2, rfl, ho2, hE2⟩))
      all_goals
        go_wp2
        obtain ⟨A2, c2, rfl⟩ := ho2.slice
        go_ret2
        rw [eF.out, eT.out, HD.out]
        exact ⟨_, _, _, _, rfl, by first | exact ho1.ints.ext hE2 | exact ho1.ints.ext (((Ext.refl _).alloc _).trans hE2), ho2.ints, by first | exact ((((Ext.refl _).alloc _).drew.trans hE1).trans hE2) | exact ((((Ext.refl _).drew.trans hE1).alloc _).trans hE2)⟩
    · by_cases hc1 : c = N
      · obtain rfl : N = f.length := by omega
        have HD : Hid ((f.drop f.length).length = 0) := Lib.hid (by simp)
        have HI : Hid (Ints wc (.slice (some ad) 0 0) (f.drop f.length)) := Lib.hid (by rw [List.drop_length]; exact Ints.nil _ _ _)
        subst hc1
        go_wp2
        go_region_with (first
          | (go_at_call 33
             refine (clone_to _ (f.drop f.length) _ _ (HI.out.ext (by first | exact (Ext.refl _).drew | exact ((Ext.refl _).alloc _).drew)) HD.out (by rw [eD.out]; omega)).mono ?_
             rintro e w1 ⟨A1, c1, rfl, ho1, hE1⟩)
          | (go_at_call 34
             refine (concat_any _ _ _ _ t (f.take f.length) _ (by first | (go_simp; done) | exact hE1.cell (by go_simp)) (by first | (go_simp; done) | exact hE1.cell (by go_simp)) (HT.out.ext (by first | exact (((Ext.refl _).alloc _).drew.trans hE1) | exact (((Ext.refl _).drew.trans hE1).alloc _))) (HP.out.ext (by first | exact (((Ext.refl _).alloc _).drew.trans hE1) | exact (((Ext.refl _).drew.trans hE1).alloc _))) (by rw [eL.out]; omega)).mono ?_
             rintro e w2 ⟨v2, rfl, ho2, hE2⟩))
        all_goals
          go_wp2
          obtain ⟨A2, c2, rfl⟩ := ho2.slice
          go_ret2
          rw [eF.out, eT.out, HD.out]
          exact ⟨_, _, _, _, rfl, by first | exact ho1.ints.ext hE2 | exact ho1.ints.ext (((Ext.refl _).alloc _).trans hE2), ho2.ints, by first | exact ((((Ext.refl _).alloc _).drew.trans hE1).trans hE2) | exact ((((Ext.refl _).drew.trans hE1).alloc _).trans hE2)⟩
      · have HI := Lib.hid (HF.out.dropAdd N (f.length - N) (c - N) rfl (by omega))
        have HD := eD
        go_wp2
        go_region_with (first
          | (go_at_call 33
             refine (clone_to _ (f.drop N) _ _ (HI.out.ext (by first | exact (Ext.refl _).drew | exact ((Ext.refl _).alloc _).drew)) HD.out (by rw [eD.out]; omega)).mono ?_
             rintro e w1 ⟨A1, c1, rfl, ho1, hE1⟩)
          | (go_at_call 34
             refine (concat_any _ _ _ _ t (f.take N) _ (by first | (go_simp; done) | exact hE1.cell (by go_simp)) (by first | (go_simp; done) | exact hE1.cell (by go_simp)) (HT.out.ext (by first | exact (((Ext.refl _).alloc _).drew.trans hE1) | exact (((Ext.refl _).drew.trans hE1).alloc _))) (HP.out.ext (by first | exact (((Ext.refl _).alloc _).drew.trans hE1) | exact (((Ext.refl _).drew.trans hE1).alloc _))) (by rw [eL.out]; omega)).mono ?_
             rintro e w2 ⟨v2, rfl, ho2, hE2⟩))
        all_goals
          go_wp2
          obtain ⟨A2, c2, rfl⟩ := ho2.slice
          go_ret2
          rw [eF.out, eT.out, HD.out]
          exact ⟨_, _, _, _, rfl, by first | exact ho1.ints.ext hE2 | exact ho1.ints.ext (((Ext.refl _).alloc _).trans hE2), ho2.ints, by first | exact ((((Ext.refl _).alloc _).drew.trans hE1).trans hE2) | exact ((((Ext.refl _).drew.trans hE1).alloc _).trans hE2)⟩
end Go.Proofs.Ytfhkmaikilgolaa
