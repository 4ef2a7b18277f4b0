/- The walk of DequeMoves. -/
import Derived.Test.YtfhkmaikilgolaaDAnswers
import Derived.Deep.RegionLaw
namespace Go.Proofs.Ytfhkmaikilgolaa
open Go.RowKit Go.Proofs.Ytfhkmaikilgolaa.Plain

theorem moveN_small (f t : List Int) (x : Int) (h0 : 0 ≤ x) (h1 : x ≤ 255) (ht : t.length ≤ 300) : (moveN f t x : Int) = min x f.length := by
  unfold moveN roomN; omega
theorem own_empty (w : World) {B : Nat} (hB : B ≤ w.heap.size) : Own B (w.alloc (.cells #[] 3)) (.slice (some ⟨w.heap.size, 0, none⟩) 0 0) [] := Own.made w #[] 0 hB (by simp) rfl

set_option maxHeartbeats 3200000 in
set_option maxRecDepth 100000 in
theorem dmoves_walk (A B : Option Addr) (c d : Nat) (f t : List Int) (x : Int) (w : World) (h : Ints w (.slice A f.length c) f) (h' : Ints w (.slice B t.length d) t) (hf : f.length ≤ 300) (ht : t.length ≤ 300) (hx0 : 0 ≤ x) (hx1 : x ≤ 255) :
    Calls Try.prog 7 #[.slice A f.length c, .slice B t.length d, .int .u8 x] w fun e w' => e = .returned (.bool true) ∧ Ext w w' := by
  have H := Lib.hid h
  have H' := Lib.hid h'
  have hq0 : (f.length : Int) ≤ 300 := by omega
  have hq1 : (t.length : Int) ≤ 300 := by omega
  obtain ⟨N, hN⟩ : ∃ N, moveN f t x = N := ⟨_, rfl⟩
  have hN1 := moveN_from f t x
  have hN2 := moveN_small f t x hx0 hx1 ht
  rw [hN] at hN1 hN2
  have HN := Lib.hid hN2
  have eF : Hid (moveF f t x = f.drop N) := Lib.hid (by unfold moveF; rw [hN])
  have eT : Hid (moveT f t x = t ++ f.take N) := Lib.hid (by unfold moveT; rw [hN])
  have hcap : f.length ≤ c := by obtain ⟨_, _, A', c', he, hc', _⟩ := h; cases he; exact hc'
  clear h h' hN hN2
  go_enter Try.func7, Try.ntmps7
  go_wp2_with fail
  refine (dalive_any _).mono ?_
  rintro e w0 ⟨rfl, hE⟩
  have E0 := Lib.hid hE
  have I := Lib.hid (H.out.ext hE)
  have I' := Lib.hid (H'.out.ext hE)
  clear hE
  go_wp2_with (first | (at_builtin; refine wpList_app rfl (.tmp 22) (.tmp 23) rfl rfl w0.heap.size _ [] rfl (own_empty w0 (Nat.le_refl _)) _ f rfl (I.out.ext ((Ext.refl w0).alloc _)) (by simp; omega) (by simp) ?_; intro va w1 hown1 hgrow1 hat1; have hE1 := ((Ext.refl w0).alloc _).grown hgrow1 (fun k hk => by cases hk; exact Nat.le_refl _); simp only [List.nil_append] at hown1) | (at_builtin; refine wpList_app rfl (.tmp 25) (.tmp 26) rfl rfl w1.heap.size _ [] rfl (own_empty w1 (Nat.le_refl _)) _ t rfl (I'.out.ext (hE1.alloc _)) (by simp; omega) (by simp) ?_; intro vb w2 hown2 hgrow2 hat2; have hE2 := ((Ext.refl w1).alloc _).grown hgrow2 (fun k hk => by cases hk; exact Nat.le_refl _); simp only [List.nil_append] at hown2))
  have E2 := Lib.hid ((E0.out.trans hE1).trans hE2)
  have I := Lib.hid ((I.out.ext hE1).ext hE2)
  have I' := Lib.hid ((I'.out.ext hE1).ext hE2)
  have VA := Lib.hid (hown1.ints.ext hE2)
  have VB := Lib.hid hown2.ints
  clear hown1 hown2 hgrow1 hgrow2 hat1 hat2 hE1 hE2 E0
  refine (move_v _ _ f t x _ VA.out VB.out (by omega) (by omega) (by omega)).mono ?_
  rintro e w3 ⟨vf, vt, rfl, hi, hj, hE⟩
  have E3 := Lib.hid (E2.out.trans hE)
  have I := Lib.hid (I.out.ext hE)
  have I' := Lib.hid (I'.out.ext hE)
  have VA := Lib.hid (VA.out.ext hE)
  have VB := Lib.hid (VB.out.ext hE)
  rw [eF.out] at hi
  rw [eT.out] at hj
  have VF := Lib.hid hi
  have VT := Lib.hid hj
  clear hi hj hE E2 H H'
  go_upto_region 7 with fail
  go_cut [11] (fun s wx => s = .int .i64 N ∧ wx = w3)
  case first =>
    go_wp2
    all_goals (go_meet; exact ⟨val_int (by have := HN.out; omega), rfl⟩)
  case rest =>
    obtain ⟨rfl, rfl⟩ := hcut
    have hNm : (0 : Int) ≤ N := by omega
    have hNc : (N : Int) ≤ c := by omega
    have hNf : (N : Int) ≤ f.length := by omega
    have HP := Lib.hid (I.out.take N c hN1 (by omega))
    rcases A with _ | ad
    · have h0 : f.length = 0 := by
        rcases Nat.lt_or_ge 0 f.length with h | h
        · obtain ⟨b, off, he, _⟩ := I.out.cells h; cases he
        · omega
      obtain rfl : f = [] := List.eq_nil_of_length_eq_zero h0
      obtain rfl : N = 0 := by simpa using hN1
      have HI : Hid (Ints wc (.slice none 0 c) (([] : List Int).drop 0)) := Lib.hid (Ints.nil _ _ _)
      clear h0 hcap hNc hNf hN1
      go_wp2
      go_region_law (first
        | (go_simp; go_at_call_of 25 vf; refine (same_to _ _ (([] : List Int).drop 0) (([] : List Int).drop 0) true _ (VF.out.ext (Ext.refl _).drew) (HI.out.ext (Ext.refl _).drew) (sameB_refl _)).mono ?_; rintro e w5 ⟨rfl, hE5⟩)
        | (refine step_appg (by rfl) (.tmp 48) (.tmp 49) (by rfl) (by rfl) w5.heap.size _ [] (by rfl) (own_empty w5 (Nat.le_refl _)) _ t (by rfl) (I'.out.ext ((Ext.refl _).drew.trans (hE5.alloc _))) (by simp; omega) (by simp) ?_
           intro v6 w6 hown6 hgrow6 hat6
           have hE6 := ((Ext.refl w5).alloc _).grown hgrow6 (fun k hk => by cases hk; exact Nat.le_refl _)
           simp only [List.nil_append] at hown6)
        | (refine step_appg (by rfl) (.tmp 50) (.tmp 53) (by rfl) (by rfl) w5.heap.size _ t (by rfl) hown6 _ (([] : List Int).take 0) (by rfl) (HP.out.ext (((Ext.refl _).drew.trans hE5).trans hE6)) (by rw [List.length_take]; omega) hE6.size ?_
           intro v7 w7 hown7 hgrow7 hat7
           have hE7 := hE6.grown hgrow7 (fun k hk => (hown6.lt k hk).1)
           have hE07 := ((Ext.refl wc).drew.trans hE5).trans hE7)
        | (go_simp; go_at_call_of 25 vt; refine (same_to _ _ (t ++ ([] : List Int).take 0) (t ++ ([] : List Int).take 0) true _ (VT.out.ext hE07) hown7.ints (sameB_refl _)).mono ?_; rintro e w8 ⟨rfl, hE8⟩)
        | (go_simp; go_at_call_of 25 va; refine (same_to _ _ [] [] true _ (VA.out.ext (hE07.trans hE8)) (I.out.ext (hE07.trans hE8)) (sameB_refl _)).mono ?_; rintro e w9 ⟨rfl, hE9⟩)
        | (go_simp; go_at_call_of 25 vb; refine (same_to _ _ t t true _ (VB.out.ext ((hE07.trans hE8).trans hE9)) (I'.out.ext ((hE07.trans hE8).trans hE9)) (sameB_refl _)).mono ?_; rintro e w10 ⟨rfl, hE10⟩))
      all_goals
        go_wp2
        go_ret
        exact ⟨rfl, E3.out.trans (((hE07.trans hE8).trans hE9).trans hE10)⟩
    · by_cases hc1 : c = N
      · obtain rfl : N = f.length := by omega
        have HI : Hid (Ints wc (.slice (some ad) 0 0) (f.drop f.length)) := Lib.hid (by rw [List.drop_length]; exact Ints.nil _ _ _)
        subst hc1
        go_wp2
        go_region_law (first
          | (go_simp; go_at_call_of 25 vf; refine (same_to _ _ (f.drop f.length) (f.drop f.length) true _ (VF.out.ext (Ext.refl _).drew) (HI.out.ext (Ext.refl _).drew) (sameB_refl _)).mono ?_; rintro e w5 ⟨rfl, hE5⟩)
          | (refine step_appg (by rfl) (.tmp 48) (.tmp 49) (by rfl) (by rfl) w5.heap.size _ [] (by rfl) (own_empty w5 (Nat.le_refl _)) _ t (by rfl) (I'.out.ext ((Ext.refl _).drew.trans (hE5.alloc _))) (by simp; omega) (by simp) ?_
             intro v6 w6 hown6 hgrow6 hat6
             have hE6 := ((Ext.refl w5).alloc _).grown hgrow6 (fun k hk => by cases hk; exact Nat.le_refl _)
             simp only [List.nil_append] at hown6)
          | (refine step_appg (by rfl) (.tmp 50) (.tmp 53) (by rfl) (by rfl) w5.heap.size _ t (by rfl) hown6 _ (f.take f.length) (by rfl) (HP.out.ext (((Ext.refl _).drew.trans hE5).trans hE6)) (by rw [List.length_take]; omega) hE6.size ?_
             intro v7 w7 hown7 hgrow7 hat7
             have hE7 := hE6.grown hgrow7 (fun k hk => (hown6.lt k hk).1)
             have hE07 := ((Ext.refl wc).drew.trans hE5).trans hE7)
          | (go_simp; go_at_call_of 25 vt; refine (same_to _ _ (t ++ f.take f.length) (t ++ f.take f.length) true _ (VT.out.ext hE07) hown7.ints (sameB_refl _)).mono ?_; rintro e w8 ⟨rfl, hE8⟩)
          | (go_simp; go_at_call_of 25 va; refine (same_to _ _ f f true _ (VA.out.ext (hE07.trans hE8)) (I.out.ext (hE07.trans hE8)) (sameB_refl _)).mono ?_; rintro e w9 ⟨rfl, hE9⟩)
          | (go_simp; go_at_call_of 25 vb; refine (same_to _ _ t t true _ (VB.out.ext ((hE07.trans hE8).trans hE9)) (I'.out.ext ((hE07.trans hE8).trans hE9)) (sameB_refl _)).mono ?_; rintro e w10 ⟨rfl, hE10⟩))
        all_goals
          go_wp2
          go_ret
          exact ⟨rfl, E3.out.trans (((hE07.trans hE8).trans hE9).trans hE10)⟩
      · have HI := Lib.hid (I.out.dropAdd N (f.length - N) (c - N) rfl (by omega))
        go_wp2
        go_region_law (first
          | (go_simp; go_at_call_of 25 vf; refine (same_to _ _ (f.drop N) (f.drop N) true _ (VF.out.ext (Ext.refl _).drew) (HI.out.ext (Ext.refl _).drew) (sameB_refl _)).mono ?_; rintro e w5 ⟨rfl, hE5⟩)
          | (refine step_appg (by rfl) (.tmp 48) (.tmp 49) (by rfl) (by rfl) w5.heap.size _ [] (by rfl) (own_empty w5 (Nat.le_refl _)) _ t (by rfl) (I'.out.ext ((Ext.refl _).drew.trans (hE5.alloc _))) (by simp; omega) (by simp) ?_
             intro v6 w6 hown6 hgrow6 hat6
             have hE6 := ((Ext.refl w5).alloc _).grown hgrow6 (fun k hk => by cases hk; exact Nat.le_refl _)
             simp only [List.nil_append] at hown6)
          | (refine step_appg (by rfl) (.tmp 50) (.tmp 53) (by rfl) (by rfl) w5.heap.size _ t (by rfl) hown6 _ (f.take N) (by rfl) (HP.out.ext (((Ext.refl _).drew.trans hE5).trans hE6)) (by rw [List.length_take]; omega) hE6.size ?_
             intro v7 w7 hown7 hgrow7 hat7
             have hE7 := hE6.grown hgrow7 (fun k hk => (hown6.lt k hk).1)
             have hE07 := ((Ext.refl wc).drew.trans hE5).trans hE7)
          | (go_simp; go_at_call_of 25 vt; refine (same_to _ _ (t ++ f.take N) (t ++ f.take N) true _ (VT.out.ext hE07) hown7.ints (sameB_refl _)).mono ?_; rintro e w8 ⟨rfl, hE8⟩)
          | (go_simp; go_at_call_of 25 va; refine (same_to _ _ f f true _ (VA.out.ext (hE07.trans hE8)) (I.out.ext (hE07.trans hE8)) (sameB_refl _)).mono ?_; rintro e w9 ⟨rfl, hE9⟩)
          | (go_simp; go_at_call_of 25 vb; refine (same_to _ _ t t true _ (VB.out.ext ((hE07.trans hE8).trans hE9)) (I'.out.ext ((hE07.trans hE8).trans hE9)) (sameB_refl _)).mono ?_; rintro e w10 ⟨rfl, hE10⟩))
        all_goals
          go_wp2
          go_ret
          exact ⟨rfl, E3.out.trans (((hE07.trans hE8).trans hE9).trans hE10)⟩

set_option maxRecDepth 100000 in
theorem dmoves_great (A B : Option Addr) (n m c d : Nat) (x : Int) (w : World) (hn : n ≤ 9223372036854775807) (hm : m ≤ 9223372036854775807) (hx : 0 ≤ x ∧ x ≤ 255) (hl : 300 < n ∨ 300 < m) :
    Calls Try.prog 7 #[.slice A n c, .slice B m d, .int .u8 x] w fun e w' => e = .returned (.bool true) ∧ Ext w w' := by
  by_cases h1 : (300 : Int) < n
  · go_enter Try.func7, Try.ntmps7
    go_wp2_with fail
    refine (dalive_any _).mono ?_
    rintro e w0 ⟨rfl, hE⟩
    go_wp2_with fail
    go_ret
    exact ⟨rfl, hE⟩
  · have h1' : (n : Int) ≤ 300 := by omega
    have h2 : (300 : Int) < m := by omega
    clear h1
    go_enter Try.func7, Try.ntmps7
    go_wp2_with fail
    refine (dalive_any _).mono ?_
    rintro e w0 ⟨rfl, hE⟩
    go_wp2_with fail
    go_ret
    exact ⟨rfl, hE⟩
theorem dmoves_any (A B : Option Addr) (c d : Nat) (l m : List Int) (n : Int) (w : World) (h : Ints w (.slice A l.length c) l) (h' : Ints w (.slice B m.length d) m) (hn : 0 ≤ n ∧ n ≤ 255) :
    Calls Try.prog 7 #[.slice A l.length c, .slice B m.length d, .int .u8 n] w fun e w' => e = .returned (.bool true) ∧ Ext w w' := by
  have k1 := h.1
  have k2 := h'.1
  unfold maxLen at k1 k2
  by_cases hg : 300 < l.length ∨ 300 < m.length
  · exact dmoves_great A B _ _ c d n w (by omega) (by omega) hn hg
  · exact dmoves_walk A B c d l m n w h h' (by omega) (by omega) hn.1 hn.2
end Go.Proofs.Ytfhkmaikilgolaa
