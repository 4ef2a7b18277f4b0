/- The walk of DequeEnds. -/
import Derived.Test.YtfhkmaikilgolaaDAlive
namespace Go.Proofs.Ytfhkmaikilgolaa
open Go.RowKit Go.Proofs.Ytfhkmaikilgolaa.Plain

set_option maxHeartbeats 1600000 in
set_option maxRecDepth 100000 in
theorem ends_walk (A : Option Addr) (c : Nat) (l : List Int) (n : Int) (w : World) (h : Ints w (.slice A l.length c) l) (hl : l.length ≤ 300) (hn : -9223372036854775808 ≤ n ∧ n ≤ 9223372036854775807) :
    Calls Try.prog 8 #[.slice A l.length c, .int .i64 n] w fun e w' => e = .returned (.bool true) ∧ Ext w w' := by
  have H := Lib.hid h
  have q1 := Lib.hid (push_small l n (by omega))
  have q2 := Lib.hid (pop_snoc l n)
  obtain ⟨t, ht⟩ : ∃ t, topD (l ++ [n]) = t := ⟨_, rfl⟩
  have HT := Lib.hid ht
  have hq0 : ¬ (300 : Int) < l.length := by omega
  clear h ht
  go_enter Try.func8, Try.ntmps8
  go_wp2_with fail
  refine (dalive_any _).mono ?_
  rintro e w0 ⟨rfl, hE⟩
  have E0 := Lib.hid hE
  have I := Lib.hid (H.out.ext hE)
  clear hE
  go_wp2_with fail
  refine (push_to _ _ _ l (l ++ [n]) n 0 (l.length + 1) _ I.out rfl (by omega) hn q1.out.1 q1.out.2 (by simp)).mono ?_
  rintro e w1 ⟨A1, c1, rfl, hi, hE⟩
  have E1 := Lib.hid (E0.out.trans hE)
  have I := Lib.hid (I.out.ext hE)
  obtain ⟨b, off, rfl, hcc⟩ := hi.cells (by simp)
  have k0 : w1.cell? ⟨b, off, none⟩ = some (.int .i64 t) := (hcc 0 (by simp)).trans (by rw [← HT.out]; rfl)
  have P := Lib.hid hi
  clear hcc hi hE E0
  go_wp2_with fail
  refine (pop_to _ _ _ (l ++ [n]) l n 0 l.length _ P.out (by simp) (by omega) q2.out.1 q2.out.2.2.2 q2.out.2.1 rfl).mono ?_
  rintro e w2 ⟨A2, c2, rfl, hi, hE⟩
  have E2 := Lib.hid (E1.out.trans hE)
  have I := Lib.hid (I.out.ext hE)
  have P := Lib.hid (P.out.ext hE)
  have Q := Lib.hid hi
  have k2 := hE.cell k0
  clear hi hE E1 k0
  go_wp2_with fail
  refine (look_to _ _ _ (l ++ [n]) n t true _ P.out (by simp) (by omega) q2.out.2.2.2 HT.out q2.out.2.2.1).mono ?_
  rintro e w3 ⟨rfl, hE⟩
  have E3 := Lib.hid (E2.out.trans hE)
  have I := Lib.hid (I.out.ext hE)
  have Q := Lib.hid (Q.out.ext hE)
  have k3 := hE.cell k2
  clear hE E2 k2
  go_wp2_with fail
  refine (same_to _ _ l l true _ Q.out I.out (sameB_refl l)).mono ?_
  rintro e w4 ⟨rfl, hE⟩
  have E4 := Lib.hid (E3.out.trans hE)
  have I := Lib.hid (I.out.ext hE)
  have k4 := hE.cell k3
  clear hE E3 k3
  by_cases h0 : l.length = 0
  · obtain rfl : l = [] := List.eq_nil_of_length_eq_zero h0
    obtain rfl : n = t := HT.out
    go_wp2_with fail
    go_ret
    exact ⟨rfl, E4.out⟩
  · have h1 : 0 < l.length := by omega
    have h2 : ((l.length : Int) == 0) = false := by rw [beq_eq_false_iff_ne]; omega
    have q3 := Lib.hid (popE_pos l h1)
    obtain ⟨x, hx⟩ : ∃ x, topD l = x := ⟨_, rfl⟩
    obtain ⟨y, hy⟩ : ∃ y, lastD l = y := ⟨_, rfl⟩
    have HX := Lib.hid hx
    have HY := Lib.hid hy
    have hxb : -9223372036854775808 ≤ x ∧ x ≤ 9223372036854775807 := hx ▸ I.out.getD_bd 0
    have q4 : Hid ([x] ++ stealL l = l) := Lib.hid (by rw [← hx]; exact top_steal l h1)
    have eS : Hid ((stealL l).length = l.length - 1) := Lib.hid (stealL_len l)
    clear hx hy h0
    go_wp2_with fail
    refine (steal_to _ _ _ l (stealL l) x 0 (l.length - 1) _ I.out rfl (by omega) rfl HX.out q3.out.1 eS.out).mono ?_
    rintro e w5 ⟨A5, c5, rfl, hi, hE⟩
    have E5 := Lib.hid (E4.out.trans hE)
    have I := Lib.hid (I.out.ext hE)
    have S := Lib.hid hi
    clear hi hE E4 k4
    go_wp2_with fail
    refine (pop_to _ _ _ l (popL l) y 0 (l.length - 1) _ I.out rfl (by omega) rfl HY.out q3.out.1 (popL_len l)).mono ?_
    rintro e w6 ⟨A6, c6, rfl, hi, hE⟩
    have E6 := Lib.hid (E5.out.trans hE)
    have I := Lib.hid (I.out.ext hE)
    have S := Lib.hid (S.out.ext hE)
    clear hi hE E5
    go_wp2_with fail
    refine (look_to _ _ _ l y x true _ I.out rfl (by omega) HY.out HX.out q3.out.2).mono ?_
    rintro e w7 ⟨rfl, hE⟩
    have E7 := Lib.hid (E6.out.trans hE)
    have I := Lib.hid (I.out.ext hE)
    have S := Lib.hid (S.out.ext hE)
    clear hE E6
    have hown : Hid (Own w7.heap.size (w7.alloc (.cells #[.int .i64 x] 3)) (.slice (some ⟨w7.heap.size, 0, none⟩) 1 1) [x]) := Lib.hid (Own.lit w7 [x] (Nat.le_refl _) (by simp [maxLen]) (by simpa using hxb))
    go_wp2_with (at_builtin; refine wpList_appg rfl _ _ rfl rfl w7.heap.size _ [x] rfl hown.out _ (stealL l) rfl (S.out.ext ((Ext.refl w7).alloc _)) (by rw [eS.out]; simp; omega) (by simp) ?_; intro v8 w8 hown8 hgrow8 hat8)
    have hE8 := ((Ext.refl w7).alloc _).grown hgrow8 (fun k hk => by cases hk; exact Nat.le_refl _)
    rw [q4.out] at hown8
    have V := Lib.hid hown8
    have E8 := Lib.hid (E7.out.trans hE8)
    have I := Lib.hid (I.out.ext hE8)
    clear hown8 hgrow8 hat8 hE8 E7
    refine (same_to _ _ l l true _ V.out.ints I.out (sameB_refl l)).mono ?_
    rintro e w9 ⟨rfl, hE⟩
    go_wp2_with fail
    go_ret
    exact ⟨rfl, E8.out.trans hE⟩

set_option maxRecDepth 100000 in
theorem ends_great (A : Option Addr) (n c : Nat) (x : Int) (w : World) (hl : 300 < n) (hn : n ≤ 9223372036854775807) :
    Calls Try.prog 8 #[.slice A n c, .int .i64 x] w fun e w' => e = .returned (.bool true) ∧ Ext w w' := by
  have hl' : (300 : Int) < n := by omega
  go_enter Try.func8, Try.ntmps8
  go_wp2_with fail
  refine (dalive_any _).mono ?_
  rintro e w0 ⟨rfl, hE⟩
  go_wp2_with fail
  go_ret
  exact ⟨rfl, hE⟩
theorem ends_any (A : Option Addr) (c : Nat) (l : List Int) (n : Int) (w : World) (h : Ints w (.slice A l.length c) l) (hn : -9223372036854775808 ≤ n ∧ n ≤ 9223372036854775807) :
    Calls Try.prog 8 #[.slice A l.length c, .int .i64 n] w fun e w' => e = .returned (.bool true) ∧ Ext w w' := by
  by_cases hl : l.length ≤ 300
  · exact ends_walk A c l n w h hl hn
  · exact ends_great A l.length c n w (by omega) (by have := h.1; unfold maxLen at this; omega)
end Go.Proofs.Ytfhkmaikilgolaa
