/- The document's deque. -/
import Derived.Test.YtfhkmaikilgolaaDTo
namespace Go.Proofs.Ytfhkmaikilgolaa
open Go.RowKit Go.Proofs.Ytfhkmaikilgolaa.Plain

set_option maxRecDepth 100000 in
theorem rpush_any (A : Option Addr) (c : Nat) (l : List Int) (n : Int) (w : World) (h : Ints w (.slice A l.length c) l) (hl : l.length ≤ 4000) (hn : -9223372036854775808 ≤ n ∧ n ≤ 9223372036854775807) :
    Calls Try.prog 18 #[.slice A l.length c, .int .i64 n] w fun e w' => ∃ A c, e = .returned (.tuple #[.slice A (pushL l n).length c, .int .i64 (pushE l)]) ∧ Ints w' (.slice A (pushL l n).length c) (pushL l n) ∧ Ext w w' := by
  have H := Lib.hid h
  clear h
  by_cases hf : 1000 ≤ l.length
  · have e1 : Hid (pushL l n = l) := Lib.hid (by unfold pushL; rw [if_pos hf])
    have e2 : Hid (pushE l = 2) := Lib.hid (by unfold pushE; rw [if_pos hf])
    have hf' : (1000 : Int) ≤ l.length := by omega
    clear hf
    go_enter Try.func18, Try.ntmps18
    go_wp2
    go_ret2
    rw [e1.out, e2.out]
    exact ⟨_, _, rfl, H.out, Ext.refl _⟩
  · have e1 : Hid (pushL l n = l ++ [n]) := Lib.hid (by unfold pushL; rw [if_neg hf])
    have e2 : Hid (pushE l = 0) := Lib.hid (by unfold pushE; rw [if_neg hf])
    have hf' : (l.length : Int) < 1000 := by omega
    clear hf
    go_enter Try.func18, Try.ntmps18
    go_wp2_with (first | (at_builtin; refine wpList_app rfl (.tmp 10) (.tmp 11) rfl rfl w.heap.size _ [] rfl (Own.made w #[] 0 (Nat.le_refl _) (by simp) rfl) _ l rfl (H.out.ext ((Ext.refl w).alloc _)) (by simp; omega) (by simp) ?_; intro v1 w1 hown1 hgrow1 hat1; have hE1 := ((Ext.refl w).alloc _).grown hgrow1 (fun k hk => by cases hk; exact Nat.le_refl _); have hz1 := hE1.size; simp only [List.nil_append] at hown1) | (at_builtin; refine wpList_app rfl (.tmp 12) (.tmp 14) rfl rfl w.heap.size _ l rfl (hown1.ext ((Ext.refl _).alloc _)) _ [n] rfl (Ints.one w1 n 1 (by omega) hn) (by simp; omega) (by simp; omega) ?_; intro v2 w2 hown2 hgrow2 hat2))
    obtain ⟨A2, c2, rfl⟩ := hown2.slice
    go_ret2
    rw [e1.out, e2.out]
    exact ⟨_, _, rfl, hown2.ints, (hE1.alloc _).grown hgrow2 (fun k hk => (hown1.lt k hk).1)⟩

set_option maxHeartbeats 400000 in
set_option maxRecDepth 100000 in
theorem rpop_any (A : Option Addr) (c : Nat) (l : List Int) (w : World) (h : Ints w (.slice A l.length c) l) (hl : l.length ≤ 4000) :
    Calls Try.prog 20 #[.slice A l.length c] w fun e w' => ∃ A c, e = .returned (.tuple #[.slice A (popL l).length c, .int .i64 (lastD l), .int .i64 (popE l)]) ∧ Ints w' (.slice A (popL l).length c) (popL l) ∧ Ext w w' := by
  have H := Lib.hid h
  by_cases h0 : l.length = 0
  · obtain rfl : l = [] := List.eq_nil_of_length_eq_zero h0
    clear h
    go_enter Try.func20, Try.ntmps20
    go_wp2
    go_ret3
    exact ⟨_, _, rfl, H.out, Ext.refl _⟩
  · have h1 : 0 < l.length := by omega
    have h2 : ((l.length : Int) == 0) = false := by rw [beq_eq_false_iff_ne]; omega
    have e1 : Hid (popE l = 0) := Lib.hid (by unfold popE; rw [if_neg h0])
    have e2 : Hid ((popL l).length = l.length - 1) := Lib.hid (popL_len l)
    have e4 : Hid (lastD l = l.getD (l.length - 1) 0) := Lib.hid rfl
    have hc4 : (1 : Int) ≤ l.length := by omega
    have hcap : l.length ≤ c := by obtain ⟨_, _, A', c', he, hc', _⟩ := h; cases he; exact hc'
    have hc6 : (l.length : Int) - 1 ≤ c := by omega
    have hc7 : (l.length : Int) - 1 < l.length := by omega
    have hc8 : (0 : Int) ≤ (l.length : Int) - 1 := by omega
    clear h h0
    obtain ⟨b, off, rfl, hcc⟩ := H.out.cells h1
    have k1 := hcc (l.length - 1) (by omega)
    rw [← e4.out] at k1
    clear hcc
    have HI := Lib.hid (H.out.take (l.length - 1) c (by omega) (by omega))
    go_enter Try.func20, Try.ntmps20
    go_wp2
    go_region_held3 (fun w' => w'.cell? ⟨b, off + (l.length - 1), none⟩ = some (.int .i64 (lastD l)))
      (first | go_keep | exact c11)
      (first
        | (refine step_app (by rfl) (.tmp 13) (.tmp 16) (by rfl) (by rfl) w.heap.size _ [] (by rfl) ((Own.made w #[] 0 (Nat.le_refl _) (by simp) rfl).ext (Ext.refl _).drew) _ (l.take (l.length - 1)) (by rfl) (HI.out.ext ((Ext.refl w).alloc _).drew) (by rw [List.length_take]; simp; omega) (by simp) ?_
           intro v1 w1 hown1 hgrow1 hat1
           have hE1 := ((Ext.refl w).alloc _).drew.grown hgrow1 (fun k hk => by cases hk; exact Nat.le_refl _)
           have c11 : w1.cell? ⟨b, off + (l.length - 1), none⟩ = some (.int .i64 (lastD l)) := hE1.cell k1))
    go_wp2
    simp only [List.nil_append] at hown1
    obtain ⟨A2, c2, rfl⟩ := hown1.slice
    go_ret3
    rw [e1.out]
    exact ⟨_, _, rfl, hown1.ints, hE1⟩

set_option maxHeartbeats 400000 in
set_option maxRecDepth 100000 in
theorem rsteal_any (A : Option Addr) (c : Nat) (l : List Int) (w : World) (h : Ints w (.slice A l.length c) l) (hl : l.length ≤ 4000) :
    Calls Try.prog 22 #[.slice A l.length c] w fun e w' => ∃ A c, e = .returned (.tuple #[.slice A (stealL l).length c, .int .i64 (topD l), .int .i64 (popE l)]) ∧ Ints w' (.slice A (stealL l).length c) (stealL l) ∧ Ext w w' := by
  have H := Lib.hid h
  by_cases h0 : l.length = 0
  · obtain rfl : l = [] := List.eq_nil_of_length_eq_zero h0
    clear h
    go_enter Try.func22, Try.ntmps22
    go_wp2
    go_ret3
    exact ⟨_, _, rfl, H.out, Ext.refl _⟩
  · have h1 : 0 < l.length := by omega
    have h2 : ((l.length : Int) == 0) = false := by rw [beq_eq_false_iff_ne]; omega
    have e1 : Hid (popE l = 0) := Lib.hid (by unfold popE; rw [if_neg h0])
    have e3 : Hid (topD l = l.getD 0 0) := Lib.hid rfl
    have hcap : l.length ≤ c := by obtain ⟨_, _, A', c', he, hc', _⟩ := h; cases he; exact hc'
    clear h h0
    obtain ⟨b, off, rfl, hcc⟩ := H.out.cells h1
    have k0 : w.cell? ⟨b, off, none⟩ = some (.int .i64 (l.getD 0 0)) := hcc 0 h1
    rw [← e3.out] at k0
    clear hcc
    have hc4 : (1 : Int) ≤ l.length := by omega
    have hc6 : (l.length : Int) ≤ c := by omega
    by_cases hc1 : c = 1
    · subst hc1
      have HI : Hid (Ints w (.slice (some ⟨b, off, none⟩) 0 0) (l.drop 1)) := Lib.hid (by
        rw [show l.drop 1 = [] from List.eq_nil_of_length_eq_zero (by rw [List.length_drop]; omega)]
        exact Ints.nil _ _ _)
      go_enter Try.func22, Try.ntmps22
      go_wp2
      go_region_held3 (fun w' => w'.cell? ⟨b, off, none⟩ = some (.int .i64 (topD l)))
        (first | go_keep | exact c11)
        (first
          | (refine step_app (by rfl) (.tmp 9) (.tmp 11) (by rfl) (by rfl) w.heap.size _ [] (by rfl) ((Own.made w #[] 0 (Nat.le_refl _) (by simp) rfl).ext (Ext.refl _).drew) _ (l.drop 1) (by rfl) (HI.out.ext ((Ext.refl w).alloc _).drew) (by rw [List.length_drop]; simp; omega) (by simp) ?_
             intro v1 w1 hown1 hgrow1 hat1
             have hE1 := ((Ext.refl w).alloc _).drew.grown hgrow1 (fun k hk => by cases hk; exact Nat.le_refl _)
             have c11 : w1.cell? ⟨b, off, none⟩ = some (.int .i64 (topD l)) := hE1.cell k0))
      go_wp2
      simp only [List.nil_append] at hown1
      obtain ⟨A2, c2, rfl⟩ := hown1.slice
      go_ret3
      rw [e1.out]
      exact ⟨_, _, rfl, hown1.ints, hE1⟩
    · have HI := Lib.hid (H.out.drop 1 (l.length - 1) (c - 1) rfl (by omega))
      go_enter Try.func22, Try.ntmps22
      go_wp2
      go_region_held3 (fun w' => w'.cell? ⟨b, off, none⟩ = some (.int .i64 (topD l)))
        (first | go_keep | exact c11)
        (first
          | (refine step_app (by rfl) (.tmp 9) (.tmp 11) (by rfl) (by rfl) w.heap.size _ [] (by rfl) ((Own.made w #[] 0 (Nat.le_refl _) (by simp) rfl).ext (Ext.refl _).drew) _ (l.drop 1) (by rfl) (HI.out.ext ((Ext.refl w).alloc _).drew) (by rw [List.length_drop]; simp; omega) (by simp) ?_
             intro v1 w1 hown1 hgrow1 hat1
             have hE1 := ((Ext.refl w).alloc _).drew.grown hgrow1 (fun k hk => by cases hk; exact Nat.le_refl _)
             have c11 : w1.cell? ⟨b, off, none⟩ = some (.int .i64 (topD l)) := hE1.cell k0))
      go_wp2
      simp only [List.nil_append] at hown1
      obtain ⟨A2, c2, rfl⟩ := hown1.slice
      go_ret3
      rw [e1.out]
      exact ⟨_, _, rfl, hown1.ints, hE1⟩

set_option maxHeartbeats 400000 in
set_option maxRecDepth 100000 in
theorem rlook_any (A : Option Addr) (c : Nat) (l : List Int) (w : World) (h : Ints w (.slice A l.length c) l) (hl : l.length ≤ 4000) :
    Calls Try.prog 24 #[.slice A l.length c] w fun e w' => e = .returned (.tuple #[.int .i64 (lastD l), .int .i64 (topD l), .bool (lookB l)]) ∧ Ext w w' := by
  have H := Lib.hid h
  clear h
  by_cases h0 : l.length = 0
  · obtain rfl : l = [] := List.eq_nil_of_length_eq_zero h0
    go_enter Try.func24, Try.ntmps24
    go_wp2
    go_ret3
    exact ⟨rfl, Ext.refl _⟩
  · have h1 : 0 < l.length := by omega
    have h2 : ((l.length : Int) == 0) = false := by rw [beq_eq_false_iff_ne]; omega
    have e1 : Hid (lookB l = true) := Lib.hid (by unfold lookB; simpa using h1)
    have e3 : Hid (topD l = l.getD 0 0) := Lib.hid rfl
    have e4 : Hid (lastD l = l.getD (l.length - 1) 0) := Lib.hid rfl
    have hc4 : (1 : Int) ≤ l.length := by omega
    clear h0
    obtain ⟨b, off, rfl, hcc⟩ := H.out.cells h1
    have k0 : w.cell? ⟨b, off, none⟩ = some (.int .i64 (l.getD 0 0)) := hcc 0 h1
    have k1 := hcc (l.length - 1) (by omega)
    rw [← e3.out] at k0
    rw [← e4.out] at k1
    clear hcc
    go_enter Try.func24, Try.ntmps24
    go_wp2
    go_quiet (fail)
    go_wp2
    go_ret3
    rw [e1.out]
    exact ⟨rfl, (Ext.refl w).drewN _⟩
end Go.Proofs.Ytfhkmaikilgolaa
