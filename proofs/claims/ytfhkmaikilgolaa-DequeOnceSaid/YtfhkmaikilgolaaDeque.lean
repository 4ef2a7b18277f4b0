/- The deque's functions. -/
import Derived.Test.YtfhkmaikilgolaaDBase
import Derived.Deep.QuietTactic
import Derived.BigQuiet
import Derived.Deep.RegionHeld3
namespace Go.Proofs.Ytfhkmaikilgolaa
open Go.RowKit Go.Proofs.Ytfhkmaikilgolaa.Plain

/-- a slice of a block from B on -/
def From (B : Nat) (A : Option Addr) : Prop := ∀ a, A = some a → B ≤ a.block
theorem From.none (B : Nat) : From B none := fun a h => by cases h
theorem Own.from {B n c : Nat} {A : Option Addr} {w : World} {xs : List Int} (h : Own B w (.slice A n c) xs) : From B A := fun a ha => by
  subst ha
  rcases h.1.2 with ⟨h0, _⟩ | ⟨g, cap, cur, hv, hg, _⟩
  · cases h0
  · cases hv; exact hg
theorem From.mono {B B' : Nat} {A : Option Addr} (h : From B A) (hB : B' ≤ B) : From B' A := fun a ha => Nat.le_trans hB (h a ha)
theorem Ints.slice {w : World} {v : Value} {xs : List Int} (h : Ints w v xs) : ∃ A c, v = .slice A xs.length c ∧ xs.length ≤ c := by
  obtain ⟨_, _, A, c, rfl, hc, _⟩ := h
  exact ⟨A, c, rfl, hc⟩
/-- a part of a list, as the walk writes it -/
theorem Ints.drop' {w : World} {b off n c : Nat} {xs : List Int} (h : Ints w (.slice (some ⟨b, off, none⟩) n c) xs) (k m c' : Nat) (hm : m = xs.length - k) (hc' : m ≤ c') (hc : xs.length ≤ c) (hk : k ≤ xs.length) :
    Ints w (.slice (if c = k then some ⟨b, off, none⟩ else some ⟨b, off + k, none⟩) m c') (xs.drop k) := by
  by_cases hck : c = k
  · rw [if_pos hck]
    have hx : xs.drop k = [] := List.eq_nil_of_length_eq_zero (by rw [List.length_drop]; omega)
    rw [hx, show m = 0 by omega]
    exact Ints.nil _ _ _
  · rw [if_neg hck]
    exact h.drop k m c' hm hc'
theorem Own.slice {B : Nat} {w : World} {v : Value} {xs : List Int} (h : Own B w v xs) : ∃ A c, v = .slice A xs.length c := by
  obtain ⟨A, c, rfl, _⟩ := h.shape
  exact ⟨A, c, rfl⟩

set_option maxRecDepth 100000 in
theorem push_far (A : Option Addr) (c : Nat) (l : List Int) (n : Int) (w : World) (h : Ints w (.slice A l.length c) l) (hl : l.length ≤ 4000) (hn : -9223372036854775808 ≤ n ∧ n ≤ 9223372036854775807) :
    Calls Try.prog 17 #[.slice A l.length c, .int .i64 n] w fun e w' => ∃ A c, e = .returned (.tuple #[.slice A (pushL l n).length c, .int .i64 (pushE l)]) ∧ Ints w' (.slice A (pushL l n).length c) (pushL l n) ∧ Ext w w' ∧ From w.heap.size A := by
  have H := Lib.hid h
  clear h
  by_cases hf : 1000 ≤ l.length
  · have e1 : Hid (pushL l n = l) := Lib.hid (by unfold pushL; rw [if_pos hf])
    have e2 : Hid (pushE l = 2) := Lib.hid (by unfold pushE; rw [if_pos hf])
    have hr : roomN l.length = 0 := by unfold roomN; omega
    have HR := Lib.hid hr
    clear hr
    go_enter Try.func17, Try.ntmps17
    go_wp2_with (first | (go_at_call 32; refine (room_any _ _ _ _ (by omega)).mono ?_; rw [HR.out]; rintro e w1 ⟨rfl, rfl⟩) | (go_at_call 33; refine (clone_any _ _ _ H.out (by omega)).mono ?_; rintro e w1 ⟨A1, c1, rfl, ho, hE⟩))
    go_ret2
    rw [e1.out, e2.out]
    exact ⟨_, _, rfl, ho.ints, hE, ho.from⟩
  · have e1 : Hid (pushL l n = l ++ [n]) := Lib.hid (by unfold pushL; rw [if_neg hf])
    have e2 : Hid (pushE l = 0) := Lib.hid (by unfold pushE; rw [if_neg hf])
    obtain ⟨r, hr, hr0⟩ : ∃ r, roomN l.length = r ∧ 0 < r := ⟨_, rfl, by unfold roomN; omega⟩
    have HR := Lib.hid hr
    clear hr
    go_enter Try.func17, Try.ntmps17
    go_wp2_with (first | (go_at_call 32; refine (room_any _ _ _ _ (by omega)).mono ?_; rw [HR.out]; rintro e w1 ⟨rfl, rfl⟩) | (go_at_call 34; refine (concat_any _ _ _ _ _ [n] _ (by go_simp) (by go_simp) (H.out.ext (((Ext.refl w).alloc _).alloc _)) ((Ints.one w n 1 (by omega) hn).ext ((Ext.refl _).alloc _)) (by simp; omega)).mono ?_; rintro e w1 ⟨v, rfl, ho, hE⟩))
    go_ret2
    rw [e1.out, e2.out]
    obtain ⟨A1, c1, rfl⟩ := ho.slice
    exact ⟨_, _, rfl, ho.ints, (((Ext.refl w).alloc _).alloc _).trans hE, ho.from.mono (by simp; omega)⟩
theorem push_any (A : Option Addr) (c : Nat) (l : List Int) (n : Int) (w : World) (h : Ints w (.slice A l.length c) l) (hl : l.length ≤ 4000) (hn : -9223372036854775808 ≤ n ∧ n ≤ 9223372036854775807) :
    Calls Try.prog 17 #[.slice A l.length c, .int .i64 n] w fun e w' => ∃ A c, e = .returned (.tuple #[.slice A (pushL l n).length c, .int .i64 (pushE l)]) ∧ Ints w' (.slice A (pushL l n).length c) (pushL l n) ∧ Ext w w' :=
  (push_far A c l n w h hl hn).mono fun e w' ⟨A, c, he, hi, hE, _⟩ => ⟨A, c, he, hi, hE⟩

theorem popX_lt (l : List Int) (h : 0 < l.length) : lastD l = l.getD (l.length - 1) 0 := rfl

set_option maxHeartbeats 400000 in
set_option maxRecDepth 100000 in
theorem pop_far (A : Option Addr) (c : Nat) (l : List Int) (w : World) (h : Ints w (.slice A l.length c) l) (hl : l.length ≤ 4000) :
    Calls Try.prog 19 #[.slice A l.length c] w fun e w' => ∃ A c, e = .returned (.tuple #[.slice A (popL l).length c, .int .i64 (lastD l), .int .i64 (popE l)]) ∧ Ints w' (.slice A (popL l).length c) (popL l) ∧ Ext w w' ∧ From w.heap.size A := by
  have H := Lib.hid h
  clear h
  by_cases h0 : l.length = 0
  · obtain rfl : l = [] := List.eq_nil_of_length_eq_zero h0
    go_enter Try.func19, Try.ntmps19
    go_wp2_with (go_at_call 33; refine (clone_any _ _ _ H.out (by simp)).mono ?_; rintro e w1 ⟨A1, c1, rfl, ho, hE⟩)
    go_ret3
    exact ⟨_, _, rfl, ho.ints, hE, ho.from⟩
  · have h1 : 0 < l.length := by omega
    have e1 : Hid (popE l = 0) := Lib.hid (by unfold popE; rw [if_neg h0])
    have e2 : Hid ((popL l).length = l.length - 1) := Lib.hid (popL_len l)
    have e3 : Hid (lastD l = l.getD (l.length - 1) 0) := Lib.hid rfl
    clear h0
    go_enter Try.func19, Try.ntmps19
    go_wp2_with fail
    refine (clone_any _ _ _ H.out (by omega)).mono ?_
    rintro e w1 ⟨A1, c1, rfl, ho, hE⟩
    obtain ⟨_, _, hsh, hdd⟩ := ho.shape
    have hdd1 : (l.length : Int) - 1 ≤ (c1 : Int) := by cases hsh; omega
    have hdd2 : (l.length : Int) ≤ (c1 : Int) := by cases hsh; omega
    clear hdd hsh
    obtain ⟨g, rfl, hgB, hgw, hgc, hgf, hgs⟩ := ho.pos h1
    have kf := hgc (l.length - 1) (by omega)
    rw [← e3.out] at kf
    have HO := Lib.hid ho
    have HE := Lib.hid hE
    clear hgc hgs hgf ho hE
    go_wp2_with fail
    go_quiet (fail)
    go_wp2
    go_ret3
    rw [e1.out, e2.out]
    exact ⟨_, _, rfl, (HO.out.ints.take (l.length - 1) (l.length - 1) (by omega) (by omega)).ext ((Ext.refl _).drewN _), HE.out.drewN _, HO.out.from⟩
theorem pop_any (A : Option Addr) (c : Nat) (l : List Int) (w : World) (h : Ints w (.slice A l.length c) l) (hl : l.length ≤ 4000) :
    Calls Try.prog 19 #[.slice A l.length c] w fun e w' => ∃ A c, e = .returned (.tuple #[.slice A (popL l).length c, .int .i64 (lastD l), .int .i64 (popE l)]) ∧ Ints w' (.slice A (popL l).length c) (popL l) ∧ Ext w w' :=
  (pop_far A c l w h hl).mono fun e w' ⟨A, c, he, hi, hE, _⟩ => ⟨A, c, he, hi, hE⟩

set_option maxHeartbeats 400000 in
set_option maxRecDepth 100000 in
theorem steal_far (A : Option Addr) (c : Nat) (l : List Int) (w : World) (h : Ints w (.slice A l.length c) l) (hl : l.length ≤ 4000) :
    Calls Try.prog 21 #[.slice A l.length c] w fun e w' => ∃ A c, e = .returned (.tuple #[.slice A (stealL l).length c, .int .i64 (topD l), .int .i64 (popE l)]) ∧ Ints w' (.slice A (stealL l).length c) (stealL l) ∧ Ext w w' ∧ From w.heap.size A := by
  have H := Lib.hid h
  have hm := h.2.2
  clear h
  by_cases h0 : l.length = 0
  · obtain rfl : l = [] := List.eq_nil_of_length_eq_zero h0
    clear hm
    go_enter Try.func21, Try.ntmps21
    go_wp2
    go_ret3
    exact ⟨_, _, rfl, Ints.nil _ _ _, Ext.refl _, From.none _⟩
  · have h1 : 0 < l.length := by omega
    have h2 : ((l.length : Int) == 0) = false := by rw [beq_eq_false_iff_ne]; omega
    have e1 : Hid (popE l = 0) := Lib.hid (by unfold popE; rw [if_neg h0])
    have e2 : Hid ((stealL l).length = l.length - 1) := Lib.hid (stealL_len l)
    have e3 : Hid (topD l = l.getD 0 0) := Lib.hid rfl
    clear h0 hm
    have hcap : l.length ≤ c := by obtain ⟨_, _, A', c', he, hc', _⟩ := H.out; cases he; exact hc'
    obtain ⟨b, off, rfl, hcc⟩ := H.out.cells h1
    have k0 : w.cell? ⟨b, off, none⟩ = some (.int .i64 (l.getD 0 0)) := hcc 0 h1
    rw [← e3.out] at k0
    have hb := World.block_lt_of_cell? _ _ k0
    simp at hb
    clear hcc
    have hc4 : (1 : Int) ≤ l.length := by omega
    have hc6 : (l.length : Int) ≤ c := by omega
    have e5 := Lib.hid (stealL_len l)
    by_cases hc1 : c = 1
    · have hl1 : Hid (l.length - 1 = 0) := Lib.hid (by omega)
      have e6 : Hid (stealL l = []) := Lib.hid (List.eq_nil_of_length_eq_zero (by rw [stealL_len]; omega))
      go_enter Try.func21, Try.ntmps21
      go_wp2
      go_region_held3 (fun w' => w'.cell? ⟨b, off, none⟩ = some (.int .i64 (topD l)))
        (first | go_keep | exact c11)
        (first
          | (go_at_call 33
             rw [hl1.out]
             refine (clone_any _ [] _ (Ints.nil _ _ _) (by simp)).mono ?_
             rintro e w1 ⟨A1, c1, rfl, ho1, hE1⟩
             have c11 : w1.cell? ⟨b, off, none⟩ = some (.int .i64 (topD l)) := hE1.cell (by go_simp)))
      go_wp2
      go_ret3
      rw [e1.out, e6.out]
      exact ⟨_, _, rfl, ho1.ints, (Ext.refl w).drew.trans hE1, ho1.from⟩
    · have HI := Lib.hid (H.out.drop 1 (l.length - 1) (c - 1) rfl (by omega))
      go_enter Try.func21, Try.ntmps21
      go_wp2
      go_region_held3 (fun w' => w'.cell? ⟨b, off, none⟩ = some (.int .i64 (topD l)))
        (first | go_keep | exact c11)
        (first
          | (go_at_call 33
             have hcl := clone_any _ (stealL l) _ (HI.out.ext (Ext.refl w).drew) (by rw [e5.out]; omega)
             rw [e5.out] at hcl
             refine hcl.mono ?_
             clear hcl
             rintro e w1 ⟨A1, c1, rfl, ho1, hE1⟩
             have c11 : w1.cell? ⟨b, off, none⟩ = some (.int .i64 (topD l)) := hE1.cell (by go_simp)))
      go_wp2
      go_ret3
      rw [e1.out, e2.out]
      exact ⟨_, _, rfl, ho1.ints, (Ext.refl w).drew.trans hE1, ho1.from⟩

theorem steal_any (A : Option Addr) (c : Nat) (l : List Int) (w : World) (h : Ints w (.slice A l.length c) l) (hl : l.length ≤ 4000) :
    Calls Try.prog 21 #[.slice A l.length c] w fun e w' => ∃ A c, e = .returned (.tuple #[.slice A (stealL l).length c, .int .i64 (topD l), .int .i64 (popE l)]) ∧ Ints w' (.slice A (stealL l).length c) (stealL l) ∧ Ext w w' :=
  (steal_far A c l w h hl).mono fun e w' ⟨A, c, he, hi, hE, _⟩ => ⟨A, c, he, hi, hE⟩

set_option maxHeartbeats 400000 in
set_option maxRecDepth 100000 in
theorem look_any (A : Option Addr) (c : Nat) (l : List Int) (w : World) (h : Ints w (.slice A l.length c) l) (hl : l.length ≤ 4000) :
    Calls Try.prog 23 #[.slice A l.length c] w fun e w' => e = .returned (.tuple #[.int .i64 (lastD l), .int .i64 (topD l), .bool (lookB l)]) ∧ Ext w w' := by
  have H := Lib.hid h
  clear h
  by_cases h0 : l.length = 0
  · obtain rfl : l = [] := List.eq_nil_of_length_eq_zero h0
    go_enter Try.func23, Try.ntmps23
    go_wp2
    go_ret3
    exact ⟨rfl, Ext.refl _⟩
  · have h1 : 0 < l.length := by omega
    have h2 : ((l.length : Int) == 0) = false := by rw [beq_eq_false_iff_ne]; omega
    have e1 : Hid (lookB l = true) := Lib.hid (by unfold lookB; simpa using h1)
    have e3 : Hid (topD l = l.getD 0 0) := Lib.hid rfl
    have e4 : Hid (lastD l = l.getD (l.length - 1) 0) := Lib.hid rfl
    have hc4 : (1 : Int) ≤ l.length := by omega
    clear h0
    obtain ⟨b, off, rfl, hcc⟩ := H.out.cells h1
    have k0 : w.cell? ⟨b, off, none⟩ = some (.int .i64 (l.getD 0 0)) := hcc 0 h1
    have k1 := hcc (l.length - 1) (by omega)
    rw [← e3.out] at k0
    rw [← e4.out] at k1
    clear hcc
    go_enter Try.func23, Try.ntmps23
    go_wp2
    go_quiet (fail)
    go_wp2
    go_ret3
    rw [e1.out]
    exact ⟨rfl, (Ext.refl w).drewN _⟩
end Go.Proofs.Ytfhkmaikilgolaa
