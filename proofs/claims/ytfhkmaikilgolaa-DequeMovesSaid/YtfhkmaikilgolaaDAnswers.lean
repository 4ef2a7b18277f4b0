/- The walk of DequeAnswers. -/
import Derived.Test.YtfhkmaikilgolaaDAlive
import Derived.Test.YtfhkmaikilgolaaDRMove
namespace Go.Proofs.Ytfhkmaikilgolaa
open Go.RowKit Go.Proofs.Ytfhkmaikilgolaa.Plain

/-- a list, an integer, and an error come of it -/
def L2 (w : World) (l : List Int) (E : Int) (e : Ending) (w' : World) : Prop := ∃ v, e = .returned (.tuple #[v, .int .i64 E]) ∧ Ints w' v l ∧ Ext w w'
def L3 (w : World) (l : List Int) (x E : Int) (e : Ending) (w' : World) : Prop := ∃ v, e = .returned (.tuple #[v, .int .i64 x, .int .i64 E]) ∧ Ints w' v l ∧ Ext w w'

theorem push_v (v : Value) (l : List Int) (x : Int) (w : World) (h : Ints w v l) (hl : l.length ≤ 4000) (hx : -9223372036854775808 ≤ x ∧ x ≤ 9223372036854775807) :
    Calls Try.prog 17 #[v, .int .i64 x] w (L2 w (pushL l x) (pushE l)) := by
  obtain ⟨A, c, rfl, _⟩ := h.slice
  exact (push_any A c l x w h hl hx).mono fun e w' ⟨A, c, he, hi, hE⟩ => ⟨_, he, hi, hE⟩
theorem rpush_v (v : Value) (l : List Int) (x : Int) (w : World) (h : Ints w v l) (hl : l.length ≤ 4000) (hx : -9223372036854775808 ≤ x ∧ x ≤ 9223372036854775807) :
    Calls Try.prog 18 #[v, .int .i64 x] w (L2 w (pushL l x) (pushE l)) := by
  obtain ⟨A, c, rfl, _⟩ := h.slice
  exact (rpush_any A c l x w h hl hx).mono fun e w' ⟨A, c, he, hi, hE⟩ => ⟨_, he, hi, hE⟩
theorem pop_v (v : Value) (l : List Int) (w : World) (h : Ints w v l) (hl : l.length ≤ 4000) : Calls Try.prog 19 #[v] w (L3 w (popL l) (lastD l) (popE l)) := by
  obtain ⟨A, c, rfl, _⟩ := h.slice
  exact (pop_any A c l w h hl).mono fun e w' ⟨A, c, he, hi, hE⟩ => ⟨_, he, hi, hE⟩
theorem rpop_v (v : Value) (l : List Int) (w : World) (h : Ints w v l) (hl : l.length ≤ 4000) : Calls Try.prog 20 #[v] w (L3 w (popL l) (lastD l) (popE l)) := by
  obtain ⟨A, c, rfl, _⟩ := h.slice
  exact (rpop_any A c l w h hl).mono fun e w' ⟨A, c, he, hi, hE⟩ => ⟨_, he, hi, hE⟩
theorem steal_v (v : Value) (l : List Int) (w : World) (h : Ints w v l) (hl : l.length ≤ 4000) : Calls Try.prog 21 #[v] w (L3 w (stealL l) (topD l) (popE l)) := by
  obtain ⟨A, c, rfl, _⟩ := h.slice
  exact (steal_any A c l w h hl).mono fun e w' ⟨A, c, he, hi, hE⟩ => ⟨_, he, hi, hE⟩
theorem rsteal_v (v : Value) (l : List Int) (w : World) (h : Ints w v l) (hl : l.length ≤ 4000) : Calls Try.prog 22 #[v] w (L3 w (stealL l) (topD l) (popE l)) := by
  obtain ⟨A, c, rfl, _⟩ := h.slice
  exact (rsteal_any A c l w h hl).mono fun e w' ⟨A, c, he, hi, hE⟩ => ⟨_, he, hi, hE⟩
theorem move_v (u v : Value) (f t : List Int) (m : Int) (w : World) (h : Ints w u f) (h' : Ints w v t) (hf : f.length ≤ 4000) (ht : t.length ≤ 4000) (hm : -9223372036854775808 ≤ m ∧ m ≤ 9223372036854775807) :
    Calls Try.prog 26 #[u, v, .int .i64 m] w (RMoveSaid w (moveF f t m) (moveT f t m)) := by
  obtain ⟨A, c, rfl, _⟩ := h.slice
  obtain ⟨B, d, rfl, _⟩ := h'.slice
  exact (move_any A B c d f t m w h h' hf ht hm).mono fun e w' ⟨A, c, B, d, he, hi, hj, hE⟩ => ⟨_, _, he, hi, hj, hE⟩

set_option maxHeartbeats 3200000 in
set_option maxRecDepth 100000 in
theorem danswers_walk (A B : Option Addr) (c d : Nat) (l m : List Int) (n : Int) (w : World) (h : Ints w (.slice A l.length c) l) (h' : Ints w (.slice B m.length d) m) (hl : l.length ≤ 1500) (hm : m.length ≤ 1500) (hn : -9223372036854775808 ≤ n ∧ n ≤ 9223372036854775807)
    (hg : n ≤ 1500 ∨ (1500 < n ∧ (l.length : Int) ≤ 100)) :
    Calls Try.prog 5 #[.slice A l.length c, .slice B m.length d, .int .i64 n] w fun e w' => e = .returned (.bool true) ∧ Ext w w' := by
  have H := Lib.hid h
  have H' := Lib.hid h'
  have hq0 : (l.length : Int) ≤ 1500 := by omega
  have hq1 : (m.length : Int) ≤ 1500 := by omega
  clear h h'
  rcases hg with hg | ⟨hg, hg'⟩
  all_goals
    go_enter Try.func5, Try.ntmps5
    go_wp2_with fail
    refine (dalive_any _).mono ?_
    rintro e w0 ⟨rfl, hE⟩
    have E0 := Lib.hid hE
    have I := Lib.hid (H.out.ext hE)
    have I' := Lib.hid (H'.out.ext hE)
    clear hE
    go_wp2_with fail
    refine (push_v _ l n _ I.out (by omega) hn).mono ?_
    rintro e w1 ⟨v1, rfl, hi, hE⟩
    have E1 := Lib.hid (E0.out.trans hE)
    have I := Lib.hid (I.out.ext hE)
    have I' := Lib.hid (I'.out.ext hE)
    have J1 := Lib.hid hi
    clear hi hE E0
    go_wp2_with fail
    refine (rpush_v _ l n _ I.out (by omega) hn).mono ?_
    rintro e w2 ⟨v2, rfl, hi, hE⟩
    have E2 := Lib.hid (E1.out.trans hE)
    have I := Lib.hid (I.out.ext hE)
    have I' := Lib.hid (I'.out.ext hE)
    have J1 := Lib.hid (J1.out.ext hE)
    have J2 := Lib.hid hi
    clear hi hE E1
    go_wp2_with fail
    refine (pop_v _ l _ I.out (by omega)).mono ?_
    rintro e w3 ⟨v3, rfl, hi, hE⟩
    have E3 := Lib.hid (E2.out.trans hE)
    have I := Lib.hid (I.out.ext hE)
    have I' := Lib.hid (I'.out.ext hE)
    have J1 := Lib.hid (J1.out.ext hE)
    have J2 := Lib.hid (J2.out.ext hE)
    have J3 := Lib.hid hi
    clear hi hE E2
    go_wp2_with fail
    refine (rpop_v _ l _ I.out (by omega)).mono ?_
    rintro e w4 ⟨v4, rfl, hi, hE⟩
    have E4 := Lib.hid (E3.out.trans hE)
    have I := Lib.hid (I.out.ext hE)
    have I' := Lib.hid (I'.out.ext hE)
    have J1 := Lib.hid (J1.out.ext hE)
    have J2 := Lib.hid (J2.out.ext hE)
    have J3 := Lib.hid (J3.out.ext hE)
    have J4 := Lib.hid hi
    clear hi hE E3
    go_wp2_with fail
    refine (steal_v _ l _ I.out (by omega)).mono ?_
    rintro e w5 ⟨v5, rfl, hi, hE⟩
    have E5 := Lib.hid (E4.out.trans hE)
    have I := Lib.hid (I.out.ext hE)
    have I' := Lib.hid (I'.out.ext hE)
    have J1 := Lib.hid (J1.out.ext hE)
    have J2 := Lib.hid (J2.out.ext hE)
    have J3 := Lib.hid (J3.out.ext hE)
    have J4 := Lib.hid (J4.out.ext hE)
    have J5 := Lib.hid hi
    clear hi hE E4
    go_wp2_with fail
    refine (rsteal_v _ l _ I.out (by omega)).mono ?_
    rintro e w6 ⟨v6, rfl, hi, hE⟩
    have E6 := Lib.hid (E5.out.trans hE)
    have I := Lib.hid (I.out.ext hE)
    have I' := Lib.hid (I'.out.ext hE)
    have J1 := Lib.hid (J1.out.ext hE)
    have J2 := Lib.hid (J2.out.ext hE)
    have J3 := Lib.hid (J3.out.ext hE)
    have J4 := Lib.hid (J4.out.ext hE)
    have J5 := Lib.hid (J5.out.ext hE)
    have J6 := Lib.hid hi
    clear hi hE E5
    go_wp2_with fail
    refine (look_any _ _ l _ I.out (by omega)).mono ?_
    rintro e w7 ⟨rfl, hE⟩
    have E7 := Lib.hid (E6.out.trans hE)
    have I := Lib.hid (I.out.ext hE)
    have I' := Lib.hid (I'.out.ext hE)
    have J1 := Lib.hid (J1.out.ext hE)
    have J2 := Lib.hid (J2.out.ext hE)
    have J3 := Lib.hid (J3.out.ext hE)
    have J4 := Lib.hid (J4.out.ext hE)
    have J5 := Lib.hid (J5.out.ext hE)
    have J6 := Lib.hid (J6.out.ext hE)
    clear hE E6
    go_wp2_with fail
    refine (rlook_any _ _ l _ I.out (by omega)).mono ?_
    rintro e w8 ⟨rfl, hE⟩
    have E8 := Lib.hid (E7.out.trans hE)
    have I := Lib.hid (I.out.ext hE)
    have I' := Lib.hid (I'.out.ext hE)
    have J1 := Lib.hid (J1.out.ext hE)
    have J2 := Lib.hid (J2.out.ext hE)
    have J3 := Lib.hid (J3.out.ext hE)
    have J4 := Lib.hid (J4.out.ext hE)
    have J5 := Lib.hid (J5.out.ext hE)
    have J6 := Lib.hid (J6.out.ext hE)
    clear hE E7
    go_wp2_with fail
    refine (same_to _ _ _ _ true _ J1.out J2.out (sameB_refl _)).mono ?_
    rintro e w9 ⟨rfl, hE⟩
    have E9 := Lib.hid (E8.out.trans hE)
    have I := Lib.hid (I.out.ext hE)
    have I' := Lib.hid (I'.out.ext hE)
    have J3 := Lib.hid (J3.out.ext hE)
    have J4 := Lib.hid (J4.out.ext hE)
    have J5 := Lib.hid (J5.out.ext hE)
    have J6 := Lib.hid (J6.out.ext hE)
    clear hE E8
    go_wp2_with fail
    refine (same_to _ _ _ _ true _ J3.out J4.out (sameB_refl _)).mono ?_
    rintro e w10 ⟨rfl, hE⟩
    have E10 := Lib.hid (E9.out.trans hE)
    have I := Lib.hid (I.out.ext hE)
    have I' := Lib.hid (I'.out.ext hE)
    have J5 := Lib.hid (J5.out.ext hE)
    have J6 := Lib.hid (J6.out.ext hE)
    clear hE E9
    go_wp2_with fail
    refine (same_to _ _ _ _ true _ J5.out J6.out (sameB_refl _)).mono ?_
    rintro e w11 ⟨rfl, hE⟩
    have E11 := Lib.hid (E10.out.trans hE)
    have I := Lib.hid (I.out.ext hE)
    have I' := Lib.hid (I'.out.ext hE)
    clear hE E10
    by_cases h60 : 60 < l.length
    · have h60' : (60 : Int) < l.length := by omega
      go_wp2_with fail
      go_ret
      exact ⟨rfl, E11.out⟩
    · have h60' : ¬ (60 : Int) < l.length := by omega
      go_wp2_with fail
      refine (move_v _ _ l m n _ I.out I'.out (by omega) (by omega) hn).mono ?_
      rintro e wa ⟨va, vb, rfl, hi, hj, hE⟩
      have Ea := Lib.hid (E11.out.trans hE)
      have I := Lib.hid (I.out.ext hE)
      have I' := Lib.hid (I'.out.ext hE)
      have Ja := Lib.hid hi
      have Jb := Lib.hid hj
      clear hi hj hE
      go_wp2_with fail
      refine (rmove_any _ _ l m n _ I.out I'.out (by omega) hn).mono ?_
      rintro e wb ⟨vc, vd, rfl, hi, hj, hE⟩
      have Eb := Lib.hid (Ea.out.trans hE)
      have Ja := Lib.hid (Ja.out.ext hE)
      have Jb := Lib.hid (Jb.out.ext hE)
      have Jc := Lib.hid hi
      have Jd := Lib.hid hj
      clear hi hj hE
      go_wp2_with fail
      refine (same_to _ _ _ _ true _ Ja.out Jc.out (sameB_refl _)).mono ?_
      rintro e wc ⟨rfl, hE⟩
      have Ec := Lib.hid (Eb.out.trans hE)
      have Jb := Lib.hid (Jb.out.ext hE)
      have Jd := Lib.hid (Jd.out.ext hE)
      clear hE
      go_wp2_with fail
      refine (same_to _ _ _ _ true _ Jb.out Jd.out (sameB_refl _)).mono ?_
      rintro e wd ⟨rfl, hE⟩
      go_wp2_with fail
      go_ret
      exact ⟨rfl, Ec.out.trans hE⟩

set_option maxRecDepth 100000 in
theorem danswers_great (A B : Option Addr) (n m c d : Nat) (x : Int) (w : World) (hn : n ≤ 9223372036854775807) (hm : m ≤ 9223372036854775807) (hx : -9223372036854775808 ≤ x ∧ x ≤ 9223372036854775807) (hl : 1500 < n ∨ 1500 < m ∨ (1500 < x ∧ 100 < n)) :
    Calls Try.prog 5 #[.slice A n c, .slice B m d, .int .i64 x] w fun e w' => e = .returned (.bool true) ∧ Ext w w' := by
  by_cases h1 : (1500 : Int) < n
  · go_enter Try.func5, Try.ntmps5
    go_wp2_with fail
    refine (dalive_any _).mono ?_
    rintro e w0 ⟨rfl, hE⟩
    go_wp2_with fail
    go_ret
    exact ⟨rfl, hE⟩
  · by_cases h2 : (1500 : Int) < m
    · have h1' : (n : Int) ≤ 1500 := by omega
      clear h1
      go_enter Try.func5, Try.ntmps5
      go_wp2_with fail
      refine (dalive_any _).mono ?_
      rintro e w0 ⟨rfl, hE⟩
      go_wp2_with fail
      go_ret
      exact ⟨rfl, hE⟩
    · have h1' : (n : Int) ≤ 1500 := by omega
      have h2' : (m : Int) ≤ 1500 := by omega
      have h3 : (1500 : Int) < x := by omega
      have h4 : (100 : Int) < n := by omega
      clear h1 h2
      go_enter Try.func5, Try.ntmps5
      go_wp2_with fail
      refine (dalive_any _).mono ?_
      rintro e w0 ⟨rfl, hE⟩
      go_wp2_with fail
      go_ret
      exact ⟨rfl, hE⟩
theorem danswers_any (A B : Option Addr) (c d : Nat) (l m : List Int) (n : Int) (w : World) (h : Ints w (.slice A l.length c) l) (h' : Ints w (.slice B m.length d) m) (hn : -9223372036854775808 ≤ n ∧ n ≤ 9223372036854775807) :
    Calls Try.prog 5 #[.slice A l.length c, .slice B m.length d, .int .i64 n] w fun e w' => e = .returned (.bool true) ∧ Ext w w' := by
  have k1 := h.1
  have k2 := h'.1
  unfold maxLen at k1 k2
  by_cases hg : 1500 < l.length ∨ 1500 < m.length ∨ (1500 < n ∧ 100 < l.length)
  · exact danswers_great A B _ _ c d n w (by omega) (by omega) hn hg
  · exact danswers_walk A B c d l m n w h h' (by omega) (by omega) hn (by omega)
end Go.Proofs.Ytfhkmaikilgolaa
