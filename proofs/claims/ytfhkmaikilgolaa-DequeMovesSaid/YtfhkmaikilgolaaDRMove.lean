/- The document's Move. -/
import Derived.Test.YtfhkmaikilgolaaDRef
namespace Go.Proofs.Ytfhkmaikilgolaa
open Go.RowKit Go.Proofs.Ytfhkmaikilgolaa.Plain

theorem rpush_to (v : Value) (l l' : List Int) (x E : Int) (w : World) (h : Ints w v l) (hl : l.length ≤ 4000) (hx : -9223372036854775808 ≤ x ∧ x ≤ 9223372036854775807)
    (e1 : pushL l x = l') (e2 : pushE l = E) :
    Calls Try.prog 18 #[v, .int .i64 x] w fun e w' => ∃ v', e = .returned (.tuple #[v', .int .i64 E]) ∧ Ints w' v' l' ∧ Ext w w' := by
  subst e1 e2
  obtain ⟨A, c, rfl, _⟩ := h.slice
  exact (rpush_any A c l x w h hl hx).mono fun e w' ⟨A, c, he, hi, hE⟩ => ⟨_, he, hi, hE⟩
theorem rsteal_to (v : Value) (l l' : List Int) (x E : Int) (w : World) (h : Ints w v l) (hl : l.length ≤ 4000)
    (e1 : stealL l = l') (e2 : topD l = x) (e3 : popE l = E) :
    Calls Try.prog 22 #[v] w fun e w' => ∃ v', e = .returned (.tuple #[v', .int .i64 x, .int .i64 E]) ∧ Ints w' v' l' ∧ Ext w w' := by
  subst e1 e2 e3
  obtain ⟨A, c, rfl, _⟩ := h.slice
  exact (rsteal_any A c l w h hl).mono fun e w' ⟨A, c, he, hi, hE⟩ => ⟨_, he, hi, hE⟩

def RMoveSaid (w : World) (f' t' : List Int) (e : Ending) (w' : World) : Prop :=
  ∃ u v, e = .returned (.tuple #[u, v]) ∧ Ints w' u f' ∧ Ints w' v t' ∧ Ext w w'

set_option maxHeartbeats 1600000 in
set_option maxRecDepth 100000 in
theorem rmove_any (u v : Value) (f t : List Int) (m : Int) (w : World) (h : Ints w u f) (h' : Ints w v t) (hf : f.length + t.length ≤ 4000) (hm : -9223372036854775808 ≤ m ∧ m ≤ 9223372036854775807) :
    Calls Try.prog 27 #[u, v, .int .i64 m] w (RMoveSaid w (moveF f t m) (moveT f t m)) := by
  have HF := Lib.hid h
  have HT := Lib.hid h'
  clear h h'
  go_enter Try.func27, Try.ntmps27
  go_wp2
  go_loopw [0, 1, 8, 9, 10, 11, 12, 13] (fun u v i _ _ _ _ _ wr => ∃ k : Nat, i = .int .i64 k ∧ Ints wr u (f.drop k) ∧ Ints wr v (t ++ f.take k) ∧ k ≤ moveN f t m ∧ Ext w wr) (fun _ _ i _ _ _ _ _ _ => (m - intOf i).toNat)
  case atStart => exact ⟨0, rfl, by simpa using HF.out, by simpa using HT.out, Nat.zero_le _, Ext.refl _⟩
  case round =>
    obtain ⟨k, rfl, hu, hv, hk, hE⟩ := hrel
    have hkf : k ≤ f.length := Nat.le_trans hk (moveN_from f t m)
    have HU := Lib.hid hu
    have HV := Lib.hid hv
    have HE := Lib.hid hE
    have HK := Lib.hid hk
    have eD : Hid ((f.drop k).length = f.length - k) := Lib.hid (by rw [List.length_drop])
    have eT : Hid ((t ++ f.take k).length = t.length + k) := Lib.hid (by rw [List.length_append, List.length_take]; omega)
    clear hu hv hE hk
    by_cases h1 : (k : Int) < m
    · by_cases h2 : k < f.length
      · obtain ⟨x, hx⟩ : ∃ x, f.getD k 0 = x := ⟨_, rfl⟩
        have hb : -9223372036854775808 ≤ x ∧ x ≤ 9223372036854775807 := hx ▸ HF.out.getD_bd k
        have q2 := Lib.hid ((drop_top f k).trans hx)
        have q1 := Lib.hid (drop_steal f k)
        have q3 := Lib.hid (popE_more f k h2)
        by_cases h3 : t.length + k < 1000
        · have q4 : Hid (pushL (t ++ f.take k) x = t ++ f.take (k + 1)) := Lib.hid (by rw [← hx]; exact push_more f t k h2 h3)
          have q5 := Lib.hid (pushE_more f t k hkf h3)
          have q6 := Lib.hid (moveN_more f t m k h1 h2 h3)
          clear hx
          go_wp2_with fail
          refine (rsteal_to _ _ _ _ _ _ HU.out (by rw [eD.out]; omega) q1.out q2.out q3.out).mono ?_
          rintro e w1 ⟨v1, rfl, hi, hE1⟩
          go_wp2_with fail
          refine (rpush_to _ _ _ _ _ _ (HV.out.ext hE1) (by rw [eT.out]; omega) hb q4.out q5.out).mono ?_
          rintro e w2 ⟨v2, rfl, hj, hE2⟩
          go_wp2
          go_roundw
          case rel => exact ⟨k + 1, by go_num, hi.ext hE2, hj, q6.out, (HE.out.trans hE1).trans hE2⟩
          case measure => simp [intOf]; omega
        · have q5 := Lib.hid (pushE_full f t k hkf (by omega))
          have q6 := moveN_end f t m k HK.out (.inr (.inr (by omega)))
          have q7 : Hid (moveF f t m = f.drop k) := Lib.hid (by unfold moveF; rw [q6])
          have q8 : Hid (moveT f t m = t ++ f.take k) := Lib.hid (by unfold moveT; rw [q6])
          clear hx q6
          go_wp2_with fail
          refine (rsteal_to _ _ _ _ _ _ HU.out (by rw [eD.out]; omega) q1.out q2.out q3.out).mono ?_
          rintro e w1 ⟨v1, rfl, hi, hE1⟩
          go_wp2_with fail
          refine (rpush_to _ _ _ _ _ _ (HV.out.ext hE1) (by rw [eT.out]; omega) hb rfl q5.out).mono ?_
          rintro e w2 ⟨v2, rfl, hj, hE2⟩
          go_wp2
          go_ret2
          exact ⟨_, _, rfl, by rw [q7.out]; exact (HU.out.ext hE1).ext hE2, by rw [q8.out]; exact (HV.out.ext hE1).ext hE2, (HE.out.trans hE1).trans hE2⟩
      · have q1 := Lib.hid (drop_steal f k)
        have q2 : Hid (topD (f.drop k) = 0) := Lib.hid (by rw [drop_top, List.getD_eq_getElem?_getD, List.getElem?_eq_none (by omega)]; rfl)
        have q3 := Lib.hid (popE_end f k (by omega))
        have q6 := moveN_end f t m k HK.out (.inr (.inl (by omega)))
        have q7 : Hid (moveF f t m = f.drop k) := Lib.hid (by unfold moveF; rw [q6])
        have q8 : Hid (moveT f t m = t ++ f.take k) := Lib.hid (by unfold moveT; rw [q6])
        clear q6
        go_wp2_with fail
        refine (rsteal_to _ _ _ _ _ _ HU.out (by rw [eD.out]; omega) q1.out q2.out q3.out).mono ?_
        rintro e w1 ⟨v1, rfl, hi, hE1⟩
        go_wp2_with fail
        refine (rpush_to _ _ _ 0 _ _ (HV.out.ext hE1) (by rw [eT.out]; omega) (by omega) rfl rfl).mono ?_
        rintro e w2 ⟨v2, rfl, hj, hE2⟩
        go_wp2
        go_ret2
        exact ⟨_, _, rfl, by rw [q7.out]; exact (HU.out.ext hE1).ext hE2, by rw [q8.out]; exact (HV.out.ext hE1).ext hE2, (HE.out.trans hE1).trans hE2⟩
    · go_wp2
      go_ret2
      have q := moveN_end f t m k HK.out (.inl (by omega))
      refine ⟨_, _, rfl, ?_, ?_, HE.out⟩
      · unfold moveF; rw [q]; exact HU.out
      · unfold moveT; rw [q]; exact HV.out
end Go.Proofs.Ytfhkmaikilgolaa
