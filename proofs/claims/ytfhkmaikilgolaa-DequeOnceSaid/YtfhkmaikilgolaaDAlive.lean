/- The fixed fact of the deque's statements. -/
import Derived.Test.YtfhkmaikilgolaaDTo
namespace Go.Proofs.Ytfhkmaikilgolaa
open Go.RowKit Go.Proofs.Ytfhkmaikilgolaa.Plain

set_option maxHeartbeats 1600000 in
set_option maxRecDepth 100000 in
theorem dalive_any (w : World) : Calls Try.prog 16 #[] w fun e w' => e = .returned (.bool true) ∧ Ext w w' := by
  go_enter Try.func16, Try.ntmps16
  go_wp2_with fail
  refine (push_to _ 2 2 [1, 2] [1, 2, 3] 3 0 3 _ (Ints.lit2 w 1 2 (by omega) (by omega)) rfl (by omega) (by omega) (by decide) (by decide) rfl).mono ?_
  rintro e w1 ⟨A1, c1, rfl, hi, hE⟩
  have E1 := Lib.hid (((Ext.refl w).alloc _).trans hE)
  have I1 := Lib.hid hi
  clear hi hE
  go_wp2_with fail
  refine (pop_to _ 3 _ [1, 2, 3] [1, 2] 3 0 2 _ I1.out rfl (by omega) (by decide) (by decide) (by decide) rfl).mono ?_
  rintro e w2 ⟨A2, c2, rfl, hi, hE⟩
  have E2 := Lib.hid (E1.out.trans hE)
  have I1 := Lib.hid (I1.out.ext hE)
  have I2 := Lib.hid hi
  clear hi hE E1
  go_wp2_with fail
  refine (steal_to _ 3 _ [1, 2, 3] [2, 3] 1 0 2 _ I1.out rfl (by omega) (by decide) (by decide) (by decide) rfl).mono ?_
  rintro e w3 ⟨A3, c3, rfl, hi, hE⟩
  have E3 := Lib.hid (E2.out.trans hE)
  have I1 := Lib.hid (I1.out.ext hE)
  have I2 := Lib.hid (I2.out.ext hE)
  have I3 := Lib.hid hi
  clear hi hE E2
  go_wp2_with fail
  refine (pop_to none 0 0 [] [] 0 4 0 _ (Ints.nil _ _ _) rfl (by omega) (by decide) (by decide) (by decide) rfl).mono ?_
  rintro e w4 ⟨A4, c4, rfl, hi, hE⟩
  have E4 := Lib.hid (E3.out.trans hE)
  have I1 := Lib.hid (I1.out.ext hE)
  have I2 := Lib.hid (I2.out.ext hE)
  have I3 := Lib.hid (I3.out.ext hE)
  clear hi hE E3
  go_wp2_with fail
  refine (look_to _ 3 _ [1, 2, 3] 3 1 true _ I1.out rfl (by omega) (by decide) (by decide) (by decide)).mono ?_
  rintro e w5 ⟨rfl, hE⟩
  have E5 := Lib.hid (E4.out.trans hE)
  have I1 := Lib.hid (I1.out.ext hE)
  have I2 := Lib.hid (I2.out.ext hE)
  have I3 := Lib.hid (I3.out.ext hE)
  clear hE E4
  go_wp2_with fail
  refine (move_to _ _ 3 1 _ 1 [1, 2, 3] [9] [3] [9, 1, 2] 2 1 3 _ (I1.out.ext ((Ext.refl _).alloc _)) (Ints.one w5 9 1 (by omega) (by omega)) rfl rfl (by omega) (by omega) (by omega) (by decide) (by decide) rfl rfl).mono ?_
  rintro e w6 ⟨A6, c6, B6, d6, rfl, hi, hj, hE⟩
  have E6 := Lib.hid ((E5.out.alloc _).trans hE)
  have I2 := Lib.hid ((I2.out.ext ((Ext.refl _).alloc _)).ext hE)
  have I3 := Lib.hid ((I3.out.ext ((Ext.refl _).alloc _)).ext hE)
  have I6 := Lib.hid hi
  have J6 := Lib.hid hj
  clear hi hj hE E5 I1
  go_wp2_with fail
  refine (same_to _ _ [1, 2] [1, 2] true _ (I2.out.ext ((Ext.refl _).alloc _)) (Ints.lit2 w6 1 2 (by omega) (by omega)) (by decide)).mono ?_
  rintro e w7 ⟨rfl, hE⟩
  have E7 := Lib.hid ((E6.out.alloc _).trans hE)
  have I3 := Lib.hid ((I3.out.ext ((Ext.refl _).alloc _)).ext hE)
  have I6 := Lib.hid ((I6.out.ext ((Ext.refl _).alloc _)).ext hE)
  have J6 := Lib.hid ((J6.out.ext ((Ext.refl _).alloc _)).ext hE)
  clear hE E6 I2
  go_wp2_with fail
  refine (same_to _ _ [2, 3] [2, 3] true _ (I3.out.ext ((Ext.refl _).alloc _)) (Ints.lit2 w7 2 3 (by omega) (by omega)) (by decide)).mono ?_
  rintro e w8 ⟨rfl, hE⟩
  have E8 := Lib.hid ((E7.out.alloc _).trans hE)
  have I6 := Lib.hid ((I6.out.ext ((Ext.refl _).alloc _)).ext hE)
  have J6 := Lib.hid ((J6.out.ext ((Ext.refl _).alloc _)).ext hE)
  clear hE E7 I3
  go_wp2_with fail
  refine (same_to _ _ [3] [3] true _ (I6.out.ext ((Ext.refl _).alloc _)) (Ints.one w8 3 1 (by omega) (by omega)) (by decide)).mono ?_
  rintro e w9 ⟨rfl, hE⟩
  have E9 := Lib.hid ((E8.out.alloc _).trans hE)
  have J6 := Lib.hid ((J6.out.ext ((Ext.refl _).alloc _)).ext hE)
  clear hE E8 I6
  go_wp2_with fail
  refine (same_to _ _ [9, 1, 2] [9, 1, 2] true _ (J6.out.ext ((Ext.refl _).alloc _)) (Ints.lit3 w9 9 1 2 (by omega) (by omega) (by omega)) (by decide)).mono ?_
  rintro e w10 ⟨rfl, hE⟩
  have E10 := Lib.hid ((E9.out.alloc _).trans hE)
  clear hE E9 J6
  go_wp2_with fail
  go_ret
  exact ⟨rfl, E10.out⟩
end Go.Proofs.Ytfhkmaikilgolaa
