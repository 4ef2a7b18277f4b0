/- Stage 1: the fixed facts of every law ('alive') come out true. -/
import Derived.Test.YtcgidaobeflblaaDoorLoops
namespace Go.Proofs.YtcgidaobeflblaaDoor
open Go.RowKit Go.Proofs.YtcgidaobeflblaaDoor.Plain

theorem At_two (w : World) (b : Nat) (h : w.cell? ⟨b, 1, none⟩ = some (.int .u32 4)) :
    Calls Tryd.prog 9 #[.slice (some ⟨b, 0, none⟩) 2 2, .int .i64 3] w fun e w' => e = .returned (.int .u32 4) ∧ w = w' :=
  At_in b 0 2 2 3 4 w (by omega) (by omega) (by omega) (by simpa using h)

theorem a_halves (w : World) : Calls Tryd.prog 19 #[.int .u64 1311768467463790320] w fun e w' => e = .returned (.tuple #[.int .u32 305419896, .int .u32 2596069104]) ∧ w = w' := by
  have c1 := Halves_any 1311768467463790320 w (by omega)
  rwa [show (1311768467463790320 : Int) / 4294967296 = 305419896 from by decide, show (1311768467463790320 : Int) % 4294967296 = 2596069104 from by decide] at c1
theorem a_h8 (w : World) (hT : Tab w) : Calls Tryd.prog 11 #[.int .u32 8] w fun e w' => e = .returned (.int .i64 4) ∧ w = w' := by
  have c2 := Height_any 8 w (by omega) hT
  rwa [show heightN (8 : Int).toNat = 4 from by decide] at c2
theorem a_h0 (w : World) (hT : Tab w) : Calls Tryd.prog 11 #[.int .u32 0] w fun e w' => e = .returned (.int .i64 8) ∧ w = w' := by
  have c3 := Height_any 0 w (by omega) hT
  rwa [show heightN (0 : Int).toNat = 8 from by decide] at c3
theorem a_s8 (w : World) : Calls Tryd.prog 15 #[.int .u32 255, .int .u8 8] w fun e w' => e = .returned (.int .i32 (-1)) ∧ w = w' := by
  have c4 := Signed_any 255 8 w (by omega) (by omega)
  rwa [show sgnI (255 : Int).toNat (min (8 : Int).toNat 32) = -1 from by decide] at c4
theorem a_s32 (w : World) : Calls Tryd.prog 15 #[.int .u32 2147483648, .int .u8 32] w fun e w' => e = .returned (.int .i32 (-2147483648)) ∧ w = w' := by
  have c5 := Signed_any 2147483648 32 w (by omega) (by omega)
  rwa [show sgnI (2147483648 : Int).toNat (min (32 : Int).toNat 32) = -2147483648 from by decide] at c5
theorem a_bits (w : World) : Calls Tryd.prog 13 #[.int .u32 240, .int .u8 4, .int .u8 8] w fun e w' => e = .returned (.int .u32 15) ∧ w = w' := by
  have c := Bits_any 240 4 8 w (by omega) (by omega) (by omega)
  rwa [show cutN (240 : Int).toNat (4 : Int).toNat (8 : Int).toNat = 15 from by decide] at c
theorem a_mix (w : World) : Calls Tryd.prog 21 #[.int .u32 1, .int .u32 0] w fun e w' => e = .returned (.int .u32 3337565728) ∧ w = w' := by
  have c := Mix_any 1 0 w (by omega) (by omega)
  rwa [show mixN (1 : Int).toNat (0 : Int).toNat = 3337565728 from by decide] at c
theorem a_whole (w : World) : Calls Tryd.prog 23 #[.int .u32 305419896, .int .u32 2596069104] w fun e w' => e = .returned (.int .u64 1311768467463790320) ∧ w = w' := by
  have c := Whole_any 305419896 2596069104 w (by omega) (by omega)
  rwa [show (305419896 : Int) * 4294967296 + 2596069104 = 1311768467463790320 from by decide] at c
theorem a_pick (w : World) : Calls Tryd.prog 17 #[.int .u32 17, .int .i64 5] w fun e w' => e = .returned (.int .i64 2) ∧ w = w' := by
  have c := Pick_any 17 5 w (by omega) (by omega)
  rwa [show (if (5 : Int) < 1 then 0 else 17 % 5 : Int) = 2 from by decide] at c
theorem a_none (w : World) : Calls Tryd.prog 9 #[.slice none 0 0, .int .i64 1] w fun e w' => e = .returned (.int .u32 0) ∧ w = w' := At_none none 0 1 w (by omega)

set_option maxHeartbeats 1000000 in
theorem alive_any (w : World) (hT : Tab w) :
    Calls Tryd.prog 8 #[] w fun e w' => e = .returned (.bool true) ∧ w.alloc (.cells #[.int .u32 3, .int .u32 4] 25) = w' := by
  have HT := Lib.hid hT; clear hT
  go_enter Tryd.func8, Tryd.ntmps8
  go_wp2_with (go_at_call 19; refine (a_halves _).mono ?_; rintro e w' ⟨rfl, rfl⟩)
  refine (a_h8 _ HT.out).mono ?_; rintro e w' ⟨rfl, rfl⟩
  go_wp2_with fail
  refine (a_h0 _ HT.out).mono ?_; rintro e w' ⟨rfl, rfl⟩
  go_wp2_with fail
  refine (a_s8 _).mono ?_; rintro e w' ⟨rfl, rfl⟩
  go_wp2_with fail
  refine (a_s32 _).mono ?_; rintro e w' ⟨rfl, rfl⟩
  go_wp2_with fail
  refine (At_two _ _ (by simp)).mono ?_; rintro e w' ⟨rfl, rfl⟩
  go_wp2_with fail
  refine (a_none _).mono ?_; rintro e w' ⟨rfl, rfl⟩
  go_wp2_with (first | (go_at_call 13; refine (a_bits _).mono ?_; rintro e w' ⟨rfl, rfl⟩) | (go_at_call 21; refine (a_mix _).mono ?_; rintro e w' ⟨rfl, rfl⟩) | (go_at_call 23; refine (a_whole _).mono ?_; rintro e w' ⟨rfl, rfl⟩) | (go_at_call 17; refine (a_pick _).mono ?_; rintro e w' ⟨rfl, rfl⟩))
  go_ret
  exact ⟨rfl, rfl⟩
end Go.Proofs.YtcgidaobeflblaaDoor
