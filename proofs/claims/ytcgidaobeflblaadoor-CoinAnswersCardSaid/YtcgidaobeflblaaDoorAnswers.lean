/- Stage 1: the walk of CoinAnswers: one great comparison, whose order Go leaves open; all of it only reads. -/
import Derived.Test.YtcgidaobeflblaaDoorLaws
import Derived.Test.YtcgidaobeflblaaDoorLaw
import Derived.WalkSmall
namespace Go.Proofs.YtcgidaobeflblaaDoor
open Go.RowKit Go.Proofs.YtcgidaobeflblaaDoor.Plain

/-- what the one world has in a cell, the other has too -/
def Ext (w W : World) : Prop := ∀ a v, w.cell? a = some v → W.cell? a = some v
theorem Ext.alloc {w W : World} (h : Ext w W) (o : Obj) : Ext w (W.alloc o) := fun a v hv => by
  have := h a v hv
  rw [World.cell?_alloc_lt W o _ (World.block_lt_of_cell? _ _ this)]; exact this
theorem Ext.drewN {w W : World} (h : Ext w W) (n : Nat) : Ext w (W.drewN n) := fun a v hv => by
  have := h a v hv
  simpa using this
theorem Ext.tab {w W : World} (h : Ext w W) (hT : Tab w) : Tab W := fun j hj => h _ _ (hT j hj)

/-- a call that leaves its world alone, turned as 'go_quiet' wants it -/
theorem flip {f : FuncId} {args : Array Value} {w : World} {v : Value} (h : Calls Tryd.prog f args w fun e w' => e = .returned v ∧ w = w') :
    Calls Tryd.prog f args w fun e w' => e = .returned v ∧ w' = w := h.mono fun _ _ h => ⟨h.1, h.2.symm⟩


set_option maxHeartbeats 2000000 in
theorem answers_walk (s : Value) (i v p q : Int) (w : World) (hT : Tab w) (hv : 0 ≤ v ∧ v ≤ 4294967295)
    (hi : -9223372036854775808 ≤ i ∧ i ≤ 9223372036854775807) (hp : 0 ≤ p ∧ p ≤ 255) (hq : 0 ≤ q ∧ q ≤ 255)
    (c1 : ∀ W, Ext w W → Calls Tryd.prog 9 #[s, .int .i64 i] W fun e w' => e = .returned (.int .u32 v) ∧ W = w')
    (c2 : ∀ W, Ext w W → Calls Tryd.prog 10 #[s, .int .i64 i] W fun e w' => e = .returned (.int .u32 v) ∧ W = w') :
    Calls Tryd.prog 3 #[s, .int .i64 i, .agg #[.int .u8 p, .int .u8 q]] w fun e w' => e = .returned (.bool true) ∧ Below w.heap.size w w' := by
  have HT := Lib.hid hT; have C1 := Lib.hid c1; have C2 := Lib.hid c2
  clear hT c1 c2
  have e0 : Ext w w := fun _ _ h => h
  have E2 := Lib.hid ((e0.alloc (.cells #[.int .u8 p, .int .u8 q] 23)).alloc two34)
  clear e0
  go_enter Tryd.func3, Tryd.ntmps3
  go_wp2_with fail
  refine (alive_any _ (HT.out.alloc _)).mono ?_; rintro e w' ⟨rfl, rfl⟩
  go_wp2_with fail
  refine (C1.out _ E2.out).mono ?_; rintro e w' ⟨rfl, rfl⟩
  go_wp2_with fail
  go_quiet (first
    | (go_at_call 10; exact Calls.quiet_of_same (flip (C2.out _ (E2.out.drewN _))))
    | (go_at_call 11; exact Calls.quiet_of_same (flip (Height_any _ _ hv ((E2.out.drewN _).tab HT.out))))
    | (go_at_call 12; exact Calls.quiet_of_same (flip (rHeight_any _ _ hv)))
    | (go_at_call 13; exact Calls.quiet_of_same (flip (Bits_any _ _ _ _ hv hp hq)))
    | (go_at_call 14; exact Calls.quiet_of_same (flip (rBits_any _ _ _ _ hv hp hq)))
    | (go_at_call 15; exact Calls.quiet_of_same (flip (Signed_any _ _ _ hv hp)))
    | (go_at_call 16; exact Calls.quiet_of_same (flip (rSigned_any _ _ _ hv hp)))
    | (go_at_call 17; exact Calls.quiet_of_same (flip (Pick_any _ _ _ hv hi)))
    | (go_at_call 18; exact Calls.quiet_of_same (flip (rPick_any _ _ _ hv hi))))
  go_wp2
  all_goals go_ret
  all_goals exact ⟨rfl, below_drewN (((Below.refl _ w).alloc (Nat.le_refl _) _).alloc (by simp) _) nq⟩

theorem answers_any (s : Value) (xs : List Int) (i p q : Int) (w : World) (hT : Tab w) (hs : Law.Ints w .u32 s xs) (hx : ∀ n ∈ xs, 0 ≤ n ∧ n ≤ 4294967295)
    (hi : -9223372036854775808 ≤ i ∧ i ≤ 9223372036854775807) (hp : 0 ≤ p ∧ p ≤ 255) (hq : 0 ≤ q ∧ q ≤ 255) :
    Calls Tryd.prog 3 #[s, .int .i64 i, .agg #[.int .u8 p, .int .u8 q]] w fun e w' => e = .returned (.bool true) ∧ Below w.heap.size w w' := by
  by_cases h0 : i < 0
  · exact answers_walk s i 0 p q w hT (by omega) hi hp hq (fun W _ => At_neg s i W h0) (fun W _ => rAt_neg s i W h0)
  · obtain ⟨hm, ⟨rfl, a, cap, rfl⟩ | ⟨b, off, cap, rfl, hl, hc⟩⟩ := hs
    · exact answers_walk _ i 0 p q w hT (by omega) hi hp hq (fun W _ => At_none a cap i W (by omega)) (fun W _ => rAt_none a cap i W (by omega))
    · unfold maxLen at hm
      have h4 : i % (xs.length : Int) < xs.length := Int.emod_lt_of_pos _ (by omega)
      have h3 : 0 ≤ i % (xs.length : Int) := Int.emod_nonneg _ (by omega)
      have hj : (i % (xs.length : Int)).toNat < xs.length := by omega
      have c := hc _ hj
      have hv : 0 ≤ xs.getD (i % (xs.length : Int)).toNat 0 ∧ xs.getD (i % (xs.length : Int)).toNat 0 ≤ 4294967295 := by
        apply hx
        simp only [List.getD_eq_getElem?_getD, List.getElem?_eq_getElem hj, Option.getD_some]
        exact List.getElem_mem _
      exact answers_walk _ i _ p q w hT hv hi hp hq (fun W hW => At_in b off _ cap i _ W (by omega) hl (by omega) (hW _ _ c)) (fun W hW => rAt_in b off _ cap i _ W (by omega) hl (by omega) (hW _ _ c))
end Go.Proofs.YtcgidaobeflblaaDoor
