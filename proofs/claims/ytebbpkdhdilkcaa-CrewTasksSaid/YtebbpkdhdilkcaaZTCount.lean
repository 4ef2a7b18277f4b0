import Derived.Test.YtebbpkdhdilkcaaJ7
/- The document's Count. -/
namespace Go.Proofs.Ytebbpkdhdilkcaa
open Go.RowKit Go.Proofs.Ytebbpkdhdilkcaa.Plain

def CountSaid (w : World) (n g : Int) (e : Ending) (w' : World) : Prop := e = .returned (.tuple #[.int .i64 (countT n g), .int .i64 (countL n g)]) ∧ w = w'

set_option maxRecDepth 100000 in
theorem rcount_no (n g : Int) (w : World) (hn : -9223372036854775808 ≤ n ∧ n ≤ 9223372036854775807) (hg : -9223372036854775808 ≤ g ∧ g ≤ 9223372036854775807) (h : n < 1 ∨ 1000 < n ∨ g < 1 ∨ 100 < g) :
    Calls Try.prog 13 #[.int .i64 n, .int .i64 g] w (CountSaid w n g) := by
  have HC := Lib.hid (count_no n g h)
  go_enter Try.func13, Try.ntmps13
  go_wp2_with fail
  all_goals first
    | (exfalso; omega)
    | (go_ret2; exact ⟨by rw [HC.out.1, HC.out.2]; rfl, rfl⟩)

set_option maxHeartbeats 400000 in
set_option maxRecDepth 100000 in
theorem rcount_yes (g : Nat) (h3 : 1 ≤ g) (h4 : g ≤ 100) : ∀ (f n : Nat) (w : World), n ≤ f → 1 ≤ n → n ≤ 1000 →
    Calls Try.prog 13 #[.int .i64 n, .int .i64 g] w (CountSaid w n g) := by
  intro f
  induction f with
  | zero => intro n w hf h1 _; omega
  | succ f ih =>
    intro n w hf h1 h2
    obtain ⟨e1, e2, _, _⟩ := count_ok n g h1 h2 h3 h4
    have E := Lib.hid (And.intro e1 e2)
    have i1 : (1 : Int) ≤ n := by omega
    have i2 : (n : Int) ≤ 1000 := by omega
    have i3 : (1 : Int) ≤ g := by omega
    have i4 : (g : Int) ≤ 100 := by omega
    clear e1 e2
    by_cases hn : n ≤ g
    · have C := Lib.hid (cnt_one n g hn)
      have hn' : (n : Int) ≤ g := by omega
      clear hn
      go_enter Try.func13, Try.ntmps13
      go_wp2_with fail
      go_ret2
      exact ⟨by rw [E.out.1, E.out.2, C.out.1, C.out.2]; rfl, rfl⟩
    · have C := Lib.hid (cnt_more n g h3 (by omega))
      have hn' : (g : Int) < n := by omega
      obtain ⟨a, ha⟩ : ∃ a : Nat, n / 2 = a := ⟨_, rfl⟩
      obtain ⟨b, hb⟩ : ∃ b : Nat, n - n / 2 = b := ⟨_, rfl⟩
      have ha' : (n : Int) / 2 = a := by omega
      have hb' : (n : Int) - (a : Int) = b := by omega
      obtain ⟨A1, A2, A3, A4⟩ := count_ok a g (by omega) (by omega) h3 h4
      obtain ⟨B1, B2, B3, B4⟩ := count_ok b g (by omega) (by omega) h3 h4
      have IA : ∀ w, Calls Try.prog 13 #[.int .i64 a, .int .i64 g] w fun e w' => e = .returned (.tuple #[.int .i64 (cntT a g), .int .i64 (cntL a g)]) ∧ w = w' := fun w =>
        (ih a w (by omega) (by omega) (by omega)).mono fun e w' h => by unfold CountSaid at h; rw [A1, A2] at h; exact h
      have IB : ∀ w, Calls Try.prog 13 #[.int .i64 b, .int .i64 g] w fun e w' => e = .returned (.tuple #[.int .i64 (cntT b g), .int .i64 (cntL b g)]) ∧ w = w' := fun w =>
        (ih b w (by omega) (by omega) (by omega)).mono fun e w' h => by unfold CountSaid at h; rw [B1, B2] at h; exact h
      have HC : Hid (cntT n g = cntT a g + cntT b g + 1 ∧ cntL n g = cntL a g + cntL b g) := Lib.hid (by rw [← hb, ← ha]; exact C.out)
      generalize cntT a g = ta at *
      generalize cntL a g = la at *
      generalize cntT b g = tb at *
      generalize cntL b g = lb at *
      have HA := Lib.hid IA
      have HB := Lib.hid IB
      clear ih IA IB A1 A2 B1 B2 C ha hb hn
      go_enter Try.func13, Try.ntmps13
      go_wp2_with fail
      refine (HA.out _).mono ?_
      rintro e w1 ⟨rfl, rfl⟩
      go_wp2_with fail
      refine (HB.out _).mono ?_
      rintro e w2 ⟨rfl, rfl⟩
      go_wp2_with fail
      go_ret2
      exact ⟨by rw [E.out.1, E.out.2, HC.out.1, HC.out.2]; first | rfl | go_num | (simp; done), rfl⟩

theorem rcount_any (n g : Int) (w : World) (hn : -9223372036854775808 ≤ n ∧ n ≤ 9223372036854775807) (hg : -9223372036854775808 ≤ g ∧ g ≤ 9223372036854775807) :
    Calls Try.prog 13 #[.int .i64 n, .int .i64 g] w (CountSaid w n g) := by
  by_cases h : n < 1 ∨ 1000 < n ∨ g < 1 ∨ 100 < g
  · exact rcount_no n g w hn hg h
  · obtain ⟨a, rfl⟩ : ∃ a : Nat, n = a := ⟨n.toNat, by omega⟩
    obtain ⟨b, rfl⟩ : ∃ b : Nat, g = b := ⟨g.toNat, by omega⟩
    exact rcount_yes b (by omega) (by omega) a a w (Nat.le_refl _) (by omega) (by omega)
end Go.Proofs.Ytebbpkdhdilkcaa
