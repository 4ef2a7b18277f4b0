/- The program's Count: a closure that calls itself, by a contract of its own. -/
import Derived.Test.YtfigfndabokepaaTAsk
import Derived.Laws.EntriesVeiled
namespace Go.Proofs.Ytfigfndabokepaa
open Go.BigFrame
open Go.RowKit Go.Proofs.Ytfigfndabokepaa.Plain

/-- the closure, as a value: it holds where the grain lies, and where itself lies -/
def leafFn (p q : Nat) : Value := .func (.func 29) #[] #[.pointer (some ⟨p, 0, none⟩), .pointer (some ⟨q, 0, none⟩)]

def Drawn (w w' : World) : Prop := ∃ k, w' = w.drewN k
theorem Drawn.refl (w : World) : Drawn w w := ⟨0, rfl⟩
theorem Drawn.trans {a b c : World} (h : Drawn a b) (k : Drawn b c) : Drawn a c := by
  obtain ⟨m, rfl⟩ := h
  obtain ⟨n, rfl⟩ := k
  exact ⟨m + n, by simp⟩
theorem Drawn.drew (w : World) : Drawn w w.drew := ⟨1, rfl⟩
theorem Drawn.ext {w w' : World} (h : Drawn w w') : Ext w w' := by
  obtain ⟨k, rfl⟩ := h
  exact (Ext.refl w).drewN k

set_option maxHeartbeats 800000 in
set_option maxRecDepth 100000 in
theorem leaf_any (g : Nat) (h3 : 1 ≤ g) (h4 : g ≤ 100) (p q : Nat) : ∀ (f n : Nat) (w : World), n ≤ f → 1 ≤ n → n ≤ 1000 → w.cell? ⟨p, 0, none⟩ = some (.int .i64 g) → w.cell? ⟨q, 0, none⟩ = some (leafFn p q) →
    Calls Try.prog 29 #[.int .i64 n, .pointer (some ⟨p, 0, none⟩), .pointer (some ⟨q, 0, none⟩)] w fun e w' => e = .returned (.int .i64 (cntL n g)) ∧ Drawn w w' := by
  intro f
  induction f with
  | zero => intro n w hf h1 _; omega
  | succ f ih =>
    intro n w hf h1 h2 hp hq
    unfold leafFn at hq
    have i1 : (1 : Int) ≤ n := by omega
    have i2 : (n : Int) ≤ 1000 := by omega
    have i3 : (1 : Int) ≤ g := by omega
    have i4 : (g : Int) ≤ 100 := by omega
    by_cases hn : n ≤ g
    · have C := Lib.hid (cnt_one n g hn)
      have hn' : (n : Int) ≤ g := by omega
      clear hn
      go_enter Try.func29, Try.ntmps29
      go_wp2_with fail
      go_ret
      exact ⟨by rw [C.out.2]; rfl, Drawn.refl w⟩
    · have C := Lib.hid (cnt_more n g h3 (by omega))
      have hn' : (g : Int) < n := by omega
      obtain ⟨a, ha⟩ : ∃ a : Nat, n / 2 = a := ⟨_, rfl⟩
      obtain ⟨b, hb⟩ : ∃ b : Nat, n - n / 2 = b := ⟨_, rfl⟩
      have ha' : (n : Int) / 2 = a := by omega
      have hb' : (n : Int) - (a : Int) = b := by omega
      obtain ⟨_, _, _, A4⟩ := count_ok a g (by omega) (by omega) h3 h4
      obtain ⟨_, _, _, B4⟩ := count_ok b g (by omega) (by omega) h3 h4
      have IA : ∀ w', Drawn w w' → Calls Try.prog 29 #[.int .i64 a, .pointer (some ⟨p, 0, none⟩), .pointer (some ⟨q, 0, none⟩)] w' fun e w'' => e = .returned (.int .i64 (cntL a g)) ∧ Drawn w w'' := fun w' hD =>
        (ih a w' (by omega) (by omega) (by omega) (hD.ext.cell hp) (hD.ext.cell hq)).mono fun e w'' h => ⟨h.1, hD.trans h.2⟩
      have IB : ∀ w', Drawn w w' → Calls Try.prog 29 #[.int .i64 b, .pointer (some ⟨p, 0, none⟩), .pointer (some ⟨q, 0, none⟩)] w' fun e w'' => e = .returned (.int .i64 (cntL b g)) ∧ Drawn w w'' := fun w' hD =>
        (ih b w' (by omega) (by omega) (by omega) (hD.ext.cell hp) (hD.ext.cell hq)).mono fun e w'' h => ⟨h.1, hD.trans h.2⟩
      have HC : Hid (cntL n g = cntL a g + cntL b g) := Lib.hid (by rw [← hb, ← ha]; exact C.out.2)
      generalize cntL a g = la at *
      generalize cntL b g = lb at *
      have HA := Lib.hid IA
      have HB := Lib.hid IB
      have hw1 : IntKind.i64.wrap (b : Int) = b := IntWalk.i64_in _ (by omega)
      have hw2 : IntKind.i64.wrap ((la : Int) + lb) = la + lb := IntWalk.i64_in _ (by omega)
      have HALL : Hid (∀ w', Drawn w w' → w'.cell? ⟨p, 0, none⟩ = some (.int .i64 g) ∧ w'.cell? ⟨q, 0, none⟩ = some (.func (.func 29) #[] #[.pointer (some ⟨p, 0, none⟩), .pointer (some ⟨q, 0, none⟩)])) := Lib.hid fun w' hD => ⟨hD.ext.cell hp, hD.ext.cell hq⟩
      have HH : Hid (in64 (n : Int)) := Lib.hid (by unfold in64; omega)
      clear ih IA IB C ha hb hn
      go_enter Try.func29, Try.ntmps29
      go_wp2_with fail
      refine (half_any _ _ HH.out (by omega)).mono ?_
      rintro e w1 ⟨he, rfl⟩
      rw [ha'] at he
      subst he
      go_wp2_with fail
      refine wp_region_class (Drawn w) (by kernel_rfl) (by kernel_rfl) (Drawn.drew w) ?_
      repeat (first
        | go_big_quiet_skip
        | (go_big_quiet_want
           first
           | (go_big_quiet_op; go_big_quiet_on)
           | (unfold Oper.quiet
              apply Exists.intro
              refine ⟨fun w' hC => ?_, ?_⟩
              · (obtain ⟨k1, k2⟩ := HALL.out w' hC
                 unfold Oper.quietAt
                 go_simp
                 first
                 | exact rfl
                 | (with_reducible exact HA.out w' hC)
                 | (with_reducible exact HB.out w' hC))
              go_simp
              go_big_quiet_on)))
      refine wpQuiet_nil ?_
      intro w3 hC3
      go_wp2_with fail
      go_ret
      exact ⟨by rw [HC.out]; first | rfl | go_num | (simp; done), hC3⟩

set_option maxHeartbeats 400000 in
set_option maxRecDepth 100000 in
theorem count_any (n g : Int) (w : World) (hn : in64 n) (hg : in64 g) :
    Calls Try.prog 14 #[.int .i64 n, .int .i64 g] w fun e w' => e = .returned (.tuple #[.int .i64 (countT n g), .int .i64 (countL n g)]) ∧ Ext w w' := by
  have HN := Lib.hid hn
  have HG := Lib.hid hg
  cases hc : cOk n g with
  | false =>
    have HC := Lib.hid hc
    have HR : Hid (countT n g = 0 ∧ countL n g = 0) := Lib.hid (by unfold countT countL; rw [hc]; exact ⟨rfl, rfl⟩)
    clear hc hn hg
    go_enter Try.func14, Try.ntmps14
    go_wp2_with fail
    refine (sized_any _ _ _ HN.out HG.out).mono ?_
    rintro e w1 ⟨he, rfl⟩
    rw [HC.out] at he
    subst he
    go_wp2_with fail
    go_ret2
    exact ⟨by rw [HR.out.1, HR.out.2]; rfl, (Ext.refl w).alloc _⟩
  | true =>
    have HC := Lib.hid hc
    obtain ⟨a1, a2, a3, a4⟩ : 1 ≤ n ∧ n ≤ 1000 ∧ 1 ≤ g ∧ g ≤ 100 := by unfold cOk at hc; simp only [Bool.and_eq_true, decide_eq_true_eq] at hc; omega
    obtain ⟨N, rfl⟩ : ∃ N : Nat, n = N := ⟨n.toNat, by omega⟩
    obtain ⟨G, rfl⟩ : ∃ G : Nat, g = G := ⟨g.toNat, by omega⟩
    obtain ⟨e1, e2, e3, e4⟩ := count_ok N G (by omega) (by omega) (by omega) (by omega)
    have hb := cnt_bd G (by omega) N N (Nat.le_refl _) (by omega)
    have HR : Hid (countT (N : Int) (G : Int) = 2 * (cntL N G : Int) - 1 ∧ countL (N : Int) (G : Int) = cntL N G) := Lib.hid ⟨by rw [e1]; omega, e2⟩
    obtain ⟨L, hL⟩ : ∃ L, cntL N G = L := ⟨_, rfl⟩
    rw [hL] at HR e4 hb
    have HL := Lib.hid hL
    have hb2 : 1 ≤ L := hb.2.1
    have l1 : (1 : Int) ≤ L := by omega
    have l2 : (L : Int) ≤ 1000 := by omega
    clear hc hn hg e1 e2 e3 hb hL
    go_enter Try.func14, Try.ntmps14
    go_wp2_with fail
    refine (sized_any _ _ _ HN.out HG.out).mono ?_
    rintro e w1 ⟨he, rfl⟩
    rw [HC.out] at he
    subst he
    have hmf : ∀ (fn : Fn) (first cap : Array Value) (w : World), (Instr.makeFunc fn first cap).run Try.prog w = .ok (.func fn first cap) w := fun _ _ _ _ => rfl
    go_wp2_with fail
    refine Calls.mono (leaf_any G (by omega) (by omega) w.heap.size (w.heap.size + 1) N N _ (Nat.le_refl _) (by omega) (by omega) ?_ ?_) ?_
    · go_simp
    · unfold leafFn; go_simp
    rintro e w1 ⟨he, hD⟩
    rw [HL.out] at he
    subst he
    have HE := Lib.hid hD.ext
    clear hD
    go_wp2_with fail
    go_ret2
    refine ⟨by rw [HR.out.1, HR.out.2]; first | rfl | go_num | (simp; done), ?_⟩
    first
    | exact (((Ext.refl w).alloc _).alloc _).trans HE.out
    | exact ((((Ext.refl w).alloc _).alloc _).setCell (by simp) _).trans HE.out
end Go.Proofs.Ytfigfndabokepaa
