/- The library's Grow and Concat at lists of integers; room of a deque. -/
import Derived.Test.YtfhkmaikilgolaaBase
import Derived.Test.YtfhkmaikilgolaaDPlain
import Derived.Lib.AppendZeros
namespace Go.Proofs.Ytfhkmaikilgolaa
open Go.RowKit Go.Proofs.Ytfhkmaikilgolaa.Plain

/-- a part of a list, from its beginning -/
theorem Ints.take {w : World} {A : Option Addr} {n c : Nat} {xs : List Int} (h : Ints w (.slice A n c) xs) (k c' : Nat) (hk : k ≤ xs.length) (hc : k ≤ c') : Ints w (.slice A k c') (xs.take k) := by
  obtain ⟨h1, h2, A', cap, hv, hcap, h3⟩ := h
  cases hv
  have hl : (xs.take k).length = k := by rw [List.length_take]; omega
  refine ⟨by rw [hl]; omega, fun n hn => h2 n (List.mem_of_mem_take hn), A, c', by rw [hl], by omega, fun hp => ?_⟩
  rw [hl] at hp
  obtain ⟨b, off, rfl, hcc⟩ := h3 (by omega)
  refine ⟨b, off, rfl, fun j hj => ?_⟩
  rw [hl] at hj
  rw [hcc j (by omega), getD_take _ _ _ hj]
/-- a part of a list, from a place on to its end -/
theorem Ints.drop {w : World} {b off n c : Nat} {xs : List Int} (h : Ints w (.slice (some ⟨b, off, none⟩) n c) xs) (k m c' : Nat) (hm : m = xs.length - k) (hc : m ≤ c') : Ints w (.slice (some ⟨b, off + k, none⟩) m c') (xs.drop k) := by
  obtain ⟨h1, h2, A', cap, hv, hcap, h3⟩ := h
  cases hv
  have hl : (xs.drop k).length = m := by rw [List.length_drop]; omega
  refine ⟨by rw [hl]; omega, fun n hn => h2 n (List.mem_of_mem_drop hn), _, c', by rw [hl], by omega, fun hp => ?_⟩
  obtain ⟨b', off', he, hcc⟩ := h3 (by omega)
  cases he
  refine ⟨b, off + k, rfl, fun j hj => ?_⟩
  rw [hl] at hj
  rw [Nat.add_assoc, hcc (k + j) (by omega), getD_drop]

theorem add_at (b off j : Nat) : (⟨b, off, none⟩ : Addr).add j = ⟨b, off + j, none⟩ := by
  by_cases h0 : j = 0
  · subst h0; rfl
  · simp [Addr.add, h0]
/-- .. as the walk writes it, where the address is open -/
theorem Ints.dropAdd {w : World} {ad : Addr} {n c : Nat} {xs : List Int} (h : Ints w (.slice (some ad) n c) xs) (k m c' : Nat) (hm : m = xs.length - k) (hc : m ≤ c') : Ints w (.slice (some (ad.add k)) m c') (xs.drop k) := by
  by_cases h0 : xs.drop k = []
  · have : m = 0 := by have := congrArg List.length h0; rw [List.length_drop] at this; simp at this; omega
    subst this
    rw [h0]
    exact Ints.nil _ _ _
  · have hl : 0 < xs.length := by
      cases xs with
      | nil => simp at h0
      | cons a l => simp
    obtain ⟨b, off, he, _⟩ := h.cells hl
    cases he
    rw [add_at]
    exact h.drop k m c' hm hc
set_option maxRecDepth 100000 in
theorem room_any (A : Option Addr) (n c : Nat) (w : World) (hn : n ≤ 1048576) :
    Calls Try.prog 32 #[.slice A n c] w fun e w' => e = .returned (.int .i64 (roomN n : Nat)) ∧ w = w' := by
  obtain ⟨r, hr⟩ : ∃ r, roomN n = r := ⟨_, rfl⟩
  rw [hr]
  unfold roomN at hr
  have HR : Hid (((n : Int) ≤ 1000 → (r : Int) = 1000 - n) ∧ (1000 < (n : Int) → (r : Int) = 0)) := Lib.hid ⟨by omega, by omega⟩
  clear hr
  go_enter Try.func32, Try.ntmps32
  go_wp2
  all_goals go_ret
  all_goals exact ⟨ret_int (by have := HR.out; omega), rfl⟩

theorem run_zeros (w : World) (n : Nat) (h0 : 0 < n) (hn : n ≤ 1048576) :
    (Builtin.append_ #[24, 3] 24 #[.slice none 0 0, .int .i64 n]).run Try.prog w =
      .ok (.slice (some ⟨w.heap.size, 0, none⟩) n (grownCap w n 0 3)) (w.drew.alloc (.cells (Builtin.zeroCells #[.int .i64 0] n ++ Builtin.zeroCells #[.int .i64 0] (grownCap w n 0 3 - n)) 3)) := by
  obtain ⟨i0, hi, hz0, hz1, hz2⟩ := info_parts intInfo
  exact Lib.run_append_nil_zeros w 24 3 24 3 i0 (.int .i64 0) .i64 .i64 Try.underlying24 Try.underlying3 hi hz0 n h0 (by omega) (by omega) (by rw [hz2]; omega)

theorem wpList_zeros {ops : Array Oper} {rest : List Oper} {o : Oper} {a : Act} {w : World} {Q : Exit → Act → World → Prop} (hgd : o.guard = none) (s x : Operand)
    (ho : o.op = .call { callee := .builtin .append, args := #[s, x], argTypes := #[24, 3] }) (hty : o.type = 24) (n : Nat) (hs : a.eval s = .slice none 0 0) (hx : a.eval x = .int .i64 n) (h0 : 0 < n) (hn : n ≤ 1048576)
    (h : ∀ (cap : Nat) (cur : Array Value), (n : Int) ≤ cap → cap ≤ maxLen → cur.size = cap → wpList Try.prog ops Q rest (a.put o.dst (.slice (some ⟨w.heap.size, 0, none⟩) n cap)) (w.drew.alloc (.cells cur 3))) : wpList Try.prog ops Q (o :: rest) a w :=
  wpList_plain hgd fun K hK => by
    unfold Oper.wp execOp
    simp only [ho, hty, resolve, invoke, builtin, Sem.run_bind, Sem.run_pure, Result.andThen_ok, List.map_toArray, List.map_cons, List.map_nil, hs, hx, run_zeros w n h0 hn]
    have hge := grownCap_ge w n 0 3
    refine hK _ _ (h _ _ (by omega) (grownCap_le_maxLen w n 0 3 (by unfold maxLen; omega)) ?_)
    simp only [Array.size_append, size_zeroCells]
    simp
    omega

/-- room is made: an empty list of the call's own -/
theorem grow_nil (n : Nat) (w : World) (hn : n ≤ 1048576) :
    Calls Try.prog 36 #[.slice none 0 0, .int .i64 n] w fun e w' => ∃ v, e = .returned v ∧ Own w.heap.size w' v [] ∧ Ext w w' := by
  by_cases h0 : 0 < n
  · have h0' : (0 : Int) < n := by omega
    go_enter Try.func36, Try.ntmps36
    go_wp2_with (at_builtin; refine wpList_zeros rfl _ _ rfl rfl n rfl rfl h0 hn ?_; intro cap cur hc1 hc2 hc3)
    go_ret
    exact ⟨_, rfl, Own.made w.drew _ _ (Nat.le_refl _) hc2 hc3, (Ext.refl w).drew.alloc _⟩
  · obtain rfl : n = 0 := by omega
    go_enter Try.func36, Try.ntmps36
    go_wp2
    go_ret
    exact ⟨_, rfl, Own.nil _ _, Ext.refl _⟩

/-- two lists, one behind the other -/
theorem concat_any (b o : Nat) (u v : Value) (xs ys : List Int) (w : World) (c0 : w.cell? ⟨b, o, none⟩ = some u) (c1 : w.cell? ⟨b, o + 1, none⟩ = some v) (h : Ints w u xs) (h' : Ints w v ys) (hl : xs.length + ys.length ≤ 1048576) :
    Calls Try.prog 34 #[.slice (some ⟨b, o, none⟩) 2 2] w fun e w' => ∃ v', e = .returned v' ∧ Own w.heap.size w' v' (xs ++ ys) ∧ Ext w w' := by
  obtain ⟨A, cA, rfl⟩ : ∃ A cA, u = .slice A xs.length cA := by obtain ⟨_, _, A, cA, rfl, _, _⟩ := h; exact ⟨A, cA, rfl⟩
  obtain ⟨B, cB, rfl⟩ : ∃ B cB, v = .slice B ys.length cB := by obtain ⟨_, _, A, cA, rfl, _, _⟩ := h'; exact ⟨A, cA, rfl⟩
  have HX := Lib.hid h
  have HY := Lib.hid h'
  clear h h'
  go_enter Try.func34, Try.ntmps34
  go_wp2
  go_loop [3, 11] (fun s i => (i = .int .i64 0 ∧ s = .int .i64 0) ∨ (i = .int .i64 1 ∧ s = .int .i64 xs.length) ∨ (i = .int .i64 2 ∧ s = .int .i64 (xs.length + ys.length : Nat))) (fun _ i => 2 - (intOf i).toNat)
  case atStart => exact .inl ⟨rfl, rfl⟩
  case round =>
    rcases hrel with ⟨rfl, rfl⟩ | ⟨rfl, rfl⟩ | ⟨rfl, rfl⟩
    · go_wp2
      go_round
      case rel => exact .inr (.inl ⟨by go_num, by go_num⟩)
      case measure => simp [intOf]
    · go_wp2
      go_round
      case rel => exact .inr (.inr ⟨by go_num, by go_num⟩)
      case measure => simp [intOf]
    · go_wp2_with fail
      refine (grow_nil _ _ hl).mono ?_
      rintro e w1 ⟨z, rfl, hown, hE⟩
      have HO := Lib.hid hown
      have HE := Lib.hid hE
      clear hown hE
      go_wp2
      go_loopw [6, 27] (fun v i wr => ((i = .int .i64 0 ∧ Own w.heap.size wr v []) ∨ (i = .int .i64 1 ∧ Own w.heap.size wr v xs) ∨ (i = .int .i64 2 ∧ Own w.heap.size wr v (xs ++ ys))) ∧ Ext w wr) (fun _ i _ => 2 - (intOf i).toNat)
      case atStart => exact ⟨.inl ⟨rfl, HO.out⟩, HE.out⟩
      case round =>
        obtain ⟨hr, hX⟩ := hrel
        have d0 := hX.cell c0
        have d1 := hX.cell c1
        have hz := hX.size
        rcases hr with ⟨rfl, hown⟩ | ⟨rfl, hown⟩ | ⟨rfl, hown⟩
        · go_wp2_with (at_builtin; refine wpList_app rfl _ _ rfl rfl w.heap.size _ [] rfl hown _ xs rfl (HX.out.ext hX) (by simp; omega) hz ?_; intro v' w2 hown2 hgrow2 hat2)
          go_roundw
          case rel => exact ⟨.inr (.inl ⟨by go_num, by simpa using hown2⟩), hX.grown hgrow2 (fun k hk => (hown.lt k hk).1)⟩
          case measure => simp [intOf]
        · go_wp2_with (at_builtin; refine wpList_app rfl _ _ rfl rfl w.heap.size _ xs rfl hown _ ys rfl (HY.out.ext hX) hl hz ?_; intro v' w2 hown2 hgrow2 hat2)
          go_roundw
          case rel => exact ⟨.inr (.inr ⟨by go_num, hown2⟩), hX.grown hgrow2 (fun k hk => (hown.lt k hk).1)⟩
          case measure => simp [intOf]
        · go_wp2
          go_ret
          exact ⟨_, rfl, hown, hX⟩
end Go.Proofs.Ytfhkmaikilgolaa
