/- Joined by wip/merge.py: CrLib, Deque, CrDeq, CrGoAt, CrRight, CrCopy, CrStep, CrStp, CrRun, CrTk, DrP, DrO, DrW, MonoW, RowW. -/
import Derived.Test.YtjabahfkgaamdaaJ3
import Derived.Deep.QuietTactic
import Derived.BigQuiet
import Derived.Deep.RegionHeld3
import Derived.Deep.RegionLawGrows
import Derived.Deep.RegionLaw
import Derived.Deep.DeepCutAuto
import Derived.BigRegion
/- The library at a crew's deques: Concat of all of them, Clone of one (an empty one has no room); how many tasks all deques hold. -/
namespace Go.Proofs.Ytjabahfkgaamdaa
open Go.BigFrame
open Go.RowKit Go.Proofs.Ytjabahfkgaamdaa.Plain

theorem zs_app (a b : List Nat) : zs (a ++ b) = zs a ++ zs b := by unfold zs; simp
/-- of the first deques -/
def upTo (D : List (List Nat)) (k : Nat) : List Nat := (D.take k).flatten
theorem upTo_succ (D : List (List Nat)) (k : Nat) (hk : k < D.length) : upTo D (k + 1) = upTo D k ++ D.getD k [] := by
  unfold upTo
  rw [List.take_succ_eq_append_getElem hk, List.flatten_append, getDp hk]; simp
theorem upTo_all (D : List (List Nat)) : upTo D D.length = held D := by unfold upTo held; rw [List.take_length]
theorem upTo_le (D : List (List Nat)) (k : Nat) : (upTo D k).length ≤ (held D).length := by
  have h : held D = upTo D k ++ (D.drop k).flatten := by unfold held upTo; rw [← List.flatten_append, List.take_append_drop]
  rw [h, List.length_append]; omega

set_option maxHeartbeats 800000 in
set_option maxRecDepth 100000 in
theorem concat_all (b off m e : Nat) (hs : Nat → Hd) (D : List (List Nat)) (w : World) (h : Hds (fun _ => False) w b off m hs D) (hm : m ≤ 8) (hl : (held D).length ≤ 1000000) :
    Calls Try.prog 80 #[.slice (some ⟨b, off, none⟩) m e] w fun ed w' => ∃ A c, ed = .returned (.slice A (held D).length c) ∧ Own w.heap.size w' (.slice A (held D).length c) (zs (held D)) ∧ Ext w w' := by
  have H := Lib.hid h
  have HDL : Hid (D.length = m) := Lib.hid h.1
  have hm' : (m : Int) ≤ 8 := by omega
  obtain ⟨N, hN⟩ : ∃ N, (held D).length = N := ⟨_, rfl⟩
  rw [hN] at hl ⊢
  have HN := Lib.hid hN
  clear h hN
  go_enter Try.func80, Try.ntmps80
  go_wp2_with fail
  go_loop [3, 11] (fun s i => ∃ k : Nat, k ≤ m ∧ i = .int .i64 k ∧ s = .int .i64 ((upTo D k).length : Nat)) (fun _ i => m - (intOf i).toNat)
  case atStart => exact ⟨0, Nat.zero_le _, rfl, rfl⟩
  case round =>
    obtain ⟨k, hk, rfl, rfl⟩ := hrel
    have hk0 : (0 : Int) ≤ k := by omega
    by_cases hlt : k < m
    · have hlt' : (k : Int) < m := by omega
      obtain ⟨z, zn, _⟩ := H.out.2 k hlt
      obtain ⟨u1, hu1⟩ : ∃ x, (upTo D k).length = x := ⟨_, rfl⟩
      obtain ⟨u2, hu2⟩ : ∃ x, (hs k).n = x := ⟨_, rfl⟩
      have hsucc : (upTo D (k + 1)).length = u1 + u2 := by rw [upTo_succ D k (by rw [HDL.out]; exact hlt), List.length_append, hu1, ← hu2, zn]
      have hb := upTo_le D (k + 1)
      rw [hsucc, HN.out] at hb
      have hb1 : (u1 : Int) ≤ 1000000 := by omega
      have hb2 : (u2 : Int) ≤ 1000000 := by omega
      have HS := Lib.hid hsucc
      unfold Hd.v at z
      rw [hu2] at z
      rw [hu1]
      clear hsucc hb zn hu1 hu2
      go_wp2_with fail
      go_round
      case rel => exact ⟨k + 1, by omega, by go_num, by rw [HS.out]; go_num⟩
      case measure => simp [intOf]; omega
    · obtain rfl : k = m := by omega
      have hu : (upTo D k).length = N := by rw [← HDL.out, upTo_all D, HN.out]
      rw [hu]
      clear hu
      go_wp2_with fail
      refine (grow_nil _ _ (by omega)).mono ?_
      rintro ed w1 ⟨z, rfl, hown, hE⟩
      have HO := Lib.hid hown
      have HE := Lib.hid hE
      clear hown hE
      go_wp2
      go_loopw [6, 27] (fun v i wr => ∃ j : Nat, j ≤ k ∧ i = .int .i64 j ∧ Own w.heap.size wr v (zs (upTo D j)) ∧ Ext w wr) (fun _ i _ => k - (intOf i).toNat)
      case atStart => exact ⟨0, Nat.zero_le _, rfl, by first | exact HO.out | (unfold upTo; simpa [zs] using HO.out), HE.out⟩
      case round =>
        obtain ⟨j, hj, rfl, hown, hX⟩ := hrel
        have hj0 : (0 : Int) ≤ j := by omega
        by_cases hlt2 : j < k
        · have hlt3 : (j : Int) < k := by omega
          obtain ⟨z, zn, zr⟩ := H.out.2 j hlt2
          have z' := hX.cell z
          have hz := hX.size
          have HZ : Hid (Ints wr (hs j).v (zs (D.getD j []))) := Lib.hid (ints_of_rd (zr.rd.ext hX))
          have hsucc : zs (upTo D (j + 1)) = zs (upTo D j) ++ zs (D.getD j []) := by rw [upTo_succ D j (by rw [HDL.out]; exact hlt2), zs_app]
          have hb := upTo_le D (j + 1)
          have HB : Hid ((zs (upTo D j)).length + (zs (D.getD j [])).length ≤ 1048576) := Lib.hid (by rw [← List.length_append, ← hsucc, zs_len]; have := HN.out; omega)
          have HS := Lib.hid hsucc
          clear hsucc hb zn zr z
          go_wp2_with (at_builtin; refine wpList_app rfl _ _ rfl rfl w.heap.size _ (zs (upTo D j)) rfl hown _ (zs (D.getD j [])) rfl HZ.out HB.out hz ?_; intro v' w2 hown2 hgrow2 hat2)
          go_roundw
          case rel => exact ⟨j + 1, by omega, by go_num, by rw [HS.out]; exact hown2, hX.grown hgrow2 (fun k hk => (hown.lt k hk).1)⟩
          case measure => simp [intOf]; omega
        · obtain rfl : j = k := by omega
          have hu : upTo D j = held D := by rw [← HDL.out]; exact upTo_all D
          rw [hu] at hown
          clear hu
          go_wp2
          go_ret
          obtain ⟨A, c, rfl, _⟩ := hown.shape
          rw [zs_len, HN.out] at hown ⊢
          exact ⟨A, c, rfl, hown, hX⟩

theorem run_app0 (w : World) (g : Nat) (ad : Addr) (c : Nat) : (Builtin.append_ #[32, 32] 32 #[.slice (some ⟨g, 0, none⟩) 0 0, .slice (some ad) 0 c]).run Try.prog w = .ok (.slice (some ⟨g, 0, none⟩) 0 0) w := by
  obtain ⟨i0, hi, hz0, hz1, hz2⟩ := info_parts intInfo
  simp [Builtin.append_, run_underlying Try.underlying32, sizeOf, typeInfo, hi, Builtin.lenOf, Builtin.firstCells, storeCells, loadCells, loadCellsFrom]
theorem wpList_app0 {ops : Array Oper} {rest : List Oper} {o : Oper} {a : Act} {w : World} {Q : Exit → Act → World → Prop} (hgd : o.guard = none) (s x : Operand)
    (ho : o.op = .call { callee := .builtin .append, args := #[s, x], argTypes := #[32, 32] }) (hty : o.type = 32) (g : Nat) (ad : Addr) (c : Nat) (hs : a.eval s = .slice (some ⟨g, 0, none⟩) 0 0) (hx : a.eval x = .slice (some ad) 0 c)
    (h : wpList Try.prog ops Q rest (a.put o.dst (.slice (some ⟨g, 0, none⟩) 0 0)) w) : wpList Try.prog ops Q (o :: rest) a w :=
  wpList_plain hgd fun K hK => by
    unfold Oper.wp execOp
    simp only [ho, hty, resolve, invoke, builtin, Sem.run_bind, Sem.run_pure, Result.andThen_ok, List.map_toArray, List.map_cons, List.map_nil, hs, hx, run_app0]
    exact hK _ _ h
/-- an empty list is cloned: no room -/
theorem clone_empty (A : Option Addr) (c : Nat) (w : World) :
    Calls Try.prog 65 #[.slice A 0 c] w fun e w' => ∃ A, e = .returned (.slice A 0 0) ∧ Ext w w' := by
  have hnil := fun (w : World) (a : Option Addr) (n c : Nat) => Lib.run_eql_slice_nil w 32 3 a n c 0 0 Try.underlying32
  cases A with
  | none =>
    go_enter Try.func65, Try.ntmps65
    go_wp2
    go_ret
    exact ⟨_, rfl, Ext.refl _⟩
  | some ad =>
    go_enter Try.func65, Try.ntmps65
    go_wp2_with (at_builtin; refine wpList_app0 rfl _ _ rfl rfl _ ad c rfl rfl ?_)
    go_ret
    exact ⟨_, rfl, (Ext.refl _).alloc _⟩
/-- a deque is cloned: an empty one has no room then -/
theorem clone_dq (h : Hd) (xs : List Nat) (w : World) (hr : Rd kInt w h.v (zs xs)) (hn : h.n = xs.length) (hl : xs.length ≤ 1000000) :
    Calls Try.prog 65 #[h.v] w fun e w' => ∃ k : Hd, e = .returned k.v ∧ k.n = xs.length ∧ (k.n = 0 → k.c = 0) ∧ (∀ S : Nat → Prop, (∀ x, S x → x < w.heap.size) → RdO kInt S w' k.v (zs xs)) ∧ Ext w w' := by
  by_cases h0 : xs.length = 0
  · obtain rfl : xs = [] := List.eq_nil_of_length_eq_zero h0
    obtain ⟨A, n, c⟩ := h
    obtain rfl : n = 0 := hn
    exact (clone_empty A c w).mono fun e w' ⟨A, he, hE⟩ => ⟨⟨A, 0, 0⟩, he, rfl, fun _ => rfl, fun S _ => RdO.nil S w' A 0, hE⟩
  · refine (clone_any h.v (zs xs) w (ints_of_rd hr) (by rw [zs_len]; omega)).mono ?_
    rintro e w' ⟨A, c, he, ho, hE⟩
    rw [zs_len] at he ho
    exact ⟨⟨A, xs.length, c⟩, he, rfl, fun hh => absurd hh h0, fun S hS => (rd_of_ints ho.ints).offFrom ho.from hS, hE⟩
set_option maxHeartbeats 800000 in
set_option maxRecDepth 100000 in
theorem cheld_any (A B : Option Addr) (eb eo a b e g m : Nat) (c : Cw) (hs : Nat → Hd) (w : World) (h : Hds (fun _ => False) w eb eo m hs c.D) (hm : m ≤ 8) (hl : (held c.D).length ≤ 1000000) :
    Calls Try.prog 62 #[crewV A B eb eo a b e g m c] w fun ed w' => ed = .returned (.int .i64 (held c.D).length) ∧ Ext w w' := by
  have H := Lib.hid h
  have HDL : Hid (c.D.length = m) := Lib.hid h.1
  have hm' : (m : Int) ≤ 8 := by omega
  obtain ⟨N, hN⟩ : ∃ N, (held c.D).length = N := ⟨_, rfl⟩
  rw [hN] at hl ⊢
  have HN := Lib.hid hN
  clear h hN
  go_enter Try.func62, Try.ntmps62
  go_wp2_with fail
  go_loopw [3, 9] (fun s i wr => ∃ k : Nat, k ≤ m ∧ i = .int .i64 k ∧ s = .int .i64 ((upTo c.D k).length : Nat) ∧ Ext w wr) (fun _ i _ => m - (intOf i).toNat)
  case atStart => exact ⟨0, Nat.zero_le _, rfl, rfl, (Ext.refl _).alloc _⟩
  case round =>
    obtain ⟨k, hk, rfl, rfl, hX⟩ := hrel
    have hk0 : (0 : Int) ≤ k := by omega
    by_cases hlt : k < m
    · have hlt' : (k : Int) < m := by omega
      obtain ⟨z0, zn, _⟩ := H.out.2 k hlt
      have z := hX.cell z0
      obtain ⟨u1, hu1⟩ : ∃ x, (upTo c.D k).length = x := ⟨_, rfl⟩
      obtain ⟨u2, hu2⟩ : ∃ x, (hs k).n = x := ⟨_, rfl⟩
      have hsucc : (upTo c.D (k + 1)).length = u1 + u2 := by rw [upTo_succ c.D k (by rw [HDL.out]; exact hlt), List.length_append, hu1, ← hu2, zn]
      have hb := upTo_le c.D (k + 1)
      rw [hsucc, HN.out] at hb
      have hb1 : (u1 : Int) ≤ 1000000 := by omega
      have hb2 : (u2 : Int) ≤ 1000000 := by omega
      have HS := Lib.hid hsucc
      unfold Hd.v at z
      rw [hu2] at z
      rw [hu1]
      clear hsucc hb zn hu1 hu2 z0
      go_wp2_with fail
      go_roundw
      case rel => exact ⟨k + 1, by omega, by go_num, by rw [HS.out]; go_num, hX⟩
      case measure => simp [intOf]; omega
    · obtain rfl : k = m := by omega
      have hu : (upTo c.D k).length = N := by rw [← HDL.out, upTo_all c.D, HN.out]
      rw [hu]
      clear hu
      go_wp2_with fail
      go_ret
      exact ⟨rfl, hX⟩
end Go.Proofs.Ytjabahfkgaamdaa

/- The deque's functions. -/
namespace Go.Proofs.Ytjabahfkgaamdaa
open Go.RowKit Go.Proofs.Ytjabahfkgaamdaa.Plain

theorem Ints.slice {w : World} {v : Value} {xs : List Int} (h : Ints w v xs) : ∃ A c, v = .slice A xs.length c ∧ xs.length ≤ c := by
  obtain ⟨_, _, A, c, rfl, hc, _⟩ := h
  exact ⟨A, c, rfl, hc⟩
/-- a part of a list, as the walk writes it -/
theorem Ints.drop' {w : World} {b off n c : Nat} {xs : List Int} (h : Ints w (.slice (some ⟨b, off, none⟩) n c) xs) (k m c' : Nat) (hm : m = xs.length - k) (hc' : m ≤ c') (hc : xs.length ≤ c) (hk : k ≤ xs.length) :
    Ints w (.slice (if c = k then some ⟨b, off, none⟩ else some ⟨b, off + k, none⟩) m c') (xs.drop k) := by
  by_cases hck : c = k
  · rw [if_pos hck]
    have hx : xs.drop k = [] := List.eq_nil_of_length_eq_zero (by rw [List.length_drop]; omega)
    rw [hx, show m = 0 by omega]
    exact Ints.nil _ _ _
  · rw [if_neg hck]
    exact h.drop k m c' hm hc'
theorem Own.slice {B : Nat} {w : World} {v : Value} {xs : List Int} (h : Own B w v xs) : ∃ A c, v = .slice A xs.length c := by
  obtain ⟨A, c, rfl, _⟩ := h.shape
  exact ⟨A, c, rfl⟩

theorem popX_lt (l : List Int) (h : 0 < l.length) : lastD l = l.getD (l.length - 1) 0 := rfl

set_option maxHeartbeats 400000 in
set_option maxRecDepth 100000 in
theorem pop_far (A : Option Addr) (c : Nat) (l : List Int) (w : World) (h : Ints w (.slice A l.length c) l) (hl : l.length ≤ 4000) :
    Calls Try.prog 74 #[.slice A l.length c] w fun e w' => ∃ A c, e = .returned (.tuple #[.slice A (popL l).length c, .int .i64 (lastD l), .int .i64 (popE l)]) ∧ Ints w' (.slice A (popL l).length c) (popL l) ∧ Ext w w' ∧ From w.heap.size A := by
  have H := Lib.hid h
  clear h
  by_cases h0 : l.length = 0
  · obtain rfl : l = [] := List.eq_nil_of_length_eq_zero h0
    go_enter Try.func74, Try.ntmps74
    go_wp2_with (go_at_call 65; refine (clone_any _ _ _ H.out (by simp)).mono ?_; rintro e w1 ⟨A1, c1, rfl, ho, hE⟩)
    go_ret3
    exact ⟨_, _, rfl, ho.ints, hE, ho.from⟩
  · have h1 : 0 < l.length := by omega
    have e1 : Hid (popE l = 0) := Lib.hid (by unfold popE; rw [if_neg h0])
    have e2 : Hid ((popL l).length = l.length - 1) := Lib.hid (popL_len l)
    have e3 : Hid (lastD l = l.getD (l.length - 1) 0) := Lib.hid rfl
    clear h0
    go_enter Try.func74, Try.ntmps74
    go_wp2_with fail
    refine (clone_any _ _ _ H.out (by omega)).mono ?_
    rintro e w1 ⟨A1, c1, rfl, ho, hE⟩
    obtain ⟨_, _, hsh, hdd⟩ := ho.shape
    have hdd1 : (l.length : Int) - 1 ≤ (c1 : Int) := by cases hsh; omega
    have hdd2 : (l.length : Int) ≤ (c1 : Int) := by cases hsh; omega
    clear hdd hsh
    obtain ⟨g, rfl, hgB, hgw, hgc, hgf, hgs⟩ := ho.pos h1
    have kf := hgc (l.length - 1) (by omega)
    rw [← e3.out] at kf
    have HO := Lib.hid ho
    have HE := Lib.hid hE
    clear hgc hgs hgf ho hE
    go_wp2_with fail
    go_quiet (fail)
    go_wp2
    go_ret3
    rw [e1.out, e2.out]
    exact ⟨_, _, rfl, (HO.out.ints.take (l.length - 1) (l.length - 1) (by omega) (by omega)).ext ((Ext.refl _).drewN _), HE.out.drewN _, HO.out.from⟩
theorem pop_any (A : Option Addr) (c : Nat) (l : List Int) (w : World) (h : Ints w (.slice A l.length c) l) (hl : l.length ≤ 4000) :
    Calls Try.prog 74 #[.slice A l.length c] w fun e w' => ∃ A c, e = .returned (.tuple #[.slice A (popL l).length c, .int .i64 (lastD l), .int .i64 (popE l)]) ∧ Ints w' (.slice A (popL l).length c) (popL l) ∧ Ext w w' :=
  (pop_far A c l w h hl).mono fun e w' ⟨A, c, he, hi, hE, _⟩ => ⟨A, c, he, hi, hE⟩

set_option maxHeartbeats 400000 in
set_option maxRecDepth 100000 in
theorem steal_far (A : Option Addr) (c : Nat) (l : List Int) (w : World) (h : Ints w (.slice A l.length c) l) (hl : l.length ≤ 4000) :
    Calls Try.prog 75 #[.slice A l.length c] w fun e w' => ∃ A c, e = .returned (.tuple #[.slice A (stealL l).length c, .int .i64 (topD l), .int .i64 (popE l)]) ∧ Ints w' (.slice A (stealL l).length c) (stealL l) ∧ Ext w w' ∧ From w.heap.size A := by
  have H := Lib.hid h
  have hm := h.2.2
  clear h
  by_cases h0 : l.length = 0
  · obtain rfl : l = [] := List.eq_nil_of_length_eq_zero h0
    clear hm
    go_enter Try.func75, Try.ntmps75
    go_wp2
    go_ret3
    exact ⟨_, _, rfl, Ints.nil _ _ _, Ext.refl _, From.none _⟩
  · have h1 : 0 < l.length := by omega
    have h2 : ((l.length : Int) == 0) = false := by rw [beq_eq_false_iff_ne]; omega
    have e1 : Hid (popE l = 0) := Lib.hid (by unfold popE; rw [if_neg h0])
    have e2 : Hid ((stealL l).length = l.length - 1) := Lib.hid (stealL_len l)
    have e3 : Hid (topD l = l.getD 0 0) := Lib.hid rfl
    clear h0 hm
    have hcap : l.length ≤ c := by obtain ⟨_, _, A', c', he, hc', _⟩ := H.out; cases he; exact hc'
    obtain ⟨b, off, rfl, hcc⟩ := H.out.cells h1
    have k0 : w.cell? ⟨b, off, none⟩ = some (.int .i64 (l.getD 0 0)) := hcc 0 h1
    rw [← e3.out] at k0
    have hb := World.block_lt_of_cell? _ _ k0
    simp at hb
    clear hcc
    have hc4 : (1 : Int) ≤ l.length := by omega
    have hc6 : (l.length : Int) ≤ c := by omega
    have e5 := Lib.hid (stealL_len l)
    by_cases hc1 : c = 1
    · have hl1 : Hid (l.length - 1 = 0) := Lib.hid (by omega)
      have e6 : Hid (stealL l = []) := Lib.hid (List.eq_nil_of_length_eq_zero (by rw [stealL_len]; omega))
      go_enter Try.func75, Try.ntmps75
      go_wp2
      go_region_held3 (fun w' => w'.cell? ⟨b, off, none⟩ = some (.int .i64 (topD l)))
        (first | go_keep | exact c11)
        (first
          | (go_at_call 65
             rw [hl1.out]
             refine (clone_any _ [] _ (Ints.nil _ _ _) (by simp)).mono ?_
             rintro e w1 ⟨A1, c1, rfl, ho1, hE1⟩
             have c11 : w1.cell? ⟨b, off, none⟩ = some (.int .i64 (topD l)) := hE1.cell (by go_simp)))
      go_wp2
      go_ret3
      rw [e1.out, e6.out]
      exact ⟨_, _, rfl, ho1.ints, (Ext.refl w).drew.trans hE1, ho1.from⟩
    · have HI := Lib.hid (H.out.drop 1 (l.length - 1) (c - 1) rfl (by omega))
      go_enter Try.func75, Try.ntmps75
      go_wp2
      go_region_held3 (fun w' => w'.cell? ⟨b, off, none⟩ = some (.int .i64 (topD l)))
        (first | go_keep | exact c11)
        (first
          | (go_at_call 65
             have hcl := clone_any _ (stealL l) _ (HI.out.ext (Ext.refl w).drew) (by rw [e5.out]; omega)
             rw [e5.out] at hcl
             refine hcl.mono ?_
             clear hcl
             rintro e w1 ⟨A1, c1, rfl, ho1, hE1⟩
             have c11 : w1.cell? ⟨b, off, none⟩ = some (.int .i64 (topD l)) := hE1.cell (by go_simp)))
      go_wp2
      go_ret3
      rw [e1.out, e2.out]
      exact ⟨_, _, rfl, ho1.ints, (Ext.refl w).drew.trans hE1, ho1.from⟩

theorem steal_any (A : Option Addr) (c : Nat) (l : List Int) (w : World) (h : Ints w (.slice A l.length c) l) (hl : l.length ≤ 4000) :
    Calls Try.prog 75 #[.slice A l.length c] w fun e w' => ∃ A c, e = .returned (.tuple #[.slice A (stealL l).length c, .int .i64 (topD l), .int .i64 (popE l)]) ∧ Ints w' (.slice A (stealL l).length c) (stealL l) ∧ Ext w w' :=
  (steal_far A c l w h hl).mono fun e w' ⟨A, c, he, hi, hE, _⟩ => ⟨A, c, he, hi, hE⟩

end Go.Proofs.Ytjabahfkgaamdaa

/- Pop and Steal of a crew's deque: what is left, and its room. -/
namespace Go.Proofs.Ytjabahfkgaamdaa
open Go.BigFrame
open Go.RowKit Go.Proofs.Ytjabahfkgaamdaa.Plain

theorem pop_zs (xs : List Nat) (h : xs ≠ []) : popL (zs xs) = zs xs.dropLast ∧ lastD (zs xs) = ((xs.getLastD 0 : Nat) : Int) ∧ popE (zs xs) = 0 := by
  have e := getLastD_snoc xs h
  obtain ⟨ys, y, hy⟩ : ∃ ys y, xs = ys ++ [y] := ⟨_, _, e⟩
  subst hy
  have e1 : (ys ++ [y]).dropLast = ys := List.dropLast_concat
  have e2 : (ys ++ [y]).getLastD 0 = y := by rw [List.getLastD_eq_getLast?, List.getLast?_concat]; rfl
  rw [e1, e2]
  have e3 : zs (ys ++ [y]) = zs ys ++ [(y : Int)] := by unfold zs; simp
  rw [e3]
  refine ⟨?_, ?_, ?_⟩
  · unfold popL; simp
  · unfold lastD; simp
  · unfold popE; simp
theorem steal_zs (xs : List Nat) (h : xs ≠ []) : stealL (zs xs) = zs xs.tail ∧ topD (zs xs) = ((xs.headD 0 : Nat) : Int) ∧ popE (zs xs) = 0 := by
  cases xs with
  | nil => exact absurd rfl h
  | cons y l =>
    refine ⟨?_, ?_, ?_⟩
    · unfold stealL zs; simp
    · unfold topD zs; simp
    · unfold popE zs; simp

set_option maxHeartbeats 400000 in
set_option maxRecDepth 100000 in
theorem pop_go (x : Hd) (xs : List Nat) (w : World) (hr : Rd kInt w x.v (zs xs)) (hn : x.n = xs.length) (hl : xs.length ≤ 4000) (h0 : xs ≠ []) :
    Calls Try.prog 74 #[x.v] w fun e w' => ∃ y : Hd, e = .returned (.tuple #[y.v, .int .i64 (xs.getLastD 0 : Nat), .int .i64 0]) ∧ y.n = xs.dropLast.length ∧ y.c = y.n ∧ (∀ S : Nat → Prop, (∀ x, S x → x < w.heap.size) → RdO kInt S w' y.v (zs xs.dropLast)) ∧ Ext w w' := by
  obtain ⟨p1, p2, p3⟩ := pop_zs xs h0
  obtain ⟨A, n, c⟩ := x
  obtain rfl : n = xs.length := hn
  obtain ⟨l, hl'⟩ : ∃ l, zs xs = l := ⟨_, rfl⟩
  have hlen : l.length = xs.length := by rw [← hl', zs_len]
  rw [hl'] at hr p1 p2 p3
  have H : Hid (Ints w (.slice A l.length c) l) := Lib.hid (by rw [hlen]; exact ints_of_rd hr)
  have h1 : 0 < l.length := by rw [hlen]; exact List.length_pos_iff.2 h0
  have e2 : Hid ((popL l).length = l.length - 1) := Lib.hid (popL_len l)
  have e3 : Hid (lastD l = l.getD (l.length - 1) 0) := Lib.hid rfl
  have P1 := Lib.hid p1
  have P2 := Lib.hid p2
  have HL := Lib.hid hlen
  have hb : l.length ≤ 4000 := by omega
  unfold Hd.v
  simp only
  rw [← hlen]
  clear hr p1 p2 p3 hl' hlen hl h0
  go_enter Try.func74, Try.ntmps74
  go_wp2_with fail
  refine (clone_any _ _ _ H.out (by omega)).mono ?_
  rintro e w1 ⟨A1, c1, rfl, ho, hE⟩
  obtain ⟨_, _, hsh, hdd⟩ := ho.shape
  have hdd1 : (l.length : Int) - 1 ≤ (c1 : Int) := by cases hsh; omega
  have hdd2 : (l.length : Int) ≤ (c1 : Int) := by cases hsh; omega
  clear hdd hsh
  obtain ⟨g, rfl, hgB, hgw, hgc, hgf, hgs⟩ := ho.pos h1
  have kf := hgc (l.length - 1) (by omega)
  rw [← e3.out] at kf
  have HO := Lib.hid ho
  have HE := Lib.hid hE
  clear hgc hgs hgf ho hE
  go_wp2_with fail
  go_quiet (fail)
  go_wp2
  go_ret3
  rw [P2.out]
  refine ⟨⟨some ⟨g, 0, none⟩, l.length - 1, l.length - 1⟩, rfl, ?_, rfl, fun S hS => ?_, HE.out.drewN _⟩
  · show l.length - 1 = _
    rw [List.length_dropLast, HL.out]
  · rw [← P1.out]
    exact Rd.offFrom (B := w.heap.size) (rd_of_ints (Ints.ext (HO.out.ints.take (l.length - 1) (l.length - 1) (by omega) (by omega)) ((Ext.refl _).drewN _))) HO.out.from hS
set_option maxHeartbeats 800000 in
set_option maxRecDepth 100000 in
theorem steal_go (x : Hd) (xs : List Nat) (w : World) (hr : Rd kInt w x.v (zs xs)) (hn : x.n = xs.length) (hl : xs.length ≤ 4000) (h0 : xs ≠ []) :
    Calls Try.prog 75 #[x.v] w fun e w' => ∃ y : Hd, e = .returned (.tuple #[y.v, .int .i64 (xs.headD 0 : Nat), .int .i64 0]) ∧ y.n = xs.tail.length ∧ (y.n = 0 → y.c = 0) ∧ (∀ S : Nat → Prop, (∀ x, S x → x < w.heap.size) → RdO kInt S w' y.v (zs xs.tail)) ∧ Ext w w' := by
  obtain ⟨A, n, c⟩ := x
  obtain rfl : n = xs.length := hn
  obtain ⟨z, zt, rfl⟩ : ∃ z zt, xs = z :: zt := ⟨_, _, head_tail xs h0⟩
  have H := Lib.hid hr
  have hcap : (z :: zt).length ≤ c := by obtain ⟨_, _, h1, h2⟩ := hr.slice; rw [zs_len] at h1 h2; cases h1; exact h2
  obtain ⟨b, off, rfl, hcc⟩ := hr.cells (by rw [zs_len]; simp)
  have k0 : w.cell? ⟨b, off, none⟩ = some (.int .i64 (z : Nat)) := by
    have := hcc 0 (by rw [zs_len]; simp) 0 _ rfl
    simpa [kInt, zs] using this
  have hb := World.block_lt_of_cell? _ _ k0
  simp at hb
  obtain ⟨m, hm⟩ : ∃ m, zt.length = m := ⟨_, rfl⟩
  have hm1 : (z :: zt).length = m + 1 := by rw [List.length_cons, hm]
  have HM := Lib.hid hm
  unfold Hd.v
  simp only [List.headD_cons, List.tail_cons]
  rw [hm1] at hcap hr hl ⊢
  have HR := Lib.hid hr
  have hc5 : ((m : Int) + 1 == 0) = false := by rw [beq_eq_false_iff_ne]; omega
  have hc4 : (1 : Int) ≤ (m : Int) + 1 := by omega
  have hc6 : (m : Int) + 1 ≤ c := by omega
  clear hcc hr hm hm1 h0 H
  by_cases hc1 : c = 1
  · subst hc1
    obtain rfl : m = 0 := by omega
    obtain rfl : zt = [] := List.eq_nil_of_length_eq_zero HM.out
    go_enter Try.func75, Try.ntmps75
    go_wp2
    go_region_held3 (fun w' => w'.cell? ⟨b, off, none⟩ = some (.int .i64 (z : Nat)))
      (first | go_keep | exact c11)
      (first
        | (go_at_call 65
           refine (clone_dq ⟨some ⟨b, off, none⟩, 0, 0⟩ [] _ (Rd.nil _ _ _) rfl (by simp)).mono ?_
           rintro e w1 ⟨y, rfl, hy1, hy2, hy3, hE1⟩
           have c11 : w1.cell? ⟨b, off, none⟩ = some (.int .i64 (z : Nat)) := hE1.cell (by go_simp)))
    go_wp2
    go_ret3
    exact ⟨y, rfl, hy1, hy2, hy3, (Ext.refl w).drew.trans hE1⟩
  · have HI : Hid (Rd kInt w (.slice (some ⟨b, off + 1, none⟩) m (c - 1)) (zs zt)) := Lib.hid (by
      have h7 := HR.out.drop 1 m (c - 1) (by rw [zs_len, List.length_cons, HM.out]; omega) (by omega)
      exact h7)
    go_enter Try.func75, Try.ntmps75
    go_wp2
    go_region_held3 (fun w' => w'.cell? ⟨b, off, none⟩ = some (.int .i64 (z : Nat)))
      (first | go_keep | exact c11)
      (first
        | (go_at_call 65
           refine (clone_dq ⟨some ⟨b, off + 1, none⟩, m, c - 1⟩ zt _ (HI.out.ext (Ext.refl w).drew) HM.out.symm (by rw [HM.out]; omega)).mono ?_
           rintro e w1 ⟨y, rfl, hy1, hy2, hy3, hE1⟩
           have c11 : w1.cell? ⟨b, off, none⟩ = some (.int .i64 (z : Nat)) := hE1.cell (by go_simp)))
    go_wp2
    go_ret3
    exact ⟨y, rfl, hy1, hy2, hy3, (Ext.refl w).drew.trans hE1⟩
end Go.Proofs.Ytjabahfkgaamdaa

/- One that goes steps goes at a task. -/
namespace Go.Proofs.Ytjabahfkgaamdaa
open Go.BigFrame
open Go.RowKit Go.Proofs.Ytjabahfkgaamdaa.Plain

/-- two numbers are appended to a list without room: new memory -/
theorem step_grow2 {ops : Array Oper} {o : Oper} {a : Act} {w : World} {K : Act → World → Prop} {Q : Exit → Act → World → Prop} {E : Prop} (hg : o.guard = none) (s x : Operand)
    (hop : o.op = Op.call { callee := Callee.builtin Builtin.append, args := #[s, x], argTypes := #[32, 32] }) (hty : o.type = 32) (y : Hd) (xs : List Nat) (i j : Nat) (H : Nat)
    (hs : a.eval s = y.v) (hn : y.n = xs.length) (hfull : y.c = y.n) (hr : Rd kInt w y.v (zs xs)) (hx : a.eval x = .slice (some ⟨H, 0, none⟩) 2 2) (ho : Rd kInt w (.slice (some ⟨H, 0, none⟩) 2 2) [(i : Int), (j : Int)]) (hl : xs.length ≤ 1000000)
    (hK : ∀ (z : Hd) (w' : World), z.n = (xs ++ [i, j]).length → (z.n = 0 → z.c = 0) → Ext w w' → (∀ S : Nat → Prop, (∀ x, S x → x < w.heap.size) → RdO kInt S w' z.v (zs (xs ++ [i, j]))) → K (a.put o.dst z.v) w') :
    if Region.wanted o (yielded ops a.tmps) = true then Oper.wp Try.prog o a w K Q else E := by
  obtain ⟨i0, hi, hz0, hz1, hz2⟩ := info_parts intInfo
  obtain ⟨A, n, c⟩ := y
  obtain rfl : n = xs.length := hn
  obtain rfl : c = xs.length := hfull
  have hr2 := ho.at_
  have hbd : ∀ u ∈ zs (xs ++ [i, j]), in64 u := by
    intro u hu
    rw [show zs (xs ++ [i, j]) = zs xs ++ [(i : Int), (j : Int)] by unfold zs; simp] at hu
    rcases List.mem_append.1 hu with h | h
    · exact hr.2.1 u h
    · exact ho.2.1 u h
  refine step_append_grows hg s x 32 hop 3 i0 (.int .i64 0) 1 8 Try.underlying32 hi hz0 hz1 hz2 rfl (by decide) A xs.length xs.length (kInt.flat (zs xs)) hs ?_ ?_ ?_ ⟨H, 0, none⟩ 2 2 (kInt.flat [(i : Int), (j : Int)]) hx ?_ hr2 ?_ (by omega) (by unfold maxLen; omega) (by omega) ?_
  · intro hA
    have h0 : xs.length = 0 := by
      rcases Nat.eq_zero_or_pos xs.length with h | h
      · exact h
      · obtain ⟨b, off, hh, _⟩ := hr.cells (by rw [zs_len]; exact h)
        rw [hA] at hh; cases hh
    exact ⟨h0, h0⟩
  · rw [kInt.flat_len, zs_len]; rfl
  · intro b hb
    subst hb
    exact hr.at_
  · rw [kInt.flat_len]; rfl
  · intro u hu; exact kInt.flat_mem hu
  · intro v' w' hown hgr
    have hO : Ow kInt w.heap.size w' v' (zs (xs ++ [i, j])) := by
      refine ⟨?_, hbd⟩
      rw [zs_len, List.length_append, show zs (xs ++ [i, j]) = zs xs ++ [(i : Int), (j : Int)] by unfold zs; simp, kInt.flat_app]
      exact hown
    obtain ⟨A', c', rfl, _⟩ := hO.slice
    rw [zs_len] at hO ⊢
    have hE : Ext w w' := (Ext.refl w).grown hgr (fun k hk => by cases hk)
    exact hK ⟨A', (xs ++ [i, j]).length, c'⟩ w' rfl (fun h => by simp at h) hE fun S hS => hO.rd.offFrom hO.from hS

/-- nothing is appended -/
theorem run_app_none (w : World) (y : Hd) (h : y.n ≤ y.c) : (Builtin.append_ #[32, 32] 32 #[y.v, .slice none 0 0]).run Try.prog w = .ok y.v w := by
  obtain ⟨i0, hi, hz0, hz1, hz2⟩ := info_parts intInfo
  obtain ⟨A, n, c⟩ := y
  have h' : n ≤ c := h
  cases A with
  | none => simp [Builtin.append_, run_underlying Try.underlying32, sizeOf, typeInfo, hi, Builtin.lenOf, Builtin.firstCells, storeCells, h']
  | some ad => simp [Builtin.append_, run_underlying Try.underlying32, sizeOf, typeInfo, hi, Builtin.lenOf, Builtin.firstCells, storeCells, h']
theorem step_none {ops : Array Oper} {o : Oper} {a : Act} {w : World} {K : Act → World → Prop} {Q : Exit → Act → World → Prop} {E : Prop} (hg : o.guard = none) (s x : Operand)
    (ho : o.op = Op.call { callee := Callee.builtin Builtin.append, args := #[s, x], argTypes := #[32, 32] }) (hty : o.type = 32) (y : Hd)
    (hs : a.eval s = y.v) (hn : y.n ≤ y.c) (hx : a.eval x = .slice none 0 0) (hK : K (a.put o.dst y.v) w) :
    if Region.wanted o (yielded ops a.tmps) = true then Oper.wp Try.prog o a w K Q else E := by
  have hw : Region.wanted o (yielded ops a.tmps) = true := by simp [Region.wanted, hg]
  rw [if_pos hw]
  unfold Oper.wp execOp
  simp only [ho, hty, resolve, invoke, builtin, Sem.run_bind, Sem.run_pure, Result.andThen_ok, List.map_toArray, List.map_cons, List.map_nil, hs, hx, run_app_none w y hn]
  exact hK

/-- behind the appending -/
def AppCut (S : Nat → Prop) (w6 : World) (e0 P : Nat) (ys : List Nat) (wx : World) : Prop :=
  ∃ (z : Hd) (w7 : World), z.n = ys.length ∧ (z.n = 0 → z.c = 0) ∧ Ext w6 w7 ∧ RdO kInt S w7 z.v (zs ys) ∧ wx = w7.setCell ⟨e0, P, none⟩ z.v
/-- behind the taking -/
def TakeCut (w : World) (D : List (List Nat)) (P F : Nat) (r k q : Value) (wx : World) : Prop :=
  ∃ y : Hd, r = y.v ∧ k = .int .i64 ((takeN D P F).1 : Nat) ∧ q = .int .i64 0 ∧ y.n = (takeN D P F).2.length ∧ (y.n = 0 → y.c = 0) ∧ (F = P → y.c = y.n) ∧ (∀ S : Nat → Prop, (∀ x, S x → x < w.heap.size) → RdO kInt S wx y.v (zs (takeN D P F).2)) ∧ Ext w wx
/-- what goAt, and step, leave -/
def GoSaid (S : Nat → Prop) (V e0 g m e : Nat) (r : Cw × Ev) (w : World) (ed : Ending) (w' : World) : Prop :=
  ∃ (A' B' : Option Addr) (a' b' : Nat) (hs' : Nat → Hd), ed = .returned (.int .i64 0) ∧ GoAt S w' V e0 g m r.1 r.2 A' B' a' b' e hs' ∧ GrewG V e0 w w'
theorem set_getD_same (D : List (List Nat)) (P : Nat) (hP : P < D.length) : D.set P (D.getD P []) = D := by
  rw [getDp hP]; exact List.set_getElem_self hP
set_option maxHeartbeats 6400000 in
set_option maxRecDepth 100000 in
theorem goAt_any {S : Nat → Prop} {V e0 g n m : Nat} {c : Cw} {ev : Ev} {A B : Option Addr} {a b e : Nat} {hs : Nat → Hd} {done : Nat} {G : List Nat} (P F : Nat) (w : World) (h : GoAt S w V e0 g m c ev A B a b e hs) (hI : CwI g n m c done G) (hP : P < m) (hF : F < m) (hne : c.D.getD F [] ≠ []) (hFP : F = P ∨ c.D.getD P [] = [])
    (n1 : 1 ≤ n) (n2 : n ≤ 900) (g1 : 1 ≤ g) (g2 : g ≤ 100) (m2 : m ≤ 8) (hst : c.st < 100000) :
    Calls Try.prog 70 #[.pointer (some ⟨V, 0, none⟩), .int .i64 P, .int .i64 F] w (GoSaid S V e0 g m e (goP g c P F) w) := by
  have H := Lib.hid h
  have HI := Lib.hid hI
  have HNE := Lib.hid hne
  have HFP := Lib.hid hFP
  have v3 := h.v3
  have zF := h.hd F hF
  have nF := h.hn F hF
  have HRF : Hid (Rd kInt w (hs F).v (zs (c.D.getD F []))) := Lib.hid (h.hr F hF).rd
  have HNF := Lib.hid nF
  have hfl : (c.D.getD F []).length ≤ 4000 := by
    have h1 := hI.few g1 n1
    have h2 := (CrI.fresh hI).2.2.2
    have h3 := (held_at c.D F (by rw [h.dl]; exact hF)).length_eq
    rw [List.length_append] at h3
    omega
  have hF0 : (0 : Int) ≤ F := by omega
  have hF1 : (F : Int) < m := by omega
  have hP0 : (0 : Int) ≤ P := by omega
  have hP1 : (P : Int) < m := by omega
  have m3 : (m : Int) ≤ 8 := by omega
  have lV : V < w.heap.size := h.sl V h.sV
  have lE : e0 < w.heap.size := h.sl e0 h.sE
  clear h hI hne hFP nF
  go_enter Try.func70, Try.ntmps70
  go_upto_if 15 with fail
  go_cut [7] (fun t wx => w = wx ∧ ((F = P ∧ t = .func (.func 74) #[] #[]) ∨ (F ≠ P ∧ t = .func (.func 75) #[] #[])))
  case first =>
    by_cases e : F = P
    · subst e
      go_wp2_with fail
      go_meet
      exact ⟨rfl, .inl ⟨trivial, rfl⟩⟩
    · have e1 : ¬ (F : Int) = P := by omega
      go_wp2_with fail
      go_meet
      exact ⟨rfl, .inr ⟨e, rfl⟩⟩
  case rest =>
  obtain ⟨rfl, htake⟩ := hcut
  go_upto_region 4 with fail
  go_cut [8, 9, 10] (fun r k q wx => TakeCut w c.D P F r k q wx)
  case first =>
    rcases htake with ⟨e, rfl⟩ | ⟨e, rfl⟩
    · have HTK : Hid (takeN c.D P F = ((c.D.getD F []).getLastD 0, (c.D.getD F []).dropLast)) := Lib.hid (by unfold takeN; rw [if_pos e])
      have HE := Lib.hid e
      clear e
      go_wp2_with fail
      refine (pop_go (hs F) (c.D.getD F []) _ HRF.out HNF.out hfl HNE.out).mono ?_
      rintro ed w1 ⟨y, rfl, y1, y2, y3, hE1⟩
      have HY := Lib.hid (And.intro y1 (And.intro y2 (And.intro y3 hE1)))
      clear y1 y2 y3 hE1
      go_wp2_with fail
      go_meet
      obtain ⟨y1, y2, y3, hE1⟩ := HY.out
      refine ⟨y, rfl, by rw [HTK.out]; simp, rfl, by rw [HTK.out]; exact y1, fun h0 => by rw [y2]; exact h0, fun _ => y2, by rw [HTK.out]; exact y3, hE1⟩
    · have HTK : Hid (takeN c.D P F = ((c.D.getD F []).headD 0, (c.D.getD F []).tail)) := Lib.hid (by unfold takeN; rw [if_neg e])
      have HE := Lib.hid e
      clear e
      go_wp2_with fail
      refine (steal_go (hs F) (c.D.getD F []) _ HRF.out HNF.out hfl HNE.out).mono ?_
      rintro ed w1 ⟨y, rfl, y1, y2, y3, hE1⟩
      have HY := Lib.hid (And.intro y1 (And.intro y2 (And.intro y3 hE1)))
      clear y1 y2 y3 hE1
      go_wp2_with fail
      go_meet
      obtain ⟨y1, y2, y3, hE1⟩ := HY.out
      refine ⟨y, rfl, by rw [HTK.out]; simp, rfl, by rw [HTK.out]; exact y1, y2, fun hh => absurd hh HE.out, by rw [HTK.out]; exact y3, hE1⟩
  case rest =>
  obtain ⟨y, rfl, rfl, rfl, y1, y2, y3, y4, hE1⟩ := hcut
  clear htake
  have hmem : (takeN c.D P F).1 ∈ held c.D := (take_held (P := P) (by rw [H.out.dl]; exact hF) HNE.out).mem_iff.2 List.mem_cons_self
  obtain ⟨k, hk⟩ : ∃ k, (takeN c.D P F).1 = k := ⟨_, rfl⟩
  obtain ⟨R, hR⟩ : ∃ R, (takeN c.D P F).2 = R := ⟨_, rfl⟩
  rw [hk] at hmem ⊢
  rw [hR] at y1 y4
  have hO := CrI.inv HI.out
  have hkl := hO.lt k hmem
  have hfew := HI.out.few g1 n1
  have HKM := Lib.hid hmem
  have HTK : Hid (takeN c.D P F = (k, R)) := Lib.hid (by rw [← hk, ← hR])
  have HY := Lib.hid (And.intro y1 (And.intro y2 (And.intro y3 y4)))
  have H1 := Lib.hid (H.out.ext hE1)
  have HE1 := Lib.hid hE1
  have hk1 : (k : Int) < c.ts.length := by omega
  have hk0 : (0 : Int) ≤ k := by omega
  obtain ⟨ta, to', hA, hct⟩ := Rd.tasks H1.out.tsk.rd (by omega : 0 < c.ts.length)
  obtain ⟨q0, q1, q2, q3⟩ := hct k hkl
  obtain ⟨⟨lo, hi', up, wt⟩, ht⟩ : ∃ t, c.ts.getD k ⟨0, 0, 0, 0⟩ = t := ⟨_, rfl⟩
  rw [ht] at q0 q1 q2 q3
  simp only at q0 q1 q2 q3
  have htT : T c.ts k = ⟨lo, hi', up, wt⟩ := ht
  have HT := Lib.hid htT
  have x0 := H1.out.v0
  have x1 := H1.out.v1
  have x2 := H1.out.v2
  have x3 := H1.out.v3
  have htask := hO.task k hkl
  rw [htT] at htask
  simp only at htask
  have HTB := Lib.hid htask
  have hsz := (hO.szpos k hmem).2.2
  rw [htT] at hsz
  simp only at hsz
  have hD0 : (hi' - lo : Int) = (sz c.ts k : Int) := hsz
  have HDI : Hid (in64 (hi' - lo)) := Lib.hid (by unfold in64; omega)
  have HGI : Hid (in64 (g : Int)) := Lib.hid (in64_nat g (by omega))
  subst hA
  clear hk hR y1 y2 y3 y4 hE1 hct ht htT hsz hmem zF v3
  have KS : Hid (∀ w', Ext wc w' → w'.cell? ⟨V, 0, none⟩ = some (.slice (some ⟨ta, to', none⟩) c.ts.length a) ∧ w'.cell? ⟨V, 1, none⟩ = some (.int .i64 g) ∧ w'.cell? ⟨V, 2, none⟩ = some (.slice B c.dn.length b) ∧ w'.cell? ⟨V, 3, none⟩ = some (.slice (some ⟨e0, 0, none⟩) m e) ∧ w'.cell? ⟨ta, to' + k * 4, none⟩ = some (.int .i64 lo) ∧ w'.cell? ⟨ta, to' + k * 4 + 1, none⟩ = some (.int .i64 hi') ∧ w'.cell? ⟨ta, to' + k * 4 + 2, none⟩ = some (.int .i64 up) ∧ w'.cell? ⟨ta, to' + k * 4 + 3, none⟩ = some (.int .i64 wt)) := Lib.hid fun w' hE => ⟨hE.cell x0, hE.cell x1, hE.cell x2, hE.cell x3, hE.cell q0, hE.cell q1, hE.cell q2, hE.cell q3⟩
  have HGR : Hid (∀ w', Ext wc w' → Calls Try.prog 76 #[.agg #[.slice (some ⟨ta, to', none⟩) c.ts.length a, .int .i64 g, .slice B c.dn.length b], .agg #[.int .i64 lo, .int .i64 hi', .int .i64 up, .int .i64 wt]] w' fun ed w'' => ed = .returned (.bool (decide ((g : Int) < hi' - lo))) ∧ Ext wc w'') := Lib.hid fun w' hE =>
    (cgreat_any _ _ _ _ _ _ lo hi' up wt g w' HDI.out HGI.out).mono fun ed w'' hh => ⟨hh.1, hE.trans hh.2⟩
  go_wp2_with fail
  refine wp_region_class (Ext wc) (by kernel_rfl) (by kernel_rfl) (Ext.refl _).drew ?_
  try simp only [List.append_eq, List.cons_append, List.nil_append]
  repeat (first
    | go_big_quiet_skip
    | (go_big_quiet_want
       first
       | (go_big_quiet_op; go_big_quiet_on)
       | (unfold Oper.quiet
          apply Exists.intro
          refine ⟨fun w' hC => ?_, ?_⟩
          · (obtain ⟨k1, k2, k3, k4, k5, k6, k7, k8⟩ := KS.out w' hC
             unfold Oper.quietAt
             go_simp
             first
             | exact rfl
             | (with_reducible exact HGR.out w' hC))
          go_simp
          go_big_quiet_on)
       | (go_big_quiet_op
          apply Exists.intro
          refine ⟨fun w' hC => ?_, ?_⟩
          · exact HGR.out w' hC
          go_big_quiet_on)))
  refine wpQuiet_nil ?_
  intro w4 hC4
  have hC4' := hC4
  have H4 := Lib.hid (H1.out.ext hC4)
  have HC4 := Lib.hid hC4
  have HDL : Hid (c.dn.length = n) := Lib.hid hO.dl
  have HWR : Hid (wRight c.ts (g : Int) n = true) := Lib.hid (hO.right g1 g2 n1 n2)
  have HKT := Lib.hid hO
  by_cases hs' : g < sz c.ts k
  · have hdd : decide ((g : Int) < hi' - lo) = true := decide_eq_true (by omega)
    have HGB : Hid (wGreat c.ts (g : Int) n k = true) := Lib.hid (by rw [hO.greatB g1 g2 n1 n2 k HKM.out]; exact decide_eq_true hs')
    have HGO : Hid (goP g c P F = (⟨partedL c.ts k, c.dn, (c.D.set F R).set P ((c.D.set F R).getD P [] ++ [c.ts.length + 1, c.ts.length]), c.over, c.st + 1, c.id⟩, ⟨P, F, k, true⟩)) := Lib.hid (by unfold goP; rw [HTK.out]; simp only; rw [if_pos hs'])
    clear hC4 hC4' x0 x1 x2 x3 q0 q1 q2 q3 hO htask
    go_wp2_with fail
    refine (part_go k _ H4.out HDL.out HWR.out hkl HGB.out (HKT.out.w0 k HKM.out) (by omega) g2 (by omega)).mono ?_
    rintro ed w5 ⟨A5, B5, a5, b5, Hb, rfl, H5, hO5, hW5⟩
    have hC4' := HC4.out
    have H5' := Lib.hid H5
    have v35 := H5.v3
    have hd5 := H5.hd F hF
    have hf5 := H5.fE
    have lE5 : e0 < w5.heap.size := H5.sl e0 H5.sE
    have HO5 := Lib.hid hO5
    have HW5 := Lib.hid hW5
    clear H5 hO5 hW5 hC4'
    go_wp2_with fail
    have H6 : Hid (GoAt S (w5.setCell ⟨e0, F, none⟩ y.v) V e0 g m ⟨partedL c.ts k, c.dn, c.D.set F R, c.over, c.st, c.id⟩ ev A5 B5 a5 b5 e (fun j => if j = F then y else hs j)) := Lib.hid (H5'.out.setHd F hF y R HY.out.1 HY.out.2.1 (((HY.out.2.2.2 S H.out.sl).ext HC4.out).grew (H.out.grewS HW5.out)))
    have HG6 : Hid (GrewG V e0 w5 (w5.setCell ⟨e0, F, none⟩ y.v)) := Lib.hid (Grew.setCell (p := ⟨e0, F, none⟩) (Grew.refl _ w5) (.inr rfl) _)
    have hx6 := H6.out.hd P hP
    have hn6 := H6.out.hn P hP
    have hr6 := H6.out.hr P hP
    have hc6 := H6.out.hc P hP
    have hv6 := H6.out.v3
    have hf6 := H6.out.fE
    have l6 := H6.out.sl
    have lE6 : e0 < (w5.setCell ⟨e0, F, none⟩ y.v).heap.size := H6.out.sl e0 H6.out.sE
    simp only at hx6 hn6 hr6 hc6
    obtain ⟨x, hx⟩ : ∃ x, (if P = F then y else hs P) = x := ⟨_, rfl⟩
    rw [hx] at hx6 hn6 hr6 hc6
    obtain ⟨xs, hxs⟩ : ∃ xs, (c.D.set F R).getD P [] = xs := ⟨_, rfl⟩
    rw [hxs] at hn6 hr6
    have hfull : x.c = x.n := by
      by_cases e : P = F
      · rw [← hx, if_pos e]; exact HY.out.2.2.1 e.symm
      · rcases HFP.out with h1 | h1
        · exact absurd h1.symm e
        · have h2 : x.n = 0 := by rw [hn6, ← hxs, List.getD_eq_getElem?_getD, List.getElem?_set_ne (Ne.symm e), ← List.getD_eq_getElem?_getD, h1]; rfl
          rw [h2]; exact hc6 h2
    have HXS := Lib.hid hxs
    have HX := Lib.hid (And.intro hn6 (And.intro hfull hr6))
    have HXL : Hid (xs.length ≤ 1000000) := Lib.hid (by
      have h1 := (CrI.fresh HI.out).2.2.2
      have h2 := held_set c.D F R (by rw [H.out.dl]; exact hF)
      have h3 := (held_at (c.D.set F R) P (by rw [List.length_set, H.out.dl]; exact hP)).length_eq
      have h4 := (take_held (P := P) (D := c.D) (F := F) (by rw [H.out.dl]; exact hF) HNE.out).length_eq
      rw [HTK.out] at h4
      simp only [List.length_cons, List.length_append] at h3 h4
      rw [HXS.out] at h3
      omega)
    clear hx hxs hn6 hr6 hc6 hfull hd5 v35 hf5
    generalize hw6 : w5.setCell ⟨e0, F, none⟩ y.v = w6 at *
    clear hw6
    have HO6 : Hid (Rd kInt w6 (.slice (some ⟨Hb, 0, none⟩) 2 2) [((c.ts.length + 1 : Nat) : Int), (c.ts.length : Int)]) := Lib.hid ((HO5.out.rd.off (S := S) (fun a ha hs => by cases ha; have h1 := HO5.out.lt Hb rfl; have h2 := H4.out.sl Hb hs; omega)) w6 (H.out.grewS HG6.out))
    have hHb : ∀ o, w6.frozen? ⟨e0, o, none⟩ = false := hf6
    clear hf6
    go_cut [] (fun wx => AppCut S w6 e0 P (xs ++ [c.ts.length + 1, c.ts.length]) wx)
    case first =>
      go_region_law (first
        | (refine step_grow2 (by rfl) (.tmp 82) (.tmp 83) (by rfl) (by rfl) x xs (c.ts.length + 1) c.ts.length Hb (by rfl) HX.out.1 HX.out.2.1 (HX.out.2.2.rd.ext (Ext.refl _).drew) (by rfl) (HO6.out.ext (Ext.refl _).drew) HXL.out ?_
           intro z w7 z1 z2 hE7 z3
           have ZZ := Lib.hid (And.intro z1 (And.intro z2 (And.intro hE7 z3)))
           have hv7 : w7.cell? ⟨V, 3, none⟩ = some (.slice (some ⟨e0, 0, none⟩) m e) := hE7.cell (by go_simp)
           have hx7 : w7.cell? ⟨e0, P, none⟩ = some x.v := hE7.cell (by go_simp)
           have hf7 : ∀ o, w7.frozen? ⟨e0, o, none⟩ = false := fun o => (Below.frozen hE7 (p := ⟨e0, o, none⟩) (by simp; omega)).trans (by have := hHb o; go_simp)
           have lE7 : e0 < w7.heap.size := by have := hE7.size; simp at this; omega
           clear z1 z2 hE7 z3))
      all_goals go_wp2_with fail
      all_goals go_meet
      all_goals exact ⟨z, w7, ZZ.out.1, ZZ.out.2.1, (Ext.refl w6).drew.trans ZZ.out.2.2.1, ZZ.out.2.2.2 S (fun s hs => by first | exact l6 s hs | (simp; exact l6 s hs)), rfl⟩
    case rest =>
    obtain ⟨z, w7, z1, z2, hE7, z3, rfl⟩ := hcut
    have H8 := ((H6.out.ext hE7).setHd P hP z (xs ++ [c.ts.length + 1, c.ts.length]) z1 z2 z3)
    have H8' := Lib.hid H8
    have hv8 := H8.v5
    have hv9 := And.intro H8.v7 (And.intro H8.v8 (And.intro H8.v9 (And.intro H8.v10 H8.fV)))
    obtain ⟨k7, k8, k9, k10, kf⟩ := hv9
    have HG8 : Hid (GrewG V e0 w (w7.setCell ⟨e0, P, none⟩ z.v)) := Lib.hid ((((((Grew.of HE1.out).ext HC4.out).trans HW5.out).trans HG6.out).ext hE7).setCell (p := ⟨e0, P, none⟩) (.inr rfl) _)
    have lV8 : V < (w7.setCell ⟨e0, P, none⟩ z.v).heap.size := H8.sl V H8.sV
    clear H8 z1 z2 hE7 z3
    generalize hw8 : w7.setCell ⟨e0, P, none⟩ z.v = w8 at *
    clear hw8 hx6 hv6 hHb lE6 l6
    have s1 : (c.st : Int) < 100000 := by omega
    have s2 : (0 : Int) ≤ c.st := by omega
    go_wp2_with fail
    go_ret
    rw [HGO.out]
    have h9 := (H8'.out.setSt (c.st + 1)).setEv ⟨P, F, k, true⟩
    simp only at h9
    rw [← HXS.out] at h9
    exact ⟨A5, B5, a5, b5, _, rfl, h9, ((((((HG8.out.setCell (p := ⟨V, 5, none⟩) (.inl rfl) _).setCell (p := ⟨V, 7, none⟩) (.inl rfl) _).setCell (p := ⟨V, 8, none⟩) (.inl rfl) _).setCell (p := ⟨V, 9, none⟩) (.inl rfl) _).setCell (p := ⟨V, 10, none⟩) (.inl rfl) _))⟩
  · have hdd : decide ((g : Int) < hi' - lo) = false := decide_eq_false (by omega)
    have HGB : Hid (wGreat c.ts (g : Int) n k = false) := Lib.hid (by rw [hO.greatB g1 g2 n1 n2 k HKM.out]; exact decide_eq_false hs')
    have HGO : Hid (goP g c P F = (⟨(climb (c.ts.length + 1) c.ts (T c.ts k).up).1, marked c.dn (T c.ts k).lo.toNat (T c.ts k).hi.toNat, c.D.set F R, c.over || (climb (c.ts.length + 1) c.ts (T c.ts k).up).2, c.st + 1, c.id⟩, ⟨P, F, k, false⟩)) := Lib.hid (by unfold goP; rw [HTK.out]; simp only; rw [if_neg hs'])
    have hcv := (hO.cov lo.toNat (by omega)).2 ⟨k, HKM.out, by rw [HT.out]; simp only; omega, by rw [HT.out]; simp only; omega⟩
    have hov : c.over = false := by
      rw [CrI.ov HI.out, decide_eq_false_iff_not]
      intro e; have := HKM.out; rw [e] at this; cases this
    have HCV := Lib.hid hcv
    have HOV := Lib.hid hov
    clear hcv hov hC4 hC4' x0 x1 x2 x3 q0 q1 q2 q3 hO htask
    go_wp2_with fail
    refine (do_go k _ H4.out HDL.out HWR.out hkl HGB.out (HKT.out.w0 k HKM.out) (by rw [HT.out]; exact HTB.out.1) (by rw [HT.out]; have := HTB.out.2.1; simp only; omega) (by rw [HT.out]; exact HTB.out.2.2.1) (by rw [HT.out]; exact HCV.out) HOV.out (by omega) g2 (by omega)).mono ?_
    rintro ed w5 ⟨A5, B5, a5, b5, rfl, H5, hW5⟩
    have hC4' := HC4.out
    have H5' := Lib.hid H5
    have v35 := H5.v3
    have hd5 := H5.hd F hF
    have hf5 := H5.fE
    have lE5 : e0 < w5.heap.size := H5.sl e0 H5.sE
    have HW5 := Lib.hid hW5
    clear H5 hW5 hC4'
    go_wp2_with fail
    have H6 : Hid (GoAt S (w5.setCell ⟨e0, F, none⟩ y.v) V e0 g m ⟨(climb (c.ts.length + 1) c.ts (T c.ts k).up).1, marked c.dn (T c.ts k).lo.toNat (T c.ts k).hi.toNat, c.D.set F R, c.over || (climb (c.ts.length + 1) c.ts (T c.ts k).up).2, c.st, c.id⟩ ev A5 B5 a5 b5 e (fun j => if j = F then y else hs j)) := Lib.hid (H5'.out.setHd F hF y R HY.out.1 HY.out.2.1 (((HY.out.2.2.2 S H.out.sl).ext HC4.out).grew (H.out.grewS HW5.out)))
    have HG6 : Hid (GrewG V e0 w5 (w5.setCell ⟨e0, F, none⟩ y.v)) := Lib.hid (Grew.setCell (p := ⟨e0, F, none⟩) (Grew.refl _ w5) (.inr rfl) _)
    have hx6 := H6.out.hd P hP
    have hn6 := H6.out.hn P hP
    have hr6 := H6.out.hr P hP
    have hc6 := H6.out.hc P hP
    have hv6 := H6.out.v3
    have hf6 := H6.out.fE
    have l6 := H6.out.sl
    have lE6 : e0 < (w5.setCell ⟨e0, F, none⟩ y.v).heap.size := H6.out.sl e0 H6.out.sE
    simp only at hx6 hn6 hr6 hc6
    obtain ⟨x, hx⟩ : ∃ x, (if P = F then y else hs P) = x := ⟨_, rfl⟩
    rw [hx] at hx6 hn6 hr6 hc6
    obtain ⟨xs, hxs⟩ : ∃ xs, (c.D.set F R).getD P [] = xs := ⟨_, rfl⟩
    rw [hxs] at hn6 hr6
    have hfull : x.c = x.n := by
      by_cases e : P = F
      · rw [← hx, if_pos e]; exact HY.out.2.2.1 e.symm
      · rcases HFP.out with h1 | h1
        · exact absurd h1.symm e
        · have h2 : x.n = 0 := by rw [hn6, ← hxs, List.getD_eq_getElem?_getD, List.getElem?_set_ne (Ne.symm e), ← List.getD_eq_getElem?_getD, h1]; rfl
          rw [h2]; exact hc6 h2
    have HXS := Lib.hid hxs
    have HX := Lib.hid (And.intro hn6 (And.intro hfull hr6))
    have HXL : Hid (xs.length ≤ 1000000) := Lib.hid (by
      have h1 := (CrI.fresh HI.out).2.2.2
      have h2 := held_set c.D F R (by rw [H.out.dl]; exact hF)
      have h3 := (held_at (c.D.set F R) P (by rw [List.length_set, H.out.dl]; exact hP)).length_eq
      have h4 := (take_held (P := P) (D := c.D) (F := F) (by rw [H.out.dl]; exact hF) HNE.out).length_eq
      rw [HTK.out] at h4
      simp only [List.length_cons, List.length_append] at h3 h4
      rw [HXS.out] at h3
      omega)
    clear hx hxs hn6 hr6 hc6 hfull hd5 v35 hf5
    generalize hw6 : w5.setCell ⟨e0, F, none⟩ y.v = w6 at *
    clear hw6
    have hHb : ∀ o, w6.frozen? ⟨e0, o, none⟩ = false := hf6
    clear hf6
    have hxv : x.n ≤ x.c := by rw [HX.out.2.1]; exact Nat.le_refl _
    have HXV := Lib.hid hxv
    clear hxv
    go_cut [] (fun wx => AppCut S w6 e0 P xs wx)
    case first =>
      go_region_law (first
        | (refine step_none (by rfl) (.tmp 82) (.tmp 83) (by rfl) (by rfl) x (by rfl) HXV.out (by rfl) ?_))
      all_goals go_wp2_with fail
      all_goals go_meet
      all_goals exact ⟨x, w6.drew, HX.out.1, fun h0 => by rw [HX.out.2.1]; exact h0, (Ext.refl w6).drew, HX.out.2.2.ext (Ext.refl w6).drew, rfl⟩
    case rest =>
    obtain ⟨z, w7, z1, z2, hE7, z3, rfl⟩ := hcut
    have H8 := ((H6.out.ext hE7).setHd P hP z xs z1 z2 z3)
    have H8' := Lib.hid H8
    have hv8 := H8.v5
    have hv9 := And.intro H8.v7 (And.intro H8.v8 (And.intro H8.v9 (And.intro H8.v10 H8.fV)))
    obtain ⟨k7, k8, k9, k10, kf⟩ := hv9
    have HG8 : Hid (GrewG V e0 w (w7.setCell ⟨e0, P, none⟩ z.v)) := Lib.hid ((((((Grew.of HE1.out).ext HC4.out).trans HW5.out).trans HG6.out).ext hE7).setCell (p := ⟨e0, P, none⟩) (.inr rfl) _)
    have lV8 : V < (w7.setCell ⟨e0, P, none⟩ z.v).heap.size := H8.sl V H8.sV
    clear H8 z1 z2 hE7 z3
    generalize hw8 : w7.setCell ⟨e0, P, none⟩ z.v = w8 at *
    clear hw8 hx6 hv6 hHb lE6 l6
    have s1 : (c.st : Int) < 100000 := by omega
    have s2 : (0 : Int) ≤ c.st := by omega
    go_wp2_with fail
    go_ret
    rw [HGO.out]
    have h9 := (H8'.out.setSt (c.st + 1)).setEv ⟨P, F, k, false⟩
    simp only at h9
    rw [← HXS.out, set_getD_same _ P (by rw [List.length_set, H.out.dl]; exact hP)] at h9
    exact ⟨A5, B5, a5, b5, _, rfl, h9, ((((((HG8.out.setCell (p := ⟨V, 5, none⟩) (.inl rfl) _).setCell (p := ⟨V, 7, none⟩) (.inl rfl) _).setCell (p := ⟨V, 8, none⟩) (.inl rfl) _).setCell (p := ⟨V, 9, none⟩) (.inl rfl) _).setCell (p := ⟨V, 10, none⟩) (.inl rfl) _))⟩
end Go.Proofs.Ytjabahfkgaamdaa

/- The program's Right of a crew, where it may be. -/
namespace Go.Proofs.Ytjabahfkgaamdaa
open Go.BigFrame
open Go.RowKit Go.Proofs.Ytjabahfkgaamdaa.Plain

/-- which of n are among these -/
def metL (n : Nat) (L : List Nat) : List Bool := (List.range n).map fun i => decide (i ∈ L)
theorem metL_len (n : Nat) (L : List Nat) : (metL n L).length = n := by unfold metL; simp
theorem metL_getD (n : Nat) (L : List Nat) (j : Nat) (hj : j < n) : (metL n L).getD j false = decide (j ∈ L) := by
  unfold metL
  rw [List.getD_eq_getElem?_getD, List.getElem?_map, List.getElem?_range hj]; rfl
theorem metL_nil (n : Nat) : metL n [] = List.replicate n false := by
  unfold metL
  apply List.ext_getElem?
  intro i
  rw [List.getElem?_map, List.getElem?_replicate]
  by_cases hi : i < n
  · rw [List.getElem?_range hi, if_pos hi]; rfl
  · rw [List.getElem?_eq_none (by simpa using hi), if_neg hi]; rfl
theorem metL_snoc (n : Nat) (L : List Nat) (k : Nat) (hk : k < n) : metL n (L ++ [k]) = (metL n L).set k true := by
  unfold metL
  apply List.ext_getElem?
  intro i
  by_cases hi : i < n
  · rw [List.getElem?_map, List.getElem?_range hi]
    by_cases e : i = k
    · subst e
      rw [List.getElem?_set_self (by simpa using hk)]; simp
    · rw [List.getElem?_set_ne (by omega), List.getElem?_map, List.getElem?_range hi]; simp [e]
  · rw [List.getElem?_eq_none (by simpa using hi), List.getElem?_eq_none (by simpa using hi)]

set_option maxHeartbeats 1600000 in
set_option maxRecDepth 100000 in
theorem holds_yes (A B : Option Addr) (eb eo a b e g n m : Nat) (c : Cw) (done : Nat) (G : List Nat) (w : World) (h : CrewAt w m c A B eb eo a b) (hI : CwI g n m c done G) (n1 : 1 ≤ n) (n2 : n ≤ 900) (g1 : 1 ≤ g) (g2 : g ≤ 100) (m2 : m ≤ 8) :
    Calls Try.prog 73 #[crewV A B eb eo a b e g m c] w fun ed w' => ed = .returned (.bool true) ∧ Ext w w' := by
  have HI := Lib.hid hI
  have HH := Lib.hid h
  have hfew := hI.few g1 n1
  have hts : (c.ts.length : Int) ≤ 1800 := by omega
  have hO := CrI.inv hI
  have hgl : (held c.D).length ≤ c.ts.length := by have := (CrI.fresh hI).2.2.2; omega
  have HDN : Hid (c.dn.length = n) := Lib.hid hO.dl
  obtain ⟨N, hN⟩ : ∃ N, (held c.D).length = N := ⟨_, rfl⟩
  have hNl : N ≤ 1800 := by omega
  have HN := Lib.hid hN
  obtain ⟨hs, hds⟩ := h.deq
  have HDS := Lib.hid hds
  obtain ⟨n0, hn0⟩ : ∃ n0, c.ts.length = n0 := ⟨_, rfl⟩
  have htl0 : 0 < n0 := by rw [← hn0]; exact hO.len
  obtain ⟨ta, to', rfl, hct⟩ := Rd.tasks h.tsk.rd (by omega : 0 < c.ts.length)
  rw [hn0] at hts hfew
  have HCT : Hid (∀ j, j < n0 → _) := Lib.hid (by rw [← hn0]; exact hct)
  have HTN := Lib.hid hn0
  obtain ⟨C, hmk, hmown⟩ := kBool.make false rfl trivial n0 (by omega)
  have HMK := Lib.hid hmown
  have hmk2 : ∀ w : World, (Instr.makeSlice 52 (.int .i64 n0) (.int .i64 n0)).run Try.prog w = .ok (.slice (some ⟨w.heap.size, 0, none⟩) n0 n0) (w.alloc (.cells C 4)) := hmk
  clear hmk
  clear h hI hO hgl hN hds hct hmown
  unfold crewV
  rw [hn0]
  clear hn0
  go_enter Try.func73, Try.ntmps73
  go_wp2_with fail
  refine (concat_all _ _ _ _ hs c.D _ (HDS.out.ext (((Ext.refl _).alloc _).alloc _)) m2 (by rw [HN.out]; omega)).mono ?_
  rintro ed w1 ⟨A1, c1, rfl, hown, hE⟩
  rw [HN.out]
  have HR1 := Lib.hid (rd_of_ints hown.ints)
  have HF1 : Hid (From (w.heap.size + 2) A1) := Lib.hid (hown.from.mono (by simp))
  have HM1 := Lib.hid ((HMK.out (w.alloc (.cells #[.slice (some ⟨ta, to', none⟩) n0 a, .int .i64 g, .slice B c.dn.length b, .slice (some ⟨eb, eo, none⟩) m e, .bool c.over, .int .i64 c.st, .int .i64 c.id] 57)) (w.heap.size + 1) (w.heap.size + 1) (by simp) (Nat.le_refl _)).ext hE)
  have HE1 := Lib.hid ((((Ext.refl w).alloc _).alloc _).trans hE)
  have x0 : w1.cell? ⟨w.heap.size, 0, none⟩ = some (.slice (some ⟨ta, to', none⟩) n0 a) := hE.cell (by go_simp)
  have x1 : w1.cell? ⟨w.heap.size, 1, none⟩ = some (.int .i64 g) := hE.cell (by go_simp)
  have x2 : w1.cell? ⟨w.heap.size, 2, none⟩ = some (.slice B c.dn.length b) := hE.cell (by go_simp)
  have HX : Hid (w1.cell? ⟨w.heap.size, 0, none⟩ = some (.slice (some ⟨ta, to', none⟩) n0 a) ∧ w1.cell? ⟨w.heap.size, 1, none⟩ = some (.int .i64 g) ∧ w1.cell? ⟨w.heap.size, 2, none⟩ = some (.slice B c.dn.length b)) := Lib.hid ⟨x0, x1, x2⟩
  have HZ := Lib.hid hE.size
  clear hown hE x0 x1 x2
  go_wp2_with fail
  go_loopw [15] (fun i wr => ∃ k : Nat, k ≤ N ∧ i = .int .i64 k ∧ Ow kBool (w.heap.size + 1) wr (.slice (some ⟨w.heap.size + 1, 0, none⟩) n0 n0) (metL n0 ((held c.D).take k)) ∧ Grew (fun b => b = w.heap.size + 1) w1 wr) (fun i _ => N - (intOf i).toNat)
  case atStart => exact ⟨0, Nat.zero_le _, rfl, by rw [List.take_zero, metL_nil]; exact HM1.out, Grew.refl _ _⟩
  case round =>
    obtain ⟨k, hk, rfl, hown, hG⟩ := hrel
    have HO := Lib.hid hown
    have HG := Lib.hid hG
    have hk0 : (0 : Int) ≤ k := by omega
    by_cases hlt : k < N
    · have hlt' : (k : Int) < N := by omega
      obtain ⟨i, hi⟩ : ∃ i, (held c.D).getD k 0 = i := ⟨_, rfl⟩
      have him : i ∈ held c.D := by
        rw [← hi, List.getD_eq_getElem?_getD, List.getElem?_eq_getElem (by rw [HN.out]; exact hlt)]
        exact List.getElem_mem _
      have hO := CrI.inv HI.out
      have hin : i < n0 := by rw [← HTN.out]; exact hO.lt i him
      have hnot : i ∉ (held c.D).take k := by
        intro hh
        have hnd := hO.nd
        rw [← List.take_append_drop k (held c.D), List.nodup_append] at hnd
        refine hnd.2.2 i hh i ?_ rfl
        have hd := List.drop_eq_getElem_cons (l := held c.D) (i := k) (by rw [HN.out]; exact hlt)
        rw [hd, ← hi, List.getD_eq_getElem?_getD, List.getElem?_eq_getElem (by rw [HN.out]; exact hlt)]
        exact List.mem_cons_self
      have hsucc : (held c.D).take (k + 1) = (held c.D).take k ++ [i] := by
        rw [List.take_succ_eq_append_getElem (by rw [HN.out]; exact hlt), ← hi, List.getD_eq_getElem?_getD, List.getElem?_eq_getElem (by rw [HN.out]; exact hlt)]; rfl
      have HS : Hid (metL n0 ((held c.D).take (k + 1)) = (metL n0 ((held c.D).take k)).set i true) := Lib.hid (by rw [hsucc]; exact metL_snoc n0 _ i hin)
      obtain ⟨b1, o1, rfl, hc1⟩ := HR1.out.cells (by rw [zs_len, HN.out]; omega)
      have hb1 := HF1.out _ rfl
      simp only at hb1
      have z0 := hc1 k (by rw [zs_len, HN.out]; exact hlt) 0 _ rfl
      have e0 : (zs (held c.D)).getD k kInt.d = ((i : Nat) : Int) := by rw [← hi]; exact zs_getD _ _
      have z1 : w1.cell? ⟨b1, o1 + k, none⟩ = some (.int .i64 i) := by
        rw [e0] at z0
        rw [show o1 + k = o1 + k * kInt.n + 0 from by show o1 + k = o1 + k * 1 + 0; omega]
        exact z0
      have zi := hG.cell z1 (by omega)
      obtain ⟨⟨lo, hi', up, wt⟩, ht⟩ : ∃ t, c.ts.getD i ⟨0, 0, 0, 0⟩ = t := ⟨_, rfl⟩
      have htT : T c.ts i = ⟨lo, hi', up, wt⟩ := ht
      have hw0 := hO.w0 i him
      rw [htT] at hw0
      simp only at hw0
      subst hw0
      have htask := hO.task i (hO.lt i him)
      rw [htT] at htask
      simp only at htask
      obtain ⟨t1, t2, t3, _, _, _, _⟩ := htask
      have hcov := (hO.cov lo.toNat (by omega)).2 ⟨i, him, by rw [htT]; simp only; omega, by rw [htT]; simp only; omega⟩
      obtain ⟨y0, y1, y2, y3⟩ := HCT.out i hin
      rw [ht] at y0 y1 y2 y3
      simp only at y0 y1 y2 y3
      have lta : ta < w.heap.size := World.block_lt_of_cell? _ _ y0
      have q0 := hG.cell (HE1.out.cell y0) (by omega)
      have q1 := hG.cell (HE1.out.cell y1) (by omega)
      have q2 := hG.cell (HE1.out.cell y2) (by omega)
      have q3 := hG.cell (HE1.out.cell y3) (by omega)
      have x0 := hG.cell HX.out.1 (by omega)
      have x1 := hG.cell HX.out.2.1 (by omega)
      have x2 := hG.cell HX.out.2.2 (by omega)
      obtain ⟨g', eg, _, _, h3, h4⟩ := Ow.pos hown (by rw [metL_len]; exact htl0)
      obtain rfl : g' = w.heap.size + 1 := by cases eg; rfl
      have zm : wr.cell? ⟨w.heap.size + 1, i, none⟩ = some (.bool false) := by
        have := h3 i (by rw [metL_len]; exact hin) 0 _ rfl
        rw [show (metL n0 ((held c.D).take k)).getD i kBool.d = false by rw [show kBool.d = false from rfl, metL_getD _ _ _ hin]; exact decide_eq_false hnot] at this
        rw [show i = i * kBool.n + 0 from by show i = i * 1 + 0; omega]
        exact this
      have HDR : Hid (Rd kBool wr (.slice B c.dn.length b) c.dn) := Lib.hid (HH.out.dns wr (Grew.of (hG.toExt HE1.out (fun b hb => by rw [hb]; omega))))
      have HFR := Lib.hid h4
      have hi0 : (0 : Int) ≤ i := by omega
      have hi1 : (i : Int) < n0 := by omega
      have hd1 : decide ((i : Int) < 0) = false := decide_eq_false (by omega)
      have hd2 : decide ((n0 : Int) ≤ (i : Int)) = false := decide_eq_false (by omega)
      have hd3 : decide (n0 ≤ i) = false := decide_eq_false (by omega)
      clear hown hG h3 h4 z0 z1 e0 hc1 hi ht htT him hO hnot hsucc y0 y1 y2 y3 eg
      have KS : Hid (∀ w', Ext wr w' → w'.cell? ⟨w.heap.size, 0, none⟩ = some (.slice (some ⟨ta, to', none⟩) n0 a) ∧ w'.cell? ⟨w.heap.size, 1, none⟩ = some (.int .i64 g) ∧ w'.cell? ⟨w.heap.size, 2, none⟩ = some (.slice B c.dn.length b) ∧ w'.cell? ⟨w.heap.size + 1, i, none⟩ = some (.bool false) ∧ w'.cell? ⟨ta, to' + i * 4, none⟩ = some (.int .i64 lo) ∧ w'.cell? ⟨ta, to' + i * 4 + 1, none⟩ = some (.int .i64 hi') ∧ w'.cell? ⟨ta, to' + i * 4 + 2, none⟩ = some (.int .i64 up) ∧ w'.cell? ⟨ta, to' + i * 4 + 3, none⟩ = some (.int .i64 0)) := Lib.hid fun w' hE => ⟨hE.cell x0, hE.cell x1, hE.cell x2, hE.cell zm, hE.cell q0, hE.cell q1, hE.cell q2, hE.cell q3⟩
      go_wp2_with fail
      have HOP : Hid (∀ w', Ext wr w' → Calls Try.prog 81 #[.agg #[.slice (some ⟨ta, to', none⟩) n0 a, .int .i64 g, .slice B c.dn.length b], .agg #[.int .i64 lo, .int .i64 hi', .int .i64 up, .int .i64 0]] w' fun ed w'' => ed = .returned (.bool true) ∧ Ext wr w'') := Lib.hid fun w' hE =>
        (copen_yes _ _ _ _ _ lo hi' up g c.dn w' (HDR.out.ext hE) t1 t2 (by rw [HDN.out]; omega) g1 g2 (by rw [HDN.out]; omega) hcov).mono fun ed w'' hh => ⟨hh.1, hE.trans hh.2⟩
      refine wp_region_class (Ext wr) (by kernel_rfl) (by kernel_rfl) (Ext.refl _).drew ?_
      try simp only [List.append_eq, List.cons_append, List.nil_append]
      repeat (first
        | go_big_quiet_skip
        | (go_big_quiet_want
           first
           | (go_big_quiet_op; go_big_quiet_on)
           | (unfold Oper.quiet
              apply Exists.intro
              refine ⟨fun w' hC => ?_, ?_⟩
              · (obtain ⟨k1, k2, k3, k4, k5, k6, k7, k8⟩ := KS.out w' hC
                 unfold Oper.quietAt
                 go_simp
                 first
                 | exact rfl
                 | (with_reducible exact HOP.out w' hC))
              go_simp
              go_big_quiet_on)
           | (go_big_quiet_op
              apply Exists.intro
              refine ⟨fun w' hC => ?_, ?_⟩
              · exact HOP.out w' hC
              go_big_quiet_on)))
      refine wpQuiet_nil ?_
      intro w4 hC4
      have y3 := fun o => (Below.frozen hC4 (p := ⟨w.heap.size + 1, o, none⟩) (by have := HZ.out; have := HG.out.size; simp at this ⊢; omega)).trans (HFR.out o)
      have l1 : w.heap.size + 1 < w4.heap.size := by have := HZ.out; have := HG.out.size; have := hC4.size; simp at *; omega
      have zm4 := hC4.cell zm
      have hset := (HO.out.ext hC4).set (j := i) (i := 0) (x := true) (u := .bool true) (by rw [metL_len]; exact hin) (by decide) rfl trivial
      rw [show i * kBool.n + 0 = i from by show i * 1 + 0 = i; omega, ← HS.out] at hset
      have HSET := Lib.hid hset
      clear hset
      go_wp2_with fail
      go_roundw
      case rel => exact ⟨k + 1, by omega, by go_num, HSET.out, (HG.out.ext hC4).setCell rfl _⟩
      case measure => simp [intOf]; omega
    · obtain rfl : k = N := by omega
      go_wp2_with fail
      go_ret
      exact ⟨rfl, hG.toExt HE1.out (fun b hb => by rw [hb]; omega)⟩

set_option maxHeartbeats 800000 in
set_option maxRecDepth 100000 in
/-- a crew that may be -/
theorem cright_yes (A B : Option Addr) (eb eo a b e g n m : Nat) (c : Cw) (done : Nat) (G : List Nat) (w : World) (h : CrewAt w m c A B eb eo a b) (hI : CwI g n m c done G) (n1 : 1 ≤ n) (n2 : n ≤ 900) (g1 : 1 ≤ g) (g2 : g ≤ 100) (m1 : 1 ≤ m) (m2 : m ≤ 8) (hst : c.st ≤ 100000) (hid : c.id ≤ 100000) :
    Calls Try.prog 66 #[crewV A B eb eo a b e g m c] w fun ed w' => ed = .returned (.bool true) ∧ Ext w w' := by
  have HI := Lib.hid hI
  have HH := Lib.hid h
  have HWR : Hid (wRight c.ts (g : Int) c.dn.length = true) := Lib.hid (by rw [(CrI.inv hI).dl]; exact (CrI.inv hI).right g1 g2 n1 n2)
  have HDL : Hid (c.dn.length = n) := Lib.hid (CrI.inv hI).dl
  have HGI : Hid (in64 (g : Int)) := Lib.hid (by unfold in64; omega)
  have s1 : (0 : Int) ≤ (c.st : Int) := by omega
  have s2 : (c.st : Int) ≤ 100000 := by omega
  have s3 : (0 : Int) ≤ (c.id : Int) := by omega
  have s4 : (c.id : Int) ≤ 100000 := by omega
  clear h hI
  go_enter Try.func66, Try.ntmps66
  go_wp2_with fail
  refine (right_to A B a b _ _ c.ts g true _ (HH.out.tsk.rd.ext ((Ext.refl _).alloc _)) rfl (by rw [HDL.out]; omega) HGI.out HWR.out).mono ?_
  rintro ed w1 ⟨rfl, hE⟩
  have x3 : w1.cell? ⟨w.heap.size, 3, none⟩ = some (.slice (some ⟨eb, eo, none⟩) m e) := hE.cell (by go_simp)
  have x5 : w1.cell? ⟨w.heap.size, 5, none⟩ = some (.int .i64 c.st) := hE.cell (by go_simp)
  have x6 : w1.cell? ⟨w.heap.size, 6, none⟩ = some (.int .i64 c.id) := hE.cell (by go_simp)
  have x0 : w1.cell? ⟨w.heap.size, 0, none⟩ = some (.slice A c.ts.length a) := hE.cell (by go_simp)
  have x1 : w1.cell? ⟨w.heap.size, 1, none⟩ = some (.int .i64 g) := hE.cell (by go_simp)
  have x2 : w1.cell? ⟨w.heap.size, 2, none⟩ = some (.slice B c.dn.length b) := hE.cell (by go_simp)
  have x4 : w1.cell? ⟨w.heap.size, 4, none⟩ = some (.bool c.over) := hE.cell (by go_simp)
  have HE1 := Lib.hid (((Ext.refl w).alloc _).trans hE)
  clear hE
  go_wp2_with (first | (go_at_call 41; refine (manned_yes _ _ m1 m2).mono ?_; rintro ed w2 ⟨rfl, rfl⟩) | (go_at_call 72; refine (counted_yes _ _ (by assumption) (by assumption)).mono ?_; rintro ed w2 ⟨rfl, rfl⟩))
  refine (holds_yes A B eb eo a b e g n m c _ _ _ (HH.out.ext HE1.out) HI.out n1 n2 g1 g2 m2).mono ?_
  rintro ed w3 ⟨rfl, hE3⟩
  go_wp2_with fail
  go_ret
  exact ⟨rfl, HE1.out.trans hE3⟩
end Go.Proofs.Ytjabahfkgaamdaa

/- The program's copy of a crew: memory of its own. -/
namespace Go.Proofs.Ytjabahfkgaamdaa
open Go.BigFrame
open Go.RowKit Go.Proofs.Ytjabahfkgaamdaa.Plain

theorem Ow.off {α : Type} {K : Kd α} {S : Nat → Prop} {B n c : Nat} {w : World} {A : Option Addr} {xs : List α} (h : Ow K B w (.slice A n c) xs) (hS : ∀ x, S x → x < B ∨ w.heap.size ≤ x) : RdO K S w (.slice A n c) xs :=
  h.rd.off fun a ha hs => by
    subst ha
    have := h.lt a.block rfl
    have := hS _ hs
    omega
/-- while deques are cloned, one after the other -/
structure CopyAt (S : Nat → Prop) (w1 : World) (e0 m k : Nat) (D : List (List Nat)) (hs : Nat → Hd) (wr : World) : Prop where
  done : ∀ j, j < k → wr.cell? ⟨e0, j, none⟩ = some (hs j).v ∧ (hs j).n = (D.getD j []).length ∧ ((hs j).n = 0 → (hs j).c = 0) ∧ RdO kInt S wr (hs j).v (zs (D.getD j []))
  rest : ∀ j, k ≤ j → j < m → wr.cell? ⟨e0, j, none⟩ = some (.slice none 0 0)
  frz : ∀ o, wr.frozen? ⟨e0, o, none⟩ = false
  grew : Grew (fun b => b = e0) w1 wr
theorem CopyAt.next {S : Nat → Prop} {w1 wr w2 : World} {e0 m k : Nat} {D : List (List Nat)} {hs : Nat → Hd} (h : CopyAt S w1 e0 m k D hs wr) (sE : S e0) (lE : e0 < wr.heap.size) (hE : Ext wr w2) (x : Hd) (hn : x.n = (D.getD k []).length) (hc : x.n = 0 → x.c = 0) (hr : RdO kInt S w2 x.v (zs (D.getD k []))) (hk : k < m) :
    CopyAt S w1 e0 m (k + 1) D (fun j => if j = k then x else hs j) (w2.setCell ⟨e0, k, none⟩ x.v) := by
  have hold : w2.cell? ⟨e0, k, none⟩ = some (.slice none 0 0) := hE.cell (h.rest k (Nat.le_refl _) hk)
  have hfz : w2.frozen? ⟨e0, k, none⟩ = false := (Below.frozen hE (p := ⟨e0, k, none⟩) lE).trans (h.frz k)
  refine ⟨fun j hj => ?_, fun j hj hjm => ?_, fun o => ?_, (h.grew.ext hE).setCell rfl _⟩
  · by_cases e : j = k
    · subst e
      rw [if_pos rfl]
      exact ⟨by go_simp, hn, hc, hr.setCell sE _⟩
    · rw [if_neg e]
      obtain ⟨h1, h2, h3, h4⟩ := h.done j (by omega)
      refine ⟨?_, h2, h3, (h4.ext hE).setCell sE _⟩
      rw [World.cell?_setCell_other _ _ _ _ (fun e' => e (by cases e'; rfl))]
      exact hE.cell h1
  · rw [World.cell?_setCell_other _ _ _ _ (fun e' => by cases e'; omega)]
    exact hE.cell (h.rest j (by omega) hjm)
  · rw [World.frozen?_setCell]
    exact (Below.frozen hE (p := ⟨e0, o, none⟩) lE).trans (h.frz o)

set_option maxHeartbeats 1600000 in
set_option maxRecDepth 100000 in
theorem ccopy_any (A B : Option Addr) (eb eo a b e g m : Nat) (c : Cw) (w : World) (h : CrewAt w m c A B eb eo a b) (me : m ≤ e) (m1 : 1 ≤ m) (m2 : m ≤ 8) (lt : c.ts.length ≤ 1000000) (ln : c.dn.length ≤ 1000000) (lh : ∀ j, (c.D.getD j []).length ≤ 1000000) :
    Calls Try.prog 60 #[crewV A B eb eo a b e g m c] w fun ed w' => ∃ (A' B' : Option Addr) (e0 a' b' : Nat) (hs : Nat → Hd), ed = .returned (crewV A' B' e0 0 a' b' m g m c) ∧
      w.heap.size ≤ e0 ∧ e0 < w'.heap.size ∧ (∀ o, w'.frozen? ⟨e0, o, none⟩ = false) ∧
      RdO kTask (fun x => x < w.heap.size + 2 ∨ x = e0) w' (.slice A' c.ts.length a') c.ts ∧ RdO kBool (fun x => x < w.heap.size + 2 ∨ x = e0) w' (.slice B' c.dn.length b') c.dn ∧
      (∀ j, j < m → w'.cell? ⟨e0, j, none⟩ = some (hs j).v ∧ (hs j).n = (c.D.getD j []).length ∧ ((hs j).n = 0 → (hs j).c = 0) ∧ RdO kInt (fun x => x < w.heap.size + 2 ∨ x = e0) w' (hs j).v (zs (c.D.getD j []))) ∧ Ext w w' := by
  have HH := Lib.hid h
  have HLH := Lib.hid lh
  obtain ⟨hs0, hds⟩ := h.deq
  have HDS := Lib.hid hds
  have HDL : Hid (c.D.length = m) := Lib.hid hds.1
  have m3 : (m : Int) ≤ 8 := by omega
  have m4 : (1 : Int) ≤ m := by omega
  have m5 : (m : Int) ≤ e := by omega
  obtain ⟨C, hmk, hmown⟩ := kRow.make hd0 rfl trivial m (by omega)
  have HMK := Lib.hid hmown
  have hmk2 : ∀ w : World, (Instr.makeSlice 55 (.int .i64 m) (.int .i64 m)).run Try.prog w = .ok (.slice (some ⟨w.heap.size, 0, none⟩) m m) (w.alloc (.cells C 32)) := hmk
  clear hmk h hds hmown lh
  go_enter Try.func60, Try.ntmps60
  go_wp2_with fail
  refine (clone_t _ c.ts _ (HH.out.tsk.rd.ext (((Ext.refl _).alloc _).alloc _)) (by omega)).mono ?_
  rintro ed w1 ⟨A1, a1, rfl, hT1, hE1⟩
  have v0 : w1.cell? ⟨w.heap.size, 0, none⟩ = some (.slice A c.ts.length a) := Ext.cell hE1 (by go_simp)
  have v1 : w1.cell? ⟨w.heap.size, 1, none⟩ = some (.int .i64 g) := Ext.cell hE1 (by go_simp)
  have v2 : w1.cell? ⟨w.heap.size, 2, none⟩ = some (.slice B c.dn.length b) := Ext.cell hE1 (by go_simp)
  have v3 : w1.cell? ⟨w.heap.size, 3, none⟩ = some (.slice (some ⟨eb, eo, none⟩) m e) := Ext.cell hE1 (by go_simp)
  have v4 : w1.cell? ⟨w.heap.size, 4, none⟩ = some (.bool c.over) := Ext.cell hE1 (by go_simp)
  have v5 : w1.cell? ⟨w.heap.size, 5, none⟩ = some (.int .i64 c.st) := Ext.cell hE1 (by go_simp)
  have v6 : w1.cell? ⟨w.heap.size, 6, none⟩ = some (.int .i64 c.id) := Ext.cell hE1 (by go_simp)
  have vf : ∀ o, w1.frozen? ⟨w.heap.size, o, none⟩ = false := fun o => (Below.frozen hE1 (p := ⟨w.heap.size, o, none⟩) (by first | omega | (simp; omega) | simp)).trans (by go_simp)
  have r0 : w1.cell? ⟨w.heap.size + 1, 0, none⟩ = some (.slice none 0 0) := Ext.cell hE1 (by go_simp)
  have r1 : w1.cell? ⟨w.heap.size + 1, 1, none⟩ = some (.int .i64 0) := Ext.cell hE1 (by go_simp)
  have r2 : w1.cell? ⟨w.heap.size + 1, 2, none⟩ = some (.slice none 0 0) := Ext.cell hE1 (by go_simp)
  have r3 : w1.cell? ⟨w.heap.size + 1, 3, none⟩ = some (.slice none 0 0) := Ext.cell hE1 (by go_simp)
  have r4 : w1.cell? ⟨w.heap.size + 1, 4, none⟩ = some (.bool false) := Ext.cell hE1 (by go_simp)
  have r5 : w1.cell? ⟨w.heap.size + 1, 5, none⟩ = some (.int .i64 0) := Ext.cell hE1 (by go_simp)
  have r6 : w1.cell? ⟨w.heap.size + 1, 6, none⟩ = some (.int .i64 0) := Ext.cell hE1 (by go_simp)
  have rf : ∀ o, w1.frozen? ⟨w.heap.size + 1, o, none⟩ = false := fun o => (Below.frozen hE1 (p := ⟨w.heap.size + 1, o, none⟩) (by first | omega | (simp; omega) | simp)).trans (by go_simp)
  have hz1 := hE1.size
  simp at hz1
  have l1 : w.heap.size < w1.heap.size := by omega
  have l1' : w.heap.size + 1 < w1.heap.size := by omega
  have HT1 := Lib.hid hT1
  have HX1 := Lib.hid (((((Ext.refl w).alloc _).alloc _).trans hE1).setCell (p := ⟨w.heap.size, 0, none⟩) (Nat.le_refl _) (.slice A1 c.ts.length a1))
  clear hE1 hT1
  go_wp2_with fail
  refine (clone_b _ c.dn _ (HH.out.dns.rd.ext HX1.out) (by omega)).mono ?_
  rintro ed w2 ⟨B1, b1, rfl, hD1, hE2⟩
  have y0 : w2.cell? ⟨w.heap.size, 0, none⟩ = some (.slice A1 c.ts.length a1) := Ext.cell hE2 (by go_simp)
  have y1 : w2.cell? ⟨w.heap.size, 1, none⟩ = some (.int .i64 g) := Ext.cell hE2 (by go_simp)
  have y2 : w2.cell? ⟨w.heap.size, 2, none⟩ = some (.slice B c.dn.length b) := Ext.cell hE2 (by go_simp)
  have y3 : w2.cell? ⟨w.heap.size, 3, none⟩ = some (.slice (some ⟨eb, eo, none⟩) m e) := Ext.cell hE2 (by go_simp)
  have y4 : w2.cell? ⟨w.heap.size, 4, none⟩ = some (.bool c.over) := Ext.cell hE2 (by go_simp)
  have y5 : w2.cell? ⟨w.heap.size, 5, none⟩ = some (.int .i64 c.st) := Ext.cell hE2 (by go_simp)
  have y6 : w2.cell? ⟨w.heap.size, 6, none⟩ = some (.int .i64 c.id) := Ext.cell hE2 (by go_simp)
  have yf : ∀ o, w2.frozen? ⟨w.heap.size, o, none⟩ = false := fun o => (Below.frozen hE2 (p := ⟨w.heap.size, o, none⟩) (by first | omega | (simp; omega) | simp)).trans (by go_simp)
  have s0 : w2.cell? ⟨w.heap.size + 1, 0, none⟩ = some (.slice none 0 0) := Ext.cell hE2 (by go_simp)
  have s1 : w2.cell? ⟨w.heap.size + 1, 1, none⟩ = some (.int .i64 0) := Ext.cell hE2 (by go_simp)
  have s2 : w2.cell? ⟨w.heap.size + 1, 2, none⟩ = some (.slice none 0 0) := Ext.cell hE2 (by go_simp)
  have s3 : w2.cell? ⟨w.heap.size + 1, 3, none⟩ = some (.slice none 0 0) := Ext.cell hE2 (by go_simp)
  have s4 : w2.cell? ⟨w.heap.size + 1, 4, none⟩ = some (.bool false) := Ext.cell hE2 (by go_simp)
  have s5 : w2.cell? ⟨w.heap.size + 1, 5, none⟩ = some (.int .i64 0) := Ext.cell hE2 (by go_simp)
  have s6 : w2.cell? ⟨w.heap.size + 1, 6, none⟩ = some (.int .i64 0) := Ext.cell hE2 (by go_simp)
  have sf : ∀ o, w2.frozen? ⟨w.heap.size + 1, o, none⟩ = false := fun o => (Below.frozen hE2 (p := ⟨w.heap.size + 1, o, none⟩) (by first | omega | (simp; omega) | simp)).trans (by go_simp)
  have hz2 := hE2.size
  simp at hz2
  have l2 : w.heap.size < w2.heap.size := by omega
  have l2' : w.heap.size + 1 < w2.heap.size := by omega
  have HD1 := Lib.hid hD1
  have HT2 := Lib.hid ((HT1.out.setBelow (p := ⟨w.heap.size, 0, none⟩) (by simp; omega) (.slice A1 c.ts.length a1)).ext hE2)
  have HX2 := Lib.hid ((HX1.out.trans hE2).setCell (p := ⟨w.heap.size, 2, none⟩) (Nat.le_refl _) (.slice B1 c.dn.length b1))
  clear hE2 hD1 v0 v1 v2 v3 v4 v5 v6 vf r0 r1 r2 r3 r4 r5 r6 rf
  go_wp2_with fail
  obtain ⟨e0, he0⟩ : ∃ e0, w2.heap.size = e0 := ⟨_, rfl⟩
  have HT3 : Hid (RdO kTask (fun x => x < w.heap.size + 2 ∨ x = e0) ((w2.setCell ⟨w.heap.size, 2, none⟩ (.slice B1 c.dn.length b1)).alloc (.cells C 32)) (.slice A1 c.ts.length a1) c.ts) := Lib.hid (by
    refine RdO.ext (Ow.off (HT2.out.setBelow (p := ⟨w.heap.size, 2, none⟩) (by simp; omega) (.slice B1 c.dn.length b1)) (fun x hx => ?_)) ((Ext.refl _).alloc _)
    rcases hx with hx | hx
    · left; simp; omega
    · right; subst hx; rw [← he0, World.size_setCell]; exact Nat.le_refl _)
  have HD3 : Hid (RdO kBool (fun x => x < w.heap.size + 2 ∨ x = e0) ((w2.setCell ⟨w.heap.size, 2, none⟩ (.slice B1 c.dn.length b1)).alloc (.cells C 32)) (.slice B1 c.dn.length b1) c.dn) := Lib.hid (by
    refine RdO.ext (Ow.off (HD1.out.setBelow (p := ⟨w.heap.size, 2, none⟩) (by simp; omega) (.slice B1 c.dn.length b1)) (fun x hx => ?_)) ((Ext.refl _).alloc _)
    rcases hx with hx | hx
    · left; simp; omega
    · right; subst hx; rw [← he0, World.size_setCell]; exact Nat.le_refl _)
  have HX3 : Hid (Ext w ((w2.setCell ⟨w.heap.size, 2, none⟩ (.slice B1 c.dn.length b1)).alloc (.cells C 32))) := Lib.hid (HX2.out.alloc _)
  have HC3 : Hid (CopyAt (fun x => x < w.heap.size + 2 ∨ x = e0) ((w2.setCell ⟨w.heap.size, 2, none⟩ (.slice B1 c.dn.length b1)).alloc (.cells C 32)) e0 m 0 c.D (fun _ => hd0) ((w2.setCell ⟨w.heap.size, 2, none⟩ (.slice B1 c.dn.length b1)).alloc (.cells C 32))) := Lib.hid (by
    have hm := HMK.out (w2.setCell ⟨w.heap.size, 2, none⟩ (.slice B1 c.dn.length b1)) e0 e0 (by rw [World.size_setCell]; exact he0.symm) (Nat.le_refl _)
    obtain ⟨g', eg, _, _, h3, h4⟩ := Ow.pos hm (by rw [List.length_replicate]; exact m1)
    cases eg
    refine ⟨fun j hj => absurd hj (Nat.not_lt_zero _), fun j _ hj => ?_, h4, Grew.refl _ _⟩
    have := h3 j (by rw [List.length_replicate]; exact hj) 0 (.slice none 0 0) (by rw [List.getD_eq_getElem?_getD, List.getElem?_replicate, if_pos hj]; rfl)
    rw [show j = j * kRow.n + 0 from by show j = j * 1 + 0; omega]
    exact this)
  have le0 : w.heap.size + 1 < e0 := by omega
  have le00 : w.heap.size < e0 := by omega
  have HZ3 : Hid (e0 < ((w2.setCell ⟨w.heap.size, 2, none⟩ (.slice B1 c.dn.length b1)).alloc (.cells C 32)).heap.size) := Lib.hid (by simp; omega)
  have hEr : Ext ((w2.setCell ⟨w.heap.size, 2, none⟩ (.slice B1 c.dn.length b1)).alloc (.cells C 32)) ((w2.setCell ⟨w.heap.size, 2, none⟩ (.slice B1 c.dn.length b1)).alloc (.cells C 32)) := Ext.refl _
  rw [he0]
  have l3 : w.heap.size + 1 < ((w2.setCell ⟨w.heap.size, 2, none⟩ (.slice B1 c.dn.length b1)).alloc (.cells C 32)).heap.size := by simp; omega
  have q0 : ((w2.setCell ⟨w.heap.size, 2, none⟩ (.slice B1 c.dn.length b1)).alloc (.cells C 32)).cell? ⟨w.heap.size, 0, none⟩ = some (.slice A1 c.ts.length a1) := Ext.cell hEr (by go_simp)
  have q1 : ((w2.setCell ⟨w.heap.size, 2, none⟩ (.slice B1 c.dn.length b1)).alloc (.cells C 32)).cell? ⟨w.heap.size, 1, none⟩ = some (.int .i64 g) := Ext.cell hEr (by go_simp)
  have q2 : ((w2.setCell ⟨w.heap.size, 2, none⟩ (.slice B1 c.dn.length b1)).alloc (.cells C 32)).cell? ⟨w.heap.size, 2, none⟩ = some (.slice B1 c.dn.length b1) := Ext.cell hEr (by go_simp)
  have q3 : ((w2.setCell ⟨w.heap.size, 2, none⟩ (.slice B1 c.dn.length b1)).alloc (.cells C 32)).cell? ⟨w.heap.size, 3, none⟩ = some (.slice (some ⟨eb, eo, none⟩) m e) := Ext.cell hEr (by go_simp)
  have q4 : ((w2.setCell ⟨w.heap.size, 2, none⟩ (.slice B1 c.dn.length b1)).alloc (.cells C 32)).cell? ⟨w.heap.size, 4, none⟩ = some (.bool c.over) := Ext.cell hEr (by go_simp)
  have q5 : ((w2.setCell ⟨w.heap.size, 2, none⟩ (.slice B1 c.dn.length b1)).alloc (.cells C 32)).cell? ⟨w.heap.size, 5, none⟩ = some (.int .i64 c.st) := Ext.cell hEr (by go_simp)
  have q6 : ((w2.setCell ⟨w.heap.size, 2, none⟩ (.slice B1 c.dn.length b1)).alloc (.cells C 32)).cell? ⟨w.heap.size, 6, none⟩ = some (.int .i64 c.id) := Ext.cell hEr (by go_simp)
  have qf : ∀ o, ((w2.setCell ⟨w.heap.size, 2, none⟩ (.slice B1 c.dn.length b1)).alloc (.cells C 32)).frozen? ⟨w.heap.size, o, none⟩ = false := fun o => (Below.frozen hEr (p := ⟨w.heap.size, o, none⟩) (by first | omega | (simp; omega) | simp)).trans (by go_simp)
  have x0 : ((w2.setCell ⟨w.heap.size, 2, none⟩ (.slice B1 c.dn.length b1)).alloc (.cells C 32)).cell? ⟨w.heap.size + 1, 0, none⟩ = some (.slice none 0 0) := Ext.cell hEr (by go_simp)
  have x1 : ((w2.setCell ⟨w.heap.size, 2, none⟩ (.slice B1 c.dn.length b1)).alloc (.cells C 32)).cell? ⟨w.heap.size + 1, 1, none⟩ = some (.int .i64 0) := Ext.cell hEr (by go_simp)
  have x2 : ((w2.setCell ⟨w.heap.size, 2, none⟩ (.slice B1 c.dn.length b1)).alloc (.cells C 32)).cell? ⟨w.heap.size + 1, 2, none⟩ = some (.slice none 0 0) := Ext.cell hEr (by go_simp)
  have x3 : ((w2.setCell ⟨w.heap.size, 2, none⟩ (.slice B1 c.dn.length b1)).alloc (.cells C 32)).cell? ⟨w.heap.size + 1, 3, none⟩ = some (.slice none 0 0) := Ext.cell hEr (by go_simp)
  have x4 : ((w2.setCell ⟨w.heap.size, 2, none⟩ (.slice B1 c.dn.length b1)).alloc (.cells C 32)).cell? ⟨w.heap.size + 1, 4, none⟩ = some (.bool false) := Ext.cell hEr (by go_simp)
  have x5 : ((w2.setCell ⟨w.heap.size, 2, none⟩ (.slice B1 c.dn.length b1)).alloc (.cells C 32)).cell? ⟨w.heap.size + 1, 5, none⟩ = some (.int .i64 0) := Ext.cell hEr (by go_simp)
  have x6 : ((w2.setCell ⟨w.heap.size, 2, none⟩ (.slice B1 c.dn.length b1)).alloc (.cells C 32)).cell? ⟨w.heap.size + 1, 6, none⟩ = some (.int .i64 0) := Ext.cell hEr (by go_simp)
  have xf : ∀ o, ((w2.setCell ⟨w.heap.size, 2, none⟩ (.slice B1 c.dn.length b1)).alloc (.cells C 32)).frozen? ⟨w.heap.size + 1, o, none⟩ = false := fun o => (Below.frozen hEr (p := ⟨w.heap.size + 1, o, none⟩) (by first | omega | (simp; omega) | simp)).trans (by go_simp)
  clear hEr y0 y1 y2 y3 y4 y5 y6 yf s0 s1 s2 s3 s4 s5 s6 sf HT2 HD1 HX2 HT1 HX1 HMK hz1 hz2 l1 l1' l2 l2'
  generalize hw3 : (w2.setCell ⟨w.heap.size, 2, none⟩ (.slice B1 c.dn.length b1)).alloc (.cells C 32) = w3 at *
  clear hw3 he0 hmk2
  go_loopw [25] (fun i wr => ∃ (k : Nat) (hs : Nat → Hd), k ≤ m ∧ i = .int .i64 k ∧ CopyAt (fun x => x < w.heap.size + 2 ∨ x = e0) w3 e0 m k c.D hs wr) (fun i _ => m - (intOf i).toNat)
  case atStart => exact ⟨0, _, Nat.zero_le _, rfl, HC3.out⟩
  case round =>
    obtain ⟨k, hs, hk, rfl, hC⟩ := hrel
    have HC := Lib.hid hC
    have hk0 : (0 : Int) ≤ k := by omega
    have hG := hC.grew
    have hzr := hG.size
    have z3 := HZ3.out
    have ler : e0 < wr.heap.size := by omega
    by_cases hlt : k < m
    · have hlt' : (k : Int) < m := by omega
      obtain ⟨z0, zn, zr⟩ := HDS.out.2 k hlt
      have hXr := hG.toExt HX3.out (fun b hb => by rw [hb]; omega)
      have z := hXr.cell z0
      obtain ⟨xs, hxs⟩ : ∃ xs, c.D.getD k [] = xs := ⟨_, rfl⟩
      rw [hxs] at zn zr
      have HXS := Lib.hid hxs
      have HZR : Hid (Rd kInt wr (hs0 k).v (zs xs)) := Lib.hid (zr.rd.ext hXr)
      have HZN := Lib.hid zn
      have HXL : Hid (xs.length ≤ 1000000) := Lib.hid (by rw [← hxs]; exact HLH.out k)
      have hrest := hC.rest k (Nat.le_refl _) hlt
      clear hC hG zn zr hXr z0 hxs
      go_wp2_with fail
      refine (clone_dq (hs0 k) xs _ HZR.out HZN.out HXL.out).mono ?_
      rintro ed w4 ⟨x, rfl, hxn, hxc, hxr, hE4⟩
      have HN4 : Hid (CopyAt (fun x => x < w.heap.size + 2 ∨ x = e0) w3 e0 m (k + 1) c.D (fun j => if j = k then x else hs j) (w4.setCell ⟨e0, k, none⟩ x.v)) := Lib.hid (HC.out.next (.inr rfl) ler hE4 x (by rw [HXS.out]; exact hxn) hxc (by rw [HXS.out]; exact hxr _ (fun y hy => by rcases hy with hy | hy <;> omega)) hlt)
      have hr4 := hE4.cell hrest
      have hf4 := fun o => (Below.frozen hE4 (p := ⟨e0, o, none⟩) ler).trans (HC.out.frz o)
      have hz4 := hE4.size
      have ler4 : e0 < w4.heap.size := by omega
      clear hxn hxc hxr hE4 hrest
      go_wp2_with fail
      go_roundw
      case rel => exact ⟨k + 1, _, by omega, by go_num, HN4.out⟩
      case measure => simp [intOf]; omega
    · obtain rfl : k = m := by omega
      have p0 := hG.cell q0 (by omega)
      have p1 := hG.cell q1 (by omega)
      have p2 := hG.cell q2 (by omega)
      have p3 := hG.cell q3 (by omega)
      have p4 := hG.cell q4 (by omega)
      have p5 := hG.cell q5 (by omega)
      have p6 := hG.cell q6 (by omega)
      have pf := fun o => (hG.frozen (b := w.heap.size) (by omega) (by omega) o).trans (qf o)
      have zz0 := hG.cell x0 (by omega)
      have zz1 := hG.cell x1 (by omega)
      have zz2 := hG.cell x2 (by omega)
      have zz3 := hG.cell x3 (by omega)
      have zz4 := hG.cell x4 (by omega)
      have zz5 := hG.cell x5 (by omega)
      have zz6 := hG.cell x6 (by omega)
      have zzf := fun o => (hG.frozen (b := w.heap.size + 1) (by omega) (by omega) o).trans (xf o)
      have lv0 : w.heap.size < wr.heap.size := by omega
      have lv1 : w.heap.size + 1 < wr.heap.size := by omega
      have HXR : Hid (Ext w wr) := Lib.hid (hG.toExt HX3.out (fun b hb => by rw [hb]; omega))
      have HTR := Lib.hid (HT3.out.grew (hG.mono (T := fun x => x < w.heap.size + 2 ∨ x = e0) (fun b _ hb => .inr hb)))
      have HDR := Lib.hid (HD3.out.grew (hG.mono (T := fun x => x < w.heap.size + 2 ∨ x = e0) (fun b _ hb => .inr hb)))
      clear q0 q1 q2 q3 q4 q5 q6 qf x0 x1 x2 x3 x4 x5 x6 xf hG hC l3 z3 hzr
      go_upto_region 10 with fail
      have hEs : Ext (wr.setCell ⟨w.heap.size, 3, none⟩ (.slice (some ⟨e0, 0, none⟩) k k)) (wr.setCell ⟨w.heap.size, 3, none⟩ (.slice (some ⟨e0, 0, none⟩) k k)) := Ext.refl _
      have mm0 : (wr.setCell ⟨w.heap.size, 3, none⟩ (.slice (some ⟨e0, 0, none⟩) k k)).cell? ⟨w.heap.size, 0, none⟩ = some (.slice A1 c.ts.length a1) := Ext.cell hEs (by go_simp)
      have mm1 : (wr.setCell ⟨w.heap.size, 3, none⟩ (.slice (some ⟨e0, 0, none⟩) k k)).cell? ⟨w.heap.size, 1, none⟩ = some (.int .i64 g) := Ext.cell hEs (by go_simp)
      have mm2 : (wr.setCell ⟨w.heap.size, 3, none⟩ (.slice (some ⟨e0, 0, none⟩) k k)).cell? ⟨w.heap.size, 2, none⟩ = some (.slice B1 c.dn.length b1) := Ext.cell hEs (by go_simp)
      have mm3 : (wr.setCell ⟨w.heap.size, 3, none⟩ (.slice (some ⟨e0, 0, none⟩) k k)).cell? ⟨w.heap.size, 3, none⟩ = some (.slice (some ⟨e0, 0, none⟩) k k) := Ext.cell hEs (by go_simp)
      have mm4 : (wr.setCell ⟨w.heap.size, 3, none⟩ (.slice (some ⟨e0, 0, none⟩) k k)).cell? ⟨w.heap.size, 4, none⟩ = some (.bool c.over) := Ext.cell hEs (by go_simp)
      have mm5 : (wr.setCell ⟨w.heap.size, 3, none⟩ (.slice (some ⟨e0, 0, none⟩) k k)).cell? ⟨w.heap.size, 5, none⟩ = some (.int .i64 c.st) := Ext.cell hEs (by go_simp)
      have mm6 : (wr.setCell ⟨w.heap.size, 3, none⟩ (.slice (some ⟨e0, 0, none⟩) k k)).cell? ⟨w.heap.size, 6, none⟩ = some (.int .i64 c.id) := Ext.cell hEs (by go_simp)
      have mmf : ∀ o, (wr.setCell ⟨w.heap.size, 3, none⟩ (.slice (some ⟨e0, 0, none⟩) k k)).frozen? ⟨w.heap.size, o, none⟩ = false := fun o => (Below.frozen hEs (p := ⟨w.heap.size, o, none⟩) (by first | omega | (simp; omega) | simp)).trans (by go_simp)
      have nn0 : (wr.setCell ⟨w.heap.size, 3, none⟩ (.slice (some ⟨e0, 0, none⟩) k k)).cell? ⟨w.heap.size + 1, 0, none⟩ = some (.slice none 0 0) := Ext.cell hEs (by go_simp)
      have nn1 : (wr.setCell ⟨w.heap.size, 3, none⟩ (.slice (some ⟨e0, 0, none⟩) k k)).cell? ⟨w.heap.size + 1, 1, none⟩ = some (.int .i64 0) := Ext.cell hEs (by go_simp)
      have nn2 : (wr.setCell ⟨w.heap.size, 3, none⟩ (.slice (some ⟨e0, 0, none⟩) k k)).cell? ⟨w.heap.size + 1, 2, none⟩ = some (.slice none 0 0) := Ext.cell hEs (by go_simp)
      have nn3 : (wr.setCell ⟨w.heap.size, 3, none⟩ (.slice (some ⟨e0, 0, none⟩) k k)).cell? ⟨w.heap.size + 1, 3, none⟩ = some (.slice none 0 0) := Ext.cell hEs (by go_simp)
      have nn4 : (wr.setCell ⟨w.heap.size, 3, none⟩ (.slice (some ⟨e0, 0, none⟩) k k)).cell? ⟨w.heap.size + 1, 4, none⟩ = some (.bool false) := Ext.cell hEs (by go_simp)
      have nn5 : (wr.setCell ⟨w.heap.size, 3, none⟩ (.slice (some ⟨e0, 0, none⟩) k k)).cell? ⟨w.heap.size + 1, 5, none⟩ = some (.int .i64 0) := Ext.cell hEs (by go_simp)
      have nn6 : (wr.setCell ⟨w.heap.size, 3, none⟩ (.slice (some ⟨e0, 0, none⟩) k k)).cell? ⟨w.heap.size + 1, 6, none⟩ = some (.int .i64 0) := Ext.cell hEs (by go_simp)
      have nnf : ∀ o, (wr.setCell ⟨w.heap.size, 3, none⟩ (.slice (some ⟨e0, 0, none⟩) k k)).frozen? ⟨w.heap.size + 1, o, none⟩ = false := fun o => (Below.frozen hEs (p := ⟨w.heap.size + 1, o, none⟩) (by first | omega | (simp; omega) | simp)).trans (by go_simp)
      have HGW : Hid (Grew (fun x => x = w.heap.size) wr (wr.setCell ⟨w.heap.size, 3, none⟩ (.slice (some ⟨e0, 0, none⟩) k k))) := Lib.hid (Grew.setCell (S := fun x => x = w.heap.size) (p := ⟨w.heap.size, 3, none⟩) (Grew.refl _ _) rfl _)
      have HG7 : Hid (Grew (fun x => x < w.heap.size + 2 ∨ x = e0) wr (wr.setCell ⟨w.heap.size, 3, none⟩ (.slice (some ⟨e0, 0, none⟩) k k))) := Lib.hid (HGW.out.mono (fun x _ hx => .inl (by rw [hx]; omega)))
      have HXS : Hid (Ext w (wr.setCell ⟨w.heap.size, 3, none⟩ (.slice (some ⟨e0, 0, none⟩) k k))) := Lib.hid (HXR.out.setCell (p := ⟨w.heap.size, 3, none⟩) (Nat.le_refl _) _)
      have lv5 : w.heap.size + 1 < ((wr.setCell ⟨w.heap.size, 3, none⟩ (.slice (some ⟨e0, 0, none⟩) k k))).heap.size := by simp; omega
      have lv7 : e0 < ((wr.setCell ⟨w.heap.size, 3, none⟩ (.slice (some ⟨e0, 0, none⟩) k k))).heap.size := by simp; omega
      have lv6 : w.heap.size < ((wr.setCell ⟨w.heap.size, 3, none⟩ (.slice (some ⟨e0, 0, none⟩) k k))).heap.size := by simp; omega
      generalize hw5 : (wr.setCell ⟨w.heap.size, 3, none⟩ (.slice (some ⟨e0, 0, none⟩) k k)) = w5 at *
      clear hw5 hEs p0 p1 p2 p3 p4 p5 p6 pf zz0 zz1 zz2 zz3 zz4 zz5 zz6 zzf
      go_wp2_with fail
      refine bodyPost_ret (v := .agg #[.slice A1 c.ts.length a1, .int .i64 g, .slice B1 c.dn.length b1, .slice (some ⟨e0, 0, none⟩) k k, .bool c.over, .int .i64 c.st, .int .i64 c.id]) (by simp [results, Try.results60, go_sem]; go_simp) rfl ⟨A1, B1, e0, a1, b1, hs, rfl, ?_, ?_, ?_, ?_, ?_, ?_, ?_⟩
      · omega
      · simp; omega
      · exact fun o => by rw [World.frozen?_setCell, World.frozen?_setCell, World.frozen?_setCell, World.frozen?_setCell, World.frozen?_setCell, World.frozen?_setCell, World.frozen?_setCell]; exact (HGW.out.frozen ler (by omega) o).trans (HC.out.frz o)
      · exact HTR.out.grew (((((((HG7.out.setCell (p := ⟨w.heap.size + 1, 0, none⟩) (.inl (by simp)) _).setCell (p := ⟨w.heap.size + 1, 1, none⟩) (.inl (by simp)) _).setCell (p := ⟨w.heap.size + 1, 2, none⟩) (.inl (by simp)) _).setCell (p := ⟨w.heap.size + 1, 3, none⟩) (.inl (by simp)) _).setCell (p := ⟨w.heap.size + 1, 4, none⟩) (.inl (by simp)) _).setCell (p := ⟨w.heap.size + 1, 5, none⟩) (.inl (by simp)) _).setCell (p := ⟨w.heap.size + 1, 6, none⟩) (.inl (by simp)) _)
      · exact HDR.out.grew (((((((HG7.out.setCell (p := ⟨w.heap.size + 1, 0, none⟩) (.inl (by simp)) _).setCell (p := ⟨w.heap.size + 1, 1, none⟩) (.inl (by simp)) _).setCell (p := ⟨w.heap.size + 1, 2, none⟩) (.inl (by simp)) _).setCell (p := ⟨w.heap.size + 1, 3, none⟩) (.inl (by simp)) _).setCell (p := ⟨w.heap.size + 1, 4, none⟩) (.inl (by simp)) _).setCell (p := ⟨w.heap.size + 1, 5, none⟩) (.inl (by simp)) _).setCell (p := ⟨w.heap.size + 1, 6, none⟩) (.inl (by simp)) _)
      · intro j hj
        obtain ⟨h1, h2, h3, h4⟩ := HC.out.done j hj
        have hG7 := (((((((HG7.out.setCell (p := ⟨w.heap.size + 1, 0, none⟩) (.inl (by simp)) (.slice A1 c.ts.length a1)).setCell (p := ⟨w.heap.size + 1, 1, none⟩) (.inl (by simp)) (.int .i64 g)).setCell (p := ⟨w.heap.size + 1, 2, none⟩) (.inl (by simp)) (.slice B1 c.dn.length b1)).setCell (p := ⟨w.heap.size + 1, 3, none⟩) (.inl (by simp)) (.slice (some ⟨e0, 0, none⟩) k k)).setCell (p := ⟨w.heap.size + 1, 4, none⟩) (.inl (by simp)) (.bool c.over)).setCell (p := ⟨w.heap.size + 1, 5, none⟩) (.inl (by simp)) (.int .i64 c.st)).setCell (p := ⟨w.heap.size + 1, 6, none⟩) (.inl (by simp)) (.int .i64 c.id))
        refine ⟨?_, h2, h3, h4.grew hG7⟩
        exact Grew.cell (S := fun x => x = w.heap.size ∨ x = w.heap.size + 1) ((((((((HGW.out.mono (T := fun x => x = w.heap.size ∨ x = w.heap.size + 1) (fun _ _ hx => .inl hx)).setCell (p := ⟨w.heap.size + 1, 0, none⟩) (.inr rfl) _).setCell (p := ⟨w.heap.size + 1, 1, none⟩) (.inr rfl) _).setCell (p := ⟨w.heap.size + 1, 2, none⟩) (.inr rfl) _).setCell (p := ⟨w.heap.size + 1, 3, none⟩) (.inr rfl) _).setCell (p := ⟨w.heap.size + 1, 4, none⟩) (.inr rfl) _).setCell (p := ⟨w.heap.size + 1, 5, none⟩) (.inr rfl) _).setCell (p := ⟨w.heap.size + 1, 6, none⟩) (.inr rfl) _) h1 (by omega)
      · exact ((((((HXS.out.setCell (by simp) _).setCell (by simp) _).setCell (by simp) _).setCell (by simp) _).setCell (by simp) _).setCell (by simp) _).setCell (by simp) _
end Go.Proofs.Ytjabahfkgaamdaa

/- One that goes steps: a step; the program's Step, Run. -/
namespace Go.Proofs.Ytjabahfkgaamdaa
open Go.BigFrame
open Go.RowKit Go.Proofs.Ytjabahfkgaamdaa.Plain

theorem srcI_none {D : List (List Nat)} {P Q : Nat} (h : srcN D P Q = none) : srcI D P Q = -1 := by unfold srcI; rw [h]
theorem srcI_some {D : List (List Nat)} {P Q F : Nat} (h : srcN D P Q = some F) : srcI D P Q = F := by unfold srcI; rw [h]
set_option maxHeartbeats 1600000 in
set_option maxRecDepth 100000 in
theorem gstep_any {S : Nat → Prop} {V e0 g n m : Nat} {c : Cw} {ev : Ev} {A B : Option Addr} {a b e : Nat} {hs : Nat → Hd} {done : Nat} {G : List Nat} (p q : Int) (w : World) (h : GoAt S w V e0 g m c ev A B a b e hs) (hI : CwI g n m c done G)
    (n1 : 1 ≤ n) (n2 : n ≤ 900) (g1 : 1 ≤ g) (g2 : g ≤ 100) (m1 : 1 ≤ m) (m2 : m ≤ 8) (hst : c.st < 100000) (hid : c.id < 100000) (hp : in64 p) (hq : in64 q) :
    Calls Try.prog 61 #[.pointer (some ⟨V, 0, none⟩), .int .i64 p, .int .i64 q] w (GoSaid S V e0 g m e (stepP g m c p q) w) := by
  have H := Lib.hid h
  have HI := Lib.hid hI
  have hP := cutN_lt m p m1
  have hQ := cutN_lt m q m1
  obtain ⟨P, hPe⟩ : ∃ P, cutN m p = P := ⟨_, rfl⟩
  obtain ⟨Q, hQe⟩ : ∃ Q, cutN m q = Q := ⟨_, rfl⟩
  rw [hPe] at hP
  rw [hQe] at hQ
  have HPE := Lib.hid (And.intro hPe hQe)
  have HPQ := Lib.hid (And.intro hp hq)
  obtain ⟨v0, v1, v2, v3, v4, v5, v6⟩ := And.intro h.v0 (And.intro h.v1 (And.intro h.v2 (And.intro h.v3 (And.intro h.v4 (And.intro h.v5 h.v6)))))
  have s1 : ¬ (c.st : Int) = 100000 := by omega
  have s2 : ¬ (c.id : Int) = 100000 := by omega
  have d1 : ((c.st : Int) == 100000) = false := by rw [beq_eq_false_iff_ne]; exact s1
  have d2 : ((c.id : Int) == 100000) = false := by rw [beq_eq_false_iff_ne]; exact s2
  have lV : V < w.heap.size := h.sl V h.sV
  clear h hI hPe hQe hp hq
  go_enter Try.func61, Try.ntmps61
  go_wp2_with fail
  refine (cright_yes A B e0 0 a b e g n m c _ _ w H.out.at_ HI.out n1 n2 g1 g2 m1 m2 (by omega) (by omega)).mono ?_
  rintro ed w1 ⟨rfl, hE1⟩
  have H1 := Lib.hid (H.out.ext hE1)
  have x3 := hE1.cell v3
  have x5 := hE1.cell v5
  have x6 := hE1.cell v6
  have HE1 := Lib.hid hE1
  clear hE1 v0 v1 v2 v3 v4 v5 v6
  go_wp2_with fail
  refine (ccut_any p m w1 HPQ.out.1 m1 m2).mono ?_
  rw [HPE.out.1]
  rintro ed w2 ⟨rfl, rfl⟩
  go_wp2_with fail
  refine (ccut_any q m w1 HPQ.out.2 m1 m2).mono ?_
  rw [HPE.out.2]
  rintro ed w2 ⟨rfl, rfl⟩
  go_wp2_with fail
  refine (source_any P Q w1 H1.out hP hQ m2).mono ?_
  cases hs' : srcN c.D P Q with
  | none =>
    rw [srcI_none hs']
    have HST : Hid (stepP g m c p q = (⟨c.ts, c.dn, c.D, c.over, c.st + 1, c.id + 1⟩, ⟨P, -1, -1, false⟩)) := Lib.hid (by unfold stepP; rw [HPE.out.1, HPE.out.2, hs'])
    clear hs'
    rintro ed w2 ⟨rfl, rfl⟩
    go_wp2_with fail
    refine (idle_any P w1 H1.out hst hid).mono ?_
    rintro ed w3 ⟨rfl, hG3, hW3⟩
    have HG3 := Lib.hid hG3
    have HW3 := Lib.hid hW3
    clear hG3 hW3
    go_wp2_with fail
    go_ret
    rw [HST.out]
    exact ⟨A, B, a, b, hs, rfl, HG3.out, (Grew.of HE1.out).trans HW3.out⟩
  | some F =>
    obtain ⟨hne, hor⟩ := srcN_some hs'
    have hF : F < m := by rcases hor with rfl | ⟨rfl, _⟩ <;> assumption
    have hFP : F = P ∨ c.D.getD P [] = [] := by rcases hor with h1 | ⟨_, _, h1⟩; exact .inl h1; exact .inr h1
    rw [srcI_some hs']
    have HST : Hid (stepP g m c p q = goP g c P F) := Lib.hid (by unfold stepP; rw [HPE.out.1, HPE.out.2, hs'])
    have HNE := Lib.hid hne
    have HFP := Lib.hid hFP
    have hF0 : ¬ (F : Int) < 0 := by omega
    clear hs' hne hor hFP
    rintro ed w2 ⟨rfl, rfl⟩
    go_wp2_with fail
    refine (goAt_any P F w1 H1.out HI.out hP hF HNE.out HFP.out n1 n2 g1 g2 m2 hst).mono ?_
    rintro ed w3 ⟨A3, B3, a3, b3, hs3, rfl, hG3, hW3⟩
    have HG3 := Lib.hid hG3
    have HW3 := Lib.hid hW3
    clear hG3 hW3
    go_wp2_with fail
    go_ret
    rw [HST.out]
    exact ⟨A3, B3, a3, b3, hs3, rfl, HG3.out, (Grew.of HE1.out).trans HW3.out⟩
end Go.Proofs.Ytjabahfkgaamdaa

/- The program's Step of a crew. -/
namespace Go.Proofs.Ytjabahfkgaamdaa
open Go.BigFrame
open Go.RowKit Go.Proofs.Ytjabahfkgaamdaa.Plain

/-- a crew, and an event, in two boxes -/
structure Boxed (w : World) (R Q : Nat) (A B : Option Addr) (e0 a b e g m : Nat) (c : Cw) (ev : Ev) : Prop where
  v0 : w.cell? ⟨R, 0, none⟩ = some (.slice A c.ts.length a)
  v1 : w.cell? ⟨R, 1, none⟩ = some (.int .i64 g)
  v2 : w.cell? ⟨R, 2, none⟩ = some (.slice B c.dn.length b)
  v3 : w.cell? ⟨R, 3, none⟩ = some (.slice (some ⟨e0, 0, none⟩) m e)
  v4 : w.cell? ⟨R, 4, none⟩ = some (.bool c.over)
  v5 : w.cell? ⟨R, 5, none⟩ = some (.int .i64 c.st)
  v6 : w.cell? ⟨R, 6, none⟩ = some (.int .i64 c.id)
  u0 : w.cell? ⟨Q, 0, none⟩ = some (.int .i64 ev.wk)
  u1 : w.cell? ⟨Q, 1, none⟩ = some (.int .i64 ev.fr)
  u2 : w.cell? ⟨Q, 2, none⟩ = some (.int .i64 ev.tk)
  u3 : w.cell? ⟨Q, 3, none⟩ = some (.bool ev.pt)
/-- the stores of both, in either order -/
theorem Boxed.one {w : World} {R Q : Nat} {A B : Option Addr} {e0 a b e g m : Nat} {c : Cw} {ev : Ev} {p0 p1 p2 p3 p4 p5 p6 o0 o1 o2 o3 : Value} (_h1 : ¬ R = Q) (h2 : ¬ Q = R) (r0 : w.cell? ⟨R, 0, none⟩ = some p0) (r1 : w.cell? ⟨R, 1, none⟩ = some p1) (r2 : w.cell? ⟨R, 2, none⟩ = some p2) (r3 : w.cell? ⟨R, 3, none⟩ = some p3) (r4 : w.cell? ⟨R, 4, none⟩ = some p4) (r5 : w.cell? ⟨R, 5, none⟩ = some p5) (r6 : w.cell? ⟨R, 6, none⟩ = some p6) (q0 : w.cell? ⟨Q, 0, none⟩ = some o0) (q1 : w.cell? ⟨Q, 1, none⟩ = some o1) (q2 : w.cell? ⟨Q, 2, none⟩ = some o2) (q3 : w.cell? ⟨Q, 3, none⟩ = some o3) : Boxed (((((((((((w.setCell ⟨R, 0, none⟩ (.slice A c.ts.length a)).setCell ⟨R, 1, none⟩ (.int .i64 g)).setCell ⟨R, 2, none⟩ (.slice B c.dn.length b)).setCell ⟨R, 3, none⟩ (.slice (some ⟨e0, 0, none⟩) m e)).setCell ⟨R, 4, none⟩ (.bool c.over)).setCell ⟨R, 5, none⟩ (.int .i64 c.st)).setCell ⟨R, 6, none⟩ (.int .i64 c.id)).setCell ⟨Q, 0, none⟩ (.int .i64 ev.wk)).setCell ⟨Q, 1, none⟩ (.int .i64 ev.fr)).setCell ⟨Q, 2, none⟩ (.int .i64 ev.tk)).setCell ⟨Q, 3, none⟩ (.bool ev.pt)) R Q A B e0 a b e g m c ev :=
  ⟨by go_simp, by go_simp, by go_simp, by go_simp, by go_simp, by go_simp, by go_simp, by go_simp, by go_simp, by go_simp, by go_simp⟩
theorem Boxed.two {w : World} {R Q : Nat} {A B : Option Addr} {e0 a b e g m : Nat} {c : Cw} {ev : Ev} {p0 p1 p2 p3 p4 p5 p6 o0 o1 o2 o3 : Value} (_h1 : ¬ R = Q) (h2 : ¬ Q = R) (r0 : w.cell? ⟨R, 0, none⟩ = some p0) (r1 : w.cell? ⟨R, 1, none⟩ = some p1) (r2 : w.cell? ⟨R, 2, none⟩ = some p2) (r3 : w.cell? ⟨R, 3, none⟩ = some p3) (r4 : w.cell? ⟨R, 4, none⟩ = some p4) (r5 : w.cell? ⟨R, 5, none⟩ = some p5) (r6 : w.cell? ⟨R, 6, none⟩ = some p6) (q0 : w.cell? ⟨Q, 0, none⟩ = some o0) (q1 : w.cell? ⟨Q, 1, none⟩ = some o1) (q2 : w.cell? ⟨Q, 2, none⟩ = some o2) (q3 : w.cell? ⟨Q, 3, none⟩ = some o3) : Boxed (((((((((((w.setCell ⟨Q, 0, none⟩ (.int .i64 ev.wk)).setCell ⟨Q, 1, none⟩ (.int .i64 ev.fr)).setCell ⟨Q, 2, none⟩ (.int .i64 ev.tk)).setCell ⟨Q, 3, none⟩ (.bool ev.pt)).setCell ⟨R, 0, none⟩ (.slice A c.ts.length a)).setCell ⟨R, 1, none⟩ (.int .i64 g)).setCell ⟨R, 2, none⟩ (.slice B c.dn.length b)).setCell ⟨R, 3, none⟩ (.slice (some ⟨e0, 0, none⟩) m e)).setCell ⟨R, 4, none⟩ (.bool c.over)).setCell ⟨R, 5, none⟩ (.int .i64 c.st)).setCell ⟨R, 6, none⟩ (.int .i64 c.id)) R Q A B e0 a b e g m c ev :=
  ⟨by go_simp, by go_simp, by go_simp, by go_simp, by go_simp, by go_simp, by go_simp, by go_simp, by go_simp, by go_simp, by go_simp⟩
theorem Boxed.ext {w W : World} {R Q : Nat} {A B : Option Addr} {e0 a b e g m : Nat} {c : Cw} {ev : Ev} (h : Boxed w R Q A B e0 a b e g m c ev) (hE : Ext w W) : Boxed W R Q A B e0 a b e g m c ev :=
  ⟨hE.cell h.v0, hE.cell h.v1, hE.cell h.v2, hE.cell h.v3, hE.cell h.v4, hE.cell h.v5, hE.cell h.v6, hE.cell h.u0, hE.cell h.u1, hE.cell h.u2, hE.cell h.u3⟩
theorem Boxed.one' {w : World} {R Q : Nat} {A B : Option Addr} {e0 a b e g m : Nat} {c : Cw} {ev : Ev} {p0 p1 p2 p3 p4 p5 p6 o0 o1 o2 o3 : Value} (h1 : ¬ R = Q) (h2 : ¬ Q = R) (r0 : w.cell? ⟨R, 0, none⟩ = some p0) (r1 : w.cell? ⟨R, 1, none⟩ = some p1) (r2 : w.cell? ⟨R, 2, none⟩ = some p2) (r3 : w.cell? ⟨R, 3, none⟩ = some p3) (r4 : w.cell? ⟨R, 4, none⟩ = some p4) (r5 : w.cell? ⟨R, 5, none⟩ = some p5) (r6 : w.cell? ⟨R, 6, none⟩ = some p6) (q0 : w.cell? ⟨Q, 0, none⟩ = some o0) (q1 : w.cell? ⟨Q, 1, none⟩ = some o1) (q2 : w.cell? ⟨Q, 2, none⟩ = some o2) (q3 : w.cell? ⟨Q, 3, none⟩ = some o3) : Boxed (World.drew (((((((((((w.setCell ⟨R, 0, none⟩ (.slice A c.ts.length a)).setCell ⟨R, 1, none⟩ (.int .i64 g)).setCell ⟨R, 2, none⟩ (.slice B c.dn.length b)).setCell ⟨R, 3, none⟩ (.slice (some ⟨e0, 0, none⟩) m e)).setCell ⟨R, 4, none⟩ (.bool c.over)).setCell ⟨R, 5, none⟩ (.int .i64 c.st)).setCell ⟨R, 6, none⟩ (.int .i64 c.id)).setCell ⟨Q, 0, none⟩ (.int .i64 ev.wk)).setCell ⟨Q, 1, none⟩ (.int .i64 ev.fr)).setCell ⟨Q, 2, none⟩ (.int .i64 ev.tk)).setCell ⟨Q, 3, none⟩ (.bool ev.pt))) R Q A B e0 a b e g m c ev ∧ Grew (fun x => x = R ∨ x = Q) w (World.drew (((((((((((w.setCell ⟨R, 0, none⟩ (.slice A c.ts.length a)).setCell ⟨R, 1, none⟩ (.int .i64 g)).setCell ⟨R, 2, none⟩ (.slice B c.dn.length b)).setCell ⟨R, 3, none⟩ (.slice (some ⟨e0, 0, none⟩) m e)).setCell ⟨R, 4, none⟩ (.bool c.over)).setCell ⟨R, 5, none⟩ (.int .i64 c.st)).setCell ⟨R, 6, none⟩ (.int .i64 c.id)).setCell ⟨Q, 0, none⟩ (.int .i64 ev.wk)).setCell ⟨Q, 1, none⟩ (.int .i64 ev.fr)).setCell ⟨Q, 2, none⟩ (.int .i64 ev.tk)).setCell ⟨Q, 3, none⟩ (.bool ev.pt))) := by
  refine ⟨(Boxed.one h1 h2 r0 r1 r2 r3 r4 r5 r6 q0 q1 q2 q3).ext ((Ext.refl _).drew), ?_⟩
  refine Grew.drew ?_
  repeat (first | (with_reducible exact Grew.refl _ _) | refine Grew.setCell ?_ (.inl rfl) _ | refine Grew.setCell ?_ (.inr rfl) _)
theorem Boxed.two' {w : World} {R Q : Nat} {A B : Option Addr} {e0 a b e g m : Nat} {c : Cw} {ev : Ev} {p0 p1 p2 p3 p4 p5 p6 o0 o1 o2 o3 : Value} (h1 : ¬ R = Q) (h2 : ¬ Q = R) (r0 : w.cell? ⟨R, 0, none⟩ = some p0) (r1 : w.cell? ⟨R, 1, none⟩ = some p1) (r2 : w.cell? ⟨R, 2, none⟩ = some p2) (r3 : w.cell? ⟨R, 3, none⟩ = some p3) (r4 : w.cell? ⟨R, 4, none⟩ = some p4) (r5 : w.cell? ⟨R, 5, none⟩ = some p5) (r6 : w.cell? ⟨R, 6, none⟩ = some p6) (q0 : w.cell? ⟨Q, 0, none⟩ = some o0) (q1 : w.cell? ⟨Q, 1, none⟩ = some o1) (q2 : w.cell? ⟨Q, 2, none⟩ = some o2) (q3 : w.cell? ⟨Q, 3, none⟩ = some o3) : Boxed (World.drew (((((((((((w.setCell ⟨Q, 0, none⟩ (.int .i64 ev.wk)).setCell ⟨Q, 1, none⟩ (.int .i64 ev.fr)).setCell ⟨Q, 2, none⟩ (.int .i64 ev.tk)).setCell ⟨Q, 3, none⟩ (.bool ev.pt)).setCell ⟨R, 0, none⟩ (.slice A c.ts.length a)).setCell ⟨R, 1, none⟩ (.int .i64 g)).setCell ⟨R, 2, none⟩ (.slice B c.dn.length b)).setCell ⟨R, 3, none⟩ (.slice (some ⟨e0, 0, none⟩) m e)).setCell ⟨R, 4, none⟩ (.bool c.over)).setCell ⟨R, 5, none⟩ (.int .i64 c.st)).setCell ⟨R, 6, none⟩ (.int .i64 c.id))) R Q A B e0 a b e g m c ev ∧ Grew (fun x => x = R ∨ x = Q) w (World.drew (((((((((((w.setCell ⟨Q, 0, none⟩ (.int .i64 ev.wk)).setCell ⟨Q, 1, none⟩ (.int .i64 ev.fr)).setCell ⟨Q, 2, none⟩ (.int .i64 ev.tk)).setCell ⟨Q, 3, none⟩ (.bool ev.pt)).setCell ⟨R, 0, none⟩ (.slice A c.ts.length a)).setCell ⟨R, 1, none⟩ (.int .i64 g)).setCell ⟨R, 2, none⟩ (.slice B c.dn.length b)).setCell ⟨R, 3, none⟩ (.slice (some ⟨e0, 0, none⟩) m e)).setCell ⟨R, 4, none⟩ (.bool c.over)).setCell ⟨R, 5, none⟩ (.int .i64 c.st)).setCell ⟨R, 6, none⟩ (.int .i64 c.id))) := by
  refine ⟨(Boxed.two h1 h2 r0 r1 r2 r3 r4 r5 r6 q0 q1 q2 q3).ext ((Ext.refl _).drew), ?_⟩
  refine Grew.drew ?_
  repeat (first | (with_reducible exact Grew.refl _ _) | refine Grew.setCell ?_ (.inl rfl) _ | refine Grew.setCell ?_ (.inr rfl) _)
/-- what Step leaves -/
def StepSaid (g m : Nat) (r : Cw × Ev) (w : World) (ed : Ending) (w' : World) : Prop :=
  ∃ (A B : Option Addr) (e0 a b : Nat), ed = .returned (.tuple #[crewV A B e0 0 a b m g m r.1, evV r.2, .int .i64 0]) ∧ CrewO (fun x => x < w.heap.size) w' m r.1 A B e0 0 a b ∧ Ext w w'

set_option maxHeartbeats 600000 in
set_option maxRecDepth 100000 in
theorem cstep_any (A B : Option Addr) (eb eo a b e g n m : Nat) (c : Cw) (done : Nat) (G : List Nat) (p q : Int) (w : World) (h : CrewAt w m c A B eb eo a b) (me : m ≤ e) (hI : CwI g n m c done G)
    (n1 : 1 ≤ n) (n2 : n ≤ 900) (g1 : 1 ≤ g) (g2 : g ≤ 100) (m1 : 1 ≤ m) (m2 : m ≤ 8) (hst : c.st < 100000) (hid : c.id < 100000) (hp : in64 p) (hq : in64 q) :
    Calls Try.prog 55 #[crewV A B eb eo a b e g m c, .int .i64 p, .int .i64 q] w (StepSaid g m (stepP g m c p q) w) := by
  have H := Lib.hid h
  have HI := Lib.hid hI
  have HPQ := Lib.hid (And.intro hp hq)
  have hfew := hI.few g1 n1
  have HLT : Hid (c.ts.length ≤ 1000000) := Lib.hid (by omega)
  have HLN : Hid (c.dn.length ≤ 1000000) := Lib.hid (by rw [(CrI.inv hI).dl]; omega)
  have HLH : Hid (∀ j, (c.D.getD j []).length ≤ 1000000) := Lib.hid (by
    intro j
    have h2 := (CrI.fresh hI).2.2.2
    by_cases hj : j < c.D.length
    · have h3 := (held_at c.D j hj).length_eq
      rw [List.length_append] at h3
      omega
    · rw [List.getD_eq_getElem?_getD, List.getElem?_eq_none (by omega)]; simp)
  obtain ⟨r, hr⟩ : ∃ r, stepP g m c p q = r := ⟨_, rfl⟩
  have HR := Lib.hid hr
  rw [hr]
  clear h hI hr hp hq hfew
  go_enter Try.func55, Try.ntmps55
  go_wp2_with fail
  refine (ccopy_any A B eb eo a b e g m c _ (H.out.ext ((((Ext.refl _).alloc _).alloc _).alloc _)) me m1 m2 HLT.out HLN.out HLH.out).mono ?_
  rintro ed w4 ⟨A1, B1, e0, a1, b1, hs, rfl, z1, z2, z3, z4, z5, z6, hE4⟩
  have r0 : w4.cell? ⟨w.heap.size + 1, 0, none⟩ = some (.slice none 0 0) := Ext.cell hE4 (by go_simp)
  have r1 : w4.cell? ⟨w.heap.size + 1, 1, none⟩ = some (.int .i64 0) := Ext.cell hE4 (by go_simp)
  have r2 : w4.cell? ⟨w.heap.size + 1, 2, none⟩ = some (.slice none 0 0) := Ext.cell hE4 (by go_simp)
  have r3 : w4.cell? ⟨w.heap.size + 1, 3, none⟩ = some (.slice none 0 0) := Ext.cell hE4 (by go_simp)
  have r4 : w4.cell? ⟨w.heap.size + 1, 4, none⟩ = some (.bool false) := Ext.cell hE4 (by go_simp)
  have r5 : w4.cell? ⟨w.heap.size + 1, 5, none⟩ = some (.int .i64 0) := Ext.cell hE4 (by go_simp)
  have r6 : w4.cell? ⟨w.heap.size + 1, 6, none⟩ = some (.int .i64 0) := Ext.cell hE4 (by go_simp)
  have rf : ∀ o, w4.frozen? ⟨w.heap.size + 1, o, none⟩ = false := fun o => (Below.frozen hE4 (p := ⟨w.heap.size + 1, o, none⟩) (by first | omega | (simp; omega) | simp)).trans (by go_simp)
  have s0 : w4.cell? ⟨w.heap.size + 1 + 1, 0, none⟩ = some (.int .i64 0) := Ext.cell hE4 (by go_simp)
  have s1 : w4.cell? ⟨w.heap.size + 1 + 1, 1, none⟩ = some (.int .i64 0) := Ext.cell hE4 (by go_simp)
  have s2 : w4.cell? ⟨w.heap.size + 1 + 1, 2, none⟩ = some (.int .i64 0) := Ext.cell hE4 (by go_simp)
  have s3 : w4.cell? ⟨w.heap.size + 1 + 1, 3, none⟩ = some (.bool false) := Ext.cell hE4 (by go_simp)
  have sf : ∀ o, w4.frozen? ⟨w.heap.size + 1 + 1, o, none⟩ = false := fun o => (Below.frozen hE4 (p := ⟨w.heap.size + 1 + 1, o, none⟩) (by first | omega | (simp; omega) | simp)).trans (by go_simp)
  simp only [World.size_alloc] at z1 z4 z5 z6
  have hz4 := hE4.size
  simp at hz4
  have HX4 := Lib.hid (((((Ext.refl w).alloc _).alloc _).alloc _).trans hE4)
  have HZ := Lib.hid (And.intro z3 (And.intro z4 (And.intro z5 z6)))
  clear z3 z4 z5 z6 hE4
  have l1 : w.heap.size + 1 < w4.heap.size := by omega
  have l2 : w.heap.size + 1 + 1 < w4.heap.size := by omega
  have l3 : w.heap.size + 1 < w4.heap.size + 1 := by omega
  have l4 : w.heap.size + 1 + 1 < w4.heap.size + 1 := by omega
  go_wp2_with fail
  obtain ⟨V, hV⟩ : ∃ V, w4.heap.size = V := ⟨_, rfl⟩
  have HGO : Hid (GoAt (fun x => x < w.heap.size + 5 ∨ x = e0 ∨ x = V) (w4.alloc (.cells #[.slice A1 c.ts.length a1, .int .i64 g, .slice B1 c.dn.length b1, .slice (some ⟨e0, 0, none⟩) m m, .bool c.over, .int .i64 c.st, .int .i64 c.id, .int .i64 0, .int .i64 0, .int .i64 0, .bool false] 103)) V e0 g m c ev0 A1 B1 a1 b1 m hs) := Lib.hid (by
    subst hV
    obtain ⟨z3, z4, z5, z6⟩ := HZ.out
    have hla : Grew (fun x => x < w.heap.size + 5 ∨ x = e0) w4 (w4.alloc (.cells #[.slice A1 c.ts.length a1, .int .i64 g, .slice B1 c.dn.length b1, .slice (some ⟨e0, 0, none⟩) m m, .bool c.over, .int .i64 c.st, .int .i64 c.id, .int .i64 0, .int .i64 0, .int .i64 0, .bool false] 103)) := (Grew.refl _ _).alloc _
    have hS : ∀ x, x < w4.heap.size → (x < w.heap.size + 5 ∨ x = e0 ∨ x = w4.heap.size) → (x < w.heap.size + 5 ∨ x = e0) := fun x hx hh => by omega
    have hEa : Ext w4 (w4.alloc (.cells #[.slice A1 c.ts.length a1, .int .i64 g, .slice B1 c.dn.length b1, .slice (some ⟨e0, 0, none⟩) m m, .bool c.over, .int .i64 c.st, .int .i64 c.id, .int .i64 0, .int .i64 0, .int .i64 0, .bool false] 103)) := (Ext.refl w4).alloc _
    refine ⟨.inr (.inr rfl), .inr (.inl rfl), fun x hx => by simp; omega, by omega, by go_simp, by go_simp, by go_simp, by go_simp, by go_simp, by go_simp, by go_simp, by unfold ev0; go_simp, by unfold ev0; go_simp, by unfold ev0; go_simp, by unfold ev0; go_simp, fun o => by go_simp, fun o => (Below.frozen hEa (p := ⟨e0, o, none⟩) z2).trans (z3 o), Nat.le_refl _, z4.later hla hS, z5.later hla hS, ?_, fun j hj => hEa.cell (z6 j hj).1, fun j hj => (z6 j hj).2.1, fun j hj => (z6 j hj).2.2.2.later hla hS, fun j hj => (z6 j hj).2.2.1⟩
    obtain ⟨hs0, hds⟩ := H.out.deq
    exact hds.1)
  have hEa : Ext w4 (w4.alloc (.cells #[.slice A1 c.ts.length a1, .int .i64 g, .slice B1 c.dn.length b1, .slice (some ⟨e0, 0, none⟩) m m, .bool c.over, .int .i64 c.st, .int .i64 c.id, .int .i64 0, .int .i64 0, .int .i64 0, .bool false] 103)) := (Ext.refl w4).alloc _
  have r0' := hEa.cell r0
  have r1' := hEa.cell r1
  have r2' := hEa.cell r2
  have r3' := hEa.cell r3
  have r4' := hEa.cell r4
  have r5' := hEa.cell r5
  have r6' := hEa.cell r6
  have s0' := hEa.cell s0
  have s1' := hEa.cell s1
  have s2' := hEa.cell s2
  have s3' := hEa.cell s3
  have rf' : ∀ o, (w4.alloc (.cells #[.slice A1 c.ts.length a1, .int .i64 g, .slice B1 c.dn.length b1, .slice (some ⟨e0, 0, none⟩) m m, .bool c.over, .int .i64 c.st, .int .i64 c.id, .int .i64 0, .int .i64 0, .int .i64 0, .bool false] 103)).frozen? ⟨w.heap.size + 1, o, none⟩ = false := fun o => (Below.frozen hEa (p := ⟨w.heap.size + 1, o, none⟩) l1).trans (rf o)
  have sf' : ∀ o, (w4.alloc (.cells #[.slice A1 c.ts.length a1, .int .i64 g, .slice B1 c.dn.length b1, .slice (some ⟨e0, 0, none⟩) m m, .bool c.over, .int .i64 c.st, .int .i64 c.id, .int .i64 0, .int .i64 0, .int .i64 0, .bool false] 103)).frozen? ⟨w.heap.size + 1 + 1, o, none⟩ = false := fun o => (Below.frozen hEa (p := ⟨w.heap.size + 1 + 1, o, none⟩) l2).trans (sf o)
  have HX5 := Lib.hid (HX4.out.trans hEa)
  have l5 : w.heap.size + 1 + 1 < (w4.alloc (.cells #[.slice A1 c.ts.length a1, .int .i64 g, .slice B1 c.dn.length b1, .slice (some ⟨e0, 0, none⟩) m m, .bool c.over, .int .i64 c.st, .int .i64 c.id, .int .i64 0, .int .i64 0, .int .i64 0, .bool false] 103)).heap.size := by simp; omega
  rw [hV]
  clear r0 r1 r2 r3 r4 r5 r6 rf s0 s1 s2 s3 sf hEa l3 l4
  generalize hw5 : w4.alloc (.cells #[.slice A1 c.ts.length a1, .int .i64 g, .slice B1 c.dn.length b1, .slice (some ⟨e0, 0, none⟩) m m, .bool c.over, .int .i64 c.st, .int .i64 c.id, .int .i64 0, .int .i64 0, .int .i64 0, .bool false] 103) = w5 at *
  clear hw5
  refine (gstep_any p q w5 HGO.out HI.out n1 n2 g1 g2 m1 m2 hst hid HPQ.out.1 HPQ.out.2).mono ?_
  rw [HR.out]
  rintro ed w6 ⟨A6, B6, a6, b6, hs6, rfl, hG6, hW6⟩
  have HG6 := Lib.hid hG6
  have HW6 := Lib.hid hW6
  have nV : ¬ (w.heap.size + 1 = V ∨ w.heap.size + 1 = e0) := by omega
  have nQ : ¬ (w.heap.size + 1 + 1 = V ∨ w.heap.size + 1 + 1 = e0) := by omega
  have y0 := hW6.cell r0' nV
  have y1 := hW6.cell r1' nV
  have y2 := hW6.cell r2' nV
  have y3 := hW6.cell r3' nV
  have y4 := hW6.cell r4' nV
  have y5 := hW6.cell r5' nV
  have y6 := hW6.cell r6' nV
  have x0 := hW6.cell s0' nQ
  have x1 := hW6.cell s1' nQ
  have x2 := hW6.cell s2' nQ
  have x3 := hW6.cell s3' nQ
  have yf := fun o => (hW6.frozen (by omega) nV o).trans (rf' o)
  have xf := fun o => (hW6.frozen l5 nQ o).trans (sf' o)
  have v0 := hG6.v0
  have v1 := hG6.v1
  have v2 := hG6.v2
  have v3 := hG6.v3
  have v4 := hG6.v4
  have v5 := hG6.v5
  have v6 := hG6.v6
  have v7 := hG6.v7
  have v8 := hG6.v8
  have v9 := hG6.v9
  have v10 := hG6.v10
  have l6 : w.heap.size + 1 + 1 < w6.heap.size := by have := hW6.size; omega
  have l7 : w.heap.size + 1 < w6.heap.size := by omega
  have l8 : V < w6.heap.size := hG6.sl V hG6.sV
  have HNE := Lib.hid (And.intro nV nQ)
  have nV1 : ¬ w.heap.size + 1 = V := by omega
  have nV2 : ¬ w.heap.size + 1 + 1 = V := by omega
  have nV3 : ¬ V = w.heap.size + 1 := by omega
  have nV4 : ¬ V = w.heap.size + 1 + 1 := by omega
  have hV2 : w.heap.size ≤ V := by omega
  clear hG6 hW6 nV nQ r0' r1' r2' r3' r4' r5' r6' rf' s0' s1' s2' s3' sf' hV l1 l2 l5
  go_upto_region 3 with fail
  go_cut [8] (fun z wx => z = .int .i64 0 ∧ Boxed wx (w.heap.size + 1) (w.heap.size + 1 + 1) A6 B6 e0 a6 b6 m g m r.1 r.2 ∧ Grew (fun x => x = w.heap.size + 1 ∨ x = w.heap.size + 1 + 1) w6 wx)
  case first =>
    go_region
    all_goals go_wp2_with fail
    all_goals go_meet
    all_goals first
      | (with_reducible exact ⟨rfl, Boxed.one' (by omega) (by omega) y0 y1 y2 y3 y4 y5 y6 x0 x1 x2 x3⟩)
      | (with_reducible exact ⟨rfl, Boxed.two' (by omega) (by omega) y0 y1 y2 y3 y4 y5 y6 x0 x1 x2 x3⟩)
  case rest =>
  obtain ⟨rfl, hB, hG7⟩ := hcut
  obtain ⟨k0, k1, k2, k3, k4, k5, k6, j0, j1, j2, j3⟩ := hB
  have HG7 := Lib.hid hG7
  clear hG7 y0 y1 y2 y3 y4 y5 y6 x0 x1 x2 x3 yf xf v0 v1 v2 v3 v4 v5 v6 v7 v8 v9 v10 l6 l7 l8
  go_wp2_with fail
  refine bodyPost_ret (v := .tuple #[crewV A6 B6 e0 0 a6 b6 m g m r.1, evV r.2, .int .i64 0]) (by simp [results, Try.results55, go_sem, k0, k1, k2, k3, k4, k5, k6, j0, j1, j2, j3]) rfl ⟨A6, B6, e0, a6, b6, rfl, ?_, ?_⟩
  · refine (HG6.out.crew (T := fun x => x < w.heap.size + 3) (fun x hx => .inl (by omega)) (by omega)).later m1 (hG := HG7.out.mono (fun x _ hx => by rcases hx with rfl | rfl <;> omega)) (fun x _ hx => by omega)
  · exact HG7.out.toExt (HW6.out.toExt HX5.out (fun b hb => by rcases hb with rfl | rfl <;> omega)) (fun b hb => by rcases hb with rfl | rfl <;> omega)
end Go.Proofs.Ytjabahfkgaamdaa

/- The program's Run of a crew. -/
namespace Go.Proofs.Ytjabahfkgaamdaa
open Go.BigFrame
open Go.RowKit Go.Proofs.Ytjabahfkgaamdaa.Plain

/-- events -/
def kEv : Kd Ev where
  t := 58
  e := 77
  n := 4
  cells := fun x => [.int .i64 x.wk, .int .i64 x.fr, .int .i64 x.tk, .bool x.pt]
  ok := fun x => in64 x.wk ∧ in64 x.fr ∧ in64 x.tk
  d := ev0
  z := .agg #[.int .i64 0, .int .i64 0, .int .i64 0, .bool false]
  bytes := 32
  ht := Try.underlying58
  info := by kernel_rfl
  hzs := rfl
  pos := by decide
  small := by decide
  len := fun _ => rfl
  one := fun a u hu => by simp at hu; rcases hu with rfl | rfl | rfl | rfl <;> rfl
theorem Plain.CwI.evOk {g n m : Nat} {c : Cw} {done : Nat} {G : List Nat} (h : CwI g n m c done G) (hg : 1 ≤ g) (hn : 1 ≤ n) (n2 : n ≤ 900) (hm : 1 ≤ m) (m2 : m ≤ 8) (p q : Int) : kEv.ok (stepP g m c p q).2 := by
  have hc := cutN_lt m p hm
  have hf := h.few hg hn
  show in64 (stepP g m c p q).2.wk ∧ in64 (stepP g m c p q).2.fr ∧ in64 (stepP g m c p q).2.tk
  rcases h.step hg hm p q with ⟨he, _⟩ | ⟨k, F, hF, _, _, he, _, _, _, hk, _⟩ | ⟨k, F, hF, _, _, he, _, _, _, hk, _⟩
  · rw [he]; exact ⟨by unfold in64; simp only; omega, by unfold in64; simp only; omega, by unfold in64; simp only; omega⟩
  · rw [he]; exact ⟨by unfold in64; simp only; omega, by unfold in64; simp only; omega, by unfold in64; simp only; omega⟩
  · rw [he]; exact ⟨by unfold in64; simp only; omega, by unfold in64; simp only; omega, by unfold in64; simp only; omega⟩
/-- .. behind a run -/
theorem Plain.CwI.run {g n m : Nat} (hg : 1 ≤ g) (hm : 1 ≤ m) : ∀ (l : List (Int × Int)) (c : Cw), (∃ done G, CwI g n m c done G) → ∃ done G, CwI g n m (runP g m c l).1 done G
  | [], _, h => h
  | x :: l, _, ⟨_, _, h⟩ => Plain.CwI.run hg hm l _ (h.stepD hg hm x.1 x.2)
theorem runP_st (g m : Nat) : ∀ (l : List (Int × Int)) (c : Cw), (runP g m c l).1.st = c.st + l.length ∧ (runP g m c l).1.id ≤ c.id + l.length
  | [], _ => ⟨rfl, Nat.le_refl _⟩
  | x :: l, c => by
    obtain ⟨h1, h2⟩ := runP_st g m l (stepP g m c x.1 x.2).1
    obtain ⟨h3, _, h4⟩ := stepP_st g m c x.1 x.2
    simp only [runP, List.length_cons]
    omega
theorem runP_take (g m : Nat) (c : Cw) (l : List (Int × Int)) (k : Nat) (hk : k < l.length) : runP g m c (l.take (k + 1)) = ((stepP g m (runP g m c (l.take k)).1 (l.getD k (0, 0)).1 (l.getD k (0, 0)).2).1, (runP g m c (l.take k)).2 ++ [(stepP g m (runP g m c (l.take k)).1 (l.getD k (0, 0)).1 (l.getD k (0, 0)).2).2]) := by
  rw [List.take_succ_eq_append_getElem hk, runP_snoc, List.getD_eq_getElem?_getD, List.getElem?_eq_getElem hk]; rfl

theorem GoAt.later {S T : Nat → Prop} {w W : World} {V e0 g m : Nat} {c : Cw} {ev : Ev} {A B : Option Addr} {a b e : Nat} {hs : Nat → Hd} (h : GoAt S w V e0 g m c ev A B a b e hs) (hG : Grew S w W) (hV : W.heap[V]? = w.heap[V]?) (hE : W.heap[e0]? = w.heap[e0]?) (tV : T V) (tE : T e0) (tl : ∀ x, T x → x < W.heap.size) (hT : ∀ x, x < w.heap.size → T x → S x) : GoAt T W V e0 g m c ev A B a b e hs := by
  have cV : ∀ o, W.cell? ⟨V, o, none⟩ = w.cell? ⟨V, o, none⟩ := fun o => by simp only [World.cell?, hV]
  have cE : ∀ o, W.cell? ⟨e0, o, none⟩ = w.cell? ⟨e0, o, none⟩ := fun o => by simp only [World.cell?, hE]
  have fV : ∀ o, W.frozen? ⟨V, o, none⟩ = w.frozen? ⟨V, o, none⟩ := fun o => by simp only [World.frozen?, hV]
  have fE : ∀ o, W.frozen? ⟨e0, o, none⟩ = w.frozen? ⟨e0, o, none⟩ := fun o => by simp only [World.frozen?, hE]
  exact ⟨tV, tE, tl, h.ne, (cV 0).trans h.v0, (cV 1).trans h.v1, (cV 2).trans h.v2, (cV 3).trans h.v3, (cV 4).trans h.v4, (cV 5).trans h.v5, (cV 6).trans h.v6, (cV 7).trans h.v7, (cV 8).trans h.v8, (cV 9).trans h.v9, (cV 10).trans h.v10,
    fun o => (fV o).trans (h.fV o), fun o => (fE o).trans (h.fE o), h.me, h.tsk.later hG hT, h.dns.later hG hT, h.dl, fun j hj => (cE j).trans (h.hd j hj), h.hn, fun j hj => (h.hr j hj).later hG hT, h.hc⟩

theorem Ow.grew {α : Type} {K : Kd α} {S : Nat → Prop} {B : Nat} {w W : World} {v : Value} {xs : List α} (h : Ow K B w v xs) (hG : Grew S w W) (hS : ∀ k, v.ownBlock = some k → ¬ S k) : Ow K B W v xs := by
  obtain ⟨⟨h1, h2⟩, hb⟩ := h
  refine ⟨⟨h1, ?_⟩, hb⟩
  rcases h2 with h2 | ⟨g, cap, cur, hv, hg, hh, hr⟩
  · exact .inl h2
  · have hlt : g < w.heap.size := by
      rcases Nat.lt_or_ge g w.heap.size with hlt | hge
      · exact hlt
      · rw [Array.getElem?_eq_none hge] at hh; cases hh
    exact .inr ⟨g, cap, cur, hv, hg, (hG.block g hlt (hS g (by rw [hv]; rfl))).trans hh, hr⟩
/-- what Run leaves -/
def RunSaid (g m : Nat) (r : Cw × List Ev) (w : World) (ed : Ending) (w' : World) : Prop :=
  ∃ (A B L : Option Addr) (e0 a b l : Nat), ed = .returned (.tuple #[crewV A B e0 0 a b m g m r.1, .slice L r.2.length l, .int .i64 0]) ∧ CrewAt w' m r.1 A B e0 0 a b ∧ Rd kEv w' (.slice L r.2.length l) r.2 ∧ Ext w w'
/-- what stands, pick by pick -/
structure RunAt (w0 : World) (V e0 g n m : Nat) (c0 : Cw) (picks : List (Int × Int)) (k : Nat) (v : Value) (wr : World) : Prop where
  go : ∃ (ev : Ev) (A B : Option Addr) (a b : Nat) (hs : Nat → Hd), GoAt (fun x => x < w0.heap.size + 2 ∨ x = e0 ∨ x = V ∨ v.ownBlock = some x) wr V e0 g m (runP g m c0 (picks.take k)).1 ev A B a b m hs
  own : Ow kEv (V + 1) wr v (runP g m c0 (picks.take k)).2
  ext : Ext w0 wr
  res : wr.cell? ⟨w0.heap.size + 1, 0, none⟩ = some (.slice none 0 0) ∧ wr.cell? ⟨w0.heap.size + 1, 1, none⟩ = some (.int .i64 0) ∧ wr.cell? ⟨w0.heap.size + 1, 2, none⟩ = some (.slice none 0 0) ∧ wr.cell? ⟨w0.heap.size + 1, 3, none⟩ = some (.slice none 0 0) ∧ wr.cell? ⟨w0.heap.size + 1, 4, none⟩ = some (.bool false) ∧ wr.cell? ⟨w0.heap.size + 1, 5, none⟩ = some (.int .i64 0) ∧ wr.cell? ⟨w0.heap.size + 1, 6, none⟩ = some (.int .i64 0) ∧ ∀ o, wr.frozen? ⟨w0.heap.size + 1, o, none⟩ = false
  lt : w0.heap.size + 2 ≤ e0 ∧ e0 < V

end Go.Proofs.Ytjabahfkgaamdaa

/- Plain words of a run of steps: which tasks are gone at, each once. No program in it. -/
namespace Go.Proofs.Ytjabahfkgaamdaa.Plain

/-- the tasks that are gone at, as they came -/
def takenL (l : List Ev) : List Nat := l.filterMap fun e => if e.tk < 0 then none else some e.tk.toNat
theorem takenL_app (a b : List Ev) : takenL (a ++ b) = takenL a ++ takenL b := by unfold takenL; rw [List.filterMap_append]
theorem takenL_no (e : Ev) (h : e.tk < 0) : takenL [e] = [] := by unfold takenL; simp [h]
theorem takenL_yes (e : Ev) (k : Nat) (h : e.tk = k) : takenL [e] = [k] := by unfold takenL; simp [h]
theorem takenL_snoc (l : List Ev) (j : Nat) (hj : j < l.length) : takenL (l.take (j + 1)) = takenL (l.take j) ++ takenL [l.getD j ev0] := by
  rw [List.take_succ_eq_append_getElem hj, takenL_app, List.getD_eq_getElem?_getD, List.getElem?_eq_getElem hj]; rfl
theorem takenL_new (l : List Ev) (hn : (takenL l).Nodup) (j : Nat) (hj : j < l.length) (x : Nat) (hx : (l.getD j ev0).tk = x) : x ∈ takenL l ∧ x ∉ takenL (l.take j) := by
  have e : takenL l = takenL (l.take j) ++ (takenL [l.getD j ev0] ++ takenL (l.drop (j + 1))) := by
    have e0 : l = l.take j ++ ([l.getD j ev0] ++ l.drop (j + 1)) := by
      rw [List.getD_eq_getElem?_getD, List.getElem?_eq_getElem hj]
      conv => lhs; rw [← List.take_append_drop j l, List.drop_eq_getElem_cons hj]
      rfl
    rw [← takenL_app, ← takenL_app, ← e0]
  rw [takenL_yes _ x hx] at e
  rw [e] at hn ⊢
  rw [List.nodup_append] at hn
  exact ⟨by simp, fun h => hn.2.2 x h x (by simp) rfl⟩
theorem CwI.stepG {g n m : Nat} {c : Cw} {done : Nat} {G : List Nat} (h : CwI g n m c done G) (hg : 1 ≤ g) (hm : 1 ≤ m) (p q : Int) : ∃ done', CwI g n m (stepP g m c p q).1 done' (G ++ takenL [(stepP g m c p q).2]) := by
  rcases h.step hg hm p q with ⟨he, _, h'⟩ | ⟨k, F, _, _, _, he, _, _, _, _, h'⟩ | ⟨k, F, _, _, _, he, _, _, _, _, _, h'⟩
  · refine ⟨done, ?_⟩
    rw [takenL_no _ (by rw [he]; simp only; omega), List.append_nil]
    exact h'
  · exact ⟨done, by rw [takenL_yes _ k (by rw [he])]; exact h'⟩
  · exact ⟨_, by rw [takenL_yes _ k (by rw [he])]; exact h'⟩
theorem CwI.runG {g n m : Nat} (hg : 1 ≤ g) (hm : 1 ≤ m) : ∀ (l : List (Int × Int)) (c : Cw) (done : Nat) (G : List Nat), CwI g n m c done G → ∃ done', CwI g n m (runP g m c l).1 done' (G ++ takenL (runP g m c l).2)
  | [], c, done, G, h => ⟨done, by simpa [runP, takenL] using h⟩
  | x :: l, c, done, G, h => by
    obtain ⟨d1, h1⟩ := h.stepG hg hm x.1 x.2
    obtain ⟨d2, h2⟩ := CwI.runG hg hm l _ _ _ h1
    refine ⟨d2, ?_⟩
    have e : takenL (runP g m c (x :: l)).2 = takenL [(stepP g m c x.1 x.2).2] ++ takenL (runP g m (stepP g m c x.1 x.2).1 l).2 := by
      rw [← takenL_app]; rfl
    rw [e, ← List.append_assoc]
    exact h2
/-- the end: how many are gone at, held, and over -/
theorem CwI.counts {g n m : Nat} {c : Cw} {done : Nat} {G : List Nat} (h : CwI g n m c done G) (hg : 1 ≤ g) (hn : 1 ≤ n) : G.length + (held c.D).length = c.ts.length ∧ c.ts.length ≤ cntT n g ∧ cntT n g ≤ 2 * n ∧ (c.over = true ↔ G.length = cntT n g) := by
  have h1 := (CrI.fresh h).2.2.2
  have h2 := (CrI.inv h).few hg hn
  refine ⟨h1, h2.1, by omega, ?_⟩
  have hov := CrI.ov h
  constructor
  · intro ho
    rw [ho] at hov
    have he : held c.D = [] := of_decide_eq_true hov.symm
    have hI := CrI.inv h
    rw [he] at hI h1
    have := hI.over.2.1
    simp only [List.length_nil] at h1
    omega
  · intro hl
    rw [hov, decide_eq_true_eq]
    exact List.eq_nil_of_length_eq_zero (by omega)
end Go.Proofs.Ytjabahfkgaamdaa.Plain

/- Plain words of a drain: round by round, until it is over; it ends. No program in it. -/
namespace Go.Proofs.Ytjabahfkgaamdaa.Plain

/-- the t-th pick of a drain: worker by worker, round by round -/
def dpick (m t : Nat) : Int × Int := (((t % m : Nat) : Int), ((t % m + 1 + t / m : Nat) : Int))
/-- .. until it is over; 'f' bounds the steps -/
def drainP (g m : Nat) : Nat → Nat → Cw → Cw × List Ev
  | 0, _, c => (c, [])
  | f + 1, t, c => if c.over = true then (c, []) else
    ((drainP g m f (t + 1) (stepP g m c (dpick m t).1 (dpick m t).2).1).1, (stepP g m c (dpick m t).1 (dpick m t).2).2 :: (drainP g m f (t + 1) (stepP g m c (dpick m t).1 (dpick m t).2).1).2)
theorem cutN_mod (m t : Nat) (hm : 1 ≤ m) : cutN m ((t % m : Nat) : Int) = t % m := by
  have h := Nat.mod_lt t (by omega : m > 0)
  unfold cutN
  rw [Int.emod_eq_of_lt (by omega) (by omega)]; omega
/-- a task waits at most k workers on from p -/
def near (m : Nat) (D : List (List Nat)) (p k : Nat) : Prop := ∃ j, j ≤ k ∧ D.getD ((p + j) % m) [] ≠ []
theorem near_of {m : Nat} {D : List (List Nat)} (hm : D.length = m) (h1 : 1 ≤ m) (h : held D ≠ []) (p : Nat) (hp : p < m) : near m D p (m - 1) := by
  have : ∃ q, q < m ∧ D.getD q [] ≠ [] := by
    apply Classical.byContradiction
    intro hn
    apply h
    unfold held
    rw [List.flatten_eq_nil_iff]
    intro l hl
    obtain ⟨i, hi, rfl⟩ := List.getElem_of_mem hl
    apply Classical.byContradiction
    intro hne
    exact hn ⟨i, by omega, by rw [getDp hi]; exact hne⟩
  obtain ⟨q, hq, hne⟩ := this
  by_cases hle : p ≤ q
  · exact ⟨q - p, by omega, by rw [show p + (q - p) = q by omega, Nat.mod_eq_of_lt hq]; exact hne⟩
  · refine ⟨q + m - p, by omega, ?_⟩
    rw [show p + (q + m - p) = q + m by omega, Nat.add_mod_right, Nat.mod_eq_of_lt hq]; exact hne
theorem mod_succ (m t : Nat) (_hm : 1 ≤ m) (j : Nat) : ((t + 1) % m + j) % m = (t % m + (j + 1)) % m := by
  rw [Nat.add_mod ((t + 1) % m) j, Nat.mod_mod, ← Nat.add_mod, Nat.add_mod (t % m) (j + 1), Nat.mod_mod, ← Nat.add_mod]
  congr 1; omega
/-- it ends -/
theorem drain_ends {g n m : Nat} (hg : 1 ≤ g) (hn : 1 ≤ n) (hm : 1 ≤ m) : ∀ (N t k : Nat) (c : Cw) (done : Nat) (G : List Nat), CwI g n m c done G → (c.over = false → near m c.D (t % m) k) → k < m → (cntT n g - G.length) * m + k + 1 ≤ N + m →
    (drainP g m N t c).1.over = true ∧ (drainP g m N t c).2.length + m ≤ (cntT n g - G.length) * m + k + 1 + m ∧ ∃ done', CwI g n m (drainP g m N t c).1 done' (G ++ takenL (drainP g m N t c).2)
  | 0, t, k, c, done, G, h, hk, hkm, hN => by
    obtain ⟨c1, c2, c3, c4⟩ := h.counts hg hn
    have hU : cntT n g - G.length = 0 := by
      rcases Nat.eq_zero_or_pos (cntT n g - G.length) with h0 | h0
      · exact h0
      · have : 1 * m ≤ (cntT n g - G.length) * m := Nat.mul_le_mul_right _ h0
        omega
    have hGl : G.length = cntT n g := by omega
    refine ⟨c4.2 hGl, by simp [drainP], ⟨done, by simpa [drainP, takenL] using h⟩⟩
  | N + 1, t, k, c, done, G, h, hk, hkm, hN => by
    obtain ⟨c1, c2, c3, c4⟩ := h.counts hg hn
    unfold drainP
    by_cases ho : c.over = true
    · rw [if_pos ho]
      exact ⟨ho, by simp, ⟨done, by simpa [takenL] using h⟩⟩
    · rw [if_neg ho]
      have hof : c.over = false := by simpa using ho
      have hGl : G.length < cntT n g := by
        rcases Nat.lt_or_ge G.length (cntT n g) with h1 | h1
        · exact h1
        · exact absurd (c4.2 (by omega)) ho
      obtain ⟨p, q, hpq⟩ : ∃ p q, dpick m t = (p, q) := ⟨_, _, rfl⟩
      have hp : p = ((t % m : Nat) : Int) := by unfold dpick at hpq; cases hpq; rfl
      rw [hpq]
      simp only
      have hwk : c.D.length = m := CrI.wk h
      have hcut : cutN m p = t % m := by rw [hp]; exact cutN_mod m t hm
      have hpr : ∀ x : Nat, (stepP g m c p q).2.tk = x → takenL [(stepP g m c p q).2] = [x] := fun x hx => takenL_yes _ x hx
      obtain ⟨d1, h1⟩ := h.stepG hg hm p q
      have nextNear : ∀ c' : Cw, ∀ dd GG, CwI g n m c' dd GG → c'.over = false → near m c'.D ((t + 1) % m) (m - 1) := fun c' dd GG hc' hov =>
        near_of (CrI.wk hc') hm (by have := (CrI.over_iff hc').2 hov; exact List.length_pos_iff.1 this) _ (Nat.mod_lt _ (by omega))
      have hmul : (cntT n g - G.length) * m = (cntT n g - (G.length + 1)) * m + m := by
        rw [show cntT n g - G.length = (cntT n g - (G.length + 1)) + 1 by omega, Nat.add_mul, Nat.one_mul]
      rcases h.step hg hm p q with ⟨he, h0, h'⟩ | ⟨x, F, _, _, _, he, _, _, _, _, h'⟩ | ⟨x, F, _, _, _, he, _, _, _, _, _, h'⟩
      · -- idle
        have hD : (stepP g m c p q).1.D = c.D := by rw [he]
        obtain ⟨j, hj, hne⟩ := hk hof
        have hj0 : j ≠ 0 := by
          intro e; subst e
          rw [Nat.add_zero, Nat.mod_mod] at hne
          rw [hcut] at h0
          exact hne h0
        have hne' : near m (stepP g m c p q).1.D ((t + 1) % m) (k - 1) := by
          refine ⟨j - 1, by omega, ?_⟩
          rw [hD, mod_succ m t hm, show j - 1 + 1 = j by omega]; exact hne
        have hl : (G ++ takenL [(stepP g m c p q).2]).length = G.length := by rw [takenL_no _ (by rw [he]; simp only; omega), List.append_nil]
        have ih := drain_ends hg hn hm N (t + 1) (k - 1) _ _ _ h1 (fun _ => hne') (by omega) (by rw [hl]; omega)
        rw [hl] at ih
        refine ⟨ih.1, by simp only [List.length_cons]; omega, ?_⟩
        obtain ⟨d2, h2⟩ := ih.2.2
        refine ⟨d2, ?_⟩
        have e : takenL ((stepP g m c p q).2 :: (drainP g m N (t + 1) (stepP g m c p q).1).2) = takenL [(stepP g m c p q).2] ++ takenL (drainP g m N (t + 1) (stepP g m c p q).1).2 := by rw [← takenL_app]; rfl
        rw [e, ← List.append_assoc]; exact h2
      all_goals
        have hl : (G ++ takenL [(stepP g m c p q).2]).length = G.length + 1 := by rw [hpr x (by rw [he]), List.length_append]; rfl
        have ih := drain_ends hg hn hm N (t + 1) (m - 1) _ _ _ h1 (fun hov => nextNear _ _ _ h1 hov) (by omega) (by rw [hl]; omega)
        rw [hl] at ih
        refine ⟨ih.1, by simp only [List.length_cons]; omega, ?_⟩
        obtain ⟨d2, h2⟩ := ih.2.2
        refine ⟨d2, ?_⟩
        have e : takenL ((stepP g m c p q).2 :: (drainP g m N (t + 1) (stepP g m c p q).1).2) = takenL [(stepP g m c p q).2] ++ takenL (drainP g m N (t + 1) (stepP g m c p q).1).2 := by rw [← takenL_app]; rfl
        rw [e, ← List.append_assoc]; exact h2
end Go.Proofs.Ytjabahfkgaamdaa.Plain

/- Plain words of leaves: the units, as they are done, each once. No program in it. -/
namespace Go.Proofs.Ytjabahfkgaamdaa.Plain

/-- a task's units -/
def unitsOf (t : Tk) : List Nat := List.range' t.lo.toNat (t.hi.toNat - t.lo.toNat)
theorem mem_unitsOf (t : Tk) (u : Nat) : u ∈ unitsOf t ↔ t.lo.toNat ≤ u ∧ u < t.hi.toNat := by unfold unitsOf; rw [List.mem_range'_1]; omega
theorem unitsOf_nodup (t : Tk) : (unitsOf t).Nodup := by unfold unitsOf; exact List.nodup_range'
/-- the units of those that weren't parted, nor idle, as they came -/
def orderL (ts : List Tk) (evs : List Ev) : List Nat := evs.flatMap fun e => if e.tk < 0 ∨ e.pt = true then [] else unitsOf (T ts e.tk.toNat)
theorem orderL_app (ts : List Tk) (a b : List Ev) : orderL ts (a ++ b) = orderL ts a ++ orderL ts b := by unfold orderL; rw [List.flatMap_append]
theorem orderL_nil (ts : List Tk) : orderL ts [] = [] := rfl
/-- tasks that were there are where they were -/
def Keeps (ts us : List Tk) : Prop := ts.length ≤ us.length ∧ ∀ k, k < ts.length → (T us k).lo = (T ts k).lo ∧ (T us k).hi = (T ts k).hi
theorem Keeps.refl (ts : List Tk) : Keeps ts ts := ⟨Nat.le_refl _, fun _ _ => ⟨rfl, rfl⟩⟩
theorem Keeps.trans {a b c : List Tk} (h : Keeps a b) (k : Keeps b c) : Keeps a c := ⟨Nat.le_trans h.1 k.1, fun i hi => ⟨(k.2 i (by have := h.1; omega)).1.trans (h.2 i hi).1, (k.2 i (by have := h.1; omega)).2.trans (h.2 i hi).2⟩⟩
theorem Keeps.same {ts us : List Tk} (h : SameBut ts us) : Keeps ts us := ⟨by rw [h.1]; exact Nat.le_refl _, fun k _ => ⟨(h.2 k).1, (h.2 k).2.1⟩⟩
theorem Keeps.parted (ts : List Tk) (k : Nat) (hk : k < ts.length) : Keeps ts (partedL ts k) := ⟨by rw [partedL_len]; omega, fun j hj => by
  rw [parted_at ts k hk]
  by_cases e : j = k
  · subst e; rw [if_pos rfl]; exact ⟨rfl, rfl⟩
  · rw [if_neg e, if_pos hj]; exact ⟨rfl, rfl⟩⟩
/-- events of tasks that there are -/
def evsIn (n : Nat) (evs : List Ev) : Prop := ∀ e ∈ evs, e.tk < n
theorem orderL_keeps {ts us : List Tk} (h : Keeps ts us) : ∀ (evs : List Ev), evsIn ts.length evs → orderL us evs = orderL ts evs
  | [], _ => rfl
  | e :: l, hi => by
    have ih := orderL_keeps h l (fun x hx => hi x (by simp [hx]))
    have e1 : ∀ vs, orderL vs (e :: l) = orderL vs [e] ++ orderL vs l := fun vs => by rw [← orderL_app]; rfl
    rw [e1, e1, ih]
    congr 1
    unfold orderL
    simp only [List.flatMap_cons, List.flatMap_nil, List.append_nil]
    by_cases hc : e.tk < 0 ∨ e.pt = true
    · rw [if_pos hc, if_pos hc]
    · rw [if_neg hc, if_neg hc]
      have hlt : e.tk < ts.length := hi e (by simp)
      obtain ⟨h1, h2⟩ := h.2 e.tk.toNat (by omega)
      unfold unitsOf; rw [h1, h2]
/-- what is done, as it came -/
def LI (n : Nat) (c : Cw) (L : List Nat) : Prop := L.Nodup ∧ ∀ u, u ∈ L ↔ u < n ∧ c.dn.getD u false = true
theorem LI.begin (n m : Nat) : LI n (beginC n m) [] := ⟨List.nodup_nil, fun u => by
  unfold beginC
  simp only [List.not_mem_nil, false_iff]
  rintro ⟨_, h⟩
  rw [List.getD_eq_getElem?_getD, List.getElem?_replicate] at h
  split at h <;> simp at h⟩
theorem stepP_keeps {g n m : Nat} {c : Cw} {done : Nat} {G : List Nat} (h : CwI g n m c done G) (hg : 1 ≤ g) (hm : 1 ≤ m) (p q : Int) : Keeps c.ts (stepP g m c p q).1.ts ∧ (stepP g m c p q).2.tk < c.ts.length := by
  rcases h.step hg hm p q with ⟨he, _⟩ | ⟨k, F, _, _, _, he, ht, _, _, hk, _⟩ | ⟨k, F, _, _, _, he, hs, _, _, hk, _⟩
  · rw [he]; exact ⟨Keeps.refl _, by simp only; omega⟩
  · rw [ht, he]; exact ⟨Keeps.parted _ _ hk, by simp only; omega⟩
  · rw [he]; exact ⟨Keeps.same hs, by simp only; omega⟩
theorem LI.step {g n m : Nat} {c : Cw} {done : Nat} {G L : List Nat} (hL : LI n c L) (h : CwI g n m c done G) (_hg : 1 ≤ g) (hm : 1 ≤ m) (p q : Int) : LI n (stepP g m c p q).1 (L ++ orderL c.ts [(stepP g m c p q).2]) := by
  have hwk : c.D.length = m := CrI.wk h
  unfold stepP
  cases hs : srcN c.D (cutN m p) (cutN m q) with
  | none =>
    simp only
    have e : orderL c.ts [(⟨cutN m p, -1, -1, false⟩ : Ev)] = [] := by unfold orderL; simp
    rw [e, List.append_nil]
    exact hL
  | some F =>
    obtain ⟨hne, hor⟩ := srcN_some hs
    have hF : F < m := by rcases hor with rfl | ⟨rfl, _⟩ <;> exact cutN_lt m _ hm
    have hE := take_held (P := cutN m p) (by omega : F < c.D.length) hne
    have hmem : (takeN c.D (cutN m p) F).1 ∈ held c.D := hE.mem_iff.2 (by simp)
    have hI := CrI.inv h
    have hlt := hI.lt _ hmem
    simp only
    unfold goP
    obtain ⟨k, hk⟩ : ∃ k, (takeN c.D (cutN m p) F).1 = k := ⟨_, rfl⟩
    rw [hk] at hmem hlt ⊢
    simp only
    by_cases hz : g < sz c.ts k
    · rw [if_pos hz]
      have e : orderL c.ts [(⟨cutN m p, F, k, true⟩ : Ev)] = [] := by unfold orderL; simp
      simp only
      rw [e, List.append_nil]
      exact hL
    · rw [if_neg hz]
      have htk := hI.task k hlt
      have e : orderL c.ts [(⟨cutN m p, F, k, false⟩ : Ev)] = unitsOf (T c.ts k) := by
        unfold orderL
        simp only [List.flatMap_cons, List.flatMap_nil, List.append_nil]
        rw [if_neg (by simp), Int.toNat_natCast]
      simp only
      rw [e]
      have hlo : (T c.ts k).lo.toNat ≤ (T c.ts k).hi.toNat := by omega
      have hhi : (T c.ts k).hi.toNat ≤ c.dn.length := by rw [hI.dl]; omega
      have hcov : ∀ u, (T c.ts k).lo.toNat ≤ u → u < (T c.ts k).hi.toNat → c.dn.getD u false = false := fun u h1 h2 => (hI.cov u (by omega)).2 ⟨k, hmem, by omega, by omega⟩
      refine ⟨?_, fun u => ?_⟩
      · rw [List.nodup_append]
        refine ⟨hL.1, unitsOf_nodup _, fun a ha b hb hab => ?_⟩
        subst hab
        rw [mem_unitsOf] at hb
        have h1 := ((hL.2 a).1 ha).2
        rw [hcov a hb.1 hb.2] at h1
        cases h1
      · rw [List.mem_append, mem_unitsOf, hL.2 u]
        show _ ↔ u < n ∧ (marked c.dn (T c.ts k).lo.toNat (T c.ts k).hi.toNat).getD u false = true
        rw [marked_getD _ _ _ hlo hhi]
        have hdl := hI.dl
        by_cases hu : (T c.ts k).lo.toNat ≤ u ∧ u < (T c.ts k).hi.toNat
        · rw [if_pos hu]
          exact ⟨fun _ => ⟨by omega, rfl⟩, fun _ => .inr hu⟩
        · rw [if_neg hu]
          exact ⟨fun hh => by rcases hh with hh | hh; exact hh; exact absurd hh hu, fun hh => .inl hh⟩
/-- over: each unit once -/
theorem LI.over {g n m : Nat} {c : Cw} {done : Nat} {G L : List Nat} (hL : LI n c L) (h : CwI g n m c done G) (ho : c.over = true) : L.Perm (List.range n) := by
  have hov := CrI.ov h
  rw [ho] at hov
  have he : held c.D = [] := of_decide_eq_true hov.symm
  have hI := CrI.inv h
  rw [he] at hI
  have hall := hI.over.2.2.1
  refine (List.perm_ext_iff_of_nodup hL.1 List.nodup_range).2 fun u => ?_
  rw [hL.2 u, List.mem_range]
  exact ⟨fun hh => hh.1, fun hu => ⟨hu, hall u hu⟩⟩
end Go.Proofs.Ytjabahfkgaamdaa.Plain

/- Plain words of work from its beginning to its end. No program in it. -/
namespace Go.Proofs.Ytjabahfkgaamdaa.Plain

/-- step by step, until it is over -/
def untilP (g m : Nat) : Cw → List (Int × Int) → Cw × List Ev
  | c, [] => (c, [])
  | c, x :: l => if c.over = true then (c, []) else ((untilP g m (stepP g m c x.1 x.2).1 l).1, (stepP g m c x.1 x.2).2 :: (untilP g m (stepP g m c x.1 x.2).1 l).2)
/-- the whole: picks, then round by round -/
def wholeP (g n m : Nat) (picks : List (Int × Int)) : Cw × List Ev :=
  ((drainP g m (m * cntT n g) 0 (untilP g m (beginC n m) picks).1).1, (untilP g m (beginC n m) picks).2 ++ (drainP g m (m * cntT n g) 0 (untilP g m (beginC n m) picks).1).2)

/-- what stands, of a crew behind some events -/
structure Been (g n m : Nat) (c : Cw) (evs : List Ev) : Prop where
  inv : ∃ done, CwI g n m c done (takenL evs)
  li : LI n c (orderL c.ts evs)
  ins : evsIn c.ts.length evs
  st : c.st = evs.length
  id : c.id ≤ evs.length
theorem Been.begin (g n m : Nat) (hn : 1 ≤ n) (hm : 1 ≤ m) : Been g n m (beginC n m) [] :=
  ⟨⟨0, CwI.begin g n m hn hm⟩, LI.begin n m, (fun e he => by cases he), rfl, Nat.le_refl _⟩
theorem Been.step {g n m : Nat} {c : Cw} {evs : List Ev} (h : Been g n m c evs) (hg : 1 ≤ g) (hm : 1 ≤ m) (p q : Int) : Been g n m (stepP g m c p q).1 (evs ++ [(stepP g m c p q).2]) := by
  obtain ⟨⟨done, hI⟩, hL, hi, hs, hd⟩ := h
  obtain ⟨hk, ht⟩ := stepP_keeps hI hg hm p q
  obtain ⟨d1, h1⟩ := hI.stepG hg hm p q
  obtain ⟨s1, s2, s3⟩ := stepP_st g m c p q
  refine ⟨⟨d1, by rw [takenL_app]; exact h1⟩, ?_, fun e he => ?_, by rw [s1, hs, List.length_append]; rfl, by rw [List.length_append]; simp only [List.length_singleton]; omega⟩
  · rw [orderL_app, orderL_keeps hk evs hi, orderL_keeps hk [(stepP g m c p q).2] (fun e he => by rw [List.mem_singleton] at he; rw [he]; exact ht)]
    exact hL.step hI hg hm p q
  · rcases List.mem_append.1 he with h' | h'
    · have := hi e h'; have := hk.1; omega
    · rw [List.mem_singleton] at h'; rw [h']; have := hk.1; omega
theorem Been.until {g n m : Nat} (hg : 1 ≤ g) (hm : 1 ≤ m) : ∀ (l : List (Int × Int)) (c : Cw) (evs : List Ev), Been g n m c evs → Been g n m (untilP g m c l).1 (evs ++ (untilP g m c l).2) ∧ (untilP g m c l).2.length ≤ l.length
  | [], c, evs, h => ⟨by simpa [untilP] using h, Nat.le_refl _⟩
  | x :: l, c, evs, h => by
    unfold untilP
    by_cases ho : c.over = true
    · rw [if_pos ho]; exact ⟨by simpa using h, by simp⟩
    · rw [if_neg ho]
      obtain ⟨h1, h2⟩ := Been.until hg hm l _ _ (h.step hg hm x.1 x.2)
      refine ⟨?_, by simp only [List.length_cons]; omega⟩
      rw [List.append_assoc] at h1
      exact h1
theorem Been.drain {g n m : Nat} (hg : 1 ≤ g) (hm : 1 ≤ m) : ∀ (N t : Nat) (c : Cw) (evs : List Ev), Been g n m c evs → Been g n m (drainP g m N t c).1 (evs ++ (drainP g m N t c).2)
  | 0, t, c, evs, h => by simpa [drainP] using h
  | N + 1, t, c, evs, h => by
    unfold drainP
    by_cases ho : c.over = true
    · rw [if_pos ho]; simpa using h
    · rw [if_neg ho]
      have h1 := Been.drain hg hm N (t + 1) _ _ (h.step hg hm (dpick m t).1 (dpick m t).2)
      rw [List.append_assoc] at h1
      exact h1
/-- the whole ends, each unit once, in so many steps at most -/
theorem whole_ends {g n m : Nat} (hg : 1 ≤ g) (hn : 1 ≤ n) (hm : 1 ≤ m) (picks : List (Int × Int)) :
    (wholeP g n m picks).1.over = true ∧ Been g n m (wholeP g n m picks).1 (wholeP g n m picks).2 ∧ (wholeP g n m picks).2.length ≤ picks.length + m * (cntT n g + 1) ∧ (orderL (wholeP g n m picks).1.ts (wholeP g n m picks).2).Perm (List.range n) := by
  obtain ⟨h1, h2⟩ := Been.until hg hm picks (beginC n m) [] (Been.begin g n m hn hm)
  rw [List.nil_append] at h1
  obtain ⟨d1, hI⟩ := h1.inv
  have hle : (cntT n g - (takenL (untilP g m (beginC n m) picks).2).length) * m + (m - 1) + 1 ≤ m * cntT n g + m := by
    have : (cntT n g - (takenL (untilP g m (beginC n m) picks).2).length) * m ≤ cntT n g * m := Nat.mul_le_mul_right _ (Nat.sub_le _ _)
    rw [Nat.mul_comm m]; omega
  have hnear : (untilP g m (beginC n m) picks).1.over = false → near m (untilP g m (beginC n m) picks).1.D (0 % m) (m - 1) := fun ho =>
    near_of (CrI.wk hI) hm (List.length_pos_iff.1 ((CrI.over_iff hI).2 ho)) _ (Nat.mod_lt _ (by omega))
  obtain ⟨e1, e2, _⟩ := drain_ends hg hn hm (m * cntT n g) 0 (m - 1) _ _ _ hI hnear (by omega) hle
  have h3 := Been.drain hg hm (m * cntT n g) 0 _ _ h1
  refine ⟨e1, h3, ?_, ?_⟩
  · show ((untilP g m (beginC n m) picks).2 ++ (drainP g m (m * cntT n g) 0 (untilP g m (beginC n m) picks).1).2).length ≤ _
    rw [List.length_append, Nat.mul_add, Nat.mul_one]
    omega
  · obtain ⟨_, h4⟩ := h3.inv
    exact h3.li.over h4 e1
end Go.Proofs.Ytjabahfkgaamdaa.Plain

/- A region whose order is open and whose operations, but one that writes and a tail in one order, leave all that was there as it was: what each of them leaves is said once, whatever the order. -/
namespace Go.Proofs.Ytjabahfkgaamdaa.MonoW
open Go.RowKit Go.Proofs.Ytjabahfkgaamdaa Go.Proofs.Ytjabahfkgaamdaa.Mono

/-- what an operation may do to memory: only q may write -/
structure Out (q : Nat) (S : World → World → Prop) (i : Nat) (w w' : World) : Prop where
  all : S w w'
  ext : i ≠ q → Ext w w'
theorem Out.of {q i : Nat} {S : World → World → Prop} {w w' : World} (hSE : ∀ w w', Ext w w' → S w w') (h : Ext w w') : Out q S i w w' := ⟨hSE _ _ h, fun _ => h⟩
theorem Out.write {q : Nat} {S : World → World → Prop} {w w' : World} (h : S w w') : Out q S q w w' := ⟨h, fun e => absurd rfl e⟩
section
variable {P : Program} {l : List Oper} {m q : Nat} {S : World → World → Prop} {Q : Exit → Act → World → Prop} {a0 : Act} {w0 : World} {V : Nat → World → List Value → Value → Prop}

def Inv (P : Program) (l : List Oper) (m : Nat) (Q : Exit → Act → World → Prop) (a0 : Act) (w0 : World) (V : Nat → World → List Value → Value → Prop) (q : Nat) (S : World → World → Prop) (listed : Array Bool) (a : Act) (w : World) : Prop :=
  listed.size = l.length ∧
  ((∃ vals : Nat → Value, (S w0 w ∧ (listed.getD q false = false → Ext w0 w)) ∧ (∀ j, m ≤ j → listed.getD j false = false) ∧ (∀ i, listed.getD i false = true → ∀ j ∈ deps l i, listed.getD j false = true) ∧
      (∀ i, i < m → listed.getD i false = true → V i w ((deps l i).map vals) (vals i)) ∧ a = sel listed vals (l.take m) 0 a0) ∨
   (∃ k, m ≤ k ∧ k ≤ l.length ∧ (∀ j, j < l.length → (listed.getD j false = true ↔ j < k)) ∧ wpList P l.toArray Q (l.drop k) a w))

theorem step (hB : monoB l m = true) (hSE : ∀ w w', Ext w w' → S w w') (hST : ∀ a b c, S a b → S b c → S a c) (hst : ∀ i w w' d v, V i w d v → Ext w w' → V i w' d v) (hsw : ∀ i w w' d v, i ≠ q → V i w d v → S w w' → V i w' d v)
    (hop : ∀ i o, i < m → l[i]? = some o → ∀ (vals : Nat → Value) (w : World), S w0 w → (i = q → Ext w0 w) → (∀ j, (deps l i).contains j = true → V j w ((deps l j).map vals) (vals j)) →
      if Region.wanted o (yielded l.toArray (all vals (l.take m) 0 a0).tmps) = true
      then Mono.Yields P (fun v w' => Out q S i w w' ∧ V i w' ((deps l i).map vals) v) ((execOp (all vals (l.take m) 0 a0).eval o).run P w)
      else V i w ((deps l i).map vals) undef)
    (hend : ∀ (vals : Nat → Value) (w : World), S w0 w → (∀ j, j < m → V j w ((deps l j).map vals) (vals j)) → wpList P l.toArray Q (l.drop m) (all vals (l.take m) 0 a0) w)
    (listed : Array Bool) (a : Act) (w : World) (i : Nat) (hI : Inv P l m Q a0 w0 V q S listed a w) (hi : i ∈ Region.ready .any l.toArray listed) :
    wpOp P l.toArray Q i (Inv P l m Q a0 w0 V q S (listed.setIfInBounds i true)) a w := by
  obtain ⟨hsz, hI⟩ := hI
  obtain ⟨hun, o, ho', hall⟩ := mem_ready.1 hi
  have ho : l[i]? = some o := by simpa using ho'
  have hil : i < l.length := by
    rcases Nat.lt_or_ge i l.length with h | h
    · exact h
    · rw [List.getElem?_eq_none h] at ho; cases ho
  have hsi : i < listed.size := by omega
  have hunf : listed.getD i false = false := by
    rw [← hun]; simp [hsi]
  obtain ⟨k1, k2, k3, k4, k5⟩ := ok_parts hB ho
  have hdl : ∀ j ∈ deps l i, listed.getD j false = true := fun j hj => by
    obtain ⟨e, he, hb, rfl⟩ := deps_mem ho hj
    exact hall e he hb
  have hml : m ≤ l.length := by
    unfold monoB at hB
    simp only [Bool.and_eq_true, decide_eq_true_eq] at hB
    exact hB.1
  have hdrop : ∀ k, l[k]? = some o → l.drop k = o :: l.drop (k + 1) := fun k hk => by
    have hkl : k < l.length := by
      rcases Nat.lt_or_ge k l.length with h | h
      · exact h
      · rw [List.getElem?_eq_none h] at hk; cases hk
    rw [List.drop_eq_getElem_cons hkl]
    rw [List.getElem?_eq_getElem hkl] at hk
    cases hk; rfl
  rcases hI with ⟨vals, hE, htail, hdc, hV, ha⟩ | ⟨k, hmk, hkl, hiff, hw⟩
  · rcases Nat.lt_or_ge i m with him | him
    · have hcl := clo_listed hdc l.length i hdl
      have hjm : ∀ j, listed.getD j false = true → j < m := fun j hj => by
        rcases Nat.lt_or_ge j m with h | h
        · exact h
        · rw [htail j h] at hj; cases hj
      have hob := hop i o him ho vals w hE.1 (fun e => hE.2 (by rw [← e]; exact hunf)) (fun j hj => hV j (hjm j (hdl j (by simpa using hj))) (hdl j (by simpa using hj)))
      have hsame := uns_same (ops := l.toArray) (listed := listed) (vals := vals) (x := o) k2 (l.take m) 0 a (fun j oj hj hlj d hd => by
        rw [List.getElem?_take] at hj
        split at hj
        · rename_i hjm'
          exact k3 him j oj hjm' hj (fun hmem => by have := hdl j hmem; rw [Nat.zero_add] at hlj; rw [hlj] at this; cases this) d hd
        · cases hj)
      rw [ha, ← all_eq (l.take m) 0 a0 (Mono.distinct hB)] at hsame
      rw [hsame.2, hsame.1, ← ha] at hob
      have hnew : ∀ v w', Out q S i w w' → V i w' ((deps l i).map vals) v → Inv P l m Q a0 w0 V q S (listed.setIfInBounds i true) (a.put o.dst v) w' := by
        intro v w' hE' hVi
        refine ⟨by simpa using hsz, .inl ⟨upd vals i v, ⟨hST _ _ _ hE.1 hE'.1, fun hq => ?_⟩, fun j hj => ?_, fun i' hi' j hj => ?_, fun i' him' hi' => ?_, ?_⟩⟩
        · rw [set_getD hsi] at hq
          by_cases e : q = i
          · rw [if_pos e] at hq; cases hq
          · rw [if_neg e] at hq; exact (hE.2 hq).trans (hE'.2 (fun e' => e e'.symm))
        · rw [set_getD hsi, if_neg (by omega)]; exact htail j hj
        · rw [set_getD hsi] at hi' ⊢
          by_cases e : i' = i
          · subst e
            split
            · rfl
            · exact hdl j hj
          · rw [if_neg e] at hi'
            split
            · rfl
            · exact hdc i' hi' j hj
        · rw [set_getD hsi] at hi'
          by_cases e : i' = i
          · subst e
            have : (deps l i').map (upd vals i' v) = (deps l i').map vals := List.map_congr_left fun j hj => by
              have := k1 j hj
              simp [upd]; omega
            rw [this]
            simpa [upd] using hVi
          · rw [if_neg e] at hi'
            have : (deps l i').map (upd vals i v) = (deps l i').map vals := List.map_congr_left fun j hj => by
              have hjl := hdc i' hi' j hj
              have : j ≠ i := fun h => by subst h; rw [hunf] at hjl; cases hjl
              simp [upd, this]
            rw [this]
            have h2 : upd vals i v i' = vals i' := by simp [upd, e]
            rw [h2]
            by_cases e' : i = q
            · exact hsw _ _ _ _ _ (fun h => e (h.trans e'.symm)) (hV i' him' hi') hE'.1
            · exact hst _ _ _ _ _ (hV i' him' hi') (hE'.2 e')
        · rw [ha]
          exact (sel_set hsi hunf (l.take m) 0 a0 (Nat.zero_le _) (by rw [Nat.sub_zero, List.getElem?_take, if_pos him]; exact ho) (Mono.distinct hB)).symm
      unfold wpOp
      simp only [ho']
      by_cases hwant : Region.wanted o (yielded l.toArray a.tmps) = true
      · rw [if_pos hwant] at hob ⊢
        exact .inl (wp_of_yields hob (fun v w' h => hnew v w' h.1 h.2))
      · rw [if_neg hwant] at hob ⊢
        exact hnew undef w (Out.of hSE (Ext.refl _)) hob
    · have hmi : i = m := by
        rcases Nat.lt_or_ge m i with h | h
        · have := near_listed hdc hdl (k5 him m h)
          rw [htail m (Nat.le_refl _)] at this; cases this
        · omega
      subst hmi
      have hpre : ∀ j, j < i → listed.getD j false = true := fun j hj => near_listed hdc hdl (k5 him j hj)
      have hall' : a = all vals (l.take i) 0 a0 := by
        rw [ha]
        exact sel_all _ _ _ (fun j _ hj => hpre j (by simp at hj; omega))
      have hw := hend vals w hE.1 (fun j hj => hV j hj (hpre j hj))
      rw [← hall', hdrop i ho] at hw
      refine wpOp_mono (fun a' w' h => ?_) (wpOp_list ho hw)
      refine ⟨by simpa using hsz, .inr ⟨i + 1, by omega, by omega, fun j hj => ?_, h⟩⟩
      rw [set_getD hsi]
      by_cases e : j = i
      · subst e; simp
      · rw [if_neg e]
        constructor
        · intro h
          rcases Nat.lt_or_ge j i with h' | h'
          · omega
          · rw [htail j h'] at h; cases h
        · intro h; exact hpre j (by omega)
  · have hki : k = i := by
      rcases Nat.lt_or_ge i k with h | h
      · have := (hiff i hil).2 h
        rw [hunf] at this; cases this
      · rcases Nat.lt_or_ge k i with h' | h'
        · exact (near_tail hB (by omega) (by omega) hiff hdl (k5 (by omega) k h')).elim
        · omega
    subst hki
    rw [hdrop k ho] at hw
    refine wpOp_mono (fun a' w' h => ?_) (wpOp_list ho hw)
    refine ⟨by simpa using hsz, .inr ⟨k + 1, by omega, by omega, fun j hj => ?_, h⟩⟩
    rw [set_getD hsi]
    by_cases e : j = k
    · subst e; simp
    · rw [if_neg e, hiff j hj]; omega

/-- a region whose order is open: what each operation leaves is said once; one of them (q) may write, as S allows -/
theorem wp_region_write {id : Nat} (m q : Nat) (S : World → World → Prop) (V : Nat → World → List Value → Value → Prop) (hm : P.follows .mixedOrders = true) (hB : monoB l m = true)
    (hSE : ∀ w w', Ext w w' → S w w') (hST : ∀ a b c, S a b → S b c → S a c) (hst : ∀ i w w' d v, V i w d v → Ext w w' → V i w' d v) (hsw : ∀ i w w' d v, i ≠ q → V i w d v → S w w' → V i w' d v)
    (hop : ∀ i o, i < m → l[i]? = some o → ∀ (vals : Nat → Value) (w : World), S w0 w → (i = q → Ext w0 w) → (∀ j, (deps l i).contains j = true → V j w ((deps l j).map vals) (vals j)) →
      if Region.wanted o (yielded l.toArray (all vals (l.take m) 0 a0).tmps) = true
      then Mono.Yields P (fun v w' => Out q S i w w' ∧ V i w' ((deps l i).map vals) v) ((execOp (all vals (l.take m) 0 a0).eval o).run P w)
      else V i w ((deps l i).map vals) undef)
    (hend : ∀ (vals : Nat → Value) (w : World), S w0 w → (∀ j, j < m → V j w ((deps l j).map vals) (vals j)) → wpList P l.toArray Q (l.drop m) (all vals (l.take m) 0 a0) w) :
    (Code.region id l.toArray true).wp P Q a0 w0 := by
  have hml : m ≤ l.length := by
    unfold monoB at hB
    simp only [Bool.and_eq_true, decide_eq_true_eq] at hB
    exact hB.1
  refine wp_region_any hm (any_of_inv (Inv P l m Q a0 w0 V q S) (fun _ _ _ h => h.1) (step hB hSE hST hst hsw hop hend) (fun listed a w hI hr => ?_) _ _ _ _ ?_ ?_)
  · obtain ⟨hsz, hI⟩ := hI
    have hal := all_listed hB hsz hr
    rcases hI with ⟨vals, hE, htail, hdc, hV, ha⟩ | ⟨k, hmk, hkl, hiff, hw⟩
    · have hm' : m = l.length := by
        rcases Nat.lt_or_ge m l.length with h | h
        · have := hal m h
          rw [htail m (Nat.le_refl _)] at this; cases this
        · omega
      have hw := hend vals w hE.1 (fun j hj => hV j hj (hal j (by omega)))
      rw [ha, sel_all _ _ _ (fun j _ hj => hal j (by simp at hj; omega))]
      rw [hm', List.drop_length] at hw
      rw [hm']
      exact hw
    · have hk : k = l.length := by
        rcases Nat.lt_or_ge k l.length with h | h
        · have := (hiff k h).1 (hal k h)
          omega
        · omega
      subst hk
      rw [List.drop_length] at hw
      exact hw
  · unfold count
    exact Nat.le_trans (List.length_filter_le (fun b => !b) (Array.replicate l.toArray.size false).toList) (by simp)
  · refine ⟨by simp, .inl ⟨fun _ => undef, ⟨hSE _ _ (Ext.refl w0).drew, fun _ => (Ext.refl w0).drew⟩, fun j _ => ?_, fun i hi => ?_, fun i _ hi => ?_, ?_⟩⟩
    · by_cases h : j < l.length <;> simp [h]
    · exfalso
      by_cases h : i < l.length <;> simp [h] at hi
    · exfalso
      by_cases h : i < l.length <;> simp [h] at hi
    · have : ∀ (r : List Oper) (k : Nat) (a : Act), sel (Array.replicate l.toArray.size false) (fun _ => undef) r k a = a := by
        intro r
        induction r with
        | nil => intro k a; rfl
        | cons o r ih =>
          intro k a
          simp only [sel]
          rw [if_neg (by by_cases h : k < l.length <;> simp [h])]
          exact ih _ _
      exact (this _ _ _).symm
end
end Go.Proofs.Ytjabahfkgaamdaa.MonoW

/- Lists of the call's own behind a store into one block: in a region in which one append may write in place. -/
namespace Go.Proofs.Ytjabahfkgaamdaa
open Go.RowKit
/-- a block that may be written: a list's own -/
abbrev Wr (row : Option Nat) (w W : World) : Prop := Grew (fun b => row = some b) w W
theorem Wr.of (row : Option Nat) : ∀ w W, Ext w W → Wr row w W := fun _ _ h => Grew.of h
theorem Wr.tr (row : Option Nat) : ∀ a b c, Wr row a b → Wr row b c → Wr row a c := fun _ _ _ h k => h.trans k
theorem Wr.grown {row : Option Nat} {w W : World} (h : w.grownBy W row) : Wr row w W := ⟨h.os, h.tape, h.output, h.size, fun b hb hne => h.block b hb (fun e => hne e.symm)⟩
/-- .. none of an elder world -/
theorem Wr.toExt {row : Option Nat} {w0 w W : World} (h : Wr row w W) (h0 : Ext w0 w) (hr : ∀ b, row = some b → w0.heap.size ≤ b) : Ext w0 W := Grew.toExt h h0 hr
theorem block_wr {S : Nat → Prop} {w w' : World} {x : Nat} {o : Obj} (h : w.heap[x]? = some o) (hG : Grew S w w') (hS : ¬ S x) : w'.heap[x]? = some o := by
  have hlt : x < w.heap.size := by
    rcases Nat.lt_or_ge x w.heap.size with h' | h'
    · exact h'
    · rw [Array.getElem?_eq_none h'] at h; cases h
  exact (hG.block x hlt hS).trans h
theorem set_block {w : World} {b i : Nat} {cs : Array Value} {T : TypeId} {fr : Nat × Nat} (hb : w.heap[b]? = some (.cells cs T fr)) (v : Value) : (w.setCell ⟨b, i, none⟩ v).heap[b]? = some (.cells (cs.setIfInBounds i v) T fr) := by
  unfold World.setCell
  simp [Array.getElem?_modify, hb]
section
variable {α : Type} {K : Kd α}
theorem Ow.wr {S : Nat → Prop} {B : Nat} {w W : World} {v : Value} {xs : List α} (h : Ow K B w v xs) (hG : Grew S w W) (hS : ∀ k, v.ownBlock = some k → ¬ S k) : Ow K B W v xs := by
  obtain ⟨⟨h1, h2⟩, hb⟩ := h
  refine ⟨⟨h1, ?_⟩, hb⟩
  rcases h2 with h2 | ⟨g, cap, cur, hv, hg, hh, hr⟩
  · exact .inl h2
  · exact .inr ⟨g, cap, cur, hv, hg, block_wr hh hG (hS g (by rw [hv]; rfl)), hr⟩
/-- newer lists stay -/
theorem Ow.sw {row : Option Nat} {B : Nat} {w W : World} {v : Value} {xs : List α} (h : Ow K B w v xs) (hG : Wr row w W) (hr : ∀ b, row = some b → b < B) : Ow K B W v xs :=
  h.wr hG fun k hk e => by have := (h.lt k hk).1; have := hr k e; omega
theorem OwAt.sw {row : Option Nat} {B : Nat} {w W : World} {v : Value} {xs : List α} (h : OwAt K B w v xs) (hG : Wr row w W) (hr : ∀ b, row = some b → b < B) : OwAt K B W v xs := by
  obtain ⟨A, c, rfl, h⟩ := h
  exact ⟨A, c, rfl, h.sw hG hr⟩
theorem NewAt.sw {row : Option Nat} {B : Nat} {w W : World} {v : Value} (h : NewAt K B w v) (hG : Wr row w W) (hr : ∀ b, row = some b → b < B) : NewAt K B W v := by
  obtain ⟨x, rfl, hB, hx⟩ := h
  exact ⟨x, rfl, hB, block_wr hx hG (fun e => by have := hr x e; omega)⟩
/-- one element, as a list of its own: 'append(l, x)' lays it so -/
def OneAt (K : Kd α) (B : Nat) (w : World) (v : Value) (x : α) : Prop := ∃ p, v = .slice (some ⟨p, 0, none⟩) 1 1 ∧ Ow K B w (.slice (some ⟨p, 0, none⟩) 1 1) [x]
theorem OneAt.ext {B : Nat} {w W : World} {v : Value} {x : α} (h : OneAt K B w v x) (hE : Ext w W) : OneAt K B W v x := by
  obtain ⟨p, rfl, h⟩ := h
  exact ⟨p, rfl, h.ext hE⟩
theorem OneAt.sw {row : Option Nat} {B : Nat} {w W : World} {v : Value} {x : α} (h : OneAt K B w v x) (hG : Wr row w W) (hr : ∀ b, row = some b → b < B) : OneAt K B W v x := by
  obtain ⟨p, rfl, h⟩ := h
  exact ⟨p, rfl, h.sw hG hr⟩
theorem OneAt.made (K : Kd α) (w : World) {B : Nat} (hB : B ≤ w.heap.size) (cs : Array Value) (x : α) (hcs : cs.toList = K.cells x) (hok : K.ok x) : OneAt K B (w.alloc (.cells cs K.e)) (.slice (some ⟨w.heap.size, 0, none⟩) 1 1) x :=
  ⟨_, rfl, Ow.lit w [x] cs (by rw [hcs, Kd.flat_one]) rfl rfl hB (by unfold maxLen; omega) (by simpa using hok)⟩
/-- what an append leaves: the list with what was added; it is in the block where it was, or in a new one -/
def AppAt (K : Kd α) (B : Nat) (w : World) (v' : Value) (xs : List α) (v : Value) (n : Nat) : Prop := Ow K B w v' xs ∧ (v'.ownBlock = v.ownBlock ∨ ∃ p, v'.ownBlock = some p ∧ n ≤ p)
theorem AppAt.ext {B : Nat} {w W : World} {v' v : Value} {xs : List α} {n : Nat} (h : AppAt K B w v' xs v n) (hE : Ext w W) : AppAt K B W v' xs v n := ⟨h.1.ext hE, h.2⟩
/-- the append itself: 'v' lies where it lay in the elder world -/
theorem Kd.yields_grow (K : Kd α) {o : Oper} {a : Act} {w : World} {B n : Nat} {q : Nat} {R : Value → World → Prop} (s x : Operand) {v y : Value} {xs ys : List α} (hown : Ow K B w v xs) (hy : Rd K w y ys) (hl : xs.length + ys.length ≤ 1048576) (hB : B ≤ w.heap.size) (hn : n ≤ w.heap.size)
    (ho : o.op = .call { callee := .builtin .append, args := #[s, x], argTypes := #[K.t, K.t] }) (hty : o.type = K.t) (hs : a.eval s = v) (hx : a.eval x = y)
    (hR : ∀ v' w', AppAt K B w' v' (xs ++ ys) v n → MonoW.Out q (Wr v.ownBlock) q w w' → R v' w') : Mono.Yields Try.prog R ((execOp a.eval o).run Try.prog w) := by
  obtain ⟨v', w', hr, h1, h2, h3⟩ := K.run_app w B v xs hown y ys hy hl hB
  exact K.yields_app s x ho hty hs hx hr (hR v' w' ⟨h1, h3.imp_right fun h => ⟨_, h, hn⟩⟩ (MonoW.Out.write (Wr.grown h2)))
end
end Go.Proofs.Ytjabahfkgaamdaa
