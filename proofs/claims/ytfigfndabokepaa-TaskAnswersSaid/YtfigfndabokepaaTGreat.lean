/- The document's Great of work: is a task to be parted? -/
import Derived.Test.YtfigfndabokepaaTRight
import Derived.BigQuiet
import Derived.IntWalk
import Derived.Deep.QuietTactic
namespace Go.Proofs.Ytfigfndabokepaa
open Go.BigFrame
open Go.RowKit Go.Proofs.Ytfigfndabokepaa.Plain

set_option maxRecDepth 100000 in
theorem rhas_any (A B : Option Addr) (c d n m : Nat) (g i : Int) (w : World) (hm : m ≤ 9223372036854775807) :
    Calls Try.prog 26 #[.agg #[.slice A m c, .int .i64 g, .slice B n d], .int .i64 i] w fun e w' => e = .returned (.bool (wHas m i)) ∧ Ext w w' := by
  by_cases h0 : 0 ≤ i
  · have HR : Hid (wHas m i = decide (i < (m : Int))) := Lib.hid (by unfold wHas; rw [decide_eq_true h0]; rfl)
    go_enter Try.func26, Try.ntmps26
    go_wp2
    all_goals (go_ret; exact ⟨ret_bool (by rw [HR.out]; try rfl), (Ext.refl w).alloc _⟩)
  · have HR : Hid (wHas m i = false) := Lib.hid (by unfold wHas; rw [decide_eq_false h0]; rfl)
    have h1 : i < 0 := by omega
    have h2 : decide (0 ≤ i) = false := decide_eq_false h0
    clear h0
    go_enter Try.func26, Try.ntmps26
    go_wp2
    all_goals (go_ret; exact ⟨ret_bool HR.out.symm, (Ext.refl w).alloc _⟩)

set_option maxHeartbeats 1600000 in
set_option maxRecDepth 100000 in
theorem rgreat_no (A B : Option Addr) (c d n : Nat) (ts : List Tk) (g i : Int) (w : World) (h : Rd kTask w (.slice A ts.length c) ts) (hn : n ≤ 9223372036854775807) (hg : -9223372036854775808 ≤ g ∧ g ≤ 9223372036854775807) (hi : -9223372036854775808 ≤ i ∧ i ≤ 9223372036854775807) (hr : wRight ts g n = false) :
    Calls Try.prog 20 #[.agg #[.slice A ts.length c, .int .i64 g, .slice B n d], .int .i64 i] w fun e w' => e = .returned (.bool (wGreat ts g n i)) ∧ Ext w w' := by
  have H := Lib.hid h
  have hm := h.len
  have HR := Lib.hid hr
  have HS : Hid (wHas ts.length i = wHas ts.length i) := Lib.hid rfl
  have HW : Hid (wGreat ts g n i = false) := Lib.hid (by unfold wGreat; rw [hr]; rfl)
  clear h hr
  go_enter Try.func20, Try.ntmps20
  go_wp2
  have hall : ∀ w', Ext (w.alloc (.cells #[.slice A ts.length c, .int .i64 g, .slice B n d] 25)) w' → (w'.cell? ⟨w.heap.size, 0, none⟩ = some (.slice A ts.length c) ∧ w'.cell? ⟨w.heap.size, 1, none⟩ = some (.int .i64 g) ∧ w'.cell? ⟨w.heap.size, 2, none⟩ = some (.slice B n d)) :=
    fun w' hE => ⟨hE.cell (by go_simp), hE.cell (by go_simp), hE.cell (by go_simp)⟩
  have HALL := Lib.hid hall
  clear hall
  refine wp_region_class (fun w' => Ext (w.alloc (.cells #[.slice A ts.length c, .int .i64 g, .slice B n d] 25)) w') (by kernel_rfl) (by kernel_rfl) (Ext.refl _).drew ?_
  repeat (first
    | go_big_quiet_skip
    | (go_big_quiet_want
       first
       | (go_big_quiet_op; go_big_quiet_on)
       | (unfold Oper.quiet
          apply Exists.intro
          refine ⟨fun w' hC => ?_, ?_⟩
          · (obtain ⟨k1, k2, k3⟩ := HALL.out w' hC
             unfold Oper.quietAt
             go_simp
             exact rfl)
          go_simp
          go_big_quiet_on)
       | (go_big_quiet_op
          apply Exists.intro
          refine ⟨fun w' hC => ?_, ?_⟩
          · first
            | exact (rright_any _ _ _ _ _ _ _ _ (H.out.ext (((Ext.refl w).alloc _).trans hC)) hn hg).mono fun e w'' h => ⟨h.1.trans (ret_bool HR.out), hC.trans h.2⟩
            | exact (rhas_any _ _ _ _ _ _ _ _ _ hm).mono fun e w'' h => ⟨h.1.trans (ret_bool HS.out), hC.trans h.2⟩
          go_big_quiet_on)))
  refine wpQuiet_nil ?_
  intro w3 hC3
  go_wp2
  go_ret
  exact ⟨ret_bool HW.out.symm, ((Ext.refl w).alloc _).trans hC3⟩

set_option maxHeartbeats 1600000 in
set_option maxRecDepth 100000 in
theorem rgreat_none (A B : Option Addr) (c d n : Nat) (ts : List Tk) (g i : Int) (w : World) (h : Rd kTask w (.slice A ts.length c) ts) (hn : n ≤ 9223372036854775807) (hg : -9223372036854775808 ≤ g ∧ g ≤ 9223372036854775807) (hi : -9223372036854775808 ≤ i ∧ i ≤ 9223372036854775807) (hr : wRight ts g n = true) (hs : wHas ts.length i = false) :
    Calls Try.prog 20 #[.agg #[.slice A ts.length c, .int .i64 g, .slice B n d], .int .i64 i] w fun e w' => e = .returned (.bool (wGreat ts g n i)) ∧ Ext w w' := by
  have H := Lib.hid h
  have hm := h.len
  have HR := Lib.hid hr
  have HS := Lib.hid hs
  have HW : Hid (wGreat ts g n i = false) := Lib.hid (by unfold wGreat; rw [hr, hs]; rfl)
  clear h hr hs
  go_enter Try.func20, Try.ntmps20
  go_wp2
  have hall : ∀ w', Ext (w.alloc (.cells #[.slice A ts.length c, .int .i64 g, .slice B n d] 25)) w' → (w'.cell? ⟨w.heap.size, 0, none⟩ = some (.slice A ts.length c) ∧ w'.cell? ⟨w.heap.size, 1, none⟩ = some (.int .i64 g) ∧ w'.cell? ⟨w.heap.size, 2, none⟩ = some (.slice B n d)) :=
    fun w' hE => ⟨hE.cell (by go_simp), hE.cell (by go_simp), hE.cell (by go_simp)⟩
  have HALL := Lib.hid hall
  clear hall
  refine wp_region_class (fun w' => Ext (w.alloc (.cells #[.slice A ts.length c, .int .i64 g, .slice B n d] 25)) w') (by kernel_rfl) (by kernel_rfl) (Ext.refl _).drew ?_
  repeat (first
    | go_big_quiet_skip
    | (go_big_quiet_want
       first
       | (go_big_quiet_op; go_big_quiet_on)
       | (unfold Oper.quiet
          apply Exists.intro
          refine ⟨fun w' hC => ?_, ?_⟩
          · (obtain ⟨k1, k2, k3⟩ := HALL.out w' hC
             unfold Oper.quietAt
             go_simp
             exact rfl)
          go_simp
          go_big_quiet_on)
       | (go_big_quiet_op
          apply Exists.intro
          refine ⟨fun w' hC => ?_, ?_⟩
          · first
            | exact (rright_any _ _ _ _ _ _ _ _ (H.out.ext (((Ext.refl w).alloc _).trans hC)) hn hg).mono fun e w'' h => ⟨h.1.trans (ret_bool HR.out), hC.trans h.2⟩
            | exact (rhas_any _ _ _ _ _ _ _ _ _ hm).mono fun e w'' h => ⟨h.1.trans (ret_bool HS.out), hC.trans h.2⟩
          go_big_quiet_on)))
  refine wpQuiet_nil ?_
  intro w3 hC3
  go_wp2
  go_ret
  exact ⟨ret_bool HW.out.symm, ((Ext.refl w).alloc _).trans hC3⟩

set_option maxHeartbeats 1600000 in
set_option maxRecDepth 100000 in
theorem rgreat_has (A B : Option Addr) (c d n : Nat) (ts : List Tk) (g i : Int) (w : World) (h : Rd kTask w (.slice A ts.length c) ts) (hn : n ≤ 9223372036854775807) (hg : -9223372036854775808 ≤ g ∧ g ≤ 9223372036854775807) (hi : -9223372036854775808 ≤ i ∧ i ≤ 9223372036854775807) (hr : wRight ts g n = true) (hs : wHas ts.length i = true) :
    Calls Try.prog 20 #[.agg #[.slice A ts.length c, .int .i64 g, .slice B n d], .int .i64 i] w fun e w' => e = .returned (.bool (wGreat ts g n i)) ∧ Ext w w' := by
  have H := Lib.hid h
  have hm := h.len
  have HR := Lib.hid hr
  have HS := Lib.hid hs
  have hsi : 0 ≤ i ∧ i < (ts.length : Int) := by unfold wHas at hs; simpa using hs
  obtain ⟨j, rfl⟩ : ∃ j : Nat, i = j := ⟨i.toNat, by omega⟩
  have hj : j < ts.length := by omega
  have hj' : (j : Int) < ts.length := by omega
  have hj0 : (0 : Int) ≤ j := by omega
  have HW : Hid (wGreat ts g n j = decide (g < (ts.getD j tk0).hi - (ts.getD j tk0).lo)) := Lib.hid (by unfold wGreat tkAt; rw [hr, hs, Int.toNat_natCast]; rfl)
  have hok := tkOk_iff n j (ts.getD j tk0) |>.1 (wOkTo_at ts n ts.length (by unfold wRight at hr; rw [Bool.and_eq_true] at hr; exact hr.2) j hj)
  have hnb : (n : Int) ≤ 1000 := by
    unfold wRight at hr
    rw [Bool.and_eq_true, wSized_iff] at hr
    omega
  obtain ⟨b, off, rfl, hcc⟩ := Rd.tasks H.out (by omega)
  obtain ⟨y0, y1, _, _⟩ := hcc j hj
  have e0 : ts.getD j ⟨0, 0, 0, 0⟩ = ts.getD j tk0 := rfl
  rw [e0] at y0 y1
  obtain ⟨lo, hlo⟩ : ∃ lo, (ts.getD j tk0).lo = lo := ⟨_, rfl⟩
  obtain ⟨hi', hhi⟩ : ∃ hi', (ts.getD j tk0).hi = hi' := ⟨_, rfl⟩
  rw [hlo] at y0 HW hok
  rw [hhi] at y1 HW hok
  obtain ⟨o1, o2, o3, _⟩ := hok
  have hw1 : IntKind.i64.wrap (hi' - lo) = hi' - lo := IntWalk.i64_in _ (by omega)
  clear h hr hs hsi hcc hlo hhi e0
  go_enter Try.func20, Try.ntmps20
  go_wp2
  have hall : ∀ w', Ext (w.alloc (.cells #[.slice (some ⟨b, off, none⟩) ts.length c, .int .i64 g, .slice B n d] 25)) w' → (w'.cell? ⟨w.heap.size, 0, none⟩ = some (.slice (some ⟨b, off, none⟩) ts.length c) ∧ w'.cell? ⟨w.heap.size, 1, none⟩ = some (.int .i64 g) ∧ w'.cell? ⟨w.heap.size, 2, none⟩ = some (.slice B n d) ∧ w'.cell? ⟨b, off + j * 4 + 1, none⟩ = some (.int .i64 hi') ∧ w'.cell? ⟨b, off + j * 4, none⟩ = some (.int .i64 lo)) :=
    fun w' hE => ⟨hE.cell (by go_simp), hE.cell (by go_simp), hE.cell (by go_simp), hE.cell (Lib.cell?_alloc_some _ y1), hE.cell (Lib.cell?_alloc_some _ y0)⟩
  have HALL := Lib.hid hall
  clear hall
  refine wp_region_class (fun w' => Ext (w.alloc (.cells #[.slice (some ⟨b, off, none⟩) ts.length c, .int .i64 g, .slice B n d] 25)) w') (by kernel_rfl) (by kernel_rfl) (Ext.refl _).drew ?_
  repeat (first
    | go_big_quiet_skip
    | (go_big_quiet_want
       first
       | (go_big_quiet_op; go_big_quiet_on)
       | (unfold Oper.quiet
          apply Exists.intro
          refine ⟨fun w' hC => ?_, ?_⟩
          · (obtain ⟨k1, k2, k3, k4, k5⟩ := HALL.out w' hC
             unfold Oper.quietAt
             go_simp
             exact rfl)
          go_simp
          go_big_quiet_on)
       | (go_big_quiet_op
          apply Exists.intro
          refine ⟨fun w' hC => ?_, ?_⟩
          · first
            | exact (rright_any _ _ _ _ _ _ _ _ (H.out.ext (((Ext.refl w).alloc _).trans hC)) hn hg).mono fun e w'' h => ⟨h.1.trans (ret_bool HR.out), hC.trans h.2⟩
            | exact (rhas_any _ _ _ _ _ _ _ _ _ hm).mono fun e w'' h => ⟨h.1.trans (ret_bool HS.out), hC.trans h.2⟩
          go_big_quiet_on)))
  refine wpQuiet_nil ?_
  intro w3 hC3
  go_wp2
  go_ret
  exact ⟨ret_bool (by rw [HW.out]), ((Ext.refl w).alloc _).trans hC3⟩

theorem rgreat_any (A B : Option Addr) (c d n : Nat) (ts : List Tk) (g i : Int) (w : World) (h : Rd kTask w (.slice A ts.length c) ts) (hn : n ≤ 9223372036854775807) (hg : -9223372036854775808 ≤ g ∧ g ≤ 9223372036854775807) (hi : -9223372036854775808 ≤ i ∧ i ≤ 9223372036854775807) :
    Calls Try.prog 20 #[.agg #[.slice A ts.length c, .int .i64 g, .slice B n d], .int .i64 i] w fun e w' => e = .returned (.bool (wGreat ts g n i)) ∧ Ext w w' := by
  cases hr : wRight ts g n with
  | false => exact rgreat_no A B c d n ts g i w h hn hg hi hr
  | true =>
    cases hs : wHas ts.length i with
    | false => exact rgreat_none A B c d n ts g i w h hn hg hi hr hs
    | true => exact rgreat_has A B c d n ts g i w h hn hg hi hr hs
end Go.Proofs.Ytfigfndabokepaa
