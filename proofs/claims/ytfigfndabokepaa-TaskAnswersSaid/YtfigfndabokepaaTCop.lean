/- The program's copy of work, its Begin, and what is finished. -/
import Derived.Test.YtfigfndabokepaaTAsk
import Derived.Test.YtfigfndabokepaaTDo3
namespace Go.Proofs.Ytfigfndabokepaa
open Go.BigFrame
open Go.RowKit Go.Proofs.Ytfigfndabokepaa.Plain

set_option maxHeartbeats 1600000 in
set_option maxRecDepth 100000 in
theorem copied_any (A B : Option Addr) (c d : Nat) (ts : List Tk) (g : Int) (dn : List Bool) (w : World) (h : Rd kTask w (.slice A ts.length c) ts) (h' : Rd kBool w (.slice B dn.length d) dn) (hl : ts.length ≤ 1048576) (hl' : dn.length ≤ 1048576) :
    Calls Try.prog 22 #[.agg #[.slice A ts.length c, .int .i64 g, .slice B dn.length d]] w fun e w' => ∃ A c B d, e = .returned (.agg #[.slice A ts.length c, .int .i64 g, .slice B dn.length d]) ∧
      Ow kTask w.heap.size w' (.slice A ts.length c) ts ∧ Ow kBool w.heap.size w' (.slice B dn.length d) dn ∧ Ext w w' := by
  have H := Lib.hid h
  have HD := Lib.hid h'
  clear h h'
  go_enter Try.func22, Try.ntmps22
  go_wp2
  go_region_held3 (fun w' => w'.cell? ⟨w.heap.size, 0, none⟩ = some (.slice A ts.length c) ∧ w'.cell? ⟨w.heap.size, 1, none⟩ = some (.int .i64 g) ∧ w'.cell? ⟨w.heap.size, 2, none⟩ = some (.slice B dn.length d))
    (first | go_keep | exact ⟨c21, c22, c23⟩ | exact ⟨c11, c12, c13⟩)
    (first
      | (go_at_call_of 31 (Value.slice A ts.length c)
         refine (clone_t _ _ _ (H.out.ext (((Ext.refl w).alloc _).alloc _).drew) hl).mono ?_
         rintro e w1 ⟨A1, c1, rfl, ho1, hE1⟩
         have c11 : w1.cell? ⟨w.heap.size, 0, none⟩ = some (.slice A ts.length c) := hE1.cell (by go_simp)
         have c12 : w1.cell? ⟨w.heap.size, 1, none⟩ = some (.int .i64 g) := hE1.cell (by go_simp)
         have c13 : w1.cell? ⟨w.heap.size, 2, none⟩ = some (.slice B dn.length d) := hE1.cell (by go_simp))
      | (go_at_call_of 32 (Value.slice B dn.length d)
         refine (clone_b _ _ _ (HD.out.ext ((((Ext.refl w).alloc _).alloc _).drew.trans hE1)) hl').mono ?_
         rintro e w2 ⟨A2, c2, rfl, ho2, hE2⟩
         have c21 : w2.cell? ⟨w.heap.size, 0, none⟩ = some (.slice A ts.length c) := hE2.cell c11
         have c22 : w2.cell? ⟨w.heap.size, 1, none⟩ = some (.int .i64 g) := hE2.cell c12
         have c23 : w2.cell? ⟨w.heap.size, 2, none⟩ = some (.slice B dn.length d) := hE2.cell c13
         have hE12 := hE1.trans hE2
         obtain ⟨hc2, hf2⟩ := bcell hE12))
  go_wp2
  refine bodyPost_ret (v := .agg #[.slice A1 ts.length c1, .int .i64 g, .slice A2 dn.length c2]) (by simp [results, Try.results22, go_sem, hc2]) rfl ⟨A1, c1, A2, c2, rfl, ?_, ?_, ?_⟩
  · exact ((((ho1.ext hE2).setBelow (by simp) _).setBelow (by simp) _).setBelow (by simp) _).mono (by simp; omega)
  · have := hE1.size
    simp at this
    exact (((ho2.setBelow (by simp; omega) _).setBelow (by simp; omega) _).setBelow (by simp; omega) _).mono (by omega)
  · exact ((((((Ext.refl w).alloc _).alloc _).drew.trans hE12).setCell (by simp) _).setCell (by simp) _).setCell (by simp) _

/-- what stands while the tasks above are told -/
structure FAt (B g c : Nat) (w wr : World) (us : List Tk) : Prop where
  own : Ow kTask B wr (.slice (some ⟨g, 0, none⟩) us.length c) us
  grow : w.grownBy wr (some g)
theorem FAt.task {B g c : Nat} {w wr : World} {us : List Tk} (h : FAt B g c w wr us) {k : Nat} (hk : k < us.length) {lo hi up wt : Int} (ht : us.getD k tk0 = ⟨lo, hi, up, wt⟩) :
    wr.cell? ⟨g, k * 4 + 2, none⟩ = some (.int .i64 up) ∧ wr.cell? ⟨g, k * 4 + 3, none⟩ = some (.int .i64 wt) ∧ (∀ o, wr.frozen? ⟨g, o, none⟩ = false) ∧ in64 up ∧ in64 wt := by
  obtain ⟨g', e, _, _, h3, h4⟩ := Ow.pos h.own (by omega)
  cases e
  have e0 : us.getD k kTask.d = ⟨lo, hi, up, wt⟩ := ht
  have := h.own.rd.okAt k hk
  rw [e0] at this
  exact ⟨h3 k hk 2 (.int .i64 up) (by rw [e0]; rfl), h3 k hk 3 (.int .i64 wt) (by rw [e0]; rfl), h4, this.2.2.1, this.2.2.2⟩
theorem FAt.less {B g c : Nat} {w wr : World} {us : List Tk} (h : FAt B g c w wr us) {k : Nat} (hk : k < us.length) {lo hi up wt : Int} (ht : us.getD k tk0 = ⟨lo, hi, up, wt⟩) (hwt : 1 ≤ wt) : FAt B g c w (wr.setCell ⟨g, k * 4 + 3, none⟩ (.int .i64 (wt - 1))) (wless us k) where
  own := by
    rw [wless_len]
    have e0 : us.getD k kTask.d = ⟨lo, hi, up, wt⟩ := ht
    have ok := h.own.rd.okAt k hk
    rw [e0] at ok
    have := h.own.set (j := k) (i := 3) (x := ⟨lo, hi, up, wt - 1⟩) (u := .int .i64 (wt - 1)) hk (by decide) (by rw [e0]; rfl) (tk_ok ok.1 ok.2.1 ok.2.2.1 (by have h9 : in64 wt := ok.2.2.2; unfold in64 at h9 ⊢; omega))
    unfold wless; rw [ht]; exact this
  grow := ⟨h.grow.os, h.grow.tape, h.grow.output, by rw [World.size_setCell]; exact h.grow.size, fun i hi hne => (Below.heap_setCell _ _ _ _ (fun e => hne (by simp [e]))).trans (h.grow.block i hi hne)⟩

set_option maxHeartbeats 800000 in
set_option maxRecDepth 100000 in
theorem finish_any (B ga c n : Nat) (ts : List Tk) (up : Int) (w : World) (h : Ow kTask B w (.slice (some ⟨ga, 0, none⟩) ts.length c) ts) (hok : wOkTo ts n ts.length = true) (hu1 : -1 ≤ up) (hu2 : up < ts.length) (hm : ts.length ≤ 2000) :
    Calls Try.prog 27 #[.slice (some ⟨ga, 0, none⟩) ts.length c, .int .i64 up] w fun e w' => e = .returned (.bool (climb (ts.length + 1) ts up).2) ∧ FAt B ga c w w' (climb (ts.length + 1) ts up).1 := by
  have H0 : Hid (FAt B ga c w w ts) := Lib.hid ⟨h, World.grownBy.refl w _⟩
  have HOK := Lib.hid hok
  clear h hok
  go_enter Try.func27, Try.ntmps27
  go_wp2_with fail
  go_loopw [1] (fun i wx => ∃ (u : Int) (us : List Tk) (f : Nat), i = .int .i64 u ∧ FAt B ga c w wx us ∧ us.length = ts.length ∧ wOkTo us n ts.length = true ∧ -1 ≤ u ∧ u < ts.length ∧ u < f ∧ climb (ts.length + 1) ts up = climb (f + 1) us u) (fun i _ => (intOf i + 1).toNat)
  case atStart => exact ⟨up, ts, ts.length, rfl, H0.out, rfl, HOK.out, hu1, hu2, hu2, rfl⟩
  case round =>
    obtain ⟨u, us, f, rfl, hX, hul, hok, hv1, hv2, hv3, hcl⟩ := hrel
    have HX := Lib.hid hX
    by_cases hum : u = -1
    · subst hum
      have HC : Hid (climb (ts.length + 1) ts up = (us, true)) := Lib.hid (by rw [hcl]; simp [climb])
      clear hcl hX
      go_wp2_with fail
      go_ret
      exact ⟨ret_bool (by rw [HC.out]), by rw [HC.out]; exact HX.out⟩
    · obtain ⟨v, rfl⟩ : ∃ v : Nat, u = v := ⟨u.toNat, by omega⟩
      have hv : v < us.length := by omega
      have hv' : (v : Int) < ts.length := by omega
      have hv0 : (0 : Int) ≤ v := by omega
      obtain ⟨⟨lo1, hi1, up1, wt1⟩, ht⟩ : ∃ x, us.getD v tk0 = x := ⟨_, rfl⟩
      obtain ⟨cu, cw, cf, iu, iw⟩ := hX.task hv ht
      have ok1 := (tkOk_iff _ _ _).1 (wOkTo_at us n ts.length hok v (by omega))
      rw [ht] at ok1
      simp only at ok1
      obtain ⟨_, _, _, k4, k5, k6, k7⟩ := ok1
      have e0 : tkAt us (v : Int) = us.getD v tk0 := by unfold tkAt; rw [Int.toNat_natCast]
      by_cases hw : wt1 = 0
      · have HC : Hid (climb (ts.length + 1) ts up = (us, false)) := Lib.hid (by rw [hcl]; unfold climb; rw [if_neg hum, e0, ht, if_pos hw])
        subst hw
        clear hcl hX ht e0 hum
        go_wp2_with fail
        go_ret
        exact ⟨ret_bool (by rw [HC.out]), by rw [HC.out]; exact HX.out⟩
      · have hwe : (wt1 == 0) = false := by simpa using hw
        have HN := Lib.hid (hX.less hv ht (by omega))
        have hnl : (wless us v).length = ts.length := by rw [wless_len]; exact hul
        have HNL := Lib.hid hnl
        by_cases hq : 0 < wt1 - 1
        · have HC : Hid (climb (ts.length + 1) ts up = (wless us v, false)) := Lib.hid (by rw [hcl]; unfold climb; rw [if_neg hum, e0, ht, if_neg hw, if_pos hq, Int.toNat_natCast])
          clear hcl hX ht e0 hum hw
          go_wp2_with fail
          go_ret
          exact ⟨ret_bool (by rw [HC.out]), by rw [HC.out]; exact HN.out⟩
        · obtain ⟨f, rfl⟩ : ∃ x, f = x + 1 := ⟨f - 1, by omega⟩
          have HC : Hid (climb (ts.length + 1) ts up = climb (f + 1) (wless us v) up1) := Lib.hid (by rw [hcl]; rw [climb]; rw [if_neg hum, e0, ht, if_neg hw, if_neg hq, Int.toNat_natCast])
          have HK : Hid (wOkTo (wless us v) n ts.length = true) := Lib.hid (wless_ok us n v _ hv hok (by omega) (by rw [ht]; exact hw))
          clear hcl hX ht e0 hum hw hok
          go_wp2
          go_roundw
          case rel => exact ⟨up1, wless us v, f, rfl, HN.out, HNL.out, HK.out, k4, by omega, by omega, HC.out⟩
          case measure => simp [intOf]; omega
end Go.Proofs.Ytfigfndabokepaa
