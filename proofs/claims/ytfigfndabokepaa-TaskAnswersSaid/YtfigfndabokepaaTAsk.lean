/- The program's Right, asked and Great of work. -/
import Derived.Test.YtfigfndabokepaaTSmall
import Derived.IntWalk
namespace Go.Proofs.Ytfigfndabokepaa
open Go.BigFrame
open Go.RowKit Go.Proofs.Ytfigfndabokepaa.Plain

theorem sized_right (ts : List Tk) (g : Int) (n : Nat) : wSized g n ts.length = (cOk n g && decide (1 ≤ ts.length) && decide (ts.length ≤ 2000)) := by
  unfold wSized cOk
  rw [Bool.eq_iff_iff]
  simp only [Bool.and_eq_true, decide_eq_true_eq]
  omega

set_option maxHeartbeats 800000 in
set_option maxRecDepth 100000 in
theorem right_any (A B : Option Addr) (c d n : Nat) (ts : List Tk) (g : Int) (w : World) (h : Rd kTask w (.slice A ts.length c) ts) (hn : n ≤ 9223372036854775807) (hg : in64 g) :
    Calls Try.prog 17 #[.agg #[.slice A ts.length c, .int .i64 g, .slice B n d]] w fun e w' => e = .returned (.bool (wRight ts g n)) ∧ Ext w w' := by
  have H := Lib.hid h
  have hm := h.len
  have HG := Lib.hid hg
  have HN : Hid (in64 (n : Int)) := Lib.hid (by unfold in64; omega)
  clear h
  cases hc : cOk n g with
  | false =>
    have HC := Lib.hid hc
    have HR : Hid (wRight ts g n = false) := Lib.hid (by unfold wRight; rw [sized_right, hc]; rfl)
    clear hc
    go_enter Try.func17, Try.ntmps17
    go_wp2_with fail
    refine (sized_any _ _ _ HN.out HG.out).mono ?_
    rintro e w1 ⟨he, rfl⟩
    rw [HC.out] at he
    subst he
    go_wp2_with fail
    go_ret
    exact ⟨ret_bool HR.out.symm, (Ext.refl w).alloc _⟩
  | true =>
    have HC := Lib.hid hc
    by_cases hs : 1 ≤ ts.length ∧ ts.length ≤ 2000
    · obtain ⟨a5, a6⟩ := hs
      have HR : Hid (wRight ts g n = wOkTo ts n ts.length) := Lib.hid (by unfold wRight; rw [sized_right, hc, decide_eq_true a5, decide_eq_true a6]; rfl)
      have b5 : (1 : Int) ≤ ts.length := by omega
      have b6 : (ts.length : Int) ≤ 2000 := by omega
      clear hc
      obtain ⟨b, off, rfl, hcc⟩ := Rd.tasks H.out (by omega)
      have HCC := Lib.hid hcc
      clear hcc
      go_enter Try.func17, Try.ntmps17
      go_wp2_with fail
      refine (sized_any _ _ _ HN.out HG.out).mono ?_
      rintro e w1 ⟨he, rfl⟩
      rw [HC.out] at he
      subst he
      go_wp2_with fail
      go_loopw [27] (fun i wr => ∃ k : Nat, k ≤ ts.length ∧ i = .int .i64 k ∧ wOkTo ts n k = true ∧ Ext (w.alloc (.cells #[.slice (some ⟨b, off, none⟩) ts.length c, .int .i64 g, .slice B n d] 25)) wr) (fun i _ => ts.length - (intOf i).toNat)
      case atStart => exact ⟨0, Nat.zero_le _, rfl, wOkTo_zero _ _, Ext.refl _⟩
      case round =>
        obtain ⟨k, hk, rfl, hok, hE⟩ := hrel
        have HOK := Lib.hid hok
        have x0 : wr.cell? ⟨w.heap.size, 0, none⟩ = some (.slice (some ⟨b, off, none⟩) ts.length c) := hE.cell (by go_simp)
        have x2 : wr.cell? ⟨w.heap.size, 2, none⟩ = some (.slice B n d) := hE.cell (by go_simp)
        have hsz := hE.size
        simp at hsz
        have l0 : w.heap.size < wr.heap.size := by omega
        have l1 : w.heap.size < wr.heap.size + 1 := by omega
        clear hok
        by_cases hlt : k < ts.length
        · have hlt' : (k : Int) < ts.length := by omega
          obtain ⟨y0, y1, y2, y3⟩ := HCC.out k hlt
          have hbd := H.out.okAt k hlt
          obtain ⟨⟨lo, hi, up, wt⟩, ht⟩ : ∃ t, ts.getD k tk0 = t := ⟨_, rfl⟩
          have ht' : ts.getD k ⟨0, 0, 0, 0⟩ = ⟨lo, hi, up, wt⟩ := ht
          rw [ht'] at y0 y1 y2 y3
          have hbd' : in64 lo ∧ in64 hi ∧ in64 up ∧ in64 wt := by
            have e : ts.getD k kTask.d = ⟨lo, hi, up, wt⟩ := ht
            rw [e] at hbd; exact hbd
          have HBD := Lib.hid hbd'
          have z0 := hE.cell (Lib.cell?_alloc_some _ y0)
          have z1 := hE.cell (Lib.cell?_alloc_some _ y1)
          have z2 := hE.cell (Lib.cell?_alloc_some _ y2)
          have z3 := hE.cell (Lib.cell?_alloc_some _ y3)
          simp only at z0 z1 z2 z3
          have HE := Lib.hid hE
          have HT := Lib.hid ht
          clear y0 y1 y2 y3 hbd hbd' ht' hE ht
          go_wp2_with fail
          refine (fits_any lo hi up wt k n _ HBD.out.1 HBD.out.2.1 HBD.out.2.2.1 HBD.out.2.2.2 (by omega) hn).mono ?_
          rintro e w2 ⟨he, hE2⟩
          have HE2 := Lib.hid (HE.out.trans (((Ext.refl _).alloc _).trans hE2))
          cases hto : tkOk n k ⟨lo, hi, up, wt⟩ with
          | false =>
            have H0 := Lib.hid (wOkTo_no ts n ts.length k hlt (by rw [HT.out]; exact hto))
            rw [hto] at he
            subst he
            clear hto hE2
            go_wp2_with fail
            go_ret
            exact ⟨ret_bool (by rw [HR.out, H0.out]), ((Ext.refl w).alloc _).trans HE2.out⟩
          | true =>
            have H0 : Hid (wOkTo ts n (k + 1) = true) := Lib.hid (by rw [wOkTo_succ, HOK.out, HT.out, hto]; rfl)
            rw [hto] at he
            subst he
            clear hto hE2
            go_wp2_with fail
            go_roundw
            case rel => exact ⟨k + 1, by omega, by go_num, H0.out, HE2.out⟩
            case measure => simp [intOf]; omega
        · have hk' : k = ts.length := by omega
          have HOK2 : Hid (wOkTo ts n ts.length = true) := Lib.hid (hk' ▸ HOK.out)
          have hlt' : ¬ (k : Int) < ts.length := by omega
          clear hk'
          go_wp2_with fail
          go_ret
          exact ⟨ret_bool (by rw [HR.out, HOK2.out]), ((Ext.refl w).alloc _).trans hE⟩
    · have HR : Hid (wRight ts g n = false) := Lib.hid (by
        unfold wRight; rw [sized_right, hc]
        have : (decide (1 ≤ ts.length) && decide (ts.length ≤ 2000)) = false := by simp; omega
        rw [Bool.true_and, this]; rfl)
      have hs2 : (ts.length : Int) < 1 ∨ 2000 < (ts.length : Int) := by omega
      clear hc hs
      rcases hs2 with hs2 | hs2
      all_goals
        go_enter Try.func17, Try.ntmps17
        go_wp2_with fail
        refine (sized_any _ _ _ HN.out HG.out).mono ?_
        rintro e w1 ⟨he, rfl⟩
        rw [HC.out] at he
        subst he
        go_wp2_with fail
        go_ret
        exact ⟨ret_bool HR.out.symm, (Ext.refl w).alloc _⟩

/-- may the work be, and is there an i-th task: 0, or why not -/
def askErr (ts : List Tk) (g : Int) (n : Nat) (i : Int) : Int := if wRight ts g n = false then 1 else if wHas ts.length i = false then 6 else 0
theorem askErr_ok {ts : List Tk} {g : Int} {n : Nat} {i : Int} (h1 : wRight ts g n = true) (h2 : wHas ts.length i = true) : askErr ts g n i = 0 := by unfold askErr; rw [if_neg (by rw [h1]; decide), if_neg (by rw [h2]; decide)]
theorem askErr_zero {ts : List Tk} {g : Int} {n : Nat} {i : Int} (h : askErr ts g n i = 0) : wRight ts g n = true ∧ wHas ts.length i = true := by
  unfold askErr at h
  cases h1 : wRight ts g n with
  | false => rw [if_pos h1] at h; simp at h
  | true =>
    cases h2 : wHas ts.length i with
    | false => rw [if_neg (by rw [h1]; decide), if_pos h2] at h; simp at h
    | true => exact ⟨rfl, rfl⟩

set_option maxHeartbeats 400000 in
set_option maxRecDepth 100000 in
theorem asked_any (A B : Option Addr) (c d n : Nat) (ts : List Tk) (g i : Int) (w : World) (h : Rd kTask w (.slice A ts.length c) ts) (hn : n ≤ 9223372036854775807) (hg : in64 g) (hi : in64 i) :
    Calls Try.prog 23 #[.agg #[.slice A ts.length c, .int .i64 g, .slice B n d], .int .i64 i] w fun e w' => e = .returned (.int .i64 (askErr ts g n i)) ∧ Ext w w' := by
  have H := Lib.hid h
  have hm := h.len
  have HG := Lib.hid hg
  obtain ⟨i1, i2⟩ := hi
  clear h
  go_enter Try.func23, Try.ntmps23
  go_wp2_with fail
  refine (right_any _ _ _ _ _ _ _ _ (H.out.ext ((Ext.refl w).alloc _)) hn HG.out).mono ?_
  rintro e w1 ⟨he, hE⟩
  have q0 : w1.cell? ⟨w.heap.size, 0, none⟩ = some (.slice A ts.length c) := hE.cell (by go_simp)
  have HE := Lib.hid (((Ext.refl w).alloc _).trans hE)
  clear hE
  cases hr : wRight ts g n with
  | false =>
    have HR : Hid (askErr ts g n i = 1) := Lib.hid (by unfold askErr; rw [if_pos hr])
    rw [hr] at he
    subst he
    clear hr
    go_wp2_with fail
    go_ret
    exact ⟨ret_int HR.out.symm, HE.out⟩
  | true =>
    rw [hr] at he
    subst he
    by_cases h0 : i < 0
    · have HR : Hid (askErr ts g n i = 6) := Lib.hid (by unfold askErr; rw [if_neg (by rw [hr]; decide), if_pos (by unfold wHas; simp; omega)])
      clear hr
      go_wp2_with fail
      go_ret
      exact ⟨ret_int HR.out.symm, HE.out⟩
    · by_cases h1 : i < (ts.length : Int)
      · have HR : Hid (askErr ts g n i = 0) := Lib.hid (askErr_ok hr (by unfold wHas; simp; omega))
        clear hr
        go_wp2_with fail
        go_ret
        exact ⟨ret_int HR.out.symm, HE.out⟩
      · have HR : Hid (askErr ts g n i = 6) := Lib.hid (by unfold askErr; rw [if_neg (by rw [hr]; decide), if_pos (by unfold wHas; simp; omega)])
        clear hr
        go_wp2_with fail
        go_ret
        exact ⟨ret_int HR.out.symm, HE.out⟩

theorem great_err {ts : List Tk} {g : Int} {n : Nat} {i : Int} (h : askErr ts g n i ≠ 0) : wGreat ts g n i = false := by
  unfold wGreat
  cases h1 : wRight ts g n with
  | false => rfl
  | true =>
    cases h2 : wHas ts.length i with
    | false => rfl
    | true => exact absurd (askErr_ok h1 h2) h

set_option maxHeartbeats 1600000 in
set_option maxRecDepth 100000 in
theorem pgreat_no (A B : Option Addr) (c d n : Nat) (ts : List Tk) (g i : Int) (w : World) (h : Rd kTask w (.slice A ts.length c) ts) (hn : n ≤ 9223372036854775807) (hg : in64 g) (hi : in64 i) (ha : askErr ts g n i ≠ 0) :
    Calls Try.prog 19 #[.agg #[.slice A ts.length c, .int .i64 g, .slice B n d], .int .i64 i] w fun e w' => e = .returned (.bool (wGreat ts g n i)) ∧ Ext w w' := by
  have H := Lib.hid h
  have hm := h.len
  have HG := Lib.hid hg
  have HI := Lib.hid hi
  have HW := Lib.hid (great_err ha)
  obtain ⟨k, hk⟩ : ∃ k, askErr ts g n i = k := ⟨_, rfl⟩
  rw [hk] at ha
  have HK := Lib.hid hk
  have e1 : (k == 0) = false := by simpa using ha
  clear h hk hg hi
  go_enter Try.func19, Try.ntmps19
  go_wp2
  have hall : ∀ w', Ext (w.alloc (.cells #[.slice A ts.length c, .int .i64 g, .slice B n d] 25)) w' → (w'.cell? ⟨w.heap.size, 0, none⟩ = some (.slice A ts.length c) ∧ w'.cell? ⟨w.heap.size, 1, none⟩ = some (.int .i64 g) ∧ w'.cell? ⟨w.heap.size, 2, none⟩ = some (.slice B n d)) :=
    fun w' hE => ⟨hE.cell (by go_simp), hE.cell (by go_simp), hE.cell (by go_simp)⟩
  have HALL := Lib.hid hall
  clear hall
  refine wp_region_class (fun w' => Ext (w.alloc (.cells #[.slice A ts.length c, .int .i64 g, .slice B n d] 25)) w') (by kernel_rfl) (by kernel_rfl) (Ext.refl _).drew ?_
  repeat (first
    | go_big_quiet_skip
    | (go_big_quiet_want
       first
       | (go_big_quiet_op; go_big_quiet_on)
       | (unfold Oper.quiet
          apply Exists.intro
          refine ⟨fun w' hC => ?_, ?_⟩
          · (obtain ⟨k1, k2, k3⟩ := HALL.out w' hC
             unfold Oper.quietAt
             go_simp
             exact rfl)
          go_simp
          go_big_quiet_on)
       | (go_big_quiet_op
          apply Exists.intro
          refine ⟨fun w' hC => ?_, ?_⟩
          · exact (asked_any _ _ _ _ _ _ _ _ _ (H.out.ext (((Ext.refl w).alloc _).trans hC)) hn HG.out HI.out).mono fun e w'' h => ⟨h.1.trans (ret_int HK.out), hC.trans h.2⟩
          go_big_quiet_on)))
  refine wpQuiet_nil ?_
  intro w3 hC3
  go_wp2
  go_ret
  exact ⟨ret_bool HW.out.symm, ((Ext.refl w).alloc _).trans hC3⟩

set_option maxHeartbeats 1600000 in
set_option maxRecDepth 100000 in
theorem pgreat_has (A B : Option Addr) (c d n : Nat) (ts : List Tk) (g : Int) (j : Nat) (w : World) (h : Rd kTask w (.slice A ts.length c) ts) (hn : n ≤ 9223372036854775807) (hg : in64 g) (hr : wRight ts g n = true) (hj : j < ts.length) :
    Calls Try.prog 19 #[.agg #[.slice A ts.length c, .int .i64 g, .slice B n d], .int .i64 j] w fun e w' => e = .returned (.bool (wGreat ts g n j)) ∧ Ext w w' := by
  have H := Lib.hid h
  have hm := h.len
  have HG := Lib.hid hg
  have hs : wHas ts.length (j : Int) = true := by unfold wHas; simp; omega
  have HI : Hid (in64 (j : Int)) := Lib.hid (by unfold in64; omega)
  have HK := Lib.hid (askErr_ok hr hs)
  have hj' : (j : Int) < ts.length := by omega
  have hj0 : (0 : Int) ≤ j := by omega
  have HW : Hid (wGreat ts g n j = decide (g < (ts.getD j tk0).hi - (ts.getD j tk0).lo)) := Lib.hid (by unfold wGreat tkAt; rw [hr, hs, Int.toNat_natCast]; rfl)
  have hok := tkOk_iff n j (ts.getD j tk0) |>.1 (wOkTo_at ts n ts.length (by unfold wRight at hr; rw [Bool.and_eq_true] at hr; exact hr.2) j hj)
  have hnb : (n : Int) ≤ 1000 := by
    unfold wRight at hr
    rw [Bool.and_eq_true, wSized_iff] at hr
    omega
  obtain ⟨b, off, rfl, hcc⟩ := Rd.tasks H.out (by omega)
  obtain ⟨y0, y1, y2, y3⟩ := hcc j hj
  have e0 : ts.getD j ⟨0, 0, 0, 0⟩ = ts.getD j tk0 := rfl
  rw [e0] at y0 y1 y2 y3
  obtain ⟨⟨lo, hi', up, wt⟩, htk⟩ : ∃ x, ts.getD j tk0 = x := ⟨_, rfl⟩
  rw [htk] at y0 y1 y2 y3 HW hok
  simp only at y0 y1 y2 y3 HW hok
  obtain ⟨o1, o2, o3, _⟩ := hok
  have HD : Hid (in64 (hi' - lo)) := Lib.hid (by unfold in64; omega)
  clear h hr hs hcc htk e0 hg
  go_enter Try.func19, Try.ntmps19
  go_wp2
  have hall : ∀ w', Ext (w.alloc (.cells #[.slice (some ⟨b, off, none⟩) ts.length c, .int .i64 g, .slice B n d] 25)) w' → (w'.cell? ⟨w.heap.size, 0, none⟩ = some (.slice (some ⟨b, off, none⟩) ts.length c) ∧ w'.cell? ⟨w.heap.size, 1, none⟩ = some (.int .i64 g) ∧ w'.cell? ⟨w.heap.size, 2, none⟩ = some (.slice B n d) ∧ w'.cell? ⟨b, off + j * 4, none⟩ = some (.int .i64 lo) ∧ w'.cell? ⟨b, off + j * 4 + 1, none⟩ = some (.int .i64 hi') ∧ w'.cell? ⟨b, off + j * 4 + 2, none⟩ = some (.int .i64 up) ∧ w'.cell? ⟨b, off + j * 4 + 3, none⟩ = some (.int .i64 wt)) :=
    fun w' hE => ⟨hE.cell (by go_simp), hE.cell (by go_simp), hE.cell (by go_simp), hE.cell (Lib.cell?_alloc_some _ y0), hE.cell (Lib.cell?_alloc_some _ y1), hE.cell (Lib.cell?_alloc_some _ y2), hE.cell (Lib.cell?_alloc_some _ y3)⟩
  have HALL := Lib.hid hall
  clear hall
  refine wp_region_class (fun w' => Ext (w.alloc (.cells #[.slice (some ⟨b, off, none⟩) ts.length c, .int .i64 g, .slice B n d] 25)) w') (by kernel_rfl) (by kernel_rfl) (Ext.refl _).drew ?_
  repeat (first
    | go_big_quiet_skip
    | (go_big_quiet_want
       first
       | (go_big_quiet_op; go_big_quiet_on)
       | (unfold Oper.quiet
          apply Exists.intro
          refine ⟨fun w' hC => ?_, ?_⟩
          · (obtain ⟨k1, k2, k3, k4, k5, k6, k7⟩ := HALL.out w' hC
             unfold Oper.quietAt
             go_simp
             exact rfl)
          go_simp
          go_big_quiet_on)
       | (go_big_quiet_op
          apply Exists.intro
          refine ⟨fun w' hC => ?_, ?_⟩
          · first
            | exact (asked_any _ _ _ _ _ _ _ _ _ (H.out.ext (((Ext.refl w).alloc _).trans hC)) hn HG.out HI.out).mono fun e w'' h => ⟨h.1.trans (ret_int HK.out), hC.trans h.2⟩
            | exact (great_any lo hi' up wt g _ HD.out HG.out).mono fun e w'' h => ⟨h.1, hC.trans h.2⟩
          go_big_quiet_on)))
  refine wpQuiet_nil ?_
  intro w3 hC3
  go_wp2
  go_ret
  exact ⟨ret_bool (by rw [HW.out]), ((Ext.refl w).alloc _).trans hC3⟩

theorem pgreat_any (A B : Option Addr) (c d n : Nat) (ts : List Tk) (g i : Int) (w : World) (h : Rd kTask w (.slice A ts.length c) ts) (hn : n ≤ 9223372036854775807) (hg : in64 g) (hi : in64 i) :
    Calls Try.prog 19 #[.agg #[.slice A ts.length c, .int .i64 g, .slice B n d], .int .i64 i] w fun e w' => e = .returned (.bool (wGreat ts g n i)) ∧ Ext w w' := by
  by_cases ha : askErr ts g n i = 0
  · obtain ⟨h1, h2⟩ := askErr_zero ha
    have hsi : 0 ≤ i ∧ i < (ts.length : Int) := by unfold wHas at h2; simpa using h2
    obtain ⟨j, rfl⟩ : ∃ j : Nat, i = j := ⟨i.toNat, by omega⟩
    exact pgreat_has A B c d n ts g j w h hn hg h1 (by omega)
  · exact pgreat_no A B c d n ts g i w h hn hg hi ha
end Go.Proofs.Ytfigfndabokepaa
