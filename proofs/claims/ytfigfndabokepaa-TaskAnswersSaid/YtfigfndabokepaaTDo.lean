/- The document's Do of work: what it refuses. Written by wip/mk_tdo.py. -/
import Derived.Test.YtfigfndabokepaaTPart2
namespace Go.Proofs.Ytfigfndabokepaa
open Go.BigFrame
open Go.RowKit Go.Proofs.Ytfigfndabokepaa.Plain

/-- what Do refuses -/
def DNo (w : World) (A B : Option Addr) (c d n m : Nat) (g k : Int) (e : Ending) (w' : World) : Prop :=
  e = .returned (.tuple #[.agg #[.slice A m c, .int .i64 g, .slice B n d], .bool false, .int .i64 k]) ∧ Ext w w'

set_option maxHeartbeats 1600000 in
set_option maxRecDepth 100000 in
theorem rdo_no (A B : Option Addr) (c d n : Nat) (ts : List Tk) (g i : Int) (w : World) (h : Rd kTask w (.slice A ts.length c) ts) (hn : n ≤ 9223372036854775807) (hg : in64 g) (hi : in64 i) (hr : wRight ts g n = false) :
    Calls Try.prog 11 #[.agg #[.slice A ts.length c, .int .i64 g, .slice B n d], .int .i64 i] w (DNo w A B c d n ts.length g 1) := by
  have H := Lib.hid h
  have hm := h.len
  have HG := Lib.hid hg
  have HI := Lib.hid hi
  have HYR := Lib.hid hr
  clear h hg hi hr
  go_enter Try.func11, Try.ntmps11
  go_wp2_with fail
  have hP : PAt w A B c d n ts.length g ((w.alloc (.cells #[.slice A ts.length c, .int .i64 g, .slice B n d] 25)).alloc (.cells #[.slice none 0 0, .int .i64 0, .slice none 0 0] 25)) := Ext.refl _
  refine (rright_any _ _ _ _ _ _ _ _ (H.out.ext hP.ext) hn HG.out).mono ?_
  rintro e w1 ⟨he, hE⟩
  rw [HYR.out] at he
  subst he
  replace hP := hP.go hE
  obtain ⟨q0, q1, q2⟩ := hP.cells
  have HP := Lib.hid hP
  clear hE hP
  obtain ⟨s0, s1, s2, s3⟩ := HP.out.out
  go_wp2_with fail
  refine bodyPost_ret (v := .tuple #[.agg #[.slice A ts.length c, .int .i64 g, .slice B n d], .bool false, .int .i64 1]) (by simp [results, Try.results11, go_sem]; go_simp) rfl ⟨rfl, ?_⟩
  exact ((HP.out.ext.setCell (by simp) _).setCell (by simp) _).setCell (by simp) _

set_option maxHeartbeats 1600000 in
set_option maxRecDepth 100000 in
theorem rdo_none (A B : Option Addr) (c d n : Nat) (ts : List Tk) (g i : Int) (w : World) (h : Rd kTask w (.slice A ts.length c) ts) (hn : n ≤ 9223372036854775807) (hg : in64 g) (hi : in64 i) (hr : wRight ts g n = true) (hs : wHas ts.length i = false) :
    Calls Try.prog 11 #[.agg #[.slice A ts.length c, .int .i64 g, .slice B n d], .int .i64 i] w (DNo w A B c d n ts.length g 6) := by
  have H := Lib.hid h
  have hm := h.len
  have HG := Lib.hid hg
  have HI := Lib.hid hi
  have HYR := Lib.hid hr
  have HYS := Lib.hid hs
  clear h hg hi hr hs
  go_enter Try.func11, Try.ntmps11
  go_wp2_with fail
  have hP : PAt w A B c d n ts.length g ((w.alloc (.cells #[.slice A ts.length c, .int .i64 g, .slice B n d] 25)).alloc (.cells #[.slice none 0 0, .int .i64 0, .slice none 0 0] 25)) := Ext.refl _
  refine (rright_any _ _ _ _ _ _ _ _ (H.out.ext hP.ext) hn HG.out).mono ?_
  rintro e w1 ⟨he, hE⟩
  rw [HYR.out] at he
  subst he
  replace hP := hP.go hE
  obtain ⟨q0, q1, q2⟩ := hP.cells
  have HP := Lib.hid hP
  clear hE hP
  go_wp2_with fail
  have hP := HP.out
  clear HP q0 q1 q2
  refine (rhas_any _ _ _ _ _ _ _ _ _ hm).mono ?_
  rintro e w1 ⟨he, hE⟩
  rw [HYS.out] at he
  subst he
  replace hP := hP.go hE
  obtain ⟨q0, q1, q2⟩ := hP.cells
  have HP := Lib.hid hP
  clear hE hP
  obtain ⟨s0, s1, s2, s3⟩ := HP.out.out
  go_wp2_with fail
  refine bodyPost_ret (v := .tuple #[.agg #[.slice A ts.length c, .int .i64 g, .slice B n d], .bool false, .int .i64 6]) (by simp [results, Try.results11, go_sem]; go_simp) rfl ⟨rfl, ?_⟩
  exact ((HP.out.ext.setCell (by simp) _).setCell (by simp) _).setCell (by simp) _

set_option maxHeartbeats 1600000 in
set_option maxRecDepth 100000 in
theorem rdo_great (A B : Option Addr) (c d n : Nat) (ts : List Tk) (g i : Int) (w : World) (h : Rd kTask w (.slice A ts.length c) ts) (hn : n ≤ 9223372036854775807) (hg : in64 g) (hi : in64 i) (hr : wRight ts g n = true) (hs : wHas ts.length i = true) (ht : wGreat ts g n i = true) :
    Calls Try.prog 11 #[.agg #[.slice A ts.length c, .int .i64 g, .slice B n d], .int .i64 i] w (DNo w A B c d n ts.length g 5) := by
  have H := Lib.hid h
  have hm := h.len
  have HG := Lib.hid hg
  have HI := Lib.hid hi
  have HYR := Lib.hid hr
  have HYS := Lib.hid hs
  have HYT := Lib.hid ht
  clear h hg hi hr hs ht
  go_enter Try.func11, Try.ntmps11
  go_wp2_with fail
  have hP : PAt w A B c d n ts.length g ((w.alloc (.cells #[.slice A ts.length c, .int .i64 g, .slice B n d] 25)).alloc (.cells #[.slice none 0 0, .int .i64 0, .slice none 0 0] 25)) := Ext.refl _
  refine (rright_any _ _ _ _ _ _ _ _ (H.out.ext hP.ext) hn HG.out).mono ?_
  rintro e w1 ⟨he, hE⟩
  rw [HYR.out] at he
  subst he
  replace hP := hP.go hE
  obtain ⟨q0, q1, q2⟩ := hP.cells
  have HP := Lib.hid hP
  clear hE hP
  go_wp2_with fail
  have hP := HP.out
  clear HP q0 q1 q2
  refine (rhas_any _ _ _ _ _ _ _ _ _ hm).mono ?_
  rintro e w1 ⟨he, hE⟩
  rw [HYS.out] at he
  subst he
  replace hP := hP.go hE
  obtain ⟨q0, q1, q2⟩ := hP.cells
  have HP := Lib.hid hP
  clear hE hP
  go_wp2_with fail
  have hP := HP.out
  clear HP q0 q1 q2
  have hall : ∀ w', PAt w A B c d n ts.length g w' → (w'.cell? ⟨w.heap.size, 0, none⟩ = some (.slice A ts.length c) ∧ w'.cell? ⟨w.heap.size, 1, none⟩ = some (.int .i64 g) ∧ w'.cell? ⟨w.heap.size, 2, none⟩ = some (.slice B n d)) :=
    fun w' hE => ⟨hE.cells.1, hE.cells.2.1, hE.cells.2.2⟩
  have HALL := Lib.hid hall
  clear hall
  refine wp_region_class (PAt w A B c d n ts.length g) (by kernel_rfl) (by kernel_rfl) (hP.go (Ext.refl _).drew) ?_
  repeat (first
    | go_big_quiet_skip
    | (go_big_quiet_want
       first
       | (go_big_quiet_op; go_big_quiet_on)
       | (unfold Oper.quiet
          apply Exists.intro
          refine ⟨fun w' hC => ?_, ?_⟩
          · (obtain ⟨k0, k1, k2⟩ := HALL.out w' hC
             unfold Oper.quietAt
             go_simp
             exact rfl)
          go_simp
          go_big_quiet_on)
       | (go_big_quiet_op
          apply Exists.intro
          refine ⟨fun w' hC => ?_, ?_⟩
          · exact (rgreat_any _ _ _ _ _ _ _ _ _ (H.out.ext hC.ext) hn HG.out HI.out).mono fun e w'' h => ⟨h.1.trans (ret_bool HYT.out), hC.go h.2⟩
          go_big_quiet_on)))
  refine wpQuiet_nil ?_
  intro w3 hP3
  obtain ⟨q0, q1, q2⟩ := hP3.cells
  obtain ⟨s0, s1, s2, s3⟩ := hP3.out
  have HP := Lib.hid hP3
  clear hP3 hP
  go_wp2_with fail
  refine bodyPost_ret (v := .tuple #[.agg #[.slice A ts.length c, .int .i64 g, .slice B n d], .bool false, .int .i64 5]) (by simp [results, Try.results11, go_sem]; go_simp) rfl ⟨rfl, ?_⟩
  exact ((HP.out.ext.setCell (by simp) _).setCell (by simp) _).setCell (by simp) _

set_option maxHeartbeats 1600000 in
set_option maxRecDepth 100000 in
theorem rdo_wait (A B : Option Addr) (c d : Nat) (ts : List Tk) (dn : List Bool) (g : Int) (j : Nat) (w : World) (h : Rd kTask w (.slice A ts.length c) ts) (hd : Rd kBool w (.slice B dn.length d) dn) (hg : in64 g) (hr : wRight ts g dn.length = true) (hj : j < ts.length) (ht : wGreat ts g dn.length j = false) (h3 : (ts.getD j tk0).wt ≠ 0) :
    Calls Try.prog 11 #[.agg #[.slice A ts.length c, .int .i64 g, .slice B dn.length d], .int .i64 j] w (DNo w A B c d dn.length ts.length g 5) := by
  have H := Lib.hid h
  have HD := Lib.hid hd
  have hn := hd.len
  have hnb := right_n hr
  have hm := h.len
  have HG := Lib.hid hg
  have HI : Hid (in64 (j : Int)) := Lib.hid (by unfold in64; omega)
  have HYR := Lib.hid hr
  have HYS : Hid (wHas ts.length (j : Int) = true) := Lib.hid (by unfold wHas; simp; omega)
  have HYT := Lib.hid ht
  obtain ⟨b, off, rfl, hcc⟩ := Rd.tasks H.out (by omega)
  obtain ⟨y0, y1, y2, y3⟩ := hcc j hj
  have e0 : ts.getD j ⟨0, 0, 0, 0⟩ = ts.getD j tk0 := rfl
  rw [e0] at y0 y1 y2 y3
  obtain ⟨o1, o2, o3, o4, o5, _⟩ := tkOk_iff dn.length j (ts.getD j tk0) |>.1 (right_ok hr j hj)
  obtain ⟨⟨lo, hi', up, wt⟩, htk⟩ : ∃ x, ts.getD j tk0 = x := ⟨_, rfl⟩
  have hbd : in64 (ts.getD j tk0).wt := (H.out.okAt j hj).2.2.2
  have HTK := Lib.hid htk
  rw [htk] at y0 y1 y2 y3 h3 o1 o2 o3 o4 o5 hbd
  simp only at y0 y1 y2 y3 h3 o1 o2 o3 o4 o5 hbd
  obtain ⟨b1, b2⟩ := hbd
  have Y0 := Lib.hid y0
  have Y3 := Lib.hid y3
  have hj' : (j : Int) < ts.length := by omega
  have hj0 : (0 : Int) ≤ j := by omega
  have hwn : (wt != 0) = true := by simpa using h3
  have hwe : (wt == 0) = false := by simpa using h3
  clear h hd hg hr ht hcc e0 htk y0 y1 y2 y3
  go_enter Try.func11, Try.ntmps11
  go_wp2_with fail
  have hP : PAt w (some ⟨b, off, none⟩) B c d dn.length ts.length g ((w.alloc (.cells #[.slice (some ⟨b, off, none⟩) ts.length c, .int .i64 g, .slice B dn.length d] 25)).alloc (.cells #[.slice none 0 0, .int .i64 0, .slice none 0 0] 25)) := Ext.refl _
  refine (rright_any _ _ _ _ _ _ _ _ (H.out.ext hP.ext) hn HG.out).mono ?_
  rintro e w1 ⟨he, hE⟩
  rw [HYR.out] at he
  subst he
  replace hP := hP.go hE
  obtain ⟨q0, q1, q2⟩ := hP.cells
  have HP := Lib.hid hP
  clear hE hP
  go_wp2_with fail
  have hP := HP.out
  clear HP q0 q1 q2
  refine (rhas_any _ _ _ _ _ _ _ _ _ hm).mono ?_
  rintro e w1 ⟨he, hE⟩
  rw [HYS.out] at he
  subst he
  replace hP := hP.go hE
  obtain ⟨q0, q1, q2⟩ := hP.cells
  have HP := Lib.hid hP
  clear hE hP
  go_wp2_with fail
  have hP := HP.out
  clear HP q0 q1 q2
  have hall : ∀ w', PAt w (some ⟨b, off, none⟩) B c d dn.length ts.length g w' → (w'.cell? ⟨w.heap.size, 0, none⟩ = some (.slice (some ⟨b, off, none⟩) ts.length c) ∧ w'.cell? ⟨w.heap.size, 1, none⟩ = some (.int .i64 g) ∧ w'.cell? ⟨w.heap.size, 2, none⟩ = some (.slice B dn.length d) ∧ w'.cell? ⟨b, off + j * 4 + 3, none⟩ = some (.int .i64 wt)) :=
    fun w' hE => ⟨hE.cells.1, hE.cells.2.1, hE.cells.2.2, hE.ext.cell Y3.out⟩
  have HALL := Lib.hid hall
  clear hall
  refine wp_region_class (PAt w (some ⟨b, off, none⟩) B c d dn.length ts.length g) (by kernel_rfl) (by kernel_rfl) (hP.go (Ext.refl _).drew) ?_
  repeat (first
    | go_big_quiet_skip
    | (go_big_quiet_want
       first
       | (go_big_quiet_op; go_big_quiet_on)
       | (unfold Oper.quiet
          apply Exists.intro
          refine ⟨fun w' hC => ?_, ?_⟩
          · (obtain ⟨k0, k1, k2, k3⟩ := HALL.out w' hC
             unfold Oper.quietAt
             go_simp
             exact rfl)
          go_simp
          go_big_quiet_on)
       | (go_big_quiet_op
          apply Exists.intro
          refine ⟨fun w' hC => ?_, ?_⟩
          · exact (rgreat_any _ _ _ _ _ _ _ _ _ (H.out.ext hC.ext) hn HG.out HI.out).mono fun e w'' h => ⟨h.1.trans (ret_bool HYT.out), hC.go h.2⟩
          go_big_quiet_on)))
  refine wpQuiet_nil ?_
  intro w3 hP3
  obtain ⟨q0, q1, q2⟩ := hP3.cells
  obtain ⟨s0, s1, s2, s3⟩ := hP3.out
  have HP := Lib.hid hP3
  clear hP3 hP
  go_wp2_with fail
  refine bodyPost_ret (v := .tuple #[.agg #[.slice (some ⟨b, off, none⟩) ts.length c, .int .i64 g, .slice B dn.length d], .bool false, .int .i64 5]) (by simp [results, Try.results11, go_sem]; go_simp) rfl ⟨rfl, ?_⟩
  exact ((HP.out.ext.setCell (by simp) _).setCell (by simp) _).setCell (by simp) _

set_option maxHeartbeats 1600000 in
set_option maxRecDepth 100000 in
theorem rdo_done (A B : Option Addr) (c d : Nat) (ts : List Tk) (dn : List Bool) (g : Int) (j : Nat) (w : World) (h : Rd kTask w (.slice A ts.length c) ts) (hd : Rd kBool w (.slice B dn.length d) dn) (hg : in64 g) (hr : wRight ts g dn.length = true) (hj : j < ts.length) (ht : wGreat ts g dn.length j = false) (h3 : (ts.getD j tk0).wt = 0) (hdn : dn.getD (ts.getD j tk0).lo.toNat false = true) :
    Calls Try.prog 11 #[.agg #[.slice A ts.length c, .int .i64 g, .slice B dn.length d], .int .i64 j] w (DNo w A B c d dn.length ts.length g 5) := by
  have H := Lib.hid h
  have HD := Lib.hid hd
  have hn := hd.len
  have hnb := right_n hr
  have hm := h.len
  have HG := Lib.hid hg
  have HI : Hid (in64 (j : Int)) := Lib.hid (by unfold in64; omega)
  have HYR := Lib.hid hr
  have HYS : Hid (wHas ts.length (j : Int) = true) := Lib.hid (by unfold wHas; simp; omega)
  have HYT := Lib.hid ht
  obtain ⟨b, off, rfl, hcc⟩ := Rd.tasks H.out (by omega)
  obtain ⟨y0, y1, y2, y3⟩ := hcc j hj
  have e0 : ts.getD j ⟨0, 0, 0, 0⟩ = ts.getD j tk0 := rfl
  rw [e0] at y0 y1 y2 y3
  obtain ⟨o1, o2, o3, o4, o5, _⟩ := tkOk_iff dn.length j (ts.getD j tk0) |>.1 (right_ok hr j hj)
  obtain ⟨⟨lo, hi', up, wt⟩, htk⟩ : ∃ x, ts.getD j tk0 = x := ⟨_, rfl⟩
  have hbd : in64 (ts.getD j tk0).wt := (H.out.okAt j hj).2.2.2
  have HTK := Lib.hid htk
  rw [htk] at y0 y1 y2 y3 h3 o1 o2 o3 o4 o5 hbd
  simp only at y0 y1 y2 y3 h3 o1 o2 o3 o4 o5 hbd
  obtain ⟨b1, b2⟩ := hbd
  have Y0 := Lib.hid y0
  have Y3 := Lib.hid y3
  have hj' : (j : Int) < ts.length := by omega
  have hj0 : (0 : Int) ≤ j := by omega
  obtain ⟨L, rfl⟩ : ∃ L : Nat, lo = L := ⟨lo.toNat, by omega⟩
  obtain ⟨bb, boff, rfl, hbc⟩ := Rd.bools HD.out (by omega)
  have z0 := hbc L (by omega)
  have hdL : dn.getD L false = true := by rw [HTK.out] at hdn; simpa using hdn
  rw [hdL] at z0
  have Z0 := Lib.hid z0
  have hL' : (L : Int) < dn.length := by omega
  have hL0 : (0 : Int) ≤ L := by omega
  subst h3
  clear hbc z0 hdn hdL
  clear h hd hg hr ht hcc e0 htk y0 y1 y2 y3
  go_enter Try.func11, Try.ntmps11
  go_wp2_with fail
  have hP : PAt w (some ⟨b, off, none⟩) (some ⟨bb, boff, none⟩) c d dn.length ts.length g ((w.alloc (.cells #[.slice (some ⟨b, off, none⟩) ts.length c, .int .i64 g, .slice (some ⟨bb, boff, none⟩) dn.length d] 25)).alloc (.cells #[.slice none 0 0, .int .i64 0, .slice none 0 0] 25)) := Ext.refl _
  refine (rright_any _ _ _ _ _ _ _ _ (H.out.ext hP.ext) hn HG.out).mono ?_
  rintro e w1 ⟨he, hE⟩
  rw [HYR.out] at he
  subst he
  replace hP := hP.go hE
  obtain ⟨q0, q1, q2⟩ := hP.cells
  have HP := Lib.hid hP
  clear hE hP
  go_wp2_with fail
  have hP := HP.out
  clear HP q0 q1 q2
  refine (rhas_any _ _ _ _ _ _ _ _ _ hm).mono ?_
  rintro e w1 ⟨he, hE⟩
  rw [HYS.out] at he
  subst he
  replace hP := hP.go hE
  obtain ⟨q0, q1, q2⟩ := hP.cells
  have HP := Lib.hid hP
  clear hE hP
  go_wp2_with fail
  have hP := HP.out
  clear HP q0 q1 q2
  have hall : ∀ w', PAt w (some ⟨b, off, none⟩) (some ⟨bb, boff, none⟩) c d dn.length ts.length g w' → (w'.cell? ⟨w.heap.size, 0, none⟩ = some (.slice (some ⟨b, off, none⟩) ts.length c) ∧ w'.cell? ⟨w.heap.size, 1, none⟩ = some (.int .i64 g) ∧ w'.cell? ⟨w.heap.size, 2, none⟩ = some (.slice (some ⟨bb, boff, none⟩) dn.length d) ∧ w'.cell? ⟨b, off + j * 4 + 3, none⟩ = some (.int .i64 0) ∧ w'.cell? ⟨b, off + j * 4, none⟩ = some (.int .i64 L) ∧ w'.cell? ⟨bb, boff + L, none⟩ = some (.bool true)) :=
    fun w' hE => ⟨hE.cells.1, hE.cells.2.1, hE.cells.2.2, hE.ext.cell Y3.out, hE.ext.cell Y0.out, hE.ext.cell Z0.out⟩
  have HALL := Lib.hid hall
  clear hall
  refine wp_region_class (PAt w (some ⟨b, off, none⟩) (some ⟨bb, boff, none⟩) c d dn.length ts.length g) (by kernel_rfl) (by kernel_rfl) (hP.go (Ext.refl _).drew) ?_
  repeat (first
    | go_big_quiet_skip
    | (go_big_quiet_want
       first
       | (go_big_quiet_op; go_big_quiet_on)
       | (unfold Oper.quiet
          apply Exists.intro
          refine ⟨fun w' hC => ?_, ?_⟩
          · (obtain ⟨k0, k1, k2, k3, k4, k5⟩ := HALL.out w' hC
             unfold Oper.quietAt
             go_simp
             exact rfl)
          go_simp
          go_big_quiet_on)
       | (go_big_quiet_op
          apply Exists.intro
          refine ⟨fun w' hC => ?_, ?_⟩
          · exact (rgreat_any _ _ _ _ _ _ _ _ _ (H.out.ext hC.ext) hn HG.out HI.out).mono fun e w'' h => ⟨h.1.trans (ret_bool HYT.out), hC.go h.2⟩
          go_big_quiet_on)))
  refine wpQuiet_nil ?_
  intro w3 hP3
  obtain ⟨q0, q1, q2⟩ := hP3.cells
  obtain ⟨s0, s1, s2, s3⟩ := hP3.out
  have HP := Lib.hid hP3
  clear hP3 hP
  go_wp2_with fail
  refine bodyPost_ret (v := .tuple #[.agg #[.slice (some ⟨b, off, none⟩) ts.length c, .int .i64 g, .slice (some ⟨bb, boff, none⟩) dn.length d], .bool false, .int .i64 5]) (by simp [results, Try.results11, go_sem]; go_simp) rfl ⟨rfl, ?_⟩
  exact ((HP.out.ext.setCell (by simp) _).setCell (by simp) _).setCell (by simp) _

end Go.Proofs.Ytfigfndabokepaa
