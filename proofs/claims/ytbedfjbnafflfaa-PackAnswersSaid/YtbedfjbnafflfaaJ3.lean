/- Joined by wip/merge.py: PDo, TBegin, PBegin, TAlive, TOnceB, CrMem, CrSmall, DPlain, DBase, CrLib, R5A, MonoW, RowW, R5B, CrRight. -/
import Derived.Test.YtbedfjbnafflfaaJ2
import Derived.Outline
import Derived.Laws.StructEq
import Derived.IntWalk
import Derived.Lib.AppendZeros
import Derived.Deep.DeepCutAuto
set_option linter.unusedVariables false
set_option linter.unusedSimpArgs false
set_option linter.unnecessarySimpa false
/- The program's Do of work. Written by wip/mk_pwork.py. -/
namespace Go.Proofs.Ytbedfjbnafflfaa
open Go.BigFrame
open Go.RowKit Go.Proofs.Ytbedfjbnafflfaa.Plain

set_option maxHeartbeats 1600000 in
set_option maxRecDepth 100000 in
theorem pdo_no (A B : Option Addr) (c d : Nat) (ts : List Tk) (dn : List Bool) (g : Int) (i : Int) (w : World) (h : Rd kTask w (.slice A ts.length c) ts) (hd : Rd kBool w (.slice B dn.length d) dn) (hg : in64 g) (hi : in64 i) (hl : ts.length ≤ 1048576) (hl2 : dn.length ≤ 1048576) (ha : askErr ts g dn.length i ≠ 0) :
    Calls Try.prog 91 #[.agg #[.slice A ts.length c, .int .i64 g, .slice B dn.length d], .int .i64 i] w (TNo w ts g dn (mkDo (askErr ts g dn.length i))) := by
  have H := Lib.hid h
  have HD := Lib.hid hd
  have hn := hd.len
  have hm := h.len
  have HG := Lib.hid hg
  have HI := Lib.hid hi
  obtain ⟨k, hk⟩ : ∃ k, askErr ts g dn.length i = k := ⟨_, rfl⟩
  rw [hk] at ha ⊢
  have HK := Lib.hid hk
  have e1 : (k != 0) = true := by simpa using ha
  clear h hd hk hg hi
  go_enter Try.func91, Try.ntmps91
  go_wp2_with fail
  have hP : PAt w A B c d dn.length ts.length g ((w.alloc (.cells #[.slice A ts.length c, .int .i64 g, .slice B dn.length d] 57)).alloc (.cells #[.slice none 0 0, .int .i64 0, .slice none 0 0] 57)) := Ext.refl _
  refine (copied_any _ _ _ _ _ _ _ _ (H.out.ext hP.ext) (HD.out.ext hP.ext) hl hl2).mono ?_
  rintro e w1 ⟨A1, c1, B1, d1, rfl, hO, hOD, hE⟩
  replace hP := hP.go hE
  have HO : Hid (Ow kTask (w.heap.size + 2) w1 (.slice A1 ts.length c1) ts) := Lib.hid (hO.mono (by simp))
  have HOD : Hid (Ow kBool (w.heap.size + 2) w1 (.slice B1 dn.length d1) dn) := Lib.hid (hOD.mono (by simp))
  have hV : VAt w A B c d dn.length ts.length g w1.heap.size A1 B1 c1 d1 (w1.alloc (.cells #[.slice A1 ts.length c1, .int .i64 g, .slice B1 dn.length d1] 57)) := VAt.start hP
  have HV0 := Lib.hid hV
  have HE1 : Hid (Ext w1 (w1.alloc (.cells #[.slice A1 ts.length c1, .int .i64 g, .slice B1 dn.length d1] 57))) := Lib.hid ((Ext.refl _).alloc _)
  obtain ⟨q0, q1, q2⟩ := hP.cells
  have k0 : w.heap.size < w1.heap.size := by have := hP.two; omega
  have k1 : w.heap.size + 1 < w1.heap.size := by have := hP.two; omega
  clear hO hOD hE hP hV
  go_wp2_with fail
  clear q0 q1 q2
  have hV := HV0.out
  refine (asked_any _ _ _ _ _ _ _ _ _ (H.out.ext hV.pat.ext) hn HG.out HI.out).mono ?_
  rintro e w2 ⟨he, hE⟩
  rw [HK.out] at he
  subst he
  replace hV := hV.go hE
  have HE2 := Lib.hid (HE1.out.trans hE)
  have HV := Lib.hid hV
  clear hE HV0 HE1
  obtain ⟨q0, q1, q2⟩ := hV.pat.cells
  obtain ⟨s0, s1, s2, s3⟩ := hV.pat.out
  obtain ⟨_, v0, v1, v2, v3, lv, gv⟩ := hV
  have l0 : w.heap.size < w2.heap.size := by omega
  have l1 : w.heap.size + 1 < w2.heap.size := by omega
  have l2 : w.heap.size < w2.heap.size + 1 := by omega
  have l3 : w.heap.size + 1 < w2.heap.size + 1 := by omega
  have l4 : w1.heap.size < w2.heap.size + 1 := by omega
  have n0 : ¬ w1.heap.size = w.heap.size := by omega
  have n1 : ¬ w1.heap.size = w.heap.size + 1 := by omega
  have n2 : ¬ w.heap.size + 1 = w1.heap.size := by omega
  have n3 : ¬ w.heap.size = w1.heap.size := by omega
  go_wp2_with fail
  have HVZ := HV
  have HEZ := HE2
  refine bodyPost_ret (v := .tuple #[.agg #[.slice A1 ts.length c1, .int .i64 g, .slice B1 dn.length d1], .bool false, .int .i64 (k)]) (by simp [results, Try.results91, go_sem]; go_simp) rfl (TNo.of (mk := mkDo (k)) HVZ.out HO.out HOD.out HEZ.out _ _ _)

set_option maxHeartbeats 1600000 in
set_option maxRecDepth 100000 in
theorem pdo_great (A B : Option Addr) (c d : Nat) (ts : List Tk) (dn : List Bool) (g : Int) (j : Nat) (w : World) (h : Rd kTask w (.slice A ts.length c) ts) (hd : Rd kBool w (.slice B dn.length d) dn) (hg : in64 g) (hr : wRight ts g dn.length = true) (hj : j < ts.length) (ht : wGreat ts g dn.length j = true) :
    Calls Try.prog 91 #[.agg #[.slice A ts.length c, .int .i64 g, .slice B dn.length d], .int .i64 j] w (TNo w ts g dn (mkDo 5)) := by
  have H := Lib.hid h
  have HD := Lib.hid hd
  have hn := hd.len
  have hnb := right_n hr
  have hm := h.len
  have HG := Lib.hid hg
  have HI : Hid (in64 (j : Int)) := Lib.hid (by unfold in64; omega)
  have hl : ts.length ≤ 1048576 := by omega
  have hl2 : dn.length ≤ 1048576 := by omega
  have hgb := hnb.2.2.2.2
  have hs : wHas ts.length (j : Int) = true := by unfold wHas; simp; omega
  have HK := Lib.hid (askErr_ok hr hs)
  have HW : wGreat ts g dn.length j = decide (g < (ts.getD j tk0).hi - (ts.getD j tk0).lo) := by unfold wGreat tkAt; rw [hr, hs, Int.toNat_natCast]; rfl
  obtain ⟨b, off, rfl, hcc⟩ := Rd.tasks H.out (by omega)
  obtain ⟨y0, y1, y2, y3⟩ := hcc j hj
  have e0 : ts.getD j ⟨0, 0, 0, 0⟩ = ts.getD j tk0 := rfl
  rw [e0] at y0 y1 y2 y3
  obtain ⟨o1, o2, o3, o4, o5, o6, o7⟩ := tkOk_iff dn.length j (ts.getD j tk0) |>.1 (right_ok hr j hj)
  obtain ⟨⟨lo, hi, up, wt⟩, htk⟩ : ∃ x, ts.getD j tk0 = x := ⟨_, rfl⟩
  have HTK := Lib.hid htk
  rw [htk] at y0 y1 y2 y3 o1 o2 o3 o4 o5 o6 o7 HW
  simp only at y0 y1 y2 y3 o1 o2 o3 o4 o5 o6 o7 HW
  rw [ht] at HW
  have HGR : Hid (decide (g < hi - lo) = true) := Lib.hid HW.symm
  have HDD : Hid (in64 (hi - lo)) := Lib.hid (by unfold in64; omega)
  have Y0 := Lib.hid y0
  have Y1 := Lib.hid y1
  have Y2 := Lib.hid y2
  have Y3 := Lib.hid y3
  have hj1 : (j : Int) < ts.length := by omega
  have hj0 : (0 : Int) ≤ j := by omega
  have hlb : b < w.heap.size := World.block_lt_of_cell? _ _ y0
  clear h hd hg hr ht hs hcc e0 htk y0 y1 y2 y3 HW
  go_enter Try.func91, Try.ntmps91
  go_wp2_with fail
  have hP : PAt w (some ⟨b, off, none⟩) B c d dn.length ts.length g ((w.alloc (.cells #[.slice (some ⟨b, off, none⟩) ts.length c, .int .i64 g, .slice B dn.length d] 57)).alloc (.cells #[.slice none 0 0, .int .i64 0, .slice none 0 0] 57)) := Ext.refl _
  refine (copied_any _ _ _ _ _ _ _ _ (H.out.ext hP.ext) (HD.out.ext hP.ext) hl hl2).mono ?_
  rintro e w1 ⟨A1, c1, B1, d1, rfl, hO, hOD, hE⟩
  replace hP := hP.go hE
  have HO : Hid (Ow kTask (w.heap.size + 2) w1 (.slice A1 ts.length c1) ts) := Lib.hid (hO.mono (by simp))
  have HOD : Hid (Ow kBool (w.heap.size + 2) w1 (.slice B1 dn.length d1) dn) := Lib.hid (hOD.mono (by simp))
  have hV : VAt w (some ⟨b, off, none⟩) B c d dn.length ts.length g w1.heap.size A1 B1 c1 d1 (w1.alloc (.cells #[.slice A1 ts.length c1, .int .i64 g, .slice B1 dn.length d1] 57)) := VAt.start hP
  have HV0 := Lib.hid hV
  have HE1 : Hid (Ext w1 (w1.alloc (.cells #[.slice A1 ts.length c1, .int .i64 g, .slice B1 dn.length d1] 57))) := Lib.hid ((Ext.refl _).alloc _)
  obtain ⟨q0, q1, q2⟩ := hP.cells
  have k0 : w.heap.size < w1.heap.size := by have := hP.two; omega
  have k1 : w.heap.size + 1 < w1.heap.size := by have := hP.two; omega
  clear hO hOD hE hP hV
  go_wp2_with fail
  clear q0 q1 q2
  have hV := HV0.out
  refine (asked_any _ _ _ _ _ _ _ _ _ (H.out.ext hV.pat.ext) hn HG.out HI.out).mono ?_
  rintro e w2 ⟨he, hE⟩
  rw [HK.out] at he
  subst he
  replace hV := hV.go hE
  have HE2 := Lib.hid (HE1.out.trans hE)
  have HV := Lib.hid hV
  clear hE HV0 HE1
  obtain ⟨q0, q1, q2⟩ := hV.pat.cells
  obtain ⟨s0, s1, s2, s3⟩ := hV.pat.out
  obtain ⟨_, v0, v1, v2, v3, lv, gv⟩ := hV
  have l0 : w.heap.size < w2.heap.size := by omega
  have l1 : w.heap.size + 1 < w2.heap.size := by omega
  have l2 : w.heap.size < w2.heap.size + 1 := by omega
  have l3 : w.heap.size + 1 < w2.heap.size + 1 := by omega
  have l4 : w1.heap.size < w2.heap.size + 1 := by omega
  have n0 : ¬ w1.heap.size = w.heap.size := by omega
  have n1 : ¬ w1.heap.size = w.heap.size + 1 := by omega
  have n2 : ¬ w.heap.size + 1 = w1.heap.size := by omega
  have n3 : ¬ w.heap.size = w1.heap.size := by omega
  have z0 := HV.out.pat.ext.cell Y0.out
  have z1 := HV.out.pat.ext.cell Y1.out
  have z2 := HV.out.pat.ext.cell Y2.out
  have z3 := HV.out.pat.ext.cell Y3.out
  have lb0 : b < w2.heap.size := by omega
  have lb1 : b < w2.heap.size + 1 := by omega
  go_wp2_with fail
  have lv9 := lv
  clear q0 q1 q2 s0 s1 s2 s3 v0 v1 v2 v3 lv gv l0 l1 l2 l3 l4 n0 n1 n2 n3 z0 z1 z2 z3 lb0 lb1
  refine (great_any lo hi up wt g _ HDD.out HG.out).mono ?_
  rintro e w3 ⟨he, hE⟩
  rw [HGR.out] at he
  subst he
  have t0 : w3.cell? ⟨w2.heap.size, 0, none⟩ = some (.int .i64 lo) := hE.cell (by go_simp)
  have t1 : w3.cell? ⟨w2.heap.size, 1, none⟩ = some (.int .i64 hi) := hE.cell (by go_simp)
  have t2 : w3.cell? ⟨w2.heap.size, 2, none⟩ = some (.int .i64 up) := hE.cell (by go_simp)
  have t3 : w3.cell? ⟨w2.heap.size, 3, none⟩ = some (.int .i64 wt) := hE.cell (by go_simp)
  have hz := hE.size
  simp at hz
  have hE23 := ((Ext.refl w2).alloc _).trans hE
  have hV := HV.out.go hE23
  have HE3 := Lib.hid (HE2.out.trans hE23)
  have HV3 := Lib.hid hV
  clear hE hE23 HV HE2
  obtain ⟨q0, q1, q2⟩ := hV.pat.cells
  obtain ⟨s0, s1, s2, s3⟩ := hV.pat.out
  obtain ⟨_, v0, v1, v2, v3, lv, gv⟩ := hV
  have l0 : w.heap.size < w3.heap.size := by omega
  have l1 : w.heap.size + 1 < w3.heap.size := by omega
  have l2 : w.heap.size < w3.heap.size + 1 := by omega
  have l3 : w.heap.size + 1 < w3.heap.size + 1 := by omega
  have l4 : w1.heap.size < w3.heap.size + 1 := by omega
  have n0 : ¬ w1.heap.size = w.heap.size := by omega
  have n1 : ¬ w1.heap.size = w.heap.size + 1 := by omega
  have n2 : ¬ w.heap.size + 1 = w1.heap.size := by omega
  have n3 : ¬ w.heap.size = w1.heap.size := by omega
  have lt : w2.heap.size < w3.heap.size := by omega
  go_wp2_with fail
  have HVZ := HV3
  have HEZ := HE3
  refine bodyPost_ret (v := .tuple #[.agg #[.slice A1 ts.length c1, .int .i64 g, .slice B1 dn.length d1], .bool false, .int .i64 (5)]) (by simp [results, Try.results91, go_sem]; go_simp) rfl (TNo.of (mk := mkDo (5)) HVZ.out HO.out HOD.out HEZ.out _ _ _)

set_option maxHeartbeats 1600000 in
set_option maxRecDepth 100000 in
theorem pdo_wait (A B : Option Addr) (c d : Nat) (ts : List Tk) (dn : List Bool) (g : Int) (j : Nat) (w : World) (h : Rd kTask w (.slice A ts.length c) ts) (hd : Rd kBool w (.slice B dn.length d) dn) (hg : in64 g) (hr : wRight ts g dn.length = true) (hj : j < ts.length) (ht : wGreat ts g dn.length j = false) (h3 : (ts.getD j tk0).wt ≠ 0) :
    Calls Try.prog 91 #[.agg #[.slice A ts.length c, .int .i64 g, .slice B dn.length d], .int .i64 j] w (TNo w ts g dn (mkDo 5)) := by
  have H := Lib.hid h
  have HD := Lib.hid hd
  have hn := hd.len
  have hnb := right_n hr
  have hm := h.len
  have HG := Lib.hid hg
  have HI : Hid (in64 (j : Int)) := Lib.hid (by unfold in64; omega)
  have hl : ts.length ≤ 1048576 := by omega
  have hl2 : dn.length ≤ 1048576 := by omega
  have hgb := hnb.2.2.2.2
  have hs : wHas ts.length (j : Int) = true := by unfold wHas; simp; omega
  have HK := Lib.hid (askErr_ok hr hs)
  have HW : wGreat ts g dn.length j = decide (g < (ts.getD j tk0).hi - (ts.getD j tk0).lo) := by unfold wGreat tkAt; rw [hr, hs, Int.toNat_natCast]; rfl
  obtain ⟨b, off, rfl, hcc⟩ := Rd.tasks H.out (by omega)
  obtain ⟨y0, y1, y2, y3⟩ := hcc j hj
  have e0 : ts.getD j ⟨0, 0, 0, 0⟩ = ts.getD j tk0 := rfl
  rw [e0] at y0 y1 y2 y3
  obtain ⟨o1, o2, o3, o4, o5, o6, o7⟩ := tkOk_iff dn.length j (ts.getD j tk0) |>.1 (right_ok hr j hj)
  obtain ⟨⟨lo, hi, up, wt⟩, htk⟩ : ∃ x, ts.getD j tk0 = x := ⟨_, rfl⟩
  have HTK := Lib.hid htk
  rw [htk] at y0 y1 y2 y3 h3 o1 o2 o3 o4 o5 o6 o7 HW
  simp only at y0 y1 y2 y3 h3 o1 o2 o3 o4 o5 o6 o7 HW
  rw [ht] at HW
  have HGR : Hid (decide (g < hi - lo) = false) := Lib.hid HW.symm
  have HDD : Hid (in64 (hi - lo)) := Lib.hid (by unfold in64; omega)
  have Y0 := Lib.hid y0
  have Y1 := Lib.hid y1
  have Y2 := Lib.hid y2
  have Y3 := Lib.hid y3
  have hj1 : (j : Int) < ts.length := by omega
  have hj0 : (0 : Int) ≤ j := by omega
  have hlb : b < w.heap.size := World.block_lt_of_cell? _ _ y0
  have e3 : (wt != 0) = true := by simpa using h3
  clear h hd hg hr ht hs hcc e0 htk y0 y1 y2 y3 HW
  go_enter Try.func91, Try.ntmps91
  go_wp2_with fail
  have hP : PAt w (some ⟨b, off, none⟩) B c d dn.length ts.length g ((w.alloc (.cells #[.slice (some ⟨b, off, none⟩) ts.length c, .int .i64 g, .slice B dn.length d] 57)).alloc (.cells #[.slice none 0 0, .int .i64 0, .slice none 0 0] 57)) := Ext.refl _
  refine (copied_any _ _ _ _ _ _ _ _ (H.out.ext hP.ext) (HD.out.ext hP.ext) hl hl2).mono ?_
  rintro e w1 ⟨A1, c1, B1, d1, rfl, hO, hOD, hE⟩
  replace hP := hP.go hE
  have HO : Hid (Ow kTask (w.heap.size + 2) w1 (.slice A1 ts.length c1) ts) := Lib.hid (hO.mono (by simp))
  have HOD : Hid (Ow kBool (w.heap.size + 2) w1 (.slice B1 dn.length d1) dn) := Lib.hid (hOD.mono (by simp))
  have hV : VAt w (some ⟨b, off, none⟩) B c d dn.length ts.length g w1.heap.size A1 B1 c1 d1 (w1.alloc (.cells #[.slice A1 ts.length c1, .int .i64 g, .slice B1 dn.length d1] 57)) := VAt.start hP
  have HV0 := Lib.hid hV
  have HE1 : Hid (Ext w1 (w1.alloc (.cells #[.slice A1 ts.length c1, .int .i64 g, .slice B1 dn.length d1] 57))) := Lib.hid ((Ext.refl _).alloc _)
  obtain ⟨q0, q1, q2⟩ := hP.cells
  have k0 : w.heap.size < w1.heap.size := by have := hP.two; omega
  have k1 : w.heap.size + 1 < w1.heap.size := by have := hP.two; omega
  clear hO hOD hE hP hV
  go_wp2_with fail
  clear q0 q1 q2
  have hV := HV0.out
  refine (asked_any _ _ _ _ _ _ _ _ _ (H.out.ext hV.pat.ext) hn HG.out HI.out).mono ?_
  rintro e w2 ⟨he, hE⟩
  rw [HK.out] at he
  subst he
  replace hV := hV.go hE
  have HE2 := Lib.hid (HE1.out.trans hE)
  have HV := Lib.hid hV
  clear hE HV0 HE1
  obtain ⟨q0, q1, q2⟩ := hV.pat.cells
  obtain ⟨s0, s1, s2, s3⟩ := hV.pat.out
  obtain ⟨_, v0, v1, v2, v3, lv, gv⟩ := hV
  have l0 : w.heap.size < w2.heap.size := by omega
  have l1 : w.heap.size + 1 < w2.heap.size := by omega
  have l2 : w.heap.size < w2.heap.size + 1 := by omega
  have l3 : w.heap.size + 1 < w2.heap.size + 1 := by omega
  have l4 : w1.heap.size < w2.heap.size + 1 := by omega
  have n0 : ¬ w1.heap.size = w.heap.size := by omega
  have n1 : ¬ w1.heap.size = w.heap.size + 1 := by omega
  have n2 : ¬ w.heap.size + 1 = w1.heap.size := by omega
  have n3 : ¬ w.heap.size = w1.heap.size := by omega
  have z0 := HV.out.pat.ext.cell Y0.out
  have z1 := HV.out.pat.ext.cell Y1.out
  have z2 := HV.out.pat.ext.cell Y2.out
  have z3 := HV.out.pat.ext.cell Y3.out
  have lb0 : b < w2.heap.size := by omega
  have lb1 : b < w2.heap.size + 1 := by omega
  go_wp2_with fail
  have lv9 := lv
  clear q0 q1 q2 s0 s1 s2 s3 v0 v1 v2 v3 lv gv l0 l1 l2 l3 l4 n0 n1 n2 n3 z0 z1 z2 z3 lb0 lb1
  refine (great_any lo hi up wt g _ HDD.out HG.out).mono ?_
  rintro e w3 ⟨he, hE⟩
  rw [HGR.out] at he
  subst he
  have t0 : w3.cell? ⟨w2.heap.size, 0, none⟩ = some (.int .i64 lo) := hE.cell (by go_simp)
  have t1 : w3.cell? ⟨w2.heap.size, 1, none⟩ = some (.int .i64 hi) := hE.cell (by go_simp)
  have t2 : w3.cell? ⟨w2.heap.size, 2, none⟩ = some (.int .i64 up) := hE.cell (by go_simp)
  have t3 : w3.cell? ⟨w2.heap.size, 3, none⟩ = some (.int .i64 wt) := hE.cell (by go_simp)
  have hz := hE.size
  simp at hz
  have hE23 := ((Ext.refl w2).alloc _).trans hE
  have hV := HV.out.go hE23
  have HE3 := Lib.hid (HE2.out.trans hE23)
  have HV3 := Lib.hid hV
  clear hE hE23 HV HE2
  obtain ⟨q0, q1, q2⟩ := hV.pat.cells
  obtain ⟨s0, s1, s2, s3⟩ := hV.pat.out
  obtain ⟨_, v0, v1, v2, v3, lv, gv⟩ := hV
  have l0 : w.heap.size < w3.heap.size := by omega
  have l1 : w.heap.size + 1 < w3.heap.size := by omega
  have l2 : w.heap.size < w3.heap.size + 1 := by omega
  have l3 : w.heap.size + 1 < w3.heap.size + 1 := by omega
  have l4 : w1.heap.size < w3.heap.size + 1 := by omega
  have n0 : ¬ w1.heap.size = w.heap.size := by omega
  have n1 : ¬ w1.heap.size = w.heap.size + 1 := by omega
  have n2 : ¬ w.heap.size + 1 = w1.heap.size := by omega
  have n3 : ¬ w.heap.size = w1.heap.size := by omega
  have lt : w2.heap.size < w3.heap.size := by omega
  go_wp2_with fail
  have HVZ := HV3
  have HEZ := HE3
  refine bodyPost_ret (v := .tuple #[.agg #[.slice A1 ts.length c1, .int .i64 g, .slice B1 dn.length d1], .bool false, .int .i64 (5)]) (by simp [results, Try.results91, go_sem]; go_simp) rfl (TNo.of (mk := mkDo (5)) HVZ.out HO.out HOD.out HEZ.out _ _ _)

set_option maxHeartbeats 1600000 in
set_option maxRecDepth 100000 in
theorem pdo_done (A B : Option Addr) (c d : Nat) (ts : List Tk) (dn : List Bool) (g : Int) (j : Nat) (w : World) (h : Rd kTask w (.slice A ts.length c) ts) (hd : Rd kBool w (.slice B dn.length d) dn) (hg : in64 g) (hr : wRight ts g dn.length = true) (hj : j < ts.length) (ht : wGreat ts g dn.length j = false) (h3 : (ts.getD j tk0).wt = 0) (hdn : dn.getD (ts.getD j tk0).lo.toNat false = true) :
    Calls Try.prog 91 #[.agg #[.slice A ts.length c, .int .i64 g, .slice B dn.length d], .int .i64 j] w (TNo w ts g dn (mkDo 5)) := by
  have H := Lib.hid h
  have HD := Lib.hid hd
  have hn := hd.len
  have hnb := right_n hr
  have hm := h.len
  have HG := Lib.hid hg
  have HI : Hid (in64 (j : Int)) := Lib.hid (by unfold in64; omega)
  have hl : ts.length ≤ 1048576 := by omega
  have hl2 : dn.length ≤ 1048576 := by omega
  have hgb := hnb.2.2.2.2
  have hs : wHas ts.length (j : Int) = true := by unfold wHas; simp; omega
  have HK := Lib.hid (askErr_ok hr hs)
  have HW : wGreat ts g dn.length j = decide (g < (ts.getD j tk0).hi - (ts.getD j tk0).lo) := by unfold wGreat tkAt; rw [hr, hs, Int.toNat_natCast]; rfl
  obtain ⟨b, off, rfl, hcc⟩ := Rd.tasks H.out (by omega)
  obtain ⟨y0, y1, y2, y3⟩ := hcc j hj
  have e0 : ts.getD j ⟨0, 0, 0, 0⟩ = ts.getD j tk0 := rfl
  rw [e0] at y0 y1 y2 y3
  obtain ⟨o1, o2, o3, o4, o5, o6, o7⟩ := tkOk_iff dn.length j (ts.getD j tk0) |>.1 (right_ok hr j hj)
  obtain ⟨⟨lo, hi, up, wt⟩, htk⟩ : ∃ x, ts.getD j tk0 = x := ⟨_, rfl⟩
  have HTK := Lib.hid htk
  rw [htk] at y0 y1 y2 y3 h3 o1 o2 o3 o4 o5 o6 o7 HW
  simp only at y0 y1 y2 y3 h3 o1 o2 o3 o4 o5 o6 o7 HW
  rw [ht] at HW
  have HGR : Hid (decide (g < hi - lo) = false) := Lib.hid HW.symm
  have HDD : Hid (in64 (hi - lo)) := Lib.hid (by unfold in64; omega)
  have Y0 := Lib.hid y0
  have Y1 := Lib.hid y1
  have Y2 := Lib.hid y2
  have Y3 := Lib.hid y3
  have hj1 : (j : Int) < ts.length := by omega
  have hj0 : (0 : Int) ≤ j := by omega
  have hlb : b < w.heap.size := World.block_lt_of_cell? _ _ y0
  subst h3
  obtain ⟨L, rfl⟩ : ∃ L : Nat, lo = L := ⟨lo.toNat, by omega⟩
  obtain ⟨R, rfl⟩ : ∃ R : Nat, hi = R := ⟨hi.toNat, by omega⟩
  obtain ⟨bb, boff, rfl, hbc⟩ := Rd.bools HD.out (by omega)
  have z9 := hbc L (by omega)
  have hdL : dn.getD L false = true := by rw [HTK.out] at hdn; simpa using hdn
  rw [hdL] at z9
  have Z9 := Lib.hid z9
  have hL1 : (L : Int) < dn.length := by omega
  have hL0 : (0 : Int) ≤ L := by omega
  clear hbc z9 hdn hdL
  clear h hd hg hr ht hs hcc e0 htk y0 y1 y2 y3 HW
  go_enter Try.func91, Try.ntmps91
  go_wp2_with fail
  have hP : PAt w (some ⟨b, off, none⟩) (some ⟨bb, boff, none⟩) c d dn.length ts.length g ((w.alloc (.cells #[.slice (some ⟨b, off, none⟩) ts.length c, .int .i64 g, .slice (some ⟨bb, boff, none⟩) dn.length d] 57)).alloc (.cells #[.slice none 0 0, .int .i64 0, .slice none 0 0] 57)) := Ext.refl _
  refine (copied_any _ _ _ _ _ _ _ _ (H.out.ext hP.ext) (HD.out.ext hP.ext) hl hl2).mono ?_
  rintro e w1 ⟨A1, c1, B1, d1, rfl, hO, hOD, hE⟩
  replace hP := hP.go hE
  have HO : Hid (Ow kTask (w.heap.size + 2) w1 (.slice A1 ts.length c1) ts) := Lib.hid (hO.mono (by simp))
  have HOD : Hid (Ow kBool (w.heap.size + 2) w1 (.slice B1 dn.length d1) dn) := Lib.hid (hOD.mono (by simp))
  have hV : VAt w (some ⟨b, off, none⟩) (some ⟨bb, boff, none⟩) c d dn.length ts.length g w1.heap.size A1 B1 c1 d1 (w1.alloc (.cells #[.slice A1 ts.length c1, .int .i64 g, .slice B1 dn.length d1] 57)) := VAt.start hP
  have HV0 := Lib.hid hV
  have HE1 : Hid (Ext w1 (w1.alloc (.cells #[.slice A1 ts.length c1, .int .i64 g, .slice B1 dn.length d1] 57))) := Lib.hid ((Ext.refl _).alloc _)
  obtain ⟨q0, q1, q2⟩ := hP.cells
  have k0 : w.heap.size < w1.heap.size := by have := hP.two; omega
  have k1 : w.heap.size + 1 < w1.heap.size := by have := hP.two; omega
  clear hO hOD hE hP hV
  go_wp2_with fail
  clear q0 q1 q2
  have hV := HV0.out
  refine (asked_any _ _ _ _ _ _ _ _ _ (H.out.ext hV.pat.ext) hn HG.out HI.out).mono ?_
  rintro e w2 ⟨he, hE⟩
  rw [HK.out] at he
  subst he
  replace hV := hV.go hE
  have HE2 := Lib.hid (HE1.out.trans hE)
  have HV := Lib.hid hV
  clear hE HV0 HE1
  obtain ⟨q0, q1, q2⟩ := hV.pat.cells
  obtain ⟨s0, s1, s2, s3⟩ := hV.pat.out
  obtain ⟨_, v0, v1, v2, v3, lv, gv⟩ := hV
  have l0 : w.heap.size < w2.heap.size := by omega
  have l1 : w.heap.size + 1 < w2.heap.size := by omega
  have l2 : w.heap.size < w2.heap.size + 1 := by omega
  have l3 : w.heap.size + 1 < w2.heap.size + 1 := by omega
  have l4 : w1.heap.size < w2.heap.size + 1 := by omega
  have n0 : ¬ w1.heap.size = w.heap.size := by omega
  have n1 : ¬ w1.heap.size = w.heap.size + 1 := by omega
  have n2 : ¬ w.heap.size + 1 = w1.heap.size := by omega
  have n3 : ¬ w.heap.size = w1.heap.size := by omega
  have z0 := HV.out.pat.ext.cell Y0.out
  have z1 := HV.out.pat.ext.cell Y1.out
  have z2 := HV.out.pat.ext.cell Y2.out
  have z3 := HV.out.pat.ext.cell Y3.out
  have lb0 : b < w2.heap.size := by omega
  have lb1 : b < w2.heap.size + 1 := by omega
  go_wp2_with fail
  have lv9 := lv
  clear q0 q1 q2 s0 s1 s2 s3 v0 v1 v2 v3 lv gv l0 l1 l2 l3 l4 n0 n1 n2 n3 z0 z1 z2 z3 lb0 lb1
  refine (great_any L R up 0 g _ HDD.out HG.out).mono ?_
  rintro e w3 ⟨he, hE⟩
  rw [HGR.out] at he
  subst he
  have t0 : w3.cell? ⟨w2.heap.size, 0, none⟩ = some (.int .i64 L) := hE.cell (by go_simp)
  have t1 : w3.cell? ⟨w2.heap.size, 1, none⟩ = some (.int .i64 R) := hE.cell (by go_simp)
  have t2 : w3.cell? ⟨w2.heap.size, 2, none⟩ = some (.int .i64 up) := hE.cell (by go_simp)
  have t3 : w3.cell? ⟨w2.heap.size, 3, none⟩ = some (.int .i64 0) := hE.cell (by go_simp)
  have hz := hE.size
  simp at hz
  have hE23 := ((Ext.refl w2).alloc _).trans hE
  have hV := HV.out.go hE23
  have HE3 := Lib.hid (HE2.out.trans hE23)
  have HV3 := Lib.hid hV
  clear hE hE23 HV HE2
  obtain ⟨q0, q1, q2⟩ := hV.pat.cells
  obtain ⟨s0, s1, s2, s3⟩ := hV.pat.out
  obtain ⟨_, v0, v1, v2, v3, lv, gv⟩ := hV
  have l0 : w.heap.size < w3.heap.size := by omega
  have l1 : w.heap.size + 1 < w3.heap.size := by omega
  have l2 : w.heap.size < w3.heap.size + 1 := by omega
  have l3 : w.heap.size + 1 < w3.heap.size + 1 := by omega
  have l4 : w1.heap.size < w3.heap.size + 1 := by omega
  have n0 : ¬ w1.heap.size = w.heap.size := by omega
  have n1 : ¬ w1.heap.size = w.heap.size + 1 := by omega
  have n2 : ¬ w.heap.size + 1 = w1.heap.size := by omega
  have n3 : ¬ w.heap.size = w1.heap.size := by omega
  have lt : w2.heap.size < w3.heap.size := by omega
  have z9 := HV3.out.pat.ext.cell Z9.out
  go_wp2_with fail
  have HVZ := HV3
  have HEZ := HE3
  refine bodyPost_ret (v := .tuple #[.agg #[.slice A1 ts.length c1, .int .i64 g, .slice B1 dn.length d1], .bool false, .int .i64 (5)]) (by simp [results, Try.results91, go_sem]; go_simp) rfl (TNo.of (mk := mkDo (5)) HVZ.out HO.out HOD.out HEZ.out _ _ _)

set_option maxHeartbeats 1600000 in
set_option maxRecDepth 100000 in
theorem pdo_ok (A B : Option Addr) (c d : Nat) (ts : List Tk) (dn : List Bool) (g : Int) (j : Nat) (w : World) (h : Rd kTask w (.slice A ts.length c) ts) (hd : Rd kBool w (.slice B dn.length d) dn) (hg : in64 g) (hr : wRight ts g dn.length = true) (hj : j < ts.length) (ht : wGreat ts g dn.length j = false) (h3 : (ts.getD j tk0).wt = 0) (hdn : dn.getD (ts.getD j tk0).lo.toNat false = false) :
    Calls Try.prog 91 #[.agg #[.slice A ts.length c, .int .i64 g, .slice B dn.length d], .int .i64 j] w (DoSaid w ts g dn j) := by
  have HOK := Lib.hid (by have := hr; unfold wRight at this; rw [Bool.and_eq_true] at this; exact this.2 : wOkTo ts dn.length ts.length = true)
  have H := Lib.hid h
  have HD := Lib.hid hd
  have hn := hd.len
  have hnb := right_n hr
  have hm := h.len
  have HG := Lib.hid hg
  have HI : Hid (in64 (j : Int)) := Lib.hid (by unfold in64; omega)
  have hl : ts.length ≤ 1048576 := by omega
  have hl2 : dn.length ≤ 1048576 := by omega
  have hgb := hnb.2.2.2.2
  have hs : wHas ts.length (j : Int) = true := by unfold wHas; simp; omega
  have HK := Lib.hid (askErr_ok hr hs)
  have HW : wGreat ts g dn.length j = decide (g < (ts.getD j tk0).hi - (ts.getD j tk0).lo) := by unfold wGreat tkAt; rw [hr, hs, Int.toNat_natCast]; rfl
  obtain ⟨b, off, rfl, hcc⟩ := Rd.tasks H.out (by omega)
  obtain ⟨y0, y1, y2, y3⟩ := hcc j hj
  have e0 : ts.getD j ⟨0, 0, 0, 0⟩ = ts.getD j tk0 := rfl
  rw [e0] at y0 y1 y2 y3
  obtain ⟨o1, o2, o3, o4, o5, o6, o7⟩ := tkOk_iff dn.length j (ts.getD j tk0) |>.1 (right_ok hr j hj)
  obtain ⟨⟨lo, hi, up, wt⟩, htk⟩ : ∃ x, ts.getD j tk0 = x := ⟨_, rfl⟩
  have HTK := Lib.hid htk
  rw [htk] at y0 y1 y2 y3 h3 o1 o2 o3 o4 o5 o6 o7 HW
  simp only at y0 y1 y2 y3 h3 o1 o2 o3 o4 o5 o6 o7 HW
  rw [ht] at HW
  have HGR : Hid (decide (g < hi - lo) = false) := Lib.hid HW.symm
  have HDD : Hid (in64 (hi - lo)) := Lib.hid (by unfold in64; omega)
  have Y0 := Lib.hid y0
  have Y1 := Lib.hid y1
  have Y2 := Lib.hid y2
  have Y3 := Lib.hid y3
  have hj1 : (j : Int) < ts.length := by omega
  have hj0 : (0 : Int) ≤ j := by omega
  have hlb : b < w.heap.size := World.block_lt_of_cell? _ _ y0
  subst h3
  obtain ⟨L, rfl⟩ : ∃ L : Nat, lo = L := ⟨lo.toNat, by omega⟩
  obtain ⟨R, rfl⟩ : ∃ R : Nat, hi = R := ⟨hi.toNat, by omega⟩
  obtain ⟨bb, boff, rfl, hbc⟩ := Rd.bools HD.out (by omega)
  have z9 := hbc L (by omega)
  have hdL : dn.getD L false = false := by rw [HTK.out] at hdn; simpa using hdn
  rw [hdL] at z9
  have Z9 := Lib.hid z9
  have hL1 : (L : Int) < dn.length := by omega
  have hL0 : (0 : Int) ≤ L := by omega
  clear hbc z9 hdn hdL
  clear h hd hg hr ht hs hcc e0 htk y0 y1 y2 y3 HW
  go_enter Try.func91, Try.ntmps91
  go_wp2_with fail
  have hP : PAt w (some ⟨b, off, none⟩) (some ⟨bb, boff, none⟩) c d dn.length ts.length g ((w.alloc (.cells #[.slice (some ⟨b, off, none⟩) ts.length c, .int .i64 g, .slice (some ⟨bb, boff, none⟩) dn.length d] 57)).alloc (.cells #[.slice none 0 0, .int .i64 0, .slice none 0 0] 57)) := Ext.refl _
  refine (copied_any _ _ _ _ _ _ _ _ (H.out.ext hP.ext) (HD.out.ext hP.ext) hl hl2).mono ?_
  rintro e w1 ⟨A1, c1, B1, d1, rfl, hO, hOD, hE⟩
  replace hP := hP.go hE
  have HO : Hid (Ow kTask (w.heap.size + 2) w1 (.slice A1 ts.length c1) ts) := Lib.hid (hO.mono (by simp))
  have HOD : Hid (Ow kBool (w.heap.size + 2) w1 (.slice B1 dn.length d1) dn) := Lib.hid (hOD.mono (by simp))
  have hV : VAt w (some ⟨b, off, none⟩) (some ⟨bb, boff, none⟩) c d dn.length ts.length g w1.heap.size A1 B1 c1 d1 (w1.alloc (.cells #[.slice A1 ts.length c1, .int .i64 g, .slice B1 dn.length d1] 57)) := VAt.start hP
  have HV0 := Lib.hid hV
  have HE1 : Hid (Ext w1 (w1.alloc (.cells #[.slice A1 ts.length c1, .int .i64 g, .slice B1 dn.length d1] 57))) := Lib.hid ((Ext.refl _).alloc _)
  obtain ⟨q0, q1, q2⟩ := hP.cells
  have k0 : w.heap.size < w1.heap.size := by have := hP.two; omega
  have k1 : w.heap.size + 1 < w1.heap.size := by have := hP.two; omega
  clear hO hOD hE hP hV
  go_wp2_with fail
  clear q0 q1 q2
  have hV := HV0.out
  refine (asked_any _ _ _ _ _ _ _ _ _ (H.out.ext hV.pat.ext) hn HG.out HI.out).mono ?_
  rintro e w2 ⟨he, hE⟩
  rw [HK.out] at he
  subst he
  replace hV := hV.go hE
  have HE2 := Lib.hid (HE1.out.trans hE)
  have HV := Lib.hid hV
  clear hE HV0 HE1
  obtain ⟨q0, q1, q2⟩ := hV.pat.cells
  obtain ⟨s0, s1, s2, s3⟩ := hV.pat.out
  obtain ⟨_, v0, v1, v2, v3, lv, gv⟩ := hV
  have l0 : w.heap.size < w2.heap.size := by omega
  have l1 : w.heap.size + 1 < w2.heap.size := by omega
  have l2 : w.heap.size < w2.heap.size + 1 := by omega
  have l3 : w.heap.size + 1 < w2.heap.size + 1 := by omega
  have l4 : w1.heap.size < w2.heap.size + 1 := by omega
  have n0 : ¬ w1.heap.size = w.heap.size := by omega
  have n1 : ¬ w1.heap.size = w.heap.size + 1 := by omega
  have n2 : ¬ w.heap.size + 1 = w1.heap.size := by omega
  have n3 : ¬ w.heap.size = w1.heap.size := by omega
  have z0 := HV.out.pat.ext.cell Y0.out
  have z1 := HV.out.pat.ext.cell Y1.out
  have z2 := HV.out.pat.ext.cell Y2.out
  have z3 := HV.out.pat.ext.cell Y3.out
  have lb0 : b < w2.heap.size := by omega
  have lb1 : b < w2.heap.size + 1 := by omega
  go_wp2_with fail
  have lv9 := lv
  clear q0 q1 q2 s0 s1 s2 s3 v0 v1 v2 v3 lv gv l0 l1 l2 l3 l4 n0 n1 n2 n3 z0 z1 z2 z3 lb0 lb1
  refine (great_any L R up 0 g _ HDD.out HG.out).mono ?_
  rintro e w3 ⟨he, hE⟩
  rw [HGR.out] at he
  subst he
  have t0 : w3.cell? ⟨w2.heap.size, 0, none⟩ = some (.int .i64 L) := hE.cell (by go_simp)
  have t1 : w3.cell? ⟨w2.heap.size, 1, none⟩ = some (.int .i64 R) := hE.cell (by go_simp)
  have t2 : w3.cell? ⟨w2.heap.size, 2, none⟩ = some (.int .i64 up) := hE.cell (by go_simp)
  have t3 : w3.cell? ⟨w2.heap.size, 3, none⟩ = some (.int .i64 0) := hE.cell (by go_simp)
  have hz := hE.size
  simp at hz
  have hE23 := ((Ext.refl w2).alloc _).trans hE
  have hV := HV.out.go hE23
  have HE3 := Lib.hid (HE2.out.trans hE23)
  have HV3 := Lib.hid hV
  clear hE hE23 HV HE2
  obtain ⟨q0, q1, q2⟩ := hV.pat.cells
  obtain ⟨s0, s1, s2, s3⟩ := hV.pat.out
  obtain ⟨_, v0, v1, v2, v3, lv, gv⟩ := hV
  have l0 : w.heap.size < w3.heap.size := by omega
  have l1 : w.heap.size + 1 < w3.heap.size := by omega
  have l2 : w.heap.size < w3.heap.size + 1 := by omega
  have l3 : w.heap.size + 1 < w3.heap.size + 1 := by omega
  have l4 : w1.heap.size < w3.heap.size + 1 := by omega
  have n0 : ¬ w1.heap.size = w.heap.size := by omega
  have n1 : ¬ w1.heap.size = w.heap.size + 1 := by omega
  have n2 : ¬ w.heap.size + 1 = w1.heap.size := by omega
  have n3 : ¬ w.heap.size = w1.heap.size := by omega
  have lt : w2.heap.size < w3.heap.size := by omega
  have z9 := HV3.out.pat.ext.cell Z9.out
  go_wp2_with fail
  obtain ⟨ga, rfl, ga1, ga2, ga3, ga4⟩ := Ow.pos HO.out (by omega)
  obtain ⟨gb, rfl, gb1, gb2, gb3, gb4⟩ := Ow.pos HOD.out (by omega)
  have hgab : ga ≠ gb := fun h => by have := Ow.far (by decide) HO.out HOD.out ga rfl; rw [h] at this; exact this rfl
  have hD0 : DAt w w3 (w.heap.size + 2) ga gb c1 d1 w3 ts (marked dn L L) := ⟨fun _ _ _ _ _ => rfl, fun _ _ _ _ _ => rfl, HO.out.ext HE3.out, by rw [marked_none]; exact HOD.out.ext HE3.out, HV3.out.pat.ext⟩
  have HD0 := Lib.hid hD0
  have X := Lib.hid (And.intro v0 (And.intro v1 (And.intro v2 (And.intro t1 t2))))
  have S0 := Lib.hid (And.intro s0 (And.intro s1 (And.intro s2 s3)))
  have HN : Hid ((w1.heap.size ≠ ga ∧ w1.heap.size ≠ gb ∧ w2.heap.size ≠ ga ∧ w2.heap.size ≠ gb) ∧ (w.heap.size + 1 ≠ ga ∧ w.heap.size + 1 ≠ gb)) := Lib.hid ⟨⟨by omega, by omega, by omega, by omega⟩, by omega, by omega⟩
  have HSZ : Hid (w1.heap.size < w3.heap.size ∧ w2.heap.size < w3.heap.size ∧ w.heap.size + 2 ≤ w1.heap.size ∧ w.heap.size + 2 ≤ ga ∧ w.heap.size + 2 ≤ gb ∧ w1.heap.size < w2.heap.size) := Lib.hid ⟨lv, lt, gv, ga1, gb1, lv9⟩
  clear hD0 ga3 ga4 gb3 gb4 ga2 gb2 q0 q1 q2 s0 s1 s2 s3 v0 v1 v2 v3 lv gv l0 l1 l2 l3 l4 n0 n1 n2 n3 t0 t1 t2 t3 z9 lt lv9 hz
  go_loopw [10] (fun i wr => ∃ k : Nat, L ≤ k ∧ k ≤ R ∧ i = .int .i64 k ∧ DAt w w3 (w.heap.size + 2) ga gb c1 d1 wr ts (marked dn L k)) (fun i _ => R - (intOf i).toNat)
  case atStart => exact ⟨L, Nat.le_refl _, by omega, rfl, HD0.out⟩
  case round =>
    obtain ⟨k, hk1, hk2, rfl, hA⟩ := hrel
    have m0 := hA.cell X.out.1 HN.out.1.1 HN.out.1.2.1
    have m1 := hA.cell X.out.2.1 HN.out.1.1 HN.out.1.2.1
    have m2 := hA.cell X.out.2.2.1 HN.out.1.1 HN.out.1.2.1
    have m3 := hA.cell X.out.2.2.2.1 HN.out.1.2.2.1 HN.out.1.2.2.2
    have m4 := hA.cell X.out.2.2.2.2 HN.out.1.2.2.1 HN.out.1.2.2.2
    have HA := Lib.hid hA
    by_cases hlt : k < R
    · have hlt1 : (k : Int) < R := by omega
      have hkl : (k : Int) < dn.length := by omega
      have hk0 : (0 : Int) ≤ k := by omega
      have hml : (marked dn L k).length = dn.length := marked_len dn L k hk1 (by omega)
      obtain ⟨n0, n1⟩ := hA.unit (k := k) (by omega)
      have hN := hA.mark (k := k) (by omega) (by omega) hgab
      rw [← marked_succ dn L k hk1 (by omega)] at hN
      have HNN := Lib.hid hN
      clear hA hN hml
      go_wp2_with fail
      go_roundw
      case rel => exact ⟨k + 1, by omega, by omega, by go_num, HNN.out⟩
      case measure => simp [intOf]; omega
    · have hkr : k = R := by omega
      have hlt1 : ¬ (k : Int) < R := by omega
      subst hkr
      have hml : (marked dn L k).length = dn.length := marked_len dn L k hk1 (by omega)
      have hlo : (ts.getD j tk0).lo = L := by rw [HTK.out]
      have hhi : (ts.getD j tk0).hi = k := by rw [HTK.out]
      have hupj : (ts.getD j tk0).up = up := by rw [HTK.out]
      have HM := Lib.hid (And.intro hml (And.intro hlo (And.intro hhi hupj)))
      have sz1 : w1.heap.size < wr.heap.size := World.block_lt_of_cell? _ _ m0
      have sz2 : w2.heap.size < wr.heap.size := World.block_lt_of_cell? _ _ m3
      have sz3 : w.heap.size + 1 < wr.heap.size := by have := HSZ.out; omega
      have N1 := HN.out
      have u0 := hA.cell S0.out.1 HN.out.2.1 HN.out.2.2
      have u1 := hA.cell S0.out.2.1 HN.out.2.1 HN.out.2.2
      have u2 := hA.cell S0.out.2.2.1 HN.out.2.1 HN.out.2.2
      have u3 : ∀ o, wr.frozen? ⟨w.heap.size + 1, o, none⟩ = false := fun o => (hA.fro (w.heap.size + 1) o (by have := HSZ.out; omega) HN.out.2.1 HN.out.2.2).trans (S0.out.2.2.2 o)
      have f1 : ¬ w1.heap.size = w.heap.size + 1 := by have := HSZ.out; omega
      have f2 : ¬ w2.heap.size = w.heap.size + 1 := by have := HSZ.out; omega
      have f3 : ¬ w.heap.size + 1 = w1.heap.size := by have := HSZ.out; omega
      have f4 : ¬ w.heap.size + 1 = w2.heap.size := by have := HSZ.out; omega
      have hup2 : up < ts.length := by omega
      have hts : ts.length ≤ 2000 := by omega
      clear hA hml hlo hhi hupj
      go_wp2_with fail
      go_region_held3 (fun w' => w'.cell? ⟨w1.heap.size, 0, none⟩ = some (.slice (some ⟨ga, 0, none⟩) ts.length c1) ∧ w'.cell? ⟨w1.heap.size, 1, none⟩ = some (.int .i64 g) ∧ w'.cell? ⟨w1.heap.size, 2, none⟩ = some (.slice (some ⟨gb, 0, none⟩) dn.length d1) ∧ w'.cell? ⟨w2.heap.size, 2, none⟩ = some (.int .i64 up))
        (first | go_keep | (with_reducible exact ⟨c11, c12, c13, c14⟩))
        (first
          | (go_at_call 97
             refine (finish_any (w.heap.size + 2) ga c1 dn.length ts up _ (HA.out.own.ext (Ext.refl _).drew) HOK.out o4 hup2 hts).mono ?_
             rintro e w5 ⟨rfl, hF⟩
             have c11 : w5.cell? ⟨w1.heap.size, 0, none⟩ = some (.slice (some ⟨ga, 0, none⟩) ts.length c1) := ((grown_far hF.grow (b := w1.heap.size) (by first | exact sz1 | (simp; exact sz1)) (by simp; exact N1.1.1)).1 0).trans (by go_simp)
             have c12 : w5.cell? ⟨w1.heap.size, 1, none⟩ = some (.int .i64 g) := ((grown_far hF.grow (b := w1.heap.size) (by first | exact sz1 | (simp; exact sz1)) (by simp; exact N1.1.1)).1 1).trans (by go_simp)
             have c13 : w5.cell? ⟨w1.heap.size, 2, none⟩ = some (.slice (some ⟨gb, 0, none⟩) dn.length d1) := ((grown_far hF.grow (b := w1.heap.size) (by first | exact sz1 | (simp; exact sz1)) (by simp; exact N1.1.1)).1 2).trans (by go_simp)
             have c14 : w5.cell? ⟨w2.heap.size, 2, none⟩ = some (.int .i64 up) := ((grown_far hF.grow (b := w2.heap.size) (by first | exact sz2 | (simp; exact sz2)) (by simp; exact N1.1.2.2.1)).1 2).trans (by go_simp)
             obtain ⟨G1, G2⟩ := grown_far hF.grow (b := w.heap.size + 1) (by first | exact sz3 | (simp; exact sz3)) (by simp; exact N1.2.1)
             have r0 : w5.cell? ⟨w.heap.size + 1, 0, none⟩ = some (.slice none 0 0) := (G1 0).trans (by go_simp)
             have r1 : w5.cell? ⟨w.heap.size + 1, 1, none⟩ = some (.int .i64 0) := (G1 1).trans (by go_simp)
             have r2 : w5.cell? ⟨w.heap.size + 1, 2, none⟩ = some (.slice none 0 0) := (G1 2).trans (by go_simp)
             have r3 : ∀ o, w5.frozen? ⟨w.heap.size + 1, o, none⟩ = false := fun o => (G2 o).trans (by have := u3 o; go_simp)))
      go_wp2_with fail
      have hcl : (climb (ts.length + 1) ts up).1.length = ts.length := climb_len _ _ _
      have ho := hF.own
      rw [hcl] at ho
      have hd5 := (HA.out.dns.ext (Ext.refl _).drew).kept hF.grow (.inr (by simp [Value.ownBlock]; omega))
      rw [HM.out.1] at hd5
      have hx5 : Ext w w5 := HA.out.ext.drew.grown hF.grow (by intro k hk; cases hk; have := HSZ.out; omega)
      refine bodyPost_ret (v := .tuple #[.agg #[.slice (some ⟨ga, 0, none⟩) ts.length c1, .int .i64 g, .slice (some ⟨gb, 0, none⟩) dn.length d1], .bool (climb (ts.length + 1) ts up).2, .int .i64 0]) (by simp [results, Try.results91, go_sem]; go_simp) rfl ⟨_, _, _, _, by rw [HM.out.2.2.2], ?_, ?_, ho.from.mono (by omega), hd5.from.mono (by omega), ?_⟩
      · rw [HM.out.2.2.2]
        exact (((ho.setBelow (p := ⟨w.heap.size + 1, 0, none⟩) (by show w.heap.size + 1 < _; omega) _).setBelow (p := ⟨w.heap.size + 1, 1, none⟩) (by show w.heap.size + 1 < _; omega) _).setBelow (p := ⟨w.heap.size + 1, 2, none⟩) (by show w.heap.size + 1 < _; omega) _).rd
      · rw [HM.out.2.1, HM.out.2.2.1, Int.toNat_natCast, Int.toNat_natCast]
        exact (((hd5.setBelow (p := ⟨w.heap.size + 1, 0, none⟩) (by show w.heap.size + 1 < _; omega) _).setBelow (p := ⟨w.heap.size + 1, 1, none⟩) (by show w.heap.size + 1 < _; omega) _).setBelow (p := ⟨w.heap.size + 1, 2, none⟩) (by show w.heap.size + 1 < _; omega) _).rd
      · exact ((hx5.setCell (p := ⟨w.heap.size + 1, 0, none⟩) (by show _ ≤ w.heap.size + 1; omega) _).setCell (p := ⟨w.heap.size + 1, 1, none⟩) (by show _ ≤ w.heap.size + 1; omega) _).setCell (p := ⟨w.heap.size + 1, 2, none⟩) (by show _ ≤ w.heap.size + 1; omega) _

theorem pdo_any (A B : Option Addr) (c d : Nat) (ts : List Tk) (dn : List Bool) (g i : Int) (w : World) (h : Rd kTask w (.slice A ts.length c) ts) (hd : Rd kBool w (.slice B dn.length d) dn) (hg : in64 g) (hi : in64 i) (hl : ts.length ≤ 1048576) (hl2 : dn.length ≤ 1048576) :
    Calls Try.prog 91 #[.agg #[.slice A ts.length c, .int .i64 g, .slice B dn.length d], .int .i64 i] w fun e w' =>
      (doErr ts g dn i ≠ 0 ∧ TNo w ts g dn (mkDo (doErr ts g dn i)) e w') ∨ (doErr ts g dn i = 0 ∧ DoSaid w ts g dn i.toNat e w') := by
  by_cases ha : askErr ts g dn.length i = 0
  · obtain ⟨hr, hs⟩ := askErr_zero ha
    have hsi : 0 ≤ i ∧ i < (ts.length : Int) := by unfold wHas at hs; simpa using hs
    obtain ⟨j, rfl⟩ : ∃ j : Nat, i = j := ⟨i.toNat, by omega⟩
    have hj : j < ts.length := by omega
    have e0 : tkAt ts (j : Int) = ts.getD j tk0 := by unfold tkAt; rw [Int.toNat_natCast]
    cases ht : wGreat ts g dn.length j with
    | true =>
      have he : doErr ts g dn (j : Int) = 5 := by unfold doErr; rw [if_neg (by rw [hr]; decide), if_neg (by rw [hs]; decide), if_pos ht]
      rw [he]
      exact (pdo_great A B c d ts dn g j w h hd hg hr hj ht).mono fun e w' hh => .inl ⟨by decide, hh⟩
    | false =>
      by_cases hw : (ts.getD j tk0).wt = 0
      · cases hf : dn.getD (ts.getD j tk0).lo.toNat false with
        | true =>
          have he : doErr ts g dn (j : Int) = 5 := by unfold doErr; rw [if_neg (by rw [hr]; decide), if_neg (by rw [hs]; decide), if_neg (by rw [ht]; decide), e0, if_neg (by simpa using hw), if_pos hf]
          rw [he]
          exact (pdo_done A B c d ts dn g j w h hd hg hr hj ht hw hf).mono fun e w' hh => .inl ⟨by decide, hh⟩
        | false =>
          have he : doErr ts g dn (j : Int) = 0 := by unfold doErr; rw [if_neg (by rw [hr]; decide), if_neg (by rw [hs]; decide), if_neg (by rw [ht]; decide), e0, if_neg (by simpa using hw), if_neg (by rw [hf]; decide)]
          rw [he]
          exact (pdo_ok A B c d ts dn g j w h hd hg hr hj ht hw hf).mono fun e w' hh => .inr ⟨rfl, by rw [Int.toNat_natCast]; exact hh⟩
      · skip
        have he : doErr ts g dn (j : Int) = 5 := by unfold doErr; rw [if_neg (by rw [hr]; decide), if_neg (by rw [hs]; decide), if_neg (by rw [ht]; decide), e0, if_pos hw]
        rw [he]
        exact (pdo_wait A B c d ts dn g j w h hd hg hr hj ht hw).mono fun e w' hh => .inl ⟨by decide, hh⟩
  · have he : doErr ts g dn i = askErr ts g dn.length i := by
      unfold doErr
      unfold askErr at ha ⊢
      cases hr : wRight ts g dn.length with
      | false => rfl
      | true =>
        cases hs : wHas ts.length i with
        | false => rfl
        | true => rw [hr, hs] at ha; exact absurd rfl ha
    rw [he]
    exact (pdo_no A B c d ts dn g i w h hd hg hi hl hl2 ha).mono fun e w' hh => .inl ⟨ha, hh⟩
end Go.Proofs.Ytbedfjbnafflfaa

/- The document's Begin of work. -/
namespace Go.Proofs.Ytbedfjbnafflfaa
open Go.RowKit Go.Proofs.Ytbedfjbnafflfaa.Plain

/-- what Begin leaves -/
def BeginSaid (w : World) (n g : Int) (e : Ending) (w' : World) : Prop :=
  (cOk n g = false ∧ e = .returned (.tuple #[.agg #[.slice none 0 0, .int .i64 0, .slice none 0 0], .int .i64 1]) ∧ Ext w w') ∨
  (cOk n g = true ∧ ∃ A c B d, e = .returned (.tuple #[.agg #[.slice A 1 c, .int .i64 g, .slice B n.toNat d], .int .i64 0]) ∧
    Rd kTask w' (.slice A 1 c) [⟨0, n, -1, 0⟩] ∧ Rd kBool w' (.slice B n.toNat d) (List.replicate n.toNat false) ∧ Ext w w')

set_option maxHeartbeats 800000 in
set_option maxRecDepth 100000 in
theorem rbegin_any (n g : Int) (w : World) (hn : in64 n) (hg : in64 g) :
    Calls Try.prog 52 #[.int .i64 n, .int .i64 g] w (BeginSaid w n g) := by
  unfold in64 at hn hg
  cases hc : cOk n g with
  | false =>
    have HC := Lib.hid hc
    have h : n < 1 ∨ 1000 < n ∨ g < 1 ∨ 100 < g := by
      have : ¬ (1 ≤ n ∧ n ≤ 1000 ∧ 1 ≤ g ∧ g ≤ 100) := fun hh => by
        have : cOk n g = true := by unfold cOk; simp; omega
        rw [this] at hc; cases hc
      omega
    clear hc
    go_enter Try.func52, Try.ntmps52
    go_wp2
    all_goals first
      | (exfalso; omega)
      | (refine bodyPost_ret (v := .tuple #[.agg #[.slice none 0 0, .int .i64 0, .slice none 0 0], .int .i64 1]) (by simp [results, Try.results52, go_sem]) rfl (.inl ⟨HC.out, rfl, ?_⟩); exact (Ext.refl w).alloc _)
  | true =>
    have HC := Lib.hid hc
    obtain ⟨a1, a2, a3, a4⟩ : 1 ≤ n ∧ n ≤ 1000 ∧ 1 ≤ g ∧ g ≤ 100 := by unfold cOk at hc; simp only [Bool.and_eq_true, decide_eq_true_eq] at hc; omega
    obtain ⟨N, rfl⟩ : ∃ N : Nat, n = N := ⟨n.toNat, by omega⟩
    clear hc
    obtain ⟨C, hmk, hown⟩ := kBool.make false rfl trivial N (by omega)
    have hmk' : ∀ w : World, (Instr.makeSlice 23 (.int .i64 N) (.int .i64 N)).run Try.prog w = .ok (.slice (some ⟨w.heap.size, 0, none⟩) N N) (w.alloc (.cells C 4)) := hmk
    have HO := Lib.hid hown
    clear hmk hown
    go_enter Try.func52, Try.ntmps52
    go_wp2
    refine bodyPost_ret (v := .tuple #[.agg #[.slice (some ⟨w.heap.size + 1, 0, none⟩) 1 1, .int .i64 g, .slice (some ⟨w.heap.size + 1 + 1, 0, none⟩) N N], .int .i64 0]) (by simp [results, Try.results52, go_sem]) rfl (.inr ⟨HC.out, _, 1, _, N, rfl, ?_, ?_, ?_⟩)
    · exact (Ow.lit (K := kTask) (B := 0) (p := w.heap.size + 1) _ [⟨0, N, -1, 0⟩] #[.int .i64 0, .int .i64 N, .int .i64 (-1), .int .i64 0] rfl rfl (by simp) (Nat.zero_le _) (by simp [maxLen]) (by intro x hx; simp only [List.mem_singleton] at hx; subst hx; exact tk_ok (by unfold in64; omega) (by unfold in64; omega) (by unfold in64; omega) (by unfold in64; omega))).rd.ext ((Ext.refl _).alloc _)
    · exact (HO.out _ 0 (w.heap.size + 1 + 1) (by simp) (Nat.zero_le _)).rd
    · exact (((Ext.refl w).alloc _).alloc _).alloc _
end Go.Proofs.Ytbedfjbnafflfaa

/- The program's Begin of work. -/
namespace Go.Proofs.Ytbedfjbnafflfaa
open Go.BigFrame
open Go.RowKit Go.Proofs.Ytbedfjbnafflfaa.Plain

set_option maxHeartbeats 1600000 in
set_option maxRecDepth 100000 in
theorem pbegin_any (n g : Int) (w : World) (hn : in64 n) (hg : in64 g) :
    Calls Try.prog 49 #[.int .i64 n, .int .i64 g] w (BeginSaid w n g) := by
  have HN := Lib.hid hn
  have HG := Lib.hid hg
  cases hc : cOk n g with
  | false =>
    have HC := Lib.hid hc
    clear hc hn hg
    go_enter Try.func49, Try.ntmps49
    go_wp2_with fail
    refine (sized_any _ _ _ HN.out HG.out).mono ?_
    rintro e w1 ⟨he, rfl⟩
    rw [HC.out] at he
    subst he
    go_wp2_with fail
    refine bodyPost_ret (v := .tuple #[.agg #[.slice none 0 0, .int .i64 0, .slice none 0 0], .int .i64 1]) (by simp [results, Try.results49, go_sem]) rfl (.inl ⟨HC.out, rfl, ?_⟩)
    first
    | exact (Ext.refl w).alloc _
    | exact ((((Ext.refl w).alloc _).setCell (by simp) _).setCell (by simp) _).setCell (by simp) _
  | true =>
    have HC := Lib.hid hc
    obtain ⟨a1, a2, a3, a4⟩ : 1 ≤ n ∧ n ≤ 1000 ∧ 1 ≤ g ∧ g ≤ 100 := by unfold cOk at hc; simp only [Bool.and_eq_true, decide_eq_true_eq] at hc; omega
    obtain ⟨N, rfl⟩ : ∃ N : Nat, n = N := ⟨n.toNat, by omega⟩
    clear hc hn hg
    obtain ⟨C, hmk, hown⟩ := kBool.make false rfl trivial N (by omega)
    have hmk' : ∀ w : World, (Instr.makeSlice 23 (.int .i64 N) (.int .i64 N)).run Try.prog w = .ok (.slice (some ⟨w.heap.size, 0, none⟩) N N) (w.alloc (.cells C 4)) := hmk
    have HO := Lib.hid hown
    clear hmk hown
    go_enter Try.func49, Try.ntmps49
    go_wp2_with fail
    refine (sized_any _ _ _ HN.out HG.out).mono ?_
    rintro e w1 ⟨he, rfl⟩
    rw [HC.out] at he
    subst he
    go_wp2_with fail
    go_region
    all_goals (try go_wp2)
    · refine bodyPost_ret (v := .tuple #[.agg #[.slice (some ⟨w.heap.size + 1 + 1, 0, none⟩) 1 1, .int .i64 g, .slice (some ⟨w.heap.size + 1 + 1 + 1, 0, none⟩) N N], .int .i64 0]) (by simp [results, Try.results49, go_sem]) rfl (.inr ⟨HC.out, _, 1, _, N, rfl, ?_, ?_, ?_⟩)
      · exact (Ow.lit (K := kTask) (B := 0) (p := w.heap.size + 1 + 1) _ [⟨0, N, -1, 0⟩] #[.int .i64 0, .int .i64 N, .int .i64 (-1), .int .i64 0] rfl rfl (by simp) (Nat.zero_le _) (by simp [maxLen]) (by intro x hx; simp only [List.mem_singleton] at hx; subst hx; exact tk_ok (by unfold in64; omega) (by unfold in64; omega) (by unfold in64; omega) (by unfold in64; omega))).rd.ext ((Ext.refl _).alloc _).drew
      · exact (HO.out _ 0 (w.heap.size + 1 + 1 + 1) (by simp) (Nat.zero_le _)).rd.ext (Ext.refl _).drew
      · exact (((((Ext.refl w).alloc _).alloc _).alloc _).alloc _).drew
    · refine bodyPost_ret (v := .tuple #[.agg #[.slice (some ⟨w.heap.size + 1 + 1 + 1, 0, none⟩) 1 1, .int .i64 g, .slice (some ⟨w.heap.size + 1 + 1, 0, none⟩) N N], .int .i64 0]) (by simp [results, Try.results49, go_sem]) rfl (.inr ⟨HC.out, _, 1, _, N, rfl, ?_, ?_, ?_⟩)
      · exact (Ow.lit (K := kTask) (B := 0) (p := w.heap.size + 1 + 1 + 1) _ [⟨0, N, -1, 0⟩] #[.int .i64 0, .int .i64 N, .int .i64 (-1), .int .i64 0] rfl rfl (by simp) (Nat.zero_le _) (by simp [maxLen]) (by intro x hx; simp only [List.mem_singleton] at hx; subst hx; exact tk_ok (by unfold in64; omega) (by unfold in64; omega) (by unfold in64; omega) (by unfold in64; omega))).rd.ext (Ext.refl _).drew
      · exact (HO.out _ 0 (w.heap.size + 1 + 1) (by simp) (Nat.zero_le _)).rd.ext ((Ext.refl _).alloc _).drew
      · exact (((((Ext.refl w).alloc _).alloc _).alloc _).alloc _).drew
end Go.Proofs.Ytbedfjbnafflfaa

/- The fixed fact of the work's statements: calls with answers named. Written by wip/mk_talive.py. -/
namespace Go.Proofs.Ytbedfjbnafflfaa
open Go.BigFrame
open Go.RowKit Go.Proofs.Ytbedfjbnafflfaa.Plain

theorem Rd.set3 {α : Type} {K : Kd α} {w : World} {A : Option Addr} {n c V : Nat} {xs : List α} (h : Rd K w (.slice A n c) xs) (hA : From (V + 1) A) (x y z : Value) :
    Rd K (((w.setCell ⟨V, 0, none⟩ x).setCell ⟨V, 1, none⟩ y).setCell ⟨V, 2, none⟩ z) (.slice A n c) xs :=
  ((h.setFar (p := ⟨V, 0, none⟩) (fun a ha => by have := hA a ha; show a.block ≠ V; omega) _).setFar (p := ⟨V, 1, none⟩) (fun a ha => by have := hA a ha; show a.block ≠ V; omega) _).setFar (p := ⟨V, 2, none⟩) (fun a ha => by have := hA a ha; show a.block ≠ V; omega) _
theorem Ext.set3 {w W : World} (h : Ext w W) {V : Nat} (hV : w.heap.size ≤ V) (x y z : Value) : Ext w (((W.setCell ⟨V, 0, none⟩ x).setCell ⟨V, 1, none⟩ y).setCell ⟨V, 2, none⟩ z) :=
  ((h.setCell (p := ⟨V, 0, none⟩) hV _).setCell (p := ⟨V, 1, none⟩) hV _).setCell (p := ⟨V, 2, none⟩) hV _

theorem Rd.lt {α : Type} {K : Kd α} {w : World} {A : Option Addr} {n c : Nat} {xs : List α} (h : Rd K w (.slice A n c) xs) (hl : 0 < xs.length) : ∀ a, A = some a → a.block < w.heap.size := by
  obtain ⟨b, off, rfl, hcc⟩ := h.cells hl
  intro a ha
  cases ha
  have hn : 0 < (K.cells (xs.getD 0 K.d)).length := by rw [K.len]; exact K.pos
  have h9 := hcc 0 hl 0 _ (List.getElem?_eq_getElem hn)
  have h8 := World.block_lt_of_cell? _ _ h9
  exact h8

theorem begin_to (n g : Int) (N : Nat) (w : World) (hn : in64 n) (hg : in64 g) (hc : cOk n g = true) (hN : n.toNat = N) :
    Calls Try.prog 49 #[.int .i64 n, .int .i64 g] w fun e w' => ∃ A c B d, e = .returned (.tuple #[.agg #[.slice A 1 c, .int .i64 g, .slice B N d], .int .i64 0]) ∧
      Rd kTask w' (.slice A 1 c) [⟨0, n, -1, 0⟩] ∧ Rd kBool w' (.slice B N d) (List.replicate N false) ∧ Ext w w' :=
  (pbegin_any n g w hn hg).mono fun e w' h => by
    subst hN
    rcases h with ⟨h, _⟩ | ⟨_, h⟩
    · rw [hc] at h; cases h
    · exact h

theorem part_to (A B : Option Addr) (c d m k m' : Nat) (ts ts' : List Tk) (dn : List Bool) (g i a b : Int) (w : World) (h : Rd kTask w (.slice A m c) ts) (hd : Rd kBool w (.slice B k d) dn) (hm : ts.length = m) (hk : dn.length = k) (hg : in64 g) (hi : in64 i) (hl : m ≤ 1048576) (hl2 : k ≤ 1048576)
    (he : partErr ts g k i = 0) (ht : partedTs ts i.toNat = ts') (hm' : ts'.length = m') (ha : (ts.length : Int) = a) (hb : (ts.length : Int) + 1 = b) :
    Calls Try.prog 90 #[.agg #[.slice A m c, .int .i64 g, .slice B k d], .int .i64 i] w fun e w' => ∃ A c B d, e = .returned (.tuple #[.agg #[.slice A m' c, .int .i64 g, .slice B k d], .int .i64 a, .int .i64 b, .int .i64 0]) ∧
      Rd kTask w' (.slice A m' c) ts' ∧ Rd kBool w' (.slice B k d) dn ∧ From w.heap.size A ∧ From w.heap.size B ∧ Ext w w' := by
  subst hm hk ht hm' ha hb
  exact (ppart_any A B c d ts dn g i w h hd hg hi hl hl2).mono fun e w' hh => by
    rcases hh with ⟨hh, _⟩ | ⟨_, hh⟩
    · exact absurd he hh
    · exact hh

theorem do_to (A B : Option Addr) (c d m k : Nat) (ts ts' : List Tk) (dn dn' : List Bool) (g i : Int) (q : Bool) (w : World) (h : Rd kTask w (.slice A m c) ts) (hd : Rd kBool w (.slice B k d) dn) (hm : ts.length = m) (hk : dn.length = k) (hg : in64 g) (hi : in64 i) (hl : m ≤ 1048576) (hl2 : k ≤ 1048576)
    (he : doErr ts g dn i = 0) (hc : climb (ts.length + 1) ts (ts.getD i.toNat tk0).up = (ts', q)) (hq : marked dn (ts.getD i.toNat tk0).lo.toNat (ts.getD i.toNat tk0).hi.toNat = dn') :
    Calls Try.prog 91 #[.agg #[.slice A m c, .int .i64 g, .slice B k d], .int .i64 i] w fun e w' => ∃ A c B d, e = .returned (.tuple #[.agg #[.slice A m c, .int .i64 g, .slice B k d], .bool q, .int .i64 0]) ∧
      Rd kTask w' (.slice A m c) ts' ∧ Rd kBool w' (.slice B k d) dn' ∧ From w.heap.size A ∧ From w.heap.size B ∧ Ext w w' := by
  subst hm hk hq
  exact (pdo_any A B c d ts dn g i w h hd hg hi hl hl2).mono fun e w' hh => by
    rcases hh with ⟨hh, _⟩ | ⟨_, hh⟩
    · exact absurd he hh
    · unfold DoSaid at hh; rw [hc] at hh; exact hh

theorem do_no (A B : Option Addr) (c d m k : Nat) (ts : List Tk) (dn : List Bool) (g i r : Int) (w : World) (h : Rd kTask w (.slice A m c) ts) (hd : Rd kBool w (.slice B k d) dn) (hm : ts.length = m) (hk : dn.length = k) (hg : in64 g) (hi : in64 i) (hl : m ≤ 1048576) (hl2 : k ≤ 1048576)
    (he : doErr ts g dn i = r) (hr : r ≠ 0) :
    Calls Try.prog 91 #[.agg #[.slice A m c, .int .i64 g, .slice B k d], .int .i64 i] w fun e w' => ∃ A c B d, e = .returned (.tuple #[.agg #[.slice A m c, .int .i64 g, .slice B k d], .bool false, .int .i64 r]) ∧ Ext w w' := by
  subst hm hk
  exact (pdo_any A B c d ts dn g i w h hd hg hi hl hl2).mono fun e w' hh => by
    rcases hh with ⟨_, hh⟩ | ⟨hh, _⟩
    · obtain ⟨A, c, B, d, h1, _, _, h2⟩ := hh
      rw [he] at h1
      exact ⟨A, c, B, d, h1, h2⟩
    · rw [he] at hh; exact absurd hh hr
theorem right_to (A B : Option Addr) (c d m k : Nat) (ts : List Tk) (g : Int) (q : Bool) (w : World) (h : Rd kTask w (.slice A m c) ts) (hm : ts.length = m) (hk : k ≤ 9223372036854775807) (hg : in64 g) (he : wRight ts g k = q) :
    Calls Try.prog 79 #[.agg #[.slice A m c, .int .i64 g, .slice B k d]] w fun e w' => e = .returned (.bool q) ∧ Ext w w' := by
  subst hm he
  exact right_any A B c d k ts g w h hk hg
end Go.Proofs.Ytbedfjbnafflfaa

/- What the walk of TaskOnce shares. Written by wip/mk_tonce.py. -/
namespace Go.Proofs.Ytbedfjbnafflfaa
open Go.BigFrame
open Go.RowKit Go.Proofs.Ytbedfjbnafflfaa.Plain

/-- numbers of tasks, as they lie -/
def zs (O : List Nat) : List Int := O.map fun k : Nat => (k : Int)
theorem zs_len (O : List Nat) : (zs O).length = O.length := by unfold zs; simp
theorem zs_getD (O : List Nat) (j : Nat) : (zs O).getD j 0 = ((O.getD j 0 : Nat) : Int) := by
  unfold zs
  rw [List.getD_eq_getElem?_getD, List.getD_eq_getElem?_getD, List.getElem?_map]
  cases O[j]? <;> rfl
/-- the q-th one is gone -/
def less (O : List Nat) (q : Nat) : List Nat := O.take q ++ O.drop (q + 1)
theorem less_perm (O : List Nat) (q : Nat) (hq : q < O.length) : O.Perm (O.getD q 0 :: less O q) := by
  have e : O = O.take q ++ O.getD q 0 :: O.drop (q + 1) := by
    rw [List.getD_eq_getElem?_getD, List.getElem?_eq_getElem hq]
    exact (List.take_append_drop q O).symm.trans (by rw [List.drop_eq_getElem_cons hq]; rfl)
  have h := List.perm_middle (a := O.getD q 0) (l₁ := O.take q) (l₂ := O.drop (q + 1))
  rw [← e] at h
  exact h
theorem less_len (O : List Nat) (q : Nat) (hq : q < O.length) : (less O q).length + 1 = O.length := by unfold less; simp; omega
theorem zs_less (O : List Nat) (q : Nat) : zs (less O q) = (zs O).take q ++ (zs O).drop (q + 1) := by unfold zs less; simp [List.map_take, List.map_drop]
theorem in64_nat (k : Nat) (h : k ≤ 9223372036854775807) : in64 (k : Int) := by unfold in64; omega

/-- behind the task's leaving -/
def DropCut (w : World) (O : List Nat) (q m : Nat) (s : Value) (wx : World) : Prop := ∃ A c, s = .slice A m c ∧ Ow kInt w.heap.size wx (.slice A m c) (zs (less O q)) ∧ Ext w wx

/-- what stands, round by round -/
structure OnceAt (w0 : World) (V n g K : Nat) (ts : List Tk) (dn : List Bool) (O : List Nat) (units : Nat) (A B Ao : Option Addr) (c d co : Nat) (wr : World) : Prop where
  inv : OI g n ts dn O units
  v0 : wr.cell? ⟨V, 0, none⟩ = some (.slice A ts.length c)
  v1 : wr.cell? ⟨V, 1, none⟩ = some (.int .i64 g)
  v2 : wr.cell? ⟨V, 2, none⟩ = some (.slice B n d)
  vf : ∀ o, wr.frozen? ⟨V, o, none⟩ = false
  tsk : Rd kTask wr (.slice A ts.length c) ts
  dns : Rd kBool wr (.slice B n d) dn
  opn : Ow kInt (V + 1) wr (.slice Ao O.length co) (zs O)
  ext : Ext w0 wr
  cnt : K + O.length = ts.length

theorem doErr_zero {ts : List Tk} {g : Int} {dn : List Bool} {j : Nat} (hr : wRight ts g dn.length = true) (hj : j < ts.length) (ht : wGreat ts g dn.length j = false) (hw : (ts.getD j tk0).wt = 0) (hd : dn.getD (ts.getD j tk0).lo.toNat false = false) : doErr ts g dn j = 0 := by
  have hs : wHas ts.length (j : Int) = true := by unfold wHas; simp; omega
  have e0 : tkAt ts (j : Int) = ts.getD j tk0 := by unfold tkAt; rw [Int.toNat_natCast]
  unfold doErr
  rw [if_neg (by rw [hr]; decide), if_neg (by rw [hs]; decide), if_neg (by rw [ht]; decide), e0, if_neg (by simpa using hw), if_neg (by rw [hd]; decide)]
theorem partErr_ok {ts : List Tk} {g : Int} {n j : Nat} (hr : wRight ts g n = true) (hj : j < ts.length) (ht : wGreat ts g n j = true) (hw : (ts.getD j tk0).wt = 0) (hl : ts.length ≤ 1998) : partErr ts g n j = 0 := by
  have hs : wHas ts.length (j : Int) = true := by unfold wHas; simp; omega
  have e0 : tkAt ts (j : Int) = ts.getD j tk0 := by unfold tkAt; rw [Int.toNat_natCast]
  unfold partErr
  rw [if_neg (by rw [hr]; decide), if_neg (by rw [hs]; decide), if_neg (by rw [ht]; decide), e0, if_neg (by simpa using hw), if_neg (by omega)]

end Go.Proofs.Ytbedfjbnafflfaa

/- A crew, as it lies; one that goes steps, as it lies. -/
namespace Go.Proofs.Ytbedfjbnafflfaa
open Go.RowKit Go.Proofs.Ytbedfjbnafflfaa.Plain

/-- a list's head, as it lies in a list of lists -/
structure Hd where
  A : Option Addr
  n : Nat
  c : Nat
def hd0 : Hd := ⟨none, 0, 0⟩
abbrev Hd.v (h : Hd) : Value := .slice h.A h.n h.c
def kRow : Kd Hd where
  t := 58
  e := 33
  n := 1
  cells := fun h => [.slice h.A h.n h.c]
  ok := fun _ => True
  d := hd0
  z := .slice none 0 0
  bytes := 24
  ht := Try.underlying58
  info := by kernel_rfl
  hzs := rfl
  pos := by decide
  small := by decide
  len := fun _ => rfl
  one := fun a u hu => by simp at hu; subst hu; rfl
/-- deques, in a list at ⟨b, off⟩, that read so whatever becomes of the blocks of S -/
def Hds (S : Nat → Prop) (w : World) (b off m : Nat) (hs : Nat → Hd) (D : List (List Nat)) : Prop :=
  D.length = m ∧ ∀ j, j < m → w.cell? ⟨b, off + j, none⟩ = some (hs j).v ∧ (hs j).n = (D.getD j []).length ∧ RdO kInt S w (hs j).v (zs (D.getD j []))
theorem Hds.grew {S : Nat → Prop} {w W : World} {b off m : Nat} {hs : Nat → Hd} {D : List (List Nat)} (h : Hds S w b off m hs D) (hG : Grew S w W) (hb : ¬ S b) : Hds S W b off m hs D :=
  ⟨h.1, fun j hj => ⟨hG.cell (h.2 j hj).1 hb, (h.2 j hj).2.1, (h.2 j hj).2.2.grew hG⟩⟩
theorem Hds.ext {S : Nat → Prop} {w W : World} {b off m : Nat} {hs : Nat → Hd} {D : List (List Nat)} (h : Hds S w b off m hs D) (hE : Ext w W) : Hds S W b off m hs D :=
  ⟨h.1, fun j hj => ⟨hE.cell (h.2 j hj).1, (h.2 j hj).2.1, (h.2 j hj).2.2.ext hE⟩⟩
/-- a crew's memory, that has nothing to do with the blocks of S -/
structure CrewO (S : Nat → Prop) (w : World) (m : Nat) (c : Cw) (A B : Option Addr) (eb eo a b : Nat) : Prop where
  tsk : RdO kTask S w (.slice A c.ts.length a) c.ts
  dns : RdO kBool S w (.slice B c.dn.length b) c.dn
  deq : ∃ hs, Hds S w eb eo m hs c.D
  off : ¬ S eb
/-- .. of none -/
abbrev CrewAt (w : World) (m : Nat) (c : Cw) (A B : Option Addr) (eb eo a b : Nat) : Prop := CrewO (fun _ => False) w m c A B eb eo a b
theorem CrewO.grew {S : Nat → Prop} {w W : World} {m : Nat} {c : Cw} {A B : Option Addr} {eb eo a b : Nat} (h : CrewO S w m c A B eb eo a b) (hG : Grew S w W) : CrewO S W m c A B eb eo a b := by
  obtain ⟨h1, h2, ⟨hs, h3⟩, h4⟩ := h
  exact ⟨h1.grew hG, h2.grew hG, ⟨hs, h3.grew hG h4⟩, h4⟩
theorem CrewO.ext {S : Nat → Prop} {w W : World} {m : Nat} {c : Cw} {A B : Option Addr} {eb eo a b : Nat} (h : CrewO S w m c A B eb eo a b) (hE : Ext w W) : CrewO S W m c A B eb eo a b := h.grew (Grew.of hE)
theorem CrewO.setCell {S : Nat → Prop} {w : World} {m : Nat} {c : Cw} {A B : Option Addr} {eb eo a b : Nat} (h : CrewO S w m c A B eb eo a b) {p : Addr} (hp : S p.block) (u : Value) : CrewO S (w.setCell p u) m c A B eb eo a b := h.grew ((Grew.refl S w).setCell hp u)
theorem Hds.lt {S : Nat → Prop} {w : World} {b off m : Nat} {hs : Nat → Hd} {D : List (List Nat)} (h : Hds S w b off m hs D) (hm : 1 ≤ m) : b < w.heap.size := World.block_lt_of_cell? _ _ (h.2 0 hm).1
theorem CrewO.mono {S T : Nat → Prop} {w : World} {m : Nat} {c : Cw} {A B : Option Addr} {eb eo a b : Nat} (h : CrewO S w m c A B eb eo a b) (hm : 1 ≤ m) (hT : ∀ x, x < w.heap.size → T x → S x) : CrewO T w m c A B eb eo a b := by
  obtain ⟨h1, h2, ⟨hs, h3⟩, h4⟩ := h
  exact ⟨h1.mono hT, h2.mono hT, ⟨hs, h3.1, fun j hj => ⟨(h3.2 j hj).1, (h3.2 j hj).2.1, (h3.2 j hj).2.2.mono hT⟩⟩, fun ht => h4 (hT eb (h3.lt hm) ht)⟩
theorem CrewO.at_ {S : Nat → Prop} {w : World} {m : Nat} {c : Cw} {A B : Option Addr} {eb eo a b : Nat} (h : CrewO S w m c A B eb eo a b) (hm : 1 ≤ m) : CrewAt w m c A B eb eo a b := h.mono hm (fun _ _ hf => hf.elim)
/-- later, of blocks that were none then -/
theorem CrewO.later {S T : Nat → Prop} {w W : World} {m : Nat} {c : Cw} {A B : Option Addr} {eb eo a b : Nat} (h : CrewO S w m c A B eb eo a b) (hm : 1 ≤ m) (hG : Grew S w W) (hT : ∀ x, x < w.heap.size → T x → S x) : CrewO T W m c A B eb eo a b := by
  obtain ⟨h1, h2, ⟨hs, h3⟩, h4⟩ := h
  exact ⟨h1.later hG hT, h2.later hG hT, ⟨hs, h3.1, fun j hj => ⟨hG.cell (h3.2 j hj).1 h4, (h3.2 j hj).2.1, (h3.2 j hj).2.2.later hG hT⟩⟩, fun ht => h4 (hT eb (h3.lt hm) ht)⟩
/-- a crew, as a value -/
abbrev crewV (A B : Option Addr) (eb eo a b e : Nat) (g m : Nat) (c : Cw) : Value :=
  .agg #[.slice A c.ts.length a, .int .i64 g, .slice B c.dn.length b, .slice (some ⟨eb, eo, none⟩) m e, .bool c.over, .int .i64 c.st, .int .i64 c.id]
/-- an event, as a value -/
abbrev evV (x : Ev) : Value := .agg #[.int .i64 x.wk, .int .i64 x.fr, .int .i64 x.tk, .bool x.pt]

/-- one that goes steps: the block V has its crew and the event, the block e0 its deques' heads -/
structure GoAt (S : Nat → Prop) (w : World) (V e0 g m : Nat) (c : Cw) (ev : Ev) (A B : Option Addr) (a b e : Nat) (hs : Nat → Hd) : Prop where
  sV : S V
  sE : S e0
  sl : ∀ x, S x → x < w.heap.size
  ne : V ≠ e0
  v0 : w.cell? ⟨V, 0, none⟩ = some (.slice A c.ts.length a)
  v1 : w.cell? ⟨V, 1, none⟩ = some (.int .i64 g)
  v2 : w.cell? ⟨V, 2, none⟩ = some (.slice B c.dn.length b)
  v3 : w.cell? ⟨V, 3, none⟩ = some (.slice (some ⟨e0, 0, none⟩) m e)
  v4 : w.cell? ⟨V, 4, none⟩ = some (.bool c.over)
  v5 : w.cell? ⟨V, 5, none⟩ = some (.int .i64 c.st)
  v6 : w.cell? ⟨V, 6, none⟩ = some (.int .i64 c.id)
  v7 : w.cell? ⟨V, 7, none⟩ = some (.int .i64 ev.wk)
  v8 : w.cell? ⟨V, 8, none⟩ = some (.int .i64 ev.fr)
  v9 : w.cell? ⟨V, 9, none⟩ = some (.int .i64 ev.tk)
  v10 : w.cell? ⟨V, 10, none⟩ = some (.bool ev.pt)
  fV : ∀ o, w.frozen? ⟨V, o, none⟩ = false
  fE : ∀ o, w.frozen? ⟨e0, o, none⟩ = false
  me : m ≤ e
  tsk : RdO kTask S w (.slice A c.ts.length a) c.ts
  dns : RdO kBool S w (.slice B c.dn.length b) c.dn
  dl : c.D.length = m
  hd : ∀ j, j < m → w.cell? ⟨e0, j, none⟩ = some (hs j).v
  hn : ∀ j, j < m → (hs j).n = (c.D.getD j []).length
  hr : ∀ j, j < m → RdO kInt S w (hs j).v (zs (c.D.getD j []))
  hc : ∀ j, j < m → (hs j).n = 0 → (hs j).c = 0
theorem GoAt.ext {S : Nat → Prop} {w W : World} {V e0 g m : Nat} {c : Cw} {ev : Ev} {A B : Option Addr} {a b e : Nat} {hs : Nat → Hd} (h : GoAt S w V e0 g m c ev A B a b e hs) (hE : Ext w W) : GoAt S W V e0 g m c ev A B a b e hs where
  sV := h.sV
  sE := h.sE
  sl := fun x hx => Nat.lt_of_lt_of_le (h.sl x hx) hE.size
  ne := h.ne
  v0 := hE.cell h.v0
  v1 := hE.cell h.v1
  v2 := hE.cell h.v2
  v3 := hE.cell h.v3
  v4 := hE.cell h.v4
  v5 := hE.cell h.v5
  v6 := hE.cell h.v6
  v7 := hE.cell h.v7
  v8 := hE.cell h.v8
  v9 := hE.cell h.v9
  v10 := hE.cell h.v10
  fV := fun o => (Below.frozen hE (p := ⟨V, o, none⟩) (h.sl V h.sV)).trans (h.fV o)
  fE := fun o => (Below.frozen hE (p := ⟨e0, o, none⟩) (h.sl e0 h.sE)).trans (h.fE o)
  me := h.me
  tsk := h.tsk.ext hE
  dns := h.dns.ext hE
  dl := h.dl
  hd := fun j hj => hE.cell (h.hd j hj)
  hn := h.hn
  hr := fun j hj => (h.hr j hj).ext hE
  hc := h.hc
/-- but for the two blocks of one that goes steps -/
abbrev GrewG (V e0 : Nat) (w W : World) : Prop := Grew (fun x => x = V ∨ x = e0) w W
theorem GoAt.grewS {S : Nat → Prop} {w : World} {V e0 g m : Nat} {c : Cw} {ev : Ev} {A B : Option Addr} {a b e : Nat} {hs : Nat → Hd} (h : GoAt S w V e0 g m c ev A B a b e hs) {u W : World} (hG : GrewG V e0 u W) : Grew S u W :=
  hG.mono fun x _ hx => by rcases hx with rfl | rfl; exact h.sV; exact h.sE
/-- what one that goes steps has, as a crew -/
theorem GoAt.crew {S T : Nat → Prop} {w : World} {V e0 g m : Nat} {c : Cw} {ev : Ev} {A B : Option Addr} {a b e : Nat} {hs : Nat → Hd} (h : GoAt S w V e0 g m c ev A B a b e hs) (hT : ∀ x, T x → S x) (hE : ¬ T e0) : CrewO T w m c A B e0 0 a b :=
  ⟨h.tsk.mono fun x _ => hT x, h.dns.mono fun x _ => hT x, ⟨hs, h.dl, fun j hj => ⟨by rw [Nat.zero_add]; exact h.hd j hj, h.hn j hj, (h.hr j hj).mono fun x _ => hT x⟩⟩, hE⟩
/-- the box as it is read: a crew -/
theorem GoAt.at_ {S : Nat → Prop} {w : World} {V e0 g m : Nat} {c : Cw} {ev : Ev} {A B : Option Addr} {a b e : Nat} {hs : Nat → Hd} (h : GoAt S w V e0 g m c ev A B a b e hs) : CrewAt w m c A B e0 0 a b := h.crew (fun _ hf => hf.elim) (fun hf => hf)

/-- how many tasks there are, in work that is parted -/
theorem Plain.CwI.few {g n m : Nat} {c : Cw} {done : Nat} {G : List Nat} (h : CwI g n m c done G) (hg : 1 ≤ g) (hn : 1 ≤ n) : c.ts.length ≤ 2 * n := by
  have := (CrI.inv h).few hg hn; omega
end Go.Proofs.Ytbedfjbnafflfaa

/- The program's small words of a crew: cut, manned, counted, great, open. -/
namespace Go.Proofs.Ytbedfjbnafflfaa
open Go.BigFrame
open Go.RowKit Go.Proofs.Ytbedfjbnafflfaa.Plain

set_option maxRecDepth 100000 in
theorem ccut_any (p : Int) (m : Nat) (w : World) (hp : in64 p) (m1 : 1 ≤ m) (m2 : m ≤ 8) :
    Calls Try.prog 75 #[.int .i64 p, .int .i64 m] w fun e w' => e = .returned (.int .i64 (cutN m p)) ∧ w = w' := by
  obtain ⟨h1, h2⟩ := tmod_cut m p m1
  have hm0 : (1 : Int) ≤ m := by omega
  have hm8 : (m : Int) ≤ 8 := by omega
  have h3 := Int.tmod_lt_of_pos p (by omega : (0 : Int) < m)
  have h4 := cutN_lt m p m1
  obtain ⟨hp1, hp2⟩ := hp
  obtain ⟨r, hr⟩ : ∃ r, p.tmod m = r := ⟨_, rfl⟩
  rw [hr] at h1 h2 h3
  have hr0 : -8 ≤ r := by
    rcases Int.lt_or_le r 0 with h | h
    · have := h2 h; omega
    · omega
  have HR := Lib.hid hr
  clear hr
  rcases Int.lt_or_le r 0 with h | h
  · have HQ : Hid (r + m = (cutN m p : Int)) := Lib.hid (h2 h)
    clear h1 h2
    go_enter Try.func75, Try.ntmps75
    go_wp2
    all_goals (try rw [HR.out] at *)
    all_goals first | (exfalso; omega) | skip
    all_goals go_ret
    all_goals exact ⟨ret_int (by first | exact HQ.out | (rw [← HQ.out]; exact IntWalk.i64_in _ (by omega)) | (rw [HR.out]; exact HQ.out) | (rw [IntWalk.wrap64_in _ (by omega)]; exact HQ.out) | (have := HQ.out; have := HR.out; omega)), rfl⟩
  · have HQ : Hid (r = (cutN m p : Int)) := Lib.hid (h1 h)
    clear h1 h2
    go_enter Try.func75, Try.ntmps75
    go_wp2
    all_goals (try rw [HR.out] at *)
    all_goals first | (exfalso; omega) | skip
    all_goals go_ret
    all_goals exact ⟨ret_int (by first | exact HQ.out | (rw [HR.out]; exact HQ.out) | (have := HQ.out; have := HR.out; omega)), rfl⟩
set_option maxRecDepth 100000 in
theorem manned_yes (m : Nat) (w : World) (m1 : 1 ≤ m) (m2 : m ≤ 8) :
    Calls Try.prog 48 #[.int .i64 m] w fun e w' => e = .returned (.bool true) ∧ w = w' := by
  have hm0 : (1 : Int) ≤ m := by omega
  have hm8 : (m : Int) ≤ 8 := by omega
  go_enter Try.func48, Try.ntmps48
  go_wp2
  go_ret
  exact ⟨rfl, rfl⟩
set_option maxRecDepth 100000 in
theorem counted_yes (m : Int) (w : World) (m1 : 0 ≤ m) (m2 : m ≤ 100000) :
    Calls Try.prog 80 #[.int .i64 m] w fun e w' => e = .returned (.bool true) ∧ w = w' := by
  go_enter Try.func80, Try.ntmps80
  go_wp2
  go_ret
  exact ⟨rfl, rfl⟩
set_option maxRecDepth 100000 in
theorem cgreat_any (A B : Option Addr) (m n a b : Nat) (lo hi up wt g : Int) (w : World) (hd : in64 (hi - lo)) (_hg : in64 g) :
    Calls Try.prog 84 #[.agg #[.slice A m a, .int .i64 g, .slice B n b], .agg #[.int .i64 lo, .int .i64 hi, .int .i64 up, .int .i64 wt]] w fun e w' => e = .returned (.bool (decide (g < hi - lo))) ∧ Ext w w' := by
  obtain ⟨h1, h2⟩ := hd
  go_enter Try.func84, Try.ntmps84
  go_wp2
  go_ret
  exact ⟨ret_bool (by first | rfl | simp), ((Ext.refl w).alloc _).alloc _⟩
set_option maxHeartbeats 800000 in
set_option maxRecDepth 100000 in
theorem copen_yes (A B : Option Addr) (m a b : Nat) (lo hi up : Int) (g : Nat) (dn : List Bool) (w : World) (h : Rd kBool w (.slice B dn.length b) dn) (hlo : 0 ≤ lo) (hlh : lo < hi) (hhn : hi ≤ dn.length) (hg1 : 1 ≤ g) (hg : g ≤ 100) (hdn : dn.length ≤ 1000) (hd : dn.getD lo.toNat false = false) :
    Calls Try.prog 89 #[.agg #[.slice A m a, .int .i64 g, .slice B dn.length b], .agg #[.int .i64 lo, .int .i64 hi, .int .i64 up, .int .i64 0]] w fun e w' => e = .returned (.bool true) ∧ Ext w w' := by
  have H := Lib.hid h
  have hl1 : 0 < dn.length := by omega
  obtain ⟨bd, od, rfl, hcd⟩ := Rd.bools H.out hl1
  obtain ⟨l, rfl⟩ : ∃ l : Nat, lo = l := ⟨lo.toNat, by omega⟩
  rw [Int.toNat_natCast] at hd
  have z := hcd l (by omega)
  rw [hd] at z
  have HG : Hid (in64 (g : Int)) := Lib.hid (by unfold in64; omega)
  have HD : Hid (in64 (hi - l)) := Lib.hid (by unfold in64; omega)
  have hl2 : (l : Int) < dn.length := by omega
  have lbd : bd < w.heap.size := World.block_lt_of_cell? _ _ z
  clear h hcd hd
  go_enter Try.func89, Try.ntmps89
  cases hgr : decide ((g : Int) < hi - l) with
  | true =>
    go_wp2_with ((go_at_call 84; refine (cgreat_any _ _ _ _ _ _ _ _ _ _ _ _ HD.out HG.out).mono ?_; rw [hgr]; rintro e w1 ⟨rfl, hE⟩))
    go_ret
    exact ⟨rfl, (((Ext.refl w).alloc _).alloc _).trans hE⟩
  | false =>
    go_wp2_with ((go_at_call 84; refine (cgreat_any _ _ _ _ _ _ _ _ _ _ _ _ HD.out HG.out).mono ?_; rw [hgr]; rintro e w1 ⟨rfl, hE⟩; have z1 := hE.cell (a := ⟨bd, od + l, none⟩) (v := .bool false) (by go_simp); have x2 := hE.cell (a := ⟨w.heap.size, 2, none⟩) (v := .slice (some ⟨bd, od, none⟩) dn.length b) (by go_simp); have x3 := hE.cell (a := ⟨w.heap.size + 1, 0, none⟩) (v := .int .i64 l) (by go_simp)))
    go_ret
    exact ⟨rfl, (((Ext.refl w).alloc _).alloc _).trans hE⟩
end Go.Proofs.Ytbedfjbnafflfaa

/- Plain words of a deque: no program in it. -/
namespace Go.Proofs.Ytbedfjbnafflfaa.Plain

/-- for how many more there is room -/
def roomN (n : Nat) : Nat := 1000 - n
def pushE (l : List Int) : Int := if 1000 ≤ l.length then 2 else 0
def pushL (l : List Int) (n : Int) : List Int := if 1000 ≤ l.length then l else l ++ [n]
def popE (l : List Int) : Int := if l.length = 0 then 4 else 0
def popL (l : List Int) : List Int := l.take (l.length - 1)
def stealL (l : List Int) : List Int := l.drop 1
def topD (l : List Int) : Int := l.getD 0 0
def lookB (l : List Int) : Bool := decide (0 < l.length)
def moveN (from_ to_ : List Int) (most : Int) : Nat := min (min most.toNat from_.length) (roomN to_.length)
def moveF (from_ to_ : List Int) (most : Int) : List Int := from_.drop (moveN from_ to_ most)
def moveT (from_ to_ : List Int) (most : Int) : List Int := to_ ++ from_.take (moveN from_ to_ most)

theorem getD_lt (l : List Int) (j : Nat) (h : j < l.length) : l.getD j 0 = l[j] := by
  rw [List.getD_eq_getElem?_getD, List.getElem?_eq_getElem h]; rfl
theorem getD_drop (l : List Int) (k j : Nat) : (l.drop k).getD j 0 = l.getD (k + j) 0 := by
  simp [List.getD_eq_getElem?_getD, List.getElem?_drop]
theorem getD_take (l : List Int) (k j : Nat) (h : j < k) : (l.take k).getD j 0 = l.getD j 0 := by
  simp [List.getD_eq_getElem?_getD, List.getElem?_take_of_lt h]
theorem popL_len (l : List Int) : (popL l).length = l.length - 1 := by unfold popL; rw [List.length_take]; omega
theorem stealL_len (l : List Int) : (stealL l).length = l.length - 1 := by unfold stealL; rw [List.length_drop]
theorem pushL_len_le (l : List Int) (n : Int) : (pushL l n).length ≤ l.length + 1 := by unfold pushL; split <;> simp
theorem moveN_from (f t : List Int) (m : Int) : moveN f t m ≤ f.length := by unfold moveN; omega
theorem moveF_len (f t : List Int) (m : Int) : (moveF f t m).length = f.length - moveN f t m := by unfold moveF; rw [List.length_drop]
theorem moveT_len (f t : List Int) (m : Int) : (moveT f t m).length = t.length + moveN f t m := by
  unfold moveT; rw [List.length_append, List.length_take]; have := moveN_from f t m; omega
theorem moveN_end (f t : List Int) (m : Int) (k : Nat) (hk : k ≤ moveN f t m) (h : m ≤ k ∨ f.length ≤ k ∨ 1000 ≤ t.length + k) : moveN f t m = k := by
  unfold moveN roomN at *
  rcases h with h | h | h <;> omega
theorem moveN_more (f t : List Int) (m : Int) (k : Nat) (h1 : (k : Int) < m) (h2 : k < f.length) (h3 : t.length + k < 1000) : k + 1 ≤ moveN f t m := by
  unfold moveN roomN
  omega
theorem drop_steal (f : List Int) (k : Nat) : stealL (f.drop k) = f.drop (k + 1) := by unfold stealL; rw [List.drop_drop]
theorem drop_top (f : List Int) (k : Nat) : topD (f.drop k) = f.getD k 0 := by unfold topD; rw [getD_drop]; rfl
theorem push_more (f t : List Int) (k : Nat) (h : k < f.length) (h3 : t.length + k < 1000) : pushL (t ++ f.take k) (f.getD k 0) = t ++ f.take (k + 1) := by
  unfold pushL
  rw [if_neg (by rw [List.length_append, List.length_take]; omega), List.append_assoc, take_snoc f k h]
theorem pushE_more (f t : List Int) (k : Nat) (h : k ≤ f.length) (h3 : t.length + k < 1000) : pushE (t ++ f.take k) = 0 := by
  unfold pushE
  rw [if_neg (by rw [List.length_append, List.length_take]; omega)]
theorem pushE_full (f t : List Int) (k : Nat) (h : k ≤ f.length) (h3 : 1000 ≤ t.length + k) : pushE (t ++ f.take k) = 2 := by
  unfold pushE
  rw [if_pos (by rw [List.length_append, List.length_take]; omega)]
theorem popE_more (f : List Int) (k : Nat) (h : k < f.length) : popE (f.drop k) = 0 := by
  unfold popE
  rw [if_neg (by rw [List.length_drop]; omega)]
theorem popE_end (f : List Int) (k : Nat) (h : f.length ≤ k) : popE (f.drop k) = 4 := by
  unfold popE
  rw [if_pos (by rw [List.length_drop]; omega)]
theorem push_small (l : List Int) (n : Int) (h : l.length < 1000) : pushL l n = l ++ [n] ∧ pushE l = 0 := by
  unfold pushL pushE; rw [if_neg (by omega), if_neg (by omega)]; exact ⟨rfl, rfl⟩
theorem pop_snoc (l : List Int) (n : Int) : popL (l ++ [n]) = l ∧ popE (l ++ [n]) = 0 ∧ lookB (l ++ [n]) = true ∧ lastD (l ++ [n]) = n := by
  refine ⟨by unfold popL; simp, by unfold popE; simp, by unfold lookB; simp, ?_⟩
  unfold lastD
  rw [List.getD_eq_getElem?_getD]
  simp
theorem popE_pos (l : List Int) (h : 0 < l.length) : popE l = 0 ∧ lookB l = true := by
  unfold popE lookB; rw [if_neg (by omega)]; exact ⟨rfl, by simpa using h⟩
theorem top_steal (l : List Int) (h : 0 < l.length) : [topD l] ++ stealL l = l := by
  cases l with
  | nil => simp at h
  | cons a l => rfl
end Go.Proofs.Ytbedfjbnafflfaa.Plain

/- The library's Grow and Concat at lists of integers; room of a deque. -/
namespace Go.Proofs.Ytbedfjbnafflfaa
open Go.RowKit Go.Proofs.Ytbedfjbnafflfaa.Plain

/-- a part of a list, from its beginning -/
theorem Ints.take {w : World} {A : Option Addr} {n c : Nat} {xs : List Int} (h : Ints w (.slice A n c) xs) (k c' : Nat) (hk : k ≤ xs.length) (hc : k ≤ c') : Ints w (.slice A k c') (xs.take k) := by
  obtain ⟨h1, h2, A', cap, hv, hcap, h3⟩ := h
  cases hv
  have hl : (xs.take k).length = k := by rw [List.length_take]; omega
  refine ⟨by rw [hl]; omega, fun n hn => h2 n (List.mem_of_mem_take hn), A, c', by rw [hl], by omega, fun hp => ?_⟩
  rw [hl] at hp
  obtain ⟨b, off, rfl, hcc⟩ := h3 (by omega)
  refine ⟨b, off, rfl, fun j hj => ?_⟩
  rw [hl] at hj
  rw [hcc j (by omega), getD_take _ _ _ hj]
/-- a part of a list, from a place on to its end -/
theorem Ints.drop {w : World} {b off n c : Nat} {xs : List Int} (h : Ints w (.slice (some ⟨b, off, none⟩) n c) xs) (k m c' : Nat) (hm : m = xs.length - k) (hc : m ≤ c') : Ints w (.slice (some ⟨b, off + k, none⟩) m c') (xs.drop k) := by
  obtain ⟨h1, h2, A', cap, hv, hcap, h3⟩ := h
  cases hv
  have hl : (xs.drop k).length = m := by rw [List.length_drop]; omega
  refine ⟨by rw [hl]; omega, fun n hn => h2 n (List.mem_of_mem_drop hn), _, c', by rw [hl], by omega, fun hp => ?_⟩
  obtain ⟨b', off', he, hcc⟩ := h3 (by omega)
  cases he
  refine ⟨b, off + k, rfl, fun j hj => ?_⟩
  rw [hl] at hj
  rw [Nat.add_assoc, hcc (k + j) (by omega), getD_drop]

theorem add_at (b off j : Nat) : (⟨b, off, none⟩ : Addr).add j = ⟨b, off + j, none⟩ := by
  by_cases h0 : j = 0
  · subst h0; rfl
  · simp [Addr.add, h0]
/-- .. as the walk writes it, where the address is open -/
theorem Ints.dropAdd {w : World} {ad : Addr} {n c : Nat} {xs : List Int} (h : Ints w (.slice (some ad) n c) xs) (k m c' : Nat) (hm : m = xs.length - k) (hc : m ≤ c') : Ints w (.slice (some (ad.add k)) m c') (xs.drop k) := by
  by_cases h0 : xs.drop k = []
  · have : m = 0 := by have := congrArg List.length h0; rw [List.length_drop] at this; simp at this; omega
    subst this
    rw [h0]
    exact Ints.nil _ _ _
  · have hl : 0 < xs.length := by
      cases xs with
      | nil => simp at h0
      | cons a l => simp
    obtain ⟨b, off, he, _⟩ := h.cells hl
    cases he
    rw [add_at]
    exact h.drop k m c' hm hc
theorem run_zeros (w : World) (n : Nat) (h0 : 0 < n) (hn : n ≤ 1048576) :
    (Builtin.append_ #[33, 3] 33 #[.slice none 0 0, .int .i64 n]).run Try.prog w =
      .ok (.slice (some ⟨w.heap.size, 0, none⟩) n (grownCap w n 0 3)) (w.drew.alloc (.cells (Builtin.zeroCells #[.int .i64 0] n ++ Builtin.zeroCells #[.int .i64 0] (grownCap w n 0 3 - n)) 3)) := by
  obtain ⟨i0, hi, hz0, hz1, hz2⟩ := info_parts intInfo
  exact Lib.run_append_nil_zeros w 33 3 33 3 i0 (.int .i64 0) .i64 .i64 Try.underlying33 Try.underlying3 hi hz0 n h0 (by omega) (by omega) (by rw [hz2]; omega)

theorem wpList_zeros {ops : Array Oper} {rest : List Oper} {o : Oper} {a : Act} {w : World} {Q : Exit → Act → World → Prop} (hgd : o.guard = none) (s x : Operand)
    (ho : o.op = .call { callee := .builtin .append, args := #[s, x], argTypes := #[33, 3] }) (hty : o.type = 33) (n : Nat) (hs : a.eval s = .slice none 0 0) (hx : a.eval x = .int .i64 n) (h0 : 0 < n) (hn : n ≤ 1048576)
    (h : ∀ (cap : Nat) (cur : Array Value), (n : Int) ≤ cap → cap ≤ maxLen → cur.size = cap → wpList Try.prog ops Q rest (a.put o.dst (.slice (some ⟨w.heap.size, 0, none⟩) n cap)) (w.drew.alloc (.cells cur 3))) : wpList Try.prog ops Q (o :: rest) a w :=
  wpList_plain hgd fun K hK => by
    unfold Oper.wp execOp
    simp only [ho, hty, resolve, invoke, builtin, Sem.run_bind, Sem.run_pure, Result.andThen_ok, List.map_toArray, List.map_cons, List.map_nil, hs, hx, run_zeros w n h0 hn]
    have hge := grownCap_ge w n 0 3
    refine hK _ _ (h _ _ (by omega) (grownCap_le_maxLen w n 0 3 (by unfold maxLen; omega)) ?_)
    simp only [Array.size_append, size_zeroCells]
    simp
    omega

/-- room is made: an empty list of the call's own -/
theorem grow_nil (n : Nat) (w : World) (hn : n ≤ 1048576) :
    Calls Try.prog 92 #[.slice none 0 0, .int .i64 n] w fun e w' => ∃ v, e = .returned v ∧ Own w.heap.size w' v [] ∧ Ext w w' := by
  by_cases h0 : 0 < n
  · have h0' : (0 : Int) < n := by omega
    go_enter Try.func92, Try.ntmps92
    go_wp2_with (at_builtin; refine wpList_zeros rfl _ _ rfl rfl n rfl rfl h0 hn ?_; intro cap cur hc1 hc2 hc3)
    go_ret
    exact ⟨_, rfl, Own.made w.drew _ _ (Nat.le_refl _) hc2 hc3, (Ext.refl w).drew.alloc _⟩
  · obtain rfl : n = 0 := by omega
    go_enter Try.func92, Try.ntmps92
    go_wp2
    go_ret
    exact ⟨_, rfl, Own.nil _ _, Ext.refl _⟩

/-- two lists, one behind the other -/
theorem concat_any (b o : Nat) (u v : Value) (xs ys : List Int) (w : World) (c0 : w.cell? ⟨b, o, none⟩ = some u) (c1 : w.cell? ⟨b, o + 1, none⟩ = some v) (h : Ints w u xs) (h' : Ints w v ys) (hl : xs.length + ys.length ≤ 1048576) :
    Calls Try.prog 88 #[.slice (some ⟨b, o, none⟩) 2 2] w fun e w' => ∃ v', e = .returned v' ∧ Own w.heap.size w' v' (xs ++ ys) ∧ Ext w w' := by
  obtain ⟨A, cA, rfl⟩ : ∃ A cA, u = .slice A xs.length cA := by obtain ⟨_, _, A, cA, rfl, _, _⟩ := h; exact ⟨A, cA, rfl⟩
  obtain ⟨B, cB, rfl⟩ : ∃ B cB, v = .slice B ys.length cB := by obtain ⟨_, _, A, cA, rfl, _, _⟩ := h'; exact ⟨A, cA, rfl⟩
  have HX := Lib.hid h
  have HY := Lib.hid h'
  clear h h'
  go_enter Try.func88, Try.ntmps88
  go_wp2
  go_loop [3, 11] (fun s i => (i = .int .i64 0 ∧ s = .int .i64 0) ∨ (i = .int .i64 1 ∧ s = .int .i64 xs.length) ∨ (i = .int .i64 2 ∧ s = .int .i64 (xs.length + ys.length : Nat))) (fun _ i => 2 - (intOf i).toNat)
  case atStart => exact .inl ⟨rfl, rfl⟩
  case round =>
    rcases hrel with ⟨rfl, rfl⟩ | ⟨rfl, rfl⟩ | ⟨rfl, rfl⟩
    · go_wp2
      go_round
      case rel => exact .inr (.inl ⟨by go_num, by go_num⟩)
      case measure => simp [intOf]
    · go_wp2
      go_round
      case rel => exact .inr (.inr ⟨by go_num, by go_num⟩)
      case measure => simp [intOf]
    · go_wp2_with fail
      refine (grow_nil _ _ hl).mono ?_
      rintro e w1 ⟨z, rfl, hown, hE⟩
      have HO := Lib.hid hown
      have HE := Lib.hid hE
      clear hown hE
      go_wp2
      go_loopw [6, 27] (fun v i wr => ((i = .int .i64 0 ∧ Own w.heap.size wr v []) ∨ (i = .int .i64 1 ∧ Own w.heap.size wr v xs) ∨ (i = .int .i64 2 ∧ Own w.heap.size wr v (xs ++ ys))) ∧ Ext w wr) (fun _ i _ => 2 - (intOf i).toNat)
      case atStart => exact ⟨.inl ⟨rfl, HO.out⟩, HE.out⟩
      case round =>
        obtain ⟨hr, hX⟩ := hrel
        have d0 := hX.cell c0
        have d1 := hX.cell c1
        have hz := hX.size
        rcases hr with ⟨rfl, hown⟩ | ⟨rfl, hown⟩ | ⟨rfl, hown⟩
        · go_wp2_with (at_builtin; refine wpList_app rfl _ _ rfl rfl w.heap.size _ [] rfl hown _ xs rfl (HX.out.ext hX) (by simp; omega) hz ?_; intro v' w2 hown2 hgrow2 hat2)
          go_roundw
          case rel => exact ⟨.inr (.inl ⟨by go_num, by simpa using hown2⟩), hX.grown hgrow2 (fun k hk => (hown.lt k hk).1)⟩
          case measure => simp [intOf]
        · go_wp2_with (at_builtin; refine wpList_app rfl _ _ rfl rfl w.heap.size _ xs rfl hown _ ys rfl (HY.out.ext hX) hl hz ?_; intro v' w2 hown2 hgrow2 hat2)
          go_roundw
          case rel => exact ⟨.inr (.inr ⟨by go_num, hown2⟩), hX.grown hgrow2 (fun k hk => (hown.lt k hk).1)⟩
          case measure => simp [intOf]
        · go_wp2
          go_ret
          exact ⟨_, rfl, hown, hX⟩
end Go.Proofs.Ytbedfjbnafflfaa

/- The library at a crew's deques: Concat of all of them, Clone of one (an empty one has no room); how many tasks all deques hold. -/
namespace Go.Proofs.Ytbedfjbnafflfaa
open Go.BigFrame
open Go.RowKit Go.Proofs.Ytbedfjbnafflfaa.Plain

theorem zs_app (a b : List Nat) : zs (a ++ b) = zs a ++ zs b := by unfold zs; simp
/-- of the first deques -/
def upTo (D : List (List Nat)) (k : Nat) : List Nat := (D.take k).flatten
theorem upTo_succ (D : List (List Nat)) (k : Nat) (hk : k < D.length) : upTo D (k + 1) = upTo D k ++ D.getD k [] := by
  unfold upTo
  rw [List.take_succ_eq_append_getElem hk, List.flatten_append, getDp hk]; simp
theorem upTo_all (D : List (List Nat)) : upTo D D.length = held D := by unfold upTo held; rw [List.take_length]
theorem upTo_le (D : List (List Nat)) (k : Nat) : (upTo D k).length ≤ (held D).length := by
  have h : held D = upTo D k ++ (D.drop k).flatten := by unfold held upTo; rw [← List.flatten_append, List.take_append_drop]
  rw [h, List.length_append]; omega

set_option maxHeartbeats 800000 in
set_option maxRecDepth 100000 in
theorem concat_all (b off m e : Nat) (hs : Nat → Hd) (D : List (List Nat)) (w : World) (h : Hds (fun _ => False) w b off m hs D) (hm : m ≤ 8) (hl : (held D).length ≤ 1000000) :
    Calls Try.prog 88 #[.slice (some ⟨b, off, none⟩) m e] w fun ed w' => ∃ A c, ed = .returned (.slice A (held D).length c) ∧ Own w.heap.size w' (.slice A (held D).length c) (zs (held D)) ∧ Ext w w' := by
  have H := Lib.hid h
  have HDL : Hid (D.length = m) := Lib.hid h.1
  have hm' : (m : Int) ≤ 8 := by omega
  obtain ⟨N, hN⟩ : ∃ N, (held D).length = N := ⟨_, rfl⟩
  rw [hN] at hl ⊢
  have HN := Lib.hid hN
  clear h hN
  go_enter Try.func88, Try.ntmps88
  go_wp2_with fail
  go_loop [3, 11] (fun s i => ∃ k : Nat, k ≤ m ∧ i = .int .i64 k ∧ s = .int .i64 ((upTo D k).length : Nat)) (fun _ i => m - (intOf i).toNat)
  case atStart => exact ⟨0, Nat.zero_le _, rfl, rfl⟩
  case round =>
    obtain ⟨k, hk, rfl, rfl⟩ := hrel
    have hk0 : (0 : Int) ≤ k := by omega
    by_cases hlt : k < m
    · have hlt' : (k : Int) < m := by omega
      obtain ⟨z, zn, _⟩ := H.out.2 k hlt
      obtain ⟨u1, hu1⟩ : ∃ x, (upTo D k).length = x := ⟨_, rfl⟩
      obtain ⟨u2, hu2⟩ : ∃ x, (hs k).n = x := ⟨_, rfl⟩
      have hsucc : (upTo D (k + 1)).length = u1 + u2 := by rw [upTo_succ D k (by rw [HDL.out]; exact hlt), List.length_append, hu1, ← hu2, zn]
      have hb := upTo_le D (k + 1)
      rw [hsucc, HN.out] at hb
      have hb1 : (u1 : Int) ≤ 1000000 := by omega
      have hb2 : (u2 : Int) ≤ 1000000 := by omega
      have HS := Lib.hid hsucc
      unfold Hd.v at z
      rw [hu2] at z
      rw [hu1]
      clear hsucc hb zn hu1 hu2
      go_wp2_with fail
      go_round
      case rel => exact ⟨k + 1, by omega, by go_num, by rw [HS.out]; go_num⟩
      case measure => simp [intOf]; omega
    · obtain rfl : k = m := by omega
      have hu : (upTo D k).length = N := by rw [← HDL.out, upTo_all D, HN.out]
      rw [hu]
      clear hu
      go_wp2_with fail
      refine (grow_nil _ _ (by omega)).mono ?_
      rintro ed w1 ⟨z, rfl, hown, hE⟩
      have HO := Lib.hid hown
      have HE := Lib.hid hE
      clear hown hE
      go_wp2
      go_loopw [6, 27] (fun v i wr => ∃ j : Nat, j ≤ k ∧ i = .int .i64 j ∧ Own w.heap.size wr v (zs (upTo D j)) ∧ Ext w wr) (fun _ i _ => k - (intOf i).toNat)
      case atStart => exact ⟨0, Nat.zero_le _, rfl, by first | exact HO.out | (unfold upTo; simpa [zs] using HO.out), HE.out⟩
      case round =>
        obtain ⟨j, hj, rfl, hown, hX⟩ := hrel
        have hj0 : (0 : Int) ≤ j := by omega
        by_cases hlt2 : j < k
        · have hlt3 : (j : Int) < k := by omega
          obtain ⟨z, zn, zr⟩ := H.out.2 j hlt2
          have z' := hX.cell z
          have hz := hX.size
          have HZ : Hid (Ints wr (hs j).v (zs (D.getD j []))) := Lib.hid (ints_of_rd (zr.rd.ext hX))
          have hsucc : zs (upTo D (j + 1)) = zs (upTo D j) ++ zs (D.getD j []) := by rw [upTo_succ D j (by rw [HDL.out]; exact hlt2), zs_app]
          have hb := upTo_le D (j + 1)
          have HB : Hid ((zs (upTo D j)).length + (zs (D.getD j [])).length ≤ 1048576) := Lib.hid (by rw [← List.length_append, ← hsucc, zs_len]; have := HN.out; omega)
          have HS := Lib.hid hsucc
          clear hsucc hb zn zr z
          go_wp2_with (at_builtin; refine wpList_app rfl _ _ rfl rfl w.heap.size _ (zs (upTo D j)) rfl hown _ (zs (D.getD j [])) rfl HZ.out HB.out hz ?_; intro v' w2 hown2 hgrow2 hat2)
          go_roundw
          case rel => exact ⟨j + 1, by omega, by go_num, by rw [HS.out]; exact hown2, hX.grown hgrow2 (fun k hk => (hown.lt k hk).1)⟩
          case measure => simp [intOf]; omega
        · obtain rfl : j = k := by omega
          have hu : upTo D j = held D := by rw [← HDL.out]; exact upTo_all D
          rw [hu] at hown
          clear hu
          go_wp2
          go_ret
          obtain ⟨A, c, rfl, _⟩ := hown.shape
          rw [zs_len, HN.out] at hown ⊢
          exact ⟨A, c, rfl, hown, hX⟩

theorem run_app0 (w : World) (g : Nat) (ad : Addr) (c : Nat) : (Builtin.append_ #[33, 33] 33 #[.slice (some ⟨g, 0, none⟩) 0 0, .slice (some ad) 0 c]).run Try.prog w = .ok (.slice (some ⟨g, 0, none⟩) 0 0) w := by
  obtain ⟨i0, hi, hz0, hz1, hz2⟩ := info_parts intInfo
  simp [Builtin.append_, run_underlying Try.underlying33, sizeOf, typeInfo, hi, Builtin.lenOf, Builtin.firstCells, storeCells, loadCells, loadCellsFrom]
theorem wpList_app0 {ops : Array Oper} {rest : List Oper} {o : Oper} {a : Act} {w : World} {Q : Exit → Act → World → Prop} (hgd : o.guard = none) (s x : Operand)
    (ho : o.op = .call { callee := .builtin .append, args := #[s, x], argTypes := #[33, 33] }) (hty : o.type = 33) (g : Nat) (ad : Addr) (c : Nat) (hs : a.eval s = .slice (some ⟨g, 0, none⟩) 0 0) (hx : a.eval x = .slice (some ad) 0 c)
    (h : wpList Try.prog ops Q rest (a.put o.dst (.slice (some ⟨g, 0, none⟩) 0 0)) w) : wpList Try.prog ops Q (o :: rest) a w :=
  wpList_plain hgd fun K hK => by
    unfold Oper.wp execOp
    simp only [ho, hty, resolve, invoke, builtin, Sem.run_bind, Sem.run_pure, Result.andThen_ok, List.map_toArray, List.map_cons, List.map_nil, hs, hx, run_app0]
    exact hK _ _ h
/-- an empty list is cloned: no room -/
theorem clone_empty (A : Option Addr) (c : Nat) (w : World) :
    Calls Try.prog 73 #[.slice A 0 c] w fun e w' => ∃ A, e = .returned (.slice A 0 0) ∧ Ext w w' := by
  have hnil := fun (w : World) (a : Option Addr) (n c : Nat) => Lib.run_eql_slice_nil w 33 3 a n c 0 0 Try.underlying33
  cases A with
  | none =>
    go_enter Try.func73, Try.ntmps73
    go_wp2
    go_ret
    exact ⟨_, rfl, Ext.refl _⟩
  | some ad =>
    go_enter Try.func73, Try.ntmps73
    go_wp2_with (at_builtin; refine wpList_app0 rfl _ _ rfl rfl _ ad c rfl rfl ?_)
    go_ret
    exact ⟨_, rfl, (Ext.refl _).alloc _⟩
/-- a deque is cloned: an empty one has no room then -/
theorem clone_dq (h : Hd) (xs : List Nat) (w : World) (hr : Rd kInt w h.v (zs xs)) (hn : h.n = xs.length) (hl : xs.length ≤ 1000000) :
    Calls Try.prog 73 #[h.v] w fun e w' => ∃ k : Hd, e = .returned k.v ∧ k.n = xs.length ∧ (k.n = 0 → k.c = 0) ∧ (∀ S : Nat → Prop, (∀ x, S x → x < w.heap.size) → RdO kInt S w' k.v (zs xs)) ∧ Ext w w' := by
  by_cases h0 : xs.length = 0
  · obtain rfl : xs = [] := List.eq_nil_of_length_eq_zero h0
    obtain ⟨A, n, c⟩ := h
    obtain rfl : n = 0 := hn
    exact (clone_empty A c w).mono fun e w' ⟨A, he, hE⟩ => ⟨⟨A, 0, 0⟩, he, rfl, fun _ => rfl, fun S _ => RdO.nil S w' A 0, hE⟩
  · refine (clone_any h.v (zs xs) w (ints_of_rd hr) (by rw [zs_len]; omega)).mono ?_
    rintro e w' ⟨A, c, he, ho, hE⟩
    rw [zs_len] at he ho
    exact ⟨⟨A, xs.length, c⟩, he, rfl, fun hh => absurd hh h0, fun S hS => (rd_of_ints ho.ints).offFrom ho.from hS, hE⟩
set_option maxHeartbeats 800000 in
set_option maxRecDepth 100000 in
theorem cheld_any (A B : Option Addr) (eb eo a b e g m : Nat) (c : Cw) (hs : Nat → Hd) (w : World) (h : Hds (fun _ => False) w eb eo m hs c.D) (hm : m ≤ 8) (hl : (held c.D).length ≤ 1000000) :
    Calls Try.prog 70 #[crewV A B eb eo a b e g m c] w fun ed w' => ed = .returned (.int .i64 (held c.D).length) ∧ Ext w w' := by
  have H := Lib.hid h
  have HDL : Hid (c.D.length = m) := Lib.hid h.1
  have hm' : (m : Int) ≤ 8 := by omega
  obtain ⟨N, hN⟩ : ∃ N, (held c.D).length = N := ⟨_, rfl⟩
  rw [hN] at hl ⊢
  have HN := Lib.hid hN
  clear h hN
  go_enter Try.func70, Try.ntmps70
  go_wp2_with fail
  go_loopw [3, 9] (fun s i wr => ∃ k : Nat, k ≤ m ∧ i = .int .i64 k ∧ s = .int .i64 ((upTo c.D k).length : Nat) ∧ Ext w wr) (fun _ i _ => m - (intOf i).toNat)
  case atStart => exact ⟨0, Nat.zero_le _, rfl, rfl, (Ext.refl _).alloc _⟩
  case round =>
    obtain ⟨k, hk, rfl, rfl, hX⟩ := hrel
    have hk0 : (0 : Int) ≤ k := by omega
    by_cases hlt : k < m
    · have hlt' : (k : Int) < m := by omega
      obtain ⟨z0, zn, _⟩ := H.out.2 k hlt
      have z := hX.cell z0
      obtain ⟨u1, hu1⟩ : ∃ x, (upTo c.D k).length = x := ⟨_, rfl⟩
      obtain ⟨u2, hu2⟩ : ∃ x, (hs k).n = x := ⟨_, rfl⟩
      have hsucc : (upTo c.D (k + 1)).length = u1 + u2 := by rw [upTo_succ c.D k (by rw [HDL.out]; exact hlt), List.length_append, hu1, ← hu2, zn]
      have hb := upTo_le c.D (k + 1)
      rw [hsucc, HN.out] at hb
      have hb1 : (u1 : Int) ≤ 1000000 := by omega
      have hb2 : (u2 : Int) ≤ 1000000 := by omega
      have HS := Lib.hid hsucc
      unfold Hd.v at z
      rw [hu2] at z
      rw [hu1]
      clear hsucc hb zn hu1 hu2 z0
      go_wp2_with fail
      go_roundw
      case rel => exact ⟨k + 1, by omega, by go_num, by rw [HS.out]; go_num, hX⟩
      case measure => simp [intOf]; omega
    · obtain rfl : k = m := by omega
      have hu : (upTo c.D k).length = N := by rw [← HDL.out, upTo_all c.D, HN.out]
      rw [hu]
      clear hu
      go_wp2_with fail
      go_ret
      exact ⟨rfl, hX⟩
end Go.Proofs.Ytbedfjbnafflfaa

/- The document's small words of a crew (ref05): cut, Held. -/
namespace Go.Proofs.Ytbedfjbnafflfaa
open Go.BigFrame
open Go.RowKit Go.Proofs.Ytbedfjbnafflfaa.Plain

set_option maxRecDepth 100000 in
theorem rcut_any (p : Int) (m : Nat) (w : World) (hp : in64 p) (m1 : 1 ≤ m) (m2 : m ≤ 8) :
    Calls Try.prog 54 #[.int .i64 p, .int .i64 m] w fun e w' => e = .returned (.int .i64 (cutN m p)) ∧ w = w' := by
  obtain ⟨h1, h2⟩ := tmod_cut m p m1
  have hm0 : (1 : Int) ≤ m := by omega
  have hm8 : (m : Int) ≤ 8 := by omega
  have h3 := Int.tmod_lt_of_pos p (by omega : (0 : Int) < m)
  have h4 := cutN_lt m p m1
  obtain ⟨hp1, hp2⟩ := hp
  obtain ⟨r, hr⟩ : ∃ r, p.tmod m = r := ⟨_, rfl⟩
  rw [hr] at h1 h2 h3
  have hr0 : -8 ≤ r := by
    rcases Int.lt_or_le r 0 with h | h
    · have := h2 h; omega
    · omega
  have HR := Lib.hid hr
  clear hr
  rcases Int.lt_or_le r 0 with h | h
  · have HQ : Hid (r + m = (cutN m p : Int)) := Lib.hid (h2 h)
    clear h1 h2
    go_enter Try.func54, Try.ntmps54
    go_wp2
    all_goals (try rw [HR.out] at *)
    all_goals first | (exfalso; omega) | skip
    all_goals go_ret
    all_goals exact ⟨ret_int (by first | exact HQ.out | (rw [← HQ.out]; exact IntWalk.i64_in _ (by omega)) | (rw [HR.out]; exact HQ.out) | (rw [IntWalk.wrap64_in _ (by omega)]; exact HQ.out) | (have := HQ.out; have := HR.out; omega)), rfl⟩
  · have HQ : Hid (r = (cutN m p : Int)) := Lib.hid (h1 h)
    clear h1 h2
    go_enter Try.func54, Try.ntmps54
    go_wp2
    all_goals (try rw [HR.out] at *)
    all_goals first | (exfalso; omega) | skip
    all_goals go_ret
    all_goals exact ⟨ret_int (by first | exact HQ.out | (rw [HR.out]; exact HQ.out) | (have := HQ.out; have := HR.out; omega)), rfl⟩
set_option maxHeartbeats 800000 in
set_option maxRecDepth 100000 in
theorem rheld_any (A B : Option Addr) (eb eo a b e g m : Nat) (c : Cw) (hs : Nat → Hd) (w : World) (h : Hds (fun _ => False) w eb eo m hs c.D) (hm : m ≤ 8) (hl : (held c.D).length ≤ 1000000) :
    Calls Try.prog 61 #[crewV A B eb eo a b e g m c] w fun ed w' => ed = .returned (.int .i64 (held c.D).length) ∧ Ext w w' := by
  have H := Lib.hid h
  have HDL : Hid (c.D.length = m) := Lib.hid h.1
  have hm' : (m : Int) ≤ 8 := by omega
  obtain ⟨N, hN⟩ : ∃ N, (held c.D).length = N := ⟨_, rfl⟩
  rw [hN] at hl ⊢
  have HN := Lib.hid hN
  clear h hN
  go_enter Try.func61, Try.ntmps61
  go_wp2_with fail
  have c3 : (w.alloc (.cells #[.slice A c.ts.length a, .int .i64 g, .slice B c.dn.length b, .slice (some ⟨eb, eo, none⟩) m e, .bool c.over, .int .i64 c.st, .int .i64 c.id] 60)).cell? ⟨w.heap.size, 3, none⟩ = some (.slice (some ⟨eb, eo, none⟩) m e) := by go_simp
  have HX0 : Hid (Ext w (w.alloc (.cells #[.slice A c.ts.length a, .int .i64 g, .slice B c.dn.length b, .slice (some ⟨eb, eo, none⟩) m e, .bool c.over, .int .i64 c.st, .int .i64 c.id] 60))) := Lib.hid ((Ext.refl _).alloc _)
  generalize (w.alloc (.cells #[.slice A c.ts.length a, .int .i64 g, .slice B c.dn.length b, .slice (some ⟨eb, eo, none⟩) m e, .bool c.over, .int .i64 c.st, .int .i64 c.id] 60)) = w1 at *
  go_loopw [3, 4] (fun s i wr => ∃ k : Nat, k ≤ m ∧ i = .int .i64 k ∧ s = .int .i64 ((upTo c.D k).length : Nat) ∧ Ext w1 wr) (fun _ i _ => m - (intOf i).toNat)
  case atStart => exact ⟨0, Nat.zero_le _, rfl, rfl, Ext.refl _⟩
  case round =>
    obtain ⟨k, hk, rfl, rfl, hX⟩ := hrel
    have d3 := hX.cell c3
    have hk0 : (0 : Int) ≤ k := by omega
    by_cases hlt : k < m
    · have hlt' : (k : Int) < m := by omega
      obtain ⟨z0, zn, _⟩ := H.out.2 k hlt
      have z := (HX0.out.trans hX).cell z0
      obtain ⟨u1, hu1⟩ : ∃ x, (upTo c.D k).length = x := ⟨_, rfl⟩
      obtain ⟨u2, hu2⟩ : ∃ x, (hs k).n = x := ⟨_, rfl⟩
      have hsucc : (upTo c.D (k + 1)).length = u1 + u2 := by rw [upTo_succ c.D k (by rw [HDL.out]; exact hlt), List.length_append, hu1, ← hu2, zn]
      have hb := upTo_le c.D (k + 1)
      rw [hsucc, HN.out] at hb
      have hb1 : (u1 : Int) ≤ 1000000 := by omega
      have hb2 : (u2 : Int) ≤ 1000000 := by omega
      have HS := Lib.hid hsucc
      unfold Hd.v at z
      rw [hu2] at z
      rw [hu1]
      clear hsucc hb zn hu1 hu2 z0
      go_wp2_with fail
      go_roundw
      case rel => exact ⟨k + 1, by omega, by go_num, by rw [HS.out]; go_num, hX⟩
      case measure => simp [intOf]; omega
    · obtain rfl : k = m := by omega
      have hu : (upTo c.D k).length = N := by rw [← HDL.out, upTo_all c.D, HN.out]
      rw [hu]
      clear hu
      go_wp2_with fail
      go_ret
      exact ⟨rfl, HX0.out.trans hX⟩
end Go.Proofs.Ytbedfjbnafflfaa

/- A region whose order is open and whose operations, but one that writes and a tail in one order, leave all that was there as it was: what each of them leaves is said once, whatever the order. -/
namespace Go.Proofs.Ytbedfjbnafflfaa.MonoW
open Go.RowKit Go.Proofs.Ytbedfjbnafflfaa Go.Proofs.Ytbedfjbnafflfaa.Mono

/-- what an operation may do to memory: only q may write -/
structure Out (q : Nat) (S : World → World → Prop) (i : Nat) (w w' : World) : Prop where
  all : S w w'
  ext : i ≠ q → Ext w w'
theorem Out.of {q i : Nat} {S : World → World → Prop} {w w' : World} (hSE : ∀ w w', Ext w w' → S w w') (h : Ext w w') : Out q S i w w' := ⟨hSE _ _ h, fun _ => h⟩
theorem Out.write {q : Nat} {S : World → World → Prop} {w w' : World} (h : S w w') : Out q S q w w' := ⟨h, fun e => absurd rfl e⟩
section
variable {P : Program} {l : List Oper} {m q : Nat} {S : World → World → Prop} {Q : Exit → Act → World → Prop} {a0 : Act} {w0 : World} {V : Nat → World → List Value → Value → Prop}

def Inv (P : Program) (l : List Oper) (m : Nat) (Q : Exit → Act → World → Prop) (a0 : Act) (w0 : World) (V : Nat → World → List Value → Value → Prop) (q : Nat) (S : World → World → Prop) (listed : Array Bool) (a : Act) (w : World) : Prop :=
  listed.size = l.length ∧
  ((∃ vals : Nat → Value, (S w0 w ∧ (listed.getD q false = false → Ext w0 w)) ∧ (∀ j, m ≤ j → listed.getD j false = false) ∧ (∀ i, listed.getD i false = true → ∀ j ∈ deps l i, listed.getD j false = true) ∧
      (∀ i, i < m → listed.getD i false = true → V i w ((deps l i).map vals) (vals i)) ∧ a = sel listed vals (l.take m) 0 a0) ∨
   (∃ k, m ≤ k ∧ k ≤ l.length ∧ (∀ j, j < l.length → (listed.getD j false = true ↔ j < k)) ∧ wpList P l.toArray Q (l.drop k) a w))

theorem step (hB : monoB l m = true) (hSE : ∀ w w', Ext w w' → S w w') (hST : ∀ a b c, S a b → S b c → S a c) (hst : ∀ i w w' d v, V i w d v → Ext w w' → V i w' d v) (hsw : ∀ i w w' d v, i ≠ q → V i w d v → S w w' → V i w' d v)
    (hop : ∀ i o, i < m → l[i]? = some o → ∀ (vals : Nat → Value) (w : World), S w0 w → (i = q → Ext w0 w) → (∀ j, (deps l i).contains j = true → V j w ((deps l j).map vals) (vals j)) →
      if Region.wanted o (yielded l.toArray (all vals (l.take m) 0 a0).tmps) = true
      then Mono.Yields P (fun v w' => Out q S i w w' ∧ V i w' ((deps l i).map vals) v) ((execOp (all vals (l.take m) 0 a0).eval o).run P w)
      else V i w ((deps l i).map vals) undef)
    (hend : ∀ (vals : Nat → Value) (w : World), S w0 w → (∀ j, j < m → V j w ((deps l j).map vals) (vals j)) → wpList P l.toArray Q (l.drop m) (all vals (l.take m) 0 a0) w)
    (listed : Array Bool) (a : Act) (w : World) (i : Nat) (hI : Inv P l m Q a0 w0 V q S listed a w) (hi : i ∈ Region.ready .any l.toArray listed) :
    wpOp P l.toArray Q i (Inv P l m Q a0 w0 V q S (listed.setIfInBounds i true)) a w := by
  obtain ⟨hsz, hI⟩ := hI
  obtain ⟨hun, o, ho', hall⟩ := mem_ready.1 hi
  have ho : l[i]? = some o := by simpa using ho'
  have hil : i < l.length := by
    rcases Nat.lt_or_ge i l.length with h | h
    · exact h
    · rw [List.getElem?_eq_none h] at ho; cases ho
  have hsi : i < listed.size := by omega
  have hunf : listed.getD i false = false := by
    rw [← hun]; simp [hsi]
  obtain ⟨k1, k2, k3, k4, k5⟩ := ok_parts hB ho
  have hdl : ∀ j ∈ deps l i, listed.getD j false = true := fun j hj => by
    obtain ⟨e, he, hb, rfl⟩ := deps_mem ho hj
    exact hall e he hb
  have hml : m ≤ l.length := by
    unfold monoB at hB
    simp only [Bool.and_eq_true, decide_eq_true_eq] at hB
    exact hB.1
  have hdrop : ∀ k, l[k]? = some o → l.drop k = o :: l.drop (k + 1) := fun k hk => by
    have hkl : k < l.length := by
      rcases Nat.lt_or_ge k l.length with h | h
      · exact h
      · rw [List.getElem?_eq_none h] at hk; cases hk
    rw [List.drop_eq_getElem_cons hkl]
    rw [List.getElem?_eq_getElem hkl] at hk
    cases hk; rfl
  rcases hI with ⟨vals, hE, htail, hdc, hV, ha⟩ | ⟨k, hmk, hkl, hiff, hw⟩
  · rcases Nat.lt_or_ge i m with him | him
    · have hcl := clo_listed hdc l.length i hdl
      have hjm : ∀ j, listed.getD j false = true → j < m := fun j hj => by
        rcases Nat.lt_or_ge j m with h | h
        · exact h
        · rw [htail j h] at hj; cases hj
      have hob := hop i o him ho vals w hE.1 (fun e => hE.2 (by rw [← e]; exact hunf)) (fun j hj => hV j (hjm j (hdl j (by simpa using hj))) (hdl j (by simpa using hj)))
      have hsame := uns_same (ops := l.toArray) (listed := listed) (vals := vals) (x := o) k2 (l.take m) 0 a (fun j oj hj hlj d hd => by
        rw [List.getElem?_take] at hj
        split at hj
        · rename_i hjm'
          exact k3 him j oj hjm' hj (fun hmem => by have := hdl j hmem; rw [Nat.zero_add] at hlj; rw [hlj] at this; cases this) d hd
        · cases hj)
      rw [ha, ← all_eq (l.take m) 0 a0 (Mono.distinct hB)] at hsame
      rw [hsame.2, hsame.1, ← ha] at hob
      have hnew : ∀ v w', Out q S i w w' → V i w' ((deps l i).map vals) v → Inv P l m Q a0 w0 V q S (listed.setIfInBounds i true) (a.put o.dst v) w' := by
        intro v w' hE' hVi
        refine ⟨by simpa using hsz, .inl ⟨upd vals i v, ⟨hST _ _ _ hE.1 hE'.1, fun hq => ?_⟩, fun j hj => ?_, fun i' hi' j hj => ?_, fun i' him' hi' => ?_, ?_⟩⟩
        · rw [set_getD hsi] at hq
          by_cases e : q = i
          · rw [if_pos e] at hq; cases hq
          · rw [if_neg e] at hq; exact (hE.2 hq).trans (hE'.2 (fun e' => e e'.symm))
        · rw [set_getD hsi, if_neg (by omega)]; exact htail j hj
        · rw [set_getD hsi] at hi' ⊢
          by_cases e : i' = i
          · subst e
            split
            · rfl
            · exact hdl j hj
          · rw [if_neg e] at hi'
            split
            · rfl
            · exact hdc i' hi' j hj
        · rw [set_getD hsi] at hi'
          by_cases e : i' = i
          · subst e
            have : (deps l i').map (upd vals i' v) = (deps l i').map vals := List.map_congr_left fun j hj => by
              have := k1 j hj
              simp [upd]; omega
            rw [this]
            simpa [upd] using hVi
          · rw [if_neg e] at hi'
            have : (deps l i').map (upd vals i v) = (deps l i').map vals := List.map_congr_left fun j hj => by
              have hjl := hdc i' hi' j hj
              have : j ≠ i := fun h => by subst h; rw [hunf] at hjl; cases hjl
              simp [upd, this]
            rw [this]
            have h2 : upd vals i v i' = vals i' := by simp [upd, e]
            rw [h2]
            by_cases e' : i = q
            · exact hsw _ _ _ _ _ (fun h => e (h.trans e'.symm)) (hV i' him' hi') hE'.1
            · exact hst _ _ _ _ _ (hV i' him' hi') (hE'.2 e')
        · rw [ha]
          exact (sel_set hsi hunf (l.take m) 0 a0 (Nat.zero_le _) (by rw [Nat.sub_zero, List.getElem?_take, if_pos him]; exact ho) (Mono.distinct hB)).symm
      unfold wpOp
      simp only [ho']
      by_cases hwant : Region.wanted o (yielded l.toArray a.tmps) = true
      · rw [if_pos hwant] at hob ⊢
        exact .inl (wp_of_yields hob (fun v w' h => hnew v w' h.1 h.2))
      · rw [if_neg hwant] at hob ⊢
        exact hnew undef w (Out.of hSE (Ext.refl _)) hob
    · have hmi : i = m := by
        rcases Nat.lt_or_ge m i with h | h
        · have := near_listed hdc hdl (k5 him m h)
          rw [htail m (Nat.le_refl _)] at this; cases this
        · omega
      subst hmi
      have hpre : ∀ j, j < i → listed.getD j false = true := fun j hj => near_listed hdc hdl (k5 him j hj)
      have hall' : a = all vals (l.take i) 0 a0 := by
        rw [ha]
        exact sel_all _ _ _ (fun j _ hj => hpre j (by simp at hj; omega))
      have hw := hend vals w hE.1 (fun j hj => hV j hj (hpre j hj))
      rw [← hall', hdrop i ho] at hw
      refine wpOp_mono (fun a' w' h => ?_) (wpOp_list ho hw)
      refine ⟨by simpa using hsz, .inr ⟨i + 1, by omega, by omega, fun j hj => ?_, h⟩⟩
      rw [set_getD hsi]
      by_cases e : j = i
      · subst e; simp
      · rw [if_neg e]
        constructor
        · intro h
          rcases Nat.lt_or_ge j i with h' | h'
          · omega
          · rw [htail j h'] at h; cases h
        · intro h; exact hpre j (by omega)
  · have hki : k = i := by
      rcases Nat.lt_or_ge i k with h | h
      · have := (hiff i hil).2 h
        rw [hunf] at this; cases this
      · rcases Nat.lt_or_ge k i with h' | h'
        · exact (near_tail hB (by omega) (by omega) hiff hdl (k5 (by omega) k h')).elim
        · omega
    subst hki
    rw [hdrop k ho] at hw
    refine wpOp_mono (fun a' w' h => ?_) (wpOp_list ho hw)
    refine ⟨by simpa using hsz, .inr ⟨k + 1, by omega, by omega, fun j hj => ?_, h⟩⟩
    rw [set_getD hsi]
    by_cases e : j = k
    · subst e; simp
    · rw [if_neg e, hiff j hj]; omega

/-- a region whose order is open: what each operation leaves is said once; one of them (q) may write, as S allows -/
theorem wp_region_write {id : Nat} (m q : Nat) (S : World → World → Prop) (V : Nat → World → List Value → Value → Prop) (hm : P.follows .mixedOrders = true) (hB : monoB l m = true)
    (hSE : ∀ w w', Ext w w' → S w w') (hST : ∀ a b c, S a b → S b c → S a c) (hst : ∀ i w w' d v, V i w d v → Ext w w' → V i w' d v) (hsw : ∀ i w w' d v, i ≠ q → V i w d v → S w w' → V i w' d v)
    (hop : ∀ i o, i < m → l[i]? = some o → ∀ (vals : Nat → Value) (w : World), S w0 w → (i = q → Ext w0 w) → (∀ j, (deps l i).contains j = true → V j w ((deps l j).map vals) (vals j)) →
      if Region.wanted o (yielded l.toArray (all vals (l.take m) 0 a0).tmps) = true
      then Mono.Yields P (fun v w' => Out q S i w w' ∧ V i w' ((deps l i).map vals) v) ((execOp (all vals (l.take m) 0 a0).eval o).run P w)
      else V i w ((deps l i).map vals) undef)
    (hend : ∀ (vals : Nat → Value) (w : World), S w0 w → (∀ j, j < m → V j w ((deps l j).map vals) (vals j)) → wpList P l.toArray Q (l.drop m) (all vals (l.take m) 0 a0) w) :
    (Code.region id l.toArray true).wp P Q a0 w0 := by
  have hml : m ≤ l.length := by
    unfold monoB at hB
    simp only [Bool.and_eq_true, decide_eq_true_eq] at hB
    exact hB.1
  refine wp_region_any hm (any_of_inv (Inv P l m Q a0 w0 V q S) (fun _ _ _ h => h.1) (step hB hSE hST hst hsw hop hend) (fun listed a w hI hr => ?_) _ _ _ _ ?_ ?_)
  · obtain ⟨hsz, hI⟩ := hI
    have hal := all_listed hB hsz hr
    rcases hI with ⟨vals, hE, htail, hdc, hV, ha⟩ | ⟨k, hmk, hkl, hiff, hw⟩
    · have hm' : m = l.length := by
        rcases Nat.lt_or_ge m l.length with h | h
        · have := hal m h
          rw [htail m (Nat.le_refl _)] at this; cases this
        · omega
      have hw := hend vals w hE.1 (fun j hj => hV j hj (hal j (by omega)))
      rw [ha, sel_all _ _ _ (fun j _ hj => hal j (by simp at hj; omega))]
      rw [hm', List.drop_length] at hw
      rw [hm']
      exact hw
    · have hk : k = l.length := by
        rcases Nat.lt_or_ge k l.length with h | h
        · have := (hiff k h).1 (hal k h)
          omega
        · omega
      subst hk
      rw [List.drop_length] at hw
      exact hw
  · unfold count
    exact Nat.le_trans (List.length_filter_le (fun b => !b) (Array.replicate l.toArray.size false).toList) (by simp)
  · refine ⟨by simp, .inl ⟨fun _ => undef, ⟨hSE _ _ (Ext.refl w0).drew, fun _ => (Ext.refl w0).drew⟩, fun j _ => ?_, fun i hi => ?_, fun i _ hi => ?_, ?_⟩⟩
    · by_cases h : j < l.length <;> simp [h]
    · exfalso
      by_cases h : i < l.length <;> simp [h] at hi
    · exfalso
      by_cases h : i < l.length <;> simp [h] at hi
    · have : ∀ (r : List Oper) (k : Nat) (a : Act), sel (Array.replicate l.toArray.size false) (fun _ => undef) r k a = a := by
        intro r
        induction r with
        | nil => intro k a; rfl
        | cons o r ih =>
          intro k a
          simp only [sel]
          rw [if_neg (by by_cases h : k < l.length <;> simp [h])]
          exact ih _ _
      exact (this _ _ _).symm
end
end Go.Proofs.Ytbedfjbnafflfaa.MonoW

/- Lists of the call's own behind a store into one block: in a region in which one append may write in place. -/
namespace Go.Proofs.Ytbedfjbnafflfaa
open Go.RowKit
/-- a block that may be written: a list's own -/
abbrev Wr (row : Option Nat) (w W : World) : Prop := Grew (fun b => row = some b) w W
theorem Wr.of (row : Option Nat) : ∀ w W, Ext w W → Wr row w W := fun _ _ h => Grew.of h
theorem Wr.tr (row : Option Nat) : ∀ a b c, Wr row a b → Wr row b c → Wr row a c := fun _ _ _ h k => h.trans k
theorem Wr.grown {row : Option Nat} {w W : World} (h : w.grownBy W row) : Wr row w W := ⟨h.os, h.tape, h.output, h.size, fun b hb hne => h.block b hb (fun e => hne e.symm)⟩
/-- .. none of an elder world -/
theorem Wr.toExt {row : Option Nat} {w0 w W : World} (h : Wr row w W) (h0 : Ext w0 w) (hr : ∀ b, row = some b → w0.heap.size ≤ b) : Ext w0 W := Grew.toExt h h0 hr
theorem block_wr {S : Nat → Prop} {w w' : World} {x : Nat} {o : Obj} (h : w.heap[x]? = some o) (hG : Grew S w w') (hS : ¬ S x) : w'.heap[x]? = some o := by
  have hlt : x < w.heap.size := by
    rcases Nat.lt_or_ge x w.heap.size with h' | h'
    · exact h'
    · rw [Array.getElem?_eq_none h'] at h; cases h
  exact (hG.block x hlt hS).trans h
theorem set_block {w : World} {b i : Nat} {cs : Array Value} {T : TypeId} {fr : Nat × Nat} (hb : w.heap[b]? = some (.cells cs T fr)) (v : Value) : (w.setCell ⟨b, i, none⟩ v).heap[b]? = some (.cells (cs.setIfInBounds i v) T fr) := by
  unfold World.setCell
  simp [Array.getElem?_modify, hb]
section
variable {α : Type} {K : Kd α}
theorem Ow.wr {S : Nat → Prop} {B : Nat} {w W : World} {v : Value} {xs : List α} (h : Ow K B w v xs) (hG : Grew S w W) (hS : ∀ k, v.ownBlock = some k → ¬ S k) : Ow K B W v xs := by
  obtain ⟨⟨h1, h2⟩, hb⟩ := h
  refine ⟨⟨h1, ?_⟩, hb⟩
  rcases h2 with h2 | ⟨g, cap, cur, hv, hg, hh, hr⟩
  · exact .inl h2
  · exact .inr ⟨g, cap, cur, hv, hg, block_wr hh hG (hS g (by rw [hv]; rfl)), hr⟩
/-- newer lists stay -/
theorem Ow.sw {row : Option Nat} {B : Nat} {w W : World} {v : Value} {xs : List α} (h : Ow K B w v xs) (hG : Wr row w W) (hr : ∀ b, row = some b → b < B) : Ow K B W v xs :=
  h.wr hG fun k hk e => by have := (h.lt k hk).1; have := hr k e; omega
theorem OwAt.sw {row : Option Nat} {B : Nat} {w W : World} {v : Value} {xs : List α} (h : OwAt K B w v xs) (hG : Wr row w W) (hr : ∀ b, row = some b → b < B) : OwAt K B W v xs := by
  obtain ⟨A, c, rfl, h⟩ := h
  exact ⟨A, c, rfl, h.sw hG hr⟩
theorem NewAt.sw {row : Option Nat} {B : Nat} {w W : World} {v : Value} (h : NewAt K B w v) (hG : Wr row w W) (hr : ∀ b, row = some b → b < B) : NewAt K B W v := by
  obtain ⟨x, rfl, hB, hx⟩ := h
  exact ⟨x, rfl, hB, block_wr hx hG (fun e => by have := hr x e; omega)⟩
/-- one element, as a list of its own: 'append(l, x)' lays it so -/
def OneAt (K : Kd α) (B : Nat) (w : World) (v : Value) (x : α) : Prop := ∃ p, v = .slice (some ⟨p, 0, none⟩) 1 1 ∧ Ow K B w (.slice (some ⟨p, 0, none⟩) 1 1) [x]
theorem OneAt.ext {B : Nat} {w W : World} {v : Value} {x : α} (h : OneAt K B w v x) (hE : Ext w W) : OneAt K B W v x := by
  obtain ⟨p, rfl, h⟩ := h
  exact ⟨p, rfl, h.ext hE⟩
theorem OneAt.sw {row : Option Nat} {B : Nat} {w W : World} {v : Value} {x : α} (h : OneAt K B w v x) (hG : Wr row w W) (hr : ∀ b, row = some b → b < B) : OneAt K B W v x := by
  obtain ⟨p, rfl, h⟩ := h
  exact ⟨p, rfl, h.sw hG hr⟩
theorem OneAt.made (K : Kd α) (w : World) {B : Nat} (hB : B ≤ w.heap.size) (cs : Array Value) (x : α) (hcs : cs.toList = K.cells x) (hok : K.ok x) : OneAt K B (w.alloc (.cells cs K.e)) (.slice (some ⟨w.heap.size, 0, none⟩) 1 1) x :=
  ⟨_, rfl, Ow.lit w [x] cs (by rw [hcs, Kd.flat_one]) rfl rfl hB (by unfold maxLen; omega) (by simpa using hok)⟩
/-- what an append leaves: the list with what was added; it is in the block where it was, or in a new one -/
def AppAt (K : Kd α) (B : Nat) (w : World) (v' : Value) (xs : List α) (v : Value) (n : Nat) : Prop := Ow K B w v' xs ∧ (v'.ownBlock = v.ownBlock ∨ ∃ p, v'.ownBlock = some p ∧ n ≤ p)
theorem AppAt.ext {B : Nat} {w W : World} {v' v : Value} {xs : List α} {n : Nat} (h : AppAt K B w v' xs v n) (hE : Ext w W) : AppAt K B W v' xs v n := ⟨h.1.ext hE, h.2⟩
/-- the append itself: 'v' lies where it lay in the elder world -/
theorem Kd.yields_grow (K : Kd α) {o : Oper} {a : Act} {w : World} {B n : Nat} {q : Nat} {R : Value → World → Prop} (s x : Operand) {v y : Value} {xs ys : List α} (hown : Ow K B w v xs) (hy : Rd K w y ys) (hl : xs.length + ys.length ≤ 1048576) (hB : B ≤ w.heap.size) (hn : n ≤ w.heap.size)
    (ho : o.op = .call { callee := .builtin .append, args := #[s, x], argTypes := #[K.t, K.t] }) (hty : o.type = K.t) (hs : a.eval s = v) (hx : a.eval x = y)
    (hR : ∀ v' w', AppAt K B w' v' (xs ++ ys) v n → MonoW.Out q (Wr v.ownBlock) q w w' → R v' w') : Mono.Yields Try.prog R ((execOp a.eval o).run Try.prog w) := by
  obtain ⟨v', w', hr, h1, h2, h3⟩ := K.run_app w B v xs hown y ys hy hl hB
  exact K.yields_app s x ho hty hs hx hr (hR v' w' ⟨h1, h3.imp_right fun h => ⟨_, h, hn⟩⟩ (MonoW.Out.write (Wr.grown h2)))
end
end Go.Proofs.Ytbedfjbnafflfaa

/- The document's copy of a crew (ref05): memory of its own. -/
namespace Go.Proofs.Ytbedfjbnafflfaa
open Go.BigFrame
open Go.RowKit Go.Proofs.Ytbedfjbnafflfaa.Plain

/-- a crew of the call's own memory: no list shares a block with another one -/
structure OwC (B : Nat) (w : World) (m : Nat) (c : Cw) (A A' : Option Addr) (e0 e a b : Nat) (L : List Hd) : Prop where
  tsk : Ow kTask B w (.slice A c.ts.length a) c.ts
  dns : Ow kBool B w (.slice A' c.dn.length b) c.dn
  row : Ow kRow B w (.slice (some ⟨e0, 0, none⟩) m e) L
  len : L.length = m
  dl : c.D.length = m
  els : ∀ j, j < m → (L.getD j hd0).n = (c.D.getD j []).length ∧ Ow kInt B w (L.getD j hd0).v (zs (c.D.getD j []))
  far : ∀ i j, i < m → j < m → i ≠ j → ∀ k, (L.getD i hd0).v.ownBlock = some k → (L.getD j hd0).v.ownBlock ≠ some k
theorem OwC.ext {B : Nat} {w W : World} {m : Nat} {c : Cw} {A A' : Option Addr} {e0 e a b : Nat} {L : List Hd} (h : OwC B w m c A A' e0 e a b L) (hE : Ext w W) : OwC B W m c A A' e0 e a b L :=
  ⟨h.tsk.ext hE, h.dns.ext hE, h.row.ext hE, h.len, h.dl, fun j hj => ⟨(h.els j hj).1, (h.els j hj).2.ext hE⟩, h.far⟩
/-- work of the call's own memory, as a value -/
def WorkOwn (B : Nat) (w : World) (v : Value) (ts : List Tk) (g : Int) (dn : List Bool) : Prop :=
  ∃ A c B' d, v = .agg #[.slice A ts.length c, .int .i64 g, .slice B' dn.length d] ∧ Ow kTask B w (.slice A ts.length c) ts ∧ Ow kBool B w (.slice B' dn.length d) dn
theorem WorkOwn.ext {B : Nat} {w W : World} {v : Value} {ts : List Tk} {g : Int} {dn : List Bool} (h : WorkOwn B w v ts g dn) (hE : Ext w W) : WorkOwn B W v ts g dn := by
  obtain ⟨A, c, B', d, h1, h2, h3⟩ := h
  exact ⟨A, c, B', d, h1, h2.ext hE, h3.ext hE⟩
/-- .. in a crew without deques -/
def CrewOwn0 (B : Nat) (w : World) (v : Value) (g : Int) (c : Cw) : Prop :=
  ∃ A a B' b, v = .agg #[.slice A c.ts.length a, .int .i64 g, .slice B' c.dn.length b, .slice none 0 0, .bool c.over, .int .i64 c.st, .int .i64 c.id] ∧ Ow kTask B w (.slice A c.ts.length a) c.ts ∧ Ow kBool B w (.slice B' c.dn.length b) c.dn
theorem CrewOwn0.ext {B : Nat} {w W : World} {v : Value} {g : Int} {c : Cw} (h : CrewOwn0 B w v g c) (hE : Ext w W) : CrewOwn0 B W v g c := by
  obtain ⟨A, a, B', d, h1, h2, h3⟩ := h
  exact ⟨A, a, B', d, h1, h2.ext hE, h3.ext hE⟩
/-- a new box -/
def BoxNew (B : Nat) (w : World) (v : Value) (cs : Array Value) (ty : TypeId) : Prop := ∃ x, v = .pointer (some ⟨x, 0, none⟩) ∧ B ≤ x ∧ w.heap[x]? = some (.cells cs ty (0, 0))
theorem BoxNew.ext {B : Nat} {w W : World} {v : Value} {cs : Array Value} {ty : TypeId} (h : BoxNew B w v cs ty) (hE : Ext w W) : BoxNew B W v cs ty := by
  obtain ⟨x, h1, h2, h3⟩ := h
  exact ⟨x, h1, h2, block_keep h3 hE⟩
theorem BoxNew.made (w : World) {B : Nat} (hB : B ≤ w.heap.size) (cs : Array Value) (ty : TypeId) : BoxNew B (w.alloc (.cells cs ty)) (.pointer (some ⟨w.heap.size, 0, none⟩)) cs ty := ⟨w.heap.size, rfl, hB, heap_alloc_new w _⟩
/-- lists lie in blocks of their own type alone -/
theorem Ow.notBox {α : Type} {K : Kd α} {B x : Nat} {w : World} {v : Value} {xs : List α} {cs : Array Value} {ty : TypeId} {r : Nat × Nat} (h : Ow K B w v xs) (hx : w.heap[x]? = some (.cells cs ty r)) (ht : K.e ≠ ty) : v.ownBlock ≠ some x := by
  obtain ⟨⟨h1, h2⟩, _⟩ := h
  rcases h2 with h2 | ⟨g, cap, cur, hv, hg, hh, hr⟩
  · rw [h2.1]; simp [Value.ownBlock]
  · rw [hv]
    simp only [Value.ownBlock, ne_eq, Option.some.injEq]
    intro e
    subst e
    rw [hh] at hx
    cases hx
    exact ht rfl

def R5C (w0 : World) (P : Nat) (A B : Option Addr) (eb eo a b e g m : Nat) (c : Cw) : Nat → World → List Value → Value → Prop
  | 0, w, ds, v => v = .pointer (some ⟨P, 0, none⟩)
  | 1, w, ds, v => v = .agg #[.slice A c.ts.length a, .int .i64 g, .slice B c.dn.length b]
  | 2, w, ds, v => WorkOwn w0.heap.size w v c.ts g c.dn
  | 3, w, ds, v => v = .pointer (some ⟨P, 4, none⟩)
  | 4, w, ds, v => v = .bool c.over
  | 5, w, ds, v => v = .pointer (some ⟨P, 5, none⟩)
  | 6, w, ds, v => v = .int .i64 c.st
  | 7, w, ds, v => v = .pointer (some ⟨P, 6, none⟩)
  | 8, w, ds, v => v = .int .i64 c.id
  | 9, w, ds, v => CrewOwn0 w0.heap.size w v g c
  | 10, w, ds, v => BoxNew w0.heap.size w v #[.slice none 0 0, .int .i64 0, .slice none 0 0, .slice none 0 0, .bool false, .int .i64 0, .int .i64 0] 60
  | _, _, _, _ => True
theorem R5C_ext (w0 : World) (P : Nat) (A B : Option Addr) (eb eo a b e g m : Nat) (c : Cw) : ∀ i w w' ds v, R5C w0 P A B eb eo a b e g m c i w ds v → Ext w w' → R5C w0 P A B eb eo a b e g m c i w' ds v
  | 0, _, _, _, _, h, _ => h
  | 1, _, _, _, _, h, _ => h
  | 2, _, _, _, _, h, hE => h.ext hE
  | 3, _, _, _, _, h, _ => h
  | 4, _, _, _, _, h, _ => h
  | 5, _, _, _, _, h, _ => h
  | 6, _, _, _, _, h, _ => h
  | 7, _, _, _, _, h, _ => h
  | 8, _, _, _, _, h, _ => h
  | 9, _, _, _, _, h, hE => h.ext hE
  | 10, _, _, _, _, h, hE => h.ext hE
  | _ + 11, _, _, _, _, _, _ => trivial
section
variable (w0 : World) (P : Nat) (A B : Option Addr) (eb eo a b e g m : Nat) (c : Cw) (w : World) (ds : List Value) (v : Value)
theorem R5C_i0 (h : v = .pointer (some ⟨P, 0, none⟩)) : R5C w0 P A B eb eo a b e g m c 0 w ds v := h
theorem R5C_e0 (h : R5C w0 P A B eb eo a b e g m c 0 w ds v) : v = .pointer (some ⟨P, 0, none⟩) := h
theorem R5C_i1 (h : v = .agg #[.slice A c.ts.length a, .int .i64 g, .slice B c.dn.length b]) : R5C w0 P A B eb eo a b e g m c 1 w ds v := h
theorem R5C_e1 (h : R5C w0 P A B eb eo a b e g m c 1 w ds v) : v = .agg #[.slice A c.ts.length a, .int .i64 g, .slice B c.dn.length b] := h
theorem R5C_i2 (h : WorkOwn w0.heap.size w v c.ts g c.dn) : R5C w0 P A B eb eo a b e g m c 2 w ds v := h
theorem R5C_e2 (h : R5C w0 P A B eb eo a b e g m c 2 w ds v) : WorkOwn w0.heap.size w v c.ts g c.dn := h
theorem R5C_i3 (h : v = .pointer (some ⟨P, 4, none⟩)) : R5C w0 P A B eb eo a b e g m c 3 w ds v := h
theorem R5C_e3 (h : R5C w0 P A B eb eo a b e g m c 3 w ds v) : v = .pointer (some ⟨P, 4, none⟩) := h
theorem R5C_i4 (h : v = .bool c.over) : R5C w0 P A B eb eo a b e g m c 4 w ds v := h
theorem R5C_e4 (h : R5C w0 P A B eb eo a b e g m c 4 w ds v) : v = .bool c.over := h
theorem R5C_i5 (h : v = .pointer (some ⟨P, 5, none⟩)) : R5C w0 P A B eb eo a b e g m c 5 w ds v := h
theorem R5C_e5 (h : R5C w0 P A B eb eo a b e g m c 5 w ds v) : v = .pointer (some ⟨P, 5, none⟩) := h
theorem R5C_i6 (h : v = .int .i64 c.st) : R5C w0 P A B eb eo a b e g m c 6 w ds v := h
theorem R5C_e6 (h : R5C w0 P A B eb eo a b e g m c 6 w ds v) : v = .int .i64 c.st := h
theorem R5C_i7 (h : v = .pointer (some ⟨P, 6, none⟩)) : R5C w0 P A B eb eo a b e g m c 7 w ds v := h
theorem R5C_e7 (h : R5C w0 P A B eb eo a b e g m c 7 w ds v) : v = .pointer (some ⟨P, 6, none⟩) := h
theorem R5C_i8 (h : v = .int .i64 c.id) : R5C w0 P A B eb eo a b e g m c 8 w ds v := h
theorem R5C_e8 (h : R5C w0 P A B eb eo a b e g m c 8 w ds v) : v = .int .i64 c.id := h
theorem R5C_i9 (h : CrewOwn0 w0.heap.size w v g c) : R5C w0 P A B eb eo a b e g m c 9 w ds v := h
theorem R5C_e9 (h : R5C w0 P A B eb eo a b e g m c 9 w ds v) : CrewOwn0 w0.heap.size w v g c := h
theorem R5C_i10 (h : BoxNew w0.heap.size w v #[.slice none 0 0, .int .i64 0, .slice none 0 0, .slice none 0 0, .bool false, .int .i64 0, .int .i64 0] 60) : R5C w0 P A B eb eo a b e g m c 10 w ds v := h
theorem R5C_e10 (h : R5C w0 P A B eb eo a b e g m c 10 w ds v) : BoxNew w0.heap.size w v #[.slice none 0 0, .int .i64 0, .slice none 0 0, .slice none 0 0, .bool false, .int .i64 0, .int .i64 0] 60 := h
end

def R5L (w0 : World) (row : Option Nat) (P V : Nat) (Ar A : Option Addr) (er eb eo e m k nh ch B : Nat) (L : List Hd) (D : List Nat) : Nat → World → List Value → Value → Prop
  | 0, w, ds, v => v = .pointer (some ⟨V, 3, none⟩)
  | 1, w, ds, v => v = .slice Ar k er
  | 2, w, ds, v => NewAt kInt w0.heap.size w v
  | 3, w, ds, v => v = .pointer (some ⟨P, 3, none⟩)
  | 4, w, ds, v => v = .slice (some ⟨eb, eo, none⟩) m e
  | 5, w, ds, v => v = .int .i64 k
  | 6, w, ds, v => v = .pointer (some ⟨eb, eo + k, none⟩)
  | 7, w, ds, v => v = .slice A nh ch
  | 8, w, ds, v => OwAt kInt w0.heap.size w v (zs D)
  | 9, w, ds, v => ∃ x, ds.getD 0 undef = x.v ∧ OneAt kRow w0.heap.size w v x
  | 10, w, ds, v => ∃ x : Hd, ds.getD 2 undef = x.v ∧ AppAt kRow B w v (L ++ [x]) (.slice Ar k er) w0.heap.size
  | _, _, _, _ => True
theorem R5L_ext (w0 : World) (row : Option Nat) (P V : Nat) (Ar A : Option Addr) (er eb eo e m k nh ch B : Nat) (L : List Hd) (D : List Nat) : ∀ i w w' ds v, R5L w0 row P V Ar A er eb eo e m k nh ch B L D i w ds v → Ext w w' → R5L w0 row P V Ar A er eb eo e m k nh ch B L D i w' ds v
  | 0, _, _, _, _, h, _ => h
  | 1, _, _, _, _, h, _ => h
  | 2, _, _, _, _, h, hE => NewAt.ext h hE
  | 3, _, _, _, _, h, _ => h
  | 4, _, _, _, _, h, _ => h
  | 5, _, _, _, _, h, _ => h
  | 6, _, _, _, _, h, _ => h
  | 7, _, _, _, _, h, _ => h
  | 8, _, _, _, _, h, hE => OwAt.ext h hE
  | 9, _, _, _, _, h, hE => (by obtain ⟨x, h1, h2⟩ := h; exact ⟨x, h1, OneAt.ext h2 hE⟩)
  | 10, _, _, _, _, h, hE => (by obtain ⟨x, h1, h2⟩ := h; exact ⟨x, h1, h2.ext hE⟩)
  | _ + 11, _, _, _, _, _, _ => trivial
theorem R5L_sw (w0 : World) (row : Option Nat) (P V : Nat) (Ar A : Option Addr) (er eb eo e m k nh ch B : Nat) (L : List Hd) (D : List Nat) (hrow : ∀ b, row = some b → b < w0.heap.size) : ∀ i w w' ds v, i ≠ 10 → R5L w0 row P V Ar A er eb eo e m k nh ch B L D i w ds v → Wr row w w' → R5L w0 row P V Ar A er eb eo e m k nh ch B L D i w' ds v
  | 0, _, _, _, _, _, h, _ => h
  | 1, _, _, _, _, _, h, _ => h
  | 2, _, _, _, _, _, h, hE => NewAt.sw h hE hrow
  | 3, _, _, _, _, _, h, _ => h
  | 4, _, _, _, _, _, h, _ => h
  | 5, _, _, _, _, _, h, _ => h
  | 6, _, _, _, _, _, h, _ => h
  | 7, _, _, _, _, _, h, _ => h
  | 8, _, _, _, _, _, h, hE => OwAt.sw h hE hrow
  | 9, _, _, _, _, _, h, hE => (by obtain ⟨x, h1, h2⟩ := h; exact ⟨x, h1, OneAt.sw h2 hE hrow⟩)
  | 10, _, _, _, _, hq, _, _ => absurd rfl hq
  | _ + 11, _, _, _, _, _, _, _ => trivial
section
variable (w0 : World) (row : Option Nat) (P V : Nat) (Ar A : Option Addr) (er eb eo e m k nh ch B : Nat) (L : List Hd) (D : List Nat) (w : World) (ds : List Value) (v : Value)
theorem R5L_i0 (h : v = .pointer (some ⟨V, 3, none⟩)) : R5L w0 row P V Ar A er eb eo e m k nh ch B L D 0 w ds v := h
theorem R5L_e0 (h : R5L w0 row P V Ar A er eb eo e m k nh ch B L D 0 w ds v) : v = .pointer (some ⟨V, 3, none⟩) := h
theorem R5L_i1 (h : v = .slice Ar k er) : R5L w0 row P V Ar A er eb eo e m k nh ch B L D 1 w ds v := h
theorem R5L_e1 (h : R5L w0 row P V Ar A er eb eo e m k nh ch B L D 1 w ds v) : v = .slice Ar k er := h
theorem R5L_i2 (h : NewAt kInt w0.heap.size w v) : R5L w0 row P V Ar A er eb eo e m k nh ch B L D 2 w ds v := h
theorem R5L_e2 (h : R5L w0 row P V Ar A er eb eo e m k nh ch B L D 2 w ds v) : NewAt kInt w0.heap.size w v := h
theorem R5L_i3 (h : v = .pointer (some ⟨P, 3, none⟩)) : R5L w0 row P V Ar A er eb eo e m k nh ch B L D 3 w ds v := h
theorem R5L_e3 (h : R5L w0 row P V Ar A er eb eo e m k nh ch B L D 3 w ds v) : v = .pointer (some ⟨P, 3, none⟩) := h
theorem R5L_i4 (h : v = .slice (some ⟨eb, eo, none⟩) m e) : R5L w0 row P V Ar A er eb eo e m k nh ch B L D 4 w ds v := h
theorem R5L_e4 (h : R5L w0 row P V Ar A er eb eo e m k nh ch B L D 4 w ds v) : v = .slice (some ⟨eb, eo, none⟩) m e := h
theorem R5L_i5 (h : v = .int .i64 k) : R5L w0 row P V Ar A er eb eo e m k nh ch B L D 5 w ds v := h
theorem R5L_e5 (h : R5L w0 row P V Ar A er eb eo e m k nh ch B L D 5 w ds v) : v = .int .i64 k := h
theorem R5L_i6 (h : v = .pointer (some ⟨eb, eo + k, none⟩)) : R5L w0 row P V Ar A er eb eo e m k nh ch B L D 6 w ds v := h
theorem R5L_e6 (h : R5L w0 row P V Ar A er eb eo e m k nh ch B L D 6 w ds v) : v = .pointer (some ⟨eb, eo + k, none⟩) := h
theorem R5L_i7 (h : v = .slice A nh ch) : R5L w0 row P V Ar A er eb eo e m k nh ch B L D 7 w ds v := h
theorem R5L_e7 (h : R5L w0 row P V Ar A er eb eo e m k nh ch B L D 7 w ds v) : v = .slice A nh ch := h
theorem R5L_i8 (h : OwAt kInt w0.heap.size w v (zs D)) : R5L w0 row P V Ar A er eb eo e m k nh ch B L D 8 w ds v := h
theorem R5L_e8 (h : R5L w0 row P V Ar A er eb eo e m k nh ch B L D 8 w ds v) : OwAt kInt w0.heap.size w v (zs D) := h
theorem R5L_i9 (h : ∃ x, ds.getD 0 undef = x.v ∧ OneAt kRow w0.heap.size w v x) : R5L w0 row P V Ar A er eb eo e m k nh ch B L D 9 w ds v := h
theorem R5L_e9 (h : R5L w0 row P V Ar A er eb eo e m k nh ch B L D 9 w ds v) : ∃ x, ds.getD 0 undef = x.v ∧ OneAt kRow w0.heap.size w v x := h
theorem R5L_i10 (h : ∃ x : Hd, ds.getD 2 undef = x.v ∧ AppAt kRow B w v (L ++ [x]) (.slice Ar k er) w0.heap.size) : R5L w0 row P V Ar A er eb eo e m k nh ch B L D 10 w ds v := h
theorem R5L_e10 (h : R5L w0 row P V Ar A er eb eo e m k nh ch B L D 10 w ds v) : ∃ x : Hd, ds.getD 2 undef = x.v ∧ AppAt kRow B w v (L ++ [x]) (.slice Ar k er) w0.heap.size := h
end

/-- while a crew is copied -/
structure R5At (w0 wr : World) (V k g : Nat) (c : Cw) (A1 B1 : Option Addr) (a1 b1 : Nat) (L : List Hd) (Ar : Option Addr) (er : Nat) : Prop where
  box : wr.heap[V]? = some (.cells #[.slice A1 c.ts.length a1, .int .i64 g, .slice B1 c.dn.length b1, .slice Ar k er, .bool c.over, .int .i64 c.st, .int .i64 c.id] 60 (0, 0))
  tsk : Ow kTask w0.heap.size wr (.slice A1 c.ts.length a1) c.ts
  dns : Ow kBool w0.heap.size wr (.slice B1 c.dn.length b1) c.dn
  row : Ow kRow w0.heap.size wr (.slice Ar k er) L
  len : L.length = k
  els : ∀ j, j < k → (L.getD j hd0).n = (c.D.getD j []).length ∧ Ow kInt w0.heap.size wr (L.getD j hd0).v (zs (c.D.getD j []))
  far : ∀ i j, i < k → j < k → i ≠ j → ∀ b, (L.getD i hd0).v.ownBlock = some b → (L.getD j hd0).v.ownBlock ≠ some b
  ext : Ext w0 wr
  vl : w0.heap.size ≤ V
theorem Ow.zsN {B : Nat} {w : World} {A : Option Addr} {n c : Nat} {xs : List Nat} (h : Ow kInt B w (.slice A n c) (zs xs)) : n = xs.length := by
  obtain ⟨A', c', h, _⟩ := h.slice
  cases h
  exact zs_len xs
theorem R5At.next {w0 wr w5 : World} {V k g : Nat} {c : Cw} {A1 B1 : Option Addr} {a1 b1 : Nat} {L : List Hd} {Ar : Option Addr} {er : Nat} (h : R5At w0 wr V k g c A1 B1 a1 b1 L Ar er) (hG : Wr (Value.ownBlock (.slice Ar k er)) wr w5) {x : Hd} (hx : Ow kInt wr.heap.size w5 x.v (zs (c.D.getD k []))) {v : Value} (hA : AppAt kRow w0.heap.size w5 v (L ++ [x]) (.slice Ar k er) wr.heap.size) :
    ∃ Ar' er', v = .slice Ar' (k + 1) er' ∧ R5At w0 (w5.setCell ⟨V, 3, none⟩ v) V (k + 1) g c A1 B1 a1 b1 (L ++ [x]) Ar' er' := by
  obtain ⟨hv, _⟩ := hA
  obtain ⟨Ar', er', rfl, _⟩ := hv.slice
  have hl : (L ++ [x]).length = k + 1 := by simp [h.len]
  rw [hl] at hv ⊢
  refine ⟨Ar', er', rfl, ?_⟩
  have nV : ¬ (Value.ownBlock (.slice Ar k er)) = some V := h.row.notBox h.box (by decide)
  have hb5 := block_wr h.box hG nV
  have far1 : ∀ {α : Type} {K : Kd α} {v : Value} {xs : List α}, K.e ≠ kRow.e → Ow K w0.heap.size wr v xs → ∀ k', v.ownBlock = some k' → ¬ (Value.ownBlock (.slice Ar k er)) = some k' := fun hne ho k' hk' => Ow.far hne ho h.row k' hk'
  have sto : ∀ {α : Type} {K : Kd α} {v : Value} {xs : List α} (u : Value), K.e ≠ 60 → Ow K w0.heap.size w5 v xs → Ow K w0.heap.size (w5.setCell ⟨V, 3, none⟩ u) v xs := fun u hne ho => ho.setOther (p := ⟨V, 3, none⟩) (ho.notBox hb5 hne) u
  refine ⟨(set_block (i := 3) hb5 _).trans rfl, sto _ (by decide) (h.tsk.wr hG (far1 (by decide) h.tsk)), sto _ (by decide) (h.dns.wr hG (far1 (by decide) h.dns)), sto _ (by decide) hv, hl, fun j hj => ?_, fun i j hi hj hij b hb => ?_, ?_, h.vl⟩
  · by_cases e : j = k
    · subst e
      have e1 : (L ++ [x]).getD j hd0 = x := by rw [List.getD_eq_getElem?_getD, List.getElem?_append_right (by rw [h.len]; exact Nat.le_refl _)]; simp [h.len]
      rw [e1]
      exact ⟨Ow.zsN hx, sto _ (by decide) (hx.mono h.ext.size)⟩
    · have e1 : (L ++ [x]).getD j hd0 = L.getD j hd0 := by rw [List.getD_eq_getElem?_getD, List.getElem?_append_left (by rw [h.len]; omega), List.getD_eq_getElem?_getD]
      rw [e1]
      obtain ⟨h1, h2⟩ := h.els j (by omega)
      exact ⟨h1, sto _ (by decide) (h2.wr hG (far1 (by decide) h2))⟩
  · have e0 : ∀ j, j < k → (L ++ [x]).getD j hd0 = L.getD j hd0 := fun j hj => by rw [List.getD_eq_getElem?_getD, List.getElem?_append_left (by rw [h.len]; omega), List.getD_eq_getElem?_getD]
    have e1 : (L ++ [x]).getD k hd0 = x := by rw [List.getD_eq_getElem?_getD, List.getElem?_append_right (by rw [h.len]; exact Nat.le_refl _)]; simp [h.len]
    by_cases ei : i = k
    · subst ei
      have hj' : j < i := by omega
      rw [e1] at hb
      rw [e0 j hj']
      intro hj2
      have := (hx.lt b hb).1
      have := ((h.els j hj').2.lt b hj2).2
      omega
    · have hi' : i < k := by omega
      rw [e0 i hi'] at hb
      by_cases ej : j = k
      · subst ej
        rw [e1]
        intro hj2
        have := (hx.lt b hj2).1
        have := ((h.els i hi').2.lt b hb).2
        omega
      · rw [e0 j (by omega)]
        exact h.far i j hi' (by omega) hij b hb
  · exact (Wr.toExt hG h.ext (fun b hb => (h.row.lt b hb).1)).setCell (p := ⟨V, 3, none⟩) h.vl _

set_option maxHeartbeats 3200000 in
set_option maxRecDepth 100000 in
theorem r5copy_any (A B : Option Addr) (eb eo a b e g m : Nat) (c : Cw) (w : World) (h : CrewAt w m c A B eb eo a b) (me : m ≤ e) (m1 : 1 ≤ m) (m2 : m ≤ 8) (lt : c.ts.length ≤ 4000) (ln : c.dn.length ≤ 4000) (lh : ∀ j, (c.D.getD j []).length ≤ 1000000) :
    Calls Try.prog 55 #[crewV A B eb eo a b e g m c] w fun ed w' => ∃ (A1 B1 : Option Addr) (e0 a1 b1 e1 : Nat) (L : List Hd), ed = .returned (crewV A1 B1 e0 0 a1 b1 e1 g m c) ∧
      OwC w.heap.size w' m c A1 B1 e0 e1 a1 b1 L ∧ Ext w w' := by
  have HLH := Lib.hid lh
  obtain ⟨hs0, hds⟩ := h.deq
  have HDL : Hid (c.D.length = m) := Lib.hid hds.1
  have m3 : (m : Int) ≤ 8 := by omega
  have m4 : (1 : Int) ≤ m := by omega
  have m5 : (m : Int) ≤ e := by omega
  have E0 : Ext w ((w.alloc (.cells #[.slice A c.ts.length a, .int .i64 g, .slice B c.dn.length b, .slice (some ⟨eb, eo, none⟩) m e, .bool c.over, .int .i64 c.st, .int .i64 c.id] 60)).alloc (.cells #[.slice none 0 0, .int .i64 0, .slice none 0 0, .slice none 0 0, .bool false, .int .i64 0, .int .i64 0] 60)) := ((Ext.refl w).alloc _).alloc _
  have HT := Lib.hid (h.tsk.rd.ext E0)
  have HD := Lib.hid (h.dns.rd.ext E0)
  have HDS := Lib.hid (hds.ext E0)
  have X := Lib.hid E0
  clear h hds lh E0
  go_enter Try.func55, Try.ntmps55
  go_wp2_with fail
  have q0 : ((w.alloc (.cells #[.slice A c.ts.length a, .int .i64 g, .slice B c.dn.length b, .slice (some ⟨eb, eo, none⟩) m e, .bool c.over, .int .i64 c.st, .int .i64 c.id] 60)).alloc (.cells #[.slice none 0 0, .int .i64 0, .slice none 0 0, .slice none 0 0, .bool false, .int .i64 0, .int .i64 0] 60)).cell? ⟨w.heap.size, 0, none⟩ = some (.slice A c.ts.length a) := by go_simp
  have q1 : ((w.alloc (.cells #[.slice A c.ts.length a, .int .i64 g, .slice B c.dn.length b, .slice (some ⟨eb, eo, none⟩) m e, .bool c.over, .int .i64 c.st, .int .i64 c.id] 60)).alloc (.cells #[.slice none 0 0, .int .i64 0, .slice none 0 0, .slice none 0 0, .bool false, .int .i64 0, .int .i64 0] 60)).cell? ⟨w.heap.size, 1, none⟩ = some (.int .i64 g) := by go_simp
  have q2 : ((w.alloc (.cells #[.slice A c.ts.length a, .int .i64 g, .slice B c.dn.length b, .slice (some ⟨eb, eo, none⟩) m e, .bool c.over, .int .i64 c.st, .int .i64 c.id] 60)).alloc (.cells #[.slice none 0 0, .int .i64 0, .slice none 0 0, .slice none 0 0, .bool false, .int .i64 0, .int .i64 0] 60)).cell? ⟨w.heap.size, 2, none⟩ = some (.slice B c.dn.length b) := by go_simp
  have q3 : ((w.alloc (.cells #[.slice A c.ts.length a, .int .i64 g, .slice B c.dn.length b, .slice (some ⟨eb, eo, none⟩) m e, .bool c.over, .int .i64 c.st, .int .i64 c.id] 60)).alloc (.cells #[.slice none 0 0, .int .i64 0, .slice none 0 0, .slice none 0 0, .bool false, .int .i64 0, .int .i64 0] 60)).cell? ⟨w.heap.size, 3, none⟩ = some (.slice (some ⟨eb, eo, none⟩) m e) := by go_simp
  have q4 : ((w.alloc (.cells #[.slice A c.ts.length a, .int .i64 g, .slice B c.dn.length b, .slice (some ⟨eb, eo, none⟩) m e, .bool c.over, .int .i64 c.st, .int .i64 c.id] 60)).alloc (.cells #[.slice none 0 0, .int .i64 0, .slice none 0 0, .slice none 0 0, .bool false, .int .i64 0, .int .i64 0] 60)).cell? ⟨w.heap.size, 4, none⟩ = some (.bool c.over) := by go_simp
  have q5 : ((w.alloc (.cells #[.slice A c.ts.length a, .int .i64 g, .slice B c.dn.length b, .slice (some ⟨eb, eo, none⟩) m e, .bool c.over, .int .i64 c.st, .int .i64 c.id] 60)).alloc (.cells #[.slice none 0 0, .int .i64 0, .slice none 0 0, .slice none 0 0, .bool false, .int .i64 0, .int .i64 0] 60)).cell? ⟨w.heap.size, 5, none⟩ = some (.int .i64 c.st) := by go_simp
  have q6 : ((w.alloc (.cells #[.slice A c.ts.length a, .int .i64 g, .slice B c.dn.length b, .slice (some ⟨eb, eo, none⟩) m e, .bool c.over, .int .i64 c.st, .int .i64 c.id] 60)).alloc (.cells #[.slice none 0 0, .int .i64 0, .slice none 0 0, .slice none 0 0, .bool false, .int .i64 0, .int .i64 0] 60)).cell? ⟨w.heap.size, 6, none⟩ = some (.int .i64 c.id) := by go_simp
  have r0 : ((w.alloc (.cells #[.slice A c.ts.length a, .int .i64 g, .slice B c.dn.length b, .slice (some ⟨eb, eo, none⟩) m e, .bool c.over, .int .i64 c.st, .int .i64 c.id] 60)).alloc (.cells #[.slice none 0 0, .int .i64 0, .slice none 0 0, .slice none 0 0, .bool false, .int .i64 0, .int .i64 0] 60)).heap[w.heap.size + 1]? = some (.cells #[.slice none 0 0, .int .i64 0, .slice none 0 0, .slice none 0 0, .bool false, .int .i64 0, .int .i64 0] 60 (0, 0)) := heap_alloc2_new w _ _
  have hz : ((w.alloc (.cells #[.slice A c.ts.length a, .int .i64 g, .slice B c.dn.length b, .slice (some ⟨eb, eo, none⟩) m e, .bool c.over, .int .i64 c.st, .int .i64 c.id] 60)).alloc (.cells #[.slice none 0 0, .int .i64 0, .slice none 0 0, .slice none 0 0, .bool false, .int .i64 0, .int .i64 0] 60)).heap.size = w.heap.size + 2 := by simp
  generalize ((w.alloc (.cells #[.slice A c.ts.length a, .int .i64 g, .slice B c.dn.length b, .slice (some ⟨eb, eo, none⟩) m e, .bool c.over, .int .i64 c.st, .int .i64 c.id] 60)).alloc (.cells #[.slice none 0 0, .int .i64 0, .slice none 0 0, .slice none 0 0, .bool false, .int .i64 0, .int .i64 0] 60)) = w0 at *
  obtain ⟨P, hP⟩ : ∃ P, w.heap.size = P := ⟨_, rfl⟩
  have HZ := Lib.hid hz
  have HP := Lib.hid hP
  rw [hP] at q0 q1 q2 q3 q4 q5 q6 r0 ⊢
  clear hz hP
  refine Mono.wp_region_mono 11 (R5C w0 P A B eb eo a b e g m c) (by kernel_rfl) (by kernel_rfl) (R5C_ext w0 P A B eb eo a b e g m c) ?_ ?_
  · intro i o hi ho vals w5 hE hcl
    have hi' : i = 0 ∨ i = 1 ∨ i = 2 ∨ i = 3 ∨ i = 4 ∨ i = 5 ∨ i = 6 ∨ i = 7 ∨ i = 8 ∨ i = 9 ∨ i = 10 := by omega
    rcases hi' with rfl | rfl | rfl | rfl | rfl | rfl | rfl | rfl | rfl | rfl | rfl
    · simp only [List.getElem?_cons_succ, List.getElem?_cons_zero, Option.some.injEq] at ho
      subst ho
      rw [if_pos (Mono.wanted_none rfl)]
      clear hcl
      refine Mono.yields_same (.pointer (some ⟨P, 0, none⟩)) w5 ?_ ⟨Ext.refl _, R5C_i0 _ _ _ _ _ _ _ _ _ _ _ _ _ _ _ rfl⟩
      simp only [Mono.all, List.take, Act.put]
      go_simp
    · simp only [List.getElem?_cons_succ, List.getElem?_cons_zero, Option.some.injEq] at ho
      subst ho
      rw [if_pos (Mono.wanted_none rfl)]
      have h1 : vals 0 = .pointer (some ⟨P, 0, none⟩) := (R5C_e0 _ _ _ _ _ _ _ _ _ _ _ _ _ _ _ (hcl 0 (by kernel_rfl)))
      have k0 := hE.cell q0
      have k1 := hE.cell q1
      have k2 := hE.cell q2
      clear hcl
      refine Mono.yields_same (.agg #[.slice A c.ts.length a, .int .i64 g, .slice B c.dn.length b]) w5 ?_ ⟨Ext.refl _, R5C_i1 _ _ _ _ _ _ _ _ _ _ _ _ _ _ _ rfl⟩
      simp only [Mono.all, List.take, Act.put]
      go_simp
    · simp only [List.getElem?_cons_succ, List.getElem?_cons_zero, Option.some.injEq] at ho
      subst ho
      rw [if_pos (Mono.wanted_none rfl)]
      have h1 : vals 1 = .agg #[.slice A c.ts.length a, .int .i64 g, .slice B c.dn.length b] := (R5C_e1 _ _ _ _ _ _ _ _ _ _ _ _ _ _ _ (hcl 1 (by kernel_rfl)))
      clear hcl
      refine Mono.yields_call 66 #[.agg #[.slice A c.ts.length a, .int .i64 g, .slice B c.dn.length b]] w5 ?_ ((rcopy_any A B a b c.ts g c.dn w5 (HT.out.ext hE) (HD.out.ext hE) lt ln).mono ?_)
      · simp only [Mono.all, List.take, Act.put]
        go_simp
      · rintro ed w6 ⟨A1, c1, B1, d1, rfl, o1, o2, hE6⟩
        exact ⟨_, rfl, hE6, R5C_i2 _ _ _ _ _ _ _ _ _ _ _ _ _ _ _ ⟨A1, c1, B1, d1, rfl, o1.mono hE.size, o2.mono hE.size⟩⟩
    · simp only [List.getElem?_cons_succ, List.getElem?_cons_zero, Option.some.injEq] at ho
      subst ho
      rw [if_pos (Mono.wanted_none rfl)]
      clear hcl
      refine Mono.yields_same (.pointer (some ⟨P, 4, none⟩)) w5 ?_ ⟨Ext.refl _, R5C_i3 _ _ _ _ _ _ _ _ _ _ _ _ _ _ _ rfl⟩
      simp only [Mono.all, List.take, Act.put]
      go_simp
    · simp only [List.getElem?_cons_succ, List.getElem?_cons_zero, Option.some.injEq] at ho
      subst ho
      rw [if_pos (Mono.wanted_none rfl)]
      have h1 : vals 3 = .pointer (some ⟨P, 4, none⟩) := R5C_e3 _ _ _ _ _ _ _ _ _ _ _ _ _ _ _ (hcl 3 (by kernel_rfl))
      have k1 := hE.cell q4
      clear hcl
      refine Mono.yields_same (.bool c.over) w5 ?_ ⟨Ext.refl _, R5C_i4 _ _ _ _ _ _ _ _ _ _ _ _ _ _ _ rfl⟩
      simp only [Mono.all, List.take, Act.put]
      go_simp
    · simp only [List.getElem?_cons_succ, List.getElem?_cons_zero, Option.some.injEq] at ho
      subst ho
      rw [if_pos (Mono.wanted_none rfl)]
      clear hcl
      refine Mono.yields_same (.pointer (some ⟨P, 5, none⟩)) w5 ?_ ⟨Ext.refl _, R5C_i5 _ _ _ _ _ _ _ _ _ _ _ _ _ _ _ rfl⟩
      simp only [Mono.all, List.take, Act.put]
      go_simp
    · simp only [List.getElem?_cons_succ, List.getElem?_cons_zero, Option.some.injEq] at ho
      subst ho
      rw [if_pos (Mono.wanted_none rfl)]
      have h1 : vals 5 = .pointer (some ⟨P, 5, none⟩) := R5C_e5 _ _ _ _ _ _ _ _ _ _ _ _ _ _ _ (hcl 5 (by kernel_rfl))
      have k1 := hE.cell q5
      clear hcl
      refine Mono.yields_same (.int .i64 c.st) w5 ?_ ⟨Ext.refl _, R5C_i6 _ _ _ _ _ _ _ _ _ _ _ _ _ _ _ rfl⟩
      simp only [Mono.all, List.take, Act.put]
      go_simp
    · simp only [List.getElem?_cons_succ, List.getElem?_cons_zero, Option.some.injEq] at ho
      subst ho
      rw [if_pos (Mono.wanted_none rfl)]
      clear hcl
      refine Mono.yields_same (.pointer (some ⟨P, 6, none⟩)) w5 ?_ ⟨Ext.refl _, R5C_i7 _ _ _ _ _ _ _ _ _ _ _ _ _ _ _ rfl⟩
      simp only [Mono.all, List.take, Act.put]
      go_simp
    · simp only [List.getElem?_cons_succ, List.getElem?_cons_zero, Option.some.injEq] at ho
      subst ho
      rw [if_pos (Mono.wanted_none rfl)]
      have h1 : vals 7 = .pointer (some ⟨P, 6, none⟩) := R5C_e7 _ _ _ _ _ _ _ _ _ _ _ _ _ _ _ (hcl 7 (by kernel_rfl))
      have k1 := hE.cell q6
      clear hcl
      refine Mono.yields_same (.int .i64 c.id) w5 ?_ ⟨Ext.refl _, R5C_i8 _ _ _ _ _ _ _ _ _ _ _ _ _ _ _ rfl⟩
      simp only [Mono.all, List.take, Act.put]
      go_simp
    · simp only [List.getElem?_cons_succ, List.getElem?_cons_zero, Option.some.injEq] at ho
      subst ho
      rw [if_pos (Mono.wanted_none rfl)]
      obtain ⟨A1, c1, B1, d1, h2, o1, o2⟩ : WorkOwn w0.heap.size w5 (vals 2) c.ts g c.dn := (R5C_e2 _ _ _ _ _ _ _ _ _ _ _ _ _ _ _ (hcl 2 (by kernel_rfl)))
      have h4 : vals 4 = .bool c.over := (R5C_e4 _ _ _ _ _ _ _ _ _ _ _ _ _ _ _ (hcl 4 (by kernel_rfl)))
      have h6 : vals 6 = .int .i64 c.st := (R5C_e6 _ _ _ _ _ _ _ _ _ _ _ _ _ _ _ (hcl 6 (by kernel_rfl)))
      have h8 : vals 8 = .int .i64 c.id := (R5C_e8 _ _ _ _ _ _ _ _ _ _ _ _ _ _ _ (hcl 8 (by kernel_rfl)))
      clear hcl
      refine Mono.yields_same (.agg #[.slice A1 c.ts.length c1, .int .i64 g, .slice B1 c.dn.length d1, .slice none 0 0, .bool c.over, .int .i64 c.st, .int .i64 c.id]) w5 ?_ ⟨Ext.refl _, R5C_i9 _ _ _ _ _ _ _ _ _ _ _ _ _ _ _ ⟨A1, c1, B1, d1, rfl, o1, o2⟩⟩
      simp only [Mono.all, List.take, Act.put]
      go_simp
    · simp only [List.getElem?_cons_succ, List.getElem?_cons_zero, Option.some.injEq] at ho
      subst ho
      rw [if_pos (Mono.wanted_none rfl)]
      clear hcl
      refine Mono.yields_same (.pointer (some ⟨w5.heap.size, 0, none⟩)) (w5.alloc (.cells #[.slice none 0 0, .int .i64 0, .slice none 0 0, .slice none 0 0, .bool false, .int .i64 0, .int .i64 0] 60)) ?_ ⟨(Ext.refl _).alloc _, R5C_i10 _ _ _ _ _ _ _ _ _ _ _ _ _ _ _ (BoxNew.made w5 hE.size _ _)⟩
      simp only [Mono.all, List.take, Act.put]
      go_simp
  · intro vals w5 hE hv
    have e4 := R5C_e4 _ _ _ _ _ _ _ _ _ _ _ _ _ _ _ (hv 4 (by omega))
    have e6 := R5C_e6 _ _ _ _ _ _ _ _ _ _ _ _ _ _ _ (hv 6 (by omega))
    have e8 := R5C_e8 _ _ _ _ _ _ _ _ _ _ _ _ _ _ _ (hv 8 (by omega))
    obtain ⟨A1, a1, B1, b1, e9, o1, o2⟩ := (R5C_e9 _ _ _ _ _ _ _ _ _ _ _ _ _ _ _ (hv 9 (by omega)))
    obtain ⟨V, e10, hV, hx⟩ := (R5C_e10 _ _ _ _ _ _ _ _ _ _ _ _ _ _ _ (hv 10 (by omega)))
    have k10 := fun o => frozen_of_row w5 V o _ _ hx
    have y0 : w5.cell? ⟨V, 0, none⟩ = some (.slice none 0 0) := (cell_of_row w5 V 0 _ _ _ hx).trans rfl
    have y1 : w5.cell? ⟨V, 1, none⟩ = some (.int .i64 0) := (cell_of_row w5 V 1 _ _ _ hx).trans rfl
    have y2 : w5.cell? ⟨V, 2, none⟩ = some (.slice none 0 0) := (cell_of_row w5 V 2 _ _ _ hx).trans rfl
    have y3 : w5.cell? ⟨V, 3, none⟩ = some (.slice none 0 0) := (cell_of_row w5 V 3 _ _ _ hx).trans rfl
    have y4 : w5.cell? ⟨V, 4, none⟩ = some (.bool false) := (cell_of_row w5 V 4 _ _ _ hx).trans rfl
    have y5 : w5.cell? ⟨V, 5, none⟩ = some (.int .i64 0) := (cell_of_row w5 V 5 _ _ _ hx).trans rfl
    have y6 : w5.cell? ⟨V, 6, none⟩ = some (.int .i64 0) := (cell_of_row w5 V 6 _ _ _ hx).trans rfl
    clear hv
    simp only [Mono.all, List.take, List.drop, Act.put]
    rw [e9, e10]
    go_wp2_with fail
    have hbx : (((((((w5.setCell ⟨V, 0, none⟩ (.slice A1 c.ts.length a1)).setCell ⟨V, 1, none⟩ (.int .i64 g)).setCell ⟨V, 2, none⟩ (.slice B1 c.dn.length b1)).setCell ⟨V, 3, none⟩ (.slice none 0 0)).setCell ⟨V, 4, none⟩ (.bool c.over)).setCell ⟨V, 5, none⟩ (.int .i64 c.st)).setCell ⟨V, 6, none⟩ (.int .i64 c.id)).heap[V]? = some (.cells #[.slice A1 c.ts.length a1, .int .i64 g, .slice B1 c.dn.length b1, .slice none 0 0, .bool c.over, .int .i64 c.st, .int .i64 c.id] 60 (0, 0)) := (set_block (i := 6) (set_block (i := 5) (set_block (i := 4) (set_block (i := 3) (set_block (i := 2) (set_block (i := 1) (set_block (i := 0) hx _) _) _) _) _) _) _).trans rfl
    have nT := o1.notBox hx (by decide)
    have nD := o2.notBox hx (by decide)
    have hT7 : Ow kTask w0.heap.size (((((((w5.setCell ⟨V, 0, none⟩ (.slice A1 c.ts.length a1)).setCell ⟨V, 1, none⟩ (.int .i64 g)).setCell ⟨V, 2, none⟩ (.slice B1 c.dn.length b1)).setCell ⟨V, 3, none⟩ (.slice none 0 0)).setCell ⟨V, 4, none⟩ (.bool c.over)).setCell ⟨V, 5, none⟩ (.int .i64 c.st)).setCell ⟨V, 6, none⟩ (.int .i64 c.id)) (.slice A1 c.ts.length a1) c.ts := (((((((o1.setOther (p := ⟨V, 0, none⟩) nT _).setOther (p := ⟨V, 1, none⟩) nT _).setOther (p := ⟨V, 2, none⟩) nT _).setOther (p := ⟨V, 3, none⟩) nT _).setOther (p := ⟨V, 4, none⟩) nT _).setOther (p := ⟨V, 5, none⟩) nT _).setOther (p := ⟨V, 6, none⟩) nT _)
    have hD7 : Ow kBool w0.heap.size (((((((w5.setCell ⟨V, 0, none⟩ (.slice A1 c.ts.length a1)).setCell ⟨V, 1, none⟩ (.int .i64 g)).setCell ⟨V, 2, none⟩ (.slice B1 c.dn.length b1)).setCell ⟨V, 3, none⟩ (.slice none 0 0)).setCell ⟨V, 4, none⟩ (.bool c.over)).setCell ⟨V, 5, none⟩ (.int .i64 c.st)).setCell ⟨V, 6, none⟩ (.int .i64 c.id)) (.slice B1 c.dn.length b1) c.dn := (((((((o2.setOther (p := ⟨V, 0, none⟩) nD _).setOther (p := ⟨V, 1, none⟩) nD _).setOther (p := ⟨V, 2, none⟩) nD _).setOther (p := ⟨V, 3, none⟩) nD _).setOther (p := ⟨V, 4, none⟩) nD _).setOther (p := ⟨V, 5, none⟩) nD _).setOther (p := ⟨V, 6, none⟩) nD _)
    have hE7 : Ext w0 (((((((w5.setCell ⟨V, 0, none⟩ (.slice A1 c.ts.length a1)).setCell ⟨V, 1, none⟩ (.int .i64 g)).setCell ⟨V, 2, none⟩ (.slice B1 c.dn.length b1)).setCell ⟨V, 3, none⟩ (.slice none 0 0)).setCell ⟨V, 4, none⟩ (.bool c.over)).setCell ⟨V, 5, none⟩ (.int .i64 c.st)).setCell ⟨V, 6, none⟩ (.int .i64 c.id)) := (((((((hE.setCell (p := ⟨V, 0, none⟩) hV _).setCell (p := ⟨V, 1, none⟩) hV _).setCell (p := ⟨V, 2, none⟩) hV _).setCell (p := ⟨V, 3, none⟩) hV _).setCell (p := ⟨V, 4, none⟩) hV _).setCell (p := ⟨V, 5, none⟩) hV _).setCell (p := ⟨V, 6, none⟩) hV _)
    generalize (((((((w5.setCell ⟨V, 0, none⟩ (.slice A1 c.ts.length a1)).setCell ⟨V, 1, none⟩ (.int .i64 g)).setCell ⟨V, 2, none⟩ (.slice B1 c.dn.length b1)).setCell ⟨V, 3, none⟩ (.slice none 0 0)).setCell ⟨V, 4, none⟩ (.bool c.over)).setCell ⟨V, 5, none⟩ (.int .i64 c.st)).setCell ⟨V, 6, none⟩ (.int .i64 c.id)) = w7 at *
    have H7 : Hid (R5At w0 w7 V 0 g c A1 B1 a1 b1 [] none 0) := Lib.hid ⟨hbx, hT7, hD7, Ow.nil _ _, rfl, fun j hj => absurd hj (Nat.not_lt_zero _), fun i j hi => absurd hi (Nat.not_lt_zero _), hE7, hV⟩
    clear hbx nT nD hT7 hD7 hE7 o1 o2 k10 y0 y1 y2 y3 y4 y5 y6 hx hE e9 e10 e4 e6 e8
    go_loopw [4] (fun i wr => ∃ (k : Nat) (L : List Hd) (Ar : Option Addr) (er : Nat), k ≤ m ∧ i = .int .i64 k ∧ R5At w0 wr V k g c A1 B1 a1 b1 L Ar er) (fun i _ => m - (intOf i).toNat)
    case atStart => exact ⟨0, [], none, 0, Nat.zero_le _, rfl, H7.out⟩
    case round =>
      obtain ⟨k, L, Ar, er, hk, rfl, hR⟩ := hrel
      have HR := Lib.hid hR
      have hk0 : (0 : Int) ≤ k := by omega
      have q3' := hR.ext.cell q3
      by_cases hlt : k < m
      · have hlt' : (k : Int) < m := by omega
        obtain ⟨z0, zn, zr⟩ := HDS.out.2 k hlt
        have qh := hR.ext.cell z0
        obtain ⟨⟨Ah, nh, ch⟩, hh⟩ : ∃ x, hs0 k = x := ⟨_, rfl⟩
        rw [hh] at zn zr qh
        unfold Hd.v at qh zr
        simp only at qh zn zr
        have HZR : Hid (RdO kInt (fun _ => False) w0 (.slice Ah nh ch) (zs (c.D.getD k []))) := Lib.hid zr
        have qv : wr.cell? ⟨V, 3, none⟩ = some (.slice Ar k er) := (cell_of_row wr V 3 _ _ _ hR.box).trans rfl
        obtain ⟨row, hrw⟩ : ∃ row, Value.ownBlock (.slice Ar k er) = row := ⟨_, rfl⟩
        have nV : ¬ row = some V := by rw [← hrw]; exact hR.row.notBox hR.box (by decide)
        have nP : ¬ row = some P := by
          intro e'
          have h1 := (hR.row.lt P (hrw.trans e')).1
          have h2 := HZ.out
          have h3 := HP.out
          omega
        have nE : ¬ row = some eb := by
          intro e'
          have h1 := (hR.row.lt eb (hrw.trans e')).1
          have h2 := HDS.out.lt m1
          omega
        have hrow : ∀ b, row = some b → b < wr.heap.size := fun b e' => (hR.row.lt b (hrw.trans e')).2
        have HRX : Hid (∀ w5, Wr row wr w5 → Ext w0 w5) := Lib.hid (fun w5 hE => Wr.toExt hE hR.ext (fun b hb => (hR.row.lt b (hrw.trans hb)).1))
        have HRW := Lib.hid hR.row
        have HLL : Hid (L.length + 1 ≤ 1048576) := Lib.hid (by rw [hR.len]; omega)
        have HBS := Lib.hid hR.ext.size
        have HXL : Hid ((c.D.getD k []).length ≤ 1000000) := Lib.hid (HLH.out k)
        obtain ⟨D, hD⟩ : ∃ D, c.D.getD k [] = D := ⟨_, rfl⟩
        rw [hD] at zn zr HZR HXL
        have HDD := Lib.hid hD
        obtain ⟨B, hB⟩ : ∃ B, w0.heap.size = B := ⟨_, rfl⟩
        rw [hB] at HRW HBS
        have HB := Lib.hid hB
        clear hR z0 zn zr hh hD hB
        go_wp2_with fail
        refine MonoW.wp_region_write 11 10 (Wr row) (R5L wr row P V Ar Ah er eb eo e m k nh ch B L D) (by kernel_rfl) (by kernel_rfl) (Wr.of row) (Wr.tr row) (R5L_ext wr row P V Ar Ah er eb eo e m k nh ch B L D) (R5L_sw wr row P V Ar Ah er eb eo e m k nh ch B L D hrow) ?_ ?_
        · intro i o hi ho vals w5 hE hQ hcl
          have hi' : i = 0 ∨ i = 1 ∨ i = 2 ∨ i = 3 ∨ i = 4 ∨ i = 5 ∨ i = 6 ∨ i = 7 ∨ i = 8 ∨ i = 9 ∨ i = 10 := by omega
          rcases hi' with rfl | rfl | rfl | rfl | rfl | rfl | rfl | rfl | rfl | rfl | rfl
          · simp only [List.getElem?_cons_succ, List.getElem?_cons_zero, Option.some.injEq] at ho
            subst ho
            rw [if_pos (Mono.wanted_none rfl)]
            clear hcl
            refine Mono.yields_same (.pointer (some ⟨V, 3, none⟩)) w5 ?_ ⟨MonoW.Out.of (Wr.of row) (Ext.refl _), R5L_i0 _ _ _ _ _ _ _ _ _ _ _ _ _ _ _ _ _ _ _ _ rfl⟩
            simp only [Mono.all, List.take, Act.put]
            go_simp
          · simp only [List.getElem?_cons_succ, List.getElem?_cons_zero, Option.some.injEq] at ho
            subst ho
            rw [if_pos (Mono.wanted_none rfl)]
            have h1 : vals 0 = .pointer (some ⟨V, 3, none⟩) := R5L_e0 _ _ _ _ _ _ _ _ _ _ _ _ _ _ _ _ _ _ _ _ (hcl 0 (by kernel_rfl))
            have k1 := hE.cell qv nV
            clear hcl
            refine Mono.yields_same (.slice Ar k er) w5 ?_ ⟨MonoW.Out.of (Wr.of row) (Ext.refl _), R5L_i1 _ _ _ _ _ _ _ _ _ _ _ _ _ _ _ _ _ _ _ _ rfl⟩
            simp only [Mono.all, List.take, Act.put]
            go_simp
          · simp only [List.getElem?_cons_succ, List.getElem?_cons_zero, Option.some.injEq] at ho
            subst ho
            rw [if_pos (Mono.wanted_none rfl)]
            clear hcl
            refine Mono.yields_same (.slice (some ⟨w5.heap.size, 0, none⟩) 0 0) (w5.alloc (.cells #[] kInt.e)) ?_ ⟨MonoW.Out.of (Wr.of row) ((Ext.refl _).alloc _), R5L_i2 _ _ _ _ _ _ _ _ _ _ _ _ _ _ _ _ _ _ _ _ (NewAt.made w5 hE.size)⟩
            simp only [Mono.all, List.take, Act.put, kInt]
            go_simp
          · simp only [List.getElem?_cons_succ, List.getElem?_cons_zero, Option.some.injEq] at ho
            subst ho
            rw [if_pos (Mono.wanted_none rfl)]
            clear hcl
            refine Mono.yields_same (.pointer (some ⟨P, 3, none⟩)) w5 ?_ ⟨MonoW.Out.of (Wr.of row) (Ext.refl _), R5L_i3 _ _ _ _ _ _ _ _ _ _ _ _ _ _ _ _ _ _ _ _ rfl⟩
            simp only [Mono.all, List.take, Act.put]
            go_simp
          · simp only [List.getElem?_cons_succ, List.getElem?_cons_zero, Option.some.injEq] at ho
            subst ho
            rw [if_pos (Mono.wanted_none rfl)]
            have h1 : vals 3 = .pointer (some ⟨P, 3, none⟩) := R5L_e3 _ _ _ _ _ _ _ _ _ _ _ _ _ _ _ _ _ _ _ _ (hcl 3 (by kernel_rfl))
            have k1 := hE.cell q3' nP
            clear hcl
            refine Mono.yields_same (.slice (some ⟨eb, eo, none⟩) m e) w5 ?_ ⟨MonoW.Out.of (Wr.of row) (Ext.refl _), R5L_i4 _ _ _ _ _ _ _ _ _ _ _ _ _ _ _ _ _ _ _ _ rfl⟩
            simp only [Mono.all, List.take, Act.put]
            go_simp
          · simp only [List.getElem?_cons_succ, List.getElem?_cons_zero, Option.some.injEq] at ho
            subst ho
            rw [if_pos (Mono.wanted_none rfl)]
            clear hcl
            refine Mono.yields_same (.int .i64 k) w5 ?_ ⟨MonoW.Out.of (Wr.of row) (Ext.refl _), R5L_i5 _ _ _ _ _ _ _ _ _ _ _ _ _ _ _ _ _ _ _ _ rfl⟩
            simp only [Mono.all, List.take, Act.put]
            go_simp
          · simp only [List.getElem?_cons_succ, List.getElem?_cons_zero, Option.some.injEq] at ho
            subst ho
            rw [if_pos (Mono.wanted_none rfl)]
            have h4 : vals 4 = .slice (some ⟨eb, eo, none⟩) m e := R5L_e4 _ _ _ _ _ _ _ _ _ _ _ _ _ _ _ _ _ _ _ _ (hcl 4 (by kernel_rfl))
            have h5 : vals 5 = .int .i64 k := R5L_e5 _ _ _ _ _ _ _ _ _ _ _ _ _ _ _ _ _ _ _ _ (hcl 5 (by kernel_rfl))
            clear hcl
            refine Mono.yields_same (.pointer (some ⟨eb, eo + k, none⟩)) w5 ?_ ⟨MonoW.Out.of (Wr.of row) (Ext.refl _), R5L_i6 _ _ _ _ _ _ _ _ _ _ _ _ _ _ _ _ _ _ _ _ rfl⟩
            simp only [Mono.all, List.take, Act.put]
            go_simp
          · simp only [List.getElem?_cons_succ, List.getElem?_cons_zero, Option.some.injEq] at ho
            subst ho
            rw [if_pos (Mono.wanted_none rfl)]
            have h1 : vals 6 = .pointer (some ⟨eb, eo + k, none⟩) := R5L_e6 _ _ _ _ _ _ _ _ _ _ _ _ _ _ _ _ _ _ _ _ (hcl 6 (by kernel_rfl))
            have k1 := hE.cell qh nE
            clear hcl
            refine Mono.yields_same (.slice Ah nh ch) w5 ?_ ⟨MonoW.Out.of (Wr.of row) (Ext.refl _), R5L_i7 _ _ _ _ _ _ _ _ _ _ _ _ _ _ _ _ _ _ _ _ rfl⟩
            simp only [Mono.all, List.take, Act.put]
            go_simp
          · simp only [List.getElem?_cons_succ, List.getElem?_cons_zero, Option.some.injEq] at ho
            subst ho
            rw [if_pos (Mono.wanted_none rfl)]
            have h0 : NewAt kInt wr.heap.size w5 (vals 2) := R5L_e2 _ _ _ _ _ _ _ _ _ _ _ _ _ _ _ _ _ _ _ _ (hcl 2 (by kernel_rfl))
            have h2 : vals 7 = .slice Ah nh ch := R5L_e7 _ _ _ _ _ _ _ _ _ _ _ _ _ _ _ _ _ _ _ _ (hcl 7 (by kernel_rfl))
            obtain ⟨v', w', hr, hX, hO, hb⟩ := Kd.app_new kInt h0 ((HZR.out.ext (HRX.out _ hE)).rd) (by rw [zs_len]; have := HXL.out; omega) hE.size
            exact Kd.yields_app kInt (v := vals 2) (y := .slice Ah nh ch) (.tmp 24) (.tmp 29) rfl rfl (by kernel_rfl) (by rw [← h2]; kernel_rfl) hr ⟨MonoW.Out.of (Wr.of row) (hX), R5L_i8 _ _ _ _ _ _ _ _ _ _ _ _ _ _ _ _ _ _ _ _ hO⟩
          · simp only [List.getElem?_cons_succ, List.getElem?_cons_zero, Option.some.injEq] at ho
            subst ho
            rw [if_pos (Mono.wanted_none rfl)]
            obtain ⟨A8, c9, h8, _⟩ : OwAt kInt wr.heap.size w5 (vals 8) (zs D) := (R5L_e8 _ _ _ _ _ _ _ _ _ _ _ _ _ _ _ _ _ _ _ _ (hcl 8 (by kernel_rfl)))
            clear hcl
            refine Mono.yields_same (.slice (some ⟨w5.heap.size, 0, none⟩) 1 1) (w5.alloc (.cells #[.slice A8 (zs D).length c9] kRow.e)) ?_ ⟨MonoW.Out.of (Wr.of row) ((Ext.refl _).alloc _), R5L_i9 _ _ _ _ _ _ _ _ _ _ _ _ _ _ _ _ _ _ _ _ ⟨⟨A8, (zs D).length, c9⟩, by first | rfl | assumption | kernel_rfl, OneAt.made kRow w5 hE.size _ _ rfl trivial⟩⟩
            simp only [Mono.all, List.take, Act.put, kRow]
            go_simp
          · simp only [List.getElem?_cons_succ, List.getElem?_cons_zero, Option.some.injEq] at ho
            subst ho
            rw [if_pos (Mono.wanted_none rfl)]
            obtain ⟨x, hx, p, h9, o9⟩ : ∃ x : Hd, _ ∧ OneAt kRow wr.heap.size w5 (vals 9) x := (R5L_e9 _ _ _ _ _ _ _ _ _ _ _ _ _ _ _ _ _ _ _ _ (hcl 9 (by kernel_rfl)))
            have h1 : vals 1 = .slice Ar k er := (R5L_e1 _ _ _ _ _ _ _ _ _ _ _ _ _ _ _ _ _ _ _ _ (hcl 1 (by kernel_rfl)))
            have hX := hQ rfl
            clear hcl
            refine Kd.yields_grow kRow (B := B) (n := wr.heap.size) (q := 10) (.tmp 23) (.tmp 31) (v := .slice Ar k er) (y := .slice (some ⟨p, 0, none⟩) 1 1) (xs := L) (ys := [x]) (HRW.out.ext hX) o9.rd HLL.out (Nat.le_trans HBS.out hX.size) hX.size rfl rfl (by rw [← h1]; kernel_rfl) (by rw [← h9]; kernel_rfl) ?_
            intro v' w' hA hO
            exact ⟨by rw [← hrw]; exact hO, R5L_i10 _ _ _ _ _ _ _ _ _ _ _ _ _ _ _ _ _ _ _ _ ⟨x, by first | exact hx | kernel_rfl, hA⟩⟩
        · intro vals w5 hE hv
          have e1 := R5L_e1 _ _ _ _ _ _ _ _ _ _ _ _ _ _ _ _ _ _ _ _ (hv 1 (by omega))
          have e4 := R5L_e4 _ _ _ _ _ _ _ _ _ _ _ _ _ _ _ _ _ _ _ _ (hv 4 (by omega))
          have e7 := R5L_e7 _ _ _ _ _ _ _ _ _ _ _ _ _ _ _ _ _ _ _ _ (hv 7 (by omega))
          obtain ⟨A8, c8, e8, ho8⟩ := R5L_e8 _ _ _ _ _ _ _ _ _ _ _ _ _ _ _ _ _ _ _ _ (hv 8 (by omega))
          obtain ⟨x, hx, hA⟩ := (R5L_e10 _ _ _ _ _ _ _ _ _ _ _ _ _ _ _ _ _ _ _ _ (hv 10 (by omega)))
          have hx8 : vals 8 = x.v := Eq.trans (by kernel_rfl) hx
          have ho8' : Ow kInt wr.heap.size w5 x.v (zs (c.D.getD k [])) := by rw [HDD.out, ← hx8, e8]; exact ho8
          obtain ⟨Ar', er', e10, hN⟩ := R5At.next HR.out (by rw [hrw]; exact hE) ho8' (by rw [HB.out]; exact hA)
          rw [e10] at hN
          have HN := Lib.hid hN
          have hb5 := block_wr HR.out.box hE nV
          have y3 : w5.cell? ⟨V, 3, none⟩ = some (.slice Ar k er) := (cell_of_row w5 V 3 _ _ _ hb5).trans rfl
          have yf := fun o => frozen_of_row w5 V o _ _ hb5
          clear hv hN hb5 hA hx hx8 ho8' ho8
          simp only [Mono.all, List.take, List.drop, Act.put]
          rw [e10]
          go_wp2_with fail
          go_roundw
          case rel => exact ⟨k + 1, L ++ [x], Ar', er', by omega, by go_num, HN.out⟩
          case measure => simp [intOf]; omega
      · obtain rfl : k = m := by omega
        have hb1 := block_keep r0 hR.ext
        have x0 : wr.cell? ⟨P + 1, 0, none⟩ = some (.slice none 0 0) := (cell_of_row wr (P + 1) 0 _ _ _ hb1).trans rfl
        have x1 : wr.cell? ⟨P + 1, 1, none⟩ = some (.int .i64 0) := (cell_of_row wr (P + 1) 1 _ _ _ hb1).trans rfl
        have x2 : wr.cell? ⟨P + 1, 2, none⟩ = some (.slice none 0 0) := (cell_of_row wr (P + 1) 2 _ _ _ hb1).trans rfl
        have x3 : wr.cell? ⟨P + 1, 3, none⟩ = some (.slice none 0 0) := (cell_of_row wr (P + 1) 3 _ _ _ hb1).trans rfl
        have x4 : wr.cell? ⟨P + 1, 4, none⟩ = some (.bool false) := (cell_of_row wr (P + 1) 4 _ _ _ hb1).trans rfl
        have x5 : wr.cell? ⟨P + 1, 5, none⟩ = some (.int .i64 0) := (cell_of_row wr (P + 1) 5 _ _ _ hb1).trans rfl
        have x6 : wr.cell? ⟨P + 1, 6, none⟩ = some (.int .i64 0) := (cell_of_row wr (P + 1) 6 _ _ _ hb1).trans rfl
        have xf := fun o => frozen_of_row wr (P + 1) o _ _ hb1
        have v0 : wr.cell? ⟨V, 0, none⟩ = some (.slice A1 c.ts.length a1) := (cell_of_row wr V 0 _ _ _ hR.box).trans rfl
        have v1 : wr.cell? ⟨V, 1, none⟩ = some (.int .i64 g) := (cell_of_row wr V 1 _ _ _ hR.box).trans rfl
        have v2 : wr.cell? ⟨V, 2, none⟩ = some (.slice B1 c.dn.length b1) := (cell_of_row wr V 2 _ _ _ hR.box).trans rfl
        have v3 : wr.cell? ⟨V, 3, none⟩ = some (.slice Ar k er) := (cell_of_row wr V 3 _ _ _ hR.box).trans rfl
        have v4 : wr.cell? ⟨V, 4, none⟩ = some (.bool c.over) := (cell_of_row wr V 4 _ _ _ hR.box).trans rfl
        have v5 : wr.cell? ⟨V, 5, none⟩ = some (.int .i64 c.st) := (cell_of_row wr V 5 _ _ _ hR.box).trans rfl
        have v6 : wr.cell? ⟨V, 6, none⟩ = some (.int .i64 c.id) := (cell_of_row wr V 6 _ _ _ hR.box).trans rfl
        obtain ⟨e0, he0, _⟩ := Ow.pos hR.row (by rw [hR.len]; omega)
        subst he0
        clear hR hb1
        go_wp2_with fail
        have hz := HZ.out
        have hp := HP.out
        refine bodyPost_ret (v := .agg #[.slice A1 c.ts.length a1, .int .i64 g, .slice B1 c.dn.length b1, .slice (some ⟨e0, 0, none⟩) k er, .bool c.over, .int .i64 c.st, .int .i64 c.id]) (by simp [results, Try.results55, go_sem]; go_simp) rfl ⟨A1, B1, e0, a1, b1, er, L, rfl, ?_, ?_⟩
        · have hR := HR.out
          have sto : ∀ {α : Type} {K : Kd α} {v : Value} {xs : List α}, Ow K w0.heap.size wr v xs → Ow K w.heap.size (((((((wr.setCell ⟨P + 1, 0, none⟩ (.slice A1 c.ts.length a1)).setCell ⟨P + 1, 1, none⟩ (.int .i64 g)).setCell ⟨P + 1, 2, none⟩ (.slice B1 c.dn.length b1)).setCell ⟨P + 1, 3, none⟩ (.slice (some ⟨e0, 0, none⟩) k er)).setCell ⟨P + 1, 4, none⟩ (.bool c.over)).setCell ⟨P + 1, 5, none⟩ (.int .i64 c.st)).setCell ⟨P + 1, 6, none⟩ (.int .i64 c.id)) v xs := fun ho => (((((((ho.setBelow (p := ⟨P + 1, 0, none⟩) (by show P + 1 < _; omega) _).setBelow (p := ⟨P + 1, 1, none⟩) (by show P + 1 < _; omega) _).setBelow (p := ⟨P + 1, 2, none⟩) (by show P + 1 < _; omega) _).setBelow (p := ⟨P + 1, 3, none⟩) (by show P + 1 < _; omega) _).setBelow (p := ⟨P + 1, 4, none⟩) (by show P + 1 < _; omega) _).setBelow (p := ⟨P + 1, 5, none⟩) (by show P + 1 < _; omega) _).setBelow (p := ⟨P + 1, 6, none⟩) (by show P + 1 < _; omega) _).mono (by omega)
          exact ⟨sto hR.tsk, sto hR.dns, sto hR.row, hR.len, HDL.out, fun j hj => ⟨(hR.els j hj).1, sto (hR.els j hj).2⟩, hR.far⟩
        · exact ((((((((X.out.trans HR.out.ext).setCell (p := ⟨P + 1, 0, none⟩) (by show _ ≤ P + 1; omega) _).setCell (p := ⟨P + 1, 1, none⟩) (by show _ ≤ P + 1; omega) _).setCell (p := ⟨P + 1, 2, none⟩) (by show _ ≤ P + 1; omega) _).setCell (p := ⟨P + 1, 3, none⟩) (by show _ ≤ P + 1; omega) _).setCell (p := ⟨P + 1, 4, none⟩) (by show _ ≤ P + 1; omega) _).setCell (p := ⟨P + 1, 5, none⟩) (by show _ ≤ P + 1; omega) _).setCell (p := ⟨P + 1, 6, none⟩) (by show _ ≤ P + 1; omega) _)
end Go.Proofs.Ytbedfjbnafflfaa

/- The program's Right of a crew, where it may be. -/
namespace Go.Proofs.Ytbedfjbnafflfaa
open Go.BigFrame
open Go.RowKit Go.Proofs.Ytbedfjbnafflfaa.Plain

/-- which of n are among these -/
def metL (n : Nat) (L : List Nat) : List Bool := (List.range n).map fun i => decide (i ∈ L)
theorem metL_len (n : Nat) (L : List Nat) : (metL n L).length = n := by unfold metL; simp
theorem metL_getD (n : Nat) (L : List Nat) (j : Nat) (hj : j < n) : (metL n L).getD j false = decide (j ∈ L) := by
  unfold metL
  rw [List.getD_eq_getElem?_getD, List.getElem?_map, List.getElem?_range hj]; rfl
theorem metL_nil (n : Nat) : metL n [] = List.replicate n false := by
  unfold metL
  apply List.ext_getElem?
  intro i
  rw [List.getElem?_map, List.getElem?_replicate]
  by_cases hi : i < n
  · rw [List.getElem?_range hi, if_pos hi]; rfl
  · rw [List.getElem?_eq_none (by simpa using hi), if_neg hi]; rfl
theorem metL_snoc (n : Nat) (L : List Nat) (k : Nat) (hk : k < n) : metL n (L ++ [k]) = (metL n L).set k true := by
  unfold metL
  apply List.ext_getElem?
  intro i
  by_cases hi : i < n
  · rw [List.getElem?_map, List.getElem?_range hi]
    by_cases e : i = k
    · subst e
      rw [List.getElem?_set_self (by simpa using hk)]; simp
    · rw [List.getElem?_set_ne (by omega), List.getElem?_map, List.getElem?_range hi]; simp [e]
  · rw [List.getElem?_eq_none (by simpa using hi), List.getElem?_eq_none (by simpa using hi)]

set_option maxHeartbeats 1600000 in
set_option maxRecDepth 100000 in
theorem holds_yes (A B : Option Addr) (eb eo a b e g n m : Nat) (c : Cw) (done : Nat) (G : List Nat) (w : World) (h : CrewAt w m c A B eb eo a b) (hI : CwI g n m c done G) (n1 : 1 ≤ n) (n2 : n ≤ 900) (g1 : 1 ≤ g) (g2 : g ≤ 100) (m2 : m ≤ 8) :
    Calls Try.prog 81 #[crewV A B eb eo a b e g m c] w fun ed w' => ed = .returned (.bool true) ∧ Ext w w' := by
  have HI := Lib.hid hI
  have HH := Lib.hid h
  have hfew := hI.few g1 n1
  have hts : (c.ts.length : Int) ≤ 1800 := by omega
  have hO := CrI.inv hI
  have hgl : (held c.D).length ≤ c.ts.length := by have := (CrI.fresh hI).2.2.2; omega
  have HDN : Hid (c.dn.length = n) := Lib.hid hO.dl
  obtain ⟨N, hN⟩ : ∃ N, (held c.D).length = N := ⟨_, rfl⟩
  have hNl : N ≤ 1800 := by omega
  have HN := Lib.hid hN
  obtain ⟨hs, hds⟩ := h.deq
  have HDS := Lib.hid hds
  obtain ⟨n0, hn0⟩ : ∃ n0, c.ts.length = n0 := ⟨_, rfl⟩
  have htl0 : 0 < n0 := by rw [← hn0]; exact hO.len
  obtain ⟨ta, to', rfl, hct⟩ := Rd.tasks h.tsk.rd (by omega : 0 < c.ts.length)
  rw [hn0] at hts hfew
  have HCT : Hid (∀ j, j < n0 → _) := Lib.hid (by rw [← hn0]; exact hct)
  have HTN := Lib.hid hn0
  obtain ⟨C, hmk, hmown⟩ := kBool.make false rfl trivial n0 (by omega)
  have HMK := Lib.hid hmown
  have hmk2 : ∀ w : World, (Instr.makeSlice 23 (.int .i64 n0) (.int .i64 n0)).run Try.prog w = .ok (.slice (some ⟨w.heap.size, 0, none⟩) n0 n0) (w.alloc (.cells C 4)) := hmk
  clear hmk
  clear h hI hO hgl hN hds hct hmown
  unfold crewV
  rw [hn0]
  clear hn0
  go_enter Try.func81, Try.ntmps81
  go_wp2_with fail
  refine (concat_all _ _ _ _ hs c.D _ (HDS.out.ext (((Ext.refl _).alloc _).alloc _)) m2 (by rw [HN.out]; omega)).mono ?_
  rintro ed w1 ⟨A1, c1, rfl, hown, hE⟩
  rw [HN.out]
  have HR1 := Lib.hid (rd_of_ints hown.ints)
  have HF1 : Hid (From (w.heap.size + 2) A1) := Lib.hid (hown.from.mono (by simp))
  have HM1 := Lib.hid ((HMK.out (w.alloc (.cells #[.slice (some ⟨ta, to', none⟩) n0 a, .int .i64 g, .slice B c.dn.length b, .slice (some ⟨eb, eo, none⟩) m e, .bool c.over, .int .i64 c.st, .int .i64 c.id] 60)) (w.heap.size + 1) (w.heap.size + 1) (by simp) (Nat.le_refl _)).ext hE)
  have HE1 := Lib.hid ((((Ext.refl w).alloc _).alloc _).trans hE)
  have x0 : w1.cell? ⟨w.heap.size, 0, none⟩ = some (.slice (some ⟨ta, to', none⟩) n0 a) := hE.cell (by go_simp)
  have x1 : w1.cell? ⟨w.heap.size, 1, none⟩ = some (.int .i64 g) := hE.cell (by go_simp)
  have x2 : w1.cell? ⟨w.heap.size, 2, none⟩ = some (.slice B c.dn.length b) := hE.cell (by go_simp)
  have HX : Hid (w1.cell? ⟨w.heap.size, 0, none⟩ = some (.slice (some ⟨ta, to', none⟩) n0 a) ∧ w1.cell? ⟨w.heap.size, 1, none⟩ = some (.int .i64 g) ∧ w1.cell? ⟨w.heap.size, 2, none⟩ = some (.slice B c.dn.length b)) := Lib.hid ⟨x0, x1, x2⟩
  have HZ := Lib.hid hE.size
  clear hown hE x0 x1 x2
  go_wp2_with fail
  go_loopw [15] (fun i wr => ∃ k : Nat, k ≤ N ∧ i = .int .i64 k ∧ Ow kBool (w.heap.size + 1) wr (.slice (some ⟨w.heap.size + 1, 0, none⟩) n0 n0) (metL n0 ((held c.D).take k)) ∧ Grew (fun b => b = w.heap.size + 1) w1 wr) (fun i _ => N - (intOf i).toNat)
  case atStart => exact ⟨0, Nat.zero_le _, rfl, by rw [List.take_zero, metL_nil]; exact HM1.out, Grew.refl _ _⟩
  case round =>
    obtain ⟨k, hk, rfl, hown, hG⟩ := hrel
    have HO := Lib.hid hown
    have HG := Lib.hid hG
    have hk0 : (0 : Int) ≤ k := by omega
    by_cases hlt : k < N
    · have hlt' : (k : Int) < N := by omega
      obtain ⟨i, hi⟩ : ∃ i, (held c.D).getD k 0 = i := ⟨_, rfl⟩
      have him : i ∈ held c.D := by
        rw [← hi, List.getD_eq_getElem?_getD, List.getElem?_eq_getElem (by rw [HN.out]; exact hlt)]
        exact List.getElem_mem _
      have hO := CrI.inv HI.out
      have hin : i < n0 := by rw [← HTN.out]; exact hO.lt i him
      have hnot : i ∉ (held c.D).take k := by
        intro hh
        have hnd := hO.nd
        rw [← List.take_append_drop k (held c.D), List.nodup_append] at hnd
        refine hnd.2.2 i hh i ?_ rfl
        have hd := List.drop_eq_getElem_cons (l := held c.D) (i := k) (by rw [HN.out]; exact hlt)
        rw [hd, ← hi, List.getD_eq_getElem?_getD, List.getElem?_eq_getElem (by rw [HN.out]; exact hlt)]
        exact List.mem_cons_self
      have hsucc : (held c.D).take (k + 1) = (held c.D).take k ++ [i] := by
        rw [List.take_succ_eq_append_getElem (by rw [HN.out]; exact hlt), ← hi, List.getD_eq_getElem?_getD, List.getElem?_eq_getElem (by rw [HN.out]; exact hlt)]; rfl
      have HS : Hid (metL n0 ((held c.D).take (k + 1)) = (metL n0 ((held c.D).take k)).set i true) := Lib.hid (by rw [hsucc]; exact metL_snoc n0 _ i hin)
      obtain ⟨b1, o1, rfl, hc1⟩ := HR1.out.cells (by rw [zs_len, HN.out]; omega)
      have hb1 := HF1.out _ rfl
      simp only at hb1
      have z0 := hc1 k (by rw [zs_len, HN.out]; exact hlt) 0 _ rfl
      have e0 : (zs (held c.D)).getD k kInt.d = ((i : Nat) : Int) := by rw [← hi]; exact zs_getD _ _
      have z1 : w1.cell? ⟨b1, o1 + k, none⟩ = some (.int .i64 i) := by
        rw [e0] at z0
        rw [show o1 + k = o1 + k * kInt.n + 0 from by show o1 + k = o1 + k * 1 + 0; omega]
        exact z0
      have zi := hG.cell z1 (by omega)
      obtain ⟨⟨lo, hi', up, wt⟩, ht⟩ : ∃ t, c.ts.getD i ⟨0, 0, 0, 0⟩ = t := ⟨_, rfl⟩
      have htT : T c.ts i = ⟨lo, hi', up, wt⟩ := ht
      have hw0 := hO.w0 i him
      rw [htT] at hw0
      simp only at hw0
      subst hw0
      have htask := hO.task i (hO.lt i him)
      rw [htT] at htask
      simp only at htask
      obtain ⟨t1, t2, t3, _, _, _, _⟩ := htask
      have hcov := (hO.cov lo.toNat (by omega)).2 ⟨i, him, by rw [htT]; simp only; omega, by rw [htT]; simp only; omega⟩
      obtain ⟨y0, y1, y2, y3⟩ := HCT.out i hin
      rw [ht] at y0 y1 y2 y3
      simp only at y0 y1 y2 y3
      have lta : ta < w.heap.size := World.block_lt_of_cell? _ _ y0
      have q0 := hG.cell (HE1.out.cell y0) (by omega)
      have q1 := hG.cell (HE1.out.cell y1) (by omega)
      have q2 := hG.cell (HE1.out.cell y2) (by omega)
      have q3 := hG.cell (HE1.out.cell y3) (by omega)
      have x0 := hG.cell HX.out.1 (by omega)
      have x1 := hG.cell HX.out.2.1 (by omega)
      have x2 := hG.cell HX.out.2.2 (by omega)
      obtain ⟨g', eg, _, _, h3, h4⟩ := Ow.pos hown (by rw [metL_len]; exact htl0)
      obtain rfl : g' = w.heap.size + 1 := by cases eg; rfl
      have zm : wr.cell? ⟨w.heap.size + 1, i, none⟩ = some (.bool false) := by
        have := h3 i (by rw [metL_len]; exact hin) 0 _ rfl
        rw [show (metL n0 ((held c.D).take k)).getD i kBool.d = false by rw [show kBool.d = false from rfl, metL_getD _ _ _ hin]; exact decide_eq_false hnot] at this
        rw [show i = i * kBool.n + 0 from by show i = i * 1 + 0; omega]
        exact this
      have HDR : Hid (Rd kBool wr (.slice B c.dn.length b) c.dn) := Lib.hid (HH.out.dns wr (Grew.of (hG.toExt HE1.out (fun b hb => by rw [hb]; omega))))
      have HFR := Lib.hid h4
      have hi0 : (0 : Int) ≤ i := by omega
      have hi1 : (i : Int) < n0 := by omega
      have hd1 : decide ((i : Int) < 0) = false := decide_eq_false (by omega)
      have hd2 : decide ((n0 : Int) ≤ (i : Int)) = false := decide_eq_false (by omega)
      have hd3 : decide (n0 ≤ i) = false := decide_eq_false (by omega)
      clear hown hG h3 h4 z0 z1 e0 hc1 hi ht htT him hO hnot hsucc y0 y1 y2 y3 eg
      have KS : Hid (∀ w', Ext wr w' → w'.cell? ⟨w.heap.size, 0, none⟩ = some (.slice (some ⟨ta, to', none⟩) n0 a) ∧ w'.cell? ⟨w.heap.size, 1, none⟩ = some (.int .i64 g) ∧ w'.cell? ⟨w.heap.size, 2, none⟩ = some (.slice B c.dn.length b) ∧ w'.cell? ⟨w.heap.size + 1, i, none⟩ = some (.bool false) ∧ w'.cell? ⟨ta, to' + i * 4, none⟩ = some (.int .i64 lo) ∧ w'.cell? ⟨ta, to' + i * 4 + 1, none⟩ = some (.int .i64 hi') ∧ w'.cell? ⟨ta, to' + i * 4 + 2, none⟩ = some (.int .i64 up) ∧ w'.cell? ⟨ta, to' + i * 4 + 3, none⟩ = some (.int .i64 0)) := Lib.hid fun w' hE => ⟨hE.cell x0, hE.cell x1, hE.cell x2, hE.cell zm, hE.cell q0, hE.cell q1, hE.cell q2, hE.cell q3⟩
      go_wp2_with fail
      have HOP : Hid (∀ w', Ext wr w' → Calls Try.prog 89 #[.agg #[.slice (some ⟨ta, to', none⟩) n0 a, .int .i64 g, .slice B c.dn.length b], .agg #[.int .i64 lo, .int .i64 hi', .int .i64 up, .int .i64 0]] w' fun ed w'' => ed = .returned (.bool true) ∧ Ext wr w'') := Lib.hid fun w' hE =>
        (copen_yes _ _ _ _ _ lo hi' up g c.dn w' (HDR.out.ext hE) t1 t2 (by rw [HDN.out]; omega) g1 g2 (by rw [HDN.out]; omega) hcov).mono fun ed w'' hh => ⟨hh.1, hE.trans hh.2⟩
      refine wp_region_class (Ext wr) (by kernel_rfl) (by kernel_rfl) (Ext.refl _).drew ?_
      try simp only [List.append_eq, List.cons_append, List.nil_append]
      repeat (first
        | go_big_quiet_skip
        | (go_big_quiet_want
           first
           | (go_big_quiet_op; go_big_quiet_on)
           | (unfold Oper.quiet
              apply Exists.intro
              refine ⟨fun w' hC => ?_, ?_⟩
              · (obtain ⟨k1, k2, k3, k4, k5, k6, k7, k8⟩ := KS.out w' hC
                 unfold Oper.quietAt
                 go_simp
                 first
                 | exact rfl
                 | (with_reducible exact HOP.out w' hC))
              go_simp
              go_big_quiet_on)
           | (go_big_quiet_op
              apply Exists.intro
              refine ⟨fun w' hC => ?_, ?_⟩
              · exact HOP.out w' hC
              go_big_quiet_on)))
      refine wpQuiet_nil ?_
      intro w4 hC4
      have y3 := fun o => (Below.frozen hC4 (p := ⟨w.heap.size + 1, o, none⟩) (by have := HZ.out; have := HG.out.size; simp at this ⊢; omega)).trans (HFR.out o)
      have l1 : w.heap.size + 1 < w4.heap.size := by have := HZ.out; have := HG.out.size; have := hC4.size; simp at *; omega
      have zm4 := hC4.cell zm
      have hset := (HO.out.ext hC4).set (j := i) (i := 0) (x := true) (u := .bool true) (by rw [metL_len]; exact hin) (by decide) rfl trivial
      rw [show i * kBool.n + 0 = i from by show i * 1 + 0 = i; omega, ← HS.out] at hset
      have HSET := Lib.hid hset
      clear hset
      go_wp2_with fail
      go_roundw
      case rel => exact ⟨k + 1, by omega, by go_num, HSET.out, (HG.out.ext hC4).setCell rfl _⟩
      case measure => simp [intOf]; omega
    · obtain rfl : k = N := by omega
      go_wp2_with fail
      go_ret
      exact ⟨rfl, hG.toExt HE1.out (fun b hb => by rw [hb]; omega)⟩

set_option maxHeartbeats 800000 in
set_option maxRecDepth 100000 in
/-- a crew that may be -/
theorem cright_yes (A B : Option Addr) (eb eo a b e g n m : Nat) (c : Cw) (done : Nat) (G : List Nat) (w : World) (h : CrewAt w m c A B eb eo a b) (hI : CwI g n m c done G) (n1 : 1 ≤ n) (n2 : n ≤ 900) (g1 : 1 ≤ g) (g2 : g ≤ 100) (m1 : 1 ≤ m) (m2 : m ≤ 8) (hst : c.st ≤ 100000) (hid : c.id ≤ 100000) :
    Calls Try.prog 74 #[crewV A B eb eo a b e g m c] w fun ed w' => ed = .returned (.bool true) ∧ Ext w w' := by
  have HI := Lib.hid hI
  have HH := Lib.hid h
  have HWR : Hid (wRight c.ts (g : Int) c.dn.length = true) := Lib.hid (by rw [(CrI.inv hI).dl]; exact (CrI.inv hI).right g1 g2 n1 n2)
  have HDL : Hid (c.dn.length = n) := Lib.hid (CrI.inv hI).dl
  have HGI : Hid (in64 (g : Int)) := Lib.hid (by unfold in64; omega)
  have s1 : (0 : Int) ≤ (c.st : Int) := by omega
  have s2 : (c.st : Int) ≤ 100000 := by omega
  have s3 : (0 : Int) ≤ (c.id : Int) := by omega
  have s4 : (c.id : Int) ≤ 100000 := by omega
  clear h hI
  go_enter Try.func74, Try.ntmps74
  go_wp2_with fail
  refine (right_to A B a b _ _ c.ts g true _ (HH.out.tsk.rd.ext ((Ext.refl _).alloc _)) rfl (by rw [HDL.out]; omega) HGI.out HWR.out).mono ?_
  rintro ed w1 ⟨rfl, hE⟩
  have x3 : w1.cell? ⟨w.heap.size, 3, none⟩ = some (.slice (some ⟨eb, eo, none⟩) m e) := hE.cell (by go_simp)
  have x5 : w1.cell? ⟨w.heap.size, 5, none⟩ = some (.int .i64 c.st) := hE.cell (by go_simp)
  have x6 : w1.cell? ⟨w.heap.size, 6, none⟩ = some (.int .i64 c.id) := hE.cell (by go_simp)
  have x0 : w1.cell? ⟨w.heap.size, 0, none⟩ = some (.slice A c.ts.length a) := hE.cell (by go_simp)
  have x1 : w1.cell? ⟨w.heap.size, 1, none⟩ = some (.int .i64 g) := hE.cell (by go_simp)
  have x2 : w1.cell? ⟨w.heap.size, 2, none⟩ = some (.slice B c.dn.length b) := hE.cell (by go_simp)
  have x4 : w1.cell? ⟨w.heap.size, 4, none⟩ = some (.bool c.over) := hE.cell (by go_simp)
  have HE1 := Lib.hid (((Ext.refl w).alloc _).trans hE)
  clear hE
  go_wp2_with (first | (go_at_call 48; refine (manned_yes _ _ m1 m2).mono ?_; rintro ed w2 ⟨rfl, rfl⟩) | (go_at_call 80; refine (counted_yes _ _ (by assumption) (by assumption)).mono ?_; rintro ed w2 ⟨rfl, rfl⟩))
  refine (holds_yes A B eb eo a b e g n m c _ _ _ (HH.out.ext HE1.out) HI.out n1 n2 g1 g2 m2).mono ?_
  rintro ed w3 ⟨rfl, hE3⟩
  go_wp2_with fail
  go_ret
  exact ⟨rfl, HE1.out.trans hE3⟩
end Go.Proofs.Ytbedfjbnafflfaa
