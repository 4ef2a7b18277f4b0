/- The program's Do of work. Written by wip/mk_pwork.py. -/
import Derived.Test.YtfigfndabokepaaTCop
import Derived.Test.YtfigfndabokepaaPPart
namespace Go.Proofs.Ytfigfndabokepaa
open Go.BigFrame
open Go.RowKit Go.Proofs.Ytfigfndabokepaa.Plain

set_option maxHeartbeats 1600000 in
set_option maxRecDepth 100000 in
theorem pdo_no (A B : Option Addr) (c d : Nat) (ts : List Tk) (dn : List Bool) (g : Int) (i : Int) (w : World) (h : Rd kTask w (.slice A ts.length c) ts) (hd : Rd kBool w (.slice B dn.length d) dn) (hg : in64 g) (hi : in64 i) (hl : ts.length ≤ 1048576) (hl2 : dn.length ≤ 1048576) (ha : askErr ts g dn.length i ≠ 0) :
    Calls Try.prog 10 #[.agg #[.slice A ts.length c, .int .i64 g, .slice B dn.length d], .int .i64 i] w (TNo w ts g dn (mkDo (askErr ts g dn.length i))) := by
  have H := Lib.hid h
  have HD := Lib.hid hd
  have hn := hd.len
  have hm := h.len
  have HG := Lib.hid hg
  have HI := Lib.hid hi
  obtain ⟨k, hk⟩ : ∃ k, askErr ts g dn.length i = k := ⟨_, rfl⟩
  rw [hk] at ha ⊢
  have HK := Lib.hid hk
  have e1 : (k != 0) = true := by simpa using ha
  clear h hd hk hg hi
  go_enter Try.func10, Try.ntmps10
  go_wp2_with fail
  have hP : PAt w A B c d dn.length ts.length g ((w.alloc (.cells #[.slice A ts.length c, .int .i64 g, .slice B dn.length d] 25)).alloc (.cells #[.slice none 0 0, .int .i64 0, .slice none 0 0] 25)) := Ext.refl _
  refine (copied_any _ _ _ _ _ _ _ _ (H.out.ext hP.ext) (HD.out.ext hP.ext) hl hl2).mono ?_
  rintro e w1 ⟨A1, c1, B1, d1, rfl, hO, hOD, hE⟩
  replace hP := hP.go hE
  have HO : Hid (Ow kTask (w.heap.size + 2) w1 (.slice A1 ts.length c1) ts) := Lib.hid (hO.mono (by simp))
  have HOD : Hid (Ow kBool (w.heap.size + 2) w1 (.slice B1 dn.length d1) dn) := Lib.hid (hOD.mono (by simp))
  have hV : VAt w A B c d dn.length ts.length g w1.heap.size A1 B1 c1 d1 (w1.alloc (.cells #[.slice A1 ts.length c1, .int .i64 g, .slice B1 dn.length d1] 25)) := VAt.start hP
  have HV0 := Lib.hid hV
  have HE1 : Hid (Ext w1 (w1.alloc (.cells #[.slice A1 ts.length c1, .int .i64 g, .slice B1 dn.length d1] 25))) := Lib.hid ((Ext.refl _).alloc _)
  obtain ⟨q0, q1, q2⟩ := hP.cells
  have k0 : w.heap.size < w1.heap.size := by have := hP.two; omega
  have k1 : w.heap.size + 1 < w1.heap.size := by have := hP.two; omega
  clear hO hOD hE hP hV
  go_wp2_with fail
  clear q0 q1 q2
  have hV := HV0.out
  refine (asked_any _ _ _ _ _ _ _ _ _ (H.out.ext hV.pat.ext) hn HG.out HI.out).mono ?_
  rintro e w2 ⟨he, hE⟩
  rw [HK.out] at he
  subst he
  replace hV := hV.go hE
  have HE2 := Lib.hid (HE1.out.trans hE)
  have HV := Lib.hid hV
  clear hE HV0 HE1
  obtain ⟨q0, q1, q2⟩ := hV.pat.cells
  obtain ⟨s0, s1, s2, s3⟩ := hV.pat.out
  obtain ⟨_, v0, v1, v2, v3, lv, gv⟩ := hV
  have l0 : w.heap.size < w2.heap.size := by omega
  have l1 : w.heap.size + 1 < w2.heap.size := by omega
  have l2 : w.heap.size < w2.heap.size + 1 := by omega
  have l3 : w.heap.size + 1 < w2.heap.size + 1 := by omega
  have l4 : w1.heap.size < w2.heap.size + 1 := by omega
  have n0 : ¬ w1.heap.size = w.heap.size := by omega
  have n1 : ¬ w1.heap.size = w.heap.size + 1 := by omega
  have n2 : ¬ w.heap.size + 1 = w1.heap.size := by omega
  have n3 : ¬ w.heap.size = w1.heap.size := by omega
  go_wp2_with fail
  have HVZ := HV
  have HEZ := HE2
  refine bodyPost_ret (v := .tuple #[.agg #[.slice A1 ts.length c1, .int .i64 g, .slice B1 dn.length d1], .bool false, .int .i64 (k)]) (by simp [results, Try.results10, go_sem]; go_simp) rfl (TNo.of (mk := mkDo (k)) HVZ.out HO.out HOD.out HEZ.out _ _ _)

set_option maxHeartbeats 1600000 in
set_option maxRecDepth 100000 in
theorem pdo_great (A B : Option Addr) (c d : Nat) (ts : List Tk) (dn : List Bool) (g : Int) (j : Nat) (w : World) (h : Rd kTask w (.slice A ts.length c) ts) (hd : Rd kBool w (.slice B dn.length d) dn) (hg : in64 g) (hr : wRight ts g dn.length = true) (hj : j < ts.length) (ht : wGreat ts g dn.length j = true) :
    Calls Try.prog 10 #[.agg #[.slice A ts.length c, .int .i64 g, .slice B dn.length d], .int .i64 j] w (TNo w ts g dn (mkDo 5)) := by
  have H := Lib.hid h
  have HD := Lib.hid hd
  have hn := hd.len
  have hnb := right_n hr
  have hm := h.len
  have HG := Lib.hid hg
  have HI : Hid (in64 (j : Int)) := Lib.hid (by unfold in64; omega)
  have hl : ts.length ≤ 1048576 := by omega
  have hl2 : dn.length ≤ 1048576 := by omega
  have hgb := hnb.2.2.2.2
  have hs : wHas ts.length (j : Int) = true := by unfold wHas; simp; omega
  have HK := Lib.hid (askErr_ok hr hs)
  have HW : wGreat ts g dn.length j = decide (g < (ts.getD j tk0).hi - (ts.getD j tk0).lo) := by unfold wGreat tkAt; rw [hr, hs, Int.toNat_natCast]; rfl
  obtain ⟨b, off, rfl, hcc⟩ := Rd.tasks H.out (by omega)
  obtain ⟨y0, y1, y2, y3⟩ := hcc j hj
  have e0 : ts.getD j ⟨0, 0, 0, 0⟩ = ts.getD j tk0 := rfl
  rw [e0] at y0 y1 y2 y3
  obtain ⟨o1, o2, o3, o4, o5, o6, o7⟩ := tkOk_iff dn.length j (ts.getD j tk0) |>.1 (right_ok hr j hj)
  obtain ⟨⟨lo, hi, up, wt⟩, htk⟩ : ∃ x, ts.getD j tk0 = x := ⟨_, rfl⟩
  have HTK := Lib.hid htk
  rw [htk] at y0 y1 y2 y3 o1 o2 o3 o4 o5 o6 o7 HW
  simp only at y0 y1 y2 y3 o1 o2 o3 o4 o5 o6 o7 HW
  rw [ht] at HW
  have HGR : Hid (decide (g < hi - lo) = true) := Lib.hid HW.symm
  have HDD : Hid (in64 (hi - lo)) := Lib.hid (by unfold in64; omega)
  have Y0 := Lib.hid y0
  have Y1 := Lib.hid y1
  have Y2 := Lib.hid y2
  have Y3 := Lib.hid y3
  have hj1 : (j : Int) < ts.length := by omega
  have hj0 : (0 : Int) ≤ j := by omega
  have hlb : b < w.heap.size := World.block_lt_of_cell? _ _ y0
  clear h hd hg hr ht hs hcc e0 htk y0 y1 y2 y3 HW
  go_enter Try.func10, Try.ntmps10
  go_wp2_with fail
  have hP : PAt w (some ⟨b, off, none⟩) B c d dn.length ts.length g ((w.alloc (.cells #[.slice (some ⟨b, off, none⟩) ts.length c, .int .i64 g, .slice B dn.length d] 25)).alloc (.cells #[.slice none 0 0, .int .i64 0, .slice none 0 0] 25)) := Ext.refl _
  refine (copied_any _ _ _ _ _ _ _ _ (H.out.ext hP.ext) (HD.out.ext hP.ext) hl hl2).mono ?_
  rintro e w1 ⟨A1, c1, B1, d1, rfl, hO, hOD, hE⟩
  replace hP := hP.go hE
  have HO : Hid (Ow kTask (w.heap.size + 2) w1 (.slice A1 ts.length c1) ts) := Lib.hid (hO.mono (by simp))
  have HOD : Hid (Ow kBool (w.heap.size + 2) w1 (.slice B1 dn.length d1) dn) := Lib.hid (hOD.mono (by simp))
  have hV : VAt w (some ⟨b, off, none⟩) B c d dn.length ts.length g w1.heap.size A1 B1 c1 d1 (w1.alloc (.cells #[.slice A1 ts.length c1, .int .i64 g, .slice B1 dn.length d1] 25)) := VAt.start hP
  have HV0 := Lib.hid hV
  have HE1 : Hid (Ext w1 (w1.alloc (.cells #[.slice A1 ts.length c1, .int .i64 g, .slice B1 dn.length d1] 25))) := Lib.hid ((Ext.refl _).alloc _)
  obtain ⟨q0, q1, q2⟩ := hP.cells
  have k0 : w.heap.size < w1.heap.size := by have := hP.two; omega
  have k1 : w.heap.size + 1 < w1.heap.size := by have := hP.two; omega
  clear hO hOD hE hP hV
  go_wp2_with fail
  clear q0 q1 q2
  have hV := HV0.out
  refine (asked_any _ _ _ _ _ _ _ _ _ (H.out.ext hV.pat.ext) hn HG.out HI.out).mono ?_
  rintro e w2 ⟨he, hE⟩
  rw [HK.out] at he
  subst he
  replace hV := hV.go hE
  have HE2 := Lib.hid (HE1.out.trans hE)
  have HV := Lib.hid hV
  clear hE HV0 HE1
  obtain ⟨q0, q1, q2⟩ := hV.pat.cells
  obtain ⟨s0, s1, s2, s3⟩ := hV.pat.out
  obtain ⟨_, v0, v1, v2, v3, lv, gv⟩ := hV
  have l0 : w.heap.size < w2.heap.size := by omega
  have l1 : w.heap.size + 1 < w2.heap.size := by omega
  have l2 : w.heap.size < w2.heap.size + 1 := by omega
  have l3 : w.heap.size + 1 < w2.heap.size + 1 := by omega
  have l4 : w1.heap.size < w2.heap.size + 1 := by omega
  have n0 : ¬ w1.heap.size = w.heap.size := by omega
  have n1 : ¬ w1.heap.size = w.heap.size + 1 := by omega
  have n2 : ¬ w.heap.size + 1 = w1.heap.size := by omega
  have n3 : ¬ w.heap.size = w1.heap.size := by omega
  have z0 := HV.out.pat.ext.cell Y0.out
  have z1 := HV.out.pat.ext.cell Y1.out
  have z2 := HV.out.pat.ext.cell Y2.out
  have z3 := HV.out.pat.ext.cell Y3.out
  have lb0 : b < w2.heap.size := by omega
  have lb1 : b < w2.heap.size + 1 := by omega
  go_wp2_with fail
  have lv9 := lv
  clear q0 q1 q2 s0 s1 s2 s3 v0 v1 v2 v3 lv gv l0 l1 l2 l3 l4 n0 n1 n2 n3 z0 z1 z2 z3 lb0 lb1
  refine (great_any lo hi up wt g _ HDD.out HG.out).mono ?_
  rintro e w3 ⟨he, hE⟩
  rw [HGR.out] at he
  subst he
  have t0 : w3.cell? ⟨w2.heap.size, 0, none⟩ = some (.int .i64 lo) := hE.cell (by go_simp)
  have t1 : w3.cell? ⟨w2.heap.size, 1, none⟩ = some (.int .i64 hi) := hE.cell (by go_simp)
  have t2 : w3.cell? ⟨w2.heap.size, 2, none⟩ = some (.int .i64 up) := hE.cell (by go_simp)
  have t3 : w3.cell? ⟨w2.heap.size, 3, none⟩ = some (.int .i64 wt) := hE.cell (by go_simp)
  have hz := hE.size
  simp at hz
  have hE23 := ((Ext.refl w2).alloc _).trans hE
  have hV := HV.out.go hE23
  have HE3 := Lib.hid (HE2.out.trans hE23)
  have HV3 := Lib.hid hV
  clear hE hE23 HV HE2
  obtain ⟨q0, q1, q2⟩ := hV.pat.cells
  obtain ⟨s0, s1, s2, s3⟩ := hV.pat.out
  obtain ⟨_, v0, v1, v2, v3, lv, gv⟩ := hV
  have l0 : w.heap.size < w3.heap.size := by omega
  have l1 : w.heap.size + 1 < w3.heap.size := by omega
  have l2 : w.heap.size < w3.heap.size + 1 := by omega
  have l3 : w.heap.size + 1 < w3.heap.size + 1 := by omega
  have l4 : w1.heap.size < w3.heap.size + 1 := by omega
  have n0 : ¬ w1.heap.size = w.heap.size := by omega
  have n1 : ¬ w1.heap.size = w.heap.size + 1 := by omega
  have n2 : ¬ w.heap.size + 1 = w1.heap.size := by omega
  have n3 : ¬ w.heap.size = w1.heap.size := by omega
  have lt : w2.heap.size < w3.heap.size := by omega
  go_wp2_with fail
  have HVZ := HV3
  have HEZ := HE3
  refine bodyPost_ret (v := .tuple #[.agg #[.slice A1 ts.length c1, .int .i64 g, .slice B1 dn.length d1], .bool false, .int .i64 (5)]) (by simp [results, Try.results10, go_sem]; go_simp) rfl (TNo.of (mk := mkDo (5)) HVZ.out HO.out HOD.out HEZ.out _ _ _)

set_option maxHeartbeats 1600000 in
set_option maxRecDepth 100000 in
theorem pdo_wait (A B : Option Addr) (c d : Nat) (ts : List Tk) (dn : List Bool) (g : Int) (j : Nat) (w : World) (h : Rd kTask w (.slice A ts.length c) ts) (hd : Rd kBool w (.slice B dn.length d) dn) (hg : in64 g) (hr : wRight ts g dn.length = true) (hj : j < ts.length) (ht : wGreat ts g dn.length j = false) (h3 : (ts.getD j tk0).wt ≠ 0) :
    Calls Try.prog 10 #[.agg #[.slice A ts.length c, .int .i64 g, .slice B dn.length d], .int .i64 j] w (TNo w ts g dn (mkDo 5)) := by
  have H := Lib.hid h
  have HD := Lib.hid hd
  have hn := hd.len
  have hnb := right_n hr
  have hm := h.len
  have HG := Lib.hid hg
  have HI : Hid (in64 (j : Int)) := Lib.hid (by unfold in64; omega)
  have hl : ts.length ≤ 1048576 := by omega
  have hl2 : dn.length ≤ 1048576 := by omega
  have hgb := hnb.2.2.2.2
  have hs : wHas ts.length (j : Int) = true := by unfold wHas; simp; omega
  have HK := Lib.hid (askErr_ok hr hs)
  have HW : wGreat ts g dn.length j = decide (g < (ts.getD j tk0).hi - (ts.getD j tk0).lo) := by unfold wGreat tkAt; rw [hr, hs, Int.toNat_natCast]; rfl
  obtain ⟨b, off, rfl, hcc⟩ := Rd.tasks H.out (by omega)
  obtain ⟨y0, y1, y2, y3⟩ := hcc j hj
  have e0 : ts.getD j ⟨0, 0, 0, 0⟩ = ts.getD j tk0 := rfl
  rw [e0] at y0 y1 y2 y3
  obtain ⟨o1, o2, o3, o4, o5, o6, o7⟩ := tkOk_iff dn.length j (ts.getD j tk0) |>.1 (right_ok hr j hj)
  obtain ⟨⟨lo, hi, up, wt⟩, htk⟩ : ∃ x, ts.getD j tk0 = x := ⟨_, rfl⟩
  have HTK := Lib.hid htk
  rw [htk] at y0 y1 y2 y3 h3 o1 o2 o3 o4 o5 o6 o7 HW
  simp only at y0 y1 y2 y3 h3 o1 o2 o3 o4 o5 o6 o7 HW
  rw [ht] at HW
  have HGR : Hid (decide (g < hi - lo) = false) := Lib.hid HW.symm
  have HDD : Hid (in64 (hi - lo)) := Lib.hid (by unfold in64; omega)
  have Y0 := Lib.hid y0
  have Y1 := Lib.hid y1
  have Y2 := Lib.hid y2
  have Y3 := Lib.hid y3
  have hj1 : (j : Int) < ts.length := by omega
  have hj0 : (0 : Int) ≤ j := by omega
  have hlb : b < w.heap.size := World.block_lt_of_cell? _ _ y0
  have e3 : (wt != 0) = true := by simpa using h3
  clear h hd hg hr ht hs hcc e0 htk y0 y1 y2 y3 HW
  go_enter Try.func10, Try.ntmps10
  go_wp2_with fail
  have hP : PAt w (some ⟨b, off, none⟩) B c d dn.length ts.length g ((w.alloc (.cells #[.slice (some ⟨b, off, none⟩) ts.length c, .int .i64 g, .slice B dn.length d] 25)).alloc (.cells #[.slice none 0 0, .int .i64 0, .slice none 0 0] 25)) := Ext.refl _
  refine (copied_any _ _ _ _ _ _ _ _ (H.out.ext hP.ext) (HD.out.ext hP.ext) hl hl2).mono ?_
  rintro e w1 ⟨A1, c1, B1, d1, rfl, hO, hOD, hE⟩
  replace hP := hP.go hE
  have HO : Hid (Ow kTask (w.heap.size + 2) w1 (.slice A1 ts.length c1) ts) := Lib.hid (hO.mono (by simp))
  have HOD : Hid (Ow kBool (w.heap.size + 2) w1 (.slice B1 dn.length d1) dn) := Lib.hid (hOD.mono (by simp))
  have hV : VAt w (some ⟨b, off, none⟩) B c d dn.length ts.length g w1.heap.size A1 B1 c1 d1 (w1.alloc (.cells #[.slice A1 ts.length c1, .int .i64 g, .slice B1 dn.length d1] 25)) := VAt.start hP
  have HV0 := Lib.hid hV
  have HE1 : Hid (Ext w1 (w1.alloc (.cells #[.slice A1 ts.length c1, .int .i64 g, .slice B1 dn.length d1] 25))) := Lib.hid ((Ext.refl _).alloc _)
  obtain ⟨q0, q1, q2⟩ := hP.cells
  have k0 : w.heap.size < w1.heap.size := by have := hP.two; omega
  have k1 : w.heap.size + 1 < w1.heap.size := by have := hP.two; omega
  clear hO hOD hE hP hV
  go_wp2_with fail
  clear q0 q1 q2
  have hV := HV0.out
  refine (asked_any _ _ _ _ _ _ _ _ _ (H.out.ext hV.pat.ext) hn HG.out HI.out).mono ?_
  rintro e w2 ⟨he, hE⟩
  rw [HK.out] at he
  subst he
  replace hV := hV.go hE
  have HE2 := Lib.hid (HE1.out.trans hE)
  have HV := Lib.hid hV
  clear hE HV0 HE1
  obtain ⟨q0, q1, q2⟩ := hV.pat.cells
  obtain ⟨s0, s1, s2, s3⟩ := hV.pat.out
  obtain ⟨_, v0, v1, v2, v3, lv, gv⟩ := hV
  have l0 : w.heap.size < w2.heap.size := by omega
  have l1 : w.heap.size + 1 < w2.heap.size := by omega
  have l2 : w.heap.size < w2.heap.size + 1 := by omega
  have l3 : w.heap.size + 1 < w2.heap.size + 1 := by omega
  have l4 : w1.heap.size < w2.heap.size + 1 := by omega
  have n0 : ¬ w1.heap.size = w.heap.size := by omega
  have n1 : ¬ w1.heap.size = w.heap.size + 1 := by omega
  have n2 : ¬ w.heap.size + 1 = w1.heap.size := by omega
  have n3 : ¬ w.heap.size = w1.heap.size := by omega
  have z0 := HV.out.pat.ext.cell Y0.out
  have z1 := HV.out.pat.ext.cell Y1.out
  have z2 := HV.out.pat.ext.cell Y2.out
  have z3 := HV.out.pat.ext.cell Y3.out
  have lb0 : b < w2.heap.size := by omega
  have lb1 : b < w2.heap.size + 1 := by omega
  go_wp2_with fail
  have lv9 := lv
  clear q0 q1 q2 s0 s1 s2 s3 v0 v1 v2 v3 lv gv l0 l1 l2 l3 l4 n0 n1 n2 n3 z0 z1 z2 z3 lb0 lb1
  refine (great_any lo hi up wt g _ HDD.out HG.out).mono ?_
  rintro e w3 ⟨he, hE⟩
  rw [HGR.out] at he
  subst he
  have t0 : w3.cell? ⟨w2.heap.size, 0, none⟩ = some (.int .i64 lo) := hE.cell (by go_simp)
  have t1 : w3.cell? ⟨w2.heap.size, 1, none⟩ = some (.int .i64 hi) := hE.cell (by go_simp)
  have t2 : w3.cell? ⟨w2.heap.size, 2, none⟩ = some (.int .i64 up) := hE.cell (by go_simp)
  have t3 : w3.cell? ⟨w2.heap.size, 3, none⟩ = some (.int .i64 wt) := hE.cell (by go_simp)
  have hz := hE.size
  simp at hz
  have hE23 := ((Ext.refl w2).alloc _).trans hE
  have hV := HV.out.go hE23
  have HE3 := Lib.hid (HE2.out.trans hE23)
  have HV3 := Lib.hid hV
  clear hE hE23 HV HE2
  obtain ⟨q0, q1, q2⟩ := hV.pat.cells
  obtain ⟨s0, s1, s2, s3⟩ := hV.pat.out
  obtain ⟨_, v0, v1, v2, v3, lv, gv⟩ := hV
  have l0 : w.heap.size < w3.heap.size := by omega
  have l1 : w.heap.size + 1 < w3.heap.size := by omega
  have l2 : w.heap.size < w3.heap.size + 1 := by omega
  have l3 : w.heap.size + 1 < w3.heap.size + 1 := by omega
  have l4 : w1.heap.size < w3.heap.size + 1 := by omega
  have n0 : ¬ w1.heap.size = w.heap.size := by omega
  have n1 : ¬ w1.heap.size = w.heap.size + 1 := by omega
  have n2 : ¬ w.heap.size + 1 = w1.heap.size := by omega
  have n3 : ¬ w.heap.size = w1.heap.size := by omega
  have lt : w2.heap.size < w3.heap.size := by omega
  go_wp2_with fail
  have HVZ := HV3
  have HEZ := HE3
  refine bodyPost_ret (v := .tuple #[.agg #[.slice A1 ts.length c1, .int .i64 g, .slice B1 dn.length d1], .bool false, .int .i64 (5)]) (by simp [results, Try.results10, go_sem]; go_simp) rfl (TNo.of (mk := mkDo (5)) HVZ.out HO.out HOD.out HEZ.out _ _ _)

set_option maxHeartbeats 1600000 in
set_option maxRecDepth 100000 in
theorem pdo_done (A B : Option Addr) (c d : Nat) (ts : List Tk) (dn : List Bool) (g : Int) (j : Nat) (w : World) (h : Rd kTask w (.slice A ts.length c) ts) (hd : Rd kBool w (.slice B dn.length d) dn) (hg : in64 g) (hr : wRight ts g dn.length = true) (hj : j < ts.length) (ht : wGreat ts g dn.length j = false) (h3 : (ts.getD j tk0).wt = 0) (hdn : dn.getD (ts.getD j tk0).lo.toNat false = true) :
    Calls Try.prog 10 #[.agg #[.slice A ts.length c, .int .i64 g, .slice B dn.length d], .int .i64 j] w (TNo w ts g dn (mkDo 5)) := by
  have H := Lib.hid h
  have HD := Lib.hid hd
  have hn := hd.len
  have hnb := right_n hr
  have hm := h.len
  have HG := Lib.hid hg
  have HI : Hid (in64 (j : Int)) := Lib.hid (by unfold in64; omega)
  have hl : ts.length ≤ 1048576 := by omega
  have hl2 : dn.length ≤ 1048576 := by omega
  have hgb := hnb.2.2.2.2
  have hs : wHas ts.length (j : Int) = true := by unfold wHas; simp; omega
  have HK := Lib.hid (askErr_ok hr hs)
  have HW : wGreat ts g dn.length j = decide (g < (ts.getD j tk0).hi - (ts.getD j tk0).lo) := by unfold wGreat tkAt; rw [hr, hs, Int.toNat_natCast]; rfl
  obtain ⟨b, off, rfl, hcc⟩ := Rd.tasks H.out (by omega)
  obtain ⟨y0, y1, y2, y3⟩ := hcc j hj
  have e0 : ts.getD j ⟨0, 0, 0, 0⟩ = ts.getD j tk0 := rfl
  rw [e0] at y0 y1 y2 y3
  obtain ⟨o1, o2, o3, o4, o5, o6, o7⟩ := tkOk_iff dn.length j (ts.getD j tk0) |>.1 (right_ok hr j hj)
  obtain ⟨⟨lo, hi, up, wt⟩, htk⟩ : ∃ x, ts.getD j tk0 = x := ⟨_, rfl⟩
  have HTK := Lib.hid htk
  rw [htk] at y0 y1 y2 y3 h3 o1 o2 o3 o4 o5 o6 o7 HW
  simp only at y0 y1 y2 y3 h3 o1 o2 o3 o4 o5 o6 o7 HW
  rw [ht] at HW
  have HGR : Hid (decide (g < hi - lo) = false) := Lib.hid HW.symm
  have HDD : Hid (in64 (hi - lo)) := Lib.hid (by unfold in64; omega)
  have Y0 := Lib.hid y0
  have Y1 := Lib.hid y1
  have Y2 := Lib.hid y2
  have Y3 := Lib.hid y3
  have hj1 : (j : Int) < ts.length := by omega
  have hj0 : (0 : Int) ≤ j := by omega
  have hlb : b < w.heap.size := World.block_lt_of_cell? _ _ y0
  subst h3
  obtain ⟨L, rfl⟩ : ∃ L : Nat, lo = L := ⟨lo.toNat, by omega⟩
  obtain ⟨R, rfl⟩ : ∃ R : Nat, hi = R := ⟨hi.toNat, by omega⟩
  obtain ⟨bb, boff, rfl, hbc⟩ := Rd.bools HD.out (by omega)
  have z9 := hbc L (by omega)
  have hdL : dn.getD L false = true := by rw [HTK.out] at hdn; simpa using hdn
  rw [hdL] at z9
  have Z9 := Lib.hid z9
  have hL1 : (L : Int) < dn.length := by omega
  have hL0 : (0 : Int) ≤ L := by omega
  clear hbc z9 hdn hdL
  clear h hd hg hr ht hs hcc e0 htk y0 y1 y2 y3 HW
  go_enter Try.func10, Try.ntmps10
  go_wp2_with fail
  have hP : PAt w (some ⟨b, off, none⟩) (some ⟨bb, boff, none⟩) c d dn.length ts.length g ((w.alloc (.cells #[.slice (some ⟨b, off, none⟩) ts.length c, .int .i64 g, .slice (some ⟨bb, boff, none⟩) dn.length d] 25)).alloc (.cells #[.slice none 0 0, .int .i64 0, .slice none 0 0] 25)) := Ext.refl _
  refine (copied_any _ _ _ _ _ _ _ _ (H.out.ext hP.ext) (HD.out.ext hP.ext) hl hl2).mono ?_
  rintro e w1 ⟨A1, c1, B1, d1, rfl, hO, hOD, hE⟩
  replace hP := hP.go hE
  have HO : Hid (Ow kTask (w.heap.size + 2) w1 (.slice A1 ts.length c1) ts) := Lib.hid (hO.mono (by simp))
  have HOD : Hid (Ow kBool (w.heap.size + 2) w1 (.slice B1 dn.length d1) dn) := Lib.hid (hOD.mono (by simp))
  have hV : VAt w (some ⟨b, off, none⟩) (some ⟨bb, boff, none⟩) c d dn.length ts.length g w1.heap.size A1 B1 c1 d1 (w1.alloc (.cells #[.slice A1 ts.length c1, .int .i64 g, .slice B1 dn.length d1] 25)) := VAt.start hP
  have HV0 := Lib.hid hV
  have HE1 : Hid (Ext w1 (w1.alloc (.cells #[.slice A1 ts.length c1, .int .i64 g, .slice B1 dn.length d1] 25))) := Lib.hid ((Ext.refl _).alloc _)
  obtain ⟨q0, q1, q2⟩ := hP.cells
  have k0 : w.heap.size < w1.heap.size := by have := hP.two; omega
  have k1 : w.heap.size + 1 < w1.heap.size := by have := hP.two; omega
  clear hO hOD hE hP hV
  go_wp2_with fail
  clear q0 q1 q2
  have hV := HV0.out
  refine (asked_any _ _ _ _ _ _ _ _ _ (H.out.ext hV.pat.ext) hn HG.out HI.out).mono ?_
  rintro e w2 ⟨he, hE⟩
  rw [HK.out] at he
  subst he
  replace hV := hV.go hE
  have HE2 := Lib.hid (HE1.out.trans hE)
  have HV := Lib.hid hV
  clear hE HV0 HE1
  obtain ⟨q0, q1, q2⟩ := hV.pat.cells
  obtain ⟨s0, s1, s2, s3⟩ := hV.pat.out
  obtain ⟨_, v0, v1, v2, v3, lv, gv⟩ := hV
  have l0 : w.heap.size < w2.heap.size := by omega
  have l1 : w.heap.size + 1 < w2.heap.size := by omega
  have l2 : w.heap.size < w2.heap.size + 1 := by omega
  have l3 : w.heap.size + 1 < w2.heap.size + 1 := by omega
  have l4 : w1.heap.size < w2.heap.size + 1 := by omega
  have n0 : ¬ w1.heap.size = w.heap.size := by omega
  have n1 : ¬ w1.heap.size = w.heap.size + 1 := by omega
  have n2 : ¬ w.heap.size + 1 = w1.heap.size := by omega
  have n3 : ¬ w.heap.size = w1.heap.size := by omega
  have z0 := HV.out.pat.ext.cell Y0.out
  have z1 := HV.out.pat.ext.cell Y1.out
  have z2 := HV.out.pat.ext.cell Y2.out
  have z3 := HV.out.pat.ext.cell Y3.out
  have lb0 : b < w2.heap.size := by omega
  have lb1 : b < w2.heap.size + 1 := by omega
  go_wp2_with fail
  have lv9 := lv
  clear q0 q1 q2 s0 s1 s2 s3 v0 v1 v2 v3 lv gv l0 l1 l2 l3 l4 n0 n1 n2 n3 z0 z1 z2 z3 lb0 lb1
  refine (great_any L R up 0 g _ HDD.out HG.out).mono ?_
  rintro e w3 ⟨he, hE⟩
  rw [HGR.out] at he
  subst he
  have t0 : w3.cell? ⟨w2.heap.size, 0, none⟩ = some (.int .i64 L) := hE.cell (by go_simp)
  have t1 : w3.cell? ⟨w2.heap.size, 1, none⟩ = some (.int .i64 R) := hE.cell (by go_simp)
  have t2 : w3.cell? ⟨w2.heap.size, 2, none⟩ = some (.int .i64 up) := hE.cell (by go_simp)
  have t3 : w3.cell? ⟨w2.heap.size, 3, none⟩ = some (.int .i64 0) := hE.cell (by go_simp)
  have hz := hE.size
  simp at hz
  have hE23 := ((Ext.refl w2).alloc _).trans hE
  have hV := HV.out.go hE23
  have HE3 := Lib.hid (HE2.out.trans hE23)
  have HV3 := Lib.hid hV
  clear hE hE23 HV HE2
  obtain ⟨q0, q1, q2⟩ := hV.pat.cells
  obtain ⟨s0, s1, s2, s3⟩ := hV.pat.out
  obtain ⟨_, v0, v1, v2, v3, lv, gv⟩ := hV
  have l0 : w.heap.size < w3.heap.size := by omega
  have l1 : w.heap.size + 1 < w3.heap.size := by omega
  have l2 : w.heap.size < w3.heap.size + 1 := by omega
  have l3 : w.heap.size + 1 < w3.heap.size + 1 := by omega
  have l4 : w1.heap.size < w3.heap.size + 1 := by omega
  have n0 : ¬ w1.heap.size = w.heap.size := by omega
  have n1 : ¬ w1.heap.size = w.heap.size + 1 := by omega
  have n2 : ¬ w.heap.size + 1 = w1.heap.size := by omega
  have n3 : ¬ w.heap.size = w1.heap.size := by omega
  have lt : w2.heap.size < w3.heap.size := by omega
  have z9 := HV3.out.pat.ext.cell Z9.out
  go_wp2_with fail
  have HVZ := HV3
  have HEZ := HE3
  refine bodyPost_ret (v := .tuple #[.agg #[.slice A1 ts.length c1, .int .i64 g, .slice B1 dn.length d1], .bool false, .int .i64 (5)]) (by simp [results, Try.results10, go_sem]; go_simp) rfl (TNo.of (mk := mkDo (5)) HVZ.out HO.out HOD.out HEZ.out _ _ _)

set_option maxHeartbeats 1600000 in
set_option maxRecDepth 100000 in
theorem pdo_ok (A B : Option Addr) (c d : Nat) (ts : List Tk) (dn : List Bool) (g : Int) (j : Nat) (w : World) (h : Rd kTask w (.slice A ts.length c) ts) (hd : Rd kBool w (.slice B dn.length d) dn) (hg : in64 g) (hr : wRight ts g dn.length = true) (hj : j < ts.length) (ht : wGreat ts g dn.length j = false) (h3 : (ts.getD j tk0).wt = 0) (hdn : dn.getD (ts.getD j tk0).lo.toNat false = false) :
    Calls Try.prog 10 #[.agg #[.slice A ts.length c, .int .i64 g, .slice B dn.length d], .int .i64 j] w (DoSaid w ts g dn j) := by
  have HOK := Lib.hid (by have := hr; unfold wRight at this; rw [Bool.and_eq_true] at this; exact this.2 : wOkTo ts dn.length ts.length = true)
  have H := Lib.hid h
  have HD := Lib.hid hd
  have hn := hd.len
  have hnb := right_n hr
  have hm := h.len
  have HG := Lib.hid hg
  have HI : Hid (in64 (j : Int)) := Lib.hid (by unfold in64; omega)
  have hl : ts.length ≤ 1048576 := by omega
  have hl2 : dn.length ≤ 1048576 := by omega
  have hgb := hnb.2.2.2.2
  have hs : wHas ts.length (j : Int) = true := by unfold wHas; simp; omega
  have HK := Lib.hid (askErr_ok hr hs)
  have HW : wGreat ts g dn.length j = decide (g < (ts.getD j tk0).hi - (ts.getD j tk0).lo) := by unfold wGreat tkAt; rw [hr, hs, Int.toNat_natCast]; rfl
  obtain ⟨b, off, rfl, hcc⟩ := Rd.tasks H.out (by omega)
  obtain ⟨y0, y1, y2, y3⟩ := hcc j hj
  have e0 : ts.getD j ⟨0, 0, 0, 0⟩ = ts.getD j tk0 := rfl
  rw [e0] at y0 y1 y2 y3
  obtain ⟨o1, o2, o3, o4, o5, o6, o7⟩ := tkOk_iff dn.length j (ts.getD j tk0) |>.1 (right_ok hr j hj)
  obtain ⟨⟨lo, hi, up, wt⟩, htk⟩ : ∃ x, ts.getD j tk0 = x := ⟨_, rfl⟩
  have HTK := Lib.hid htk
  rw [htk] at y0 y1 y2 y3 h3 o1 o2 o3 o4 o5 o6 o7 HW
  simp only at y0 y1 y2 y3 h3 o1 o2 o3 o4 o5 o6 o7 HW
  rw [ht] at HW
  have HGR : Hid (decide (g < hi - lo) = false) := Lib.hid HW.symm
  have HDD : Hid (in64 (hi - lo)) := Lib.hid (by unfold in64; omega)
  have Y0 := Lib.hid y0
  have Y1 := Lib.hid y1
  have Y2 := Lib.hid y2
  have Y3 := Lib.hid y3
  have hj1 : (j : Int) < ts.length := by omega
  have hj0 : (0 : Int) ≤ j := by omega
  have hlb : b < w.heap.size := World.block_lt_of_cell? _ _ y0
  subst h3
  obtain ⟨L, rfl⟩ : ∃ L : Nat, lo = L := ⟨lo.toNat, by omega⟩
  obtain ⟨R, rfl⟩ : ∃ R : Nat, hi = R := ⟨hi.toNat, by omega⟩
  obtain ⟨bb, boff, rfl, hbc⟩ := Rd.bools HD.out (by omega)
  have z9 := hbc L (by omega)
  have hdL : dn.getD L false = false := by rw [HTK.out] at hdn; simpa using hdn
  rw [hdL] at z9
  have Z9 := Lib.hid z9
  have hL1 : (L : Int) < dn.length := by omega
  have hL0 : (0 : Int) ≤ L := by omega
  clear hbc z9 hdn hdL
  clear h hd hg hr ht hs hcc e0 htk y0 y1 y2 y3 HW
  go_enter Try.func10, Try.ntmps10
  go_wp2_with fail
  have hP : PAt w (some ⟨b, off, none⟩) (some ⟨bb, boff, none⟩) c d dn.length ts.length g ((w.alloc (.cells #[.slice (some ⟨b, off, none⟩) ts.length c, .int .i64 g, .slice (some ⟨bb, boff, none⟩) dn.length d] 25)).alloc (.cells #[.slice none 0 0, .int .i64 0, .slice none 0 0] 25)) := Ext.refl _
  refine (copied_any _ _ _ _ _ _ _ _ (H.out.ext hP.ext) (HD.out.ext hP.ext) hl hl2).mono ?_
  rintro e w1 ⟨A1, c1, B1, d1, rfl, hO, hOD, hE⟩
  replace hP := hP.go hE
  have HO : Hid (Ow kTask (w.heap.size + 2) w1 (.slice A1 ts.length c1) ts) := Lib.hid (hO.mono (by simp))
  have HOD : Hid (Ow kBool (w.heap.size + 2) w1 (.slice B1 dn.length d1) dn) := Lib.hid (hOD.mono (by simp))
  have hV : VAt w (some ⟨b, off, none⟩) (some ⟨bb, boff, none⟩) c d dn.length ts.length g w1.heap.size A1 B1 c1 d1 (w1.alloc (.cells #[.slice A1 ts.length c1, .int .i64 g, .slice B1 dn.length d1] 25)) := VAt.start hP
  have HV0 := Lib.hid hV
  have HE1 : Hid (Ext w1 (w1.alloc (.cells #[.slice A1 ts.length c1, .int .i64 g, .slice B1 dn.length d1] 25))) := Lib.hid ((Ext.refl _).alloc _)
  obtain ⟨q0, q1, q2⟩ := hP.cells
  have k0 : w.heap.size < w1.heap.size := by have := hP.two; omega
  have k1 : w.heap.size + 1 < w1.heap.size := by have := hP.two; omega
  clear hO hOD hE hP hV
  go_wp2_with fail
  clear q0 q1 q2
  have hV := HV0.out
  refine (asked_any _ _ _ _ _ _ _ _ _ (H.out.ext hV.pat.ext) hn HG.out HI.out).mono ?_
  rintro e w2 ⟨he, hE⟩
  rw [HK.out] at he
  subst he
  replace hV := hV.go hE
  have HE2 := Lib.hid (HE1.out.trans hE)
  have HV := Lib.hid hV
  clear hE HV0 HE1
  obtain ⟨q0, q1, q2⟩ := hV.pat.cells
  obtain ⟨s0, s1, s2, s3⟩ := hV.pat.out
  obtain ⟨_, v0, v1, v2, v3, lv, gv⟩ := hV
  have l0 : w.heap.size < w2.heap.size := by omega
  have l1 : w.heap.size + 1 < w2.heap.size := by omega
  have l2 : w.heap.size < w2.heap.size + 1 := by omega
  have l3 : w.heap.size + 1 < w2.heap.size + 1 := by omega
  have l4 : w1.heap.size < w2.heap.size + 1 := by omega
  have n0 : ¬ w1.heap.size = w.heap.size := by omega
  have n1 : ¬ w1.heap.size = w.heap.size + 1 := by omega
  have n2 : ¬ w.heap.size + 1 = w1.heap.size := by omega
  have n3 : ¬ w.heap.size = w1.heap.size := by omega
  have z0 := HV.out.pat.ext.cell Y0.out
  have z1 := HV.out.pat.ext.cell Y1.out
  have z2 := HV.out.pat.ext.cell Y2.out
  have z3 := HV.out.pat.ext.cell Y3.out
  have lb0 : b < w2.heap.size := by omega
  have lb1 : b < w2.heap.size + 1 := by omega
  go_wp2_with fail
  have lv9 := lv
  clear q0 q1 q2 s0 s1 s2 s3 v0 v1 v2 v3 lv gv l0 l1 l2 l3 l4 n0 n1 n2 n3 z0 z1 z2 z3 lb0 lb1
  refine (great_any L R up 0 g _ HDD.out HG.out).mono ?_
  rintro e w3 ⟨he, hE⟩
  rw [HGR.out] at he
  subst he
  have t0 : w3.cell? ⟨w2.heap.size, 0, none⟩ = some (.int .i64 L) := hE.cell (by go_simp)
  have t1 : w3.cell? ⟨w2.heap.size, 1, none⟩ = some (.int .i64 R) := hE.cell (by go_simp)
  have t2 : w3.cell? ⟨w2.heap.size, 2, none⟩ = some (.int .i64 up) := hE.cell (by go_simp)
  have t3 : w3.cell? ⟨w2.heap.size, 3, none⟩ = some (.int .i64 0) := hE.cell (by go_simp)
  have hz := hE.size
  simp at hz
  have hE23 := ((Ext.refl w2).alloc _).trans hE
  have hV := HV.out.go hE23
  have HE3 := Lib.hid (HE2.out.trans hE23)
  have HV3 := Lib.hid hV
  clear hE hE23 HV HE2
  obtain ⟨q0, q1, q2⟩ := hV.pat.cells
  obtain ⟨s0, s1, s2, s3⟩ := hV.pat.out
  obtain ⟨_, v0, v1, v2, v3, lv, gv⟩ := hV
  have l0 : w.heap.size < w3.heap.size := by omega
  have l1 : w.heap.size + 1 < w3.heap.size := by omega
  have l2 : w.heap.size < w3.heap.size + 1 := by omega
  have l3 : w.heap.size + 1 < w3.heap.size + 1 := by omega
  have l4 : w1.heap.size < w3.heap.size + 1 := by omega
  have n0 : ¬ w1.heap.size = w.heap.size := by omega
  have n1 : ¬ w1.heap.size = w.heap.size + 1 := by omega
  have n2 : ¬ w.heap.size + 1 = w1.heap.size := by omega
  have n3 : ¬ w.heap.size = w1.heap.size := by omega
  have lt : w2.heap.size < w3.heap.size := by omega
  have z9 := HV3.out.pat.ext.cell Z9.out
  go_wp2_with fail
  obtain ⟨ga, rfl, ga1, ga2, ga3, ga4⟩ := Ow.pos HO.out (by omega)
  obtain ⟨gb, rfl, gb1, gb2, gb3, gb4⟩ := Ow.pos HOD.out (by omega)
  have hgab : ga ≠ gb := fun h => by have := Ow.far (by decide) HO.out HOD.out ga rfl; rw [h] at this; exact this rfl
  have hD0 : DAt w w3 (w.heap.size + 2) ga gb c1 d1 w3 ts (marked dn L L) := ⟨fun _ _ _ _ _ => rfl, fun _ _ _ _ _ => rfl, HO.out.ext HE3.out, by rw [marked_none]; exact HOD.out.ext HE3.out, HV3.out.pat.ext⟩
  have HD0 := Lib.hid hD0
  have X := Lib.hid (And.intro v0 (And.intro v1 (And.intro v2 (And.intro t1 t2))))
  have S0 := Lib.hid (And.intro s0 (And.intro s1 (And.intro s2 s3)))
  have HN : Hid ((w1.heap.size ≠ ga ∧ w1.heap.size ≠ gb ∧ w2.heap.size ≠ ga ∧ w2.heap.size ≠ gb) ∧ (w.heap.size + 1 ≠ ga ∧ w.heap.size + 1 ≠ gb)) := Lib.hid ⟨⟨by omega, by omega, by omega, by omega⟩, by omega, by omega⟩
  have HSZ : Hid (w1.heap.size < w3.heap.size ∧ w2.heap.size < w3.heap.size ∧ w.heap.size + 2 ≤ w1.heap.size ∧ w.heap.size + 2 ≤ ga ∧ w.heap.size + 2 ≤ gb ∧ w1.heap.size < w2.heap.size) := Lib.hid ⟨lv, lt, gv, ga1, gb1, lv9⟩
  clear hD0 ga3 ga4 gb3 gb4 ga2 gb2 q0 q1 q2 s0 s1 s2 s3 v0 v1 v2 v3 lv gv l0 l1 l2 l3 l4 n0 n1 n2 n3 t0 t1 t2 t3 z9 lt lv9 hz
  go_loopw [10] (fun i wr => ∃ k : Nat, L ≤ k ∧ k ≤ R ∧ i = .int .i64 k ∧ DAt w w3 (w.heap.size + 2) ga gb c1 d1 wr ts (marked dn L k)) (fun i _ => R - (intOf i).toNat)
  case atStart => exact ⟨L, Nat.le_refl _, by omega, rfl, HD0.out⟩
  case round =>
    obtain ⟨k, hk1, hk2, rfl, hA⟩ := hrel
    have m0 := hA.cell X.out.1 HN.out.1.1 HN.out.1.2.1
    have m1 := hA.cell X.out.2.1 HN.out.1.1 HN.out.1.2.1
    have m2 := hA.cell X.out.2.2.1 HN.out.1.1 HN.out.1.2.1
    have m3 := hA.cell X.out.2.2.2.1 HN.out.1.2.2.1 HN.out.1.2.2.2
    have m4 := hA.cell X.out.2.2.2.2 HN.out.1.2.2.1 HN.out.1.2.2.2
    have HA := Lib.hid hA
    by_cases hlt : k < R
    · have hlt1 : (k : Int) < R := by omega
      have hkl : (k : Int) < dn.length := by omega
      have hk0 : (0 : Int) ≤ k := by omega
      have hml : (marked dn L k).length = dn.length := marked_len dn L k hk1 (by omega)
      obtain ⟨n0, n1⟩ := hA.unit (k := k) (by omega)
      have hN := hA.mark (k := k) (by omega) (by omega) hgab
      rw [← marked_succ dn L k hk1 (by omega)] at hN
      have HNN := Lib.hid hN
      clear hA hN hml
      go_wp2_with fail
      go_roundw
      case rel => exact ⟨k + 1, by omega, by omega, by go_num, HNN.out⟩
      case measure => simp [intOf]; omega
    · have hkr : k = R := by omega
      have hlt1 : ¬ (k : Int) < R := by omega
      subst hkr
      have hml : (marked dn L k).length = dn.length := marked_len dn L k hk1 (by omega)
      have hlo : (ts.getD j tk0).lo = L := by rw [HTK.out]
      have hhi : (ts.getD j tk0).hi = k := by rw [HTK.out]
      have hupj : (ts.getD j tk0).up = up := by rw [HTK.out]
      have HM := Lib.hid (And.intro hml (And.intro hlo (And.intro hhi hupj)))
      have sz1 : w1.heap.size < wr.heap.size := World.block_lt_of_cell? _ _ m0
      have sz2 : w2.heap.size < wr.heap.size := World.block_lt_of_cell? _ _ m3
      have sz3 : w.heap.size + 1 < wr.heap.size := by have := HSZ.out; omega
      have N1 := HN.out
      have u0 := hA.cell S0.out.1 HN.out.2.1 HN.out.2.2
      have u1 := hA.cell S0.out.2.1 HN.out.2.1 HN.out.2.2
      have u2 := hA.cell S0.out.2.2.1 HN.out.2.1 HN.out.2.2
      have u3 : ∀ o, wr.frozen? ⟨w.heap.size + 1, o, none⟩ = false := fun o => (hA.fro (w.heap.size + 1) o (by have := HSZ.out; omega) HN.out.2.1 HN.out.2.2).trans (S0.out.2.2.2 o)
      have f1 : ¬ w1.heap.size = w.heap.size + 1 := by have := HSZ.out; omega
      have f2 : ¬ w2.heap.size = w.heap.size + 1 := by have := HSZ.out; omega
      have f3 : ¬ w.heap.size + 1 = w1.heap.size := by have := HSZ.out; omega
      have f4 : ¬ w.heap.size + 1 = w2.heap.size := by have := HSZ.out; omega
      have hup2 : up < ts.length := by omega
      have hts : ts.length ≤ 2000 := by omega
      clear hA hml hlo hhi hupj
      go_wp2_with fail
      go_region_held3 (fun w' => w'.cell? ⟨w1.heap.size, 0, none⟩ = some (.slice (some ⟨ga, 0, none⟩) ts.length c1) ∧ w'.cell? ⟨w1.heap.size, 1, none⟩ = some (.int .i64 g) ∧ w'.cell? ⟨w1.heap.size, 2, none⟩ = some (.slice (some ⟨gb, 0, none⟩) dn.length d1) ∧ w'.cell? ⟨w2.heap.size, 2, none⟩ = some (.int .i64 up))
        (first | go_keep | (with_reducible exact ⟨c11, c12, c13, c14⟩))
        (first
          | (go_at_call 27
             refine (finish_any (w.heap.size + 2) ga c1 dn.length ts up _ (HA.out.own.ext (Ext.refl _).drew) HOK.out o4 hup2 hts).mono ?_
             rintro e w5 ⟨rfl, hF⟩
             have c11 : w5.cell? ⟨w1.heap.size, 0, none⟩ = some (.slice (some ⟨ga, 0, none⟩) ts.length c1) := ((grown_far hF.grow (b := w1.heap.size) (by first | exact sz1 | (simp; exact sz1)) (by simp; exact N1.1.1)).1 0).trans (by go_simp)
             have c12 : w5.cell? ⟨w1.heap.size, 1, none⟩ = some (.int .i64 g) := ((grown_far hF.grow (b := w1.heap.size) (by first | exact sz1 | (simp; exact sz1)) (by simp; exact N1.1.1)).1 1).trans (by go_simp)
             have c13 : w5.cell? ⟨w1.heap.size, 2, none⟩ = some (.slice (some ⟨gb, 0, none⟩) dn.length d1) := ((grown_far hF.grow (b := w1.heap.size) (by first | exact sz1 | (simp; exact sz1)) (by simp; exact N1.1.1)).1 2).trans (by go_simp)
             have c14 : w5.cell? ⟨w2.heap.size, 2, none⟩ = some (.int .i64 up) := ((grown_far hF.grow (b := w2.heap.size) (by first | exact sz2 | (simp; exact sz2)) (by simp; exact N1.1.2.2.1)).1 2).trans (by go_simp)
             obtain ⟨G1, G2⟩ := grown_far hF.grow (b := w.heap.size + 1) (by first | exact sz3 | (simp; exact sz3)) (by simp; exact N1.2.1)
             have r0 : w5.cell? ⟨w.heap.size + 1, 0, none⟩ = some (.slice none 0 0) := (G1 0).trans (by go_simp)
             have r1 : w5.cell? ⟨w.heap.size + 1, 1, none⟩ = some (.int .i64 0) := (G1 1).trans (by go_simp)
             have r2 : w5.cell? ⟨w.heap.size + 1, 2, none⟩ = some (.slice none 0 0) := (G1 2).trans (by go_simp)
             have r3 : ∀ o, w5.frozen? ⟨w.heap.size + 1, o, none⟩ = false := fun o => (G2 o).trans (by have := u3 o; go_simp)))
      go_wp2_with fail
      have hcl : (climb (ts.length + 1) ts up).1.length = ts.length := climb_len _ _ _
      have ho := hF.own
      rw [hcl] at ho
      have hd5 := (HA.out.dns.ext (Ext.refl _).drew).kept hF.grow (.inr (by simp [Value.ownBlock]; omega))
      rw [HM.out.1] at hd5
      have hx5 : Ext w w5 := HA.out.ext.drew.grown hF.grow (by intro k hk; cases hk; have := HSZ.out; omega)
      refine bodyPost_ret (v := .tuple #[.agg #[.slice (some ⟨ga, 0, none⟩) ts.length c1, .int .i64 g, .slice (some ⟨gb, 0, none⟩) dn.length d1], .bool (climb (ts.length + 1) ts up).2, .int .i64 0]) (by simp [results, Try.results10, go_sem]; go_simp) rfl ⟨_, _, _, _, by rw [HM.out.2.2.2], ?_, ?_, ho.from.mono (by omega), hd5.from.mono (by omega), ?_⟩
      · rw [HM.out.2.2.2]
        exact (((ho.setBelow (p := ⟨w.heap.size + 1, 0, none⟩) (by show w.heap.size + 1 < _; omega) _).setBelow (p := ⟨w.heap.size + 1, 1, none⟩) (by show w.heap.size + 1 < _; omega) _).setBelow (p := ⟨w.heap.size + 1, 2, none⟩) (by show w.heap.size + 1 < _; omega) _).rd
      · rw [HM.out.2.1, HM.out.2.2.1, Int.toNat_natCast, Int.toNat_natCast]
        exact (((hd5.setBelow (p := ⟨w.heap.size + 1, 0, none⟩) (by show w.heap.size + 1 < _; omega) _).setBelow (p := ⟨w.heap.size + 1, 1, none⟩) (by show w.heap.size + 1 < _; omega) _).setBelow (p := ⟨w.heap.size + 1, 2, none⟩) (by show w.heap.size + 1 < _; omega) _).rd
      · exact ((hx5.setCell (p := ⟨w.heap.size + 1, 0, none⟩) (by show _ ≤ w.heap.size + 1; omega) _).setCell (p := ⟨w.heap.size + 1, 1, none⟩) (by show _ ≤ w.heap.size + 1; omega) _).setCell (p := ⟨w.heap.size + 1, 2, none⟩) (by show _ ≤ w.heap.size + 1; omega) _

theorem pdo_any (A B : Option Addr) (c d : Nat) (ts : List Tk) (dn : List Bool) (g i : Int) (w : World) (h : Rd kTask w (.slice A ts.length c) ts) (hd : Rd kBool w (.slice B dn.length d) dn) (hg : in64 g) (hi : in64 i) (hl : ts.length ≤ 1048576) (hl2 : dn.length ≤ 1048576) :
    Calls Try.prog 10 #[.agg #[.slice A ts.length c, .int .i64 g, .slice B dn.length d], .int .i64 i] w fun e w' =>
      (doErr ts g dn i ≠ 0 ∧ TNo w ts g dn (mkDo (doErr ts g dn i)) e w') ∨ (doErr ts g dn i = 0 ∧ DoSaid w ts g dn i.toNat e w') := by
  by_cases ha : askErr ts g dn.length i = 0
  · obtain ⟨hr, hs⟩ := askErr_zero ha
    have hsi : 0 ≤ i ∧ i < (ts.length : Int) := by unfold wHas at hs; simpa using hs
    obtain ⟨j, rfl⟩ : ∃ j : Nat, i = j := ⟨i.toNat, by omega⟩
    have hj : j < ts.length := by omega
    have e0 : tkAt ts (j : Int) = ts.getD j tk0 := by unfold tkAt; rw [Int.toNat_natCast]
    cases ht : wGreat ts g dn.length j with
    | true =>
      have he : doErr ts g dn (j : Int) = 5 := by unfold doErr; rw [if_neg (by rw [hr]; decide), if_neg (by rw [hs]; decide), if_pos ht]
      rw [he]
      exact (pdo_great A B c d ts dn g j w h hd hg hr hj ht).mono fun e w' hh => .inl ⟨by decide, hh⟩
    | false =>
      by_cases hw : (ts.getD j tk0).wt = 0
      · cases hf : dn.getD (ts.getD j tk0).lo.toNat false with
        | true =>
          have he : doErr ts g dn (j : Int) = 5 := by unfold doErr; rw [if_neg (by rw [hr]; decide), if_neg (by rw [hs]; decide), if_neg (by rw [ht]; decide), e0, if_neg (by simpa using hw), if_pos hf]
          rw [he]
          exact (pdo_done A B c d ts dn g j w h hd hg hr hj ht hw hf).mono fun e w' hh => .inl ⟨by decide, hh⟩
        | false =>
          have he : doErr ts g dn (j : Int) = 0 := by unfold doErr; rw [if_neg (by rw [hr]; decide), if_neg (by rw [hs]; decide), if_neg (by rw [ht]; decide), e0, if_neg (by simpa using hw), if_neg (by rw [hf]; decide)]
          rw [he]
          exact (pdo_ok A B c d ts dn g j w h hd hg hr hj ht hw hf).mono fun e w' hh => .inr ⟨rfl, by rw [Int.toNat_natCast]; exact hh⟩
      · skip
        have he : doErr ts g dn (j : Int) = 5 := by unfold doErr; rw [if_neg (by rw [hr]; decide), if_neg (by rw [hs]; decide), if_neg (by rw [ht]; decide), e0, if_pos hw]
        rw [he]
        exact (pdo_wait A B c d ts dn g j w h hd hg hr hj ht hw).mono fun e w' hh => .inl ⟨by decide, hh⟩
  · have he : doErr ts g dn i = askErr ts g dn.length i := by
      unfold doErr
      unfold askErr at ha ⊢
      cases hr : wRight ts g dn.length with
      | false => rfl
      | true =>
        cases hs : wHas ts.length i with
        | false => rfl
        | true => rw [hr, hs] at ha; exact absurd rfl ha
    rw [he]
    exact (pdo_no A B c d ts dn g i w h hd hg hi hl hl2 ha).mono fun e w' hh => .inl ⟨ha, hh⟩
end Go.Proofs.Ytfigfndabokepaa
