/- Joined by wip/merge.py: PPart. -/
import Derived.Test.YtebbpkdhdilkcaaJ3
/- The program's Part of work. Written by wip/mk_pwork.py. -/
namespace Go.Proofs.Ytebbpkdhdilkcaa
open Go.BigFrame
open Go.RowKit Go.Proofs.Ytebbpkdhdilkcaa.Plain

/-- the frame behind the copy: the work, the answer's cells, the copy's cells -/
structure VAt (w : World) (A B : Option Addr) (c d n m : Nat) (g : Int) (V : Nat) (A1 B1 : Option Addr) (c1 d1 : Nat) (w' : World) : Prop where
  pat : PAt w A B c d n m g w'
  v0 : w'.cell? ⟨V, 0, none⟩ = some (.slice A1 m c1)
  v1 : w'.cell? ⟨V, 1, none⟩ = some (.int .i64 g)
  v2 : w'.cell? ⟨V, 2, none⟩ = some (.slice B1 n d1)
  vf : ∀ o, w'.frozen? ⟨V, o, none⟩ = false
  lt : V < w'.heap.size
  ge : w.heap.size + 2 ≤ V
theorem VAt.go {w : World} {A B : Option Addr} {c d n m : Nat} {g : Int} {V : Nat} {A1 B1 : Option Addr} {c1 d1 : Nat} {w' w'' : World} (h : VAt w A B c d n m g V A1 B1 c1 d1 w') (hE : Ext w' w'') : VAt w A B c d n m g V A1 B1 c1 d1 w'' :=
  ⟨h.pat.go hE, hE.cell h.v0, hE.cell h.v1, hE.cell h.v2, fun o => (Below.frozen hE (p := ⟨V, o, none⟩) h.lt).trans (h.vf o), Nat.lt_of_lt_of_le h.lt hE.size, h.ge⟩
theorem VAt.start {w : World} {A B : Option Addr} {c d n m : Nat} {g : Int} {A1 B1 : Option Addr} {c1 d1 : Nat} {w1 : World} (h : PAt w A B c d n m g w1) :
    VAt w A B c d n m g w1.heap.size A1 B1 c1 d1 (w1.alloc (.cells #[.slice A1 m c1, .int .i64 g, .slice B1 n d1] 28)) :=
  ⟨h.go ((Ext.refl _).alloc _), by go_simp, by go_simp, by go_simp, fun o => by go_simp, by simp, h.two⟩
/-- what is refused: the work as it was, in memory of its own -/
def TNo (w : World) (ts : List Tk) (g : Int) (dn : List Bool) (mk : Value → Value) (e : Ending) (w' : World) : Prop :=
  ∃ A c B d, e = .returned (mk (.agg #[.slice A ts.length c, .int .i64 g, .slice B dn.length d])) ∧ Rd kTask w' (.slice A ts.length c) ts ∧ Rd kBool w' (.slice B dn.length d) dn ∧ Ext w w'
theorem TNo.of {w : World} {A B : Option Addr} {c d : Nat} {ts : List Tk} {dn : List Bool} {g : Int} {V : Nat} {A1 B1 : Option Addr} {c1 d1 : Nat} {w1 w' : World} {mk : Value → Value} (h : VAt w A B c d dn.length ts.length g V A1 B1 c1 d1 w')
    (ho : Ow kTask (w.heap.size + 2) w1 (.slice A1 ts.length c1) ts) (hd : Ow kBool (w.heap.size + 2) w1 (.slice B1 dn.length d1) dn) (hE : Ext w1 w') (x y z : Value) :
    TNo w ts g dn mk (.returned (mk (.agg #[.slice A1 ts.length c1, .int .i64 g, .slice B1 dn.length d1]))) (((w'.setCell ⟨w.heap.size + 1, 0, none⟩ x).setCell ⟨w.heap.size + 1, 1, none⟩ y).setCell ⟨w.heap.size + 1, 2, none⟩ z) := by
  refine ⟨_, _, _, _, rfl, ?_, ?_, ?_⟩
  · exact ((((ho.ext hE).setBelow (p := ⟨w.heap.size + 1, 0, none⟩) (by show w.heap.size + 1 < _; omega) _).setBelow (p := ⟨w.heap.size + 1, 1, none⟩) (by show w.heap.size + 1 < _; omega) _).setBelow (p := ⟨w.heap.size + 1, 2, none⟩) (by show w.heap.size + 1 < _; omega) _).rd
  · exact ((((hd.ext hE).setBelow (p := ⟨w.heap.size + 1, 0, none⟩) (by show w.heap.size + 1 < _; omega) _).setBelow (p := ⟨w.heap.size + 1, 1, none⟩) (by show w.heap.size + 1 < _; omega) _).setBelow (p := ⟨w.heap.size + 1, 2, none⟩) (by show w.heap.size + 1 < _; omega) _).rd
  · exact ((h.pat.ext.setCell (p := ⟨w.heap.size + 1, 0, none⟩) (by show _ ≤ w.heap.size + 1; omega) _).setCell (p := ⟨w.heap.size + 1, 1, none⟩) (by show _ ≤ w.heap.size + 1; omega) _).setCell (p := ⟨w.heap.size + 1, 2, none⟩) (by show _ ≤ w.heap.size + 1; omega) _
def mkPart (k : Int) (v : Value) : Value := .tuple #[v, .int .i64 0, .int .i64 0, .int .i64 k]
def mkDo (k : Int) (v : Value) : Value := .tuple #[v, .bool false, .int .i64 k]

set_option maxHeartbeats 1600000 in
set_option maxRecDepth 100000 in
theorem ppart_no (A B : Option Addr) (c d : Nat) (ts : List Tk) (dn : List Bool) (g : Int) (i : Int) (w : World) (h : Rd kTask w (.slice A ts.length c) ts) (hd : Rd kBool w (.slice B dn.length d) dn) (hg : in64 g) (hi : in64 i) (hl : ts.length ≤ 1048576) (hl2 : dn.length ≤ 1048576) (ha : askErr ts g dn.length i ≠ 0) :
    Calls Try.prog 44 #[.agg #[.slice A ts.length c, .int .i64 g, .slice B dn.length d], .int .i64 i] w (TNo w ts g dn (mkPart (askErr ts g dn.length i))) := by
  have H := Lib.hid h
  have HD := Lib.hid hd
  have hn := hd.len
  have hm := h.len
  have HG := Lib.hid hg
  have HI := Lib.hid hi
  obtain ⟨k, hk⟩ : ∃ k, askErr ts g dn.length i = k := ⟨_, rfl⟩
  rw [hk] at ha ⊢
  have HK := Lib.hid hk
  have e1 : (k != 0) = true := by simpa using ha
  clear h hd hk hg hi
  go_enter Try.func44, Try.ntmps44
  go_wp2_with fail
  have hP : PAt w A B c d dn.length ts.length g ((w.alloc (.cells #[.slice A ts.length c, .int .i64 g, .slice B dn.length d] 28)).alloc (.cells #[.slice none 0 0, .int .i64 0, .slice none 0 0] 28)) := Ext.refl _
  refine (copied_any _ _ _ _ _ _ _ _ (H.out.ext hP.ext) (HD.out.ext hP.ext) hl hl2).mono ?_
  rintro e w1 ⟨A1, c1, B1, d1, rfl, hO, hOD, hE⟩
  replace hP := hP.go hE
  have HO : Hid (Ow kTask (w.heap.size + 2) w1 (.slice A1 ts.length c1) ts) := Lib.hid (hO.mono (by simp))
  have HOD : Hid (Ow kBool (w.heap.size + 2) w1 (.slice B1 dn.length d1) dn) := Lib.hid (hOD.mono (by simp))
  have hV : VAt w A B c d dn.length ts.length g w1.heap.size A1 B1 c1 d1 (w1.alloc (.cells #[.slice A1 ts.length c1, .int .i64 g, .slice B1 dn.length d1] 28)) := VAt.start hP
  have HV0 := Lib.hid hV
  have HE1 : Hid (Ext w1 (w1.alloc (.cells #[.slice A1 ts.length c1, .int .i64 g, .slice B1 dn.length d1] 28))) := Lib.hid ((Ext.refl _).alloc _)
  obtain ⟨q0, q1, q2⟩ := hP.cells
  have k0 : w.heap.size < w1.heap.size := by have := hP.two; omega
  have k1 : w.heap.size + 1 < w1.heap.size := by have := hP.two; omega
  clear hO hOD hE hP hV
  go_wp2_with fail
  clear q0 q1 q2
  have hV := HV0.out
  refine (asked_any _ _ _ _ _ _ _ _ _ (H.out.ext hV.pat.ext) hn HG.out HI.out).mono ?_
  rintro e w2 ⟨he, hE⟩
  rw [HK.out] at he
  subst he
  replace hV := hV.go hE
  have HE2 := Lib.hid (HE1.out.trans hE)
  have HV := Lib.hid hV
  clear hE HV0 HE1
  obtain ⟨q0, q1, q2⟩ := hV.pat.cells
  obtain ⟨s0, s1, s2, s3⟩ := hV.pat.out
  obtain ⟨_, v0, v1, v2, v3, lv, gv⟩ := hV
  have l0 : w.heap.size < w2.heap.size := by omega
  have l1 : w.heap.size + 1 < w2.heap.size := by omega
  have l2 : w.heap.size < w2.heap.size + 1 := by omega
  have l3 : w.heap.size + 1 < w2.heap.size + 1 := by omega
  have l4 : w1.heap.size < w2.heap.size + 1 := by omega
  have n0 : ¬ w1.heap.size = w.heap.size := by omega
  have n1 : ¬ w1.heap.size = w.heap.size + 1 := by omega
  have n2 : ¬ w.heap.size + 1 = w1.heap.size := by omega
  have n3 : ¬ w.heap.size = w1.heap.size := by omega
  go_wp2_with fail
  have HVZ := HV
  have HEZ := HE2
  refine bodyPost_ret (v := .tuple #[.agg #[.slice A1 ts.length c1, .int .i64 g, .slice B1 dn.length d1], .int .i64 0, .int .i64 0, .int .i64 (k)]) (by simp [results, Try.results44, go_sem]; go_simp) rfl (TNo.of (mk := mkPart (k)) HVZ.out HO.out HOD.out HEZ.out _ _ _)

set_option maxHeartbeats 1600000 in
set_option maxRecDepth 100000 in
theorem ppart_small (A B : Option Addr) (c d : Nat) (ts : List Tk) (dn : List Bool) (g : Int) (j : Nat) (w : World) (h : Rd kTask w (.slice A ts.length c) ts) (hd : Rd kBool w (.slice B dn.length d) dn) (hg : in64 g) (hr : wRight ts g dn.length = true) (hj : j < ts.length) (ht : wGreat ts g dn.length j = false) :
    Calls Try.prog 44 #[.agg #[.slice A ts.length c, .int .i64 g, .slice B dn.length d], .int .i64 j] w (TNo w ts g dn (mkPart 5)) := by
  have H := Lib.hid h
  have HD := Lib.hid hd
  have hn := hd.len
  have hnb := right_n hr
  have hm := h.len
  have HG := Lib.hid hg
  have HI : Hid (in64 (j : Int)) := Lib.hid (by unfold in64; omega)
  have hl : ts.length ≤ 1048576 := by omega
  have hl2 : dn.length ≤ 1048576 := by omega
  have hgb := hnb.2.2.2.2
  have hs : wHas ts.length (j : Int) = true := by unfold wHas; simp; omega
  have HK := Lib.hid (askErr_ok hr hs)
  have HW : wGreat ts g dn.length j = decide (g < (ts.getD j tk0).hi - (ts.getD j tk0).lo) := by unfold wGreat tkAt; rw [hr, hs, Int.toNat_natCast]; rfl
  obtain ⟨b, off, rfl, hcc⟩ := Rd.tasks H.out (by omega)
  obtain ⟨y0, y1, y2, y3⟩ := hcc j hj
  have e0 : ts.getD j ⟨0, 0, 0, 0⟩ = ts.getD j tk0 := rfl
  rw [e0] at y0 y1 y2 y3
  obtain ⟨o1, o2, o3, o4, o5, o6, o7⟩ := tkOk_iff dn.length j (ts.getD j tk0) |>.1 (right_ok hr j hj)
  obtain ⟨⟨lo, hi, up, wt⟩, htk⟩ : ∃ x, ts.getD j tk0 = x := ⟨_, rfl⟩
  have HTK := Lib.hid htk
  rw [htk] at y0 y1 y2 y3 o1 o2 o3 o4 o5 o6 o7 HW
  simp only at y0 y1 y2 y3 o1 o2 o3 o4 o5 o6 o7 HW
  rw [ht] at HW
  have HGR : Hid (decide (g < hi - lo) = false) := Lib.hid HW.symm
  have HDD : Hid (in64 (hi - lo)) := Lib.hid (by unfold in64; omega)
  have Y0 := Lib.hid y0
  have Y1 := Lib.hid y1
  have Y2 := Lib.hid y2
  have Y3 := Lib.hid y3
  have hj1 : (j : Int) < ts.length := by omega
  have hj0 : (0 : Int) ≤ j := by omega
  have hlb : b < w.heap.size := World.block_lt_of_cell? _ _ y0
  clear h hd hg hr ht hs hcc e0 htk y0 y1 y2 y3 HW
  go_enter Try.func44, Try.ntmps44
  go_wp2_with fail
  have hP : PAt w (some ⟨b, off, none⟩) B c d dn.length ts.length g ((w.alloc (.cells #[.slice (some ⟨b, off, none⟩) ts.length c, .int .i64 g, .slice B dn.length d] 28)).alloc (.cells #[.slice none 0 0, .int .i64 0, .slice none 0 0] 28)) := Ext.refl _
  refine (copied_any _ _ _ _ _ _ _ _ (H.out.ext hP.ext) (HD.out.ext hP.ext) hl hl2).mono ?_
  rintro e w1 ⟨A1, c1, B1, d1, rfl, hO, hOD, hE⟩
  replace hP := hP.go hE
  have HO : Hid (Ow kTask (w.heap.size + 2) w1 (.slice A1 ts.length c1) ts) := Lib.hid (hO.mono (by simp))
  have HOD : Hid (Ow kBool (w.heap.size + 2) w1 (.slice B1 dn.length d1) dn) := Lib.hid (hOD.mono (by simp))
  have hV : VAt w (some ⟨b, off, none⟩) B c d dn.length ts.length g w1.heap.size A1 B1 c1 d1 (w1.alloc (.cells #[.slice A1 ts.length c1, .int .i64 g, .slice B1 dn.length d1] 28)) := VAt.start hP
  have HV0 := Lib.hid hV
  have HE1 : Hid (Ext w1 (w1.alloc (.cells #[.slice A1 ts.length c1, .int .i64 g, .slice B1 dn.length d1] 28))) := Lib.hid ((Ext.refl _).alloc _)
  obtain ⟨q0, q1, q2⟩ := hP.cells
  have k0 : w.heap.size < w1.heap.size := by have := hP.two; omega
  have k1 : w.heap.size + 1 < w1.heap.size := by have := hP.two; omega
  clear hO hOD hE hP hV
  go_wp2_with fail
  clear q0 q1 q2
  have hV := HV0.out
  refine (asked_any _ _ _ _ _ _ _ _ _ (H.out.ext hV.pat.ext) hn HG.out HI.out).mono ?_
  rintro e w2 ⟨he, hE⟩
  rw [HK.out] at he
  subst he
  replace hV := hV.go hE
  have HE2 := Lib.hid (HE1.out.trans hE)
  have HV := Lib.hid hV
  clear hE HV0 HE1
  obtain ⟨q0, q1, q2⟩ := hV.pat.cells
  obtain ⟨s0, s1, s2, s3⟩ := hV.pat.out
  obtain ⟨_, v0, v1, v2, v3, lv, gv⟩ := hV
  have l0 : w.heap.size < w2.heap.size := by omega
  have l1 : w.heap.size + 1 < w2.heap.size := by omega
  have l2 : w.heap.size < w2.heap.size + 1 := by omega
  have l3 : w.heap.size + 1 < w2.heap.size + 1 := by omega
  have l4 : w1.heap.size < w2.heap.size + 1 := by omega
  have n0 : ¬ w1.heap.size = w.heap.size := by omega
  have n1 : ¬ w1.heap.size = w.heap.size + 1 := by omega
  have n2 : ¬ w.heap.size + 1 = w1.heap.size := by omega
  have n3 : ¬ w.heap.size = w1.heap.size := by omega
  have z0 := HV.out.pat.ext.cell Y0.out
  have z1 := HV.out.pat.ext.cell Y1.out
  have z2 := HV.out.pat.ext.cell Y2.out
  have z3 := HV.out.pat.ext.cell Y3.out
  have lb0 : b < w2.heap.size := by omega
  have lb1 : b < w2.heap.size + 1 := by omega
  go_wp2_with fail
  have lv9 := lv
  clear q0 q1 q2 s0 s1 s2 s3 v0 v1 v2 v3 lv gv l0 l1 l2 l3 l4 n0 n1 n2 n3 z0 z1 z2 z3 lb0 lb1
  refine (great_any lo hi up wt g _ HDD.out HG.out).mono ?_
  rintro e w3 ⟨he, hE⟩
  rw [HGR.out] at he
  subst he
  have t0 : w3.cell? ⟨w2.heap.size, 0, none⟩ = some (.int .i64 lo) := hE.cell (by go_simp)
  have t1 : w3.cell? ⟨w2.heap.size, 1, none⟩ = some (.int .i64 hi) := hE.cell (by go_simp)
  have t2 : w3.cell? ⟨w2.heap.size, 2, none⟩ = some (.int .i64 up) := hE.cell (by go_simp)
  have t3 : w3.cell? ⟨w2.heap.size, 3, none⟩ = some (.int .i64 wt) := hE.cell (by go_simp)
  have hz := hE.size
  simp at hz
  have hE23 := ((Ext.refl w2).alloc _).trans hE
  have hV := HV.out.go hE23
  have HE3 := Lib.hid (HE2.out.trans hE23)
  have HV3 := Lib.hid hV
  clear hE hE23 HV HE2
  obtain ⟨q0, q1, q2⟩ := hV.pat.cells
  obtain ⟨s0, s1, s2, s3⟩ := hV.pat.out
  obtain ⟨_, v0, v1, v2, v3, lv, gv⟩ := hV
  have l0 : w.heap.size < w3.heap.size := by omega
  have l1 : w.heap.size + 1 < w3.heap.size := by omega
  have l2 : w.heap.size < w3.heap.size + 1 := by omega
  have l3 : w.heap.size + 1 < w3.heap.size + 1 := by omega
  have l4 : w1.heap.size < w3.heap.size + 1 := by omega
  have n0 : ¬ w1.heap.size = w.heap.size := by omega
  have n1 : ¬ w1.heap.size = w.heap.size + 1 := by omega
  have n2 : ¬ w.heap.size + 1 = w1.heap.size := by omega
  have n3 : ¬ w.heap.size = w1.heap.size := by omega
  have lt : w2.heap.size < w3.heap.size := by omega
  go_wp2_with fail
  have HVZ := HV3
  have HEZ := HE3
  refine bodyPost_ret (v := .tuple #[.agg #[.slice A1 ts.length c1, .int .i64 g, .slice B1 dn.length d1], .int .i64 0, .int .i64 0, .int .i64 (5)]) (by simp [results, Try.results44, go_sem]; go_simp) rfl (TNo.of (mk := mkPart (5)) HVZ.out HO.out HOD.out HEZ.out _ _ _)

set_option maxHeartbeats 1600000 in
set_option maxRecDepth 100000 in
theorem ppart_wait (A B : Option Addr) (c d : Nat) (ts : List Tk) (dn : List Bool) (g : Int) (j : Nat) (w : World) (h : Rd kTask w (.slice A ts.length c) ts) (hd : Rd kBool w (.slice B dn.length d) dn) (hg : in64 g) (hr : wRight ts g dn.length = true) (hj : j < ts.length) (ht : wGreat ts g dn.length j = true) (h3 : (ts.getD j tk0).wt ≠ 0) :
    Calls Try.prog 44 #[.agg #[.slice A ts.length c, .int .i64 g, .slice B dn.length d], .int .i64 j] w (TNo w ts g dn (mkPart 5)) := by
  have H := Lib.hid h
  have HD := Lib.hid hd
  have hn := hd.len
  have hnb := right_n hr
  have hm := h.len
  have HG := Lib.hid hg
  have HI : Hid (in64 (j : Int)) := Lib.hid (by unfold in64; omega)
  have hl : ts.length ≤ 1048576 := by omega
  have hl2 : dn.length ≤ 1048576 := by omega
  have hgb := hnb.2.2.2.2
  have hs : wHas ts.length (j : Int) = true := by unfold wHas; simp; omega
  have HK := Lib.hid (askErr_ok hr hs)
  have HW : wGreat ts g dn.length j = decide (g < (ts.getD j tk0).hi - (ts.getD j tk0).lo) := by unfold wGreat tkAt; rw [hr, hs, Int.toNat_natCast]; rfl
  obtain ⟨b, off, rfl, hcc⟩ := Rd.tasks H.out (by omega)
  obtain ⟨y0, y1, y2, y3⟩ := hcc j hj
  have e0 : ts.getD j ⟨0, 0, 0, 0⟩ = ts.getD j tk0 := rfl
  rw [e0] at y0 y1 y2 y3
  obtain ⟨o1, o2, o3, o4, o5, o6, o7⟩ := tkOk_iff dn.length j (ts.getD j tk0) |>.1 (right_ok hr j hj)
  obtain ⟨⟨lo, hi, up, wt⟩, htk⟩ : ∃ x, ts.getD j tk0 = x := ⟨_, rfl⟩
  have HTK := Lib.hid htk
  rw [htk] at y0 y1 y2 y3 h3 o1 o2 o3 o4 o5 o6 o7 HW
  simp only at y0 y1 y2 y3 h3 o1 o2 o3 o4 o5 o6 o7 HW
  rw [ht] at HW
  have HGR : Hid (decide (g < hi - lo) = true) := Lib.hid HW.symm
  have HDD : Hid (in64 (hi - lo)) := Lib.hid (by unfold in64; omega)
  have Y0 := Lib.hid y0
  have Y1 := Lib.hid y1
  have Y2 := Lib.hid y2
  have Y3 := Lib.hid y3
  have hj1 : (j : Int) < ts.length := by omega
  have hj0 : (0 : Int) ≤ j := by omega
  have hlb : b < w.heap.size := World.block_lt_of_cell? _ _ y0
  have e3 : (wt != 0) = true := by simpa using h3
  clear h hd hg hr ht hs hcc e0 htk y0 y1 y2 y3 HW
  go_enter Try.func44, Try.ntmps44
  go_wp2_with fail
  have hP : PAt w (some ⟨b, off, none⟩) B c d dn.length ts.length g ((w.alloc (.cells #[.slice (some ⟨b, off, none⟩) ts.length c, .int .i64 g, .slice B dn.length d] 28)).alloc (.cells #[.slice none 0 0, .int .i64 0, .slice none 0 0] 28)) := Ext.refl _
  refine (copied_any _ _ _ _ _ _ _ _ (H.out.ext hP.ext) (HD.out.ext hP.ext) hl hl2).mono ?_
  rintro e w1 ⟨A1, c1, B1, d1, rfl, hO, hOD, hE⟩
  replace hP := hP.go hE
  have HO : Hid (Ow kTask (w.heap.size + 2) w1 (.slice A1 ts.length c1) ts) := Lib.hid (hO.mono (by simp))
  have HOD : Hid (Ow kBool (w.heap.size + 2) w1 (.slice B1 dn.length d1) dn) := Lib.hid (hOD.mono (by simp))
  have hV : VAt w (some ⟨b, off, none⟩) B c d dn.length ts.length g w1.heap.size A1 B1 c1 d1 (w1.alloc (.cells #[.slice A1 ts.length c1, .int .i64 g, .slice B1 dn.length d1] 28)) := VAt.start hP
  have HV0 := Lib.hid hV
  have HE1 : Hid (Ext w1 (w1.alloc (.cells #[.slice A1 ts.length c1, .int .i64 g, .slice B1 dn.length d1] 28))) := Lib.hid ((Ext.refl _).alloc _)
  obtain ⟨q0, q1, q2⟩ := hP.cells
  have k0 : w.heap.size < w1.heap.size := by have := hP.two; omega
  have k1 : w.heap.size + 1 < w1.heap.size := by have := hP.two; omega
  clear hO hOD hE hP hV
  go_wp2_with fail
  clear q0 q1 q2
  have hV := HV0.out
  refine (asked_any _ _ _ _ _ _ _ _ _ (H.out.ext hV.pat.ext) hn HG.out HI.out).mono ?_
  rintro e w2 ⟨he, hE⟩
  rw [HK.out] at he
  subst he
  replace hV := hV.go hE
  have HE2 := Lib.hid (HE1.out.trans hE)
  have HV := Lib.hid hV
  clear hE HV0 HE1
  obtain ⟨q0, q1, q2⟩ := hV.pat.cells
  obtain ⟨s0, s1, s2, s3⟩ := hV.pat.out
  obtain ⟨_, v0, v1, v2, v3, lv, gv⟩ := hV
  have l0 : w.heap.size < w2.heap.size := by omega
  have l1 : w.heap.size + 1 < w2.heap.size := by omega
  have l2 : w.heap.size < w2.heap.size + 1 := by omega
  have l3 : w.heap.size + 1 < w2.heap.size + 1 := by omega
  have l4 : w1.heap.size < w2.heap.size + 1 := by omega
  have n0 : ¬ w1.heap.size = w.heap.size := by omega
  have n1 : ¬ w1.heap.size = w.heap.size + 1 := by omega
  have n2 : ¬ w.heap.size + 1 = w1.heap.size := by omega
  have n3 : ¬ w.heap.size = w1.heap.size := by omega
  have z0 := HV.out.pat.ext.cell Y0.out
  have z1 := HV.out.pat.ext.cell Y1.out
  have z2 := HV.out.pat.ext.cell Y2.out
  have z3 := HV.out.pat.ext.cell Y3.out
  have lb0 : b < w2.heap.size := by omega
  have lb1 : b < w2.heap.size + 1 := by omega
  go_wp2_with fail
  have lv9 := lv
  clear q0 q1 q2 s0 s1 s2 s3 v0 v1 v2 v3 lv gv l0 l1 l2 l3 l4 n0 n1 n2 n3 z0 z1 z2 z3 lb0 lb1
  refine (great_any lo hi up wt g _ HDD.out HG.out).mono ?_
  rintro e w3 ⟨he, hE⟩
  rw [HGR.out] at he
  subst he
  have t0 : w3.cell? ⟨w2.heap.size, 0, none⟩ = some (.int .i64 lo) := hE.cell (by go_simp)
  have t1 : w3.cell? ⟨w2.heap.size, 1, none⟩ = some (.int .i64 hi) := hE.cell (by go_simp)
  have t2 : w3.cell? ⟨w2.heap.size, 2, none⟩ = some (.int .i64 up) := hE.cell (by go_simp)
  have t3 : w3.cell? ⟨w2.heap.size, 3, none⟩ = some (.int .i64 wt) := hE.cell (by go_simp)
  have hz := hE.size
  simp at hz
  have hE23 := ((Ext.refl w2).alloc _).trans hE
  have hV := HV.out.go hE23
  have HE3 := Lib.hid (HE2.out.trans hE23)
  have HV3 := Lib.hid hV
  clear hE hE23 HV HE2
  obtain ⟨q0, q1, q2⟩ := hV.pat.cells
  obtain ⟨s0, s1, s2, s3⟩ := hV.pat.out
  obtain ⟨_, v0, v1, v2, v3, lv, gv⟩ := hV
  have l0 : w.heap.size < w3.heap.size := by omega
  have l1 : w.heap.size + 1 < w3.heap.size := by omega
  have l2 : w.heap.size < w3.heap.size + 1 := by omega
  have l3 : w.heap.size + 1 < w3.heap.size + 1 := by omega
  have l4 : w1.heap.size < w3.heap.size + 1 := by omega
  have n0 : ¬ w1.heap.size = w.heap.size := by omega
  have n1 : ¬ w1.heap.size = w.heap.size + 1 := by omega
  have n2 : ¬ w.heap.size + 1 = w1.heap.size := by omega
  have n3 : ¬ w.heap.size = w1.heap.size := by omega
  have lt : w2.heap.size < w3.heap.size := by omega
  go_wp2_with fail
  have HVZ := HV3
  have HEZ := HE3
  refine bodyPost_ret (v := .tuple #[.agg #[.slice A1 ts.length c1, .int .i64 g, .slice B1 dn.length d1], .int .i64 0, .int .i64 0, .int .i64 (5)]) (by simp [results, Try.results44, go_sem]; go_simp) rfl (TNo.of (mk := mkPart (5)) HVZ.out HO.out HOD.out HEZ.out _ _ _)

set_option maxHeartbeats 1600000 in
set_option maxRecDepth 100000 in
theorem ppart_full (A B : Option Addr) (c d : Nat) (ts : List Tk) (dn : List Bool) (g : Int) (j : Nat) (w : World) (h : Rd kTask w (.slice A ts.length c) ts) (hd : Rd kBool w (.slice B dn.length d) dn) (hg : in64 g) (hr : wRight ts g dn.length = true) (hj : j < ts.length) (ht : wGreat ts g dn.length j = true) (h3 : (ts.getD j tk0).wt = 0) (hf : 1998 < ts.length) :
    Calls Try.prog 44 #[.agg #[.slice A ts.length c, .int .i64 g, .slice B dn.length d], .int .i64 j] w (TNo w ts g dn (mkPart 2)) := by
  have H := Lib.hid h
  have HD := Lib.hid hd
  have hn := hd.len
  have hnb := right_n hr
  have hm := h.len
  have HG := Lib.hid hg
  have HI : Hid (in64 (j : Int)) := Lib.hid (by unfold in64; omega)
  have hl : ts.length ≤ 1048576 := by omega
  have hl2 : dn.length ≤ 1048576 := by omega
  have hgb := hnb.2.2.2.2
  have hs : wHas ts.length (j : Int) = true := by unfold wHas; simp; omega
  have HK := Lib.hid (askErr_ok hr hs)
  have HW : wGreat ts g dn.length j = decide (g < (ts.getD j tk0).hi - (ts.getD j tk0).lo) := by unfold wGreat tkAt; rw [hr, hs, Int.toNat_natCast]; rfl
  obtain ⟨b, off, rfl, hcc⟩ := Rd.tasks H.out (by omega)
  obtain ⟨y0, y1, y2, y3⟩ := hcc j hj
  have e0 : ts.getD j ⟨0, 0, 0, 0⟩ = ts.getD j tk0 := rfl
  rw [e0] at y0 y1 y2 y3
  obtain ⟨o1, o2, o3, o4, o5, o6, o7⟩ := tkOk_iff dn.length j (ts.getD j tk0) |>.1 (right_ok hr j hj)
  obtain ⟨⟨lo, hi, up, wt⟩, htk⟩ : ∃ x, ts.getD j tk0 = x := ⟨_, rfl⟩
  have HTK := Lib.hid htk
  rw [htk] at y0 y1 y2 y3 h3 o1 o2 o3 o4 o5 o6 o7 HW
  simp only at y0 y1 y2 y3 h3 o1 o2 o3 o4 o5 o6 o7 HW
  rw [ht] at HW
  have HGR : Hid (decide (g < hi - lo) = true) := Lib.hid HW.symm
  have HDD : Hid (in64 (hi - lo)) := Lib.hid (by unfold in64; omega)
  have Y0 := Lib.hid y0
  have Y1 := Lib.hid y1
  have Y2 := Lib.hid y2
  have Y3 := Lib.hid y3
  have hj1 : (j : Int) < ts.length := by omega
  have hj0 : (0 : Int) ≤ j := by omega
  have hlb : b < w.heap.size := World.block_lt_of_cell? _ _ y0
  subst h3
  have hf1 : (1998 : Int) < ts.length := by omega
  clear h hd hg hr ht hs hcc e0 htk y0 y1 y2 y3 HW
  go_enter Try.func44, Try.ntmps44
  go_wp2_with fail
  have hP : PAt w (some ⟨b, off, none⟩) B c d dn.length ts.length g ((w.alloc (.cells #[.slice (some ⟨b, off, none⟩) ts.length c, .int .i64 g, .slice B dn.length d] 28)).alloc (.cells #[.slice none 0 0, .int .i64 0, .slice none 0 0] 28)) := Ext.refl _
  refine (copied_any _ _ _ _ _ _ _ _ (H.out.ext hP.ext) (HD.out.ext hP.ext) hl hl2).mono ?_
  rintro e w1 ⟨A1, c1, B1, d1, rfl, hO, hOD, hE⟩
  replace hP := hP.go hE
  have HO : Hid (Ow kTask (w.heap.size + 2) w1 (.slice A1 ts.length c1) ts) := Lib.hid (hO.mono (by simp))
  have HOD : Hid (Ow kBool (w.heap.size + 2) w1 (.slice B1 dn.length d1) dn) := Lib.hid (hOD.mono (by simp))
  have hV : VAt w (some ⟨b, off, none⟩) B c d dn.length ts.length g w1.heap.size A1 B1 c1 d1 (w1.alloc (.cells #[.slice A1 ts.length c1, .int .i64 g, .slice B1 dn.length d1] 28)) := VAt.start hP
  have HV0 := Lib.hid hV
  have HE1 : Hid (Ext w1 (w1.alloc (.cells #[.slice A1 ts.length c1, .int .i64 g, .slice B1 dn.length d1] 28))) := Lib.hid ((Ext.refl _).alloc _)
  obtain ⟨q0, q1, q2⟩ := hP.cells
  have k0 : w.heap.size < w1.heap.size := by have := hP.two; omega
  have k1 : w.heap.size + 1 < w1.heap.size := by have := hP.two; omega
  clear hO hOD hE hP hV
  go_wp2_with fail
  clear q0 q1 q2
  have hV := HV0.out
  refine (asked_any _ _ _ _ _ _ _ _ _ (H.out.ext hV.pat.ext) hn HG.out HI.out).mono ?_
  rintro e w2 ⟨he, hE⟩
  rw [HK.out] at he
  subst he
  replace hV := hV.go hE
  have HE2 := Lib.hid (HE1.out.trans hE)
  have HV := Lib.hid hV
  clear hE HV0 HE1
  obtain ⟨q0, q1, q2⟩ := hV.pat.cells
  obtain ⟨s0, s1, s2, s3⟩ := hV.pat.out
  obtain ⟨_, v0, v1, v2, v3, lv, gv⟩ := hV
  have l0 : w.heap.size < w2.heap.size := by omega
  have l1 : w.heap.size + 1 < w2.heap.size := by omega
  have l2 : w.heap.size < w2.heap.size + 1 := by omega
  have l3 : w.heap.size + 1 < w2.heap.size + 1 := by omega
  have l4 : w1.heap.size < w2.heap.size + 1 := by omega
  have n0 : ¬ w1.heap.size = w.heap.size := by omega
  have n1 : ¬ w1.heap.size = w.heap.size + 1 := by omega
  have n2 : ¬ w.heap.size + 1 = w1.heap.size := by omega
  have n3 : ¬ w.heap.size = w1.heap.size := by omega
  have z0 := HV.out.pat.ext.cell Y0.out
  have z1 := HV.out.pat.ext.cell Y1.out
  have z2 := HV.out.pat.ext.cell Y2.out
  have z3 := HV.out.pat.ext.cell Y3.out
  have lb0 : b < w2.heap.size := by omega
  have lb1 : b < w2.heap.size + 1 := by omega
  go_wp2_with fail
  have lv9 := lv
  clear q0 q1 q2 s0 s1 s2 s3 v0 v1 v2 v3 lv gv l0 l1 l2 l3 l4 n0 n1 n2 n3 z0 z1 z2 z3 lb0 lb1
  refine (great_any lo hi up 0 g _ HDD.out HG.out).mono ?_
  rintro e w3 ⟨he, hE⟩
  rw [HGR.out] at he
  subst he
  have t0 : w3.cell? ⟨w2.heap.size, 0, none⟩ = some (.int .i64 lo) := hE.cell (by go_simp)
  have t1 : w3.cell? ⟨w2.heap.size, 1, none⟩ = some (.int .i64 hi) := hE.cell (by go_simp)
  have t2 : w3.cell? ⟨w2.heap.size, 2, none⟩ = some (.int .i64 up) := hE.cell (by go_simp)
  have t3 : w3.cell? ⟨w2.heap.size, 3, none⟩ = some (.int .i64 0) := hE.cell (by go_simp)
  have hz := hE.size
  simp at hz
  have hE23 := ((Ext.refl w2).alloc _).trans hE
  have hV := HV.out.go hE23
  have HE3 := Lib.hid (HE2.out.trans hE23)
  have HV3 := Lib.hid hV
  clear hE hE23 HV HE2
  obtain ⟨q0, q1, q2⟩ := hV.pat.cells
  obtain ⟨s0, s1, s2, s3⟩ := hV.pat.out
  obtain ⟨_, v0, v1, v2, v3, lv, gv⟩ := hV
  have l0 : w.heap.size < w3.heap.size := by omega
  have l1 : w.heap.size + 1 < w3.heap.size := by omega
  have l2 : w.heap.size < w3.heap.size + 1 := by omega
  have l3 : w.heap.size + 1 < w3.heap.size + 1 := by omega
  have l4 : w1.heap.size < w3.heap.size + 1 := by omega
  have n0 : ¬ w1.heap.size = w.heap.size := by omega
  have n1 : ¬ w1.heap.size = w.heap.size + 1 := by omega
  have n2 : ¬ w.heap.size + 1 = w1.heap.size := by omega
  have n3 : ¬ w.heap.size = w1.heap.size := by omega
  have lt : w2.heap.size < w3.heap.size := by omega
  go_wp2_with fail
  have HVZ := HV3
  have HEZ := HE3
  refine bodyPost_ret (v := .tuple #[.agg #[.slice A1 ts.length c1, .int .i64 g, .slice B1 dn.length d1], .int .i64 0, .int .i64 0, .int .i64 (2)]) (by simp [results, Try.results44, go_sem]; go_simp) rfl (TNo.of (mk := mkPart (2)) HVZ.out HO.out HOD.out HEZ.out _ _ _)

set_option maxHeartbeats 1600000 in
set_option maxRecDepth 100000 in
theorem ppart_ok (A B : Option Addr) (c d : Nat) (ts : List Tk) (dn : List Bool) (g : Int) (j : Nat) (w : World) (h : Rd kTask w (.slice A ts.length c) ts) (hd : Rd kBool w (.slice B dn.length d) dn) (hg : in64 g) (hr : wRight ts g dn.length = true) (hj : j < ts.length) (ht : wGreat ts g dn.length j = true) (h3 : (ts.getD j tk0).wt = 0) (hf : ts.length ≤ 1998) :
    Calls Try.prog 44 #[.agg #[.slice A ts.length c, .int .i64 g, .slice B dn.length d], .int .i64 j] w (PartSaid w ts g dn j) := by
  have H := Lib.hid h
  have HD := Lib.hid hd
  have hn := hd.len
  have hnb := right_n hr
  have hm := h.len
  have HG := Lib.hid hg
  have HI : Hid (in64 (j : Int)) := Lib.hid (by unfold in64; omega)
  have hl : ts.length ≤ 1048576 := by omega
  have hl2 : dn.length ≤ 1048576 := by omega
  have hgb := hnb.2.2.2.2
  have hs : wHas ts.length (j : Int) = true := by unfold wHas; simp; omega
  have HK := Lib.hid (askErr_ok hr hs)
  have HW : wGreat ts g dn.length j = decide (g < (ts.getD j tk0).hi - (ts.getD j tk0).lo) := by unfold wGreat tkAt; rw [hr, hs, Int.toNat_natCast]; rfl
  obtain ⟨b, off, rfl, hcc⟩ := Rd.tasks H.out (by omega)
  obtain ⟨y0, y1, y2, y3⟩ := hcc j hj
  have e0 : ts.getD j ⟨0, 0, 0, 0⟩ = ts.getD j tk0 := rfl
  rw [e0] at y0 y1 y2 y3
  obtain ⟨o1, o2, o3, o4, o5, o6, o7⟩ := tkOk_iff dn.length j (ts.getD j tk0) |>.1 (right_ok hr j hj)
  obtain ⟨⟨lo, hi, up, wt⟩, htk⟩ : ∃ x, ts.getD j tk0 = x := ⟨_, rfl⟩
  have HTK := Lib.hid htk
  rw [htk] at y0 y1 y2 y3 h3 o1 o2 o3 o4 o5 o6 o7 HW
  simp only at y0 y1 y2 y3 h3 o1 o2 o3 o4 o5 o6 o7 HW
  rw [ht] at HW
  have HGR : Hid (decide (g < hi - lo) = true) := Lib.hid HW.symm
  have HDD : Hid (in64 (hi - lo)) := Lib.hid (by unfold in64; omega)
  have Y0 := Lib.hid y0
  have Y1 := Lib.hid y1
  have Y2 := Lib.hid y2
  have Y3 := Lib.hid y3
  have hj1 : (j : Int) < ts.length := by omega
  have hj0 : (0 : Int) ≤ j := by omega
  have hlb : b < w.heap.size := World.block_lt_of_cell? _ _ y0
  subst h3
  have hf1 : (ts.length : Int) ≤ 1998 := by omega
  clear h hd hg hr ht hs hcc e0 htk y0 y1 y2 y3 HW
  go_enter Try.func44, Try.ntmps44
  go_wp2_with fail
  have hP : PAt w (some ⟨b, off, none⟩) B c d dn.length ts.length g ((w.alloc (.cells #[.slice (some ⟨b, off, none⟩) ts.length c, .int .i64 g, .slice B dn.length d] 28)).alloc (.cells #[.slice none 0 0, .int .i64 0, .slice none 0 0] 28)) := Ext.refl _
  refine (copied_any _ _ _ _ _ _ _ _ (H.out.ext hP.ext) (HD.out.ext hP.ext) hl hl2).mono ?_
  rintro e w1 ⟨A1, c1, B1, d1, rfl, hO, hOD, hE⟩
  replace hP := hP.go hE
  have HO : Hid (Ow kTask (w.heap.size + 2) w1 (.slice A1 ts.length c1) ts) := Lib.hid (hO.mono (by simp))
  have HOD : Hid (Ow kBool (w.heap.size + 2) w1 (.slice B1 dn.length d1) dn) := Lib.hid (hOD.mono (by simp))
  have hV : VAt w (some ⟨b, off, none⟩) B c d dn.length ts.length g w1.heap.size A1 B1 c1 d1 (w1.alloc (.cells #[.slice A1 ts.length c1, .int .i64 g, .slice B1 dn.length d1] 28)) := VAt.start hP
  have HV0 := Lib.hid hV
  have HE1 : Hid (Ext w1 (w1.alloc (.cells #[.slice A1 ts.length c1, .int .i64 g, .slice B1 dn.length d1] 28))) := Lib.hid ((Ext.refl _).alloc _)
  obtain ⟨q0, q1, q2⟩ := hP.cells
  have k0 : w.heap.size < w1.heap.size := by have := hP.two; omega
  have k1 : w.heap.size + 1 < w1.heap.size := by have := hP.two; omega
  clear hO hOD hE hP hV
  go_wp2_with fail
  clear q0 q1 q2
  have hV := HV0.out
  refine (asked_any _ _ _ _ _ _ _ _ _ (H.out.ext hV.pat.ext) hn HG.out HI.out).mono ?_
  rintro e w2 ⟨he, hE⟩
  rw [HK.out] at he
  subst he
  replace hV := hV.go hE
  have HE2 := Lib.hid (HE1.out.trans hE)
  have HV := Lib.hid hV
  clear hE HV0 HE1
  obtain ⟨q0, q1, q2⟩ := hV.pat.cells
  obtain ⟨s0, s1, s2, s3⟩ := hV.pat.out
  obtain ⟨_, v0, v1, v2, v3, lv, gv⟩ := hV
  have l0 : w.heap.size < w2.heap.size := by omega
  have l1 : w.heap.size + 1 < w2.heap.size := by omega
  have l2 : w.heap.size < w2.heap.size + 1 := by omega
  have l3 : w.heap.size + 1 < w2.heap.size + 1 := by omega
  have l4 : w1.heap.size < w2.heap.size + 1 := by omega
  have n0 : ¬ w1.heap.size = w.heap.size := by omega
  have n1 : ¬ w1.heap.size = w.heap.size + 1 := by omega
  have n2 : ¬ w.heap.size + 1 = w1.heap.size := by omega
  have n3 : ¬ w.heap.size = w1.heap.size := by omega
  have z0 := HV.out.pat.ext.cell Y0.out
  have z1 := HV.out.pat.ext.cell Y1.out
  have z2 := HV.out.pat.ext.cell Y2.out
  have z3 := HV.out.pat.ext.cell Y3.out
  have lb0 : b < w2.heap.size := by omega
  have lb1 : b < w2.heap.size + 1 := by omega
  go_wp2_with fail
  have lv9 := lv
  clear q0 q1 q2 s0 s1 s2 s3 v0 v1 v2 v3 lv gv l0 l1 l2 l3 l4 n0 n1 n2 n3 z0 z1 z2 z3 lb0 lb1
  refine (great_any lo hi up 0 g _ HDD.out HG.out).mono ?_
  rintro e w3 ⟨he, hE⟩
  rw [HGR.out] at he
  subst he
  have t0 : w3.cell? ⟨w2.heap.size, 0, none⟩ = some (.int .i64 lo) := hE.cell (by go_simp)
  have t1 : w3.cell? ⟨w2.heap.size, 1, none⟩ = some (.int .i64 hi) := hE.cell (by go_simp)
  have t2 : w3.cell? ⟨w2.heap.size, 2, none⟩ = some (.int .i64 up) := hE.cell (by go_simp)
  have t3 : w3.cell? ⟨w2.heap.size, 3, none⟩ = some (.int .i64 0) := hE.cell (by go_simp)
  have hz := hE.size
  simp at hz
  have hE23 := ((Ext.refl w2).alloc _).trans hE
  have hV := HV.out.go hE23
  have HE3 := Lib.hid (HE2.out.trans hE23)
  have HV3 := Lib.hid hV
  clear hE hE23 HV HE2
  obtain ⟨q0, q1, q2⟩ := hV.pat.cells
  obtain ⟨s0, s1, s2, s3⟩ := hV.pat.out
  obtain ⟨_, v0, v1, v2, v3, lv, gv⟩ := hV
  have l0 : w.heap.size < w3.heap.size := by omega
  have l1 : w.heap.size + 1 < w3.heap.size := by omega
  have l2 : w.heap.size < w3.heap.size + 1 := by omega
  have l3 : w.heap.size + 1 < w3.heap.size + 1 := by omega
  have l4 : w1.heap.size < w3.heap.size + 1 := by omega
  have n0 : ¬ w1.heap.size = w.heap.size := by omega
  have n1 : ¬ w1.heap.size = w.heap.size + 1 := by omega
  have n2 : ¬ w.heap.size + 1 = w1.heap.size := by omega
  have n3 : ¬ w.heap.size = w1.heap.size := by omega
  have lt : w2.heap.size < w3.heap.size := by omega
  go_wp2_with fail
  obtain ⟨P2, hP2⟩ : ∃ P2, (hi - lo) / 2 = P2 := ⟨_, rfl⟩
  have HHALF : Hid (in64 (hi - lo)) := HDD
  have hd0 : 0 ≤ hi - lo := by omega
  have HALL : Hid (∀ w', Drawn w3 w' → w'.cell? ⟨w2.heap.size, 0, none⟩ = some (.int .i64 lo) ∧ w'.cell? ⟨w2.heap.size, 1, none⟩ = some (.int .i64 hi)) := Lib.hid fun w' hD => ⟨hD.ext.cell t0, hD.ext.cell t1⟩
  have HH : Hid (∀ w', Drawn w3 w' → Calls Try.prog 49 #[.int .i64 (hi - lo)] w' fun e w'' => e = .returned (.int .i64 P2) ∧ Drawn w3 w'') := Lib.hid fun w' hD => (half_any _ w' HDD.out hd0).mono fun e w'' h => ⟨by rw [h.1, hP2], h.2 ▸ hD⟩
  have hw1 : IntKind.i64.wrap (hi - lo) = hi - lo := IntWalk.i64_in _ (by omega)
  have hw2 : IntKind.i64.wrap (lo + P2) = lo + P2 := IntWalk.i64_in _ (by omega)
  have HS := Lib.hid (And.intro t0 (And.intro t1 (And.intro t2 t3)))
  clear q0 q1 q2 s0 s1 s2 s3 v0 v1 v2 v3 lv gv l0 l1 l2 l3 l4 n0 n1 n2 n3 t0 t1 t2 t3
  refine wp_region_class (Drawn w3) (by kernel_rfl) (by kernel_rfl) (Drawn.drew w3) ?_
  repeat (first
    | go_big_quiet_skip
    | (go_big_quiet_want
       first
       | (go_big_quiet_op; go_big_quiet_on)
       | (unfold Oper.quiet
          apply Exists.intro
          refine ⟨fun w' hC => ?_, ?_⟩
          · (obtain ⟨k1, k2⟩ := HALL.out w' hC
             unfold Oper.quietAt
             go_simp
             first
             | exact rfl
             | (with_reducible exact HH.out w' hC))
          go_simp
          go_big_quiet_on)
       | (go_big_quiet_op
          apply Exists.intro
          refine ⟨fun w' hC => ?_, ?_⟩
          · exact HH.out w' hC
          go_big_quiet_on)))
  refine wpQuiet_nil ?_
  intro w4 hC4
  have hV := HV3.out.go hC4.ext
  have HV4 := Lib.hid hV
  have HE4 := Lib.hid (HE3.out.trans hC4.ext)
  obtain ⟨q0, q1, q2⟩ := hV.pat.cells
  obtain ⟨s0, s1, s2, s3⟩ := hV.pat.out
  obtain ⟨_, v0, v1, v2, v3, lv, gv⟩ := hV
  have l0 : w.heap.size < w4.heap.size := by omega
  have l1 : w.heap.size + 1 < w4.heap.size := by omega
  have l2 : w.heap.size < w4.heap.size + 1 := by omega
  have l3 : w.heap.size + 1 < w4.heap.size + 1 := by omega
  have l4 : w1.heap.size < w4.heap.size + 1 := by omega
  have n0 : ¬ w1.heap.size = w.heap.size := by omega
  have n1 : ¬ w1.heap.size = w.heap.size + 1 := by omega
  have n2 : ¬ w.heap.size + 1 = w1.heap.size := by omega
  have n3 : ¬ w.heap.size = w1.heap.size := by omega
  have t0 := hC4.ext.cell HS.out.1
  have t1 := hC4.ext.cell HS.out.2.1
  have HX3 := Lib.hid hC4.ext.size
  clear hC4
  have lt : w2.heap.size < w4.heap.size := by have := HX3.out; omega
  obtain ⟨ga, rfl, ga1, ga2, ga3, ga4⟩ := Ow.pos HO.out (by omega)
  have gf : w4.frozen? ⟨ga, j * 4 + 3, none⟩ = false := (Below.frozen HE4.out (p := ⟨ga, j * 4 + 3, none⟩) ga2).trans (ga4 _)
  have u3 : w4.cell? ⟨ga, j * 4 + 3, none⟩ = some (.int .i64 0) := HE4.out.cell (ga3 j hj 3 (.int .i64 0) (by have e : ts.getD j kTask.d = ts.getD j tk0 := rfl; rw [e, HTK.out]; rfl))
  have m0 : ¬ ga = w1.heap.size := by omega
  have m1 : ¬ ga = w2.heap.size := by omega
  have m2 : ¬ ga = w.heap.size := by omega
  have m3 : ¬ ga = w.heap.size + 1 := by omega
  have m4 : ¬ w2.heap.size = ga := by omega
  have m5 : ¬ w1.heap.size = ga := by omega
  have lg : ga < w4.heap.size := by omega
  have lg1 : ga < w4.heap.size + 1 := by omega
  have lt1 : w2.heap.size < w4.heap.size + 1 := by omega
  clear ga3 ga4
  have hos : Ow kTask _ (w4.setCell ⟨ga, j * 4 + 3, none⟩ (.int .i64 2)) (.slice (some ⟨ga, 0, none⟩) ts.length c1) (ts.set j ⟨lo, hi, up, 2⟩) := (HO.out.ext HE4.out).set (j := j) (i := 3) hj (by decide) (by have e : ts.getD j kTask.d = ts.getD j tk0 := rfl; rw [e, HTK.out]; rfl) (tk_ok (by unfold in64; omega) (by unfold in64; omega) (by unfold in64; omega) (by unfold in64; omega))
  have HOS := Lib.hid hos
  clear hos
  have HP2 := Lib.hid hP2
  have M1 : 0 ≤ P2 := by omega
  have M2 : P2 ≤ hi - lo := by omega
  clear hP2 hw1 hw2
  have hlen : (ts.set j (⟨lo, hi, up, 2⟩ : Tk) ++ ([⟨lo, lo + P2, (j : Int), 0⟩, ⟨lo + P2, hi, (j : Int), 0⟩] : List Tk)).length = ts.length + 2 := by simp
  go_wp2_with (first | (at_builtin; refine Stop.to ?_) | fail)
  refine Stop.of ?_
  refine Kd.wpList_app kTask (by rfl) (.tmp 59) (.tmp 70) (by rfl) (by rfl) _ _ (ts.set j ⟨lo, hi, up, 2⟩) (by rfl) (HOS.out.ext ((Ext.refl _).alloc _)) _ [⟨lo, lo + P2, j, 0⟩, ⟨lo + P2, hi, j, 0⟩] (by rfl) ?rd (by simp; omega) (by simp; omega) ?_
  case rd => exact ((Ow.lit (K := kTask) (B := 0) (p := w4.heap.size) (n := 2) _ [⟨lo, lo + P2, j, 0⟩, ⟨lo + P2, hi, j, 0⟩] _ rfl rfl (by simp) (Nat.zero_le _) (by simp [maxLen]) (by intro x hx; simp only [List.mem_cons, List.not_mem_nil, or_false] at hx; rcases hx with rfl | rfl <;> exact tk_ok (by unfold in64; omega) (by unfold in64; omega) (by unfold in64; omega) (by unfold in64; omega))).rd)
  intro v' w5 hown' hgrow' hat'
  have hv' := hown'.slice
  rw [hlen] at hv'
  obtain ⟨A4, c4, rfl, _⟩ := hv'
  have hg : World.grownBy _ w5 (some ga) := hgrow'
  have p0 : w5.cell? ⟨w1.heap.size, 0, none⟩ = some (.slice (some ⟨ga, 0, none⟩) ts.length c1) := ((grown_far hg (b := w1.heap.size) (by simp; omega) (by simp; omega)).1 0).trans (by go_simp)
  have p1 : w5.cell? ⟨w1.heap.size, 1, none⟩ = some (.int .i64 g) := ((grown_far hg (b := w1.heap.size) (by simp; omega) (by simp; omega)).1 1).trans (by go_simp)
  have p2 : w5.cell? ⟨w1.heap.size, 2, none⟩ = some (.slice B1 dn.length d1) := ((grown_far hg (b := w1.heap.size) (by simp; omega) (by simp; omega)).1 2).trans (by go_simp)
  have p3 : ∀ o, w5.frozen? ⟨w1.heap.size, o, none⟩ = false := fun o => ((grown_far hg (b := w1.heap.size) (by simp; omega) (by simp; omega)).2 o).trans (by have := v3 o; go_simp)
  have x0 : w5.cell? ⟨w.heap.size + 1, 0, none⟩ = some (.slice none 0 0) := ((grown_far hg (b := w.heap.size + 1) (by simp; omega) (by simp; omega)).1 0).trans (by go_simp)
  have x1 : w5.cell? ⟨w.heap.size + 1, 1, none⟩ = some (.int .i64 0) := ((grown_far hg (b := w.heap.size + 1) (by simp; omega) (by simp; omega)).1 1).trans (by go_simp)
  have x2 : w5.cell? ⟨w.heap.size + 1, 2, none⟩ = some (.slice none 0 0) := ((grown_far hg (b := w.heap.size + 1) (by simp; omega) (by simp; omega)).1 2).trans (by go_simp)
  have x3 : ∀ o, w5.frozen? ⟨w.heap.size + 1, o, none⟩ = false := fun o => ((grown_far hg (b := w.heap.size + 1) (by simp; omega) (by simp; omega)).2 o).trans (by have := s3 o; go_simp)
  have hat2 : ∀ k, (Value.slice A4 (ts.length + 2) c4).ownBlock = some k → k = ga ∨ w4.heap.size ≤ k := by
    intro k hk
    rcases hat' with e | e
    · rw [hk] at e; left; simpa [Value.ownBlock] using e
    · rw [hk] at e; right; simp at e; omega
  have HAT := Lib.hid hat2
  have HOW := Lib.hid hown'
  have HGR := Lib.hid hg
  clear hown' hgrow' hat' hat2 hg hlen
  go_wp2_with fail
  have hPT : partedTs ts j = ts.set j ⟨lo, hi, up, 2⟩ ++ [⟨lo, lo + P2, j, 0⟩, ⟨lo + P2, hi, j, 0⟩] := by unfold partedTs; rw [HTK.out]; simp only; rw [HP2.out]
  have hL : (partedTs ts j).length = ts.length + 2 := by rw [hPT]; simp
  have nb : ∀ k, (Value.slice A4 (ts.length + 2) c4).ownBlock = some k → k = ga ∨ w4.heap.size ≤ k := HAT.out
  have hX2 : Ext w w5 := (((HV4.out.pat.ext.setCell (p := ⟨ga, j * 4 + 3, none⟩) (by show _ ≤ ga; omega) _).alloc _)).grown HGR.out (by intro k hk; cases hk; omega)
  have hB3 : (Value.slice B1 dn.length d1).ownBlock ≠ some ga := Ow.far (by decide) HO.out HOD.out ga rfl
  have hB4 : (Value.slice B1 dn.length d1).ownBlock ≠ some w1.heap.size := fun h => by have := (HOD.out.lt _ h).2; omega
  have hOD4 := (((HOD.out.ext HE4.out).setOther (p := ⟨ga, j * 4 + 3, none⟩) hB3 (.int .i64 2)).ext ((Ext.refl _).alloc _)).kept HGR.out (.inr hB3)
  refine bodyPost_ret (v := .tuple #[.agg #[.slice A4 (ts.length + 2) c4, .int .i64 g, .slice B1 dn.length d1], .int .i64 ts.length, .int .i64 (ts.length + 1), .int .i64 0]) (by simp [results, Try.results44, go_sem]; go_simp) rfl ⟨A4, c4, B1, d1, by rw [hL], ?_, ?_, ?_, ?_, ?_⟩
  · rw [hL, hPT]
    exact ((((HOW.out.setOther (p := ⟨w1.heap.size, 0, none⟩) (fun h => by have := nb _ h; simp at this; omega) _).setBelow (p := ⟨w.heap.size + 1, 0, none⟩) (by show w.heap.size + 1 < _; omega) _).setBelow (p := ⟨w.heap.size + 1, 1, none⟩) (by show w.heap.size + 1 < _; omega) _).setBelow (p := ⟨w.heap.size + 1, 2, none⟩) (by show w.heap.size + 1 < _; omega) _).rd
  · exact ((((hOD4.setOther (p := ⟨w1.heap.size, 0, none⟩) hB4 _).setBelow (p := ⟨w.heap.size + 1, 0, none⟩) (by show w.heap.size + 1 < _; omega) _).setBelow (p := ⟨w.heap.size + 1, 1, none⟩) (by show w.heap.size + 1 < _; omega) _).setBelow (p := ⟨w.heap.size + 1, 2, none⟩) (by show w.heap.size + 1 < _; omega) _).rd
  · exact (HOW.out.from).mono (by omega)
  · exact (HOD.out.from).mono (by omega)
  · exact (((hX2.setCell (p := ⟨w1.heap.size, 0, none⟩) (by show _ ≤ w1.heap.size; omega) _).setCell (p := ⟨w.heap.size + 1, 0, none⟩) (by show _ ≤ w.heap.size + 1; omega) _).setCell (p := ⟨w.heap.size + 1, 1, none⟩) (by show _ ≤ w.heap.size + 1; omega) _).setCell (p := ⟨w.heap.size + 1, 2, none⟩) (by show _ ≤ w.heap.size + 1; omega) _

theorem ppart_any (A B : Option Addr) (c d : Nat) (ts : List Tk) (dn : List Bool) (g i : Int) (w : World) (h : Rd kTask w (.slice A ts.length c) ts) (hd : Rd kBool w (.slice B dn.length d) dn) (hg : in64 g) (hi : in64 i) (hl : ts.length ≤ 1048576) (hl2 : dn.length ≤ 1048576) :
    Calls Try.prog 44 #[.agg #[.slice A ts.length c, .int .i64 g, .slice B dn.length d], .int .i64 i] w fun e w' =>
      (partErr ts g dn.length i ≠ 0 ∧ TNo w ts g dn (mkPart (partErr ts g dn.length i)) e w') ∨ (partErr ts g dn.length i = 0 ∧ PartSaid w ts g dn i.toNat e w') := by
  by_cases ha : askErr ts g dn.length i = 0
  · obtain ⟨hr, hs⟩ := askErr_zero ha
    have hsi : 0 ≤ i ∧ i < (ts.length : Int) := by unfold wHas at hs; simpa using hs
    obtain ⟨j, rfl⟩ : ∃ j : Nat, i = j := ⟨i.toNat, by omega⟩
    have hj : j < ts.length := by omega
    have e0 : tkAt ts (j : Int) = ts.getD j tk0 := by unfold tkAt; rw [Int.toNat_natCast]
    cases ht : wGreat ts g dn.length j with
    | false =>
      have he : partErr ts g dn.length (j : Int) = 5 := by unfold partErr; rw [if_neg (by rw [hr]; decide), if_neg (by rw [hs]; decide), if_pos ht]
      rw [he]
      exact (ppart_small A B c d ts dn g j w h hd hg hr hj ht).mono fun e w' hh => .inl ⟨by decide, hh⟩
    | true =>
      by_cases hw : (ts.getD j tk0).wt = 0
      · by_cases hf : 1998 < ts.length
        · skip
          have he : partErr ts g dn.length (j : Int) = 2 := by unfold partErr; rw [if_neg (by rw [hr]; decide), if_neg (by rw [hs]; decide), if_neg (by rw [ht]; decide), e0, if_neg (by simpa using hw), if_pos hf]
          rw [he]
          exact (ppart_full A B c d ts dn g j w h hd hg hr hj ht hw hf).mono fun e w' hh => .inl ⟨by decide, hh⟩
        · skip
          have he : partErr ts g dn.length (j : Int) = 0 := by unfold partErr; rw [if_neg (by rw [hr]; decide), if_neg (by rw [hs]; decide), if_neg (by rw [ht]; decide), e0, if_neg (by simpa using hw), if_neg hf]
          rw [he]
          exact (ppart_ok A B c d ts dn g j w h hd hg hr hj ht hw (by omega)).mono fun e w' hh => .inr ⟨rfl, by rw [Int.toNat_natCast]; exact hh⟩
      · skip
        have he : partErr ts g dn.length (j : Int) = 5 := by unfold partErr; rw [if_neg (by rw [hr]; decide), if_neg (by rw [hs]; decide), if_neg (by rw [ht]; decide), e0, if_pos hw]
        rw [he]
        exact (ppart_wait A B c d ts dn g j w h hd hg hr hj ht hw).mono fun e w' hh => .inl ⟨by decide, hh⟩
  · have he : partErr ts g dn.length i = askErr ts g dn.length i := by
      unfold partErr
      unfold askErr at ha ⊢
      cases hr : wRight ts g dn.length with
      | false => rfl
      | true =>
        cases hs : wHas ts.length i with
        | false => rfl
        | true => rw [hr, hs] at ha; exact absurd rfl ha
    rw [he]
    exact (ppart_no A B c d ts dn g i w h hd hg hi hl hl2 ha).mono fun e w' hh => .inl ⟨ha, hh⟩
end Go.Proofs.Ytebbpkdhdilkcaa
