/- Joined by wip/merge.py: PPart, PDo, TBegin, PBegin, TAlive, TOnceB, CrMem, CrGo, CrSmall, CrGoer, DPlain, DBase. -/
import Derived.Test.YtjabahfkgaamdaaJ2
import Derived.Outline
import Derived.Laws.StructEq
import Derived.IntWalk
import Derived.Lib.AppendZeros
/- The program's Part of work. Written by wip/mk_pwork.py. -/
namespace Go.Proofs.Ytjabahfkgaamdaa
open Go.BigFrame
open Go.RowKit Go.Proofs.Ytjabahfkgaamdaa.Plain

/-- the frame behind the copy: the work, the answer's cells, the copy's cells -/
structure VAt (w : World) (A B : Option Addr) (c d n m : Nat) (g : Int) (V : Nat) (A1 B1 : Option Addr) (c1 d1 : Nat) (w' : World) : Prop where
  pat : PAt w A B c d n m g w'
  v0 : w'.cell? ⟨V, 0, none⟩ = some (.slice A1 m c1)
  v1 : w'.cell? ⟨V, 1, none⟩ = some (.int .i64 g)
  v2 : w'.cell? ⟨V, 2, none⟩ = some (.slice B1 n d1)
  vf : ∀ o, w'.frozen? ⟨V, o, none⟩ = false
  lt : V < w'.heap.size
  ge : w.heap.size + 2 ≤ V
theorem VAt.go {w : World} {A B : Option Addr} {c d n m : Nat} {g : Int} {V : Nat} {A1 B1 : Option Addr} {c1 d1 : Nat} {w' w'' : World} (h : VAt w A B c d n m g V A1 B1 c1 d1 w') (hE : Ext w' w'') : VAt w A B c d n m g V A1 B1 c1 d1 w'' :=
  ⟨h.pat.go hE, hE.cell h.v0, hE.cell h.v1, hE.cell h.v2, fun o => (Below.frozen hE (p := ⟨V, o, none⟩) h.lt).trans (h.vf o), Nat.lt_of_lt_of_le h.lt hE.size, h.ge⟩
theorem VAt.start {w : World} {A B : Option Addr} {c d n m : Nat} {g : Int} {A1 B1 : Option Addr} {c1 d1 : Nat} {w1 : World} (h : PAt w A B c d n m g w1) :
    VAt w A B c d n m g w1.heap.size A1 B1 c1 d1 (w1.alloc (.cells #[.slice A1 m c1, .int .i64 g, .slice B1 n d1] 54)) :=
  ⟨h.go ((Ext.refl _).alloc _), by go_simp, by go_simp, by go_simp, fun o => by go_simp, by simp, h.two⟩
/-- what is refused: the work as it was, in memory of its own -/
def TNo (w : World) (ts : List Tk) (g : Int) (dn : List Bool) (mk : Value → Value) (e : Ending) (w' : World) : Prop :=
  ∃ A c B d, e = .returned (mk (.agg #[.slice A ts.length c, .int .i64 g, .slice B dn.length d])) ∧ Rd kTask w' (.slice A ts.length c) ts ∧ Rd kBool w' (.slice B dn.length d) dn ∧ Ext w w'
theorem TNo.of {w : World} {A B : Option Addr} {c d : Nat} {ts : List Tk} {dn : List Bool} {g : Int} {V : Nat} {A1 B1 : Option Addr} {c1 d1 : Nat} {w1 w' : World} {mk : Value → Value} (h : VAt w A B c d dn.length ts.length g V A1 B1 c1 d1 w')
    (ho : Ow kTask (w.heap.size + 2) w1 (.slice A1 ts.length c1) ts) (hd : Ow kBool (w.heap.size + 2) w1 (.slice B1 dn.length d1) dn) (hE : Ext w1 w') (x y z : Value) :
    TNo w ts g dn mk (.returned (mk (.agg #[.slice A1 ts.length c1, .int .i64 g, .slice B1 dn.length d1]))) (((w'.setCell ⟨w.heap.size + 1, 0, none⟩ x).setCell ⟨w.heap.size + 1, 1, none⟩ y).setCell ⟨w.heap.size + 1, 2, none⟩ z) := by
  refine ⟨_, _, _, _, rfl, ?_, ?_, ?_⟩
  · exact ((((ho.ext hE).setBelow (p := ⟨w.heap.size + 1, 0, none⟩) (by show w.heap.size + 1 < _; omega) _).setBelow (p := ⟨w.heap.size + 1, 1, none⟩) (by show w.heap.size + 1 < _; omega) _).setBelow (p := ⟨w.heap.size + 1, 2, none⟩) (by show w.heap.size + 1 < _; omega) _).rd
  · exact ((((hd.ext hE).setBelow (p := ⟨w.heap.size + 1, 0, none⟩) (by show w.heap.size + 1 < _; omega) _).setBelow (p := ⟨w.heap.size + 1, 1, none⟩) (by show w.heap.size + 1 < _; omega) _).setBelow (p := ⟨w.heap.size + 1, 2, none⟩) (by show w.heap.size + 1 < _; omega) _).rd
  · exact ((h.pat.ext.setCell (p := ⟨w.heap.size + 1, 0, none⟩) (by show _ ≤ w.heap.size + 1; omega) _).setCell (p := ⟨w.heap.size + 1, 1, none⟩) (by show _ ≤ w.heap.size + 1; omega) _).setCell (p := ⟨w.heap.size + 1, 2, none⟩) (by show _ ≤ w.heap.size + 1; omega) _
def mkPart (k : Int) (v : Value) : Value := .tuple #[v, .int .i64 0, .int .i64 0, .int .i64 k]
def mkDo (k : Int) (v : Value) : Value := .tuple #[v, .bool false, .int .i64 k]

set_option maxHeartbeats 1600000 in
set_option maxRecDepth 100000 in
theorem ppart_no (A B : Option Addr) (c d : Nat) (ts : List Tk) (dn : List Bool) (g : Int) (i : Int) (w : World) (h : Rd kTask w (.slice A ts.length c) ts) (hd : Rd kBool w (.slice B dn.length d) dn) (hg : in64 g) (hi : in64 i) (hl : ts.length ≤ 1048576) (hl2 : dn.length ≤ 1048576) (ha : askErr ts g dn.length i ≠ 0) :
    Calls Try.prog 82 #[.agg #[.slice A ts.length c, .int .i64 g, .slice B dn.length d], .int .i64 i] w (TNo w ts g dn (mkPart (askErr ts g dn.length i))) := by
  have H := Lib.hid h
  have HD := Lib.hid hd
  have hn := hd.len
  have hm := h.len
  have HG := Lib.hid hg
  have HI := Lib.hid hi
  obtain ⟨k, hk⟩ : ∃ k, askErr ts g dn.length i = k := ⟨_, rfl⟩
  rw [hk] at ha ⊢
  have HK := Lib.hid hk
  have e1 : (k != 0) = true := by simpa using ha
  clear h hd hk hg hi
  go_enter Try.func82, Try.ntmps82
  go_wp2_with fail
  have hP : PAt w A B c d dn.length ts.length g ((w.alloc (.cells #[.slice A ts.length c, .int .i64 g, .slice B dn.length d] 54)).alloc (.cells #[.slice none 0 0, .int .i64 0, .slice none 0 0] 54)) := Ext.refl _
  refine (copied_any _ _ _ _ _ _ _ _ (H.out.ext hP.ext) (HD.out.ext hP.ext) hl hl2).mono ?_
  rintro e w1 ⟨A1, c1, B1, d1, rfl, hO, hOD, hE⟩
  replace hP := hP.go hE
  have HO : Hid (Ow kTask (w.heap.size + 2) w1 (.slice A1 ts.length c1) ts) := Lib.hid (hO.mono (by simp))
  have HOD : Hid (Ow kBool (w.heap.size + 2) w1 (.slice B1 dn.length d1) dn) := Lib.hid (hOD.mono (by simp))
  have hV : VAt w A B c d dn.length ts.length g w1.heap.size A1 B1 c1 d1 (w1.alloc (.cells #[.slice A1 ts.length c1, .int .i64 g, .slice B1 dn.length d1] 54)) := VAt.start hP
  have HV0 := Lib.hid hV
  have HE1 : Hid (Ext w1 (w1.alloc (.cells #[.slice A1 ts.length c1, .int .i64 g, .slice B1 dn.length d1] 54))) := Lib.hid ((Ext.refl _).alloc _)
  obtain ⟨q0, q1, q2⟩ := hP.cells
  have k0 : w.heap.size < w1.heap.size := by have := hP.two; omega
  have k1 : w.heap.size + 1 < w1.heap.size := by have := hP.two; omega
  clear hO hOD hE hP hV
  go_wp2_with fail
  clear q0 q1 q2
  have hV := HV0.out
  refine (asked_any _ _ _ _ _ _ _ _ _ (H.out.ext hV.pat.ext) hn HG.out HI.out).mono ?_
  rintro e w2 ⟨he, hE⟩
  rw [HK.out] at he
  subst he
  replace hV := hV.go hE
  have HE2 := Lib.hid (HE1.out.trans hE)
  have HV := Lib.hid hV
  clear hE HV0 HE1
  obtain ⟨q0, q1, q2⟩ := hV.pat.cells
  obtain ⟨s0, s1, s2, s3⟩ := hV.pat.out
  obtain ⟨_, v0, v1, v2, v3, lv, gv⟩ := hV
  have l0 : w.heap.size < w2.heap.size := by omega
  have l1 : w.heap.size + 1 < w2.heap.size := by omega
  have l2 : w.heap.size < w2.heap.size + 1 := by omega
  have l3 : w.heap.size + 1 < w2.heap.size + 1 := by omega
  have l4 : w1.heap.size < w2.heap.size + 1 := by omega
  have n0 : ¬ w1.heap.size = w.heap.size := by omega
  have n1 : ¬ w1.heap.size = w.heap.size + 1 := by omega
  have n2 : ¬ w.heap.size + 1 = w1.heap.size := by omega
  have n3 : ¬ w.heap.size = w1.heap.size := by omega
  go_wp2_with fail
  have HVZ := HV
  have HEZ := HE2
  refine bodyPost_ret (v := .tuple #[.agg #[.slice A1 ts.length c1, .int .i64 g, .slice B1 dn.length d1], .int .i64 0, .int .i64 0, .int .i64 (k)]) (by simp [results, Try.results82, go_sem]; go_simp) rfl (TNo.of (mk := mkPart (k)) HVZ.out HO.out HOD.out HEZ.out _ _ _)

set_option maxHeartbeats 1600000 in
set_option maxRecDepth 100000 in
theorem ppart_small (A B : Option Addr) (c d : Nat) (ts : List Tk) (dn : List Bool) (g : Int) (j : Nat) (w : World) (h : Rd kTask w (.slice A ts.length c) ts) (hd : Rd kBool w (.slice B dn.length d) dn) (hg : in64 g) (hr : wRight ts g dn.length = true) (hj : j < ts.length) (ht : wGreat ts g dn.length j = false) :
    Calls Try.prog 82 #[.agg #[.slice A ts.length c, .int .i64 g, .slice B dn.length d], .int .i64 j] w (TNo w ts g dn (mkPart 5)) := by
  have H := Lib.hid h
  have HD := Lib.hid hd
  have hn := hd.len
  have hnb := right_n hr
  have hm := h.len
  have HG := Lib.hid hg
  have HI : Hid (in64 (j : Int)) := Lib.hid (by unfold in64; omega)
  have hl : ts.length ≤ 1048576 := by omega
  have hl2 : dn.length ≤ 1048576 := by omega
  have hgb := hnb.2.2.2.2
  have hs : wHas ts.length (j : Int) = true := by unfold wHas; simp; omega
  have HK := Lib.hid (askErr_ok hr hs)
  have HW : wGreat ts g dn.length j = decide (g < (ts.getD j tk0).hi - (ts.getD j tk0).lo) := by unfold wGreat tkAt; rw [hr, hs, Int.toNat_natCast]; rfl
  obtain ⟨b, off, rfl, hcc⟩ := Rd.tasks H.out (by omega)
  obtain ⟨y0, y1, y2, y3⟩ := hcc j hj
  have e0 : ts.getD j ⟨0, 0, 0, 0⟩ = ts.getD j tk0 := rfl
  rw [e0] at y0 y1 y2 y3
  obtain ⟨o1, o2, o3, o4, o5, o6, o7⟩ := tkOk_iff dn.length j (ts.getD j tk0) |>.1 (right_ok hr j hj)
  obtain ⟨⟨lo, hi, up, wt⟩, htk⟩ : ∃ x, ts.getD j tk0 = x := ⟨_, rfl⟩
  have HTK := Lib.hid htk
  rw [htk] at y0 y1 y2 y3 o1 o2 o3 o4 o5 o6 o7 HW
  simp only at y0 y1 y2 y3 o1 o2 o3 o4 o5 o6 o7 HW
  rw [ht] at HW
  have HGR : Hid (decide (g < hi - lo) = false) := Lib.hid HW.symm
  have HDD : Hid (in64 (hi - lo)) := Lib.hid (by unfold in64; omega)
  have Y0 := Lib.hid y0
  have Y1 := Lib.hid y1
  have Y2 := Lib.hid y2
  have Y3 := Lib.hid y3
  have hj1 : (j : Int) < ts.length := by omega
  have hj0 : (0 : Int) ≤ j := by omega
  have hlb : b < w.heap.size := World.block_lt_of_cell? _ _ y0
  clear h hd hg hr ht hs hcc e0 htk y0 y1 y2 y3 HW
  go_enter Try.func82, Try.ntmps82
  go_wp2_with fail
  have hP : PAt w (some ⟨b, off, none⟩) B c d dn.length ts.length g ((w.alloc (.cells #[.slice (some ⟨b, off, none⟩) ts.length c, .int .i64 g, .slice B dn.length d] 54)).alloc (.cells #[.slice none 0 0, .int .i64 0, .slice none 0 0] 54)) := Ext.refl _
  refine (copied_any _ _ _ _ _ _ _ _ (H.out.ext hP.ext) (HD.out.ext hP.ext) hl hl2).mono ?_
  rintro e w1 ⟨A1, c1, B1, d1, rfl, hO, hOD, hE⟩
  replace hP := hP.go hE
  have HO : Hid (Ow kTask (w.heap.size + 2) w1 (.slice A1 ts.length c1) ts) := Lib.hid (hO.mono (by simp))
  have HOD : Hid (Ow kBool (w.heap.size + 2) w1 (.slice B1 dn.length d1) dn) := Lib.hid (hOD.mono (by simp))
  have hV : VAt w (some ⟨b, off, none⟩) B c d dn.length ts.length g w1.heap.size A1 B1 c1 d1 (w1.alloc (.cells #[.slice A1 ts.length c1, .int .i64 g, .slice B1 dn.length d1] 54)) := VAt.start hP
  have HV0 := Lib.hid hV
  have HE1 : Hid (Ext w1 (w1.alloc (.cells #[.slice A1 ts.length c1, .int .i64 g, .slice B1 dn.length d1] 54))) := Lib.hid ((Ext.refl _).alloc _)
  obtain ⟨q0, q1, q2⟩ := hP.cells
  have k0 : w.heap.size < w1.heap.size := by have := hP.two; omega
  have k1 : w.heap.size + 1 < w1.heap.size := by have := hP.two; omega
  clear hO hOD hE hP hV
  go_wp2_with fail
  clear q0 q1 q2
  have hV := HV0.out
  refine (asked_any _ _ _ _ _ _ _ _ _ (H.out.ext hV.pat.ext) hn HG.out HI.out).mono ?_
  rintro e w2 ⟨he, hE⟩
  rw [HK.out] at he
  subst he
  replace hV := hV.go hE
  have HE2 := Lib.hid (HE1.out.trans hE)
  have HV := Lib.hid hV
  clear hE HV0 HE1
  obtain ⟨q0, q1, q2⟩ := hV.pat.cells
  obtain ⟨s0, s1, s2, s3⟩ := hV.pat.out
  obtain ⟨_, v0, v1, v2, v3, lv, gv⟩ := hV
  have l0 : w.heap.size < w2.heap.size := by omega
  have l1 : w.heap.size + 1 < w2.heap.size := by omega
  have l2 : w.heap.size < w2.heap.size + 1 := by omega
  have l3 : w.heap.size + 1 < w2.heap.size + 1 := by omega
  have l4 : w1.heap.size < w2.heap.size + 1 := by omega
  have n0 : ¬ w1.heap.size = w.heap.size := by omega
  have n1 : ¬ w1.heap.size = w.heap.size + 1 := by omega
  have n2 : ¬ w.heap.size + 1 = w1.heap.size := by omega
  have n3 : ¬ w.heap.size = w1.heap.size := by omega
  have z0 := HV.out.pat.ext.cell Y0.out
  have z1 := HV.out.pat.ext.cell Y1.out
  have z2 := HV.out.pat.ext.cell Y2.out
  have z3 := HV.out.pat.ext.cell Y3.out
  have lb0 : b < w2.heap.size := by omega
  have lb1 : b < w2.heap.size + 1 := by omega
  go_wp2_with fail
  have lv9 := lv
  clear q0 q1 q2 s0 s1 s2 s3 v0 v1 v2 v3 lv gv l0 l1 l2 l3 l4 n0 n1 n2 n3 z0 z1 z2 z3 lb0 lb1
  refine (great_any lo hi up wt g _ HDD.out HG.out).mono ?_
  rintro e w3 ⟨he, hE⟩
  rw [HGR.out] at he
  subst he
  have t0 : w3.cell? ⟨w2.heap.size, 0, none⟩ = some (.int .i64 lo) := hE.cell (by go_simp)
  have t1 : w3.cell? ⟨w2.heap.size, 1, none⟩ = some (.int .i64 hi) := hE.cell (by go_simp)
  have t2 : w3.cell? ⟨w2.heap.size, 2, none⟩ = some (.int .i64 up) := hE.cell (by go_simp)
  have t3 : w3.cell? ⟨w2.heap.size, 3, none⟩ = some (.int .i64 wt) := hE.cell (by go_simp)
  have hz := hE.size
  simp at hz
  have hE23 := ((Ext.refl w2).alloc _).trans hE
  have hV := HV.out.go hE23
  have HE3 := Lib.hid (HE2.out.trans hE23)
  have HV3 := Lib.hid hV
  clear hE hE23 HV HE2
  obtain ⟨q0, q1, q2⟩ := hV.pat.cells
  obtain ⟨s0, s1, s2, s3⟩ := hV.pat.out
  obtain ⟨_, v0, v1, v2, v3, lv, gv⟩ := hV
  have l0 : w.heap.size < w3.heap.size := by omega
  have l1 : w.heap.size + 1 < w3.heap.size := by omega
  have l2 : w.heap.size < w3.heap.size + 1 := by omega
  have l3 : w.heap.size + 1 < w3.heap.size + 1 := by omega
  have l4 : w1.heap.size < w3.heap.size + 1 := by omega
  have n0 : ¬ w1.heap.size = w.heap.size := by omega
  have n1 : ¬ w1.heap.size = w.heap.size + 1 := by omega
  have n2 : ¬ w.heap.size + 1 = w1.heap.size := by omega
  have n3 : ¬ w.heap.size = w1.heap.size := by omega
  have lt : w2.heap.size < w3.heap.size := by omega
  go_wp2_with fail
  have HVZ := HV3
  have HEZ := HE3
  refine bodyPost_ret (v := .tuple #[.agg #[.slice A1 ts.length c1, .int .i64 g, .slice B1 dn.length d1], .int .i64 0, .int .i64 0, .int .i64 (5)]) (by simp [results, Try.results82, go_sem]; go_simp) rfl (TNo.of (mk := mkPart (5)) HVZ.out HO.out HOD.out HEZ.out _ _ _)

set_option maxHeartbeats 1600000 in
set_option maxRecDepth 100000 in
theorem ppart_wait (A B : Option Addr) (c d : Nat) (ts : List Tk) (dn : List Bool) (g : Int) (j : Nat) (w : World) (h : Rd kTask w (.slice A ts.length c) ts) (hd : Rd kBool w (.slice B dn.length d) dn) (hg : in64 g) (hr : wRight ts g dn.length = true) (hj : j < ts.length) (ht : wGreat ts g dn.length j = true) (h3 : (ts.getD j tk0).wt ≠ 0) :
    Calls Try.prog 82 #[.agg #[.slice A ts.length c, .int .i64 g, .slice B dn.length d], .int .i64 j] w (TNo w ts g dn (mkPart 5)) := by
  have H := Lib.hid h
  have HD := Lib.hid hd
  have hn := hd.len
  have hnb := right_n hr
  have hm := h.len
  have HG := Lib.hid hg
  have HI : Hid (in64 (j : Int)) := Lib.hid (by unfold in64; omega)
  have hl : ts.length ≤ 1048576 := by omega
  have hl2 : dn.length ≤ 1048576 := by omega
  have hgb := hnb.2.2.2.2
  have hs : wHas ts.length (j : Int) = true := by unfold wHas; simp; omega
  have HK := Lib.hid (askErr_ok hr hs)
  have HW : wGreat ts g dn.length j = decide (g < (ts.getD j tk0).hi - (ts.getD j tk0).lo) := by unfold wGreat tkAt; rw [hr, hs, Int.toNat_natCast]; rfl
  obtain ⟨b, off, rfl, hcc⟩ := Rd.tasks H.out (by omega)
  obtain ⟨y0, y1, y2, y3⟩ := hcc j hj
  have e0 : ts.getD j ⟨0, 0, 0, 0⟩ = ts.getD j tk0 := rfl
  rw [e0] at y0 y1 y2 y3
  obtain ⟨o1, o2, o3, o4, o5, o6, o7⟩ := tkOk_iff dn.length j (ts.getD j tk0) |>.1 (right_ok hr j hj)
  obtain ⟨⟨lo, hi, up, wt⟩, htk⟩ : ∃ x, ts.getD j tk0 = x := ⟨_, rfl⟩
  have HTK := Lib.hid htk
  rw [htk] at y0 y1 y2 y3 h3 o1 o2 o3 o4 o5 o6 o7 HW
  simp only at y0 y1 y2 y3 h3 o1 o2 o3 o4 o5 o6 o7 HW
  rw [ht] at HW
  have HGR : Hid (decide (g < hi - lo) = true) := Lib.hid HW.symm
  have HDD : Hid (in64 (hi - lo)) := Lib.hid (by unfold in64; omega)
  have Y0 := Lib.hid y0
  have Y1 := Lib.hid y1
  have Y2 := Lib.hid y2
  have Y3 := Lib.hid y3
  have hj1 : (j : Int) < ts.length := by omega
  have hj0 : (0 : Int) ≤ j := by omega
  have hlb : b < w.heap.size := World.block_lt_of_cell? _ _ y0
  have e3 : (wt != 0) = true := by simpa using h3
  clear h hd hg hr ht hs hcc e0 htk y0 y1 y2 y3 HW
  go_enter Try.func82, Try.ntmps82
  go_wp2_with fail
  have hP : PAt w (some ⟨b, off, none⟩) B c d dn.length ts.length g ((w.alloc (.cells #[.slice (some ⟨b, off, none⟩) ts.length c, .int .i64 g, .slice B dn.length d] 54)).alloc (.cells #[.slice none 0 0, .int .i64 0, .slice none 0 0] 54)) := Ext.refl _
  refine (copied_any _ _ _ _ _ _ _ _ (H.out.ext hP.ext) (HD.out.ext hP.ext) hl hl2).mono ?_
  rintro e w1 ⟨A1, c1, B1, d1, rfl, hO, hOD, hE⟩
  replace hP := hP.go hE
  have HO : Hid (Ow kTask (w.heap.size + 2) w1 (.slice A1 ts.length c1) ts) := Lib.hid (hO.mono (by simp))
  have HOD : Hid (Ow kBool (w.heap.size + 2) w1 (.slice B1 dn.length d1) dn) := Lib.hid (hOD.mono (by simp))
  have hV : VAt w (some ⟨b, off, none⟩) B c d dn.length ts.length g w1.heap.size A1 B1 c1 d1 (w1.alloc (.cells #[.slice A1 ts.length c1, .int .i64 g, .slice B1 dn.length d1] 54)) := VAt.start hP
  have HV0 := Lib.hid hV
  have HE1 : Hid (Ext w1 (w1.alloc (.cells #[.slice A1 ts.length c1, .int .i64 g, .slice B1 dn.length d1] 54))) := Lib.hid ((Ext.refl _).alloc _)
  obtain ⟨q0, q1, q2⟩ := hP.cells
  have k0 : w.heap.size < w1.heap.size := by have := hP.two; omega
  have k1 : w.heap.size + 1 < w1.heap.size := by have := hP.two; omega
  clear hO hOD hE hP hV
  go_wp2_with fail
  clear q0 q1 q2
  have hV := HV0.out
  refine (asked_any _ _ _ _ _ _ _ _ _ (H.out.ext hV.pat.ext) hn HG.out HI.out).mono ?_
  rintro e w2 ⟨he, hE⟩
  rw [HK.out] at he
  subst he
  replace hV := hV.go hE
  have HE2 := Lib.hid (HE1.out.trans hE)
  have HV := Lib.hid hV
  clear hE HV0 HE1
  obtain ⟨q0, q1, q2⟩ := hV.pat.cells
  obtain ⟨s0, s1, s2, s3⟩ := hV.pat.out
  obtain ⟨_, v0, v1, v2, v3, lv, gv⟩ := hV
  have l0 : w.heap.size < w2.heap.size := by omega
  have l1 : w.heap.size + 1 < w2.heap.size := by omega
  have l2 : w.heap.size < w2.heap.size + 1 := by omega
  have l3 : w.heap.size + 1 < w2.heap.size + 1 := by omega
  have l4 : w1.heap.size < w2.heap.size + 1 := by omega
  have n0 : ¬ w1.heap.size = w.heap.size := by omega
  have n1 : ¬ w1.heap.size = w.heap.size + 1 := by omega
  have n2 : ¬ w.heap.size + 1 = w1.heap.size := by omega
  have n3 : ¬ w.heap.size = w1.heap.size := by omega
  have z0 := HV.out.pat.ext.cell Y0.out
  have z1 := HV.out.pat.ext.cell Y1.out
  have z2 := HV.out.pat.ext.cell Y2.out
  have z3 := HV.out.pat.ext.cell Y3.out
  have lb0 : b < w2.heap.size := by omega
  have lb1 : b < w2.heap.size + 1 := by omega
  go_wp2_with fail
  have lv9 := lv
  clear q0 q1 q2 s0 s1 s2 s3 v0 v1 v2 v3 lv gv l0 l1 l2 l3 l4 n0 n1 n2 n3 z0 z1 z2 z3 lb0 lb1
  refine (great_any lo hi up wt g _ HDD.out HG.out).mono ?_
  rintro e w3 ⟨he, hE⟩
  rw [HGR.out] at he
  subst he
  have t0 : w3.cell? ⟨w2.heap.size, 0, none⟩ = some (.int .i64 lo) := hE.cell (by go_simp)
  have t1 : w3.cell? ⟨w2.heap.size, 1, none⟩ = some (.int .i64 hi) := hE.cell (by go_simp)
  have t2 : w3.cell? ⟨w2.heap.size, 2, none⟩ = some (.int .i64 up) := hE.cell (by go_simp)
  have t3 : w3.cell? ⟨w2.heap.size, 3, none⟩ = some (.int .i64 wt) := hE.cell (by go_simp)
  have hz := hE.size
  simp at hz
  have hE23 := ((Ext.refl w2).alloc _).trans hE
  have hV := HV.out.go hE23
  have HE3 := Lib.hid (HE2.out.trans hE23)
  have HV3 := Lib.hid hV
  clear hE hE23 HV HE2
  obtain ⟨q0, q1, q2⟩ := hV.pat.cells
  obtain ⟨s0, s1, s2, s3⟩ := hV.pat.out
  obtain ⟨_, v0, v1, v2, v3, lv, gv⟩ := hV
  have l0 : w.heap.size < w3.heap.size := by omega
  have l1 : w.heap.size + 1 < w3.heap.size := by omega
  have l2 : w.heap.size < w3.heap.size + 1 := by omega
  have l3 : w.heap.size + 1 < w3.heap.size + 1 := by omega
  have l4 : w1.heap.size < w3.heap.size + 1 := by omega
  have n0 : ¬ w1.heap.size = w.heap.size := by omega
  have n1 : ¬ w1.heap.size = w.heap.size + 1 := by omega
  have n2 : ¬ w.heap.size + 1 = w1.heap.size := by omega
  have n3 : ¬ w.heap.size = w1.heap.size := by omega
  have lt : w2.heap.size < w3.heap.size := by omega
  go_wp2_with fail
  have HVZ := HV3
  have HEZ := HE3
  refine bodyPost_ret (v := .tuple #[.agg #[.slice A1 ts.length c1, .int .i64 g, .slice B1 dn.length d1], .int .i64 0, .int .i64 0, .int .i64 (5)]) (by simp [results, Try.results82, go_sem]; go_simp) rfl (TNo.of (mk := mkPart (5)) HVZ.out HO.out HOD.out HEZ.out _ _ _)

set_option maxHeartbeats 1600000 in
set_option maxRecDepth 100000 in
theorem ppart_full (A B : Option Addr) (c d : Nat) (ts : List Tk) (dn : List Bool) (g : Int) (j : Nat) (w : World) (h : Rd kTask w (.slice A ts.length c) ts) (hd : Rd kBool w (.slice B dn.length d) dn) (hg : in64 g) (hr : wRight ts g dn.length = true) (hj : j < ts.length) (ht : wGreat ts g dn.length j = true) (h3 : (ts.getD j tk0).wt = 0) (hf : 1998 < ts.length) :
    Calls Try.prog 82 #[.agg #[.slice A ts.length c, .int .i64 g, .slice B dn.length d], .int .i64 j] w (TNo w ts g dn (mkPart 2)) := by
  have H := Lib.hid h
  have HD := Lib.hid hd
  have hn := hd.len
  have hnb := right_n hr
  have hm := h.len
  have HG := Lib.hid hg
  have HI : Hid (in64 (j : Int)) := Lib.hid (by unfold in64; omega)
  have hl : ts.length ≤ 1048576 := by omega
  have hl2 : dn.length ≤ 1048576 := by omega
  have hgb := hnb.2.2.2.2
  have hs : wHas ts.length (j : Int) = true := by unfold wHas; simp; omega
  have HK := Lib.hid (askErr_ok hr hs)
  have HW : wGreat ts g dn.length j = decide (g < (ts.getD j tk0).hi - (ts.getD j tk0).lo) := by unfold wGreat tkAt; rw [hr, hs, Int.toNat_natCast]; rfl
  obtain ⟨b, off, rfl, hcc⟩ := Rd.tasks H.out (by omega)
  obtain ⟨y0, y1, y2, y3⟩ := hcc j hj
  have e0 : ts.getD j ⟨0, 0, 0, 0⟩ = ts.getD j tk0 := rfl
  rw [e0] at y0 y1 y2 y3
  obtain ⟨o1, o2, o3, o4, o5, o6, o7⟩ := tkOk_iff dn.length j (ts.getD j tk0) |>.1 (right_ok hr j hj)
  obtain ⟨⟨lo, hi, up, wt⟩, htk⟩ : ∃ x, ts.getD j tk0 = x := ⟨_, rfl⟩
  have HTK := Lib.hid htk
  rw [htk] at y0 y1 y2 y3 h3 o1 o2 o3 o4 o5 o6 o7 HW
  simp only at y0 y1 y2 y3 h3 o1 o2 o3 o4 o5 o6 o7 HW
  rw [ht] at HW
  have HGR : Hid (decide (g < hi - lo) = true) := Lib.hid HW.symm
  have HDD : Hid (in64 (hi - lo)) := Lib.hid (by unfold in64; omega)
  have Y0 := Lib.hid y0
  have Y1 := Lib.hid y1
  have Y2 := Lib.hid y2
  have Y3 := Lib.hid y3
  have hj1 : (j : Int) < ts.length := by omega
  have hj0 : (0 : Int) ≤ j := by omega
  have hlb : b < w.heap.size := World.block_lt_of_cell? _ _ y0
  subst h3
  have hf1 : (1998 : Int) < ts.length := by omega
  clear h hd hg hr ht hs hcc e0 htk y0 y1 y2 y3 HW
  go_enter Try.func82, Try.ntmps82
  go_wp2_with fail
  have hP : PAt w (some ⟨b, off, none⟩) B c d dn.length ts.length g ((w.alloc (.cells #[.slice (some ⟨b, off, none⟩) ts.length c, .int .i64 g, .slice B dn.length d] 54)).alloc (.cells #[.slice none 0 0, .int .i64 0, .slice none 0 0] 54)) := Ext.refl _
  refine (copied_any _ _ _ _ _ _ _ _ (H.out.ext hP.ext) (HD.out.ext hP.ext) hl hl2).mono ?_
  rintro e w1 ⟨A1, c1, B1, d1, rfl, hO, hOD, hE⟩
  replace hP := hP.go hE
  have HO : Hid (Ow kTask (w.heap.size + 2) w1 (.slice A1 ts.length c1) ts) := Lib.hid (hO.mono (by simp))
  have HOD : Hid (Ow kBool (w.heap.size + 2) w1 (.slice B1 dn.length d1) dn) := Lib.hid (hOD.mono (by simp))
  have hV : VAt w (some ⟨b, off, none⟩) B c d dn.length ts.length g w1.heap.size A1 B1 c1 d1 (w1.alloc (.cells #[.slice A1 ts.length c1, .int .i64 g, .slice B1 dn.length d1] 54)) := VAt.start hP
  have HV0 := Lib.hid hV
  have HE1 : Hid (Ext w1 (w1.alloc (.cells #[.slice A1 ts.length c1, .int .i64 g, .slice B1 dn.length d1] 54))) := Lib.hid ((Ext.refl _).alloc _)
  obtain ⟨q0, q1, q2⟩ := hP.cells
  have k0 : w.heap.size < w1.heap.size := by have := hP.two; omega
  have k1 : w.heap.size + 1 < w1.heap.size := by have := hP.two; omega
  clear hO hOD hE hP hV
  go_wp2_with fail
  clear q0 q1 q2
  have hV := HV0.out
  refine (asked_any _ _ _ _ _ _ _ _ _ (H.out.ext hV.pat.ext) hn HG.out HI.out).mono ?_
  rintro e w2 ⟨he, hE⟩
  rw [HK.out] at he
  subst he
  replace hV := hV.go hE
  have HE2 := Lib.hid (HE1.out.trans hE)
  have HV := Lib.hid hV
  clear hE HV0 HE1
  obtain ⟨q0, q1, q2⟩ := hV.pat.cells
  obtain ⟨s0, s1, s2, s3⟩ := hV.pat.out
  obtain ⟨_, v0, v1, v2, v3, lv, gv⟩ := hV
  have l0 : w.heap.size < w2.heap.size := by omega
  have l1 : w.heap.size + 1 < w2.heap.size := by omega
  have l2 : w.heap.size < w2.heap.size + 1 := by omega
  have l3 : w.heap.size + 1 < w2.heap.size + 1 := by omega
  have l4 : w1.heap.size < w2.heap.size + 1 := by omega
  have n0 : ¬ w1.heap.size = w.heap.size := by omega
  have n1 : ¬ w1.heap.size = w.heap.size + 1 := by omega
  have n2 : ¬ w.heap.size + 1 = w1.heap.size := by omega
  have n3 : ¬ w.heap.size = w1.heap.size := by omega
  have z0 := HV.out.pat.ext.cell Y0.out
  have z1 := HV.out.pat.ext.cell Y1.out
  have z2 := HV.out.pat.ext.cell Y2.out
  have z3 := HV.out.pat.ext.cell Y3.out
  have lb0 : b < w2.heap.size := by omega
  have lb1 : b < w2.heap.size + 1 := by omega
  go_wp2_with fail
  have lv9 := lv
  clear q0 q1 q2 s0 s1 s2 s3 v0 v1 v2 v3 lv gv l0 l1 l2 l3 l4 n0 n1 n2 n3 z0 z1 z2 z3 lb0 lb1
  refine (great_any lo hi up 0 g _ HDD.out HG.out).mono ?_
  rintro e w3 ⟨he, hE⟩
  rw [HGR.out] at he
  subst he
  have t0 : w3.cell? ⟨w2.heap.size, 0, none⟩ = some (.int .i64 lo) := hE.cell (by go_simp)
  have t1 : w3.cell? ⟨w2.heap.size, 1, none⟩ = some (.int .i64 hi) := hE.cell (by go_simp)
  have t2 : w3.cell? ⟨w2.heap.size, 2, none⟩ = some (.int .i64 up) := hE.cell (by go_simp)
  have t3 : w3.cell? ⟨w2.heap.size, 3, none⟩ = some (.int .i64 0) := hE.cell (by go_simp)
  have hz := hE.size
  simp at hz
  have hE23 := ((Ext.refl w2).alloc _).trans hE
  have hV := HV.out.go hE23
  have HE3 := Lib.hid (HE2.out.trans hE23)
  have HV3 := Lib.hid hV
  clear hE hE23 HV HE2
  obtain ⟨q0, q1, q2⟩ := hV.pat.cells
  obtain ⟨s0, s1, s2, s3⟩ := hV.pat.out
  obtain ⟨_, v0, v1, v2, v3, lv, gv⟩ := hV
  have l0 : w.heap.size < w3.heap.size := by omega
  have l1 : w.heap.size + 1 < w3.heap.size := by omega
  have l2 : w.heap.size < w3.heap.size + 1 := by omega
  have l3 : w.heap.size + 1 < w3.heap.size + 1 := by omega
  have l4 : w1.heap.size < w3.heap.size + 1 := by omega
  have n0 : ¬ w1.heap.size = w.heap.size := by omega
  have n1 : ¬ w1.heap.size = w.heap.size + 1 := by omega
  have n2 : ¬ w.heap.size + 1 = w1.heap.size := by omega
  have n3 : ¬ w.heap.size = w1.heap.size := by omega
  have lt : w2.heap.size < w3.heap.size := by omega
  go_wp2_with fail
  have HVZ := HV3
  have HEZ := HE3
  refine bodyPost_ret (v := .tuple #[.agg #[.slice A1 ts.length c1, .int .i64 g, .slice B1 dn.length d1], .int .i64 0, .int .i64 0, .int .i64 (2)]) (by simp [results, Try.results82, go_sem]; go_simp) rfl (TNo.of (mk := mkPart (2)) HVZ.out HO.out HOD.out HEZ.out _ _ _)

set_option maxHeartbeats 1600000 in
set_option maxRecDepth 100000 in
theorem ppart_ok (A B : Option Addr) (c d : Nat) (ts : List Tk) (dn : List Bool) (g : Int) (j : Nat) (w : World) (h : Rd kTask w (.slice A ts.length c) ts) (hd : Rd kBool w (.slice B dn.length d) dn) (hg : in64 g) (hr : wRight ts g dn.length = true) (hj : j < ts.length) (ht : wGreat ts g dn.length j = true) (h3 : (ts.getD j tk0).wt = 0) (hf : ts.length ≤ 1998) :
    Calls Try.prog 82 #[.agg #[.slice A ts.length c, .int .i64 g, .slice B dn.length d], .int .i64 j] w (PartSaid w ts g dn j) := by
  have H := Lib.hid h
  have HD := Lib.hid hd
  have hn := hd.len
  have hnb := right_n hr
  have hm := h.len
  have HG := Lib.hid hg
  have HI : Hid (in64 (j : Int)) := Lib.hid (by unfold in64; omega)
  have hl : ts.length ≤ 1048576 := by omega
  have hl2 : dn.length ≤ 1048576 := by omega
  have hgb := hnb.2.2.2.2
  have hs : wHas ts.length (j : Int) = true := by unfold wHas; simp; omega
  have HK := Lib.hid (askErr_ok hr hs)
  have HW : wGreat ts g dn.length j = decide (g < (ts.getD j tk0).hi - (ts.getD j tk0).lo) := by unfold wGreat tkAt; rw [hr, hs, Int.toNat_natCast]; rfl
  obtain ⟨b, off, rfl, hcc⟩ := Rd.tasks H.out (by omega)
  obtain ⟨y0, y1, y2, y3⟩ := hcc j hj
  have e0 : ts.getD j ⟨0, 0, 0, 0⟩ = ts.getD j tk0 := rfl
  rw [e0] at y0 y1 y2 y3
  obtain ⟨o1, o2, o3, o4, o5, o6, o7⟩ := tkOk_iff dn.length j (ts.getD j tk0) |>.1 (right_ok hr j hj)
  obtain ⟨⟨lo, hi, up, wt⟩, htk⟩ : ∃ x, ts.getD j tk0 = x := ⟨_, rfl⟩
  have HTK := Lib.hid htk
  rw [htk] at y0 y1 y2 y3 h3 o1 o2 o3 o4 o5 o6 o7 HW
  simp only at y0 y1 y2 y3 h3 o1 o2 o3 o4 o5 o6 o7 HW
  rw [ht] at HW
  have HGR : Hid (decide (g < hi - lo) = true) := Lib.hid HW.symm
  have HDD : Hid (in64 (hi - lo)) := Lib.hid (by unfold in64; omega)
  have Y0 := Lib.hid y0
  have Y1 := Lib.hid y1
  have Y2 := Lib.hid y2
  have Y3 := Lib.hid y3
  have hj1 : (j : Int) < ts.length := by omega
  have hj0 : (0 : Int) ≤ j := by omega
  have hlb : b < w.heap.size := World.block_lt_of_cell? _ _ y0
  subst h3
  have hf1 : (ts.length : Int) ≤ 1998 := by omega
  clear h hd hg hr ht hs hcc e0 htk y0 y1 y2 y3 HW
  go_enter Try.func82, Try.ntmps82
  go_wp2_with fail
  have hP : PAt w (some ⟨b, off, none⟩) B c d dn.length ts.length g ((w.alloc (.cells #[.slice (some ⟨b, off, none⟩) ts.length c, .int .i64 g, .slice B dn.length d] 54)).alloc (.cells #[.slice none 0 0, .int .i64 0, .slice none 0 0] 54)) := Ext.refl _
  refine (copied_any _ _ _ _ _ _ _ _ (H.out.ext hP.ext) (HD.out.ext hP.ext) hl hl2).mono ?_
  rintro e w1 ⟨A1, c1, B1, d1, rfl, hO, hOD, hE⟩
  replace hP := hP.go hE
  have HO : Hid (Ow kTask (w.heap.size + 2) w1 (.slice A1 ts.length c1) ts) := Lib.hid (hO.mono (by simp))
  have HOD : Hid (Ow kBool (w.heap.size + 2) w1 (.slice B1 dn.length d1) dn) := Lib.hid (hOD.mono (by simp))
  have hV : VAt w (some ⟨b, off, none⟩) B c d dn.length ts.length g w1.heap.size A1 B1 c1 d1 (w1.alloc (.cells #[.slice A1 ts.length c1, .int .i64 g, .slice B1 dn.length d1] 54)) := VAt.start hP
  have HV0 := Lib.hid hV
  have HE1 : Hid (Ext w1 (w1.alloc (.cells #[.slice A1 ts.length c1, .int .i64 g, .slice B1 dn.length d1] 54))) := Lib.hid ((Ext.refl _).alloc _)
  obtain ⟨q0, q1, q2⟩ := hP.cells
  have k0 : w.heap.size < w1.heap.size := by have := hP.two; omega
  have k1 : w.heap.size + 1 < w1.heap.size := by have := hP.two; omega
  clear hO hOD hE hP hV
  go_wp2_with fail
  clear q0 q1 q2
  have hV := HV0.out
  refine (asked_any _ _ _ _ _ _ _ _ _ (H.out.ext hV.pat.ext) hn HG.out HI.out).mono ?_
  rintro e w2 ⟨he, hE⟩
  rw [HK.out] at he
  subst he
  replace hV := hV.go hE
  have HE2 := Lib.hid (HE1.out.trans hE)
  have HV := Lib.hid hV
  clear hE HV0 HE1
  obtain ⟨q0, q1, q2⟩ := hV.pat.cells
  obtain ⟨s0, s1, s2, s3⟩ := hV.pat.out
  obtain ⟨_, v0, v1, v2, v3, lv, gv⟩ := hV
  have l0 : w.heap.size < w2.heap.size := by omega
  have l1 : w.heap.size + 1 < w2.heap.size := by omega
  have l2 : w.heap.size < w2.heap.size + 1 := by omega
  have l3 : w.heap.size + 1 < w2.heap.size + 1 := by omega
  have l4 : w1.heap.size < w2.heap.size + 1 := by omega
  have n0 : ¬ w1.heap.size = w.heap.size := by omega
  have n1 : ¬ w1.heap.size = w.heap.size + 1 := by omega
  have n2 : ¬ w.heap.size + 1 = w1.heap.size := by omega
  have n3 : ¬ w.heap.size = w1.heap.size := by omega
  have z0 := HV.out.pat.ext.cell Y0.out
  have z1 := HV.out.pat.ext.cell Y1.out
  have z2 := HV.out.pat.ext.cell Y2.out
  have z3 := HV.out.pat.ext.cell Y3.out
  have lb0 : b < w2.heap.size := by omega
  have lb1 : b < w2.heap.size + 1 := by omega
  go_wp2_with fail
  have lv9 := lv
  clear q0 q1 q2 s0 s1 s2 s3 v0 v1 v2 v3 lv gv l0 l1 l2 l3 l4 n0 n1 n2 n3 z0 z1 z2 z3 lb0 lb1
  refine (great_any lo hi up 0 g _ HDD.out HG.out).mono ?_
  rintro e w3 ⟨he, hE⟩
  rw [HGR.out] at he
  subst he
  have t0 : w3.cell? ⟨w2.heap.size, 0, none⟩ = some (.int .i64 lo) := hE.cell (by go_simp)
  have t1 : w3.cell? ⟨w2.heap.size, 1, none⟩ = some (.int .i64 hi) := hE.cell (by go_simp)
  have t2 : w3.cell? ⟨w2.heap.size, 2, none⟩ = some (.int .i64 up) := hE.cell (by go_simp)
  have t3 : w3.cell? ⟨w2.heap.size, 3, none⟩ = some (.int .i64 0) := hE.cell (by go_simp)
  have hz := hE.size
  simp at hz
  have hE23 := ((Ext.refl w2).alloc _).trans hE
  have hV := HV.out.go hE23
  have HE3 := Lib.hid (HE2.out.trans hE23)
  have HV3 := Lib.hid hV
  clear hE hE23 HV HE2
  obtain ⟨q0, q1, q2⟩ := hV.pat.cells
  obtain ⟨s0, s1, s2, s3⟩ := hV.pat.out
  obtain ⟨_, v0, v1, v2, v3, lv, gv⟩ := hV
  have l0 : w.heap.size < w3.heap.size := by omega
  have l1 : w.heap.size + 1 < w3.heap.size := by omega
  have l2 : w.heap.size < w3.heap.size + 1 := by omega
  have l3 : w.heap.size + 1 < w3.heap.size + 1 := by omega
  have l4 : w1.heap.size < w3.heap.size + 1 := by omega
  have n0 : ¬ w1.heap.size = w.heap.size := by omega
  have n1 : ¬ w1.heap.size = w.heap.size + 1 := by omega
  have n2 : ¬ w.heap.size + 1 = w1.heap.size := by omega
  have n3 : ¬ w.heap.size = w1.heap.size := by omega
  have lt : w2.heap.size < w3.heap.size := by omega
  go_wp2_with fail
  obtain ⟨P2, hP2⟩ : ∃ P2, (hi - lo) / 2 = P2 := ⟨_, rfl⟩
  have HHALF : Hid (in64 (hi - lo)) := HDD
  have hd0 : 0 ≤ hi - lo := by omega
  have HALL : Hid (∀ w', Drawn w3 w' → w'.cell? ⟨w2.heap.size, 0, none⟩ = some (.int .i64 lo) ∧ w'.cell? ⟨w2.heap.size, 1, none⟩ = some (.int .i64 hi)) := Lib.hid fun w' hD => ⟨hD.ext.cell t0, hD.ext.cell t1⟩
  have HH : Hid (∀ w', Drawn w3 w' → Calls Try.prog 88 #[.int .i64 (hi - lo)] w' fun e w'' => e = .returned (.int .i64 P2) ∧ Drawn w3 w'') := Lib.hid fun w' hD => (half_any _ w' HDD.out hd0).mono fun e w'' h => ⟨by rw [h.1, hP2], h.2 ▸ hD⟩
  have hw1 : IntKind.i64.wrap (hi - lo) = hi - lo := IntWalk.i64_in _ (by omega)
  have hw2 : IntKind.i64.wrap (lo + P2) = lo + P2 := IntWalk.i64_in _ (by omega)
  have HS := Lib.hid (And.intro t0 (And.intro t1 (And.intro t2 t3)))
  clear q0 q1 q2 s0 s1 s2 s3 v0 v1 v2 v3 lv gv l0 l1 l2 l3 l4 n0 n1 n2 n3 t0 t1 t2 t3
  refine wp_region_class (Drawn w3) (by kernel_rfl) (by kernel_rfl) (Drawn.drew w3) ?_
  repeat (first
    | go_big_quiet_skip
    | (go_big_quiet_want
       first
       | (go_big_quiet_op; go_big_quiet_on)
       | (unfold Oper.quiet
          apply Exists.intro
          refine ⟨fun w' hC => ?_, ?_⟩
          · (obtain ⟨k1, k2⟩ := HALL.out w' hC
             unfold Oper.quietAt
             go_simp
             first
             | exact rfl
             | (with_reducible exact HH.out w' hC))
          go_simp
          go_big_quiet_on)
       | (go_big_quiet_op
          apply Exists.intro
          refine ⟨fun w' hC => ?_, ?_⟩
          · exact HH.out w' hC
          go_big_quiet_on)))
  refine wpQuiet_nil ?_
  intro w4 hC4
  have hV := HV3.out.go hC4.ext
  have HV4 := Lib.hid hV
  have HE4 := Lib.hid (HE3.out.trans hC4.ext)
  obtain ⟨q0, q1, q2⟩ := hV.pat.cells
  obtain ⟨s0, s1, s2, s3⟩ := hV.pat.out
  obtain ⟨_, v0, v1, v2, v3, lv, gv⟩ := hV
  have l0 : w.heap.size < w4.heap.size := by omega
  have l1 : w.heap.size + 1 < w4.heap.size := by omega
  have l2 : w.heap.size < w4.heap.size + 1 := by omega
  have l3 : w.heap.size + 1 < w4.heap.size + 1 := by omega
  have l4 : w1.heap.size < w4.heap.size + 1 := by omega
  have n0 : ¬ w1.heap.size = w.heap.size := by omega
  have n1 : ¬ w1.heap.size = w.heap.size + 1 := by omega
  have n2 : ¬ w.heap.size + 1 = w1.heap.size := by omega
  have n3 : ¬ w.heap.size = w1.heap.size := by omega
  have t0 := hC4.ext.cell HS.out.1
  have t1 := hC4.ext.cell HS.out.2.1
  have HX3 := Lib.hid hC4.ext.size
  clear hC4
  have lt : w2.heap.size < w4.heap.size := by have := HX3.out; omega
  obtain ⟨ga, rfl, ga1, ga2, ga3, ga4⟩ := Ow.pos HO.out (by omega)
  have gf : w4.frozen? ⟨ga, j * 4 + 3, none⟩ = false := (Below.frozen HE4.out (p := ⟨ga, j * 4 + 3, none⟩) ga2).trans (ga4 _)
  have u3 : w4.cell? ⟨ga, j * 4 + 3, none⟩ = some (.int .i64 0) := HE4.out.cell (ga3 j hj 3 (.int .i64 0) (by have e : ts.getD j kTask.d = ts.getD j tk0 := rfl; rw [e, HTK.out]; rfl))
  have m0 : ¬ ga = w1.heap.size := by omega
  have m1 : ¬ ga = w2.heap.size := by omega
  have m2 : ¬ ga = w.heap.size := by omega
  have m3 : ¬ ga = w.heap.size + 1 := by omega
  have m4 : ¬ w2.heap.size = ga := by omega
  have m5 : ¬ w1.heap.size = ga := by omega
  have lg : ga < w4.heap.size := by omega
  have lg1 : ga < w4.heap.size + 1 := by omega
  have lt1 : w2.heap.size < w4.heap.size + 1 := by omega
  clear ga3 ga4
  have hos : Ow kTask _ (w4.setCell ⟨ga, j * 4 + 3, none⟩ (.int .i64 2)) (.slice (some ⟨ga, 0, none⟩) ts.length c1) (ts.set j ⟨lo, hi, up, 2⟩) := (HO.out.ext HE4.out).set (j := j) (i := 3) hj (by decide) (by have e : ts.getD j kTask.d = ts.getD j tk0 := rfl; rw [e, HTK.out]; rfl) (tk_ok (by unfold in64; omega) (by unfold in64; omega) (by unfold in64; omega) (by unfold in64; omega))
  have HOS := Lib.hid hos
  clear hos
  have HP2 := Lib.hid hP2
  have M1 : 0 ≤ P2 := by omega
  have M2 : P2 ≤ hi - lo := by omega
  clear hP2 hw1 hw2
  have hlen : (ts.set j (⟨lo, hi, up, 2⟩ : Tk) ++ ([⟨lo, lo + P2, (j : Int), 0⟩, ⟨lo + P2, hi, (j : Int), 0⟩] : List Tk)).length = ts.length + 2 := by simp
  go_wp2_with (first | (at_builtin; refine Stop.to ?_) | fail)
  refine Stop.of ?_
  refine Kd.wpList_app kTask (by rfl) (.tmp 59) (.tmp 70) (by rfl) (by rfl) _ _ (ts.set j ⟨lo, hi, up, 2⟩) (by rfl) (HOS.out.ext ((Ext.refl _).alloc _)) _ [⟨lo, lo + P2, j, 0⟩, ⟨lo + P2, hi, j, 0⟩] (by rfl) ?rd (by simp; omega) (by simp; omega) ?_
  case rd => exact ((Ow.lit (K := kTask) (B := 0) (p := w4.heap.size) (n := 2) _ [⟨lo, lo + P2, j, 0⟩, ⟨lo + P2, hi, j, 0⟩] _ rfl rfl (by simp) (Nat.zero_le _) (by simp [maxLen]) (by intro x hx; simp only [List.mem_cons, List.not_mem_nil, or_false] at hx; rcases hx with rfl | rfl <;> exact tk_ok (by unfold in64; omega) (by unfold in64; omega) (by unfold in64; omega) (by unfold in64; omega))).rd)
  intro v' w5 hown' hgrow' hat'
  have hv' := hown'.slice
  rw [hlen] at hv'
  obtain ⟨A4, c4, rfl, _⟩ := hv'
  have hg : World.grownBy _ w5 (some ga) := hgrow'
  have p0 : w5.cell? ⟨w1.heap.size, 0, none⟩ = some (.slice (some ⟨ga, 0, none⟩) ts.length c1) := ((grown_far hg (b := w1.heap.size) (by simp; omega) (by simp; omega)).1 0).trans (by go_simp)
  have p1 : w5.cell? ⟨w1.heap.size, 1, none⟩ = some (.int .i64 g) := ((grown_far hg (b := w1.heap.size) (by simp; omega) (by simp; omega)).1 1).trans (by go_simp)
  have p2 : w5.cell? ⟨w1.heap.size, 2, none⟩ = some (.slice B1 dn.length d1) := ((grown_far hg (b := w1.heap.size) (by simp; omega) (by simp; omega)).1 2).trans (by go_simp)
  have p3 : ∀ o, w5.frozen? ⟨w1.heap.size, o, none⟩ = false := fun o => ((grown_far hg (b := w1.heap.size) (by simp; omega) (by simp; omega)).2 o).trans (by have := v3 o; go_simp)
  have x0 : w5.cell? ⟨w.heap.size + 1, 0, none⟩ = some (.slice none 0 0) := ((grown_far hg (b := w.heap.size + 1) (by simp; omega) (by simp; omega)).1 0).trans (by go_simp)
  have x1 : w5.cell? ⟨w.heap.size + 1, 1, none⟩ = some (.int .i64 0) := ((grown_far hg (b := w.heap.size + 1) (by simp; omega) (by simp; omega)).1 1).trans (by go_simp)
  have x2 : w5.cell? ⟨w.heap.size + 1, 2, none⟩ = some (.slice none 0 0) := ((grown_far hg (b := w.heap.size + 1) (by simp; omega) (by simp; omega)).1 2).trans (by go_simp)
  have x3 : ∀ o, w5.frozen? ⟨w.heap.size + 1, o, none⟩ = false := fun o => ((grown_far hg (b := w.heap.size + 1) (by simp; omega) (by simp; omega)).2 o).trans (by have := s3 o; go_simp)
  have hat2 : ∀ k, (Value.slice A4 (ts.length + 2) c4).ownBlock = some k → k = ga ∨ w4.heap.size ≤ k := by
    intro k hk
    rcases hat' with e | e
    · rw [hk] at e; left; simpa [Value.ownBlock] using e
    · rw [hk] at e; right; simp at e; omega
  have HAT := Lib.hid hat2
  have HOW := Lib.hid hown'
  have HGR := Lib.hid hg
  clear hown' hgrow' hat' hat2 hg hlen
  go_wp2_with fail
  have hPT : partedTs ts j = ts.set j ⟨lo, hi, up, 2⟩ ++ [⟨lo, lo + P2, j, 0⟩, ⟨lo + P2, hi, j, 0⟩] := by unfold partedTs; rw [HTK.out]; simp only; rw [HP2.out]
  have hL : (partedTs ts j).length = ts.length + 2 := by rw [hPT]; simp
  have nb : ∀ k, (Value.slice A4 (ts.length + 2) c4).ownBlock = some k → k = ga ∨ w4.heap.size ≤ k := HAT.out
  have hX2 : Ext w w5 := (((HV4.out.pat.ext.setCell (p := ⟨ga, j * 4 + 3, none⟩) (by show _ ≤ ga; omega) _).alloc _)).grown HGR.out (by intro k hk; cases hk; omega)
  have hB3 : (Value.slice B1 dn.length d1).ownBlock ≠ some ga := Ow.far (by decide) HO.out HOD.out ga rfl
  have hB4 : (Value.slice B1 dn.length d1).ownBlock ≠ some w1.heap.size := fun h => by have := (HOD.out.lt _ h).2; omega
  have hOD4 := (((HOD.out.ext HE4.out).setOther (p := ⟨ga, j * 4 + 3, none⟩) hB3 (.int .i64 2)).ext ((Ext.refl _).alloc _)).kept HGR.out (.inr hB3)
  refine bodyPost_ret (v := .tuple #[.agg #[.slice A4 (ts.length + 2) c4, .int .i64 g, .slice B1 dn.length d1], .int .i64 ts.length, .int .i64 (ts.length + 1), .int .i64 0]) (by simp [results, Try.results82, go_sem]; go_simp) rfl ⟨A4, c4, B1, d1, by rw [hL], ?_, ?_, ?_, ?_, ?_⟩
  · rw [hL, hPT]
    exact ((((HOW.out.setOther (p := ⟨w1.heap.size, 0, none⟩) (fun h => by have := nb _ h; simp at this; omega) _).setBelow (p := ⟨w.heap.size + 1, 0, none⟩) (by show w.heap.size + 1 < _; omega) _).setBelow (p := ⟨w.heap.size + 1, 1, none⟩) (by show w.heap.size + 1 < _; omega) _).setBelow (p := ⟨w.heap.size + 1, 2, none⟩) (by show w.heap.size + 1 < _; omega) _).rd
  · exact ((((hOD4.setOther (p := ⟨w1.heap.size, 0, none⟩) hB4 _).setBelow (p := ⟨w.heap.size + 1, 0, none⟩) (by show w.heap.size + 1 < _; omega) _).setBelow (p := ⟨w.heap.size + 1, 1, none⟩) (by show w.heap.size + 1 < _; omega) _).setBelow (p := ⟨w.heap.size + 1, 2, none⟩) (by show w.heap.size + 1 < _; omega) _).rd
  · exact (HOW.out.from).mono (by omega)
  · exact (HOD.out.from).mono (by omega)
  · exact (((hX2.setCell (p := ⟨w1.heap.size, 0, none⟩) (by show _ ≤ w1.heap.size; omega) _).setCell (p := ⟨w.heap.size + 1, 0, none⟩) (by show _ ≤ w.heap.size + 1; omega) _).setCell (p := ⟨w.heap.size + 1, 1, none⟩) (by show _ ≤ w.heap.size + 1; omega) _).setCell (p := ⟨w.heap.size + 1, 2, none⟩) (by show _ ≤ w.heap.size + 1; omega) _

theorem ppart_any (A B : Option Addr) (c d : Nat) (ts : List Tk) (dn : List Bool) (g i : Int) (w : World) (h : Rd kTask w (.slice A ts.length c) ts) (hd : Rd kBool w (.slice B dn.length d) dn) (hg : in64 g) (hi : in64 i) (hl : ts.length ≤ 1048576) (hl2 : dn.length ≤ 1048576) :
    Calls Try.prog 82 #[.agg #[.slice A ts.length c, .int .i64 g, .slice B dn.length d], .int .i64 i] w fun e w' =>
      (partErr ts g dn.length i ≠ 0 ∧ TNo w ts g dn (mkPart (partErr ts g dn.length i)) e w') ∨ (partErr ts g dn.length i = 0 ∧ PartSaid w ts g dn i.toNat e w') := by
  by_cases ha : askErr ts g dn.length i = 0
  · obtain ⟨hr, hs⟩ := askErr_zero ha
    have hsi : 0 ≤ i ∧ i < (ts.length : Int) := by unfold wHas at hs; simpa using hs
    obtain ⟨j, rfl⟩ : ∃ j : Nat, i = j := ⟨i.toNat, by omega⟩
    have hj : j < ts.length := by omega
    have e0 : tkAt ts (j : Int) = ts.getD j tk0 := by unfold tkAt; rw [Int.toNat_natCast]
    cases ht : wGreat ts g dn.length j with
    | false =>
      have he : partErr ts g dn.length (j : Int) = 5 := by unfold partErr; rw [if_neg (by rw [hr]; decide), if_neg (by rw [hs]; decide), if_pos ht]
      rw [he]
      exact (ppart_small A B c d ts dn g j w h hd hg hr hj ht).mono fun e w' hh => .inl ⟨by decide, hh⟩
    | true =>
      by_cases hw : (ts.getD j tk0).wt = 0
      · by_cases hf : 1998 < ts.length
        · skip
          have he : partErr ts g dn.length (j : Int) = 2 := by unfold partErr; rw [if_neg (by rw [hr]; decide), if_neg (by rw [hs]; decide), if_neg (by rw [ht]; decide), e0, if_neg (by simpa using hw), if_pos hf]
          rw [he]
          exact (ppart_full A B c d ts dn g j w h hd hg hr hj ht hw hf).mono fun e w' hh => .inl ⟨by decide, hh⟩
        · skip
          have he : partErr ts g dn.length (j : Int) = 0 := by unfold partErr; rw [if_neg (by rw [hr]; decide), if_neg (by rw [hs]; decide), if_neg (by rw [ht]; decide), e0, if_neg (by simpa using hw), if_neg hf]
          rw [he]
          exact (ppart_ok A B c d ts dn g j w h hd hg hr hj ht hw (by omega)).mono fun e w' hh => .inr ⟨rfl, by rw [Int.toNat_natCast]; exact hh⟩
      · skip
        have he : partErr ts g dn.length (j : Int) = 5 := by unfold partErr; rw [if_neg (by rw [hr]; decide), if_neg (by rw [hs]; decide), if_neg (by rw [ht]; decide), e0, if_pos hw]
        rw [he]
        exact (ppart_wait A B c d ts dn g j w h hd hg hr hj ht hw).mono fun e w' hh => .inl ⟨by decide, hh⟩
  · have he : partErr ts g dn.length i = askErr ts g dn.length i := by
      unfold partErr
      unfold askErr at ha ⊢
      cases hr : wRight ts g dn.length with
      | false => rfl
      | true =>
        cases hs : wHas ts.length i with
        | false => rfl
        | true => rw [hr, hs] at ha; exact absurd rfl ha
    rw [he]
    exact (ppart_no A B c d ts dn g i w h hd hg hi hl hl2 ha).mono fun e w' hh => .inl ⟨ha, hh⟩
end Go.Proofs.Ytjabahfkgaamdaa

/- The program's Do of work. Written by wip/mk_pwork.py. -/
namespace Go.Proofs.Ytjabahfkgaamdaa
open Go.BigFrame
open Go.RowKit Go.Proofs.Ytjabahfkgaamdaa.Plain

set_option maxHeartbeats 1600000 in
set_option maxRecDepth 100000 in
theorem pdo_no (A B : Option Addr) (c d : Nat) (ts : List Tk) (dn : List Bool) (g : Int) (i : Int) (w : World) (h : Rd kTask w (.slice A ts.length c) ts) (hd : Rd kBool w (.slice B dn.length d) dn) (hg : in64 g) (hi : in64 i) (hl : ts.length ≤ 1048576) (hl2 : dn.length ≤ 1048576) (ha : askErr ts g dn.length i ≠ 0) :
    Calls Try.prog 83 #[.agg #[.slice A ts.length c, .int .i64 g, .slice B dn.length d], .int .i64 i] w (TNo w ts g dn (mkDo (askErr ts g dn.length i))) := by
  have H := Lib.hid h
  have HD := Lib.hid hd
  have hn := hd.len
  have hm := h.len
  have HG := Lib.hid hg
  have HI := Lib.hid hi
  obtain ⟨k, hk⟩ : ∃ k, askErr ts g dn.length i = k := ⟨_, rfl⟩
  rw [hk] at ha ⊢
  have HK := Lib.hid hk
  have e1 : (k != 0) = true := by simpa using ha
  clear h hd hk hg hi
  go_enter Try.func83, Try.ntmps83
  go_wp2_with fail
  have hP : PAt w A B c d dn.length ts.length g ((w.alloc (.cells #[.slice A ts.length c, .int .i64 g, .slice B dn.length d] 54)).alloc (.cells #[.slice none 0 0, .int .i64 0, .slice none 0 0] 54)) := Ext.refl _
  refine (copied_any _ _ _ _ _ _ _ _ (H.out.ext hP.ext) (HD.out.ext hP.ext) hl hl2).mono ?_
  rintro e w1 ⟨A1, c1, B1, d1, rfl, hO, hOD, hE⟩
  replace hP := hP.go hE
  have HO : Hid (Ow kTask (w.heap.size + 2) w1 (.slice A1 ts.length c1) ts) := Lib.hid (hO.mono (by simp))
  have HOD : Hid (Ow kBool (w.heap.size + 2) w1 (.slice B1 dn.length d1) dn) := Lib.hid (hOD.mono (by simp))
  have hV : VAt w A B c d dn.length ts.length g w1.heap.size A1 B1 c1 d1 (w1.alloc (.cells #[.slice A1 ts.length c1, .int .i64 g, .slice B1 dn.length d1] 54)) := VAt.start hP
  have HV0 := Lib.hid hV
  have HE1 : Hid (Ext w1 (w1.alloc (.cells #[.slice A1 ts.length c1, .int .i64 g, .slice B1 dn.length d1] 54))) := Lib.hid ((Ext.refl _).alloc _)
  obtain ⟨q0, q1, q2⟩ := hP.cells
  have k0 : w.heap.size < w1.heap.size := by have := hP.two; omega
  have k1 : w.heap.size + 1 < w1.heap.size := by have := hP.two; omega
  clear hO hOD hE hP hV
  go_wp2_with fail
  clear q0 q1 q2
  have hV := HV0.out
  refine (asked_any _ _ _ _ _ _ _ _ _ (H.out.ext hV.pat.ext) hn HG.out HI.out).mono ?_
  rintro e w2 ⟨he, hE⟩
  rw [HK.out] at he
  subst he
  replace hV := hV.go hE
  have HE2 := Lib.hid (HE1.out.trans hE)
  have HV := Lib.hid hV
  clear hE HV0 HE1
  obtain ⟨q0, q1, q2⟩ := hV.pat.cells
  obtain ⟨s0, s1, s2, s3⟩ := hV.pat.out
  obtain ⟨_, v0, v1, v2, v3, lv, gv⟩ := hV
  have l0 : w.heap.size < w2.heap.size := by omega
  have l1 : w.heap.size + 1 < w2.heap.size := by omega
  have l2 : w.heap.size < w2.heap.size + 1 := by omega
  have l3 : w.heap.size + 1 < w2.heap.size + 1 := by omega
  have l4 : w1.heap.size < w2.heap.size + 1 := by omega
  have n0 : ¬ w1.heap.size = w.heap.size := by omega
  have n1 : ¬ w1.heap.size = w.heap.size + 1 := by omega
  have n2 : ¬ w.heap.size + 1 = w1.heap.size := by omega
  have n3 : ¬ w.heap.size = w1.heap.size := by omega
  go_wp2_with fail
  have HVZ := HV
  have HEZ := HE2
  refine bodyPost_ret (v := .tuple #[.agg #[.slice A1 ts.length c1, .int .i64 g, .slice B1 dn.length d1], .bool false, .int .i64 (k)]) (by simp [results, Try.results83, go_sem]; go_simp) rfl (TNo.of (mk := mkDo (k)) HVZ.out HO.out HOD.out HEZ.out _ _ _)

set_option maxHeartbeats 1600000 in
set_option maxRecDepth 100000 in
theorem pdo_great (A B : Option Addr) (c d : Nat) (ts : List Tk) (dn : List Bool) (g : Int) (j : Nat) (w : World) (h : Rd kTask w (.slice A ts.length c) ts) (hd : Rd kBool w (.slice B dn.length d) dn) (hg : in64 g) (hr : wRight ts g dn.length = true) (hj : j < ts.length) (ht : wGreat ts g dn.length j = true) :
    Calls Try.prog 83 #[.agg #[.slice A ts.length c, .int .i64 g, .slice B dn.length d], .int .i64 j] w (TNo w ts g dn (mkDo 5)) := by
  have H := Lib.hid h
  have HD := Lib.hid hd
  have hn := hd.len
  have hnb := right_n hr
  have hm := h.len
  have HG := Lib.hid hg
  have HI : Hid (in64 (j : Int)) := Lib.hid (by unfold in64; omega)
  have hl : ts.length ≤ 1048576 := by omega
  have hl2 : dn.length ≤ 1048576 := by omega
  have hgb := hnb.2.2.2.2
  have hs : wHas ts.length (j : Int) = true := by unfold wHas; simp; omega
  have HK := Lib.hid (askErr_ok hr hs)
  have HW : wGreat ts g dn.length j = decide (g < (ts.getD j tk0).hi - (ts.getD j tk0).lo) := by unfold wGreat tkAt; rw [hr, hs, Int.toNat_natCast]; rfl
  obtain ⟨b, off, rfl, hcc⟩ := Rd.tasks H.out (by omega)
  obtain ⟨y0, y1, y2, y3⟩ := hcc j hj
  have e0 : ts.getD j ⟨0, 0, 0, 0⟩ = ts.getD j tk0 := rfl
  rw [e0] at y0 y1 y2 y3
  obtain ⟨o1, o2, o3, o4, o5, o6, o7⟩ := tkOk_iff dn.length j (ts.getD j tk0) |>.1 (right_ok hr j hj)
  obtain ⟨⟨lo, hi, up, wt⟩, htk⟩ : ∃ x, ts.getD j tk0 = x := ⟨_, rfl⟩
  have HTK := Lib.hid htk
  rw [htk] at y0 y1 y2 y3 o1 o2 o3 o4 o5 o6 o7 HW
  simp only at y0 y1 y2 y3 o1 o2 o3 o4 o5 o6 o7 HW
  rw [ht] at HW
  have HGR : Hid (decide (g < hi - lo) = true) := Lib.hid HW.symm
  have HDD : Hid (in64 (hi - lo)) := Lib.hid (by unfold in64; omega)
  have Y0 := Lib.hid y0
  have Y1 := Lib.hid y1
  have Y2 := Lib.hid y2
  have Y3 := Lib.hid y3
  have hj1 : (j : Int) < ts.length := by omega
  have hj0 : (0 : Int) ≤ j := by omega
  have hlb : b < w.heap.size := World.block_lt_of_cell? _ _ y0
  clear h hd hg hr ht hs hcc e0 htk y0 y1 y2 y3 HW
  go_enter Try.func83, Try.ntmps83
  go_wp2_with fail
  have hP : PAt w (some ⟨b, off, none⟩) B c d dn.length ts.length g ((w.alloc (.cells #[.slice (some ⟨b, off, none⟩) ts.length c, .int .i64 g, .slice B dn.length d] 54)).alloc (.cells #[.slice none 0 0, .int .i64 0, .slice none 0 0] 54)) := Ext.refl _
  refine (copied_any _ _ _ _ _ _ _ _ (H.out.ext hP.ext) (HD.out.ext hP.ext) hl hl2).mono ?_
  rintro e w1 ⟨A1, c1, B1, d1, rfl, hO, hOD, hE⟩
  replace hP := hP.go hE
  have HO : Hid (Ow kTask (w.heap.size + 2) w1 (.slice A1 ts.length c1) ts) := Lib.hid (hO.mono (by simp))
  have HOD : Hid (Ow kBool (w.heap.size + 2) w1 (.slice B1 dn.length d1) dn) := Lib.hid (hOD.mono (by simp))
  have hV : VAt w (some ⟨b, off, none⟩) B c d dn.length ts.length g w1.heap.size A1 B1 c1 d1 (w1.alloc (.cells #[.slice A1 ts.length c1, .int .i64 g, .slice B1 dn.length d1] 54)) := VAt.start hP
  have HV0 := Lib.hid hV
  have HE1 : Hid (Ext w1 (w1.alloc (.cells #[.slice A1 ts.length c1, .int .i64 g, .slice B1 dn.length d1] 54))) := Lib.hid ((Ext.refl _).alloc _)
  obtain ⟨q0, q1, q2⟩ := hP.cells
  have k0 : w.heap.size < w1.heap.size := by have := hP.two; omega
  have k1 : w.heap.size + 1 < w1.heap.size := by have := hP.two; omega
  clear hO hOD hE hP hV
  go_wp2_with fail
  clear q0 q1 q2
  have hV := HV0.out
  refine (asked_any _ _ _ _ _ _ _ _ _ (H.out.ext hV.pat.ext) hn HG.out HI.out).mono ?_
  rintro e w2 ⟨he, hE⟩
  rw [HK.out] at he
  subst he
  replace hV := hV.go hE
  have HE2 := Lib.hid (HE1.out.trans hE)
  have HV := Lib.hid hV
  clear hE HV0 HE1
  obtain ⟨q0, q1, q2⟩ := hV.pat.cells
  obtain ⟨s0, s1, s2, s3⟩ := hV.pat.out
  obtain ⟨_, v0, v1, v2, v3, lv, gv⟩ := hV
  have l0 : w.heap.size < w2.heap.size := by omega
  have l1 : w.heap.size + 1 < w2.heap.size := by omega
  have l2 : w.heap.size < w2.heap.size + 1 := by omega
  have l3 : w.heap.size + 1 < w2.heap.size + 1 := by omega
  have l4 : w1.heap.size < w2.heap.size + 1 := by omega
  have n0 : ¬ w1.heap.size = w.heap.size := by omega
  have n1 : ¬ w1.heap.size = w.heap.size + 1 := by omega
  have n2 : ¬ w.heap.size + 1 = w1.heap.size := by omega
  have n3 : ¬ w.heap.size = w1.heap.size := by omega
  have z0 := HV.out.pat.ext.cell Y0.out
  have z1 := HV.out.pat.ext.cell Y1.out
  have z2 := HV.out.pat.ext.cell Y2.out
  have z3 := HV.out.pat.ext.cell Y3.out
  have lb0 : b < w2.heap.size := by omega
  have lb1 : b < w2.heap.size + 1 := by omega
  go_wp2_with fail
  have lv9 := lv
  clear q0 q1 q2 s0 s1 s2 s3 v0 v1 v2 v3 lv gv l0 l1 l2 l3 l4 n0 n1 n2 n3 z0 z1 z2 z3 lb0 lb1
  refine (great_any lo hi up wt g _ HDD.out HG.out).mono ?_
  rintro e w3 ⟨he, hE⟩
  rw [HGR.out] at he
  subst he
  have t0 : w3.cell? ⟨w2.heap.size, 0, none⟩ = some (.int .i64 lo) := hE.cell (by go_simp)
  have t1 : w3.cell? ⟨w2.heap.size, 1, none⟩ = some (.int .i64 hi) := hE.cell (by go_simp)
  have t2 : w3.cell? ⟨w2.heap.size, 2, none⟩ = some (.int .i64 up) := hE.cell (by go_simp)
  have t3 : w3.cell? ⟨w2.heap.size, 3, none⟩ = some (.int .i64 wt) := hE.cell (by go_simp)
  have hz := hE.size
  simp at hz
  have hE23 := ((Ext.refl w2).alloc _).trans hE
  have hV := HV.out.go hE23
  have HE3 := Lib.hid (HE2.out.trans hE23)
  have HV3 := Lib.hid hV
  clear hE hE23 HV HE2
  obtain ⟨q0, q1, q2⟩ := hV.pat.cells
  obtain ⟨s0, s1, s2, s3⟩ := hV.pat.out
  obtain ⟨_, v0, v1, v2, v3, lv, gv⟩ := hV
  have l0 : w.heap.size < w3.heap.size := by omega
  have l1 : w.heap.size + 1 < w3.heap.size := by omega
  have l2 : w.heap.size < w3.heap.size + 1 := by omega
  have l3 : w.heap.size + 1 < w3.heap.size + 1 := by omega
  have l4 : w1.heap.size < w3.heap.size + 1 := by omega
  have n0 : ¬ w1.heap.size = w.heap.size := by omega
  have n1 : ¬ w1.heap.size = w.heap.size + 1 := by omega
  have n2 : ¬ w.heap.size + 1 = w1.heap.size := by omega
  have n3 : ¬ w.heap.size = w1.heap.size := by omega
  have lt : w2.heap.size < w3.heap.size := by omega
  go_wp2_with fail
  have HVZ := HV3
  have HEZ := HE3
  refine bodyPost_ret (v := .tuple #[.agg #[.slice A1 ts.length c1, .int .i64 g, .slice B1 dn.length d1], .bool false, .int .i64 (5)]) (by simp [results, Try.results83, go_sem]; go_simp) rfl (TNo.of (mk := mkDo (5)) HVZ.out HO.out HOD.out HEZ.out _ _ _)

set_option maxHeartbeats 1600000 in
set_option maxRecDepth 100000 in
theorem pdo_wait (A B : Option Addr) (c d : Nat) (ts : List Tk) (dn : List Bool) (g : Int) (j : Nat) (w : World) (h : Rd kTask w (.slice A ts.length c) ts) (hd : Rd kBool w (.slice B dn.length d) dn) (hg : in64 g) (hr : wRight ts g dn.length = true) (hj : j < ts.length) (ht : wGreat ts g dn.length j = false) (h3 : (ts.getD j tk0).wt ≠ 0) :
    Calls Try.prog 83 #[.agg #[.slice A ts.length c, .int .i64 g, .slice B dn.length d], .int .i64 j] w (TNo w ts g dn (mkDo 5)) := by
  have H := Lib.hid h
  have HD := Lib.hid hd
  have hn := hd.len
  have hnb := right_n hr
  have hm := h.len
  have HG := Lib.hid hg
  have HI : Hid (in64 (j : Int)) := Lib.hid (by unfold in64; omega)
  have hl : ts.length ≤ 1048576 := by omega
  have hl2 : dn.length ≤ 1048576 := by omega
  have hgb := hnb.2.2.2.2
  have hs : wHas ts.length (j : Int) = true := by unfold wHas; simp; omega
  have HK := Lib.hid (askErr_ok hr hs)
  have HW : wGreat ts g dn.length j = decide (g < (ts.getD j tk0).hi - (ts.getD j tk0).lo) := by unfold wGreat tkAt; rw [hr, hs, Int.toNat_natCast]; rfl
  obtain ⟨b, off, rfl, hcc⟩ := Rd.tasks H.out (by omega)
  obtain ⟨y0, y1, y2, y3⟩ := hcc j hj
  have e0 : ts.getD j ⟨0, 0, 0, 0⟩ = ts.getD j tk0 := rfl
  rw [e0] at y0 y1 y2 y3
  obtain ⟨o1, o2, o3, o4, o5, o6, o7⟩ := tkOk_iff dn.length j (ts.getD j tk0) |>.1 (right_ok hr j hj)
  obtain ⟨⟨lo, hi, up, wt⟩, htk⟩ : ∃ x, ts.getD j tk0 = x := ⟨_, rfl⟩
  have HTK := Lib.hid htk
  rw [htk] at y0 y1 y2 y3 h3 o1 o2 o3 o4 o5 o6 o7 HW
  simp only at y0 y1 y2 y3 h3 o1 o2 o3 o4 o5 o6 o7 HW
  rw [ht] at HW
  have HGR : Hid (decide (g < hi - lo) = false) := Lib.hid HW.symm
  have HDD : Hid (in64 (hi - lo)) := Lib.hid (by unfold in64; omega)
  have Y0 := Lib.hid y0
  have Y1 := Lib.hid y1
  have Y2 := Lib.hid y2
  have Y3 := Lib.hid y3
  have hj1 : (j : Int) < ts.length := by omega
  have hj0 : (0 : Int) ≤ j := by omega
  have hlb : b < w.heap.size := World.block_lt_of_cell? _ _ y0
  have e3 : (wt != 0) = true := by simpa using h3
  clear h hd hg hr ht hs hcc e0 htk y0 y1 y2 y3 HW
  go_enter Try.func83, Try.ntmps83
  go_wp2_with fail
  have hP : PAt w (some ⟨b, off, none⟩) B c d dn.length ts.length g ((w.alloc (.cells #[.slice (some ⟨b, off, none⟩) ts.length c, .int .i64 g, .slice B dn.length d] 54)).alloc (.cells #[.slice none 0 0, .int .i64 0, .slice none 0 0] 54)) := Ext.refl _
  refine (copied_any _ _ _ _ _ _ _ _ (H.out.ext hP.ext) (HD.out.ext hP.ext) hl hl2).mono ?_
  rintro e w1 ⟨A1, c1, B1, d1, rfl, hO, hOD, hE⟩
  replace hP := hP.go hE
  have HO : Hid (Ow kTask (w.heap.size + 2) w1 (.slice A1 ts.length c1) ts) := Lib.hid (hO.mono (by simp))
  have HOD : Hid (Ow kBool (w.heap.size + 2) w1 (.slice B1 dn.length d1) dn) := Lib.hid (hOD.mono (by simp))
  have hV : VAt w (some ⟨b, off, none⟩) B c d dn.length ts.length g w1.heap.size A1 B1 c1 d1 (w1.alloc (.cells #[.slice A1 ts.length c1, .int .i64 g, .slice B1 dn.length d1] 54)) := VAt.start hP
  have HV0 := Lib.hid hV
  have HE1 : Hid (Ext w1 (w1.alloc (.cells #[.slice A1 ts.length c1, .int .i64 g, .slice B1 dn.length d1] 54))) := Lib.hid ((Ext.refl _).alloc _)
  obtain ⟨q0, q1, q2⟩ := hP.cells
  have k0 : w.heap.size < w1.heap.size := by have := hP.two; omega
  have k1 : w.heap.size + 1 < w1.heap.size := by have := hP.two; omega
  clear hO hOD hE hP hV
  go_wp2_with fail
  clear q0 q1 q2
  have hV := HV0.out
  refine (asked_any _ _ _ _ _ _ _ _ _ (H.out.ext hV.pat.ext) hn HG.out HI.out).mono ?_
  rintro e w2 ⟨he, hE⟩
  rw [HK.out] at he
  subst he
  replace hV := hV.go hE
  have HE2 := Lib.hid (HE1.out.trans hE)
  have HV := Lib.hid hV
  clear hE HV0 HE1
  obtain ⟨q0, q1, q2⟩ := hV.pat.cells
  obtain ⟨s0, s1, s2, s3⟩ := hV.pat.out
  obtain ⟨_, v0, v1, v2, v3, lv, gv⟩ := hV
  have l0 : w.heap.size < w2.heap.size := by omega
  have l1 : w.heap.size + 1 < w2.heap.size := by omega
  have l2 : w.heap.size < w2.heap.size + 1 := by omega
  have l3 : w.heap.size + 1 < w2.heap.size + 1 := by omega
  have l4 : w1.heap.size < w2.heap.size + 1 := by omega
  have n0 : ¬ w1.heap.size = w.heap.size := by omega
  have n1 : ¬ w1.heap.size = w.heap.size + 1 := by omega
  have n2 : ¬ w.heap.size + 1 = w1.heap.size := by omega
  have n3 : ¬ w.heap.size = w1.heap.size := by omega
  have z0 := HV.out.pat.ext.cell Y0.out
  have z1 := HV.out.pat.ext.cell Y1.out
  have z2 := HV.out.pat.ext.cell Y2.out
  have z3 := HV.out.pat.ext.cell Y3.out
  have lb0 : b < w2.heap.size := by omega
  have lb1 : b < w2.heap.size + 1 := by omega
  go_wp2_with fail
  have lv9 := lv
  clear q0 q1 q2 s0 s1 s2 s3 v0 v1 v2 v3 lv gv l0 l1 l2 l3 l4 n0 n1 n2 n3 z0 z1 z2 z3 lb0 lb1
  refine (great_any lo hi up wt g _ HDD.out HG.out).mono ?_
  rintro e w3 ⟨he, hE⟩
  rw [HGR.out] at he
  subst he
  have t0 : w3.cell? ⟨w2.heap.size, 0, none⟩ = some (.int .i64 lo) := hE.cell (by go_simp)
  have t1 : w3.cell? ⟨w2.heap.size, 1, none⟩ = some (.int .i64 hi) := hE.cell (by go_simp)
  have t2 : w3.cell? ⟨w2.heap.size, 2, none⟩ = some (.int .i64 up) := hE.cell (by go_simp)
  have t3 : w3.cell? ⟨w2.heap.size, 3, none⟩ = some (.int .i64 wt) := hE.cell (by go_simp)
  have hz := hE.size
  simp at hz
  have hE23 := ((Ext.refl w2).alloc _).trans hE
  have hV := HV.out.go hE23
  have HE3 := Lib.hid (HE2.out.trans hE23)
  have HV3 := Lib.hid hV
  clear hE hE23 HV HE2
  obtain ⟨q0, q1, q2⟩ := hV.pat.cells
  obtain ⟨s0, s1, s2, s3⟩ := hV.pat.out
  obtain ⟨_, v0, v1, v2, v3, lv, gv⟩ := hV
  have l0 : w.heap.size < w3.heap.size := by omega
  have l1 : w.heap.size + 1 < w3.heap.size := by omega
  have l2 : w.heap.size < w3.heap.size + 1 := by omega
  have l3 : w.heap.size + 1 < w3.heap.size + 1 := by omega
  have l4 : w1.heap.size < w3.heap.size + 1 := by omega
  have n0 : ¬ w1.heap.size = w.heap.size := by omega
  have n1 : ¬ w1.heap.size = w.heap.size + 1 := by omega
  have n2 : ¬ w.heap.size + 1 = w1.heap.size := by omega
  have n3 : ¬ w.heap.size = w1.heap.size := by omega
  have lt : w2.heap.size < w3.heap.size := by omega
  go_wp2_with fail
  have HVZ := HV3
  have HEZ := HE3
  refine bodyPost_ret (v := .tuple #[.agg #[.slice A1 ts.length c1, .int .i64 g, .slice B1 dn.length d1], .bool false, .int .i64 (5)]) (by simp [results, Try.results83, go_sem]; go_simp) rfl (TNo.of (mk := mkDo (5)) HVZ.out HO.out HOD.out HEZ.out _ _ _)

set_option maxHeartbeats 1600000 in
set_option maxRecDepth 100000 in
theorem pdo_done (A B : Option Addr) (c d : Nat) (ts : List Tk) (dn : List Bool) (g : Int) (j : Nat) (w : World) (h : Rd kTask w (.slice A ts.length c) ts) (hd : Rd kBool w (.slice B dn.length d) dn) (hg : in64 g) (hr : wRight ts g dn.length = true) (hj : j < ts.length) (ht : wGreat ts g dn.length j = false) (h3 : (ts.getD j tk0).wt = 0) (hdn : dn.getD (ts.getD j tk0).lo.toNat false = true) :
    Calls Try.prog 83 #[.agg #[.slice A ts.length c, .int .i64 g, .slice B dn.length d], .int .i64 j] w (TNo w ts g dn (mkDo 5)) := by
  have H := Lib.hid h
  have HD := Lib.hid hd
  have hn := hd.len
  have hnb := right_n hr
  have hm := h.len
  have HG := Lib.hid hg
  have HI : Hid (in64 (j : Int)) := Lib.hid (by unfold in64; omega)
  have hl : ts.length ≤ 1048576 := by omega
  have hl2 : dn.length ≤ 1048576 := by omega
  have hgb := hnb.2.2.2.2
  have hs : wHas ts.length (j : Int) = true := by unfold wHas; simp; omega
  have HK := Lib.hid (askErr_ok hr hs)
  have HW : wGreat ts g dn.length j = decide (g < (ts.getD j tk0).hi - (ts.getD j tk0).lo) := by unfold wGreat tkAt; rw [hr, hs, Int.toNat_natCast]; rfl
  obtain ⟨b, off, rfl, hcc⟩ := Rd.tasks H.out (by omega)
  obtain ⟨y0, y1, y2, y3⟩ := hcc j hj
  have e0 : ts.getD j ⟨0, 0, 0, 0⟩ = ts.getD j tk0 := rfl
  rw [e0] at y0 y1 y2 y3
  obtain ⟨o1, o2, o3, o4, o5, o6, o7⟩ := tkOk_iff dn.length j (ts.getD j tk0) |>.1 (right_ok hr j hj)
  obtain ⟨⟨lo, hi, up, wt⟩, htk⟩ : ∃ x, ts.getD j tk0 = x := ⟨_, rfl⟩
  have HTK := Lib.hid htk
  rw [htk] at y0 y1 y2 y3 h3 o1 o2 o3 o4 o5 o6 o7 HW
  simp only at y0 y1 y2 y3 h3 o1 o2 o3 o4 o5 o6 o7 HW
  rw [ht] at HW
  have HGR : Hid (decide (g < hi - lo) = false) := Lib.hid HW.symm
  have HDD : Hid (in64 (hi - lo)) := Lib.hid (by unfold in64; omega)
  have Y0 := Lib.hid y0
  have Y1 := Lib.hid y1
  have Y2 := Lib.hid y2
  have Y3 := Lib.hid y3
  have hj1 : (j : Int) < ts.length := by omega
  have hj0 : (0 : Int) ≤ j := by omega
  have hlb : b < w.heap.size := World.block_lt_of_cell? _ _ y0
  subst h3
  obtain ⟨L, rfl⟩ : ∃ L : Nat, lo = L := ⟨lo.toNat, by omega⟩
  obtain ⟨R, rfl⟩ : ∃ R : Nat, hi = R := ⟨hi.toNat, by omega⟩
  obtain ⟨bb, boff, rfl, hbc⟩ := Rd.bools HD.out (by omega)
  have z9 := hbc L (by omega)
  have hdL : dn.getD L false = true := by rw [HTK.out] at hdn; simpa using hdn
  rw [hdL] at z9
  have Z9 := Lib.hid z9
  have hL1 : (L : Int) < dn.length := by omega
  have hL0 : (0 : Int) ≤ L := by omega
  clear hbc z9 hdn hdL
  clear h hd hg hr ht hs hcc e0 htk y0 y1 y2 y3 HW
  go_enter Try.func83, Try.ntmps83
  go_wp2_with fail
  have hP : PAt w (some ⟨b, off, none⟩) (some ⟨bb, boff, none⟩) c d dn.length ts.length g ((w.alloc (.cells #[.slice (some ⟨b, off, none⟩) ts.length c, .int .i64 g, .slice (some ⟨bb, boff, none⟩) dn.length d] 54)).alloc (.cells #[.slice none 0 0, .int .i64 0, .slice none 0 0] 54)) := Ext.refl _
  refine (copied_any _ _ _ _ _ _ _ _ (H.out.ext hP.ext) (HD.out.ext hP.ext) hl hl2).mono ?_
  rintro e w1 ⟨A1, c1, B1, d1, rfl, hO, hOD, hE⟩
  replace hP := hP.go hE
  have HO : Hid (Ow kTask (w.heap.size + 2) w1 (.slice A1 ts.length c1) ts) := Lib.hid (hO.mono (by simp))
  have HOD : Hid (Ow kBool (w.heap.size + 2) w1 (.slice B1 dn.length d1) dn) := Lib.hid (hOD.mono (by simp))
  have hV : VAt w (some ⟨b, off, none⟩) (some ⟨bb, boff, none⟩) c d dn.length ts.length g w1.heap.size A1 B1 c1 d1 (w1.alloc (.cells #[.slice A1 ts.length c1, .int .i64 g, .slice B1 dn.length d1] 54)) := VAt.start hP
  have HV0 := Lib.hid hV
  have HE1 : Hid (Ext w1 (w1.alloc (.cells #[.slice A1 ts.length c1, .int .i64 g, .slice B1 dn.length d1] 54))) := Lib.hid ((Ext.refl _).alloc _)
  obtain ⟨q0, q1, q2⟩ := hP.cells
  have k0 : w.heap.size < w1.heap.size := by have := hP.two; omega
  have k1 : w.heap.size + 1 < w1.heap.size := by have := hP.two; omega
  clear hO hOD hE hP hV
  go_wp2_with fail
  clear q0 q1 q2
  have hV := HV0.out
  refine (asked_any _ _ _ _ _ _ _ _ _ (H.out.ext hV.pat.ext) hn HG.out HI.out).mono ?_
  rintro e w2 ⟨he, hE⟩
  rw [HK.out] at he
  subst he
  replace hV := hV.go hE
  have HE2 := Lib.hid (HE1.out.trans hE)
  have HV := Lib.hid hV
  clear hE HV0 HE1
  obtain ⟨q0, q1, q2⟩ := hV.pat.cells
  obtain ⟨s0, s1, s2, s3⟩ := hV.pat.out
  obtain ⟨_, v0, v1, v2, v3, lv, gv⟩ := hV
  have l0 : w.heap.size < w2.heap.size := by omega
  have l1 : w.heap.size + 1 < w2.heap.size := by omega
  have l2 : w.heap.size < w2.heap.size + 1 := by omega
  have l3 : w.heap.size + 1 < w2.heap.size + 1 := by omega
  have l4 : w1.heap.size < w2.heap.size + 1 := by omega
  have n0 : ¬ w1.heap.size = w.heap.size := by omega
  have n1 : ¬ w1.heap.size = w.heap.size + 1 := by omega
  have n2 : ¬ w.heap.size + 1 = w1.heap.size := by omega
  have n3 : ¬ w.heap.size = w1.heap.size := by omega
  have z0 := HV.out.pat.ext.cell Y0.out
  have z1 := HV.out.pat.ext.cell Y1.out
  have z2 := HV.out.pat.ext.cell Y2.out
  have z3 := HV.out.pat.ext.cell Y3.out
  have lb0 : b < w2.heap.size := by omega
  have lb1 : b < w2.heap.size + 1 := by omega
  go_wp2_with fail
  have lv9 := lv
  clear q0 q1 q2 s0 s1 s2 s3 v0 v1 v2 v3 lv gv l0 l1 l2 l3 l4 n0 n1 n2 n3 z0 z1 z2 z3 lb0 lb1
  refine (great_any L R up 0 g _ HDD.out HG.out).mono ?_
  rintro e w3 ⟨he, hE⟩
  rw [HGR.out] at he
  subst he
  have t0 : w3.cell? ⟨w2.heap.size, 0, none⟩ = some (.int .i64 L) := hE.cell (by go_simp)
  have t1 : w3.cell? ⟨w2.heap.size, 1, none⟩ = some (.int .i64 R) := hE.cell (by go_simp)
  have t2 : w3.cell? ⟨w2.heap.size, 2, none⟩ = some (.int .i64 up) := hE.cell (by go_simp)
  have t3 : w3.cell? ⟨w2.heap.size, 3, none⟩ = some (.int .i64 0) := hE.cell (by go_simp)
  have hz := hE.size
  simp at hz
  have hE23 := ((Ext.refl w2).alloc _).trans hE
  have hV := HV.out.go hE23
  have HE3 := Lib.hid (HE2.out.trans hE23)
  have HV3 := Lib.hid hV
  clear hE hE23 HV HE2
  obtain ⟨q0, q1, q2⟩ := hV.pat.cells
  obtain ⟨s0, s1, s2, s3⟩ := hV.pat.out
  obtain ⟨_, v0, v1, v2, v3, lv, gv⟩ := hV
  have l0 : w.heap.size < w3.heap.size := by omega
  have l1 : w.heap.size + 1 < w3.heap.size := by omega
  have l2 : w.heap.size < w3.heap.size + 1 := by omega
  have l3 : w.heap.size + 1 < w3.heap.size + 1 := by omega
  have l4 : w1.heap.size < w3.heap.size + 1 := by omega
  have n0 : ¬ w1.heap.size = w.heap.size := by omega
  have n1 : ¬ w1.heap.size = w.heap.size + 1 := by omega
  have n2 : ¬ w.heap.size + 1 = w1.heap.size := by omega
  have n3 : ¬ w.heap.size = w1.heap.size := by omega
  have lt : w2.heap.size < w3.heap.size := by omega
  have z9 := HV3.out.pat.ext.cell Z9.out
  go_wp2_with fail
  have HVZ := HV3
  have HEZ := HE3
  refine bodyPost_ret (v := .tuple #[.agg #[.slice A1 ts.length c1, .int .i64 g, .slice B1 dn.length d1], .bool false, .int .i64 (5)]) (by simp [results, Try.results83, go_sem]; go_simp) rfl (TNo.of (mk := mkDo (5)) HVZ.out HO.out HOD.out HEZ.out _ _ _)

set_option maxHeartbeats 1600000 in
set_option maxRecDepth 100000 in
theorem pdo_ok (A B : Option Addr) (c d : Nat) (ts : List Tk) (dn : List Bool) (g : Int) (j : Nat) (w : World) (h : Rd kTask w (.slice A ts.length c) ts) (hd : Rd kBool w (.slice B dn.length d) dn) (hg : in64 g) (hr : wRight ts g dn.length = true) (hj : j < ts.length) (ht : wGreat ts g dn.length j = false) (h3 : (ts.getD j tk0).wt = 0) (hdn : dn.getD (ts.getD j tk0).lo.toNat false = false) :
    Calls Try.prog 83 #[.agg #[.slice A ts.length c, .int .i64 g, .slice B dn.length d], .int .i64 j] w (DoSaid w ts g dn j) := by
  have HOK := Lib.hid (by have := hr; unfold wRight at this; rw [Bool.and_eq_true] at this; exact this.2 : wOkTo ts dn.length ts.length = true)
  have H := Lib.hid h
  have HD := Lib.hid hd
  have hn := hd.len
  have hnb := right_n hr
  have hm := h.len
  have HG := Lib.hid hg
  have HI : Hid (in64 (j : Int)) := Lib.hid (by unfold in64; omega)
  have hl : ts.length ≤ 1048576 := by omega
  have hl2 : dn.length ≤ 1048576 := by omega
  have hgb := hnb.2.2.2.2
  have hs : wHas ts.length (j : Int) = true := by unfold wHas; simp; omega
  have HK := Lib.hid (askErr_ok hr hs)
  have HW : wGreat ts g dn.length j = decide (g < (ts.getD j tk0).hi - (ts.getD j tk0).lo) := by unfold wGreat tkAt; rw [hr, hs, Int.toNat_natCast]; rfl
  obtain ⟨b, off, rfl, hcc⟩ := Rd.tasks H.out (by omega)
  obtain ⟨y0, y1, y2, y3⟩ := hcc j hj
  have e0 : ts.getD j ⟨0, 0, 0, 0⟩ = ts.getD j tk0 := rfl
  rw [e0] at y0 y1 y2 y3
  obtain ⟨o1, o2, o3, o4, o5, o6, o7⟩ := tkOk_iff dn.length j (ts.getD j tk0) |>.1 (right_ok hr j hj)
  obtain ⟨⟨lo, hi, up, wt⟩, htk⟩ : ∃ x, ts.getD j tk0 = x := ⟨_, rfl⟩
  have HTK := Lib.hid htk
  rw [htk] at y0 y1 y2 y3 h3 o1 o2 o3 o4 o5 o6 o7 HW
  simp only at y0 y1 y2 y3 h3 o1 o2 o3 o4 o5 o6 o7 HW
  rw [ht] at HW
  have HGR : Hid (decide (g < hi - lo) = false) := Lib.hid HW.symm
  have HDD : Hid (in64 (hi - lo)) := Lib.hid (by unfold in64; omega)
  have Y0 := Lib.hid y0
  have Y1 := Lib.hid y1
  have Y2 := Lib.hid y2
  have Y3 := Lib.hid y3
  have hj1 : (j : Int) < ts.length := by omega
  have hj0 : (0 : Int) ≤ j := by omega
  have hlb : b < w.heap.size := World.block_lt_of_cell? _ _ y0
  subst h3
  obtain ⟨L, rfl⟩ : ∃ L : Nat, lo = L := ⟨lo.toNat, by omega⟩
  obtain ⟨R, rfl⟩ : ∃ R : Nat, hi = R := ⟨hi.toNat, by omega⟩
  obtain ⟨bb, boff, rfl, hbc⟩ := Rd.bools HD.out (by omega)
  have z9 := hbc L (by omega)
  have hdL : dn.getD L false = false := by rw [HTK.out] at hdn; simpa using hdn
  rw [hdL] at z9
  have Z9 := Lib.hid z9
  have hL1 : (L : Int) < dn.length := by omega
  have hL0 : (0 : Int) ≤ L := by omega
  clear hbc z9 hdn hdL
  clear h hd hg hr ht hs hcc e0 htk y0 y1 y2 y3 HW
  go_enter Try.func83, Try.ntmps83
  go_wp2_with fail
  have hP : PAt w (some ⟨b, off, none⟩) (some ⟨bb, boff, none⟩) c d dn.length ts.length g ((w.alloc (.cells #[.slice (some ⟨b, off, none⟩) ts.length c, .int .i64 g, .slice (some ⟨bb, boff, none⟩) dn.length d] 54)).alloc (.cells #[.slice none 0 0, .int .i64 0, .slice none 0 0] 54)) := Ext.refl _
  refine (copied_any _ _ _ _ _ _ _ _ (H.out.ext hP.ext) (HD.out.ext hP.ext) hl hl2).mono ?_
  rintro e w1 ⟨A1, c1, B1, d1, rfl, hO, hOD, hE⟩
  replace hP := hP.go hE
  have HO : Hid (Ow kTask (w.heap.size + 2) w1 (.slice A1 ts.length c1) ts) := Lib.hid (hO.mono (by simp))
  have HOD : Hid (Ow kBool (w.heap.size + 2) w1 (.slice B1 dn.length d1) dn) := Lib.hid (hOD.mono (by simp))
  have hV : VAt w (some ⟨b, off, none⟩) (some ⟨bb, boff, none⟩) c d dn.length ts.length g w1.heap.size A1 B1 c1 d1 (w1.alloc (.cells #[.slice A1 ts.length c1, .int .i64 g, .slice B1 dn.length d1] 54)) := VAt.start hP
  have HV0 := Lib.hid hV
  have HE1 : Hid (Ext w1 (w1.alloc (.cells #[.slice A1 ts.length c1, .int .i64 g, .slice B1 dn.length d1] 54))) := Lib.hid ((Ext.refl _).alloc _)
  obtain ⟨q0, q1, q2⟩ := hP.cells
  have k0 : w.heap.size < w1.heap.size := by have := hP.two; omega
  have k1 : w.heap.size + 1 < w1.heap.size := by have := hP.two; omega
  clear hO hOD hE hP hV
  go_wp2_with fail
  clear q0 q1 q2
  have hV := HV0.out
  refine (asked_any _ _ _ _ _ _ _ _ _ (H.out.ext hV.pat.ext) hn HG.out HI.out).mono ?_
  rintro e w2 ⟨he, hE⟩
  rw [HK.out] at he
  subst he
  replace hV := hV.go hE
  have HE2 := Lib.hid (HE1.out.trans hE)
  have HV := Lib.hid hV
  clear hE HV0 HE1
  obtain ⟨q0, q1, q2⟩ := hV.pat.cells
  obtain ⟨s0, s1, s2, s3⟩ := hV.pat.out
  obtain ⟨_, v0, v1, v2, v3, lv, gv⟩ := hV
  have l0 : w.heap.size < w2.heap.size := by omega
  have l1 : w.heap.size + 1 < w2.heap.size := by omega
  have l2 : w.heap.size < w2.heap.size + 1 := by omega
  have l3 : w.heap.size + 1 < w2.heap.size + 1 := by omega
  have l4 : w1.heap.size < w2.heap.size + 1 := by omega
  have n0 : ¬ w1.heap.size = w.heap.size := by omega
  have n1 : ¬ w1.heap.size = w.heap.size + 1 := by omega
  have n2 : ¬ w.heap.size + 1 = w1.heap.size := by omega
  have n3 : ¬ w.heap.size = w1.heap.size := by omega
  have z0 := HV.out.pat.ext.cell Y0.out
  have z1 := HV.out.pat.ext.cell Y1.out
  have z2 := HV.out.pat.ext.cell Y2.out
  have z3 := HV.out.pat.ext.cell Y3.out
  have lb0 : b < w2.heap.size := by omega
  have lb1 : b < w2.heap.size + 1 := by omega
  go_wp2_with fail
  have lv9 := lv
  clear q0 q1 q2 s0 s1 s2 s3 v0 v1 v2 v3 lv gv l0 l1 l2 l3 l4 n0 n1 n2 n3 z0 z1 z2 z3 lb0 lb1
  refine (great_any L R up 0 g _ HDD.out HG.out).mono ?_
  rintro e w3 ⟨he, hE⟩
  rw [HGR.out] at he
  subst he
  have t0 : w3.cell? ⟨w2.heap.size, 0, none⟩ = some (.int .i64 L) := hE.cell (by go_simp)
  have t1 : w3.cell? ⟨w2.heap.size, 1, none⟩ = some (.int .i64 R) := hE.cell (by go_simp)
  have t2 : w3.cell? ⟨w2.heap.size, 2, none⟩ = some (.int .i64 up) := hE.cell (by go_simp)
  have t3 : w3.cell? ⟨w2.heap.size, 3, none⟩ = some (.int .i64 0) := hE.cell (by go_simp)
  have hz := hE.size
  simp at hz
  have hE23 := ((Ext.refl w2).alloc _).trans hE
  have hV := HV.out.go hE23
  have HE3 := Lib.hid (HE2.out.trans hE23)
  have HV3 := Lib.hid hV
  clear hE hE23 HV HE2
  obtain ⟨q0, q1, q2⟩ := hV.pat.cells
  obtain ⟨s0, s1, s2, s3⟩ := hV.pat.out
  obtain ⟨_, v0, v1, v2, v3, lv, gv⟩ := hV
  have l0 : w.heap.size < w3.heap.size := by omega
  have l1 : w.heap.size + 1 < w3.heap.size := by omega
  have l2 : w.heap.size < w3.heap.size + 1 := by omega
  have l3 : w.heap.size + 1 < w3.heap.size + 1 := by omega
  have l4 : w1.heap.size < w3.heap.size + 1 := by omega
  have n0 : ¬ w1.heap.size = w.heap.size := by omega
  have n1 : ¬ w1.heap.size = w.heap.size + 1 := by omega
  have n2 : ¬ w.heap.size + 1 = w1.heap.size := by omega
  have n3 : ¬ w.heap.size = w1.heap.size := by omega
  have lt : w2.heap.size < w3.heap.size := by omega
  have z9 := HV3.out.pat.ext.cell Z9.out
  go_wp2_with fail
  obtain ⟨ga, rfl, ga1, ga2, ga3, ga4⟩ := Ow.pos HO.out (by omega)
  obtain ⟨gb, rfl, gb1, gb2, gb3, gb4⟩ := Ow.pos HOD.out (by omega)
  have hgab : ga ≠ gb := fun h => by have := Ow.far (by decide) HO.out HOD.out ga rfl; rw [h] at this; exact this rfl
  have hD0 : DAt w w3 (w.heap.size + 2) ga gb c1 d1 w3 ts (marked dn L L) := ⟨fun _ _ _ _ _ => rfl, fun _ _ _ _ _ => rfl, HO.out.ext HE3.out, by rw [marked_none]; exact HOD.out.ext HE3.out, HV3.out.pat.ext⟩
  have HD0 := Lib.hid hD0
  have X := Lib.hid (And.intro v0 (And.intro v1 (And.intro v2 (And.intro t1 t2))))
  have S0 := Lib.hid (And.intro s0 (And.intro s1 (And.intro s2 s3)))
  have HN : Hid ((w1.heap.size ≠ ga ∧ w1.heap.size ≠ gb ∧ w2.heap.size ≠ ga ∧ w2.heap.size ≠ gb) ∧ (w.heap.size + 1 ≠ ga ∧ w.heap.size + 1 ≠ gb)) := Lib.hid ⟨⟨by omega, by omega, by omega, by omega⟩, by omega, by omega⟩
  have HSZ : Hid (w1.heap.size < w3.heap.size ∧ w2.heap.size < w3.heap.size ∧ w.heap.size + 2 ≤ w1.heap.size ∧ w.heap.size + 2 ≤ ga ∧ w.heap.size + 2 ≤ gb ∧ w1.heap.size < w2.heap.size) := Lib.hid ⟨lv, lt, gv, ga1, gb1, lv9⟩
  clear hD0 ga3 ga4 gb3 gb4 ga2 gb2 q0 q1 q2 s0 s1 s2 s3 v0 v1 v2 v3 lv gv l0 l1 l2 l3 l4 n0 n1 n2 n3 t0 t1 t2 t3 z9 lt lv9 hz
  go_loopw [10] (fun i wr => ∃ k : Nat, L ≤ k ∧ k ≤ R ∧ i = .int .i64 k ∧ DAt w w3 (w.heap.size + 2) ga gb c1 d1 wr ts (marked dn L k)) (fun i _ => R - (intOf i).toNat)
  case atStart => exact ⟨L, Nat.le_refl _, by omega, rfl, HD0.out⟩
  case round =>
    obtain ⟨k, hk1, hk2, rfl, hA⟩ := hrel
    have m0 := hA.cell X.out.1 HN.out.1.1 HN.out.1.2.1
    have m1 := hA.cell X.out.2.1 HN.out.1.1 HN.out.1.2.1
    have m2 := hA.cell X.out.2.2.1 HN.out.1.1 HN.out.1.2.1
    have m3 := hA.cell X.out.2.2.2.1 HN.out.1.2.2.1 HN.out.1.2.2.2
    have m4 := hA.cell X.out.2.2.2.2 HN.out.1.2.2.1 HN.out.1.2.2.2
    have HA := Lib.hid hA
    by_cases hlt : k < R
    · have hlt1 : (k : Int) < R := by omega
      have hkl : (k : Int) < dn.length := by omega
      have hk0 : (0 : Int) ≤ k := by omega
      have hml : (marked dn L k).length = dn.length := marked_len dn L k hk1 (by omega)
      obtain ⟨n0, n1⟩ := hA.unit (k := k) (by omega)
      have hN := hA.mark (k := k) (by omega) (by omega) hgab
      rw [← marked_succ dn L k hk1 (by omega)] at hN
      have HNN := Lib.hid hN
      clear hA hN hml
      go_wp2_with fail
      go_roundw
      case rel => exact ⟨k + 1, by omega, by omega, by go_num, HNN.out⟩
      case measure => simp [intOf]; omega
    · have hkr : k = R := by omega
      have hlt1 : ¬ (k : Int) < R := by omega
      subst hkr
      have hml : (marked dn L k).length = dn.length := marked_len dn L k hk1 (by omega)
      have hlo : (ts.getD j tk0).lo = L := by rw [HTK.out]
      have hhi : (ts.getD j tk0).hi = k := by rw [HTK.out]
      have hupj : (ts.getD j tk0).up = up := by rw [HTK.out]
      have HM := Lib.hid (And.intro hml (And.intro hlo (And.intro hhi hupj)))
      have sz1 : w1.heap.size < wr.heap.size := World.block_lt_of_cell? _ _ m0
      have sz2 : w2.heap.size < wr.heap.size := World.block_lt_of_cell? _ _ m3
      have sz3 : w.heap.size + 1 < wr.heap.size := by have := HSZ.out; omega
      have N1 := HN.out
      have u0 := hA.cell S0.out.1 HN.out.2.1 HN.out.2.2
      have u1 := hA.cell S0.out.2.1 HN.out.2.1 HN.out.2.2
      have u2 := hA.cell S0.out.2.2.1 HN.out.2.1 HN.out.2.2
      have u3 : ∀ o, wr.frozen? ⟨w.heap.size + 1, o, none⟩ = false := fun o => (hA.fro (w.heap.size + 1) o (by have := HSZ.out; omega) HN.out.2.1 HN.out.2.2).trans (S0.out.2.2.2 o)
      have f1 : ¬ w1.heap.size = w.heap.size + 1 := by have := HSZ.out; omega
      have f2 : ¬ w2.heap.size = w.heap.size + 1 := by have := HSZ.out; omega
      have f3 : ¬ w.heap.size + 1 = w1.heap.size := by have := HSZ.out; omega
      have f4 : ¬ w.heap.size + 1 = w2.heap.size := by have := HSZ.out; omega
      have hup2 : up < ts.length := by omega
      have hts : ts.length ≤ 2000 := by omega
      clear hA hml hlo hhi hupj
      go_wp2_with fail
      go_region_held3 (fun w' => w'.cell? ⟨w1.heap.size, 0, none⟩ = some (.slice (some ⟨ga, 0, none⟩) ts.length c1) ∧ w'.cell? ⟨w1.heap.size, 1, none⟩ = some (.int .i64 g) ∧ w'.cell? ⟨w1.heap.size, 2, none⟩ = some (.slice (some ⟨gb, 0, none⟩) dn.length d1) ∧ w'.cell? ⟨w2.heap.size, 2, none⟩ = some (.int .i64 up))
        (first | go_keep | (with_reducible exact ⟨c11, c12, c13, c14⟩))
        (first
          | (go_at_call 89
             refine (finish_any (w.heap.size + 2) ga c1 dn.length ts up _ (HA.out.own.ext (Ext.refl _).drew) HOK.out o4 hup2 hts).mono ?_
             rintro e w5 ⟨rfl, hF⟩
             have c11 : w5.cell? ⟨w1.heap.size, 0, none⟩ = some (.slice (some ⟨ga, 0, none⟩) ts.length c1) := ((grown_far hF.grow (b := w1.heap.size) (by first | exact sz1 | (simp; exact sz1)) (by simp; exact N1.1.1)).1 0).trans (by go_simp)
             have c12 : w5.cell? ⟨w1.heap.size, 1, none⟩ = some (.int .i64 g) := ((grown_far hF.grow (b := w1.heap.size) (by first | exact sz1 | (simp; exact sz1)) (by simp; exact N1.1.1)).1 1).trans (by go_simp)
             have c13 : w5.cell? ⟨w1.heap.size, 2, none⟩ = some (.slice (some ⟨gb, 0, none⟩) dn.length d1) := ((grown_far hF.grow (b := w1.heap.size) (by first | exact sz1 | (simp; exact sz1)) (by simp; exact N1.1.1)).1 2).trans (by go_simp)
             have c14 : w5.cell? ⟨w2.heap.size, 2, none⟩ = some (.int .i64 up) := ((grown_far hF.grow (b := w2.heap.size) (by first | exact sz2 | (simp; exact sz2)) (by simp; exact N1.1.2.2.1)).1 2).trans (by go_simp)
             obtain ⟨G1, G2⟩ := grown_far hF.grow (b := w.heap.size + 1) (by first | exact sz3 | (simp; exact sz3)) (by simp; exact N1.2.1)
             have r0 : w5.cell? ⟨w.heap.size + 1, 0, none⟩ = some (.slice none 0 0) := (G1 0).trans (by go_simp)
             have r1 : w5.cell? ⟨w.heap.size + 1, 1, none⟩ = some (.int .i64 0) := (G1 1).trans (by go_simp)
             have r2 : w5.cell? ⟨w.heap.size + 1, 2, none⟩ = some (.slice none 0 0) := (G1 2).trans (by go_simp)
             have r3 : ∀ o, w5.frozen? ⟨w.heap.size + 1, o, none⟩ = false := fun o => (G2 o).trans (by have := u3 o; go_simp)))
      go_wp2_with fail
      have hcl : (climb (ts.length + 1) ts up).1.length = ts.length := climb_len _ _ _
      have ho := hF.own
      rw [hcl] at ho
      have hd5 := (HA.out.dns.ext (Ext.refl _).drew).kept hF.grow (.inr (by simp [Value.ownBlock]; omega))
      rw [HM.out.1] at hd5
      have hx5 : Ext w w5 := HA.out.ext.drew.grown hF.grow (by intro k hk; cases hk; have := HSZ.out; omega)
      refine bodyPost_ret (v := .tuple #[.agg #[.slice (some ⟨ga, 0, none⟩) ts.length c1, .int .i64 g, .slice (some ⟨gb, 0, none⟩) dn.length d1], .bool (climb (ts.length + 1) ts up).2, .int .i64 0]) (by simp [results, Try.results83, go_sem]; go_simp) rfl ⟨_, _, _, _, by rw [HM.out.2.2.2], ?_, ?_, ho.from.mono (by omega), hd5.from.mono (by omega), ?_⟩
      · rw [HM.out.2.2.2]
        exact (((ho.setBelow (p := ⟨w.heap.size + 1, 0, none⟩) (by show w.heap.size + 1 < _; omega) _).setBelow (p := ⟨w.heap.size + 1, 1, none⟩) (by show w.heap.size + 1 < _; omega) _).setBelow (p := ⟨w.heap.size + 1, 2, none⟩) (by show w.heap.size + 1 < _; omega) _).rd
      · rw [HM.out.2.1, HM.out.2.2.1, Int.toNat_natCast, Int.toNat_natCast]
        exact (((hd5.setBelow (p := ⟨w.heap.size + 1, 0, none⟩) (by show w.heap.size + 1 < _; omega) _).setBelow (p := ⟨w.heap.size + 1, 1, none⟩) (by show w.heap.size + 1 < _; omega) _).setBelow (p := ⟨w.heap.size + 1, 2, none⟩) (by show w.heap.size + 1 < _; omega) _).rd
      · exact ((hx5.setCell (p := ⟨w.heap.size + 1, 0, none⟩) (by show _ ≤ w.heap.size + 1; omega) _).setCell (p := ⟨w.heap.size + 1, 1, none⟩) (by show _ ≤ w.heap.size + 1; omega) _).setCell (p := ⟨w.heap.size + 1, 2, none⟩) (by show _ ≤ w.heap.size + 1; omega) _

theorem pdo_any (A B : Option Addr) (c d : Nat) (ts : List Tk) (dn : List Bool) (g i : Int) (w : World) (h : Rd kTask w (.slice A ts.length c) ts) (hd : Rd kBool w (.slice B dn.length d) dn) (hg : in64 g) (hi : in64 i) (hl : ts.length ≤ 1048576) (hl2 : dn.length ≤ 1048576) :
    Calls Try.prog 83 #[.agg #[.slice A ts.length c, .int .i64 g, .slice B dn.length d], .int .i64 i] w fun e w' =>
      (doErr ts g dn i ≠ 0 ∧ TNo w ts g dn (mkDo (doErr ts g dn i)) e w') ∨ (doErr ts g dn i = 0 ∧ DoSaid w ts g dn i.toNat e w') := by
  by_cases ha : askErr ts g dn.length i = 0
  · obtain ⟨hr, hs⟩ := askErr_zero ha
    have hsi : 0 ≤ i ∧ i < (ts.length : Int) := by unfold wHas at hs; simpa using hs
    obtain ⟨j, rfl⟩ : ∃ j : Nat, i = j := ⟨i.toNat, by omega⟩
    have hj : j < ts.length := by omega
    have e0 : tkAt ts (j : Int) = ts.getD j tk0 := by unfold tkAt; rw [Int.toNat_natCast]
    cases ht : wGreat ts g dn.length j with
    | true =>
      have he : doErr ts g dn (j : Int) = 5 := by unfold doErr; rw [if_neg (by rw [hr]; decide), if_neg (by rw [hs]; decide), if_pos ht]
      rw [he]
      exact (pdo_great A B c d ts dn g j w h hd hg hr hj ht).mono fun e w' hh => .inl ⟨by decide, hh⟩
    | false =>
      by_cases hw : (ts.getD j tk0).wt = 0
      · cases hf : dn.getD (ts.getD j tk0).lo.toNat false with
        | true =>
          have he : doErr ts g dn (j : Int) = 5 := by unfold doErr; rw [if_neg (by rw [hr]; decide), if_neg (by rw [hs]; decide), if_neg (by rw [ht]; decide), e0, if_neg (by simpa using hw), if_pos hf]
          rw [he]
          exact (pdo_done A B c d ts dn g j w h hd hg hr hj ht hw hf).mono fun e w' hh => .inl ⟨by decide, hh⟩
        | false =>
          have he : doErr ts g dn (j : Int) = 0 := by unfold doErr; rw [if_neg (by rw [hr]; decide), if_neg (by rw [hs]; decide), if_neg (by rw [ht]; decide), e0, if_neg (by simpa using hw), if_neg (by rw [hf]; decide)]
          rw [he]
          exact (pdo_ok A B c d ts dn g j w h hd hg hr hj ht hw hf).mono fun e w' hh => .inr ⟨rfl, by rw [Int.toNat_natCast]; exact hh⟩
      · skip
        have he : doErr ts g dn (j : Int) = 5 := by unfold doErr; rw [if_neg (by rw [hr]; decide), if_neg (by rw [hs]; decide), if_neg (by rw [ht]; decide), e0, if_pos hw]
        rw [he]
        exact (pdo_wait A B c d ts dn g j w h hd hg hr hj ht hw).mono fun e w' hh => .inl ⟨by decide, hh⟩
  · have he : doErr ts g dn i = askErr ts g dn.length i := by
      unfold doErr
      unfold askErr at ha ⊢
      cases hr : wRight ts g dn.length with
      | false => rfl
      | true =>
        cases hs : wHas ts.length i with
        | false => rfl
        | true => rw [hr, hs] at ha; exact absurd rfl ha
    rw [he]
    exact (pdo_no A B c d ts dn g i w h hd hg hi hl hl2 ha).mono fun e w' hh => .inl ⟨ha, hh⟩
end Go.Proofs.Ytjabahfkgaamdaa

/- The document's Begin of work. -/
namespace Go.Proofs.Ytjabahfkgaamdaa
open Go.RowKit Go.Proofs.Ytjabahfkgaamdaa.Plain

/-- what Begin leaves -/
def BeginSaid (w : World) (n g : Int) (e : Ending) (w' : World) : Prop :=
  (cOk n g = false ∧ e = .returned (.tuple #[.agg #[.slice none 0 0, .int .i64 0, .slice none 0 0], .int .i64 1]) ∧ Ext w w') ∨
  (cOk n g = true ∧ ∃ A c B d, e = .returned (.tuple #[.agg #[.slice A 1 c, .int .i64 g, .slice B n.toNat d], .int .i64 0]) ∧
    Rd kTask w' (.slice A 1 c) [⟨0, n, -1, 0⟩] ∧ Rd kBool w' (.slice B n.toNat d) (List.replicate n.toNat false) ∧ Ext w w')

set_option maxHeartbeats 800000 in
set_option maxRecDepth 100000 in
theorem rbegin_any (n g : Int) (w : World) (hn : in64 n) (hg : in64 g) :
    Calls Try.prog 40 #[.int .i64 n, .int .i64 g] w (BeginSaid w n g) := by
  unfold in64 at hn hg
  cases hc : cOk n g with
  | false =>
    have HC := Lib.hid hc
    have h : n < 1 ∨ 1000 < n ∨ g < 1 ∨ 100 < g := by
      have : ¬ (1 ≤ n ∧ n ≤ 1000 ∧ 1 ≤ g ∧ g ≤ 100) := fun hh => by
        have : cOk n g = true := by unfold cOk; simp; omega
        rw [this] at hc; cases hc
      omega
    clear hc
    go_enter Try.func40, Try.ntmps40
    go_wp2
    all_goals first
      | (exfalso; omega)
      | (refine bodyPost_ret (v := .tuple #[.agg #[.slice none 0 0, .int .i64 0, .slice none 0 0], .int .i64 1]) (by simp [results, Try.results40, go_sem]) rfl (.inl ⟨HC.out, rfl, ?_⟩); exact (Ext.refl w).alloc _)
  | true =>
    have HC := Lib.hid hc
    obtain ⟨a1, a2, a3, a4⟩ : 1 ≤ n ∧ n ≤ 1000 ∧ 1 ≤ g ∧ g ≤ 100 := by unfold cOk at hc; simp only [Bool.and_eq_true, decide_eq_true_eq] at hc; omega
    obtain ⟨N, rfl⟩ : ∃ N : Nat, n = N := ⟨n.toNat, by omega⟩
    clear hc
    obtain ⟨C, hmk, hown⟩ := kBool.make false rfl trivial N (by omega)
    have hmk' : ∀ w : World, (Instr.makeSlice 52 (.int .i64 N) (.int .i64 N)).run Try.prog w = .ok (.slice (some ⟨w.heap.size, 0, none⟩) N N) (w.alloc (.cells C 4)) := hmk
    have HO := Lib.hid hown
    clear hmk hown
    go_enter Try.func40, Try.ntmps40
    go_wp2
    refine bodyPost_ret (v := .tuple #[.agg #[.slice (some ⟨w.heap.size + 1, 0, none⟩) 1 1, .int .i64 g, .slice (some ⟨w.heap.size + 1 + 1, 0, none⟩) N N], .int .i64 0]) (by simp [results, Try.results40, go_sem]) rfl (.inr ⟨HC.out, _, 1, _, N, rfl, ?_, ?_, ?_⟩)
    · exact (Ow.lit (K := kTask) (B := 0) (p := w.heap.size + 1) _ [⟨0, N, -1, 0⟩] #[.int .i64 0, .int .i64 N, .int .i64 (-1), .int .i64 0] rfl rfl (by simp) (Nat.zero_le _) (by simp [maxLen]) (by intro x hx; simp only [List.mem_singleton] at hx; subst hx; exact tk_ok (by unfold in64; omega) (by unfold in64; omega) (by unfold in64; omega) (by unfold in64; omega))).rd.ext ((Ext.refl _).alloc _)
    · exact (HO.out _ 0 (w.heap.size + 1 + 1) (by simp) (Nat.zero_le _)).rd
    · exact (((Ext.refl w).alloc _).alloc _).alloc _
end Go.Proofs.Ytjabahfkgaamdaa

/- The program's Begin of work. -/
namespace Go.Proofs.Ytjabahfkgaamdaa
open Go.BigFrame
open Go.RowKit Go.Proofs.Ytjabahfkgaamdaa.Plain

set_option maxHeartbeats 1600000 in
set_option maxRecDepth 100000 in
theorem pbegin_any (n g : Int) (w : World) (hn : in64 n) (hg : in64 g) :
    Calls Try.prog 42 #[.int .i64 n, .int .i64 g] w (BeginSaid w n g) := by
  have HN := Lib.hid hn
  have HG := Lib.hid hg
  cases hc : cOk n g with
  | false =>
    have HC := Lib.hid hc
    clear hc hn hg
    go_enter Try.func42, Try.ntmps42
    go_wp2_with fail
    refine (sized_any _ _ _ HN.out HG.out).mono ?_
    rintro e w1 ⟨he, rfl⟩
    rw [HC.out] at he
    subst he
    go_wp2_with fail
    refine bodyPost_ret (v := .tuple #[.agg #[.slice none 0 0, .int .i64 0, .slice none 0 0], .int .i64 1]) (by simp [results, Try.results42, go_sem]) rfl (.inl ⟨HC.out, rfl, ?_⟩)
    first
    | exact (Ext.refl w).alloc _
    | exact ((((Ext.refl w).alloc _).setCell (by simp) _).setCell (by simp) _).setCell (by simp) _
  | true =>
    have HC := Lib.hid hc
    obtain ⟨a1, a2, a3, a4⟩ : 1 ≤ n ∧ n ≤ 1000 ∧ 1 ≤ g ∧ g ≤ 100 := by unfold cOk at hc; simp only [Bool.and_eq_true, decide_eq_true_eq] at hc; omega
    obtain ⟨N, rfl⟩ : ∃ N : Nat, n = N := ⟨n.toNat, by omega⟩
    clear hc hn hg
    obtain ⟨C, hmk, hown⟩ := kBool.make false rfl trivial N (by omega)
    have hmk' : ∀ w : World, (Instr.makeSlice 52 (.int .i64 N) (.int .i64 N)).run Try.prog w = .ok (.slice (some ⟨w.heap.size, 0, none⟩) N N) (w.alloc (.cells C 4)) := hmk
    have HO := Lib.hid hown
    clear hmk hown
    go_enter Try.func42, Try.ntmps42
    go_wp2_with fail
    refine (sized_any _ _ _ HN.out HG.out).mono ?_
    rintro e w1 ⟨he, rfl⟩
    rw [HC.out] at he
    subst he
    go_wp2_with fail
    go_region
    all_goals (try go_wp2)
    · refine bodyPost_ret (v := .tuple #[.agg #[.slice (some ⟨w.heap.size + 1 + 1, 0, none⟩) 1 1, .int .i64 g, .slice (some ⟨w.heap.size + 1 + 1 + 1, 0, none⟩) N N], .int .i64 0]) (by simp [results, Try.results42, go_sem]) rfl (.inr ⟨HC.out, _, 1, _, N, rfl, ?_, ?_, ?_⟩)
      · exact (Ow.lit (K := kTask) (B := 0) (p := w.heap.size + 1 + 1) _ [⟨0, N, -1, 0⟩] #[.int .i64 0, .int .i64 N, .int .i64 (-1), .int .i64 0] rfl rfl (by simp) (Nat.zero_le _) (by simp [maxLen]) (by intro x hx; simp only [List.mem_singleton] at hx; subst hx; exact tk_ok (by unfold in64; omega) (by unfold in64; omega) (by unfold in64; omega) (by unfold in64; omega))).rd.ext ((Ext.refl _).alloc _).drew
      · exact (HO.out _ 0 (w.heap.size + 1 + 1 + 1) (by simp) (Nat.zero_le _)).rd.ext (Ext.refl _).drew
      · exact (((((Ext.refl w).alloc _).alloc _).alloc _).alloc _).drew
    · refine bodyPost_ret (v := .tuple #[.agg #[.slice (some ⟨w.heap.size + 1 + 1 + 1, 0, none⟩) 1 1, .int .i64 g, .slice (some ⟨w.heap.size + 1 + 1, 0, none⟩) N N], .int .i64 0]) (by simp [results, Try.results42, go_sem]) rfl (.inr ⟨HC.out, _, 1, _, N, rfl, ?_, ?_, ?_⟩)
      · exact (Ow.lit (K := kTask) (B := 0) (p := w.heap.size + 1 + 1 + 1) _ [⟨0, N, -1, 0⟩] #[.int .i64 0, .int .i64 N, .int .i64 (-1), .int .i64 0] rfl rfl (by simp) (Nat.zero_le _) (by simp [maxLen]) (by intro x hx; simp only [List.mem_singleton] at hx; subst hx; exact tk_ok (by unfold in64; omega) (by unfold in64; omega) (by unfold in64; omega) (by unfold in64; omega))).rd.ext (Ext.refl _).drew
      · exact (HO.out _ 0 (w.heap.size + 1 + 1) (by simp) (Nat.zero_le _)).rd.ext ((Ext.refl _).alloc _).drew
      · exact (((((Ext.refl w).alloc _).alloc _).alloc _).alloc _).drew
end Go.Proofs.Ytjabahfkgaamdaa

/- The fixed fact of the work's statements: calls with answers named. Written by wip/mk_talive.py. -/
namespace Go.Proofs.Ytjabahfkgaamdaa
open Go.BigFrame
open Go.RowKit Go.Proofs.Ytjabahfkgaamdaa.Plain

theorem Rd.set3 {α : Type} {K : Kd α} {w : World} {A : Option Addr} {n c V : Nat} {xs : List α} (h : Rd K w (.slice A n c) xs) (hA : From (V + 1) A) (x y z : Value) :
    Rd K (((w.setCell ⟨V, 0, none⟩ x).setCell ⟨V, 1, none⟩ y).setCell ⟨V, 2, none⟩ z) (.slice A n c) xs :=
  ((h.setFar (p := ⟨V, 0, none⟩) (fun a ha => by have := hA a ha; show a.block ≠ V; omega) _).setFar (p := ⟨V, 1, none⟩) (fun a ha => by have := hA a ha; show a.block ≠ V; omega) _).setFar (p := ⟨V, 2, none⟩) (fun a ha => by have := hA a ha; show a.block ≠ V; omega) _
theorem Ext.set3 {w W : World} (h : Ext w W) {V : Nat} (hV : w.heap.size ≤ V) (x y z : Value) : Ext w (((W.setCell ⟨V, 0, none⟩ x).setCell ⟨V, 1, none⟩ y).setCell ⟨V, 2, none⟩ z) :=
  ((h.setCell (p := ⟨V, 0, none⟩) hV _).setCell (p := ⟨V, 1, none⟩) hV _).setCell (p := ⟨V, 2, none⟩) hV _

theorem Rd.lt {α : Type} {K : Kd α} {w : World} {A : Option Addr} {n c : Nat} {xs : List α} (h : Rd K w (.slice A n c) xs) (hl : 0 < xs.length) : ∀ a, A = some a → a.block < w.heap.size := by
  obtain ⟨b, off, rfl, hcc⟩ := h.cells hl
  intro a ha
  cases ha
  have hn : 0 < (K.cells (xs.getD 0 K.d)).length := by rw [K.len]; exact K.pos
  have h9 := hcc 0 hl 0 _ (List.getElem?_eq_getElem hn)
  have h8 := World.block_lt_of_cell? _ _ h9
  exact h8

theorem begin_to (n g : Int) (N : Nat) (w : World) (hn : in64 n) (hg : in64 g) (hc : cOk n g = true) (hN : n.toNat = N) :
    Calls Try.prog 42 #[.int .i64 n, .int .i64 g] w fun e w' => ∃ A c B d, e = .returned (.tuple #[.agg #[.slice A 1 c, .int .i64 g, .slice B N d], .int .i64 0]) ∧
      Rd kTask w' (.slice A 1 c) [⟨0, n, -1, 0⟩] ∧ Rd kBool w' (.slice B N d) (List.replicate N false) ∧ Ext w w' :=
  (pbegin_any n g w hn hg).mono fun e w' h => by
    subst hN
    rcases h with ⟨h, _⟩ | ⟨_, h⟩
    · rw [hc] at h; cases h
    · exact h

theorem part_to (A B : Option Addr) (c d m k m' : Nat) (ts ts' : List Tk) (dn : List Bool) (g i a b : Int) (w : World) (h : Rd kTask w (.slice A m c) ts) (hd : Rd kBool w (.slice B k d) dn) (hm : ts.length = m) (hk : dn.length = k) (hg : in64 g) (hi : in64 i) (hl : m ≤ 1048576) (hl2 : k ≤ 1048576)
    (he : partErr ts g k i = 0) (ht : partedTs ts i.toNat = ts') (hm' : ts'.length = m') (ha : (ts.length : Int) = a) (hb : (ts.length : Int) + 1 = b) :
    Calls Try.prog 82 #[.agg #[.slice A m c, .int .i64 g, .slice B k d], .int .i64 i] w fun e w' => ∃ A c B d, e = .returned (.tuple #[.agg #[.slice A m' c, .int .i64 g, .slice B k d], .int .i64 a, .int .i64 b, .int .i64 0]) ∧
      Rd kTask w' (.slice A m' c) ts' ∧ Rd kBool w' (.slice B k d) dn ∧ From w.heap.size A ∧ From w.heap.size B ∧ Ext w w' := by
  subst hm hk ht hm' ha hb
  exact (ppart_any A B c d ts dn g i w h hd hg hi hl hl2).mono fun e w' hh => by
    rcases hh with ⟨hh, _⟩ | ⟨_, hh⟩
    · exact absurd he hh
    · exact hh

theorem do_to (A B : Option Addr) (c d m k : Nat) (ts ts' : List Tk) (dn dn' : List Bool) (g i : Int) (q : Bool) (w : World) (h : Rd kTask w (.slice A m c) ts) (hd : Rd kBool w (.slice B k d) dn) (hm : ts.length = m) (hk : dn.length = k) (hg : in64 g) (hi : in64 i) (hl : m ≤ 1048576) (hl2 : k ≤ 1048576)
    (he : doErr ts g dn i = 0) (hc : climb (ts.length + 1) ts (ts.getD i.toNat tk0).up = (ts', q)) (hq : marked dn (ts.getD i.toNat tk0).lo.toNat (ts.getD i.toNat tk0).hi.toNat = dn') :
    Calls Try.prog 83 #[.agg #[.slice A m c, .int .i64 g, .slice B k d], .int .i64 i] w fun e w' => ∃ A c B d, e = .returned (.tuple #[.agg #[.slice A m c, .int .i64 g, .slice B k d], .bool q, .int .i64 0]) ∧
      Rd kTask w' (.slice A m c) ts' ∧ Rd kBool w' (.slice B k d) dn' ∧ From w.heap.size A ∧ From w.heap.size B ∧ Ext w w' := by
  subst hm hk hq
  exact (pdo_any A B c d ts dn g i w h hd hg hi hl hl2).mono fun e w' hh => by
    rcases hh with ⟨hh, _⟩ | ⟨_, hh⟩
    · exact absurd he hh
    · unfold DoSaid at hh; rw [hc] at hh; exact hh

theorem do_no (A B : Option Addr) (c d m k : Nat) (ts : List Tk) (dn : List Bool) (g i r : Int) (w : World) (h : Rd kTask w (.slice A m c) ts) (hd : Rd kBool w (.slice B k d) dn) (hm : ts.length = m) (hk : dn.length = k) (hg : in64 g) (hi : in64 i) (hl : m ≤ 1048576) (hl2 : k ≤ 1048576)
    (he : doErr ts g dn i = r) (hr : r ≠ 0) :
    Calls Try.prog 83 #[.agg #[.slice A m c, .int .i64 g, .slice B k d], .int .i64 i] w fun e w' => ∃ A c B d, e = .returned (.tuple #[.agg #[.slice A m c, .int .i64 g, .slice B k d], .bool false, .int .i64 r]) ∧ Ext w w' := by
  subst hm hk
  exact (pdo_any A B c d ts dn g i w h hd hg hi hl hl2).mono fun e w' hh => by
    rcases hh with ⟨_, hh⟩ | ⟨hh, _⟩
    · obtain ⟨A, c, B, d, h1, _, _, h2⟩ := hh
      rw [he] at h1
      exact ⟨A, c, B, d, h1, h2⟩
    · rw [he] at hh; exact absurd hh hr
theorem right_to (A B : Option Addr) (c d m k : Nat) (ts : List Tk) (g : Int) (q : Bool) (w : World) (h : Rd kTask w (.slice A m c) ts) (hm : ts.length = m) (hk : k ≤ 9223372036854775807) (hg : in64 g) (he : wRight ts g k = q) :
    Calls Try.prog 71 #[.agg #[.slice A m c, .int .i64 g, .slice B k d]] w fun e w' => e = .returned (.bool q) ∧ Ext w w' := by
  subst hm he
  exact right_any A B c d k ts g w h hk hg
end Go.Proofs.Ytjabahfkgaamdaa

/- What the walk of TaskOnce shares. Written by wip/mk_tonce.py. -/
namespace Go.Proofs.Ytjabahfkgaamdaa
open Go.BigFrame
open Go.RowKit Go.Proofs.Ytjabahfkgaamdaa.Plain

/-- numbers of tasks, as they lie -/
def zs (O : List Nat) : List Int := O.map fun k : Nat => (k : Int)
theorem zs_len (O : List Nat) : (zs O).length = O.length := by unfold zs; simp
theorem zs_getD (O : List Nat) (j : Nat) : (zs O).getD j 0 = ((O.getD j 0 : Nat) : Int) := by
  unfold zs
  rw [List.getD_eq_getElem?_getD, List.getD_eq_getElem?_getD, List.getElem?_map]
  cases O[j]? <;> rfl
/-- the q-th one is gone -/
def less (O : List Nat) (q : Nat) : List Nat := O.take q ++ O.drop (q + 1)
theorem less_perm (O : List Nat) (q : Nat) (hq : q < O.length) : O.Perm (O.getD q 0 :: less O q) := by
  have e : O = O.take q ++ O.getD q 0 :: O.drop (q + 1) := by
    rw [List.getD_eq_getElem?_getD, List.getElem?_eq_getElem hq]
    exact (List.take_append_drop q O).symm.trans (by rw [List.drop_eq_getElem_cons hq]; rfl)
  have h := List.perm_middle (a := O.getD q 0) (l₁ := O.take q) (l₂ := O.drop (q + 1))
  rw [← e] at h
  exact h
theorem less_len (O : List Nat) (q : Nat) (hq : q < O.length) : (less O q).length + 1 = O.length := by unfold less; simp; omega
theorem zs_less (O : List Nat) (q : Nat) : zs (less O q) = (zs O).take q ++ (zs O).drop (q + 1) := by unfold zs less; simp [List.map_take, List.map_drop]
theorem in64_nat (k : Nat) (h : k ≤ 9223372036854775807) : in64 (k : Int) := by unfold in64; omega

/-- behind the task's leaving -/
def DropCut (w : World) (O : List Nat) (q m : Nat) (s : Value) (wx : World) : Prop := ∃ A c, s = .slice A m c ∧ Ow kInt w.heap.size wx (.slice A m c) (zs (less O q)) ∧ Ext w wx

/-- what stands, round by round -/
structure OnceAt (w0 : World) (V n g K : Nat) (ts : List Tk) (dn : List Bool) (O : List Nat) (units : Nat) (A B Ao : Option Addr) (c d co : Nat) (wr : World) : Prop where
  inv : OI g n ts dn O units
  v0 : wr.cell? ⟨V, 0, none⟩ = some (.slice A ts.length c)
  v1 : wr.cell? ⟨V, 1, none⟩ = some (.int .i64 g)
  v2 : wr.cell? ⟨V, 2, none⟩ = some (.slice B n d)
  vf : ∀ o, wr.frozen? ⟨V, o, none⟩ = false
  tsk : Rd kTask wr (.slice A ts.length c) ts
  dns : Rd kBool wr (.slice B n d) dn
  opn : Ow kInt (V + 1) wr (.slice Ao O.length co) (zs O)
  ext : Ext w0 wr
  cnt : K + O.length = ts.length

theorem doErr_zero {ts : List Tk} {g : Int} {dn : List Bool} {j : Nat} (hr : wRight ts g dn.length = true) (hj : j < ts.length) (ht : wGreat ts g dn.length j = false) (hw : (ts.getD j tk0).wt = 0) (hd : dn.getD (ts.getD j tk0).lo.toNat false = false) : doErr ts g dn j = 0 := by
  have hs : wHas ts.length (j : Int) = true := by unfold wHas; simp; omega
  have e0 : tkAt ts (j : Int) = ts.getD j tk0 := by unfold tkAt; rw [Int.toNat_natCast]
  unfold doErr
  rw [if_neg (by rw [hr]; decide), if_neg (by rw [hs]; decide), if_neg (by rw [ht]; decide), e0, if_neg (by simpa using hw), if_neg (by rw [hd]; decide)]
theorem partErr_ok {ts : List Tk} {g : Int} {n j : Nat} (hr : wRight ts g n = true) (hj : j < ts.length) (ht : wGreat ts g n j = true) (hw : (ts.getD j tk0).wt = 0) (hl : ts.length ≤ 1998) : partErr ts g n j = 0 := by
  have hs : wHas ts.length (j : Int) = true := by unfold wHas; simp; omega
  have e0 : tkAt ts (j : Int) = ts.getD j tk0 := by unfold tkAt; rw [Int.toNat_natCast]
  unfold partErr
  rw [if_neg (by rw [hr]; decide), if_neg (by rw [hs]; decide), if_neg (by rw [ht]; decide), e0, if_neg (by simpa using hw), if_neg (by omega)]

end Go.Proofs.Ytjabahfkgaamdaa

/- A crew, as it lies; one that goes steps, as it lies. -/
namespace Go.Proofs.Ytjabahfkgaamdaa
open Go.RowKit Go.Proofs.Ytjabahfkgaamdaa.Plain

/-- a list's head, as it lies in a list of lists -/
structure Hd where
  A : Option Addr
  n : Nat
  c : Nat
def hd0 : Hd := ⟨none, 0, 0⟩
abbrev Hd.v (h : Hd) : Value := .slice h.A h.n h.c
def kRow : Kd Hd where
  t := 55
  e := 32
  n := 1
  cells := fun h => [.slice h.A h.n h.c]
  ok := fun _ => True
  d := hd0
  z := .slice none 0 0
  bytes := 24
  ht := Try.underlying55
  info := by kernel_rfl
  hzs := rfl
  pos := by decide
  small := by decide
  len := fun _ => rfl
  one := fun a u hu => by simp at hu; subst hu; rfl
/-- deques, in a list at ⟨b, off⟩, that read so whatever becomes of the blocks of S -/
def Hds (S : Nat → Prop) (w : World) (b off m : Nat) (hs : Nat → Hd) (D : List (List Nat)) : Prop :=
  D.length = m ∧ ∀ j, j < m → w.cell? ⟨b, off + j, none⟩ = some (hs j).v ∧ (hs j).n = (D.getD j []).length ∧ RdO kInt S w (hs j).v (zs (D.getD j []))
theorem Hds.grew {S : Nat → Prop} {w W : World} {b off m : Nat} {hs : Nat → Hd} {D : List (List Nat)} (h : Hds S w b off m hs D) (hG : Grew S w W) (hb : ¬ S b) : Hds S W b off m hs D :=
  ⟨h.1, fun j hj => ⟨hG.cell (h.2 j hj).1 hb, (h.2 j hj).2.1, (h.2 j hj).2.2.grew hG⟩⟩
theorem Hds.ext {S : Nat → Prop} {w W : World} {b off m : Nat} {hs : Nat → Hd} {D : List (List Nat)} (h : Hds S w b off m hs D) (hE : Ext w W) : Hds S W b off m hs D :=
  ⟨h.1, fun j hj => ⟨hE.cell (h.2 j hj).1, (h.2 j hj).2.1, (h.2 j hj).2.2.ext hE⟩⟩
/-- a crew's memory, that has nothing to do with the blocks of S -/
structure CrewO (S : Nat → Prop) (w : World) (m : Nat) (c : Cw) (A B : Option Addr) (eb eo a b : Nat) : Prop where
  tsk : RdO kTask S w (.slice A c.ts.length a) c.ts
  dns : RdO kBool S w (.slice B c.dn.length b) c.dn
  deq : ∃ hs, Hds S w eb eo m hs c.D
  off : ¬ S eb
/-- .. of none -/
abbrev CrewAt (w : World) (m : Nat) (c : Cw) (A B : Option Addr) (eb eo a b : Nat) : Prop := CrewO (fun _ => False) w m c A B eb eo a b
theorem CrewO.grew {S : Nat → Prop} {w W : World} {m : Nat} {c : Cw} {A B : Option Addr} {eb eo a b : Nat} (h : CrewO S w m c A B eb eo a b) (hG : Grew S w W) : CrewO S W m c A B eb eo a b := by
  obtain ⟨h1, h2, ⟨hs, h3⟩, h4⟩ := h
  exact ⟨h1.grew hG, h2.grew hG, ⟨hs, h3.grew hG h4⟩, h4⟩
theorem CrewO.ext {S : Nat → Prop} {w W : World} {m : Nat} {c : Cw} {A B : Option Addr} {eb eo a b : Nat} (h : CrewO S w m c A B eb eo a b) (hE : Ext w W) : CrewO S W m c A B eb eo a b := h.grew (Grew.of hE)
theorem CrewO.setCell {S : Nat → Prop} {w : World} {m : Nat} {c : Cw} {A B : Option Addr} {eb eo a b : Nat} (h : CrewO S w m c A B eb eo a b) {p : Addr} (hp : S p.block) (u : Value) : CrewO S (w.setCell p u) m c A B eb eo a b := h.grew ((Grew.refl S w).setCell hp u)
theorem Hds.lt {S : Nat → Prop} {w : World} {b off m : Nat} {hs : Nat → Hd} {D : List (List Nat)} (h : Hds S w b off m hs D) (hm : 1 ≤ m) : b < w.heap.size := World.block_lt_of_cell? _ _ (h.2 0 hm).1
theorem CrewO.mono {S T : Nat → Prop} {w : World} {m : Nat} {c : Cw} {A B : Option Addr} {eb eo a b : Nat} (h : CrewO S w m c A B eb eo a b) (hm : 1 ≤ m) (hT : ∀ x, x < w.heap.size → T x → S x) : CrewO T w m c A B eb eo a b := by
  obtain ⟨h1, h2, ⟨hs, h3⟩, h4⟩ := h
  exact ⟨h1.mono hT, h2.mono hT, ⟨hs, h3.1, fun j hj => ⟨(h3.2 j hj).1, (h3.2 j hj).2.1, (h3.2 j hj).2.2.mono hT⟩⟩, fun ht => h4 (hT eb (h3.lt hm) ht)⟩
theorem CrewO.at_ {S : Nat → Prop} {w : World} {m : Nat} {c : Cw} {A B : Option Addr} {eb eo a b : Nat} (h : CrewO S w m c A B eb eo a b) (hm : 1 ≤ m) : CrewAt w m c A B eb eo a b := h.mono hm (fun _ _ hf => hf.elim)
/-- later, of blocks that were none then -/
theorem CrewO.later {S T : Nat → Prop} {w W : World} {m : Nat} {c : Cw} {A B : Option Addr} {eb eo a b : Nat} (h : CrewO S w m c A B eb eo a b) (hm : 1 ≤ m) (hG : Grew S w W) (hT : ∀ x, x < w.heap.size → T x → S x) : CrewO T W m c A B eb eo a b := by
  obtain ⟨h1, h2, ⟨hs, h3⟩, h4⟩ := h
  exact ⟨h1.later hG hT, h2.later hG hT, ⟨hs, h3.1, fun j hj => ⟨hG.cell (h3.2 j hj).1 h4, (h3.2 j hj).2.1, (h3.2 j hj).2.2.later hG hT⟩⟩, fun ht => h4 (hT eb (h3.lt hm) ht)⟩
/-- a crew, as a value -/
abbrev crewV (A B : Option Addr) (eb eo a b e : Nat) (g m : Nat) (c : Cw) : Value :=
  .agg #[.slice A c.ts.length a, .int .i64 g, .slice B c.dn.length b, .slice (some ⟨eb, eo, none⟩) m e, .bool c.over, .int .i64 c.st, .int .i64 c.id]
/-- an event, as a value -/
abbrev evV (x : Ev) : Value := .agg #[.int .i64 x.wk, .int .i64 x.fr, .int .i64 x.tk, .bool x.pt]

/-- one that goes steps: the block V has its crew and the event, the block e0 its deques' heads -/
structure GoAt (S : Nat → Prop) (w : World) (V e0 g m : Nat) (c : Cw) (ev : Ev) (A B : Option Addr) (a b e : Nat) (hs : Nat → Hd) : Prop where
  sV : S V
  sE : S e0
  sl : ∀ x, S x → x < w.heap.size
  ne : V ≠ e0
  v0 : w.cell? ⟨V, 0, none⟩ = some (.slice A c.ts.length a)
  v1 : w.cell? ⟨V, 1, none⟩ = some (.int .i64 g)
  v2 : w.cell? ⟨V, 2, none⟩ = some (.slice B c.dn.length b)
  v3 : w.cell? ⟨V, 3, none⟩ = some (.slice (some ⟨e0, 0, none⟩) m e)
  v4 : w.cell? ⟨V, 4, none⟩ = some (.bool c.over)
  v5 : w.cell? ⟨V, 5, none⟩ = some (.int .i64 c.st)
  v6 : w.cell? ⟨V, 6, none⟩ = some (.int .i64 c.id)
  v7 : w.cell? ⟨V, 7, none⟩ = some (.int .i64 ev.wk)
  v8 : w.cell? ⟨V, 8, none⟩ = some (.int .i64 ev.fr)
  v9 : w.cell? ⟨V, 9, none⟩ = some (.int .i64 ev.tk)
  v10 : w.cell? ⟨V, 10, none⟩ = some (.bool ev.pt)
  fV : ∀ o, w.frozen? ⟨V, o, none⟩ = false
  fE : ∀ o, w.frozen? ⟨e0, o, none⟩ = false
  me : m ≤ e
  tsk : RdO kTask S w (.slice A c.ts.length a) c.ts
  dns : RdO kBool S w (.slice B c.dn.length b) c.dn
  dl : c.D.length = m
  hd : ∀ j, j < m → w.cell? ⟨e0, j, none⟩ = some (hs j).v
  hn : ∀ j, j < m → (hs j).n = (c.D.getD j []).length
  hr : ∀ j, j < m → RdO kInt S w (hs j).v (zs (c.D.getD j []))
  hc : ∀ j, j < m → (hs j).n = 0 → (hs j).c = 0
theorem GoAt.ext {S : Nat → Prop} {w W : World} {V e0 g m : Nat} {c : Cw} {ev : Ev} {A B : Option Addr} {a b e : Nat} {hs : Nat → Hd} (h : GoAt S w V e0 g m c ev A B a b e hs) (hE : Ext w W) : GoAt S W V e0 g m c ev A B a b e hs where
  sV := h.sV
  sE := h.sE
  sl := fun x hx => Nat.lt_of_lt_of_le (h.sl x hx) hE.size
  ne := h.ne
  v0 := hE.cell h.v0
  v1 := hE.cell h.v1
  v2 := hE.cell h.v2
  v3 := hE.cell h.v3
  v4 := hE.cell h.v4
  v5 := hE.cell h.v5
  v6 := hE.cell h.v6
  v7 := hE.cell h.v7
  v8 := hE.cell h.v8
  v9 := hE.cell h.v9
  v10 := hE.cell h.v10
  fV := fun o => (Below.frozen hE (p := ⟨V, o, none⟩) (h.sl V h.sV)).trans (h.fV o)
  fE := fun o => (Below.frozen hE (p := ⟨e0, o, none⟩) (h.sl e0 h.sE)).trans (h.fE o)
  me := h.me
  tsk := h.tsk.ext hE
  dns := h.dns.ext hE
  dl := h.dl
  hd := fun j hj => hE.cell (h.hd j hj)
  hn := h.hn
  hr := fun j hj => (h.hr j hj).ext hE
  hc := h.hc
/-- but for the two blocks of one that goes steps -/
abbrev GrewG (V e0 : Nat) (w W : World) : Prop := Grew (fun x => x = V ∨ x = e0) w W
theorem GoAt.grewS {S : Nat → Prop} {w : World} {V e0 g m : Nat} {c : Cw} {ev : Ev} {A B : Option Addr} {a b e : Nat} {hs : Nat → Hd} (h : GoAt S w V e0 g m c ev A B a b e hs) {u W : World} (hG : GrewG V e0 u W) : Grew S u W :=
  hG.mono fun x _ hx => by rcases hx with rfl | rfl; exact h.sV; exact h.sE
/-- what one that goes steps has, as a crew -/
theorem GoAt.crew {S T : Nat → Prop} {w : World} {V e0 g m : Nat} {c : Cw} {ev : Ev} {A B : Option Addr} {a b e : Nat} {hs : Nat → Hd} (h : GoAt S w V e0 g m c ev A B a b e hs) (hT : ∀ x, T x → S x) (hE : ¬ T e0) : CrewO T w m c A B e0 0 a b :=
  ⟨h.tsk.mono fun x _ => hT x, h.dns.mono fun x _ => hT x, ⟨hs, h.dl, fun j hj => ⟨by rw [Nat.zero_add]; exact h.hd j hj, h.hn j hj, (h.hr j hj).mono fun x _ => hT x⟩⟩, hE⟩
/-- the box as it is read: a crew -/
theorem GoAt.at_ {S : Nat → Prop} {w : World} {V e0 g m : Nat} {c : Cw} {ev : Ev} {A B : Option Addr} {a b e : Nat} {hs : Nat → Hd} (h : GoAt S w V e0 g m c ev A B a b e hs) : CrewAt w m c A B e0 0 a b := h.crew (fun _ hf => hf.elim) (fun hf => hf)

/-- how many tasks there are, in work that is parted -/
theorem Plain.CwI.few {g n m : Nat} {c : Cw} {done : Nat} {G : List Nat} (h : CwI g n m c done G) (hg : 1 ≤ g) (hn : 1 ≤ n) : c.ts.length ≤ 2 * n := by
  have := (CrI.inv h).few hg hn; omega
end Go.Proofs.Ytjabahfkgaamdaa

/- One that goes steps: what a store leaves of it. Written by wip/mk_cgo.py. -/
namespace Go.Proofs.Ytjabahfkgaamdaa
open Go.BigFrame
open Go.RowKit Go.Proofs.Ytjabahfkgaamdaa.Plain

section
variable {S : Nat → Prop} {w : World} {V e0 g m : Nat} {c : Cw} {ev : Ev} {A B : Option Addr} {a b e : Nat} {hs : Nat → Hd}
/-- steps -/
theorem GoAt.setSt (h : GoAt S w V e0 g m c ev A B a b e hs) (n : Nat) : GoAt S (w.setCell ⟨V, 5, none⟩ (.int .i64 n)) V e0 g m ⟨c.ts, c.dn, c.D, c.over, n, c.id⟩ ev A B a b e hs where
  sV := h.sV
  sE := h.sE
  sl := fun x hx => by rw [World.size_setCell]; exact h.sl x hx
  ne := h.ne
  v0 := by have := h.v0; go_simp
  v1 := by have := h.v1; go_simp
  v2 := by have := h.v2; go_simp
  v3 := by have := h.v3; go_simp
  v4 := by have := h.v4; go_simp
  v5 := by have := h.v5; go_simp
  v6 := by have := h.v6; go_simp
  v7 := by have := h.v7; go_simp
  v8 := by have := h.v8; go_simp
  v9 := by have := h.v9; go_simp
  v10 := by have := h.v10; go_simp
  fV := fun o => by rw [World.frozen?_setCell]; exact h.fV o
  fE := fun o => by rw [World.frozen?_setCell]; exact h.fE o
  me := h.me
  tsk := (h.tsk.setCell (p := ⟨V, 5, none⟩) h.sV _)
  dns := (h.dns.setCell (p := ⟨V, 5, none⟩) h.sV _)
  dl := h.dl
  hd := fun j hj => by have := h.hd j hj; have := h.ne; rw [World.cell?_setCell_other _ _ _ _ (fun e => by cases e; exact h.ne rfl)]; exact h.hd j hj
  hn := h.hn
  hr := fun j hj => ((h.hr j hj).setCell (p := ⟨V, 5, none⟩) h.sV _)
  hc := h.hc
/-- idle ones -/
theorem GoAt.setId (h : GoAt S w V e0 g m c ev A B a b e hs) (n : Nat) : GoAt S (w.setCell ⟨V, 6, none⟩ (.int .i64 n)) V e0 g m ⟨c.ts, c.dn, c.D, c.over, c.st, n⟩ ev A B a b e hs where
  sV := h.sV
  sE := h.sE
  sl := fun x hx => by rw [World.size_setCell]; exact h.sl x hx
  ne := h.ne
  v0 := by have := h.v0; go_simp
  v1 := by have := h.v1; go_simp
  v2 := by have := h.v2; go_simp
  v3 := by have := h.v3; go_simp
  v4 := by have := h.v4; go_simp
  v5 := by have := h.v5; go_simp
  v6 := by have := h.v6; go_simp
  v7 := by have := h.v7; go_simp
  v8 := by have := h.v8; go_simp
  v9 := by have := h.v9; go_simp
  v10 := by have := h.v10; go_simp
  fV := fun o => by rw [World.frozen?_setCell]; exact h.fV o
  fE := fun o => by rw [World.frozen?_setCell]; exact h.fE o
  me := h.me
  tsk := (h.tsk.setCell (p := ⟨V, 6, none⟩) h.sV _)
  dns := (h.dns.setCell (p := ⟨V, 6, none⟩) h.sV _)
  dl := h.dl
  hd := fun j hj => by have := h.hd j hj; have := h.ne; rw [World.cell?_setCell_other _ _ _ _ (fun e => by cases e; exact h.ne rfl)]; exact h.hd j hj
  hn := h.hn
  hr := fun j hj => ((h.hr j hj).setCell (p := ⟨V, 6, none⟩) h.sV _)
  hc := h.hc
/-- whether it is over -/
theorem GoAt.setOver (h : GoAt S w V e0 g m c ev A B a b e hs) (q : Bool) : GoAt S (w.setCell ⟨V, 4, none⟩ (.bool q)) V e0 g m ⟨c.ts, c.dn, c.D, q, c.st, c.id⟩ ev A B a b e hs where
  sV := h.sV
  sE := h.sE
  sl := fun x hx => by rw [World.size_setCell]; exact h.sl x hx
  ne := h.ne
  v0 := by have := h.v0; go_simp
  v1 := by have := h.v1; go_simp
  v2 := by have := h.v2; go_simp
  v3 := by have := h.v3; go_simp
  v4 := by have := h.v4; go_simp
  v5 := by have := h.v5; go_simp
  v6 := by have := h.v6; go_simp
  v7 := by have := h.v7; go_simp
  v8 := by have := h.v8; go_simp
  v9 := by have := h.v9; go_simp
  v10 := by have := h.v10; go_simp
  fV := fun o => by rw [World.frozen?_setCell]; exact h.fV o
  fE := fun o => by rw [World.frozen?_setCell]; exact h.fE o
  me := h.me
  tsk := (h.tsk.setCell (p := ⟨V, 4, none⟩) h.sV _)
  dns := (h.dns.setCell (p := ⟨V, 4, none⟩) h.sV _)
  dl := h.dl
  hd := fun j hj => by have := h.hd j hj; have := h.ne; rw [World.cell?_setCell_other _ _ _ _ (fun e => by cases e; exact h.ne rfl)]; exact h.hd j hj
  hn := h.hn
  hr := fun j hj => ((h.hr j hj).setCell (p := ⟨V, 4, none⟩) h.sV _)
  hc := h.hc
/-- the event -/
theorem GoAt.setEv (h : GoAt S w V e0 g m c ev A B a b e hs) (x : Ev) : GoAt S ((((w.setCell ⟨V, 7, none⟩ (.int .i64 x.wk)).setCell ⟨V, 8, none⟩ (.int .i64 x.fr)).setCell ⟨V, 9, none⟩ (.int .i64 x.tk)).setCell ⟨V, 10, none⟩ (.bool x.pt)) V e0 g m c x A B a b e hs where
  sV := h.sV
  sE := h.sE
  sl := fun x hx => by rw [World.size_setCell, World.size_setCell, World.size_setCell, World.size_setCell]; exact h.sl x hx
  ne := h.ne
  v0 := by have := h.v0; go_simp
  v1 := by have := h.v1; go_simp
  v2 := by have := h.v2; go_simp
  v3 := by have := h.v3; go_simp
  v4 := by have := h.v4; go_simp
  v5 := by have := h.v5; go_simp
  v6 := by have := h.v6; go_simp
  v7 := by have := h.v7; go_simp
  v8 := by have := h.v8; go_simp
  v9 := by have := h.v9; go_simp
  v10 := by have := h.v10; go_simp
  fV := fun o => by rw [World.frozen?_setCell, World.frozen?_setCell, World.frozen?_setCell, World.frozen?_setCell]; exact h.fV o
  fE := fun o => by rw [World.frozen?_setCell, World.frozen?_setCell, World.frozen?_setCell, World.frozen?_setCell]; exact h.fE o
  me := h.me
  tsk := ((((h.tsk.setCell (p := ⟨V, 7, none⟩) h.sV _).setCell (p := ⟨V, 8, none⟩) h.sV _).setCell (p := ⟨V, 9, none⟩) h.sV _).setCell (p := ⟨V, 10, none⟩) h.sV _)
  dns := ((((h.dns.setCell (p := ⟨V, 7, none⟩) h.sV _).setCell (p := ⟨V, 8, none⟩) h.sV _).setCell (p := ⟨V, 9, none⟩) h.sV _).setCell (p := ⟨V, 10, none⟩) h.sV _)
  dl := h.dl
  hd := fun j hj => by have := h.hd j hj; have := h.ne; rw [World.cell?_setCell_other _ _ _ _ (fun e => by cases e; exact h.ne rfl), World.cell?_setCell_other _ _ _ _ (fun e => by cases e; exact h.ne rfl), World.cell?_setCell_other _ _ _ _ (fun e => by cases e; exact h.ne rfl), World.cell?_setCell_other _ _ _ _ (fun e => by cases e; exact h.ne rfl)]; exact h.hd j hj
  hn := h.hn
  hr := fun j hj => (((((h.hr j hj).setCell (p := ⟨V, 7, none⟩) h.sV _).setCell (p := ⟨V, 8, none⟩) h.sV _).setCell (p := ⟨V, 9, none⟩) h.sV _).setCell (p := ⟨V, 10, none⟩) h.sV _)
  hc := h.hc
/-- its work -/
theorem GoAt.setWork (h : GoAt S w V e0 g m c ev A B a b e hs) {A' B' : Option Addr} {a' b' : Nat} {ts' : List Tk} {dn' : List Bool} (hT : RdO kTask S w (.slice A' ts'.length a') ts') (hD : RdO kBool S w (.slice B' dn'.length b') dn') : GoAt S (((w.setCell ⟨V, 0, none⟩ (.slice A' ts'.length a')).setCell ⟨V, 1, none⟩ (.int .i64 g)).setCell ⟨V, 2, none⟩ (.slice B' dn'.length b')) V e0 g m ⟨ts', dn', c.D, c.over, c.st, c.id⟩ ev A' B' a' b' e hs where
  sV := h.sV
  sE := h.sE
  sl := fun x hx => by rw [World.size_setCell, World.size_setCell, World.size_setCell]; exact h.sl x hx
  ne := h.ne
  v0 := by have := h.v0; go_simp
  v1 := by have := h.v1; go_simp
  v2 := by have := h.v2; go_simp
  v3 := by have := h.v3; go_simp
  v4 := by have := h.v4; go_simp
  v5 := by have := h.v5; go_simp
  v6 := by have := h.v6; go_simp
  v7 := by have := h.v7; go_simp
  v8 := by have := h.v8; go_simp
  v9 := by have := h.v9; go_simp
  v10 := by have := h.v10; go_simp
  fV := fun o => by rw [World.frozen?_setCell, World.frozen?_setCell, World.frozen?_setCell]; exact h.fV o
  fE := fun o => by rw [World.frozen?_setCell, World.frozen?_setCell, World.frozen?_setCell]; exact h.fE o
  me := h.me
  tsk := ((hT.setCell (p := ⟨V, 0, none⟩) h.sV _).setCell (p := ⟨V, 1, none⟩) h.sV _).setCell (p := ⟨V, 2, none⟩) h.sV _
  dns := ((hD.setCell (p := ⟨V, 0, none⟩) h.sV _).setCell (p := ⟨V, 1, none⟩) h.sV _).setCell (p := ⟨V, 2, none⟩) h.sV _
  dl := h.dl
  hd := fun j hj => by have := h.hd j hj; have := h.ne; rw [World.cell?_setCell_other _ _ _ _ (fun e => by cases e; exact h.ne rfl), World.cell?_setCell_other _ _ _ _ (fun e => by cases e; exact h.ne rfl), World.cell?_setCell_other _ _ _ _ (fun e => by cases e; exact h.ne rfl)]; exact h.hd j hj
  hn := h.hn
  hr := fun j hj => ((((h.hr j hj).setCell (p := ⟨V, 0, none⟩) h.sV _).setCell (p := ⟨V, 1, none⟩) h.sV _).setCell (p := ⟨V, 2, none⟩) h.sV _)
  hc := h.hc
/-- a deque's head -/
theorem GoAt.setHd (h : GoAt S w V e0 g m c ev A B a b e hs) (p : Nat) (hp : p < m) (x : Hd) (xs : List Nat) (hn : x.n = xs.length) (hc : x.n = 0 → x.c = 0) (hr : RdO kInt S w x.v (zs xs)) :
    GoAt S (w.setCell ⟨e0, p, none⟩ x.v) V e0 g m ⟨c.ts, c.dn, c.D.set p xs, c.over, c.st, c.id⟩ ev A B a b e (fun j => if j = p then x else hs j) where
  sV := h.sV
  sE := h.sE
  sl := fun y hy => by rw [World.size_setCell]; exact h.sl y hy
  ne := h.ne
  v0 := by rw [World.cell?_setCell_other _ _ _ _ (fun e => by cases e; exact h.ne rfl)]; exact h.v0
  v1 := by rw [World.cell?_setCell_other _ _ _ _ (fun e => by cases e; exact h.ne rfl)]; exact h.v1
  v2 := by rw [World.cell?_setCell_other _ _ _ _ (fun e => by cases e; exact h.ne rfl)]; exact h.v2
  v3 := by rw [World.cell?_setCell_other _ _ _ _ (fun e => by cases e; exact h.ne rfl)]; exact h.v3
  v4 := by rw [World.cell?_setCell_other _ _ _ _ (fun e => by cases e; exact h.ne rfl)]; exact h.v4
  v5 := by rw [World.cell?_setCell_other _ _ _ _ (fun e => by cases e; exact h.ne rfl)]; exact h.v5
  v6 := by rw [World.cell?_setCell_other _ _ _ _ (fun e => by cases e; exact h.ne rfl)]; exact h.v6
  v7 := by rw [World.cell?_setCell_other _ _ _ _ (fun e => by cases e; exact h.ne rfl)]; exact h.v7
  v8 := by rw [World.cell?_setCell_other _ _ _ _ (fun e => by cases e; exact h.ne rfl)]; exact h.v8
  v9 := by rw [World.cell?_setCell_other _ _ _ _ (fun e => by cases e; exact h.ne rfl)]; exact h.v9
  v10 := by rw [World.cell?_setCell_other _ _ _ _ (fun e => by cases e; exact h.ne rfl)]; exact h.v10
  fV := fun o => by rw [World.frozen?_setCell]; exact h.fV o
  fE := fun o => by rw [World.frozen?_setCell]; exact h.fE o
  me := h.me
  tsk := h.tsk.setCell (p := ⟨e0, p, none⟩) h.sE _
  dns := h.dns.setCell (p := ⟨e0, p, none⟩) h.sE _
  dl := by rw [List.length_set]; exact h.dl
  hd := fun j hj => by
    by_cases e : j = p
    · subst e
      rw [if_pos rfl]
      have := h.hd j hj
      go_simp
    · rw [if_neg e, World.cell?_setCell_other _ _ _ _ (fun e' => e (by cases e'; rfl))]
      exact h.hd j hj
  hn := fun j hj => by
    by_cases e : j = p
    · subst e
      rw [if_pos rfl, hn, List.getD_eq_getElem?_getD, List.getElem?_set_self (by rw [h.dl]; exact hj)]; rfl
    · rw [if_neg e, h.hn j hj, List.getD_eq_getElem?_getD, List.getD_eq_getElem?_getD, List.getElem?_set_ne (Ne.symm e)]
  hr := fun j hj => by
    by_cases e : j = p
    · subst e
      rw [if_pos rfl, List.getD_eq_getElem?_getD, List.getElem?_set_self (by rw [h.dl]; exact hj)]
      exact hr.setCell (p := ⟨e0, j, none⟩) h.sE _
    · have := (h.hr j hj).setCell (p := ⟨e0, p, none⟩) h.sE x.v
      rw [if_neg e, List.getD_eq_getElem?_getD, List.getElem?_set_ne (Ne.symm e), ← List.getD_eq_getElem?_getD]
      exact this
  hc := fun j hj => by
    by_cases e : j = p
    · subst e; rw [if_pos rfl]; exact hc
    · rw [if_neg e]; exact h.hc j hj
end
end Go.Proofs.Ytjabahfkgaamdaa

/- The program's small words of a crew: cut, manned, counted, great, open. -/
namespace Go.Proofs.Ytjabahfkgaamdaa
open Go.BigFrame
open Go.RowKit Go.Proofs.Ytjabahfkgaamdaa.Plain

set_option maxRecDepth 100000 in
theorem ccut_any (p : Int) (m : Nat) (w : World) (hp : in64 p) (m1 : 1 ≤ m) (m2 : m ≤ 8) :
    Calls Try.prog 67 #[.int .i64 p, .int .i64 m] w fun e w' => e = .returned (.int .i64 (cutN m p)) ∧ w = w' := by
  obtain ⟨h1, h2⟩ := tmod_cut m p m1
  have hm0 : (1 : Int) ≤ m := by omega
  have hm8 : (m : Int) ≤ 8 := by omega
  have h3 := Int.tmod_lt_of_pos p (by omega : (0 : Int) < m)
  have h4 := cutN_lt m p m1
  obtain ⟨hp1, hp2⟩ := hp
  obtain ⟨r, hr⟩ : ∃ r, p.tmod m = r := ⟨_, rfl⟩
  rw [hr] at h1 h2 h3
  have hr0 : -8 ≤ r := by
    rcases Int.lt_or_le r 0 with h | h
    · have := h2 h; omega
    · omega
  have HR := Lib.hid hr
  clear hr
  rcases Int.lt_or_le r 0 with h | h
  · have HQ : Hid (r + m = (cutN m p : Int)) := Lib.hid (h2 h)
    clear h1 h2
    go_enter Try.func67, Try.ntmps67
    go_wp2
    all_goals (try rw [HR.out] at *)
    all_goals first | (exfalso; omega) | skip
    all_goals go_ret
    all_goals exact ⟨ret_int (by first | exact HQ.out | (rw [← HQ.out]; exact IntWalk.i64_in _ (by omega)) | (rw [HR.out]; exact HQ.out) | (rw [IntWalk.wrap64_in _ (by omega)]; exact HQ.out) | (have := HQ.out; have := HR.out; omega)), rfl⟩
  · have HQ : Hid (r = (cutN m p : Int)) := Lib.hid (h1 h)
    clear h1 h2
    go_enter Try.func67, Try.ntmps67
    go_wp2
    all_goals (try rw [HR.out] at *)
    all_goals first | (exfalso; omega) | skip
    all_goals go_ret
    all_goals exact ⟨ret_int (by first | exact HQ.out | (rw [HR.out]; exact HQ.out) | (have := HQ.out; have := HR.out; omega)), rfl⟩
set_option maxRecDepth 100000 in
theorem manned_yes (m : Nat) (w : World) (m1 : 1 ≤ m) (m2 : m ≤ 8) :
    Calls Try.prog 41 #[.int .i64 m] w fun e w' => e = .returned (.bool true) ∧ w = w' := by
  have hm0 : (1 : Int) ≤ m := by omega
  have hm8 : (m : Int) ≤ 8 := by omega
  go_enter Try.func41, Try.ntmps41
  go_wp2
  go_ret
  exact ⟨rfl, rfl⟩
set_option maxRecDepth 100000 in
theorem counted_yes (m : Int) (w : World) (m1 : 0 ≤ m) (m2 : m ≤ 100000) :
    Calls Try.prog 72 #[.int .i64 m] w fun e w' => e = .returned (.bool true) ∧ w = w' := by
  go_enter Try.func72, Try.ntmps72
  go_wp2
  go_ret
  exact ⟨rfl, rfl⟩
set_option maxRecDepth 100000 in
theorem cgreat_any (A B : Option Addr) (m n a b : Nat) (lo hi up wt g : Int) (w : World) (hd : in64 (hi - lo)) (_hg : in64 g) :
    Calls Try.prog 76 #[.agg #[.slice A m a, .int .i64 g, .slice B n b], .agg #[.int .i64 lo, .int .i64 hi, .int .i64 up, .int .i64 wt]] w fun e w' => e = .returned (.bool (decide (g < hi - lo))) ∧ Ext w w' := by
  obtain ⟨h1, h2⟩ := hd
  go_enter Try.func76, Try.ntmps76
  go_wp2
  go_ret
  exact ⟨ret_bool (by first | rfl | simp), ((Ext.refl w).alloc _).alloc _⟩
set_option maxHeartbeats 800000 in
set_option maxRecDepth 100000 in
theorem copen_yes (A B : Option Addr) (m a b : Nat) (lo hi up : Int) (g : Nat) (dn : List Bool) (w : World) (h : Rd kBool w (.slice B dn.length b) dn) (hlo : 0 ≤ lo) (hlh : lo < hi) (hhn : hi ≤ dn.length) (hg1 : 1 ≤ g) (hg : g ≤ 100) (hdn : dn.length ≤ 1000) (hd : dn.getD lo.toNat false = false) :
    Calls Try.prog 81 #[.agg #[.slice A m a, .int .i64 g, .slice B dn.length b], .agg #[.int .i64 lo, .int .i64 hi, .int .i64 up, .int .i64 0]] w fun e w' => e = .returned (.bool true) ∧ Ext w w' := by
  have H := Lib.hid h
  have hl1 : 0 < dn.length := by omega
  obtain ⟨bd, od, rfl, hcd⟩ := Rd.bools H.out hl1
  obtain ⟨l, rfl⟩ : ∃ l : Nat, lo = l := ⟨lo.toNat, by omega⟩
  rw [Int.toNat_natCast] at hd
  have z := hcd l (by omega)
  rw [hd] at z
  have HG : Hid (in64 (g : Int)) := Lib.hid (by unfold in64; omega)
  have HD : Hid (in64 (hi - l)) := Lib.hid (by unfold in64; omega)
  have hl2 : (l : Int) < dn.length := by omega
  have lbd : bd < w.heap.size := World.block_lt_of_cell? _ _ z
  clear h hcd hd
  go_enter Try.func81, Try.ntmps81
  cases hgr : decide ((g : Int) < hi - l) with
  | true =>
    go_wp2_with ((go_at_call 76; refine (cgreat_any _ _ _ _ _ _ _ _ _ _ _ _ HD.out HG.out).mono ?_; rw [hgr]; rintro e w1 ⟨rfl, hE⟩))
    go_ret
    exact ⟨rfl, (((Ext.refl w).alloc _).alloc _).trans hE⟩
  | false =>
    go_wp2_with ((go_at_call 76; refine (cgreat_any _ _ _ _ _ _ _ _ _ _ _ _ HD.out HG.out).mono ?_; rw [hgr]; rintro e w1 ⟨rfl, hE⟩; have z1 := hE.cell (a := ⟨bd, od + l, none⟩) (v := .bool false) (by go_simp); have x2 := hE.cell (a := ⟨w.heap.size, 2, none⟩) (v := .slice (some ⟨bd, od, none⟩) dn.length b) (by go_simp); have x3 := hE.cell (a := ⟨w.heap.size + 1, 0, none⟩) (v := .int .i64 l) (by go_simp)))
    go_ret
    exact ⟨rfl, (((Ext.refl w).alloc _).alloc _).trans hE⟩
end Go.Proofs.Ytjabahfkgaamdaa

/- The methods of one that goes steps: source, idle, part, do. -/
namespace Go.Proofs.Ytjabahfkgaamdaa
open Go.BigFrame
open Go.RowKit Go.Proofs.Ytjabahfkgaamdaa.Plain

def srcI (D : List (List Nat)) (P Q : Nat) : Int := match srcN D P Q with
  | some F => F
  | none => -1
set_option maxHeartbeats 800000 in
set_option maxRecDepth 100000 in
theorem source_any {S : Nat → Prop} {V e0 g m : Nat} {c : Cw} {ev : Ev} {A B : Option Addr} {a b e : Nat} {hs : Nat → Hd} (P Q : Nat) (w : World) (h : GoAt S w V e0 g m c ev A B a b e hs) (hP : P < m) (hQ : Q < m) (m2 : m ≤ 8) :
    Calls Try.prog 68 #[.pointer (some ⟨V, 0, none⟩), .int .i64 P, .int .i64 Q] w fun ed w' => ed = .returned (.int .i64 (srcI c.D P Q)) ∧ w = w' := by
  have i0 : ∀ w, (Instr.index 23 (.agg #[.int .i64 (P : Int), .int .i64 (Q : Int)]) (.int .i64 0)).run Try.prog w = .ok (.int .i64 (P : Int)) w := fun _ => by kernel_rfl
  have i1 : ∀ w, (Instr.index 23 (.agg #[.int .i64 (P : Int), .int .i64 (Q : Int)]) (.int .i64 1)).run Try.prog w = .ok (.int .i64 (Q : Int)) w := fun _ => by kernel_rfl
  have v3 := h.v3
  have hm0 : (P : Int) < m := by omega
  have hm1 : (Q : Int) < m := by omega
  have hP0 : (0 : Int) ≤ P := by omega
  have hQ0 : (0 : Int) ≤ Q := by omega
  have hm8 : (m : Int) ≤ 8 := by omega
  have zP := h.hd P hP
  have zQ := h.hd Q hQ
  have nP := h.hn P hP
  have nQ := h.hn Q hQ
  unfold Hd.v at zP zQ
  obtain ⟨u1, hu1⟩ : ∃ x, (hs P).n = x := ⟨_, rfl⟩
  obtain ⟨u2, hu2⟩ : ∃ x, (hs Q).n = x := ⟨_, rfl⟩
  rw [hu1] at zP nP
  rw [hu2] at zQ nQ
  obtain ⟨r, hr⟩ : ∃ r, srcI c.D P Q = r := ⟨_, rfl⟩
  rw [hr]
  unfold srcI srcN at hr
  by_cases h1 : u1 = 0
  · have e1 : c.D.getD P [] = [] := List.eq_nil_of_length_eq_zero (by omega)
    have d1 : ¬ (0 : Int) < u1 := by omega
    by_cases h2 : u2 = 0
    · have e2 : c.D.getD Q [] = [] := List.eq_nil_of_length_eq_zero (by omega)
      have d2 : ¬ (0 : Int) < u2 := by omega
      rw [if_neg (by rw [e1]; simp), if_neg (by rw [e2]; simp)] at hr
      have HR : Hid (-1 = r) := Lib.hid hr
      subst h1 h2
      clear hr e1 e2 nP nQ h hu1 hu2
      go_enter Try.func68, Try.ntmps68
      go_wp2_with fail
      go_loop [12] (fun i => i = .int .i64 0 ∨ i = .int .i64 1 ∨ i = .int .i64 2) (fun i => 2 - (intOf i).toNat)
      case atStart => exact .inl rfl
      case round =>
        rcases hrel with rfl | rfl | rfl
        · go_wp2_with fail
          go_round
          case rel => exact .inr (.inl rfl)
          case measure => simp [intOf]
        · go_wp2_with fail
          go_round
          case rel => exact .inr (.inr rfl)
          case measure => simp [intOf]
        · go_wp2_with fail
          go_ret
          exact ⟨ret_int HR.out, rfl⟩
    · have e2 : c.D.getD Q [] ≠ [] := fun hh => h2 (by rw [nQ, hh]; rfl)
      have d2 : (0 : Int) < u2 := by omega
      rw [if_neg (by rw [e1]; simp), if_pos e2] at hr
      have HR : Hid ((Q : Int) = r) := Lib.hid hr
      subst h1
      clear hr e1 e2 nP nQ h hu1 hu2
      go_enter Try.func68, Try.ntmps68
      go_wp2_with fail
      go_loop [12] (fun i => i = .int .i64 0 ∨ i = .int .i64 1) (fun i => 2 - (intOf i).toNat)
      case atStart => exact .inl rfl
      case round =>
        rcases hrel with rfl | rfl
        · go_wp2_with fail
          go_round
          case rel => exact .inr rfl
          case measure => simp [intOf]
        · go_wp2_with fail
          go_ret
          exact ⟨ret_int HR.out, rfl⟩
  · have e1 : c.D.getD P [] ≠ [] := fun hh => h1 (by rw [nP, hh]; rfl)
    have d1 : (0 : Int) < u1 := by omega
    rw [if_pos e1] at hr
    have HR : Hid ((P : Int) = r) := Lib.hid hr
    clear hr e1 nP nQ h hu1 hu2
    go_enter Try.func68, Try.ntmps68
    go_wp2_with fail
    go_loop [12] (fun i => i = .int .i64 0) (fun i => 2 - (intOf i).toNat)
    case atStart => exact rfl
    case round =>
      obtain rfl := hrel
      go_wp2_with fail
      go_ret
      exact ⟨ret_int HR.out, rfl⟩

set_option maxHeartbeats 800000 in
set_option maxRecDepth 100000 in
theorem idle_any {S : Nat → Prop} {V e0 g m : Nat} {c : Cw} {ev : Ev} {A B : Option Addr} {a b e : Nat} {hs : Nat → Hd} (P : Nat) (w : World) (h : GoAt S w V e0 g m c ev A B a b e hs) (hst : c.st < 100000) (hid : c.id < 100000) :
    Calls Try.prog 69 #[.pointer (some ⟨V, 0, none⟩), .int .i64 P] w fun ed w' => ed = .returned (.tuple #[]) ∧ GoAt S w' V e0 g m ⟨c.ts, c.dn, c.D, c.over, c.st + 1, c.id + 1⟩ ⟨P, -1, -1, false⟩ A B a b e hs ∧ GrewG V e0 w w' := by
  have H := Lib.hid h
  obtain ⟨v5, v6, v7, v8, v9, v10, fV⟩ := And.intro h.v5 (And.intro h.v6 (And.intro h.v7 (And.intro h.v8 (And.intro h.v9 (And.intro h.v10 h.fV)))))
  have s1 : (c.st : Int) < 100000 := by omega
  have s2 : (0 : Int) ≤ c.st := by omega
  have s3 : (c.id : Int) < 100000 := by omega
  have s4 : (0 : Int) ≤ c.id := by omega
  have lV : V < w.heap.size := h.sl V h.sV
  clear h
  go_enter Try.func69, Try.ntmps69
  go_wp2_with fail
  go_end0
  refine ⟨rfl, ((H.out.setSt (c.st + 1)).setId (c.id + 1)).setEv ⟨P, -1, -1, false⟩, ?_⟩
  exact (((((((Grew.refl (fun x => x = V ∨ x = e0) w).setCell (p := ⟨V, 5, none⟩) (.inl rfl) _).setCell (p := ⟨V, 6, none⟩) (.inl rfl) _).setCell (p := ⟨V, 7, none⟩) (.inl rfl) _).setCell (p := ⟨V, 8, none⟩) (.inl rfl) _).setCell (p := ⟨V, 9, none⟩) (.inl rfl) _).setCell (p := ⟨V, 10, none⟩) (.inl rfl) _)

set_option maxHeartbeats 1600000 in
set_option maxRecDepth 100000 in
theorem part_go {S : Nat → Prop} {V e0 g m : Nat} {c : Cw} {ev : Ev} {A B : Option Addr} {a b e n : Nat} {hs : Nat → Hd} (k : Nat) (w : World) (h : GoAt S w V e0 g m c ev A B a b e hs) (hn : c.dn.length = n) (hr : wRight c.ts (g : Int) n = true) (hk : k < c.ts.length) (hgr : wGreat c.ts (g : Int) n k = true) (hw0 : (T c.ts k).wt = 0) (hl : c.ts.length ≤ 1998) (g2 : g ≤ 100) (n2 : n ≤ 1000) :
    Calls Try.prog 77 #[.pointer (some ⟨V, 0, none⟩), .int .i64 k] w fun ed w' => ∃ (A' B' : Option Addr) (a' b' H : Nat), ed = .returned (.tuple #[.slice (some ⟨H, 0, none⟩) 2 2, .int .i64 0]) ∧ GoAt S w' V e0 g m ⟨partedL c.ts k, c.dn, c.D, c.over, c.st, c.id⟩ ev A' B' a' b' e hs ∧
      Ow kInt w.heap.size w' (.slice (some ⟨H, 0, none⟩) 2 2) [((c.ts.length + 1 : Nat) : Int), (c.ts.length : Int)] ∧ GrewG V e0 w w' := by
  have H := Lib.hid h
  have v0 := h.v0
  have v1 := h.v1
  have v2 := h.v2
  have fV := h.fV
  have lV : V < w.heap.size := h.sl V h.sV
  have HPE : Hid (partErr c.ts (g : Int) n (k : Int) = 0) := Lib.hid (partErr_ok hr hk hgr hw0 hl)
  have HGI : Hid (in64 (g : Int)) := Lib.hid (in64_nat g (by omega))
  have HKI : Hid (in64 (k : Int)) := Lib.hid (in64_nat k (by omega))
  have HN := Lib.hid hn
  have l1 : c.ts.length ≤ 1048576 := by omega
  have l2 : n ≤ 1048576 := by omega
  clear h hn
  go_enter Try.func77, Try.ntmps77
  go_wp2_with fail
  refine (part_to _ _ _ _ c.ts.length c.dn.length (c.ts.length + 2) c.ts (partedL c.ts k) c.dn (g : Int) (k : Int) (c.ts.length : Int) ((c.ts.length : Int) + 1) _ H.out.tsk.rd H.out.dns.rd rfl rfl HGI.out HKI.out l1 (by rw [HN.out]; exact l2) (by rw [HN.out]; exact HPE.out) (by rw [Int.toNat_natCast]; rfl) (partedL_len c.ts k) rfl rfl).mono ?_
  rintro ed w1 ⟨A1, a1, B1, b1, rfl, hT, hD, hA, hB, hE⟩
  have H1 := Lib.hid (H.out.ext hE)
  have x0 := hE.cell v0
  have x1 := hE.cell v1
  have x2 := hE.cell v2
  have xf : ∀ o, w1.frozen? ⟨V, o, none⟩ = false := fun o => (Below.frozen hE (p := ⟨V, o, none⟩) lV).trans (fV o)
  have hz := hE.size
  have lV1 : V < w1.heap.size := by omega
  have HT1 : Hid (RdO kTask S w1 (.slice A1 (c.ts.length + 2) a1) (partedL c.ts k)) := Lib.hid (hT.offFrom hA H.out.sl)
  have HD1 : Hid (RdO kBool S w1 (.slice B1 c.dn.length b1) c.dn) := Lib.hid (hD.offFrom hB H.out.sl)
  have HE1 := Lib.hid hE
  clear hT hD hA hB hE v0 v1 v2 fV
  go_wp2_with fail
  go_ret2
  refine ⟨A1, B1, a1, b1, _, rfl, ?_, ?_, ?_⟩
  · have hT2 : RdO kTask S w1 (.slice A1 (partedL c.ts k).length a1) (partedL c.ts k) := by rw [partedL_len]; exact HT1.out
    have h3 := (H1.out.setWork hT2 HD1.out)
    rw [partedL_len] at h3
    have h4 := (h3.ext ((Ext.refl _).alloc (.cells #[.slice A1 (c.ts.length + 2) a1, .int .i64 g, .slice B1 c.dn.length b1] 54))).ext ((Ext.refl _).alloc (.cells #[.int .i64 ((c.ts.length : Int) + 1), .int .i64 (c.ts.length : Int)] 3))
    exact h4
  · exact Ow.lit (K := kInt) _ [((c.ts.length + 1 : Nat) : Int), (c.ts.length : Int)] _ rfl rfl (by simp) (by omega) (by simp [maxLen]) (by intro x hx; simp only [List.mem_cons, List.not_mem_nil, or_false] at hx; rcases hx with rfl | rfl <;> exact in64_nat _ (by omega))
  · exact ((((((Grew.of HE1.out).setCell (p := ⟨V, 0, none⟩) (.inl rfl) _).setCell (p := ⟨V, 1, none⟩) (.inl rfl) _).setCell (p := ⟨V, 2, none⟩) (.inl rfl) _).alloc _).alloc _)

set_option maxHeartbeats 1600000 in
set_option maxRecDepth 100000 in
theorem do_go {S : Nat → Prop} {V e0 g m : Nat} {c : Cw} {ev : Ev} {A B : Option Addr} {a b e n : Nat} {hs : Nat → Hd} (k : Nat) (w : World) (h : GoAt S w V e0 g m c ev A B a b e hs) (hn : c.dn.length = n) (hr : wRight c.ts (g : Int) n = true) (hk : k < c.ts.length) (hgr : wGreat c.ts (g : Int) n k = false) (hw0 : (T c.ts k).wt = 0) (_hlo : 0 ≤ (T c.ts k).lo) (hlh : (T c.ts k).lo ≤ (T c.ts k).hi) (hhn : (T c.ts k).hi ≤ n) (hdn : c.dn.getD (T c.ts k).lo.toNat false = false) (hov : c.over = false) (hl : c.ts.length ≤ 1998) (g2 : g ≤ 100) (n2 : n ≤ 1000) :
    Calls Try.prog 78 #[.pointer (some ⟨V, 0, none⟩), .int .i64 k] w fun ed w' => ∃ (A' B' : Option Addr) (a' b' : Nat), ed = .returned (.int .i64 0) ∧ GoAt S w' V e0 g m ⟨(climb (c.ts.length + 1) c.ts (T c.ts k).up).1, marked c.dn (T c.ts k).lo.toNat (T c.ts k).hi.toNat, c.D, c.over || (climb (c.ts.length + 1) c.ts (T c.ts k).up).2, c.st, c.id⟩ ev A' B' a' b' e hs ∧ GrewG V e0 w w' := by
  have H := Lib.hid h
  have v0 := h.v0
  have v1 := h.v1
  have v2 := h.v2
  have v4 := h.v4
  rw [hov] at v4
  have fV := h.fV
  have lV : V < w.heap.size := h.sl V h.sV
  have HOV := Lib.hid hov
  have HPE : Hid (doErr c.ts (g : Int) c.dn (k : Int) = 0) := Lib.hid (doErr_zero (by rw [hn]; exact hr) hk (by rw [hn]; exact hgr) hw0 hdn)
  have HGI : Hid (in64 (g : Int)) := Lib.hid (in64_nat g (by omega))
  have HKI : Hid (in64 (k : Int)) := Lib.hid (in64_nat k (by omega))
  obtain ⟨us, q, hcl⟩ : ∃ us q, climb (c.ts.length + 1) c.ts (T c.ts k).up = (us, q) := ⟨_, _, rfl⟩
  have hul : us.length = c.ts.length := by have := climb_len (c.ts.length + 1) c.ts (T c.ts k).up; rw [hcl] at this; exact this
  obtain ⟨dn', hmk⟩ : ∃ dn', marked c.dn (T c.ts k).lo.toNat (T c.ts k).hi.toNat = dn' := ⟨_, rfl⟩
  have hml : dn'.length = c.dn.length := by rw [← hmk]; exact marked_len _ _ _ (by omega) (by omega)
  have HCL := Lib.hid hcl
  have HMK := Lib.hid hmk
  have HUL := Lib.hid hul
  have HML := Lib.hid hml
  have HN := Lib.hid hn
  have l1 : c.ts.length ≤ 1048576 := by omega
  have l2 : n ≤ 1048576 := by omega
  rw [hcl, hmk]
  clear h hn hov hcl hmk hul hml hdn
  go_enter Try.func78, Try.ntmps78
  go_wp2_with fail
  refine (do_to _ _ _ _ c.ts.length c.dn.length c.ts us c.dn dn' (g : Int) (k : Int) q _ H.out.tsk.rd H.out.dns.rd rfl rfl HGI.out HKI.out l1 (by rw [HN.out]; exact l2) HPE.out (by rw [Int.toNat_natCast]; exact HCL.out) (by rw [Int.toNat_natCast]; exact HMK.out)).mono ?_
  rintro ed w1 ⟨A1, a1, B1, b1, rfl, hT, hD, hA, hB, hE⟩
  have H1 := Lib.hid (H.out.ext hE)
  have x0 := hE.cell v0
  have x1 := hE.cell v1
  have x2 := hE.cell v2
  have x4 := hE.cell v4
  have xf : ∀ o, w1.frozen? ⟨V, o, none⟩ = false := fun o => (Below.frozen hE (p := ⟨V, o, none⟩) lV).trans (fV o)
  have hz := hE.size
  have lV1 : V < w1.heap.size := by omega
  have HT1 : Hid (RdO kTask S w1 (.slice A1 us.length a1) us) := Lib.hid (by rw [HUL.out]; exact hT.offFrom hA H.out.sl)
  have HD1 : Hid (RdO kBool S w1 (.slice B1 dn'.length b1) dn') := Lib.hid (by rw [HML.out]; exact hD.offFrom hB H.out.sl)
  have HE1 := Lib.hid hE
  clear hT hD hA hB hE v0 v1 v2 v4 fV
  go_wp2_with fail
  go_ret
  refine ⟨A1, B1, a1, b1, rfl, ?_, ?_⟩
  · have h3 := (H1.out.setWork HT1.out HD1.out)
    rw [HUL.out, HML.out] at h3
    have h5 := (h3.setOver q).ext ((Ext.refl _).alloc (.cells #[.slice A1 c.ts.length a1, .int .i64 g, .slice B1 c.dn.length b1] 54))
    rw [HOV.out, Bool.false_or]
    exact h5
  · exact ((((((Grew.of HE1.out).setCell (p := ⟨V, 0, none⟩) (.inl rfl) _).setCell (p := ⟨V, 1, none⟩) (.inl rfl) _).setCell (p := ⟨V, 2, none⟩) (.inl rfl) _).setCell (p := ⟨V, 4, none⟩) (.inl rfl) _).alloc _)
end Go.Proofs.Ytjabahfkgaamdaa

/- Plain words of a deque: no program in it. -/
namespace Go.Proofs.Ytjabahfkgaamdaa.Plain

/-- for how many more there is room -/
def roomN (n : Nat) : Nat := 1000 - n
def pushE (l : List Int) : Int := if 1000 ≤ l.length then 2 else 0
def pushL (l : List Int) (n : Int) : List Int := if 1000 ≤ l.length then l else l ++ [n]
def popE (l : List Int) : Int := if l.length = 0 then 4 else 0
def popL (l : List Int) : List Int := l.take (l.length - 1)
def stealL (l : List Int) : List Int := l.drop 1
def topD (l : List Int) : Int := l.getD 0 0
def lookB (l : List Int) : Bool := decide (0 < l.length)
def moveN (from_ to_ : List Int) (most : Int) : Nat := min (min most.toNat from_.length) (roomN to_.length)
def moveF (from_ to_ : List Int) (most : Int) : List Int := from_.drop (moveN from_ to_ most)
def moveT (from_ to_ : List Int) (most : Int) : List Int := to_ ++ from_.take (moveN from_ to_ most)

theorem getD_lt (l : List Int) (j : Nat) (h : j < l.length) : l.getD j 0 = l[j] := by
  rw [List.getD_eq_getElem?_getD, List.getElem?_eq_getElem h]; rfl
theorem getD_drop (l : List Int) (k j : Nat) : (l.drop k).getD j 0 = l.getD (k + j) 0 := by
  simp [List.getD_eq_getElem?_getD, List.getElem?_drop]
theorem getD_take (l : List Int) (k j : Nat) (h : j < k) : (l.take k).getD j 0 = l.getD j 0 := by
  simp [List.getD_eq_getElem?_getD, List.getElem?_take_of_lt h]
theorem popL_len (l : List Int) : (popL l).length = l.length - 1 := by unfold popL; rw [List.length_take]; omega
theorem stealL_len (l : List Int) : (stealL l).length = l.length - 1 := by unfold stealL; rw [List.length_drop]
theorem pushL_len_le (l : List Int) (n : Int) : (pushL l n).length ≤ l.length + 1 := by unfold pushL; split <;> simp
theorem moveN_from (f t : List Int) (m : Int) : moveN f t m ≤ f.length := by unfold moveN; omega
theorem moveF_len (f t : List Int) (m : Int) : (moveF f t m).length = f.length - moveN f t m := by unfold moveF; rw [List.length_drop]
theorem moveT_len (f t : List Int) (m : Int) : (moveT f t m).length = t.length + moveN f t m := by
  unfold moveT; rw [List.length_append, List.length_take]; have := moveN_from f t m; omega
theorem moveN_end (f t : List Int) (m : Int) (k : Nat) (hk : k ≤ moveN f t m) (h : m ≤ k ∨ f.length ≤ k ∨ 1000 ≤ t.length + k) : moveN f t m = k := by
  unfold moveN roomN at *
  rcases h with h | h | h <;> omega
theorem moveN_more (f t : List Int) (m : Int) (k : Nat) (h1 : (k : Int) < m) (h2 : k < f.length) (h3 : t.length + k < 1000) : k + 1 ≤ moveN f t m := by
  unfold moveN roomN
  omega
theorem drop_steal (f : List Int) (k : Nat) : stealL (f.drop k) = f.drop (k + 1) := by unfold stealL; rw [List.drop_drop]
theorem drop_top (f : List Int) (k : Nat) : topD (f.drop k) = f.getD k 0 := by unfold topD; rw [getD_drop]; rfl
theorem push_more (f t : List Int) (k : Nat) (h : k < f.length) (h3 : t.length + k < 1000) : pushL (t ++ f.take k) (f.getD k 0) = t ++ f.take (k + 1) := by
  unfold pushL
  rw [if_neg (by rw [List.length_append, List.length_take]; omega), List.append_assoc, take_snoc f k h]
theorem pushE_more (f t : List Int) (k : Nat) (h : k ≤ f.length) (h3 : t.length + k < 1000) : pushE (t ++ f.take k) = 0 := by
  unfold pushE
  rw [if_neg (by rw [List.length_append, List.length_take]; omega)]
theorem pushE_full (f t : List Int) (k : Nat) (h : k ≤ f.length) (h3 : 1000 ≤ t.length + k) : pushE (t ++ f.take k) = 2 := by
  unfold pushE
  rw [if_pos (by rw [List.length_append, List.length_take]; omega)]
theorem popE_more (f : List Int) (k : Nat) (h : k < f.length) : popE (f.drop k) = 0 := by
  unfold popE
  rw [if_neg (by rw [List.length_drop]; omega)]
theorem popE_end (f : List Int) (k : Nat) (h : f.length ≤ k) : popE (f.drop k) = 4 := by
  unfold popE
  rw [if_pos (by rw [List.length_drop]; omega)]
theorem push_small (l : List Int) (n : Int) (h : l.length < 1000) : pushL l n = l ++ [n] ∧ pushE l = 0 := by
  unfold pushL pushE; rw [if_neg (by omega), if_neg (by omega)]; exact ⟨rfl, rfl⟩
theorem pop_snoc (l : List Int) (n : Int) : popL (l ++ [n]) = l ∧ popE (l ++ [n]) = 0 ∧ lookB (l ++ [n]) = true ∧ lastD (l ++ [n]) = n := by
  refine ⟨by unfold popL; simp, by unfold popE; simp, by unfold lookB; simp, ?_⟩
  unfold lastD
  rw [List.getD_eq_getElem?_getD]
  simp
theorem popE_pos (l : List Int) (h : 0 < l.length) : popE l = 0 ∧ lookB l = true := by
  unfold popE lookB; rw [if_neg (by omega)]; exact ⟨rfl, by simpa using h⟩
theorem top_steal (l : List Int) (h : 0 < l.length) : [topD l] ++ stealL l = l := by
  cases l with
  | nil => simp at h
  | cons a l => rfl
end Go.Proofs.Ytjabahfkgaamdaa.Plain

/- The library's Grow and Concat at lists of integers; room of a deque. -/
namespace Go.Proofs.Ytjabahfkgaamdaa
open Go.RowKit Go.Proofs.Ytjabahfkgaamdaa.Plain

/-- a part of a list, from its beginning -/
theorem Ints.take {w : World} {A : Option Addr} {n c : Nat} {xs : List Int} (h : Ints w (.slice A n c) xs) (k c' : Nat) (hk : k ≤ xs.length) (hc : k ≤ c') : Ints w (.slice A k c') (xs.take k) := by
  obtain ⟨h1, h2, A', cap, hv, hcap, h3⟩ := h
  cases hv
  have hl : (xs.take k).length = k := by rw [List.length_take]; omega
  refine ⟨by rw [hl]; omega, fun n hn => h2 n (List.mem_of_mem_take hn), A, c', by rw [hl], by omega, fun hp => ?_⟩
  rw [hl] at hp
  obtain ⟨b, off, rfl, hcc⟩ := h3 (by omega)
  refine ⟨b, off, rfl, fun j hj => ?_⟩
  rw [hl] at hj
  rw [hcc j (by omega), getD_take _ _ _ hj]
/-- a part of a list, from a place on to its end -/
theorem Ints.drop {w : World} {b off n c : Nat} {xs : List Int} (h : Ints w (.slice (some ⟨b, off, none⟩) n c) xs) (k m c' : Nat) (hm : m = xs.length - k) (hc : m ≤ c') : Ints w (.slice (some ⟨b, off + k, none⟩) m c') (xs.drop k) := by
  obtain ⟨h1, h2, A', cap, hv, hcap, h3⟩ := h
  cases hv
  have hl : (xs.drop k).length = m := by rw [List.length_drop]; omega
  refine ⟨by rw [hl]; omega, fun n hn => h2 n (List.mem_of_mem_drop hn), _, c', by rw [hl], by omega, fun hp => ?_⟩
  obtain ⟨b', off', he, hcc⟩ := h3 (by omega)
  cases he
  refine ⟨b, off + k, rfl, fun j hj => ?_⟩
  rw [hl] at hj
  rw [Nat.add_assoc, hcc (k + j) (by omega), getD_drop]

theorem add_at (b off j : Nat) : (⟨b, off, none⟩ : Addr).add j = ⟨b, off + j, none⟩ := by
  by_cases h0 : j = 0
  · subst h0; rfl
  · simp [Addr.add, h0]
/-- .. as the walk writes it, where the address is open -/
theorem Ints.dropAdd {w : World} {ad : Addr} {n c : Nat} {xs : List Int} (h : Ints w (.slice (some ad) n c) xs) (k m c' : Nat) (hm : m = xs.length - k) (hc : m ≤ c') : Ints w (.slice (some (ad.add k)) m c') (xs.drop k) := by
  by_cases h0 : xs.drop k = []
  · have : m = 0 := by have := congrArg List.length h0; rw [List.length_drop] at this; simp at this; omega
    subst this
    rw [h0]
    exact Ints.nil _ _ _
  · have hl : 0 < xs.length := by
      cases xs with
      | nil => simp at h0
      | cons a l => simp
    obtain ⟨b, off, he, _⟩ := h.cells hl
    cases he
    rw [add_at]
    exact h.drop k m c' hm hc
theorem run_zeros (w : World) (n : Nat) (h0 : 0 < n) (hn : n ≤ 1048576) :
    (Builtin.append_ #[32, 3] 32 #[.slice none 0 0, .int .i64 n]).run Try.prog w =
      .ok (.slice (some ⟨w.heap.size, 0, none⟩) n (grownCap w n 0 3)) (w.drew.alloc (.cells (Builtin.zeroCells #[.int .i64 0] n ++ Builtin.zeroCells #[.int .i64 0] (grownCap w n 0 3 - n)) 3)) := by
  obtain ⟨i0, hi, hz0, hz1, hz2⟩ := info_parts intInfo
  exact Lib.run_append_nil_zeros w 32 3 32 3 i0 (.int .i64 0) .i64 .i64 Try.underlying32 Try.underlying3 hi hz0 n h0 (by omega) (by omega) (by rw [hz2]; omega)

theorem wpList_zeros {ops : Array Oper} {rest : List Oper} {o : Oper} {a : Act} {w : World} {Q : Exit → Act → World → Prop} (hgd : o.guard = none) (s x : Operand)
    (ho : o.op = .call { callee := .builtin .append, args := #[s, x], argTypes := #[32, 3] }) (hty : o.type = 32) (n : Nat) (hs : a.eval s = .slice none 0 0) (hx : a.eval x = .int .i64 n) (h0 : 0 < n) (hn : n ≤ 1048576)
    (h : ∀ (cap : Nat) (cur : Array Value), (n : Int) ≤ cap → cap ≤ maxLen → cur.size = cap → wpList Try.prog ops Q rest (a.put o.dst (.slice (some ⟨w.heap.size, 0, none⟩) n cap)) (w.drew.alloc (.cells cur 3))) : wpList Try.prog ops Q (o :: rest) a w :=
  wpList_plain hgd fun K hK => by
    unfold Oper.wp execOp
    simp only [ho, hty, resolve, invoke, builtin, Sem.run_bind, Sem.run_pure, Result.andThen_ok, List.map_toArray, List.map_cons, List.map_nil, hs, hx, run_zeros w n h0 hn]
    have hge := grownCap_ge w n 0 3
    refine hK _ _ (h _ _ (by omega) (grownCap_le_maxLen w n 0 3 (by unfold maxLen; omega)) ?_)
    simp only [Array.size_append, size_zeroCells]
    simp
    omega

/-- room is made: an empty list of the call's own -/
theorem grow_nil (n : Nat) (w : World) (hn : n ≤ 1048576) :
    Calls Try.prog 84 #[.slice none 0 0, .int .i64 n] w fun e w' => ∃ v, e = .returned v ∧ Own w.heap.size w' v [] ∧ Ext w w' := by
  by_cases h0 : 0 < n
  · have h0' : (0 : Int) < n := by omega
    go_enter Try.func84, Try.ntmps84
    go_wp2_with (at_builtin; refine wpList_zeros rfl _ _ rfl rfl n rfl rfl h0 hn ?_; intro cap cur hc1 hc2 hc3)
    go_ret
    exact ⟨_, rfl, Own.made w.drew _ _ (Nat.le_refl _) hc2 hc3, (Ext.refl w).drew.alloc _⟩
  · obtain rfl : n = 0 := by omega
    go_enter Try.func84, Try.ntmps84
    go_wp2
    go_ret
    exact ⟨_, rfl, Own.nil _ _, Ext.refl _⟩

/-- two lists, one behind the other -/
theorem concat_any (b o : Nat) (u v : Value) (xs ys : List Int) (w : World) (c0 : w.cell? ⟨b, o, none⟩ = some u) (c1 : w.cell? ⟨b, o + 1, none⟩ = some v) (h : Ints w u xs) (h' : Ints w v ys) (hl : xs.length + ys.length ≤ 1048576) :
    Calls Try.prog 80 #[.slice (some ⟨b, o, none⟩) 2 2] w fun e w' => ∃ v', e = .returned v' ∧ Own w.heap.size w' v' (xs ++ ys) ∧ Ext w w' := by
  obtain ⟨A, cA, rfl⟩ : ∃ A cA, u = .slice A xs.length cA := by obtain ⟨_, _, A, cA, rfl, _, _⟩ := h; exact ⟨A, cA, rfl⟩
  obtain ⟨B, cB, rfl⟩ : ∃ B cB, v = .slice B ys.length cB := by obtain ⟨_, _, A, cA, rfl, _, _⟩ := h'; exact ⟨A, cA, rfl⟩
  have HX := Lib.hid h
  have HY := Lib.hid h'
  clear h h'
  go_enter Try.func80, Try.ntmps80
  go_wp2
  go_loop [3, 11] (fun s i => (i = .int .i64 0 ∧ s = .int .i64 0) ∨ (i = .int .i64 1 ∧ s = .int .i64 xs.length) ∨ (i = .int .i64 2 ∧ s = .int .i64 (xs.length + ys.length : Nat))) (fun _ i => 2 - (intOf i).toNat)
  case atStart => exact .inl ⟨rfl, rfl⟩
  case round =>
    rcases hrel with ⟨rfl, rfl⟩ | ⟨rfl, rfl⟩ | ⟨rfl, rfl⟩
    · go_wp2
      go_round
      case rel => exact .inr (.inl ⟨by go_num, by go_num⟩)
      case measure => simp [intOf]
    · go_wp2
      go_round
      case rel => exact .inr (.inr ⟨by go_num, by go_num⟩)
      case measure => simp [intOf]
    · go_wp2_with fail
      refine (grow_nil _ _ hl).mono ?_
      rintro e w1 ⟨z, rfl, hown, hE⟩
      have HO := Lib.hid hown
      have HE := Lib.hid hE
      clear hown hE
      go_wp2
      go_loopw [6, 27] (fun v i wr => ((i = .int .i64 0 ∧ Own w.heap.size wr v []) ∨ (i = .int .i64 1 ∧ Own w.heap.size wr v xs) ∨ (i = .int .i64 2 ∧ Own w.heap.size wr v (xs ++ ys))) ∧ Ext w wr) (fun _ i _ => 2 - (intOf i).toNat)
      case atStart => exact ⟨.inl ⟨rfl, HO.out⟩, HE.out⟩
      case round =>
        obtain ⟨hr, hX⟩ := hrel
        have d0 := hX.cell c0
        have d1 := hX.cell c1
        have hz := hX.size
        rcases hr with ⟨rfl, hown⟩ | ⟨rfl, hown⟩ | ⟨rfl, hown⟩
        · go_wp2_with (at_builtin; refine wpList_app rfl _ _ rfl rfl w.heap.size _ [] rfl hown _ xs rfl (HX.out.ext hX) (by simp; omega) hz ?_; intro v' w2 hown2 hgrow2 hat2)
          go_roundw
          case rel => exact ⟨.inr (.inl ⟨by go_num, by simpa using hown2⟩), hX.grown hgrow2 (fun k hk => (hown.lt k hk).1)⟩
          case measure => simp [intOf]
        · go_wp2_with (at_builtin; refine wpList_app rfl _ _ rfl rfl w.heap.size _ xs rfl hown _ ys rfl (HY.out.ext hX) hl hz ?_; intro v' w2 hown2 hgrow2 hat2)
          go_roundw
          case rel => exact ⟨.inr (.inr ⟨by go_num, hown2⟩), hX.grown hgrow2 (fun k hk => (hown.lt k hk).1)⟩
          case measure => simp [intOf]
        · go_wp2
          go_ret
          exact ⟨_, rfl, hown, hX⟩
end Go.Proofs.Ytjabahfkgaamdaa
