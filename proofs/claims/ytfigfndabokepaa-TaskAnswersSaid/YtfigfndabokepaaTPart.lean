/- The document's Part of work. -/
import Derived.Test.YtfigfndabokepaaTCopy
import Derived.Test.YtfigfndabokepaaTGreat
namespace Go.Proofs.Ytfigfndabokepaa
open Go.BigFrame
open Go.RowKit Go.Proofs.Ytfigfndabokepaa.Plain

/-- the frame of Part and of Do: its work, and its answer's cells -/
def PAt (w : World) (A B : Option Addr) (c d n m : Nat) (g : Int) (w' : World) : Prop := Ext ((w.alloc (.cells #[.slice A m c, .int .i64 g, .slice B n d] 25)).alloc (.cells #[.slice none 0 0, .int .i64 0, .slice none 0 0] 25)) w'
theorem PAt.cells {w : World} {A B : Option Addr} {c d n m : Nat} {g : Int} {w' : World} (h : PAt w A B c d n m g w') :
    w'.cell? ⟨w.heap.size, 0, none⟩ = some (.slice A m c) ∧ w'.cell? ⟨w.heap.size, 1, none⟩ = some (.int .i64 g) ∧ w'.cell? ⟨w.heap.size, 2, none⟩ = some (.slice B n d) := by
  unfold PAt at h
  exact ⟨h.cell (by go_simp), h.cell (by go_simp), h.cell (by go_simp)⟩
theorem PAt.out {w : World} {A B : Option Addr} {c d n m : Nat} {g : Int} {w' : World} (h : PAt w A B c d n m g w') :
    w'.cell? ⟨w.heap.size + 1, 0, none⟩ = some (.slice none 0 0) ∧ w'.cell? ⟨w.heap.size + 1, 1, none⟩ = some (.int .i64 0) ∧ w'.cell? ⟨w.heap.size + 1, 2, none⟩ = some (.slice none 0 0) ∧ ∀ o, w'.frozen? ⟨w.heap.size + 1, o, none⟩ = false := by
  unfold PAt at h
  exact ⟨h.cell (by go_simp), h.cell (by go_simp), h.cell (by go_simp), fun o => (Below.frozen h (p := ⟨w.heap.size + 1, o, none⟩) (by simp)).trans (by go_simp)⟩
theorem PAt.ext {w : World} {A B : Option Addr} {c d n m : Nat} {g : Int} {w' : World} (h : PAt w A B c d n m g w') : Ext w w' := by
  unfold PAt at h
  exact (((Ext.refl w).alloc _).alloc _).trans h
theorem PAt.go {w : World} {A B : Option Addr} {c d n m : Nat} {g : Int} {w' w'' : World} (h : PAt w A B c d n m g w') (hE : Ext w' w'') : PAt w A B c d n m g w'' := Ext.trans h hE
/-- what Part refuses -/
def PNo (w : World) (A B : Option Addr) (c d n m : Nat) (g k : Int) (e : Ending) (w' : World) : Prop :=
  e = .returned (.tuple #[.agg #[.slice A m c, .int .i64 g, .slice B n d], .int .i64 0, .int .i64 0, .int .i64 k]) ∧ Ext w w'

set_option maxHeartbeats 1600000 in
set_option maxRecDepth 100000 in
theorem rpart_no (A B : Option Addr) (c d n : Nat) (ts : List Tk) (g i : Int) (w : World) (h : Rd kTask w (.slice A ts.length c) ts) (hn : n ≤ 9223372036854775807) (hg : in64 g) (hi : in64 i) (hr : wRight ts g n = false) :
    Calls Try.prog 9 #[.agg #[.slice A ts.length c, .int .i64 g, .slice B n d], .int .i64 i] w (PNo w A B c d n ts.length g 1) := by
  have H := Lib.hid h
  have hm := h.len
  have HG := Lib.hid hg
  have HI := Lib.hid hi
  have HYR := Lib.hid hr
  clear h hg hi hr
  go_enter Try.func9, Try.ntmps9
  go_wp2_with fail
  have hP : PAt w A B c d n ts.length g ((w.alloc (.cells #[.slice A ts.length c, .int .i64 g, .slice B n d] 25)).alloc (.cells #[.slice none 0 0, .int .i64 0, .slice none 0 0] 25)) := Ext.refl _
  refine (rright_any _ _ _ _ _ _ _ _ (H.out.ext hP.ext) hn HG.out).mono ?_
  rintro e w1 ⟨he, hE⟩
  rw [HYR.out] at he
  subst he
  replace hP := hP.go hE
  obtain ⟨q0, q1, q2⟩ := hP.cells
  have HP := Lib.hid hP
  clear hE hP
  obtain ⟨s0, s1, s2, s3⟩ := HP.out.out
  go_wp2_with fail
  refine bodyPost_ret (v := .tuple #[.agg #[.slice A ts.length c, .int .i64 g, .slice B n d], .int .i64 0, .int .i64 0, .int .i64 1]) (by simp [results, Try.results9, go_sem]; go_simp) rfl ⟨rfl, ?_⟩
  exact ((HP.out.ext.setCell (by simp) _).setCell (by simp) _).setCell (by simp) _

set_option maxHeartbeats 1600000 in
set_option maxRecDepth 100000 in
theorem rpart_none (A B : Option Addr) (c d n : Nat) (ts : List Tk) (g i : Int) (w : World) (h : Rd kTask w (.slice A ts.length c) ts) (hn : n ≤ 9223372036854775807) (hg : in64 g) (hi : in64 i) (hr : wRight ts g n = true) (hs : wHas ts.length i = false) :
    Calls Try.prog 9 #[.agg #[.slice A ts.length c, .int .i64 g, .slice B n d], .int .i64 i] w (PNo w A B c d n ts.length g 6) := by
  have H := Lib.hid h
  have hm := h.len
  have HG := Lib.hid hg
  have HI := Lib.hid hi
  have HYR := Lib.hid hr
  have HYS := Lib.hid hs
  clear h hg hi hr hs
  go_enter Try.func9, Try.ntmps9
  go_wp2_with fail
  have hP : PAt w A B c d n ts.length g ((w.alloc (.cells #[.slice A ts.length c, .int .i64 g, .slice B n d] 25)).alloc (.cells #[.slice none 0 0, .int .i64 0, .slice none 0 0] 25)) := Ext.refl _
  refine (rright_any _ _ _ _ _ _ _ _ (H.out.ext hP.ext) hn HG.out).mono ?_
  rintro e w1 ⟨he, hE⟩
  rw [HYR.out] at he
  subst he
  replace hP := hP.go hE
  obtain ⟨q0, q1, q2⟩ := hP.cells
  have HP := Lib.hid hP
  clear hE hP
  go_wp2_with fail
  have hP := HP.out
  clear HP q0 q1 q2
  refine (rhas_any _ _ _ _ _ _ _ _ _ hm).mono ?_
  rintro e w1 ⟨he, hE⟩
  rw [HYS.out] at he
  subst he
  replace hP := hP.go hE
  obtain ⟨q0, q1, q2⟩ := hP.cells
  have HP := Lib.hid hP
  clear hE hP
  obtain ⟨s0, s1, s2, s3⟩ := HP.out.out
  go_wp2_with fail
  refine bodyPost_ret (v := .tuple #[.agg #[.slice A ts.length c, .int .i64 g, .slice B n d], .int .i64 0, .int .i64 0, .int .i64 6]) (by simp [results, Try.results9, go_sem]; go_simp) rfl ⟨rfl, ?_⟩
  exact ((HP.out.ext.setCell (by simp) _).setCell (by simp) _).setCell (by simp) _

set_option maxHeartbeats 1600000 in
set_option maxRecDepth 100000 in
theorem rpart_small (A B : Option Addr) (c d n : Nat) (ts : List Tk) (g i : Int) (w : World) (h : Rd kTask w (.slice A ts.length c) ts) (hn : n ≤ 9223372036854775807) (hg : in64 g) (hi : in64 i) (hr : wRight ts g n = true) (hs : wHas ts.length i = true) (ht : wGreat ts g n i = false) :
    Calls Try.prog 9 #[.agg #[.slice A ts.length c, .int .i64 g, .slice B n d], .int .i64 i] w (PNo w A B c d n ts.length g 5) := by
  have H := Lib.hid h
  have hm := h.len
  have HG := Lib.hid hg
  have HI := Lib.hid hi
  have HYR := Lib.hid hr
  have HYS := Lib.hid hs
  have HYT := Lib.hid ht
  clear h hg hi hr hs ht
  go_enter Try.func9, Try.ntmps9
  go_wp2_with fail
  have hP : PAt w A B c d n ts.length g ((w.alloc (.cells #[.slice A ts.length c, .int .i64 g, .slice B n d] 25)).alloc (.cells #[.slice none 0 0, .int .i64 0, .slice none 0 0] 25)) := Ext.refl _
  refine (rright_any _ _ _ _ _ _ _ _ (H.out.ext hP.ext) hn HG.out).mono ?_
  rintro e w1 ⟨he, hE⟩
  rw [HYR.out] at he
  subst he
  replace hP := hP.go hE
  obtain ⟨q0, q1, q2⟩ := hP.cells
  have HP := Lib.hid hP
  clear hE hP
  go_wp2_with fail
  have hP := HP.out
  clear HP q0 q1 q2
  refine (rhas_any _ _ _ _ _ _ _ _ _ hm).mono ?_
  rintro e w1 ⟨he, hE⟩
  rw [HYS.out] at he
  subst he
  replace hP := hP.go hE
  obtain ⟨q0, q1, q2⟩ := hP.cells
  have HP := Lib.hid hP
  clear hE hP
  go_wp2_with fail
  have hP := HP.out
  clear HP q0 q1 q2
  refine (rgreat_any _ _ _ _ _ _ _ _ _ (H.out.ext hP.ext) hn HG.out HI.out).mono ?_
  rintro e w1 ⟨he, hE⟩
  rw [HYT.out] at he
  subst he
  replace hP := hP.go hE
  obtain ⟨q0, q1, q2⟩ := hP.cells
  have HP := Lib.hid hP
  clear hE hP
  obtain ⟨s0, s1, s2, s3⟩ := HP.out.out
  go_wp2_with fail
  refine bodyPost_ret (v := .tuple #[.agg #[.slice A ts.length c, .int .i64 g, .slice B n d], .int .i64 0, .int .i64 0, .int .i64 5]) (by simp [results, Try.results9, go_sem]; go_simp) rfl ⟨rfl, ?_⟩
  exact ((HP.out.ext.setCell (by simp) _).setCell (by simp) _).setCell (by simp) _

set_option maxHeartbeats 1600000 in
set_option maxRecDepth 100000 in
theorem rpart_wait (A B : Option Addr) (c d n : Nat) (ts : List Tk) (g : Int) (j : Nat) (w : World) (h : Rd kTask w (.slice A ts.length c) ts) (hn : n ≤ 9223372036854775807) (hg : in64 g) (hr : wRight ts g n = true) (hj : j < ts.length) (ht : wGreat ts g n j = true) (h3 : (ts.getD j tk0).wt ≠ 0) :
    Calls Try.prog 9 #[.agg #[.slice A ts.length c, .int .i64 g, .slice B n d], .int .i64 j] w (PNo w A B c d n ts.length g 5) := by
  have H := Lib.hid h
  have hm := h.len
  have HG := Lib.hid hg
  have HI : Hid (in64 (j : Int)) := Lib.hid (by unfold in64; omega)
  have HYR := Lib.hid hr
  have HYS : Hid (wHas ts.length (j : Int) = true) := Lib.hid (by unfold wHas; simp; omega)
  have HYT := Lib.hid ht
  obtain ⟨b, off, rfl, hcc⟩ := Rd.tasks H.out (by omega)
  obtain ⟨_, _, _, y3⟩ := hcc j hj
  have e0 : ts.getD j ⟨0, 0, 0, 0⟩ = ts.getD j tk0 := rfl
  rw [e0] at y3
  have hbd : in64 (ts.getD j tk0).wt := (H.out.okAt j hj).2.2.2
  obtain ⟨wt, hwt⟩ : ∃ x, (ts.getD j tk0).wt = x := ⟨_, rfl⟩
  rw [hwt] at y3 hbd h3
  obtain ⟨b1, b2⟩ := hbd
  have Y3 := Lib.hid y3
  have hj' : (j : Int) < ts.length := by omega
  have hj0 : (0 : Int) ≤ j := by omega
  have hwe : (wt == 0) = false := by simpa using h3
  clear h hg hr ht hcc e0 hwt y3
  go_enter Try.func9, Try.ntmps9
  go_wp2_with fail
  have hP : PAt w (some ⟨b, off, none⟩) B c d n ts.length g ((w.alloc (.cells #[.slice (some ⟨b, off, none⟩) ts.length c, .int .i64 g, .slice B n d] 25)).alloc (.cells #[.slice none 0 0, .int .i64 0, .slice none 0 0] 25)) := Ext.refl _
  refine (rright_any _ _ _ _ _ _ _ _ (H.out.ext hP.ext) hn HG.out).mono ?_
  rintro e w1 ⟨he, hE⟩
  rw [HYR.out] at he
  subst he
  replace hP := hP.go hE
  obtain ⟨q0, q1, q2⟩ := hP.cells
  have HP := Lib.hid hP
  clear hE hP
  go_wp2_with fail
  have hP := HP.out
  clear HP q0 q1 q2
  refine (rhas_any _ _ _ _ _ _ _ _ _ hm).mono ?_
  rintro e w1 ⟨he, hE⟩
  rw [HYS.out] at he
  subst he
  replace hP := hP.go hE
  obtain ⟨q0, q1, q2⟩ := hP.cells
  have HP := Lib.hid hP
  clear hE hP
  go_wp2_with fail
  have hP := HP.out
  clear HP q0 q1 q2
  refine (rgreat_any _ _ _ _ _ _ _ _ _ (H.out.ext hP.ext) hn HG.out HI.out).mono ?_
  rintro e w1 ⟨he, hE⟩
  rw [HYT.out] at he
  subst he
  replace hP := hP.go hE
  obtain ⟨q0, q1, q2⟩ := hP.cells
  have HP := Lib.hid hP
  clear hE hP
  obtain ⟨s0, s1, s2, s3⟩ := HP.out.out
  have q3 := HP.out.ext.cell Y3.out
  go_wp2_with fail
  refine bodyPost_ret (v := .tuple #[.agg #[.slice (some ⟨b, off, none⟩) ts.length c, .int .i64 g, .slice B n d], .int .i64 0, .int .i64 0, .int .i64 5]) (by simp [results, Try.results9, go_sem]; go_simp) rfl ⟨rfl, ?_⟩
  exact ((HP.out.ext.setCell (by simp) _).setCell (by simp) _).setCell (by simp) _

set_option maxHeartbeats 1600000 in
set_option maxRecDepth 100000 in
theorem rpart_full (A B : Option Addr) (c d n : Nat) (ts : List Tk) (g : Int) (j : Nat) (w : World) (h : Rd kTask w (.slice A ts.length c) ts) (hn : n ≤ 9223372036854775807) (hg : in64 g) (hr : wRight ts g n = true) (hj : j < ts.length) (ht : wGreat ts g n j = true) (h3 : (ts.getD j tk0).wt = 0) (hf : 1998 < ts.length) :
    Calls Try.prog 9 #[.agg #[.slice A ts.length c, .int .i64 g, .slice B n d], .int .i64 j] w (PNo w A B c d n ts.length g 2) := by
  have H := Lib.hid h
  have hm := h.len
  have HG := Lib.hid hg
  have HI : Hid (in64 (j : Int)) := Lib.hid (by unfold in64; omega)
  have HYR := Lib.hid hr
  have HYS : Hid (wHas ts.length (j : Int) = true) := Lib.hid (by unfold wHas; simp; omega)
  have HYT := Lib.hid ht
  obtain ⟨b, off, rfl, hcc⟩ := Rd.tasks H.out (by omega)
  obtain ⟨_, _, _, y3⟩ := hcc j hj
  have e0 : ts.getD j ⟨0, 0, 0, 0⟩ = ts.getD j tk0 := rfl
  rw [e0] at y3
  have hbd : in64 (ts.getD j tk0).wt := (H.out.okAt j hj).2.2.2
  obtain ⟨wt, hwt⟩ : ∃ x, (ts.getD j tk0).wt = x := ⟨_, rfl⟩
  rw [hwt] at y3 hbd h3
  obtain ⟨b1, b2⟩ := hbd
  have Y3 := Lib.hid y3
  have hj' : (j : Int) < ts.length := by omega
  have hj0 : (0 : Int) ≤ j := by omega
  have hf2 : (1998 : Int) < ts.length := by omega
  subst h3
  clear h hg hr ht hcc e0 hwt y3
  go_enter Try.func9, Try.ntmps9
  go_wp2_with fail
  have hP : PAt w (some ⟨b, off, none⟩) B c d n ts.length g ((w.alloc (.cells #[.slice (some ⟨b, off, none⟩) ts.length c, .int .i64 g, .slice B n d] 25)).alloc (.cells #[.slice none 0 0, .int .i64 0, .slice none 0 0] 25)) := Ext.refl _
  refine (rright_any _ _ _ _ _ _ _ _ (H.out.ext hP.ext) hn HG.out).mono ?_
  rintro e w1 ⟨he, hE⟩
  rw [HYR.out] at he
  subst he
  replace hP := hP.go hE
  obtain ⟨q0, q1, q2⟩ := hP.cells
  have HP := Lib.hid hP
  clear hE hP
  go_wp2_with fail
  have hP := HP.out
  clear HP q0 q1 q2
  refine (rhas_any _ _ _ _ _ _ _ _ _ hm).mono ?_
  rintro e w1 ⟨he, hE⟩
  rw [HYS.out] at he
  subst he
  replace hP := hP.go hE
  obtain ⟨q0, q1, q2⟩ := hP.cells
  have HP := Lib.hid hP
  clear hE hP
  go_wp2_with fail
  have hP := HP.out
  clear HP q0 q1 q2
  refine (rgreat_any _ _ _ _ _ _ _ _ _ (H.out.ext hP.ext) hn HG.out HI.out).mono ?_
  rintro e w1 ⟨he, hE⟩
  rw [HYT.out] at he
  subst he
  replace hP := hP.go hE
  obtain ⟨q0, q1, q2⟩ := hP.cells
  have HP := Lib.hid hP
  clear hE hP
  obtain ⟨s0, s1, s2, s3⟩ := HP.out.out
  have q3 := HP.out.ext.cell Y3.out
  go_wp2_with fail
  refine bodyPost_ret (v := .tuple #[.agg #[.slice (some ⟨b, off, none⟩) ts.length c, .int .i64 g, .slice B n d], .int .i64 0, .int .i64 0, .int .i64 2]) (by simp [results, Try.results9, go_sem]; go_simp) rfl ⟨rfl, ?_⟩
  exact ((HP.out.ext.setCell (by simp) _).setCell (by simp) _).setCell (by simp) _

end Go.Proofs.Ytfigfndabokepaa
