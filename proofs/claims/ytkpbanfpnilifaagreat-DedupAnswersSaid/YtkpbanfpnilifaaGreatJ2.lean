/- Joined by wip/merge.py: TPart2, TDo, TDo2, TDo3, TCop, TCnt, PPart, PDo, TBegin, PBegin, TAlive, TOnceB, LoL, CrMem, CrSmall, DPlain, DBase, CrLib, R5A, MonoW, RowW. -/
import Derived.Test.YtkpbanfpnilifaaGreatJ1
import Derived.Laws.EntriesVeiled
import Derived.Outline
import Derived.Laws.StructEq
import Derived.IntWalk
import Derived.Lib.AppendZeros
set_option linter.unusedVariables false
set_option linter.unusedSimpArgs false
set_option linter.unnecessarySimpa false
/- The document's Part of work, where it parts. -/
namespace Go.Proofs.YtkpbanfpnilifaaGreat
open Go.BigFrame
open Go.RowKit Go.Proofs.YtkpbanfpnilifaaGreat.Plain

/-- the walk stops here -/
def Stop (p : Prop) : Prop := p
theorem Stop.to {p : Prop} (h : Stop p) : p := h
theorem Stop.of {p : Prop} (h : p) : Stop p := h
theorem grown_far {w w' : World} {row : Option Nat} {b : Nat} (hg : w.grownBy w' row) (hb : b < w.heap.size) (hne : some b ≠ row) :
    (∀ o, w'.cell? ⟨b, o, none⟩ = w.cell? ⟨b, o, none⟩) ∧ (∀ o, w'.frozen? ⟨b, o, none⟩ = w.frozen? ⟨b, o, none⟩) :=
  ⟨fun o => World.cell?_of_block (a := ⟨b, o, none⟩) (hg.block b hb hne), fun o => World.frozen?_of_block (a := ⟨b, o, none⟩) (hg.block b hb hne)⟩
theorem PAt.two {w : World} {A B : Option Addr} {c d n m : Nat} {g : Int} {w' : World} (h : PAt w A B c d n m g w') : w.heap.size + 2 ≤ w'.heap.size := by
  have := Ext.size h
  simpa using this
theorem right_n {ts : List Tk} {g : Int} {n : Nat} (h : wRight ts g n = true) : 1 ≤ n ∧ n ≤ 1000 ∧ 1 ≤ ts.length ∧ ts.length ≤ 2000 ∧ 1 ≤ g ∧ g ≤ 100 := by
  unfold wRight at h
  rw [Bool.and_eq_true, wSized_iff] at h
  omega
theorem right_ok {ts : List Tk} {g : Int} {n : Nat} (h : wRight ts g n = true) (j : Nat) (hj : j < ts.length) : tkOk n j (ts.getD j tk0) = true := by
  unfold wRight at h
  rw [Bool.and_eq_true] at h
  exact wOkTo_at ts n ts.length h.2 j hj
/-- the tasks, the j-th of them parted -/
def partedTs (ts : List Tk) (j : Nat) : List Tk :=
  ts.set j ⟨(ts.getD j tk0).lo, (ts.getD j tk0).hi, (ts.getD j tk0).up, 2⟩ ++
    [⟨(ts.getD j tk0).lo, (ts.getD j tk0).lo + ((ts.getD j tk0).hi - (ts.getD j tk0).lo) / 2, j, 0⟩, ⟨(ts.getD j tk0).lo + ((ts.getD j tk0).hi - (ts.getD j tk0).lo) / 2, (ts.getD j tk0).hi, j, 0⟩]
/-- what Part gives -/
def PartSaid (w : World) (ts : List Tk) (g : Int) (dn : List Bool) (j : Nat) (e : Ending) (w' : World) : Prop :=
  ∃ A c B d, e = .returned (.tuple #[.agg #[.slice A (partedTs ts j).length c, .int .i64 g, .slice B dn.length d], .int .i64 ts.length, .int .i64 (ts.length + 1), .int .i64 0]) ∧
    Rd kTask w' (.slice A (partedTs ts j).length c) (partedTs ts j) ∧ Rd kBool w' (.slice B dn.length d) dn ∧ From w.heap.size A ∧ From w.heap.size B ∧ Ext w w'

set_option maxHeartbeats 1600000 in
set_option maxRecDepth 100000 in
theorem rpart_ok (A B : Option Addr) (c d : Nat) (ts : List Tk) (dn : List Bool) (g : Int) (j : Nat) (w : World) (h : Rd kTask w (.slice A ts.length c) ts) (hd : Rd kBool w (.slice B dn.length d) dn) (hg : in64 g) (hr : wRight ts g dn.length = true) (hj : j < ts.length) (ht : wGreat ts g dn.length j = true) (h3 : (ts.getD j tk0).wt = 0) (hf : ts.length ≤ 1998) :
    Calls Tryz.prog 76 #[.agg #[.slice A ts.length c, .int .i64 g, .slice B dn.length d], .int .i64 j] w (PartSaid w ts g dn j) := by
  have H := Lib.hid h
  have HD := Lib.hid hd
  have hn := hd.len
  have hnb := right_n hr
  have hm := h.len
  have HG := Lib.hid hg
  have HI : Hid (in64 (j : Int)) := Lib.hid (by unfold in64; omega)
  have HYR := Lib.hid hr
  have HYS : Hid (wHas ts.length (j : Int) = true) := Lib.hid (by unfold wHas; simp; omega)
  have HYT := Lib.hid ht
  obtain ⟨b, off, rfl, hcc⟩ := Rd.tasks H.out (by omega)
  obtain ⟨y0, y1, y2, y3⟩ := hcc j hj
  have e0 : ts.getD j ⟨0, 0, 0, 0⟩ = ts.getD j tk0 := rfl
  rw [e0] at y0 y1 y2 y3
  obtain ⟨o1, o2, o3, o4, o5, _⟩ := tkOk_iff dn.length j (ts.getD j tk0) |>.1 (right_ok hr j hj)
  obtain ⟨⟨lo, hi', up, wt⟩, htk⟩ : ∃ x, ts.getD j tk0 = x := ⟨_, rfl⟩
  have HTK := Lib.hid htk
  rw [htk] at y0 y1 y2 y3 h3 o1 o2 o3 o4 o5
  simp only at y0 y1 y2 y3 h3 o1 o2 o3 o4 o5
  have Y0 := Lib.hid y0
  have Y1 := Lib.hid y1
  have Y2 := Lib.hid y2
  have Y3 := Lib.hid y3
  have hj' : (j : Int) < ts.length := by omega
  have hj0 : (0 : Int) ≤ j := by omega
  have hf2 : ¬ (1998 : Int) < ts.length := by omega
  subst h3
  clear h hd hg hr ht hcc e0 htk y0 y1 y2 y3
  go_enter Tryz.func76, Tryz.ntmps76
  go_wp2_with fail
  have hP : PAt w (some ⟨b, off, none⟩) B c d dn.length ts.length g ((w.alloc (.cells #[.slice (some ⟨b, off, none⟩) ts.length c, .int .i64 g, .slice B dn.length d] 78)).alloc (.cells #[.slice none 0 0, .int .i64 0, .slice none 0 0] 78)) := Ext.refl _
  refine (rright_any _ _ _ _ _ _ _ _ (H.out.ext hP.ext) hn HG.out).mono ?_
  rintro e w1 ⟨he, hE⟩
  rw [HYR.out] at he
  subst he
  replace hP := hP.go hE
  obtain ⟨q0, q1, q2⟩ := hP.cells
  have HP := Lib.hid hP
  clear hE hP
  go_wp2_with fail
  have hP := HP.out
  clear HP q0 q1 q2
  refine (rhas_any _ _ _ _ _ _ _ _ _ hm).mono ?_
  rintro e w1 ⟨he, hE⟩
  rw [HYS.out] at he
  subst he
  replace hP := hP.go hE
  obtain ⟨q0, q1, q2⟩ := hP.cells
  have HP := Lib.hid hP
  clear hE hP
  go_wp2_with fail
  have hP := HP.out
  clear HP q0 q1 q2
  refine (rgreat_any _ _ _ _ _ _ _ _ _ (H.out.ext hP.ext) hn HG.out HI.out).mono ?_
  rintro e w1 ⟨he, hE⟩
  rw [HYT.out] at he
  subst he
  replace hP := hP.go hE
  obtain ⟨q0, q1, q2⟩ := hP.cells
  have HP := Lib.hid hP
  clear hE hP
  obtain ⟨s0, s1, s2, s3⟩ := HP.out.out
  have q3 := HP.out.ext.cell Y3.out
  have q4 := HP.out.ext.cell Y0.out
  have q5 := HP.out.ext.cell Y1.out
  go_wp2_with fail
  have hP1 := HP.out
  have HW1 := Lib.hid hP1.ext.size
  have hW1 := Lib.hid hP1.two
  clear s0 s1 s2 s3 q0 q1 q2 q3 q4 q5 HP
  refine (rcopy_any _ _ _ _ _ _ _ _ (H.out.ext hP1.ext) (HD.out.ext hP1.ext) (by omega) (by omega)).mono ?_
  rintro e w2 ⟨A3, c3, B3, d3, rfl, hO, hOD, hE⟩
  have hP := hP1.go hE
  obtain ⟨q0, q1, q2⟩ := hP.cells
  obtain ⟨s0, s1, s2, s3⟩ := hP.out
  have q3 := hP.ext.cell Y3.out
  have q4 := hP.ext.cell Y0.out
  have q5 := hP.ext.cell Y1.out
  have q6 := hP.ext.cell Y2.out
  have HP := Lib.hid hP
  have HO := Lib.hid hO
  have HOD := Lib.hid hOD
  obtain ⟨ga, rfl, ga1, ga2, ga3, ga4⟩ := Ow.pos hO (by omega)
  have gf : w2.frozen? ⟨ga, j * 4 + 3, none⟩ = false := ga4 (j * 4 + 3)
  have z2 := hE.size
  have gne0 : ga ≠ w.heap.size := by have := HW1.out; have := hP1.two; omega
  have gne1 : ga ≠ w.heap.size + 1 := by have := HW1.out; have := hP1.two; omega
  have v3 : w2.cell? ⟨ga, j * 4 + 3, none⟩ = some (.int .i64 0) := ga3 j hj 3 (.int .i64 0) (by have e : ts.getD j kTask.d = ts.getD j tk0 := rfl; rw [e, HTK.out]; rfl)
  clear hP hP1 hE hO hOD ga3 ga4
  have hW2 := HP.out.two
  have lb : b < w2.heap.size := World.block_lt_of_cell? _ _ q4
  have l0 : w.heap.size < w2.heap.size := by omega
  have l1 : w.heap.size + 1 < w2.heap.size := by omega
  have l2 : w.heap.size < w2.heap.size + 1 := by omega
  have l3 : w.heap.size + 1 < w2.heap.size + 1 := by omega
  have l4 : ga < w2.heap.size + 1 := by omega
  have l5 : b < w2.heap.size + 1 := by omega
  have l6 : w.heap.size < w2.heap.size + 1 + 1 := by omega
  have l7 : w.heap.size + 1 < w2.heap.size + 1 + 1 := by omega
  have l8 : ga < w2.heap.size + 1 + 1 := by omega
  have l9 : b < w2.heap.size + 1 + 1 := by omega
  have hos : Ow kTask _ (w2.setCell ⟨ga, j * 4 + 3, none⟩ (.int .i64 2)) (.slice (some ⟨ga, 0, none⟩) ts.length c3) (ts.set j ⟨lo, hi', up, 2⟩) := HO.out.set (j := j) (i := 3) hj (by decide) (by have e : ts.getD j kTask.d = ts.getD j tk0 := rfl; rw [e, HTK.out]; rfl) (tk_ok (by unfold in64; omega) (by unfold in64; omega) (by unfold in64; omega) (by unfold in64; omega))
  have HOS := Lib.hid hos
  have HWB := Lib.hid z2
  clear hos
  obtain ⟨M, hM⟩ : ∃ M, lo + (hi' - lo) / 2 = M := ⟨_, rfl⟩
  have M1 : lo ≤ M := by omega
  have M2 : M ≤ hi' := by omega
  have hlen : (ts.set j (⟨lo, hi', up, 2⟩ : Tk) ++ ([⟨lo, M, (j : Int), 0⟩, ⟨M, hi', (j : Int), 0⟩] : List Tk)).length = ts.length + 2 := by simp
  go_wp2_with (first | (at_builtin; refine Stop.to ?_) | fail)
  refine Stop.of ?_
  refine Kd.wpList_app kTask (by rfl) (.tmp 69) (.tmp 80) (by rfl) (by rfl) _ _ (ts.set j ⟨lo, hi', up, 2⟩) (by rfl) (HOS.out.ext ((((Ext.refl _).alloc _).alloc _).alloc _)) _ [⟨lo, M, j, 0⟩, ⟨M, hi', j, 0⟩] (by rfl) ?rd (by simp; omega) (by simp; omega) ?_
  case rd => exact ((Ow.lit (K := kTask) (B := 0) (p := w2.heap.size + 1 + 1) (n := 2) _ [⟨lo, M, j, 0⟩, ⟨M, hi', j, 0⟩] _ rfl rfl (by simp) (Nat.zero_le _) (by simp [maxLen]) (by intro x hx; simp only [List.mem_cons, List.not_mem_nil, or_false] at hx; rcases hx with rfl | rfl <;> exact tk_ok (by unfold in64; omega) (by unfold in64; omega) (by unfold in64; omega) (by unfold in64; omega))).rd)
  intro v' w4 hown' hgrow' hat'
  have hv' := hown'.slice
  rw [hlen] at hv'
  obtain ⟨A4, c4, rfl, _⟩ := hv'
  have hg : World.grownBy _ w4 (some ga) := hgrow'
  have p0 : w4.cell? ⟨w2.heap.size, 0, none⟩ = some (.slice (some ⟨ga, 0, none⟩) ts.length c3) := ((grown_far hg (b := w2.heap.size) (by simp; omega) (by simp; omega)).1 0).trans (by go_simp)
  have p1 : w4.cell? ⟨w2.heap.size, 1, none⟩ = some (.int .i64 g) := ((grown_far hg (b := w2.heap.size) (by simp; omega) (by simp; omega)).1 1).trans (by go_simp)
  have p2 : w4.cell? ⟨w2.heap.size, 2, none⟩ = some (.slice B3 dn.length d3) := ((grown_far hg (b := w2.heap.size) (by simp; omega) (by simp; omega)).1 2).trans (by go_simp)
  have p3 : ∀ o, w4.frozen? ⟨w2.heap.size, o, none⟩ = false := fun o => ((grown_far hg (b := w2.heap.size) (by simp; omega) (by simp; omega)).2 o).trans (by go_simp)
  have t0 : w4.cell? ⟨w.heap.size + 1, 0, none⟩ = some (.slice none 0 0) := ((grown_far hg (b := w.heap.size + 1) (by simp; omega) (by simp; omega)).1 0).trans (by go_simp)
  have t1 : w4.cell? ⟨w.heap.size + 1, 1, none⟩ = some (.int .i64 0) := ((grown_far hg (b := w.heap.size + 1) (by simp; omega) (by simp; omega)).1 1).trans (by go_simp)
  have t2 : w4.cell? ⟨w.heap.size + 1, 2, none⟩ = some (.slice none 0 0) := ((grown_far hg (b := w.heap.size + 1) (by simp; omega) (by simp; omega)).1 2).trans (by go_simp)
  have t3 : ∀ o, w4.frozen? ⟨w.heap.size + 1, o, none⟩ = false := fun o => ((grown_far hg (b := w.heap.size + 1) (by simp; omega) (by simp; omega)).2 o).trans (by have := s3 o; go_simp)
  have hat2 : ∀ k, (Value.slice A4 (ts.length + 2) c4).ownBlock = some k → k = ga ∨ k = w2.heap.size + 3 := by
    intro k hk
    rcases hat' with e | e
    · rw [hk] at e; left; simpa [Value.ownBlock] using e
    · rw [hk] at e; right; simpa using e
  have HAT := Lib.hid hat2
  have HOW := Lib.hid hown'
  have HGR := Lib.hid hg
  clear hown' hgrow' hat' hat2 hg
  clear hlen
  go_wp2_with fail
  have hPT : partedTs ts j = ts.set j ⟨lo, hi', up, 2⟩ ++ [⟨lo, M, j, 0⟩, ⟨M, hi', j, 0⟩] := by unfold partedTs; rw [HTK.out]; simp only; rw [hM]
  have hL : (partedTs ts j).length = ts.length + 2 := by rw [hPT]; simp
  have W1 := HW1.out
  have WB := HWB.out
  have hW1 := hW1.out
  have nb : ∀ k, (Value.slice A4 (ts.length + 2) c4).ownBlock = some k → k = ga ∨ k = w2.heap.size + 3 := HAT.out
  have hX2 : Ext w w4 := (((((HP.out.ext.setCell (by show _ ≤ ga; omega) _).alloc _).alloc _).alloc _)).grown HGR.out (by intro k hk; cases hk; omega)
  have hB3 : (Value.slice B3 dn.length d3).ownBlock ≠ some ga := Ow.far (by decide) HO.out HOD.out ga rfl
  have hB4 : (Value.slice B3 dn.length d3).ownBlock ≠ some w2.heap.size := fun h => by have := (HOD.out.lt _ h).2; omega
  have hOD4 := ((HOD.out.setOther (p := ⟨ga, j * 4 + 3, none⟩) hB3 (.int .i64 2)).ext ((((Ext.refl _).alloc _).alloc _).alloc _)).kept HGR.out (.inr hB3)
  refine bodyPost_ret (v := .tuple #[.agg #[.slice A4 (ts.length + 2) c4, .int .i64 g, .slice B3 dn.length d3], .int .i64 ts.length, .int .i64 (ts.length + 1), .int .i64 0]) (by simp [results, Tryz.results76, go_sem]; go_simp) rfl ⟨A4, c4, B3, d3, by rw [hL], ?_, ?_, ?_, ?_, ?_⟩
  · rw [hL, hPT]
    exact ((((HOW.out.setOther (p := ⟨w2.heap.size, 0, none⟩) (fun h => by have := nb _ h; simp at this; omega) _).setBelow (p := ⟨w.heap.size + 1, 0, none⟩) (by show w.heap.size + 1 < _; omega) _).setBelow (p := ⟨w.heap.size + 1, 1, none⟩) (by show w.heap.size + 1 < _; omega) _).setBelow (p := ⟨w.heap.size + 1, 2, none⟩) (by show w.heap.size + 1 < _; omega) _).rd
  · exact ((((hOD4.setOther (p := ⟨w2.heap.size, 0, none⟩) hB4 _).setBelow (p := ⟨w.heap.size + 1, 0, none⟩) (by show w.heap.size + 1 < _; omega) _).setBelow (p := ⟨w.heap.size + 1, 1, none⟩) (by show w.heap.size + 1 < _; omega) _).setBelow (p := ⟨w.heap.size + 1, 2, none⟩) (by show w.heap.size + 1 < _; omega) _).rd
  · exact (HOW.out.from).mono (by omega)
  · exact (HOD.out.from).mono (by omega)
  · exact (((hX2.setCell (p := ⟨w2.heap.size, 0, none⟩) (by show _ ≤ w2.heap.size; omega) _).setCell (p := ⟨w.heap.size + 1, 0, none⟩) (by show _ ≤ w.heap.size + 1; omega) _).setCell (p := ⟨w.heap.size + 1, 1, none⟩) (by show _ ≤ w.heap.size + 1; omega) _).setCell (p := ⟨w.heap.size + 1, 2, none⟩) (by show _ ≤ w.heap.size + 1; omega) _

/-- Part's word: 0, or why not -/
def partErr (ts : List Tk) (g : Int) (n : Nat) (i : Int) : Int :=
  if wRight ts g n = false then 1 else if wHas ts.length i = false then 6 else if wGreat ts g n i = false then 5 else if (tkAt ts i).wt ≠ 0 then 5 else if 1998 < ts.length then 2 else 0

theorem rpart_any (A B : Option Addr) (c d : Nat) (ts : List Tk) (dn : List Bool) (g i : Int) (w : World) (h : Rd kTask w (.slice A ts.length c) ts) (hd : Rd kBool w (.slice B dn.length d) dn) (hg : in64 g) (hi : in64 i) :
    Calls Tryz.prog 76 #[.agg #[.slice A ts.length c, .int .i64 g, .slice B dn.length d], .int .i64 i] w fun e w' =>
      (partErr ts g dn.length i ≠ 0 ∧ PNo w A B c d dn.length ts.length g (partErr ts g dn.length i) e w') ∨ (partErr ts g dn.length i = 0 ∧ PartSaid w ts g dn i.toNat e w') := by
  have hn := hd.len
  cases hr : wRight ts g dn.length with
  | false =>
    have he : partErr ts g dn.length i = 1 := by unfold partErr; rw [if_pos hr]
    rw [he]
    exact (rpart_no A B c d dn.length ts g i w h hn hg hi hr).mono fun e w' hh => .inl ⟨by decide, hh⟩
  | true =>
    cases hs : wHas ts.length i with
    | false =>
      have he : partErr ts g dn.length i = 6 := by unfold partErr; rw [if_neg (by rw [hr]; decide), if_pos hs]
      rw [he]
      exact (rpart_none A B c d dn.length ts g i w h hn hg hi hr hs).mono fun e w' hh => .inl ⟨by decide, hh⟩
    | true =>
      cases ht : wGreat ts g dn.length i with
      | false =>
        have he : partErr ts g dn.length i = 5 := by unfold partErr; rw [if_neg (by rw [hr]; decide), if_neg (by rw [hs]; decide), if_pos ht]
        rw [he]
        exact (rpart_small A B c d dn.length ts g i w h hn hg hi hr hs ht).mono fun e w' hh => .inl ⟨by decide, hh⟩
      | true =>
        have hsi : 0 ≤ i ∧ i < (ts.length : Int) := by unfold wHas at hs; simpa using hs
        obtain ⟨j, rfl⟩ : ∃ j : Nat, i = j := ⟨i.toNat, by omega⟩
        have hj : j < ts.length := by omega
        have e0 : tkAt ts (j : Int) = ts.getD j tk0 := by unfold tkAt; rw [Int.toNat_natCast]
        by_cases hw : (ts.getD j tk0).wt = 0
        · by_cases hf : 1998 < ts.length
          · have he : partErr ts g dn.length (j : Int) = 2 := by unfold partErr; rw [if_neg (by rw [hr]; decide), if_neg (by rw [hs]; decide), if_neg (by rw [ht]; decide), e0, if_neg (by simpa using hw), if_pos hf]
            rw [he]
            exact (rpart_full A B c d dn.length ts g j w h hn hg hr hj ht hw hf).mono fun e w' hh => .inl ⟨by decide, hh⟩
          · have he : partErr ts g dn.length (j : Int) = 0 := by unfold partErr; rw [if_neg (by rw [hr]; decide), if_neg (by rw [hs]; decide), if_neg (by rw [ht]; decide), e0, if_neg (by simpa using hw), if_neg hf]
            rw [he]
            exact (rpart_ok A B c d ts dn g j w h hd hg hr hj ht hw (by omega)).mono fun e w' hh => .inr ⟨rfl, by rw [Int.toNat_natCast]; exact hh⟩
        · have he : partErr ts g dn.length (j : Int) = 5 := by unfold partErr; rw [if_neg (by rw [hr]; decide), if_neg (by rw [hs]; decide), if_neg (by rw [ht]; decide), e0, if_pos hw]
          rw [he]
          exact (rpart_wait A B c d dn.length ts g j w h hn hg hr hj ht hw).mono fun e w' hh => .inl ⟨by decide, hh⟩
end Go.Proofs.YtkpbanfpnilifaaGreat

/- The document's Do of work: what it refuses. Written by wip/mk_tdo.py. -/
namespace Go.Proofs.YtkpbanfpnilifaaGreat
open Go.BigFrame
open Go.RowKit Go.Proofs.YtkpbanfpnilifaaGreat.Plain

/-- what Do refuses -/
def DNo (w : World) (A B : Option Addr) (c d n m : Nat) (g k : Int) (e : Ending) (w' : World) : Prop :=
  e = .returned (.tuple #[.agg #[.slice A m c, .int .i64 g, .slice B n d], .bool false, .int .i64 k]) ∧ Ext w w'

set_option maxHeartbeats 1600000 in
set_option maxRecDepth 100000 in
theorem rdo_no (A B : Option Addr) (c d n : Nat) (ts : List Tk) (g i : Int) (w : World) (h : Rd kTask w (.slice A ts.length c) ts) (hn : n ≤ 9223372036854775807) (hg : in64 g) (hi : in64 i) (hr : wRight ts g n = false) :
    Calls Tryz.prog 77 #[.agg #[.slice A ts.length c, .int .i64 g, .slice B n d], .int .i64 i] w (DNo w A B c d n ts.length g 1) := by
  have H := Lib.hid h
  have hm := h.len
  have HG := Lib.hid hg
  have HI := Lib.hid hi
  have HYR := Lib.hid hr
  clear h hg hi hr
  go_enter Tryz.func77, Tryz.ntmps77
  go_wp2_with fail
  have hP : PAt w A B c d n ts.length g ((w.alloc (.cells #[.slice A ts.length c, .int .i64 g, .slice B n d] 78)).alloc (.cells #[.slice none 0 0, .int .i64 0, .slice none 0 0] 78)) := Ext.refl _
  refine (rright_any _ _ _ _ _ _ _ _ (H.out.ext hP.ext) hn HG.out).mono ?_
  rintro e w1 ⟨he, hE⟩
  rw [HYR.out] at he
  subst he
  replace hP := hP.go hE
  obtain ⟨q0, q1, q2⟩ := hP.cells
  have HP := Lib.hid hP
  clear hE hP
  obtain ⟨s0, s1, s2, s3⟩ := HP.out.out
  go_wp2_with fail
  refine bodyPost_ret (v := .tuple #[.agg #[.slice A ts.length c, .int .i64 g, .slice B n d], .bool false, .int .i64 1]) (by simp [results, Tryz.results77, go_sem]; go_simp) rfl ⟨rfl, ?_⟩
  exact ((HP.out.ext.setCell (by simp) _).setCell (by simp) _).setCell (by simp) _

set_option maxHeartbeats 1600000 in
set_option maxRecDepth 100000 in
theorem rdo_none (A B : Option Addr) (c d n : Nat) (ts : List Tk) (g i : Int) (w : World) (h : Rd kTask w (.slice A ts.length c) ts) (hn : n ≤ 9223372036854775807) (hg : in64 g) (hi : in64 i) (hr : wRight ts g n = true) (hs : wHas ts.length i = false) :
    Calls Tryz.prog 77 #[.agg #[.slice A ts.length c, .int .i64 g, .slice B n d], .int .i64 i] w (DNo w A B c d n ts.length g 6) := by
  have H := Lib.hid h
  have hm := h.len
  have HG := Lib.hid hg
  have HI := Lib.hid hi
  have HYR := Lib.hid hr
  have HYS := Lib.hid hs
  clear h hg hi hr hs
  go_enter Tryz.func77, Tryz.ntmps77
  go_wp2_with fail
  have hP : PAt w A B c d n ts.length g ((w.alloc (.cells #[.slice A ts.length c, .int .i64 g, .slice B n d] 78)).alloc (.cells #[.slice none 0 0, .int .i64 0, .slice none 0 0] 78)) := Ext.refl _
  refine (rright_any _ _ _ _ _ _ _ _ (H.out.ext hP.ext) hn HG.out).mono ?_
  rintro e w1 ⟨he, hE⟩
  rw [HYR.out] at he
  subst he
  replace hP := hP.go hE
  obtain ⟨q0, q1, q2⟩ := hP.cells
  have HP := Lib.hid hP
  clear hE hP
  go_wp2_with fail
  have hP := HP.out
  clear HP q0 q1 q2
  refine (rhas_any _ _ _ _ _ _ _ _ _ hm).mono ?_
  rintro e w1 ⟨he, hE⟩
  rw [HYS.out] at he
  subst he
  replace hP := hP.go hE
  obtain ⟨q0, q1, q2⟩ := hP.cells
  have HP := Lib.hid hP
  clear hE hP
  obtain ⟨s0, s1, s2, s3⟩ := HP.out.out
  go_wp2_with fail
  refine bodyPost_ret (v := .tuple #[.agg #[.slice A ts.length c, .int .i64 g, .slice B n d], .bool false, .int .i64 6]) (by simp [results, Tryz.results77, go_sem]; go_simp) rfl ⟨rfl, ?_⟩
  exact ((HP.out.ext.setCell (by simp) _).setCell (by simp) _).setCell (by simp) _

set_option maxHeartbeats 1600000 in
set_option maxRecDepth 100000 in
theorem rdo_great (A B : Option Addr) (c d n : Nat) (ts : List Tk) (g i : Int) (w : World) (h : Rd kTask w (.slice A ts.length c) ts) (hn : n ≤ 9223372036854775807) (hg : in64 g) (hi : in64 i) (hr : wRight ts g n = true) (hs : wHas ts.length i = true) (ht : wGreat ts g n i = true) :
    Calls Tryz.prog 77 #[.agg #[.slice A ts.length c, .int .i64 g, .slice B n d], .int .i64 i] w (DNo w A B c d n ts.length g 5) := by
  have H := Lib.hid h
  have hm := h.len
  have HG := Lib.hid hg
  have HI := Lib.hid hi
  have HYR := Lib.hid hr
  have HYS := Lib.hid hs
  have HYT := Lib.hid ht
  clear h hg hi hr hs ht
  go_enter Tryz.func77, Tryz.ntmps77
  go_wp2_with fail
  have hP : PAt w A B c d n ts.length g ((w.alloc (.cells #[.slice A ts.length c, .int .i64 g, .slice B n d] 78)).alloc (.cells #[.slice none 0 0, .int .i64 0, .slice none 0 0] 78)) := Ext.refl _
  refine (rright_any _ _ _ _ _ _ _ _ (H.out.ext hP.ext) hn HG.out).mono ?_
  rintro e w1 ⟨he, hE⟩
  rw [HYR.out] at he
  subst he
  replace hP := hP.go hE
  obtain ⟨q0, q1, q2⟩ := hP.cells
  have HP := Lib.hid hP
  clear hE hP
  go_wp2_with fail
  have hP := HP.out
  clear HP q0 q1 q2
  refine (rhas_any _ _ _ _ _ _ _ _ _ hm).mono ?_
  rintro e w1 ⟨he, hE⟩
  rw [HYS.out] at he
  subst he
  replace hP := hP.go hE
  obtain ⟨q0, q1, q2⟩ := hP.cells
  have HP := Lib.hid hP
  clear hE hP
  go_wp2_with fail
  have hP := HP.out
  clear HP q0 q1 q2
  have hall : ∀ w', PAt w A B c d n ts.length g w' → (w'.cell? ⟨w.heap.size, 0, none⟩ = some (.slice A ts.length c) ∧ w'.cell? ⟨w.heap.size, 1, none⟩ = some (.int .i64 g) ∧ w'.cell? ⟨w.heap.size, 2, none⟩ = some (.slice B n d)) :=
    fun w' hE => ⟨hE.cells.1, hE.cells.2.1, hE.cells.2.2⟩
  have HALL := Lib.hid hall
  clear hall
  refine wp_region_class (PAt w A B c d n ts.length g) (by kernel_rfl) (by kernel_rfl) (hP.go (Ext.refl _).drew) ?_
  repeat (first
    | go_big_quiet_skip
    | (go_big_quiet_want
       first
       | (go_big_quiet_op; go_big_quiet_on)
       | (unfold Oper.quiet
          apply Exists.intro
          refine ⟨fun w' hC => ?_, ?_⟩
          · (obtain ⟨k0, k1, k2⟩ := HALL.out w' hC
             unfold Oper.quietAt
             go_simp
             exact rfl)
          go_simp
          go_big_quiet_on)
       | (go_big_quiet_op
          apply Exists.intro
          refine ⟨fun w' hC => ?_, ?_⟩
          · exact (rgreat_any _ _ _ _ _ _ _ _ _ (H.out.ext hC.ext) hn HG.out HI.out).mono fun e w'' h => ⟨h.1.trans (ret_bool HYT.out), hC.go h.2⟩
          go_big_quiet_on)))
  refine wpQuiet_nil ?_
  intro w3 hP3
  obtain ⟨q0, q1, q2⟩ := hP3.cells
  obtain ⟨s0, s1, s2, s3⟩ := hP3.out
  have HP := Lib.hid hP3
  clear hP3 hP
  go_wp2_with fail
  refine bodyPost_ret (v := .tuple #[.agg #[.slice A ts.length c, .int .i64 g, .slice B n d], .bool false, .int .i64 5]) (by simp [results, Tryz.results77, go_sem]; go_simp) rfl ⟨rfl, ?_⟩
  exact ((HP.out.ext.setCell (by simp) _).setCell (by simp) _).setCell (by simp) _

set_option maxHeartbeats 1600000 in
set_option maxRecDepth 100000 in
theorem rdo_wait (A B : Option Addr) (c d : Nat) (ts : List Tk) (dn : List Bool) (g : Int) (j : Nat) (w : World) (h : Rd kTask w (.slice A ts.length c) ts) (hd : Rd kBool w (.slice B dn.length d) dn) (hg : in64 g) (hr : wRight ts g dn.length = true) (hj : j < ts.length) (ht : wGreat ts g dn.length j = false) (h3 : (ts.getD j tk0).wt ≠ 0) :
    Calls Tryz.prog 77 #[.agg #[.slice A ts.length c, .int .i64 g, .slice B dn.length d], .int .i64 j] w (DNo w A B c d dn.length ts.length g 5) := by
  have H := Lib.hid h
  have HD := Lib.hid hd
  have hn := hd.len
  have hnb := right_n hr
  have hm := h.len
  have HG := Lib.hid hg
  have HI : Hid (in64 (j : Int)) := Lib.hid (by unfold in64; omega)
  have HYR := Lib.hid hr
  have HYS : Hid (wHas ts.length (j : Int) = true) := Lib.hid (by unfold wHas; simp; omega)
  have HYT := Lib.hid ht
  obtain ⟨b, off, rfl, hcc⟩ := Rd.tasks H.out (by omega)
  obtain ⟨y0, y1, y2, y3⟩ := hcc j hj
  have e0 : ts.getD j ⟨0, 0, 0, 0⟩ = ts.getD j tk0 := rfl
  rw [e0] at y0 y1 y2 y3
  obtain ⟨o1, o2, o3, o4, o5, _⟩ := tkOk_iff dn.length j (ts.getD j tk0) |>.1 (right_ok hr j hj)
  obtain ⟨⟨lo, hi', up, wt⟩, htk⟩ : ∃ x, ts.getD j tk0 = x := ⟨_, rfl⟩
  have hbd : in64 (ts.getD j tk0).wt := (H.out.okAt j hj).2.2.2
  have HTK := Lib.hid htk
  rw [htk] at y0 y1 y2 y3 h3 o1 o2 o3 o4 o5 hbd
  simp only at y0 y1 y2 y3 h3 o1 o2 o3 o4 o5 hbd
  obtain ⟨b1, b2⟩ := hbd
  have Y0 := Lib.hid y0
  have Y3 := Lib.hid y3
  have hj' : (j : Int) < ts.length := by omega
  have hj0 : (0 : Int) ≤ j := by omega
  have hwn : (wt != 0) = true := by simpa using h3
  have hwe : (wt == 0) = false := by simpa using h3
  clear h hd hg hr ht hcc e0 htk y0 y1 y2 y3
  go_enter Tryz.func77, Tryz.ntmps77
  go_wp2_with fail
  have hP : PAt w (some ⟨b, off, none⟩) B c d dn.length ts.length g ((w.alloc (.cells #[.slice (some ⟨b, off, none⟩) ts.length c, .int .i64 g, .slice B dn.length d] 78)).alloc (.cells #[.slice none 0 0, .int .i64 0, .slice none 0 0] 78)) := Ext.refl _
  refine (rright_any _ _ _ _ _ _ _ _ (H.out.ext hP.ext) hn HG.out).mono ?_
  rintro e w1 ⟨he, hE⟩
  rw [HYR.out] at he
  subst he
  replace hP := hP.go hE
  obtain ⟨q0, q1, q2⟩ := hP.cells
  have HP := Lib.hid hP
  clear hE hP
  go_wp2_with fail
  have hP := HP.out
  clear HP q0 q1 q2
  refine (rhas_any _ _ _ _ _ _ _ _ _ hm).mono ?_
  rintro e w1 ⟨he, hE⟩
  rw [HYS.out] at he
  subst he
  replace hP := hP.go hE
  obtain ⟨q0, q1, q2⟩ := hP.cells
  have HP := Lib.hid hP
  clear hE hP
  go_wp2_with fail
  have hP := HP.out
  clear HP q0 q1 q2
  have hall : ∀ w', PAt w (some ⟨b, off, none⟩) B c d dn.length ts.length g w' → (w'.cell? ⟨w.heap.size, 0, none⟩ = some (.slice (some ⟨b, off, none⟩) ts.length c) ∧ w'.cell? ⟨w.heap.size, 1, none⟩ = some (.int .i64 g) ∧ w'.cell? ⟨w.heap.size, 2, none⟩ = some (.slice B dn.length d) ∧ w'.cell? ⟨b, off + j * 4 + 3, none⟩ = some (.int .i64 wt)) :=
    fun w' hE => ⟨hE.cells.1, hE.cells.2.1, hE.cells.2.2, hE.ext.cell Y3.out⟩
  have HALL := Lib.hid hall
  clear hall
  refine wp_region_class (PAt w (some ⟨b, off, none⟩) B c d dn.length ts.length g) (by kernel_rfl) (by kernel_rfl) (hP.go (Ext.refl _).drew) ?_
  repeat (first
    | go_big_quiet_skip
    | (go_big_quiet_want
       first
       | (go_big_quiet_op; go_big_quiet_on)
       | (unfold Oper.quiet
          apply Exists.intro
          refine ⟨fun w' hC => ?_, ?_⟩
          · (obtain ⟨k0, k1, k2, k3⟩ := HALL.out w' hC
             unfold Oper.quietAt
             go_simp
             exact rfl)
          go_simp
          go_big_quiet_on)
       | (go_big_quiet_op
          apply Exists.intro
          refine ⟨fun w' hC => ?_, ?_⟩
          · exact (rgreat_any _ _ _ _ _ _ _ _ _ (H.out.ext hC.ext) hn HG.out HI.out).mono fun e w'' h => ⟨h.1.trans (ret_bool HYT.out), hC.go h.2⟩
          go_big_quiet_on)))
  refine wpQuiet_nil ?_
  intro w3 hP3
  obtain ⟨q0, q1, q2⟩ := hP3.cells
  obtain ⟨s0, s1, s2, s3⟩ := hP3.out
  have HP := Lib.hid hP3
  clear hP3 hP
  go_wp2_with fail
  refine bodyPost_ret (v := .tuple #[.agg #[.slice (some ⟨b, off, none⟩) ts.length c, .int .i64 g, .slice B dn.length d], .bool false, .int .i64 5]) (by simp [results, Tryz.results77, go_sem]; go_simp) rfl ⟨rfl, ?_⟩
  exact ((HP.out.ext.setCell (by simp) _).setCell (by simp) _).setCell (by simp) _

set_option maxHeartbeats 1600000 in
set_option maxRecDepth 100000 in
theorem rdo_done (A B : Option Addr) (c d : Nat) (ts : List Tk) (dn : List Bool) (g : Int) (j : Nat) (w : World) (h : Rd kTask w (.slice A ts.length c) ts) (hd : Rd kBool w (.slice B dn.length d) dn) (hg : in64 g) (hr : wRight ts g dn.length = true) (hj : j < ts.length) (ht : wGreat ts g dn.length j = false) (h3 : (ts.getD j tk0).wt = 0) (hdn : dn.getD (ts.getD j tk0).lo.toNat false = true) :
    Calls Tryz.prog 77 #[.agg #[.slice A ts.length c, .int .i64 g, .slice B dn.length d], .int .i64 j] w (DNo w A B c d dn.length ts.length g 5) := by
  have H := Lib.hid h
  have HD := Lib.hid hd
  have hn := hd.len
  have hnb := right_n hr
  have hm := h.len
  have HG := Lib.hid hg
  have HI : Hid (in64 (j : Int)) := Lib.hid (by unfold in64; omega)
  have HYR := Lib.hid hr
  have HYS : Hid (wHas ts.length (j : Int) = true) := Lib.hid (by unfold wHas; simp; omega)
  have HYT := Lib.hid ht
  obtain ⟨b, off, rfl, hcc⟩ := Rd.tasks H.out (by omega)
  obtain ⟨y0, y1, y2, y3⟩ := hcc j hj
  have e0 : ts.getD j ⟨0, 0, 0, 0⟩ = ts.getD j tk0 := rfl
  rw [e0] at y0 y1 y2 y3
  obtain ⟨o1, o2, o3, o4, o5, _⟩ := tkOk_iff dn.length j (ts.getD j tk0) |>.1 (right_ok hr j hj)
  obtain ⟨⟨lo, hi', up, wt⟩, htk⟩ : ∃ x, ts.getD j tk0 = x := ⟨_, rfl⟩
  have hbd : in64 (ts.getD j tk0).wt := (H.out.okAt j hj).2.2.2
  have HTK := Lib.hid htk
  rw [htk] at y0 y1 y2 y3 h3 o1 o2 o3 o4 o5 hbd
  simp only at y0 y1 y2 y3 h3 o1 o2 o3 o4 o5 hbd
  obtain ⟨b1, b2⟩ := hbd
  have Y0 := Lib.hid y0
  have Y3 := Lib.hid y3
  have hj' : (j : Int) < ts.length := by omega
  have hj0 : (0 : Int) ≤ j := by omega
  obtain ⟨L, rfl⟩ : ∃ L : Nat, lo = L := ⟨lo.toNat, by omega⟩
  obtain ⟨bb, boff, rfl, hbc⟩ := Rd.bools HD.out (by omega)
  have z0 := hbc L (by omega)
  have hdL : dn.getD L false = true := by rw [HTK.out] at hdn; simpa using hdn
  rw [hdL] at z0
  have Z0 := Lib.hid z0
  have hL' : (L : Int) < dn.length := by omega
  have hL0 : (0 : Int) ≤ L := by omega
  subst h3
  clear hbc z0 hdn hdL
  clear h hd hg hr ht hcc e0 htk y0 y1 y2 y3
  go_enter Tryz.func77, Tryz.ntmps77
  go_wp2_with fail
  have hP : PAt w (some ⟨b, off, none⟩) (some ⟨bb, boff, none⟩) c d dn.length ts.length g ((w.alloc (.cells #[.slice (some ⟨b, off, none⟩) ts.length c, .int .i64 g, .slice (some ⟨bb, boff, none⟩) dn.length d] 78)).alloc (.cells #[.slice none 0 0, .int .i64 0, .slice none 0 0] 78)) := Ext.refl _
  refine (rright_any _ _ _ _ _ _ _ _ (H.out.ext hP.ext) hn HG.out).mono ?_
  rintro e w1 ⟨he, hE⟩
  rw [HYR.out] at he
  subst he
  replace hP := hP.go hE
  obtain ⟨q0, q1, q2⟩ := hP.cells
  have HP := Lib.hid hP
  clear hE hP
  go_wp2_with fail
  have hP := HP.out
  clear HP q0 q1 q2
  refine (rhas_any _ _ _ _ _ _ _ _ _ hm).mono ?_
  rintro e w1 ⟨he, hE⟩
  rw [HYS.out] at he
  subst he
  replace hP := hP.go hE
  obtain ⟨q0, q1, q2⟩ := hP.cells
  have HP := Lib.hid hP
  clear hE hP
  go_wp2_with fail
  have hP := HP.out
  clear HP q0 q1 q2
  have hall : ∀ w', PAt w (some ⟨b, off, none⟩) (some ⟨bb, boff, none⟩) c d dn.length ts.length g w' → (w'.cell? ⟨w.heap.size, 0, none⟩ = some (.slice (some ⟨b, off, none⟩) ts.length c) ∧ w'.cell? ⟨w.heap.size, 1, none⟩ = some (.int .i64 g) ∧ w'.cell? ⟨w.heap.size, 2, none⟩ = some (.slice (some ⟨bb, boff, none⟩) dn.length d) ∧ w'.cell? ⟨b, off + j * 4 + 3, none⟩ = some (.int .i64 0) ∧ w'.cell? ⟨b, off + j * 4, none⟩ = some (.int .i64 L) ∧ w'.cell? ⟨bb, boff + L, none⟩ = some (.bool true)) :=
    fun w' hE => ⟨hE.cells.1, hE.cells.2.1, hE.cells.2.2, hE.ext.cell Y3.out, hE.ext.cell Y0.out, hE.ext.cell Z0.out⟩
  have HALL := Lib.hid hall
  clear hall
  refine wp_region_class (PAt w (some ⟨b, off, none⟩) (some ⟨bb, boff, none⟩) c d dn.length ts.length g) (by kernel_rfl) (by kernel_rfl) (hP.go (Ext.refl _).drew) ?_
  repeat (first
    | go_big_quiet_skip
    | (go_big_quiet_want
       first
       | (go_big_quiet_op; go_big_quiet_on)
       | (unfold Oper.quiet
          apply Exists.intro
          refine ⟨fun w' hC => ?_, ?_⟩
          · (obtain ⟨k0, k1, k2, k3, k4, k5⟩ := HALL.out w' hC
             unfold Oper.quietAt
             go_simp
             exact rfl)
          go_simp
          go_big_quiet_on)
       | (go_big_quiet_op
          apply Exists.intro
          refine ⟨fun w' hC => ?_, ?_⟩
          · exact (rgreat_any _ _ _ _ _ _ _ _ _ (H.out.ext hC.ext) hn HG.out HI.out).mono fun e w'' h => ⟨h.1.trans (ret_bool HYT.out), hC.go h.2⟩
          go_big_quiet_on)))
  refine wpQuiet_nil ?_
  intro w3 hP3
  obtain ⟨q0, q1, q2⟩ := hP3.cells
  obtain ⟨s0, s1, s2, s3⟩ := hP3.out
  have HP := Lib.hid hP3
  clear hP3 hP
  go_wp2_with fail
  refine bodyPost_ret (v := .tuple #[.agg #[.slice (some ⟨b, off, none⟩) ts.length c, .int .i64 g, .slice (some ⟨bb, boff, none⟩) dn.length d], .bool false, .int .i64 5]) (by simp [results, Tryz.results77, go_sem]; go_simp) rfl ⟨rfl, ?_⟩
  exact ((HP.out.ext.setCell (by simp) _).setCell (by simp) _).setCell (by simp) _

end Go.Proofs.YtkpbanfpnilifaaGreat

/- The document's Do of work, where it does. Written by wip/mk_tdo2.py. -/
namespace Go.Proofs.YtkpbanfpnilifaaGreat
open Go.BigFrame
open Go.RowKit Go.Proofs.YtkpbanfpnilifaaGreat.Plain

/-- the world while Do marks and climbs: its own tasks and units, all else as it was -/
structure DAt (w W : World) (B ga gb c3 d3 : Nat) (wr : World) (us : List Tk) (ds : List Bool) : Prop where
  far : ∀ b o, b < W.heap.size → b ≠ ga → b ≠ gb → wr.cell? ⟨b, o, none⟩ = W.cell? ⟨b, o, none⟩
  fro : ∀ b o, b < W.heap.size → b ≠ ga → b ≠ gb → wr.frozen? ⟨b, o, none⟩ = W.frozen? ⟨b, o, none⟩
  own : Ow kTask B wr (.slice (some ⟨ga, 0, none⟩) us.length c3) us
  dns : Ow kBool B wr (.slice (some ⟨gb, 0, none⟩) ds.length d3) ds
  ext : Ext w wr
theorem DAt.cell {w W : World} {B ga gb c3 d3 : Nat} {wr : World} {us : List Tk} {ds : List Bool} (h : DAt w W B ga gb c3 d3 wr us ds) {b o : Nat} {v : Value} (hc : W.cell? ⟨b, o, none⟩ = some v) (h1 : b ≠ ga) (h2 : b ≠ gb) : wr.cell? ⟨b, o, none⟩ = some v :=
  (h.far b o (World.block_lt_of_cell? _ _ hc) h1 h2).trans hc
theorem DAt.unit {w W : World} {B ga gb c3 d3 : Nat} {wr : World} {us : List Tk} {ds : List Bool} (h : DAt w W B ga gb c3 d3 wr us ds) {k : Nat} (hk : k < ds.length) : wr.cell? ⟨gb, k, none⟩ = some (.bool (ds.getD k false)) ∧ wr.frozen? ⟨gb, k, none⟩ = false := by
  obtain ⟨g', e, _, _, h3, h4⟩ := Ow.pos h.dns (by omega)
  cases e
  have := h3 k hk 0 (.bool (ds.getD k false)) rfl
  exact ⟨by simpa [kBool] using this, h4 k⟩
theorem DAt.mark {w W : World} {B ga gb c3 d3 : Nat} {wr : World} {us : List Tk} {ds : List Bool} (h : DAt w W B ga gb c3 d3 wr us ds) {k : Nat} (hk : k < ds.length) (hw : w.heap.size ≤ gb) (hne : ga ≠ gb) : DAt w W B ga gb c3 d3 (wr.setCell ⟨gb, k, none⟩ (.bool true)) us (ds.set k true) where
  far b o hb h1 h2 := by rw [← h.far b o hb h1 h2]; exact World.cell?_setCell_far _ _ _ _ (fun e => h2 e.symm)
  fro b o hb h1 h2 := by rw [← h.fro b o hb h1 h2]; first | rfl | (go_simp; done) | (simp [World.frozen?, World.setCell]; done)
  own := h.own.setOther (p := ⟨gb, k, none⟩) (by simp [Value.ownBlock, hne]) _
  dns := by
    rw [List.length_set]
    have := h.dns.set (j := k) (i := 0) (x := true) (u := .bool true) hk (by decide) rfl trivial
    simpa [kBool] using this
  ext := h.ext.setCell (p := ⟨gb, k, none⟩) hw _

theorem DAt.task {w W : World} {B ga gb c3 d3 : Nat} {wr : World} {us : List Tk} {ds : List Bool} (h : DAt w W B ga gb c3 d3 wr us ds) {k : Nat} (hk : k < us.length) {lo hi up wt : Int} (ht : us.getD k tk0 = ⟨lo, hi, up, wt⟩) :
    wr.cell? ⟨ga, k * 4 + 2, none⟩ = some (.int .i64 up) ∧ wr.cell? ⟨ga, k * 4 + 3, none⟩ = some (.int .i64 wt) ∧ (∀ o, wr.frozen? ⟨ga, o, none⟩ = false) ∧ in64 up ∧ in64 wt := by
  obtain ⟨g', e, _, _, h3, h4⟩ := Ow.pos h.own (by omega)
  cases e
  have e0 : us.getD k kTask.d = ⟨lo, hi, up, wt⟩ := ht
  have := h.own.rd.okAt k hk
  rw [e0] at this
  exact ⟨h3 k hk 2 (.int .i64 up) (by rw [e0]; rfl), h3 k hk 3 (.int .i64 wt) (by rw [e0]; rfl), h4, this.2.2.1, this.2.2.2⟩
theorem DAt.wait {w W : World} {B ga gb c3 d3 : Nat} {wr : World} {us : List Tk} {ds : List Bool} (h : DAt w W B ga gb c3 d3 wr us ds) {k : Nat} (hk : k < us.length) {lo hi up wt : Int} (ht : us.getD k tk0 = ⟨lo, hi, up, wt⟩) (hwt : 1 ≤ wt) (hw : w.heap.size ≤ ga) (hne : ga ≠ gb) : DAt w W B ga gb c3 d3 (wr.setCell ⟨ga, k * 4 + 3, none⟩ (.int .i64 (wt - 1))) (wless us k) ds where
  far b o hb h1 h2 := by rw [← h.far b o hb h1 h2]; exact World.cell?_setCell_far _ _ _ _ (fun e => h1 e.symm)
  fro b o hb h1 h2 := by rw [← h.fro b o hb h1 h2]; first | rfl | (go_simp; done) | (simp [World.frozen?, World.setCell]; done)
  own := by
    rw [wless_len]
    have e0 : us.getD k kTask.d = ⟨lo, hi, up, wt⟩ := ht
    have ok := h.own.rd.okAt k hk
    rw [e0] at ok
    have := h.own.set (j := k) (i := 3) (x := ⟨lo, hi, up, wt - 1⟩) (u := .int .i64 (wt - 1)) hk (by decide) (by rw [e0]; rfl) (tk_ok ok.1 ok.2.1 ok.2.2.1 (by have h9 : in64 wt := ok.2.2.2; unfold in64 at h9 ⊢; omega))
    unfold wless; rw [ht]; exact this
  dns := h.dns.setOther (p := ⟨ga, k * 4 + 3, none⟩) (by simp [Value.ownBlock]; omega) _
  ext := h.ext.setCell (p := ⟨ga, k * 4 + 3, none⟩) hw _

/-- what Do gives -/
def DoSaid (w : World) (ts : List Tk) (g : Int) (dn : List Bool) (j : Nat) (e : Ending) (w' : World) : Prop :=
  ∃ A c B d, e = .returned (.tuple #[.agg #[.slice A ts.length c, .int .i64 g, .slice B dn.length d], .bool (climb (ts.length + 1) ts (ts.getD j tk0).up).2, .int .i64 0]) ∧
    Rd kTask w' (.slice A ts.length c) (climb (ts.length + 1) ts (ts.getD j tk0).up).1 ∧ Rd kBool w' (.slice B dn.length d) (marked dn (ts.getD j tk0).lo.toNat (ts.getD j tk0).hi.toNat) ∧ From w.heap.size A ∧ From w.heap.size B ∧ Ext w w'

theorem DAt.said {w W : World} {B ga gb c3 d3 : Nat} {wr : World} {us ts : List Tk} {dn : List Bool} {L R j : Nat} {g : Int} {q : Bool} (h : DAt w W B ga gb c3 d3 wr us (marked dn L R)) (hl : us.length = ts.length) (hm : (marked dn L R).length = dn.length)
    (hc : climb (ts.length + 1) ts (ts.getD j tk0).up = (us, q)) (hB : w.heap.size + 1 < B) (hlo : (ts.getD j tk0).lo = L) (hhi : (ts.getD j tk0).hi = R) (x y z : Value) :
    DoSaid w ts g dn j (.returned (.tuple #[.agg #[.slice (some ⟨ga, 0, none⟩) ts.length c3, .int .i64 g, .slice (some ⟨gb, 0, none⟩) dn.length d3], .bool q, .int .i64 0])) (((wr.setCell ⟨w.heap.size + 1, 0, none⟩ x).setCell ⟨w.heap.size + 1, 1, none⟩ y).setCell ⟨w.heap.size + 1, 2, none⟩ z) := by
  have ho := h.own
  have hd := h.dns
  rw [hl] at ho
  rw [hm] at hd
  refine ⟨_, _, _, _, by rw [hc], ?_, ?_, (ho.from).mono (by omega), (hd.from).mono (by omega), ?_⟩
  · rw [hc]
    exact (((ho.setBelow (p := ⟨w.heap.size + 1, 0, none⟩) hB _).setBelow (p := ⟨w.heap.size + 1, 1, none⟩) hB _).setBelow (p := ⟨w.heap.size + 1, 2, none⟩) hB _).rd
  · rw [hlo, hhi, Int.toNat_natCast, Int.toNat_natCast]
    exact (((hd.setBelow (p := ⟨w.heap.size + 1, 0, none⟩) hB _).setBelow (p := ⟨w.heap.size + 1, 1, none⟩) hB _).setBelow (p := ⟨w.heap.size + 1, 2, none⟩) hB _).rd
  · exact ((h.ext.setCell (p := ⟨w.heap.size + 1, 0, none⟩) (by show _ ≤ w.heap.size + 1; omega) _).setCell (p := ⟨w.heap.size + 1, 1, none⟩) (by show _ ≤ w.heap.size + 1; omega) _).setCell (p := ⟨w.heap.size + 1, 2, none⟩) (by show _ ≤ w.heap.size + 1; omega) _

set_option maxHeartbeats 1600000 in
set_option maxRecDepth 100000 in
theorem rdo_ok (A B : Option Addr) (c d : Nat) (ts : List Tk) (dn : List Bool) (g : Int) (j : Nat) (w : World) (h : Rd kTask w (.slice A ts.length c) ts) (hd : Rd kBool w (.slice B dn.length d) dn) (hg : in64 g) (hr : wRight ts g dn.length = true) (hj : j < ts.length) (ht : wGreat ts g dn.length j = false) (h3 : (ts.getD j tk0).wt = 0) (hdn : dn.getD (ts.getD j tk0).lo.toNat false = false) :
    Calls Tryz.prog 77 #[.agg #[.slice A ts.length c, .int .i64 g, .slice B dn.length d], .int .i64 j] w (DoSaid w ts g dn j) := by
  have H := Lib.hid h
  have HD := Lib.hid hd
  have hn := hd.len
  have hnb := right_n hr
  have hm := h.len
  have HG := Lib.hid hg
  have HI : Hid (in64 (j : Int)) := Lib.hid (by unfold in64; omega)
  have HYR := Lib.hid hr
  have HYS : Hid (wHas ts.length (j : Int) = true) := Lib.hid (by unfold wHas; simp; omega)
  have HYT := Lib.hid ht
  obtain ⟨b, off, rfl, hcc⟩ := Rd.tasks H.out (by omega)
  obtain ⟨y0, y1, y2, y3⟩ := hcc j hj
  have e0 : ts.getD j ⟨0, 0, 0, 0⟩ = ts.getD j tk0 := rfl
  rw [e0] at y0 y1 y2 y3
  obtain ⟨o1, o2, o3, o4, o5, _⟩ := tkOk_iff dn.length j (ts.getD j tk0) |>.1 (right_ok hr j hj)
  obtain ⟨⟨lo, hi', up, wt⟩, htk⟩ : ∃ x, ts.getD j tk0 = x := ⟨_, rfl⟩
  have hbd : in64 (ts.getD j tk0).wt := (H.out.okAt j hj).2.2.2
  have HTK := Lib.hid htk
  rw [htk] at y0 y1 y2 y3 h3 o1 o2 o3 o4 o5 hbd
  simp only at y0 y1 y2 y3 h3 o1 o2 o3 o4 o5 hbd
  obtain ⟨b1, b2⟩ := hbd
  have Y0 := Lib.hid y0
  have Y3 := Lib.hid y3
  have hj' : (j : Int) < ts.length := by omega
  have hj0 : (0 : Int) ≤ j := by omega
  obtain ⟨L, rfl⟩ : ∃ L : Nat, lo = L := ⟨lo.toNat, by omega⟩
  obtain ⟨R, rfl⟩ : ∃ R : Nat, hi' = R := ⟨hi'.toNat, by omega⟩
  obtain ⟨bb, boff, rfl, hbc⟩ := Rd.bools HD.out (by omega)
  have z0 := hbc L (by omega)
  have hdL : dn.getD L false = false := by rw [HTK.out] at hdn; simpa using hdn
  rw [hdL] at z0
  have Z0 := Lib.hid z0
  have Y1 := Lib.hid y1
  have Y2 := Lib.hid y2
  have hL' : (L : Int) < dn.length := by omega
  have hL0 : (0 : Int) ≤ L := by omega
  subst h3
  clear hbc z0 hdn hdL
  clear h hd hg hr ht hcc e0 htk y0 y1 y2 y3
  go_enter Tryz.func77, Tryz.ntmps77
  go_wp2_with fail
  have hP : PAt w (some ⟨b, off, none⟩) (some ⟨bb, boff, none⟩) c d dn.length ts.length g ((w.alloc (.cells #[.slice (some ⟨b, off, none⟩) ts.length c, .int .i64 g, .slice (some ⟨bb, boff, none⟩) dn.length d] 78)).alloc (.cells #[.slice none 0 0, .int .i64 0, .slice none 0 0] 78)) := Ext.refl _
  refine (rright_any _ _ _ _ _ _ _ _ (H.out.ext hP.ext) hn HG.out).mono ?_
  rintro e w1 ⟨he, hE⟩
  rw [HYR.out] at he
  subst he
  replace hP := hP.go hE
  obtain ⟨q0, q1, q2⟩ := hP.cells
  have HP := Lib.hid hP
  clear hE hP
  go_wp2_with fail
  have hP := HP.out
  clear HP q0 q1 q2
  refine (rhas_any _ _ _ _ _ _ _ _ _ hm).mono ?_
  rintro e w1 ⟨he, hE⟩
  rw [HYS.out] at he
  subst he
  replace hP := hP.go hE
  obtain ⟨q0, q1, q2⟩ := hP.cells
  have HP := Lib.hid hP
  clear hE hP
  go_wp2_with fail
  have hP := HP.out
  clear HP q0 q1 q2
  have hall : ∀ w', PAt w (some ⟨b, off, none⟩) (some ⟨bb, boff, none⟩) c d dn.length ts.length g w' → (w'.cell? ⟨w.heap.size, 0, none⟩ = some (.slice (some ⟨b, off, none⟩) ts.length c) ∧ w'.cell? ⟨w.heap.size, 1, none⟩ = some (.int .i64 g) ∧ w'.cell? ⟨w.heap.size, 2, none⟩ = some (.slice (some ⟨bb, boff, none⟩) dn.length d) ∧ w'.cell? ⟨b, off + j * 4 + 3, none⟩ = some (.int .i64 0) ∧ w'.cell? ⟨b, off + j * 4, none⟩ = some (.int .i64 L) ∧ w'.cell? ⟨bb, boff + L, none⟩ = some (.bool false)) :=
    fun w' hE => ⟨hE.cells.1, hE.cells.2.1, hE.cells.2.2, hE.ext.cell Y3.out, hE.ext.cell Y0.out, hE.ext.cell Z0.out⟩
  have HALL := Lib.hid hall
  clear hall
  refine wp_region_class (PAt w (some ⟨b, off, none⟩) (some ⟨bb, boff, none⟩) c d dn.length ts.length g) (by kernel_rfl) (by kernel_rfl) (hP.go (Ext.refl _).drew) ?_
  repeat (first
    | go_big_quiet_skip
    | (go_big_quiet_want
       first
       | (go_big_quiet_op; go_big_quiet_on)
       | (unfold Oper.quiet
          apply Exists.intro
          refine ⟨fun w' hC => ?_, ?_⟩
          · (obtain ⟨k0, k1, k2, k3, k4, k5⟩ := HALL.out w' hC
             unfold Oper.quietAt
             go_simp
             exact rfl)
          go_simp
          go_big_quiet_on)
       | (go_big_quiet_op
          apply Exists.intro
          refine ⟨fun w' hC => ?_, ?_⟩
          · exact (rgreat_any _ _ _ _ _ _ _ _ _ (H.out.ext hC.ext) hn HG.out HI.out).mono fun e w'' h => ⟨h.1.trans (ret_bool HYT.out), hC.go h.2⟩
          go_big_quiet_on)))
  refine wpQuiet_nil ?_
  intro w3 hP3
  obtain ⟨q0, q1, q2⟩ := hP3.cells
  obtain ⟨s0, s1, s2, s3⟩ := hP3.out
  have HP := Lib.hid hP3
  clear hP3 hP
  obtain ⟨B0, hB0⟩ : ∃ B0, w3.heap.size = B0 := ⟨_, rfl⟩
  go_wp2_with fail
  have hP1 := HP.out
  have HW1 := Lib.hid hP1.ext.size
  have hW1 := Lib.hid hP1.two
  clear s0 s1 s2 s3 q0 q1 q2 HP
  refine (rcopy_any _ _ _ _ _ _ _ _ (H.out.ext hP1.ext) (HD.out.ext hP1.ext) (by omega) (by omega)).mono ?_
  rintro e w2 ⟨A3, c3, B3, d3, rfl, hO, hOD, hE⟩
  have hP := hP1.go hE
  obtain ⟨q0, q1, q2⟩ := hP.cells
  obtain ⟨s0, s1, s2, s3⟩ := hP.out
  have q3 := hP.ext.cell Y3.out
  have q4 := hP.ext.cell Y0.out
  have q5 := hP.ext.cell Y1.out
  have HP := Lib.hid hP
  have hB3 : (Value.slice B3 dn.length d3).ownBlock ≠ none := by
    obtain ⟨gb, rfl, _⟩ := Ow.pos hOD (by omega)
    simp [Value.ownBlock]
  obtain ⟨gb, rfl, gb1, gb2, gb3, gb4⟩ := Ow.pos hOD (by omega)
  obtain ⟨ga, rfl, ga1, ga2, ga3, ga4⟩ := Ow.pos hO (by omega)
  have hgab : ga ≠ gb := fun h => by have := Ow.far (by decide) hO hOD ga rfl; rw [h] at this; exact this rfl
  have HZ := Lib.hid hE.size
  rw [hB0] at hO hOD gb1 ga1
  have HO := Lib.hid hO
  have HOD := Lib.hid hOD
  have W1 := HW1.out
  have W2 := hW1.out
  have W3 := HZ.out
  have lbw : b < w.heap.size := World.block_lt_of_cell? _ _ Y0.out
  have lb : b < w2.heap.size := World.block_lt_of_cell? _ _ q4
  have l0 : w.heap.size < w2.heap.size := by omega
  have l1 : w.heap.size + 1 < w2.heap.size := by omega
  have l2 : w.heap.size < w2.heap.size + 1 := by omega
  have l3 : w.heap.size + 1 < w2.heap.size + 1 := by omega
  have l4 : b < w2.heap.size + 1 := by omega
  clear hP hP1 hE hO hOD ga3 ga4 gb3 gb4 hB3
  have hD0 : DAt w (w2.alloc (.cells #[.slice (some ⟨ga, 0, none⟩) ts.length c3, .int .i64 g, .slice (some ⟨gb, 0, none⟩) dn.length d3] 78)) B0 ga gb c3 d3 (w2.alloc (.cells #[.slice (some ⟨ga, 0, none⟩) ts.length c3, .int .i64 g, .slice (some ⟨gb, 0, none⟩) dn.length d3] 78)) ts (marked dn L L) :=
    ⟨fun _ _ _ _ _ => rfl, fun _ _ _ _ _ => rfl, HO.out.ext ((Ext.refl _).alloc _), by rw [marked_none]; exact HOD.out.ext ((Ext.refl _).alloc _), HP.out.ext.alloc _⟩
  have HD0 := Lib.hid hD0
  clear hD0
  go_wp2_with fail
  have x0 : (w2.alloc (.cells #[.slice (some ⟨ga, 0, none⟩) ts.length c3, .int .i64 g, .slice (some ⟨gb, 0, none⟩) dn.length d3] 78)).cell? ⟨w.heap.size, 0, none⟩ = some (.slice (some ⟨b, off, none⟩) ts.length c) := by go_simp
  have x1 : (w2.alloc (.cells #[.slice (some ⟨ga, 0, none⟩) ts.length c3, .int .i64 g, .slice (some ⟨gb, 0, none⟩) dn.length d3] 78)).cell? ⟨b, off + j * 4 + 1, none⟩ = some (.int .i64 R) := by go_simp
  have x2 : (w2.alloc (.cells #[.slice (some ⟨ga, 0, none⟩) ts.length c3, .int .i64 g, .slice (some ⟨gb, 0, none⟩) dn.length d3] 78)).cell? ⟨w2.heap.size, 2, none⟩ = some (.slice (some ⟨gb, 0, none⟩) dn.length d3) := by go_simp
  have x3 : (w2.alloc (.cells #[.slice (some ⟨ga, 0, none⟩) ts.length c3, .int .i64 g, .slice (some ⟨gb, 0, none⟩) dn.length d3] 78)).cell? ⟨b, off + j * 4 + 2, none⟩ = some (.int .i64 up) := by have := HP.out.ext.cell Y2.out; go_simp
  have X3 := Lib.hid x3
  have x4 : (w2.alloc (.cells #[.slice (some ⟨ga, 0, none⟩) ts.length c3, .int .i64 g, .slice (some ⟨gb, 0, none⟩) dn.length d3] 78)).cell? ⟨w2.heap.size, 0, none⟩ = some (.slice (some ⟨ga, 0, none⟩) ts.length c3) := by go_simp
  have x5 : (w2.alloc (.cells #[.slice (some ⟨ga, 0, none⟩) ts.length c3, .int .i64 g, .slice (some ⟨gb, 0, none⟩) dn.length d3] 78)).cell? ⟨w2.heap.size, 1, none⟩ = some (.int .i64 g) := by go_simp
  have x6 : (w2.alloc (.cells #[.slice (some ⟨ga, 0, none⟩) ts.length c3, .int .i64 g, .slice (some ⟨gb, 0, none⟩) dn.length d3] 78)).cell? ⟨w.heap.size + 1, 0, none⟩ = some (.slice none 0 0) ∧ (w2.alloc (.cells #[.slice (some ⟨ga, 0, none⟩) ts.length c3, .int .i64 g, .slice (some ⟨gb, 0, none⟩) dn.length d3] 78)).cell? ⟨w.heap.size + 1, 1, none⟩ = some (.int .i64 0) ∧ (w2.alloc (.cells #[.slice (some ⟨ga, 0, none⟩) ts.length c3, .int .i64 g, .slice (some ⟨gb, 0, none⟩) dn.length d3] 78)).cell? ⟨w.heap.size + 1, 2, none⟩ = some (.slice none 0 0) ∧ ∀ o, (w2.alloc (.cells #[.slice (some ⟨ga, 0, none⟩) ts.length c3, .int .i64 g, .slice (some ⟨gb, 0, none⟩) dn.length d3] 78)).frozen? ⟨w.heap.size + 1, o, none⟩ = false := ⟨by go_simp, by go_simp, by go_simp, fun o => by have := s3 o; go_simp⟩
  have X4 := Lib.hid x4
  have X5 := Lib.hid x5
  have X6 := Lib.hid x6
  have X0 := Lib.hid x0
  have X1 := Lib.hid x1
  have X2 := Lib.hid x2
  clear x0 x1 x2 x3 x4 x5 x6
  go_loopw [8] (fun i wr => ∃ k : Nat, L ≤ k ∧ k ≤ R ∧ i = .int .i64 k ∧ DAt w (w2.alloc (.cells #[.slice (some ⟨ga, 0, none⟩) ts.length c3, .int .i64 g, .slice (some ⟨gb, 0, none⟩) dn.length d3] 78)) B0 ga gb c3 d3 wr ts (marked dn L k)) (fun i _ => R - (intOf i).toNat)
  case atStart => exact ⟨L, Nat.le_refl _, by omega, rfl, HD0.out⟩
  case round =>
    obtain ⟨k, hk1, hk2, rfl, hA⟩ := hrel
    have m0 := hA.cell X0.out (by omega) (by omega)
    have m1 := hA.cell X1.out (by omega) (by omega)
    have m2 := hA.cell X2.out (by omega) (by omega)
    have HA := Lib.hid hA
    by_cases hlt : k < R
    · have hlt' : (k : Int) < R := by omega
      have hkl : (k : Int) < dn.length := by omega
      have hk0 : (0 : Int) ≤ k := by omega
      have hml : (marked dn L k).length = dn.length := marked_len dn L k hk1 (by omega)
      obtain ⟨n0, n1⟩ := hA.unit (k := k) (by omega)
      have hN := hA.mark (k := k) (by omega) (by omega) hgab
      rw [← marked_succ dn L k hk1 (by omega)] at hN
      have HN := Lib.hid hN
      clear hA hN hml
      go_wp2
      go_roundw
      case rel => exact ⟨k + 1, by omega, by omega, by go_num, HN.out⟩
      case measure => simp [intOf]; omega
    · have m3 := hA.cell X3.out (by omega) (by omega)
      have hkr : k = R := by omega
      have hlt' : ¬ (k : Int) < R := by omega
      subst hkr
      clear hA
      have hml : (marked dn L k).length = dn.length := marked_len dn L k hk1 (by omega)
      have hlo : (ts.getD j tk0).lo = L := by rw [HTK.out]
      have hhi : (ts.getD j tk0).hi = k := by rw [HTK.out]
      have hupj : (ts.getD j tk0).up = up := by rw [HTK.out]
      have HM := Lib.hid (And.intro hml (And.intro hlo (And.intro hhi hupj)))
      have HOK := Lib.hid (by have := HYR.out; unfold wRight at this; rw [Bool.and_eq_true] at this; exact this.2 : wOkTo ts dn.length ts.length = true)
      clear hml hlo hhi hupj
      go_wp2_with fail
      go_loopw [9] (fun i wx => ∃ (u : Int) (us : List Tk) (f : Nat), i = .int .i64 u ∧ DAt w (w2.alloc (.cells #[.slice (some ⟨ga, 0, none⟩) ts.length c3, .int .i64 g, .slice (some ⟨gb, 0, none⟩) dn.length d3] 78)) B0 ga gb c3 d3 wx us (marked dn L k) ∧ us.length = ts.length ∧ wOkTo us dn.length ts.length = true ∧ -1 ≤ u ∧ u < ts.length ∧ u < f ∧ climb (ts.length + 1) ts up = climb (f + 1) us u) (fun i _ => (intOf i + 1).toNat)
      case atStart => exact ⟨up, ts, ts.length, rfl, HA.out, rfl, HOK.out, o4, by omega, by omega, rfl⟩
      case round =>
        obtain ⟨u, us, f, rfl, hX, hul, hok, hu1, hu2, hu3, hcl⟩ := hrel
        have M2 := hX.cell X2.out (by omega) (by omega)
        have M4 := hX.cell X4.out (by omega) (by omega)
        have M5 := hX.cell X5.out (by omega) (by omega)
        have t0 := hX.cell X6.out.1 (by omega) (by omega)
        have t1 := hX.cell X6.out.2.1 (by omega) (by omega)
        have t2 := hX.cell X6.out.2.2.1 (by omega) (by omega)
        have t3 : ∀ o, wr.frozen? ⟨w.heap.size + 1, o, none⟩ = false := fun o => (hX.fro (w.heap.size + 1) o (World.block_lt_of_cell? _ _ X6.out.1) (by omega) (by omega)).trans (X6.out.2.2.2 o)
        have HX := Lib.hid hX
        by_cases hum : u = -1
        · subst hum
          have HC : Hid (climb (ts.length + 1) ts up = (us, true)) := Lib.hid (by rw [hcl]; simp [climb])
          clear hcl hX
          go_wp2_with fail
          refine bodyPost_ret (v := .tuple #[.agg #[.slice (some ⟨ga, 0, none⟩) ts.length c3, .int .i64 g, .slice (some ⟨gb, 0, none⟩) dn.length d3], .bool true, .int .i64 0]) (by simp [results, Tryz.results77, go_sem]; go_simp) rfl (HX.out.said hul HM.out.1 (by rw [HM.out.2.2.2]; exact HC.out) (by omega) HM.out.2.1 HM.out.2.2.1 _ _ _)
        · obtain ⟨v, rfl⟩ : ∃ v : Nat, u = v := ⟨u.toNat, by omega⟩
          have hv : v < us.length := by omega
          have hv' : (v : Int) < ts.length := by omega
          have hv0 : (0 : Int) ≤ v := by omega
          have hvn : ((v : Int) != -1) = true := by simp
          have hve : ((v : Int) == -1) = false := by simp
          obtain ⟨⟨lo1, hi1, up1, wt1⟩, ht⟩ : ∃ x, us.getD v tk0 = x := ⟨_, rfl⟩
          obtain ⟨cu, cw, cf, iu, iw⟩ := hX.task hv ht
          have ok1 := (tkOk_iff _ _ _).1 (wOkTo_at us dn.length ts.length hok v (by omega))
          rw [ht] at ok1
          simp only at ok1
          obtain ⟨_, _, _, k4, k5, k6, k7⟩ := ok1
          have e0 : tkAt us (v : Int) = us.getD v tk0 := by unfold tkAt; rw [Int.toNat_natCast]
          have HT := Lib.hid ht
          by_cases hw : wt1 = 0
          · have HC : Hid (climb (ts.length + 1) ts up = (us, false)) := Lib.hid (by rw [hcl]; unfold climb; rw [if_neg hum, e0, ht, if_pos hw])
            subst hw
            clear hcl hX ht e0 hum
            go_wp2_with fail
            refine bodyPost_ret (v := .tuple #[.agg #[.slice (some ⟨ga, 0, none⟩) ts.length c3, .int .i64 g, .slice (some ⟨gb, 0, none⟩) dn.length d3], .bool false, .int .i64 0]) (by simp [results, Tryz.results77, go_sem]; go_simp) rfl (HX.out.said hul HM.out.1 (by rw [HM.out.2.2.2]; exact HC.out) (by omega) HM.out.2.1 HM.out.2.2.1 _ _ _)
          · have hwe : (wt1 == 0) = false := by simpa using hw
            have hN := hX.wait hv ht (by omega) (by omega) hgab
            have HN := Lib.hid hN
            have hnl : (wless us v).length = ts.length := by rw [wless_len]; exact hul
            have HNL := Lib.hid hnl
            by_cases hq : 0 < wt1 - 1
            · have HC : Hid (climb (ts.length + 1) ts up = (wless us v, false)) := Lib.hid (by rw [hcl]; unfold climb; rw [if_neg hum, e0, ht, if_neg hw, if_pos hq, Int.toNat_natCast])
              clear hcl hX ht e0 hum hN hw
              go_wp2_with fail
              refine bodyPost_ret (v := .tuple #[.agg #[.slice (some ⟨ga, 0, none⟩) ts.length c3, .int .i64 g, .slice (some ⟨gb, 0, none⟩) dn.length d3], .bool false, .int .i64 0]) (by simp [results, Tryz.results77, go_sem]; go_simp) rfl (HN.out.said HNL.out HM.out.1 (by rw [HM.out.2.2.2]; exact HC.out) (by omega) HM.out.2.1 HM.out.2.2.1 _ _ _)
            · obtain ⟨f, rfl⟩ : ∃ x, f = x + 1 := ⟨f - 1, by omega⟩
              have HC : Hid (climb (ts.length + 1) ts up = climb (f + 1) (wless us v) up1) := Lib.hid (by rw [hcl]; rw [climb]; rw [if_neg hum, e0, ht, if_neg hw, if_neg hq, Int.toNat_natCast])
              have HK : Hid (wOkTo (wless us v) dn.length ts.length = true) := Lib.hid (wless_ok us dn.length v _ hv hok (by omega) (by rw [ht]; exact hw))
              clear hcl hX ht e0 hum hN hw hok
              go_wp2
              go_roundw
              case rel => exact ⟨up1, wless us v, f, rfl, HN.out, HNL.out, HK.out, k4, by omega, by omega, HC.out⟩
              case measure => simp [intOf]; omega

end Go.Proofs.YtkpbanfpnilifaaGreat

/- The document's Do of work, whole. -/
namespace Go.Proofs.YtkpbanfpnilifaaGreat
open Go.RowKit Go.Proofs.YtkpbanfpnilifaaGreat.Plain

/-- Do's word: 0, or why not -/
def doErr (ts : List Tk) (g : Int) (dn : List Bool) (i : Int) : Int :=
  if wRight ts g dn.length = false then 1 else if wHas ts.length i = false then 6 else if wGreat ts g dn.length i = true then 5 else if (tkAt ts i).wt ≠ 0 then 5 else if dn.getD (tkAt ts i).lo.toNat false = true then 5 else 0

theorem rdo_any (A B : Option Addr) (c d : Nat) (ts : List Tk) (dn : List Bool) (g i : Int) (w : World) (h : Rd kTask w (.slice A ts.length c) ts) (hd : Rd kBool w (.slice B dn.length d) dn) (hg : in64 g) (hi : in64 i) :
    Calls Tryz.prog 77 #[.agg #[.slice A ts.length c, .int .i64 g, .slice B dn.length d], .int .i64 i] w fun e w' =>
      (doErr ts g dn i ≠ 0 ∧ DNo w A B c d dn.length ts.length g (doErr ts g dn i) e w') ∨ (doErr ts g dn i = 0 ∧ DoSaid w ts g dn i.toNat e w') := by
  have hn := hd.len
  cases hr : wRight ts g dn.length with
  | false =>
    have he : doErr ts g dn i = 1 := by unfold doErr; rw [if_pos hr]
    rw [he]
    exact (rdo_no A B c d dn.length ts g i w h hn hg hi hr).mono fun e w' hh => .inl ⟨by decide, hh⟩
  | true =>
    cases hs : wHas ts.length i with
    | false =>
      have he : doErr ts g dn i = 6 := by unfold doErr; rw [if_neg (by rw [hr]; decide), if_pos hs]
      rw [he]
      exact (rdo_none A B c d dn.length ts g i w h hn hg hi hr hs).mono fun e w' hh => .inl ⟨by decide, hh⟩
    | true =>
      cases ht : wGreat ts g dn.length i with
      | true =>
        have he : doErr ts g dn i = 5 := by unfold doErr; rw [if_neg (by rw [hr]; decide), if_neg (by rw [hs]; decide), if_pos ht]
        rw [he]
        exact (rdo_great A B c d dn.length ts g i w h hn hg hi hr hs ht).mono fun e w' hh => .inl ⟨by decide, hh⟩
      | false =>
        have hsi : 0 ≤ i ∧ i < (ts.length : Int) := by unfold wHas at hs; simpa using hs
        obtain ⟨j, rfl⟩ : ∃ j : Nat, i = j := ⟨i.toNat, by omega⟩
        have hj : j < ts.length := by omega
        have e0 : tkAt ts (j : Int) = ts.getD j tk0 := by unfold tkAt; rw [Int.toNat_natCast]
        by_cases hw : (ts.getD j tk0).wt = 0
        · cases hf : dn.getD (ts.getD j tk0).lo.toNat false with
          | true =>
            have he : doErr ts g dn (j : Int) = 5 := by unfold doErr; rw [if_neg (by rw [hr]; decide), if_neg (by rw [hs]; decide), if_neg (by rw [ht]; decide), e0, if_neg (by simpa using hw), if_pos hf]
            rw [he]
            exact (rdo_done A B c d ts dn g j w h hd hg hr hj ht hw hf).mono fun e w' hh => .inl ⟨by decide, hh⟩
          | false =>
            have he : doErr ts g dn (j : Int) = 0 := by unfold doErr; rw [if_neg (by rw [hr]; decide), if_neg (by rw [hs]; decide), if_neg (by rw [ht]; decide), e0, if_neg (by simpa using hw), if_neg (by rw [hf]; decide)]
            rw [he]
            exact (rdo_ok A B c d ts dn g j w h hd hg hr hj ht hw hf).mono fun e w' hh => .inr ⟨rfl, by rw [Int.toNat_natCast]; exact hh⟩
        · have he : doErr ts g dn (j : Int) = 5 := by unfold doErr; rw [if_neg (by rw [hr]; decide), if_neg (by rw [hs]; decide), if_neg (by rw [ht]; decide), e0, if_pos hw]
          rw [he]
          exact (rdo_wait A B c d ts dn g j w h hd hg hr hj ht hw).mono fun e w' hh => .inl ⟨by decide, hh⟩
end Go.Proofs.YtkpbanfpnilifaaGreat

/- The program's copy of work, its Begin, and what is finished. -/
namespace Go.Proofs.YtkpbanfpnilifaaGreat
open Go.BigFrame
open Go.RowKit Go.Proofs.YtkpbanfpnilifaaGreat.Plain

set_option maxHeartbeats 1600000 in
set_option maxRecDepth 100000 in
theorem copied_any (A B : Option Addr) (c d : Nat) (ts : List Tk) (g : Int) (dn : List Bool) (w : World) (h : Rd kTask w (.slice A ts.length c) ts) (h' : Rd kBool w (.slice B dn.length d) dn) (hl : ts.length ≤ 1048576) (hl' : dn.length ≤ 1048576) :
    Calls Tryz.prog 110 #[.agg #[.slice A ts.length c, .int .i64 g, .slice B dn.length d]] w fun e w' => ∃ A c B d, e = .returned (.agg #[.slice A ts.length c, .int .i64 g, .slice B dn.length d]) ∧
      Ow kTask w.heap.size w' (.slice A ts.length c) ts ∧ Ow kBool w.heap.size w' (.slice B dn.length d) dn ∧ Ext w w' := by
  have H := Lib.hid h
  have HD := Lib.hid h'
  clear h h'
  go_enter Tryz.func110, Tryz.ntmps110
  go_wp2
  go_region_held3 (fun w' => w'.cell? ⟨w.heap.size, 0, none⟩ = some (.slice A ts.length c) ∧ w'.cell? ⟨w.heap.size, 1, none⟩ = some (.int .i64 g) ∧ w'.cell? ⟨w.heap.size, 2, none⟩ = some (.slice B dn.length d))
    (first | go_keep | exact ⟨c21, c22, c23⟩ | exact ⟨c11, c12, c13⟩)
    (first
      | (go_at_call_of 88 (Value.slice A ts.length c)
         refine (clone_t _ _ _ (H.out.ext (((Ext.refl w).alloc _).alloc _).drew) hl).mono ?_
         rintro e w1 ⟨A1, c1, rfl, ho1, hE1⟩
         have c11 : w1.cell? ⟨w.heap.size, 0, none⟩ = some (.slice A ts.length c) := hE1.cell (by go_simp)
         have c12 : w1.cell? ⟨w.heap.size, 1, none⟩ = some (.int .i64 g) := hE1.cell (by go_simp)
         have c13 : w1.cell? ⟨w.heap.size, 2, none⟩ = some (.slice B dn.length d) := hE1.cell (by go_simp))
      | (go_at_call_of 89 (Value.slice B dn.length d)
         refine (clone_b _ _ _ (HD.out.ext ((((Ext.refl w).alloc _).alloc _).drew.trans hE1)) hl').mono ?_
         rintro e w2 ⟨A2, c2, rfl, ho2, hE2⟩
         have c21 : w2.cell? ⟨w.heap.size, 0, none⟩ = some (.slice A ts.length c) := hE2.cell c11
         have c22 : w2.cell? ⟨w.heap.size, 1, none⟩ = some (.int .i64 g) := hE2.cell c12
         have c23 : w2.cell? ⟨w.heap.size, 2, none⟩ = some (.slice B dn.length d) := hE2.cell c13
         have hE12 := hE1.trans hE2
         obtain ⟨hc2, hf2⟩ := bcell hE12))
  go_wp2
  refine bodyPost_ret (v := .agg #[.slice A1 ts.length c1, .int .i64 g, .slice A2 dn.length c2]) (by simp [results, Tryz.results110, go_sem, hc2]) rfl ⟨A1, c1, A2, c2, rfl, ?_, ?_, ?_⟩
  · exact ((((ho1.ext hE2).setBelow (by simp) _).setBelow (by simp) _).setBelow (by simp) _).mono (by simp; omega)
  · have := hE1.size
    simp at this
    exact (((ho2.setBelow (by simp; omega) _).setBelow (by simp; omega) _).setBelow (by simp; omega) _).mono (by omega)
  · exact ((((((Ext.refl w).alloc _).alloc _).drew.trans hE12).setCell (by simp) _).setCell (by simp) _).setCell (by simp) _

/-- what stands while the tasks above are told -/
structure FAt (B g c : Nat) (w wr : World) (us : List Tk) : Prop where
  own : Ow kTask B wr (.slice (some ⟨g, 0, none⟩) us.length c) us
  grow : w.grownBy wr (some g)
theorem FAt.task {B g c : Nat} {w wr : World} {us : List Tk} (h : FAt B g c w wr us) {k : Nat} (hk : k < us.length) {lo hi up wt : Int} (ht : us.getD k tk0 = ⟨lo, hi, up, wt⟩) :
    wr.cell? ⟨g, k * 4 + 2, none⟩ = some (.int .i64 up) ∧ wr.cell? ⟨g, k * 4 + 3, none⟩ = some (.int .i64 wt) ∧ (∀ o, wr.frozen? ⟨g, o, none⟩ = false) ∧ in64 up ∧ in64 wt := by
  obtain ⟨g', e, _, _, h3, h4⟩ := Ow.pos h.own (by omega)
  cases e
  have e0 : us.getD k kTask.d = ⟨lo, hi, up, wt⟩ := ht
  have := h.own.rd.okAt k hk
  rw [e0] at this
  exact ⟨h3 k hk 2 (.int .i64 up) (by rw [e0]; rfl), h3 k hk 3 (.int .i64 wt) (by rw [e0]; rfl), h4, this.2.2.1, this.2.2.2⟩
theorem FAt.less {B g c : Nat} {w wr : World} {us : List Tk} (h : FAt B g c w wr us) {k : Nat} (hk : k < us.length) {lo hi up wt : Int} (ht : us.getD k tk0 = ⟨lo, hi, up, wt⟩) (hwt : 1 ≤ wt) : FAt B g c w (wr.setCell ⟨g, k * 4 + 3, none⟩ (.int .i64 (wt - 1))) (wless us k) where
  own := by
    rw [wless_len]
    have e0 : us.getD k kTask.d = ⟨lo, hi, up, wt⟩ := ht
    have ok := h.own.rd.okAt k hk
    rw [e0] at ok
    have := h.own.set (j := k) (i := 3) (x := ⟨lo, hi, up, wt - 1⟩) (u := .int .i64 (wt - 1)) hk (by decide) (by rw [e0]; rfl) (tk_ok ok.1 ok.2.1 ok.2.2.1 (by have h9 : in64 wt := ok.2.2.2; unfold in64 at h9 ⊢; omega))
    unfold wless; rw [ht]; exact this
  grow := ⟨h.grow.os, h.grow.tape, h.grow.output, by rw [World.size_setCell]; exact h.grow.size, fun i hi hne => (Below.heap_setCell _ _ _ _ (fun e => hne (by simp [e]))).trans (h.grow.block i hi hne)⟩

set_option maxHeartbeats 800000 in
set_option maxRecDepth 100000 in
theorem finish_any (B ga c n : Nat) (ts : List Tk) (up : Int) (w : World) (h : Ow kTask B w (.slice (some ⟨ga, 0, none⟩) ts.length c) ts) (hok : wOkTo ts n ts.length = true) (hu1 : -1 ≤ up) (hu2 : up < ts.length) (_hm : ts.length ≤ 2000) :
    Calls Tryz.prog 114 #[.slice (some ⟨ga, 0, none⟩) ts.length c, .int .i64 up] w fun e w' => e = .returned (.bool (climb (ts.length + 1) ts up).2) ∧ FAt B ga c w w' (climb (ts.length + 1) ts up).1 := by
  have H0 : Hid (FAt B ga c w w ts) := Lib.hid ⟨h, World.grownBy.refl w _⟩
  have HOK := Lib.hid hok
  clear h hok
  go_enter Tryz.func114, Tryz.ntmps114
  go_wp2_with fail
  go_loopw [1] (fun i wx => ∃ (u : Int) (us : List Tk) (f : Nat), i = .int .i64 u ∧ FAt B ga c w wx us ∧ us.length = ts.length ∧ wOkTo us n ts.length = true ∧ -1 ≤ u ∧ u < ts.length ∧ u < f ∧ climb (ts.length + 1) ts up = climb (f + 1) us u) (fun i _ => (intOf i + 1).toNat)
  case atStart => exact ⟨up, ts, ts.length, rfl, H0.out, rfl, HOK.out, hu1, hu2, hu2, rfl⟩
  case round =>
    obtain ⟨u, us, f, rfl, hX, hul, hok, hv1, hv2, hv3, hcl⟩ := hrel
    have HX := Lib.hid hX
    by_cases hum : u = -1
    · subst hum
      have HC : Hid (climb (ts.length + 1) ts up = (us, true)) := Lib.hid (by rw [hcl]; simp [climb])
      clear hcl hX
      go_wp2_with fail
      go_ret
      exact ⟨ret_bool (by rw [HC.out]), by rw [HC.out]; exact HX.out⟩
    · obtain ⟨v, rfl⟩ : ∃ v : Nat, u = v := ⟨u.toNat, by omega⟩
      have hv : v < us.length := by omega
      have hv' : (v : Int) < ts.length := by omega
      have hv0 : (0 : Int) ≤ v := by omega
      obtain ⟨⟨lo1, hi1, up1, wt1⟩, ht⟩ : ∃ x, us.getD v tk0 = x := ⟨_, rfl⟩
      obtain ⟨cu, cw, cf, iu, iw⟩ := hX.task hv ht
      have ok1 := (tkOk_iff _ _ _).1 (wOkTo_at us n ts.length hok v (by omega))
      rw [ht] at ok1
      simp only at ok1
      obtain ⟨_, _, _, k4, k5, k6, k7⟩ := ok1
      have e0 : tkAt us (v : Int) = us.getD v tk0 := by unfold tkAt; rw [Int.toNat_natCast]
      by_cases hw : wt1 = 0
      · have HC : Hid (climb (ts.length + 1) ts up = (us, false)) := Lib.hid (by rw [hcl]; unfold climb; rw [if_neg hum, e0, ht, if_pos hw])
        subst hw
        clear hcl hX ht e0 hum
        go_wp2_with fail
        go_ret
        exact ⟨ret_bool (by rw [HC.out]), by rw [HC.out]; exact HX.out⟩
      · have hwe : (wt1 == 0) = false := by simpa using hw
        have HN := Lib.hid (hX.less hv ht (by omega))
        have hnl : (wless us v).length = ts.length := by rw [wless_len]; exact hul
        have HNL := Lib.hid hnl
        by_cases hq : 0 < wt1 - 1
        · have HC : Hid (climb (ts.length + 1) ts up = (wless us v, false)) := Lib.hid (by rw [hcl]; unfold climb; rw [if_neg hum, e0, ht, if_neg hw, if_pos hq, Int.toNat_natCast])
          clear hcl hX ht e0 hum hw
          go_wp2_with fail
          go_ret
          exact ⟨ret_bool (by rw [HC.out]), by rw [HC.out]; exact HN.out⟩
        · obtain ⟨f, rfl⟩ : ∃ x, f = x + 1 := ⟨f - 1, by omega⟩
          have HC : Hid (climb (ts.length + 1) ts up = climb (f + 1) (wless us v) up1) := Lib.hid (by rw [hcl]; rw [climb]; rw [if_neg hum, e0, ht, if_neg hw, if_neg hq, Int.toNat_natCast])
          have HK : Hid (wOkTo (wless us v) n ts.length = true) := Lib.hid (wless_ok us n v _ hv hok (by omega) (by rw [ht]; exact hw))
          clear hcl hX ht e0 hum hw hok
          go_wp2
          go_roundw
          case rel => exact ⟨up1, wless us v, f, rfl, HN.out, HNL.out, HK.out, k4, by omega, by omega, HC.out⟩
          case measure => simp [intOf]; omega
end Go.Proofs.YtkpbanfpnilifaaGreat

/- The program's Count: a closure that calls itself, by a contract of its own. -/
namespace Go.Proofs.YtkpbanfpnilifaaGreat
open Go.BigFrame
open Go.RowKit Go.Proofs.YtkpbanfpnilifaaGreat.Plain

def Drawn (w w' : World) : Prop := ∃ k, w' = w.drewN k
theorem Drawn.refl (w : World) : Drawn w w := ⟨0, rfl⟩
theorem Drawn.trans {a b c : World} (h : Drawn a b) (k : Drawn b c) : Drawn a c := by
  obtain ⟨m, rfl⟩ := h
  obtain ⟨n, rfl⟩ := k
  exact ⟨m + n, by simp⟩
theorem Drawn.drew (w : World) : Drawn w w.drew := ⟨1, rfl⟩
theorem Drawn.ext {w w' : World} (h : Drawn w w') : Ext w w' := by
  obtain ⟨k, rfl⟩ := h
  exact (Ext.refl w).drewN k

end Go.Proofs.YtkpbanfpnilifaaGreat

/- The program's Part of work. Written by wip/mk_pwork.py. -/
namespace Go.Proofs.YtkpbanfpnilifaaGreat
open Go.BigFrame
open Go.RowKit Go.Proofs.YtkpbanfpnilifaaGreat.Plain

/-- the frame behind the copy: the work, the answer's cells, the copy's cells -/
structure VAt (w : World) (A B : Option Addr) (c d n m : Nat) (g : Int) (V : Nat) (A1 B1 : Option Addr) (c1 d1 : Nat) (w' : World) : Prop where
  pat : PAt w A B c d n m g w'
  v0 : w'.cell? ⟨V, 0, none⟩ = some (.slice A1 m c1)
  v1 : w'.cell? ⟨V, 1, none⟩ = some (.int .i64 g)
  v2 : w'.cell? ⟨V, 2, none⟩ = some (.slice B1 n d1)
  vf : ∀ o, w'.frozen? ⟨V, o, none⟩ = false
  lt : V < w'.heap.size
  ge : w.heap.size + 2 ≤ V
theorem VAt.go {w : World} {A B : Option Addr} {c d n m : Nat} {g : Int} {V : Nat} {A1 B1 : Option Addr} {c1 d1 : Nat} {w' w'' : World} (h : VAt w A B c d n m g V A1 B1 c1 d1 w') (hE : Ext w' w'') : VAt w A B c d n m g V A1 B1 c1 d1 w'' :=
  ⟨h.pat.go hE, hE.cell h.v0, hE.cell h.v1, hE.cell h.v2, fun o => (Below.frozen hE (p := ⟨V, o, none⟩) h.lt).trans (h.vf o), Nat.lt_of_lt_of_le h.lt hE.size, h.ge⟩
theorem VAt.start {w : World} {A B : Option Addr} {c d n m : Nat} {g : Int} {A1 B1 : Option Addr} {c1 d1 : Nat} {w1 : World} (h : PAt w A B c d n m g w1) :
    VAt w A B c d n m g w1.heap.size A1 B1 c1 d1 (w1.alloc (.cells #[.slice A1 m c1, .int .i64 g, .slice B1 n d1] 78)) :=
  ⟨h.go ((Ext.refl _).alloc _), by go_simp, by go_simp, by go_simp, fun o => by go_simp, by simp, h.two⟩
/-- what is refused: the work as it was, in memory of its own -/
def TNo (w : World) (ts : List Tk) (g : Int) (dn : List Bool) (mk : Value → Value) (e : Ending) (w' : World) : Prop :=
  ∃ A c B d, e = .returned (mk (.agg #[.slice A ts.length c, .int .i64 g, .slice B dn.length d])) ∧ Rd kTask w' (.slice A ts.length c) ts ∧ Rd kBool w' (.slice B dn.length d) dn ∧ Ext w w'
theorem TNo.of {w : World} {A B : Option Addr} {c d : Nat} {ts : List Tk} {dn : List Bool} {g : Int} {V : Nat} {A1 B1 : Option Addr} {c1 d1 : Nat} {w1 w' : World} {mk : Value → Value} (h : VAt w A B c d dn.length ts.length g V A1 B1 c1 d1 w')
    (ho : Ow kTask (w.heap.size + 2) w1 (.slice A1 ts.length c1) ts) (hd : Ow kBool (w.heap.size + 2) w1 (.slice B1 dn.length d1) dn) (hE : Ext w1 w') (x y z : Value) :
    TNo w ts g dn mk (.returned (mk (.agg #[.slice A1 ts.length c1, .int .i64 g, .slice B1 dn.length d1]))) (((w'.setCell ⟨w.heap.size + 1, 0, none⟩ x).setCell ⟨w.heap.size + 1, 1, none⟩ y).setCell ⟨w.heap.size + 1, 2, none⟩ z) := by
  refine ⟨_, _, _, _, rfl, ?_, ?_, ?_⟩
  · exact ((((ho.ext hE).setBelow (p := ⟨w.heap.size + 1, 0, none⟩) (by show w.heap.size + 1 < _; omega) _).setBelow (p := ⟨w.heap.size + 1, 1, none⟩) (by show w.heap.size + 1 < _; omega) _).setBelow (p := ⟨w.heap.size + 1, 2, none⟩) (by show w.heap.size + 1 < _; omega) _).rd
  · exact ((((hd.ext hE).setBelow (p := ⟨w.heap.size + 1, 0, none⟩) (by show w.heap.size + 1 < _; omega) _).setBelow (p := ⟨w.heap.size + 1, 1, none⟩) (by show w.heap.size + 1 < _; omega) _).setBelow (p := ⟨w.heap.size + 1, 2, none⟩) (by show w.heap.size + 1 < _; omega) _).rd
  · exact ((h.pat.ext.setCell (p := ⟨w.heap.size + 1, 0, none⟩) (by show _ ≤ w.heap.size + 1; omega) _).setCell (p := ⟨w.heap.size + 1, 1, none⟩) (by show _ ≤ w.heap.size + 1; omega) _).setCell (p := ⟨w.heap.size + 1, 2, none⟩) (by show _ ≤ w.heap.size + 1; omega) _
def mkPart (k : Int) (v : Value) : Value := .tuple #[v, .int .i64 0, .int .i64 0, .int .i64 k]
def mkDo (k : Int) (v : Value) : Value := .tuple #[v, .bool false, .int .i64 k]

set_option maxHeartbeats 1600000 in
set_option maxRecDepth 100000 in
theorem ppart_no (A B : Option Addr) (c d : Nat) (ts : List Tk) (dn : List Bool) (g : Int) (i : Int) (w : World) (h : Rd kTask w (.slice A ts.length c) ts) (hd : Rd kBool w (.slice B dn.length d) dn) (hg : in64 g) (hi : in64 i) (hl : ts.length ≤ 1048576) (hl2 : dn.length ≤ 1048576) (ha : askErr ts g dn.length i ≠ 0) :
    Calls Tryz.prog 107 #[.agg #[.slice A ts.length c, .int .i64 g, .slice B dn.length d], .int .i64 i] w (TNo w ts g dn (mkPart (askErr ts g dn.length i))) := by
  have H := Lib.hid h
  have HD := Lib.hid hd
  have hn := hd.len
  have hm := h.len
  have HG := Lib.hid hg
  have HI := Lib.hid hi
  obtain ⟨k, hk⟩ : ∃ k, askErr ts g dn.length i = k := ⟨_, rfl⟩
  rw [hk] at ha ⊢
  have HK := Lib.hid hk
  have e1 : (k != 0) = true := by simpa using ha
  clear h hd hk hg hi
  go_enter Tryz.func107, Tryz.ntmps107
  go_wp2_with fail
  have hP : PAt w A B c d dn.length ts.length g ((w.alloc (.cells #[.slice A ts.length c, .int .i64 g, .slice B dn.length d] 78)).alloc (.cells #[.slice none 0 0, .int .i64 0, .slice none 0 0] 78)) := Ext.refl _
  refine (copied_any _ _ _ _ _ _ _ _ (H.out.ext hP.ext) (HD.out.ext hP.ext) hl hl2).mono ?_
  rintro e w1 ⟨A1, c1, B1, d1, rfl, hO, hOD, hE⟩
  replace hP := hP.go hE
  have HO : Hid (Ow kTask (w.heap.size + 2) w1 (.slice A1 ts.length c1) ts) := Lib.hid (hO.mono (by simp))
  have HOD : Hid (Ow kBool (w.heap.size + 2) w1 (.slice B1 dn.length d1) dn) := Lib.hid (hOD.mono (by simp))
  have hV : VAt w A B c d dn.length ts.length g w1.heap.size A1 B1 c1 d1 (w1.alloc (.cells #[.slice A1 ts.length c1, .int .i64 g, .slice B1 dn.length d1] 78)) := VAt.start hP
  have HV0 := Lib.hid hV
  have HE1 : Hid (Ext w1 (w1.alloc (.cells #[.slice A1 ts.length c1, .int .i64 g, .slice B1 dn.length d1] 78))) := Lib.hid ((Ext.refl _).alloc _)
  obtain ⟨q0, q1, q2⟩ := hP.cells
  have k0 : w.heap.size < w1.heap.size := by have := hP.two; omega
  have k1 : w.heap.size + 1 < w1.heap.size := by have := hP.two; omega
  clear hO hOD hE hP hV
  go_wp2_with fail
  clear q0 q1 q2
  have hV := HV0.out
  refine (asked_any _ _ _ _ _ _ _ _ _ (H.out.ext hV.pat.ext) hn HG.out HI.out).mono ?_
  rintro e w2 ⟨he, hE⟩
  rw [HK.out] at he
  subst he
  replace hV := hV.go hE
  have HE2 := Lib.hid (HE1.out.trans hE)
  have HV := Lib.hid hV
  clear hE HV0 HE1
  obtain ⟨q0, q1, q2⟩ := hV.pat.cells
  obtain ⟨s0, s1, s2, s3⟩ := hV.pat.out
  obtain ⟨_, v0, v1, v2, v3, lv, gv⟩ := hV
  have l0 : w.heap.size < w2.heap.size := by omega
  have l1 : w.heap.size + 1 < w2.heap.size := by omega
  have l2 : w.heap.size < w2.heap.size + 1 := by omega
  have l3 : w.heap.size + 1 < w2.heap.size + 1 := by omega
  have l4 : w1.heap.size < w2.heap.size + 1 := by omega
  have n0 : ¬ w1.heap.size = w.heap.size := by omega
  have n1 : ¬ w1.heap.size = w.heap.size + 1 := by omega
  have n2 : ¬ w.heap.size + 1 = w1.heap.size := by omega
  have n3 : ¬ w.heap.size = w1.heap.size := by omega
  go_wp2_with fail
  have HVZ := HV
  have HEZ := HE2
  refine bodyPost_ret (v := .tuple #[.agg #[.slice A1 ts.length c1, .int .i64 g, .slice B1 dn.length d1], .int .i64 0, .int .i64 0, .int .i64 (k)]) (by simp [results, Tryz.results107, go_sem]; go_simp) rfl (TNo.of (mk := mkPart (k)) HVZ.out HO.out HOD.out HEZ.out _ _ _)

set_option maxHeartbeats 1600000 in
set_option maxRecDepth 100000 in
theorem ppart_small (A B : Option Addr) (c d : Nat) (ts : List Tk) (dn : List Bool) (g : Int) (j : Nat) (w : World) (h : Rd kTask w (.slice A ts.length c) ts) (hd : Rd kBool w (.slice B dn.length d) dn) (hg : in64 g) (hr : wRight ts g dn.length = true) (hj : j < ts.length) (ht : wGreat ts g dn.length j = false) :
    Calls Tryz.prog 107 #[.agg #[.slice A ts.length c, .int .i64 g, .slice B dn.length d], .int .i64 j] w (TNo w ts g dn (mkPart 5)) := by
  have H := Lib.hid h
  have HD := Lib.hid hd
  have hn := hd.len
  have hnb := right_n hr
  have hm := h.len
  have HG := Lib.hid hg
  have HI : Hid (in64 (j : Int)) := Lib.hid (by unfold in64; omega)
  have hl : ts.length ≤ 1048576 := by omega
  have hl2 : dn.length ≤ 1048576 := by omega
  have hgb := hnb.2.2.2.2
  have hs : wHas ts.length (j : Int) = true := by unfold wHas; simp; omega
  have HK := Lib.hid (askErr_ok hr hs)
  have HW : wGreat ts g dn.length j = decide (g < (ts.getD j tk0).hi - (ts.getD j tk0).lo) := by unfold wGreat tkAt; rw [hr, hs, Int.toNat_natCast]; rfl
  obtain ⟨b, off, rfl, hcc⟩ := Rd.tasks H.out (by omega)
  obtain ⟨y0, y1, y2, y3⟩ := hcc j hj
  have e0 : ts.getD j ⟨0, 0, 0, 0⟩ = ts.getD j tk0 := rfl
  rw [e0] at y0 y1 y2 y3
  obtain ⟨o1, o2, o3, o4, o5, o6, o7⟩ := tkOk_iff dn.length j (ts.getD j tk0) |>.1 (right_ok hr j hj)
  obtain ⟨⟨lo, hi, up, wt⟩, htk⟩ : ∃ x, ts.getD j tk0 = x := ⟨_, rfl⟩
  have HTK := Lib.hid htk
  rw [htk] at y0 y1 y2 y3 o1 o2 o3 o4 o5 o6 o7 HW
  simp only at y0 y1 y2 y3 o1 o2 o3 o4 o5 o6 o7 HW
  rw [ht] at HW
  have HGR : Hid (decide (g < hi - lo) = false) := Lib.hid HW.symm
  have HDD : Hid (in64 (hi - lo)) := Lib.hid (by unfold in64; omega)
  have Y0 := Lib.hid y0
  have Y1 := Lib.hid y1
  have Y2 := Lib.hid y2
  have Y3 := Lib.hid y3
  have hj1 : (j : Int) < ts.length := by omega
  have hj0 : (0 : Int) ≤ j := by omega
  have hlb : b < w.heap.size := World.block_lt_of_cell? _ _ y0
  clear h hd hg hr ht hs hcc e0 htk y0 y1 y2 y3 HW
  go_enter Tryz.func107, Tryz.ntmps107
  go_wp2_with fail
  have hP : PAt w (some ⟨b, off, none⟩) B c d dn.length ts.length g ((w.alloc (.cells #[.slice (some ⟨b, off, none⟩) ts.length c, .int .i64 g, .slice B dn.length d] 78)).alloc (.cells #[.slice none 0 0, .int .i64 0, .slice none 0 0] 78)) := Ext.refl _
  refine (copied_any _ _ _ _ _ _ _ _ (H.out.ext hP.ext) (HD.out.ext hP.ext) hl hl2).mono ?_
  rintro e w1 ⟨A1, c1, B1, d1, rfl, hO, hOD, hE⟩
  replace hP := hP.go hE
  have HO : Hid (Ow kTask (w.heap.size + 2) w1 (.slice A1 ts.length c1) ts) := Lib.hid (hO.mono (by simp))
  have HOD : Hid (Ow kBool (w.heap.size + 2) w1 (.slice B1 dn.length d1) dn) := Lib.hid (hOD.mono (by simp))
  have hV : VAt w (some ⟨b, off, none⟩) B c d dn.length ts.length g w1.heap.size A1 B1 c1 d1 (w1.alloc (.cells #[.slice A1 ts.length c1, .int .i64 g, .slice B1 dn.length d1] 78)) := VAt.start hP
  have HV0 := Lib.hid hV
  have HE1 : Hid (Ext w1 (w1.alloc (.cells #[.slice A1 ts.length c1, .int .i64 g, .slice B1 dn.length d1] 78))) := Lib.hid ((Ext.refl _).alloc _)
  obtain ⟨q0, q1, q2⟩ := hP.cells
  have k0 : w.heap.size < w1.heap.size := by have := hP.two; omega
  have k1 : w.heap.size + 1 < w1.heap.size := by have := hP.two; omega
  clear hO hOD hE hP hV
  go_wp2_with fail
  clear q0 q1 q2
  have hV := HV0.out
  refine (asked_any _ _ _ _ _ _ _ _ _ (H.out.ext hV.pat.ext) hn HG.out HI.out).mono ?_
  rintro e w2 ⟨he, hE⟩
  rw [HK.out] at he
  subst he
  replace hV := hV.go hE
  have HE2 := Lib.hid (HE1.out.trans hE)
  have HV := Lib.hid hV
  clear hE HV0 HE1
  obtain ⟨q0, q1, q2⟩ := hV.pat.cells
  obtain ⟨s0, s1, s2, s3⟩ := hV.pat.out
  obtain ⟨_, v0, v1, v2, v3, lv, gv⟩ := hV
  have l0 : w.heap.size < w2.heap.size := by omega
  have l1 : w.heap.size + 1 < w2.heap.size := by omega
  have l2 : w.heap.size < w2.heap.size + 1 := by omega
  have l3 : w.heap.size + 1 < w2.heap.size + 1 := by omega
  have l4 : w1.heap.size < w2.heap.size + 1 := by omega
  have n0 : ¬ w1.heap.size = w.heap.size := by omega
  have n1 : ¬ w1.heap.size = w.heap.size + 1 := by omega
  have n2 : ¬ w.heap.size + 1 = w1.heap.size := by omega
  have n3 : ¬ w.heap.size = w1.heap.size := by omega
  have z0 := HV.out.pat.ext.cell Y0.out
  have z1 := HV.out.pat.ext.cell Y1.out
  have z2 := HV.out.pat.ext.cell Y2.out
  have z3 := HV.out.pat.ext.cell Y3.out
  have lb0 : b < w2.heap.size := by omega
  have lb1 : b < w2.heap.size + 1 := by omega
  go_wp2_with fail
  have lv9 := lv
  clear q0 q1 q2 s0 s1 s2 s3 v0 v1 v2 v3 lv gv l0 l1 l2 l3 l4 n0 n1 n2 n3 z0 z1 z2 z3 lb0 lb1
  refine (great_any lo hi up wt g _ HDD.out HG.out).mono ?_
  rintro e w3 ⟨he, hE⟩
  rw [HGR.out] at he
  subst he
  have t0 : w3.cell? ⟨w2.heap.size, 0, none⟩ = some (.int .i64 lo) := hE.cell (by go_simp)
  have t1 : w3.cell? ⟨w2.heap.size, 1, none⟩ = some (.int .i64 hi) := hE.cell (by go_simp)
  have t2 : w3.cell? ⟨w2.heap.size, 2, none⟩ = some (.int .i64 up) := hE.cell (by go_simp)
  have t3 : w3.cell? ⟨w2.heap.size, 3, none⟩ = some (.int .i64 wt) := hE.cell (by go_simp)
  have hz := hE.size
  simp at hz
  have hE23 := ((Ext.refl w2).alloc _).trans hE
  have hV := HV.out.go hE23
  have HE3 := Lib.hid (HE2.out.trans hE23)
  have HV3 := Lib.hid hV
  clear hE hE23 HV HE2
  obtain ⟨q0, q1, q2⟩ := hV.pat.cells
  obtain ⟨s0, s1, s2, s3⟩ := hV.pat.out
  obtain ⟨_, v0, v1, v2, v3, lv, gv⟩ := hV
  have l0 : w.heap.size < w3.heap.size := by omega
  have l1 : w.heap.size + 1 < w3.heap.size := by omega
  have l2 : w.heap.size < w3.heap.size + 1 := by omega
  have l3 : w.heap.size + 1 < w3.heap.size + 1 := by omega
  have l4 : w1.heap.size < w3.heap.size + 1 := by omega
  have n0 : ¬ w1.heap.size = w.heap.size := by omega
  have n1 : ¬ w1.heap.size = w.heap.size + 1 := by omega
  have n2 : ¬ w.heap.size + 1 = w1.heap.size := by omega
  have n3 : ¬ w.heap.size = w1.heap.size := by omega
  have lt : w2.heap.size < w3.heap.size := by omega
  go_wp2_with fail
  have HVZ := HV3
  have HEZ := HE3
  refine bodyPost_ret (v := .tuple #[.agg #[.slice A1 ts.length c1, .int .i64 g, .slice B1 dn.length d1], .int .i64 0, .int .i64 0, .int .i64 (5)]) (by simp [results, Tryz.results107, go_sem]; go_simp) rfl (TNo.of (mk := mkPart (5)) HVZ.out HO.out HOD.out HEZ.out _ _ _)

set_option maxHeartbeats 1600000 in
set_option maxRecDepth 100000 in
theorem ppart_wait (A B : Option Addr) (c d : Nat) (ts : List Tk) (dn : List Bool) (g : Int) (j : Nat) (w : World) (h : Rd kTask w (.slice A ts.length c) ts) (hd : Rd kBool w (.slice B dn.length d) dn) (hg : in64 g) (hr : wRight ts g dn.length = true) (hj : j < ts.length) (ht : wGreat ts g dn.length j = true) (h3 : (ts.getD j tk0).wt ≠ 0) :
    Calls Tryz.prog 107 #[.agg #[.slice A ts.length c, .int .i64 g, .slice B dn.length d], .int .i64 j] w (TNo w ts g dn (mkPart 5)) := by
  have H := Lib.hid h
  have HD := Lib.hid hd
  have hn := hd.len
  have hnb := right_n hr
  have hm := h.len
  have HG := Lib.hid hg
  have HI : Hid (in64 (j : Int)) := Lib.hid (by unfold in64; omega)
  have hl : ts.length ≤ 1048576 := by omega
  have hl2 : dn.length ≤ 1048576 := by omega
  have hgb := hnb.2.2.2.2
  have hs : wHas ts.length (j : Int) = true := by unfold wHas; simp; omega
  have HK := Lib.hid (askErr_ok hr hs)
  have HW : wGreat ts g dn.length j = decide (g < (ts.getD j tk0).hi - (ts.getD j tk0).lo) := by unfold wGreat tkAt; rw [hr, hs, Int.toNat_natCast]; rfl
  obtain ⟨b, off, rfl, hcc⟩ := Rd.tasks H.out (by omega)
  obtain ⟨y0, y1, y2, y3⟩ := hcc j hj
  have e0 : ts.getD j ⟨0, 0, 0, 0⟩ = ts.getD j tk0 := rfl
  rw [e0] at y0 y1 y2 y3
  obtain ⟨o1, o2, o3, o4, o5, o6, o7⟩ := tkOk_iff dn.length j (ts.getD j tk0) |>.1 (right_ok hr j hj)
  obtain ⟨⟨lo, hi, up, wt⟩, htk⟩ : ∃ x, ts.getD j tk0 = x := ⟨_, rfl⟩
  have HTK := Lib.hid htk
  rw [htk] at y0 y1 y2 y3 h3 o1 o2 o3 o4 o5 o6 o7 HW
  simp only at y0 y1 y2 y3 h3 o1 o2 o3 o4 o5 o6 o7 HW
  rw [ht] at HW
  have HGR : Hid (decide (g < hi - lo) = true) := Lib.hid HW.symm
  have HDD : Hid (in64 (hi - lo)) := Lib.hid (by unfold in64; omega)
  have Y0 := Lib.hid y0
  have Y1 := Lib.hid y1
  have Y2 := Lib.hid y2
  have Y3 := Lib.hid y3
  have hj1 : (j : Int) < ts.length := by omega
  have hj0 : (0 : Int) ≤ j := by omega
  have hlb : b < w.heap.size := World.block_lt_of_cell? _ _ y0
  have e3 : (wt != 0) = true := by simpa using h3
  clear h hd hg hr ht hs hcc e0 htk y0 y1 y2 y3 HW
  go_enter Tryz.func107, Tryz.ntmps107
  go_wp2_with fail
  have hP : PAt w (some ⟨b, off, none⟩) B c d dn.length ts.length g ((w.alloc (.cells #[.slice (some ⟨b, off, none⟩) ts.length c, .int .i64 g, .slice B dn.length d] 78)).alloc (.cells #[.slice none 0 0, .int .i64 0, .slice none 0 0] 78)) := Ext.refl _
  refine (copied_any _ _ _ _ _ _ _ _ (H.out.ext hP.ext) (HD.out.ext hP.ext) hl hl2).mono ?_
  rintro e w1 ⟨A1, c1, B1, d1, rfl, hO, hOD, hE⟩
  replace hP := hP.go hE
  have HO : Hid (Ow kTask (w.heap.size + 2) w1 (.slice A1 ts.length c1) ts) := Lib.hid (hO.mono (by simp))
  have HOD : Hid (Ow kBool (w.heap.size + 2) w1 (.slice B1 dn.length d1) dn) := Lib.hid (hOD.mono (by simp))
  have hV : VAt w (some ⟨b, off, none⟩) B c d dn.length ts.length g w1.heap.size A1 B1 c1 d1 (w1.alloc (.cells #[.slice A1 ts.length c1, .int .i64 g, .slice B1 dn.length d1] 78)) := VAt.start hP
  have HV0 := Lib.hid hV
  have HE1 : Hid (Ext w1 (w1.alloc (.cells #[.slice A1 ts.length c1, .int .i64 g, .slice B1 dn.length d1] 78))) := Lib.hid ((Ext.refl _).alloc _)
  obtain ⟨q0, q1, q2⟩ := hP.cells
  have k0 : w.heap.size < w1.heap.size := by have := hP.two; omega
  have k1 : w.heap.size + 1 < w1.heap.size := by have := hP.two; omega
  clear hO hOD hE hP hV
  go_wp2_with fail
  clear q0 q1 q2
  have hV := HV0.out
  refine (asked_any _ _ _ _ _ _ _ _ _ (H.out.ext hV.pat.ext) hn HG.out HI.out).mono ?_
  rintro e w2 ⟨he, hE⟩
  rw [HK.out] at he
  subst he
  replace hV := hV.go hE
  have HE2 := Lib.hid (HE1.out.trans hE)
  have HV := Lib.hid hV
  clear hE HV0 HE1
  obtain ⟨q0, q1, q2⟩ := hV.pat.cells
  obtain ⟨s0, s1, s2, s3⟩ := hV.pat.out
  obtain ⟨_, v0, v1, v2, v3, lv, gv⟩ := hV
  have l0 : w.heap.size < w2.heap.size := by omega
  have l1 : w.heap.size + 1 < w2.heap.size := by omega
  have l2 : w.heap.size < w2.heap.size + 1 := by omega
  have l3 : w.heap.size + 1 < w2.heap.size + 1 := by omega
  have l4 : w1.heap.size < w2.heap.size + 1 := by omega
  have n0 : ¬ w1.heap.size = w.heap.size := by omega
  have n1 : ¬ w1.heap.size = w.heap.size + 1 := by omega
  have n2 : ¬ w.heap.size + 1 = w1.heap.size := by omega
  have n3 : ¬ w.heap.size = w1.heap.size := by omega
  have z0 := HV.out.pat.ext.cell Y0.out
  have z1 := HV.out.pat.ext.cell Y1.out
  have z2 := HV.out.pat.ext.cell Y2.out
  have z3 := HV.out.pat.ext.cell Y3.out
  have lb0 : b < w2.heap.size := by omega
  have lb1 : b < w2.heap.size + 1 := by omega
  go_wp2_with fail
  have lv9 := lv
  clear q0 q1 q2 s0 s1 s2 s3 v0 v1 v2 v3 lv gv l0 l1 l2 l3 l4 n0 n1 n2 n3 z0 z1 z2 z3 lb0 lb1
  refine (great_any lo hi up wt g _ HDD.out HG.out).mono ?_
  rintro e w3 ⟨he, hE⟩
  rw [HGR.out] at he
  subst he
  have t0 : w3.cell? ⟨w2.heap.size, 0, none⟩ = some (.int .i64 lo) := hE.cell (by go_simp)
  have t1 : w3.cell? ⟨w2.heap.size, 1, none⟩ = some (.int .i64 hi) := hE.cell (by go_simp)
  have t2 : w3.cell? ⟨w2.heap.size, 2, none⟩ = some (.int .i64 up) := hE.cell (by go_simp)
  have t3 : w3.cell? ⟨w2.heap.size, 3, none⟩ = some (.int .i64 wt) := hE.cell (by go_simp)
  have hz := hE.size
  simp at hz
  have hE23 := ((Ext.refl w2).alloc _).trans hE
  have hV := HV.out.go hE23
  have HE3 := Lib.hid (HE2.out.trans hE23)
  have HV3 := Lib.hid hV
  clear hE hE23 HV HE2
  obtain ⟨q0, q1, q2⟩ := hV.pat.cells
  obtain ⟨s0, s1, s2, s3⟩ := hV.pat.out
  obtain ⟨_, v0, v1, v2, v3, lv, gv⟩ := hV
  have l0 : w.heap.size < w3.heap.size := by omega
  have l1 : w.heap.size + 1 < w3.heap.size := by omega
  have l2 : w.heap.size < w3.heap.size + 1 := by omega
  have l3 : w.heap.size + 1 < w3.heap.size + 1 := by omega
  have l4 : w1.heap.size < w3.heap.size + 1 := by omega
  have n0 : ¬ w1.heap.size = w.heap.size := by omega
  have n1 : ¬ w1.heap.size = w.heap.size + 1 := by omega
  have n2 : ¬ w.heap.size + 1 = w1.heap.size := by omega
  have n3 : ¬ w.heap.size = w1.heap.size := by omega
  have lt : w2.heap.size < w3.heap.size := by omega
  go_wp2_with fail
  have HVZ := HV3
  have HEZ := HE3
  refine bodyPost_ret (v := .tuple #[.agg #[.slice A1 ts.length c1, .int .i64 g, .slice B1 dn.length d1], .int .i64 0, .int .i64 0, .int .i64 (5)]) (by simp [results, Tryz.results107, go_sem]; go_simp) rfl (TNo.of (mk := mkPart (5)) HVZ.out HO.out HOD.out HEZ.out _ _ _)

set_option maxHeartbeats 1600000 in
set_option maxRecDepth 100000 in
theorem ppart_full (A B : Option Addr) (c d : Nat) (ts : List Tk) (dn : List Bool) (g : Int) (j : Nat) (w : World) (h : Rd kTask w (.slice A ts.length c) ts) (hd : Rd kBool w (.slice B dn.length d) dn) (hg : in64 g) (hr : wRight ts g dn.length = true) (hj : j < ts.length) (ht : wGreat ts g dn.length j = true) (h3 : (ts.getD j tk0).wt = 0) (hf : 1998 < ts.length) :
    Calls Tryz.prog 107 #[.agg #[.slice A ts.length c, .int .i64 g, .slice B dn.length d], .int .i64 j] w (TNo w ts g dn (mkPart 2)) := by
  have H := Lib.hid h
  have HD := Lib.hid hd
  have hn := hd.len
  have hnb := right_n hr
  have hm := h.len
  have HG := Lib.hid hg
  have HI : Hid (in64 (j : Int)) := Lib.hid (by unfold in64; omega)
  have hl : ts.length ≤ 1048576 := by omega
  have hl2 : dn.length ≤ 1048576 := by omega
  have hgb := hnb.2.2.2.2
  have hs : wHas ts.length (j : Int) = true := by unfold wHas; simp; omega
  have HK := Lib.hid (askErr_ok hr hs)
  have HW : wGreat ts g dn.length j = decide (g < (ts.getD j tk0).hi - (ts.getD j tk0).lo) := by unfold wGreat tkAt; rw [hr, hs, Int.toNat_natCast]; rfl
  obtain ⟨b, off, rfl, hcc⟩ := Rd.tasks H.out (by omega)
  obtain ⟨y0, y1, y2, y3⟩ := hcc j hj
  have e0 : ts.getD j ⟨0, 0, 0, 0⟩ = ts.getD j tk0 := rfl
  rw [e0] at y0 y1 y2 y3
  obtain ⟨o1, o2, o3, o4, o5, o6, o7⟩ := tkOk_iff dn.length j (ts.getD j tk0) |>.1 (right_ok hr j hj)
  obtain ⟨⟨lo, hi, up, wt⟩, htk⟩ : ∃ x, ts.getD j tk0 = x := ⟨_, rfl⟩
  have HTK := Lib.hid htk
  rw [htk] at y0 y1 y2 y3 h3 o1 o2 o3 o4 o5 o6 o7 HW
  simp only at y0 y1 y2 y3 h3 o1 o2 o3 o4 o5 o6 o7 HW
  rw [ht] at HW
  have HGR : Hid (decide (g < hi - lo) = true) := Lib.hid HW.symm
  have HDD : Hid (in64 (hi - lo)) := Lib.hid (by unfold in64; omega)
  have Y0 := Lib.hid y0
  have Y1 := Lib.hid y1
  have Y2 := Lib.hid y2
  have Y3 := Lib.hid y3
  have hj1 : (j : Int) < ts.length := by omega
  have hj0 : (0 : Int) ≤ j := by omega
  have hlb : b < w.heap.size := World.block_lt_of_cell? _ _ y0
  subst h3
  have hf1 : (1998 : Int) < ts.length := by omega
  clear h hd hg hr ht hs hcc e0 htk y0 y1 y2 y3 HW
  go_enter Tryz.func107, Tryz.ntmps107
  go_wp2_with fail
  have hP : PAt w (some ⟨b, off, none⟩) B c d dn.length ts.length g ((w.alloc (.cells #[.slice (some ⟨b, off, none⟩) ts.length c, .int .i64 g, .slice B dn.length d] 78)).alloc (.cells #[.slice none 0 0, .int .i64 0, .slice none 0 0] 78)) := Ext.refl _
  refine (copied_any _ _ _ _ _ _ _ _ (H.out.ext hP.ext) (HD.out.ext hP.ext) hl hl2).mono ?_
  rintro e w1 ⟨A1, c1, B1, d1, rfl, hO, hOD, hE⟩
  replace hP := hP.go hE
  have HO : Hid (Ow kTask (w.heap.size + 2) w1 (.slice A1 ts.length c1) ts) := Lib.hid (hO.mono (by simp))
  have HOD : Hid (Ow kBool (w.heap.size + 2) w1 (.slice B1 dn.length d1) dn) := Lib.hid (hOD.mono (by simp))
  have hV : VAt w (some ⟨b, off, none⟩) B c d dn.length ts.length g w1.heap.size A1 B1 c1 d1 (w1.alloc (.cells #[.slice A1 ts.length c1, .int .i64 g, .slice B1 dn.length d1] 78)) := VAt.start hP
  have HV0 := Lib.hid hV
  have HE1 : Hid (Ext w1 (w1.alloc (.cells #[.slice A1 ts.length c1, .int .i64 g, .slice B1 dn.length d1] 78))) := Lib.hid ((Ext.refl _).alloc _)
  obtain ⟨q0, q1, q2⟩ := hP.cells
  have k0 : w.heap.size < w1.heap.size := by have := hP.two; omega
  have k1 : w.heap.size + 1 < w1.heap.size := by have := hP.two; omega
  clear hO hOD hE hP hV
  go_wp2_with fail
  clear q0 q1 q2
  have hV := HV0.out
  refine (asked_any _ _ _ _ _ _ _ _ _ (H.out.ext hV.pat.ext) hn HG.out HI.out).mono ?_
  rintro e w2 ⟨he, hE⟩
  rw [HK.out] at he
  subst he
  replace hV := hV.go hE
  have HE2 := Lib.hid (HE1.out.trans hE)
  have HV := Lib.hid hV
  clear hE HV0 HE1
  obtain ⟨q0, q1, q2⟩ := hV.pat.cells
  obtain ⟨s0, s1, s2, s3⟩ := hV.pat.out
  obtain ⟨_, v0, v1, v2, v3, lv, gv⟩ := hV
  have l0 : w.heap.size < w2.heap.size := by omega
  have l1 : w.heap.size + 1 < w2.heap.size := by omega
  have l2 : w.heap.size < w2.heap.size + 1 := by omega
  have l3 : w.heap.size + 1 < w2.heap.size + 1 := by omega
  have l4 : w1.heap.size < w2.heap.size + 1 := by omega
  have n0 : ¬ w1.heap.size = w.heap.size := by omega
  have n1 : ¬ w1.heap.size = w.heap.size + 1 := by omega
  have n2 : ¬ w.heap.size + 1 = w1.heap.size := by omega
  have n3 : ¬ w.heap.size = w1.heap.size := by omega
  have z0 := HV.out.pat.ext.cell Y0.out
  have z1 := HV.out.pat.ext.cell Y1.out
  have z2 := HV.out.pat.ext.cell Y2.out
  have z3 := HV.out.pat.ext.cell Y3.out
  have lb0 : b < w2.heap.size := by omega
  have lb1 : b < w2.heap.size + 1 := by omega
  go_wp2_with fail
  have lv9 := lv
  clear q0 q1 q2 s0 s1 s2 s3 v0 v1 v2 v3 lv gv l0 l1 l2 l3 l4 n0 n1 n2 n3 z0 z1 z2 z3 lb0 lb1
  refine (great_any lo hi up 0 g _ HDD.out HG.out).mono ?_
  rintro e w3 ⟨he, hE⟩
  rw [HGR.out] at he
  subst he
  have t0 : w3.cell? ⟨w2.heap.size, 0, none⟩ = some (.int .i64 lo) := hE.cell (by go_simp)
  have t1 : w3.cell? ⟨w2.heap.size, 1, none⟩ = some (.int .i64 hi) := hE.cell (by go_simp)
  have t2 : w3.cell? ⟨w2.heap.size, 2, none⟩ = some (.int .i64 up) := hE.cell (by go_simp)
  have t3 : w3.cell? ⟨w2.heap.size, 3, none⟩ = some (.int .i64 0) := hE.cell (by go_simp)
  have hz := hE.size
  simp at hz
  have hE23 := ((Ext.refl w2).alloc _).trans hE
  have hV := HV.out.go hE23
  have HE3 := Lib.hid (HE2.out.trans hE23)
  have HV3 := Lib.hid hV
  clear hE hE23 HV HE2
  obtain ⟨q0, q1, q2⟩ := hV.pat.cells
  obtain ⟨s0, s1, s2, s3⟩ := hV.pat.out
  obtain ⟨_, v0, v1, v2, v3, lv, gv⟩ := hV
  have l0 : w.heap.size < w3.heap.size := by omega
  have l1 : w.heap.size + 1 < w3.heap.size := by omega
  have l2 : w.heap.size < w3.heap.size + 1 := by omega
  have l3 : w.heap.size + 1 < w3.heap.size + 1 := by omega
  have l4 : w1.heap.size < w3.heap.size + 1 := by omega
  have n0 : ¬ w1.heap.size = w.heap.size := by omega
  have n1 : ¬ w1.heap.size = w.heap.size + 1 := by omega
  have n2 : ¬ w.heap.size + 1 = w1.heap.size := by omega
  have n3 : ¬ w.heap.size = w1.heap.size := by omega
  have lt : w2.heap.size < w3.heap.size := by omega
  go_wp2_with fail
  have HVZ := HV3
  have HEZ := HE3
  refine bodyPost_ret (v := .tuple #[.agg #[.slice A1 ts.length c1, .int .i64 g, .slice B1 dn.length d1], .int .i64 0, .int .i64 0, .int .i64 (2)]) (by simp [results, Tryz.results107, go_sem]; go_simp) rfl (TNo.of (mk := mkPart (2)) HVZ.out HO.out HOD.out HEZ.out _ _ _)

set_option maxHeartbeats 1600000 in
set_option maxRecDepth 100000 in
theorem ppart_ok (A B : Option Addr) (c d : Nat) (ts : List Tk) (dn : List Bool) (g : Int) (j : Nat) (w : World) (h : Rd kTask w (.slice A ts.length c) ts) (hd : Rd kBool w (.slice B dn.length d) dn) (hg : in64 g) (hr : wRight ts g dn.length = true) (hj : j < ts.length) (ht : wGreat ts g dn.length j = true) (h3 : (ts.getD j tk0).wt = 0) (hf : ts.length ≤ 1998) :
    Calls Tryz.prog 107 #[.agg #[.slice A ts.length c, .int .i64 g, .slice B dn.length d], .int .i64 j] w (PartSaid w ts g dn j) := by
  have H := Lib.hid h
  have HD := Lib.hid hd
  have hn := hd.len
  have hnb := right_n hr
  have hm := h.len
  have HG := Lib.hid hg
  have HI : Hid (in64 (j : Int)) := Lib.hid (by unfold in64; omega)
  have hl : ts.length ≤ 1048576 := by omega
  have hl2 : dn.length ≤ 1048576 := by omega
  have hgb := hnb.2.2.2.2
  have hs : wHas ts.length (j : Int) = true := by unfold wHas; simp; omega
  have HK := Lib.hid (askErr_ok hr hs)
  have HW : wGreat ts g dn.length j = decide (g < (ts.getD j tk0).hi - (ts.getD j tk0).lo) := by unfold wGreat tkAt; rw [hr, hs, Int.toNat_natCast]; rfl
  obtain ⟨b, off, rfl, hcc⟩ := Rd.tasks H.out (by omega)
  obtain ⟨y0, y1, y2, y3⟩ := hcc j hj
  have e0 : ts.getD j ⟨0, 0, 0, 0⟩ = ts.getD j tk0 := rfl
  rw [e0] at y0 y1 y2 y3
  obtain ⟨o1, o2, o3, o4, o5, o6, o7⟩ := tkOk_iff dn.length j (ts.getD j tk0) |>.1 (right_ok hr j hj)
  obtain ⟨⟨lo, hi, up, wt⟩, htk⟩ : ∃ x, ts.getD j tk0 = x := ⟨_, rfl⟩
  have HTK := Lib.hid htk
  rw [htk] at y0 y1 y2 y3 h3 o1 o2 o3 o4 o5 o6 o7 HW
  simp only at y0 y1 y2 y3 h3 o1 o2 o3 o4 o5 o6 o7 HW
  rw [ht] at HW
  have HGR : Hid (decide (g < hi - lo) = true) := Lib.hid HW.symm
  have HDD : Hid (in64 (hi - lo)) := Lib.hid (by unfold in64; omega)
  have Y0 := Lib.hid y0
  have Y1 := Lib.hid y1
  have Y2 := Lib.hid y2
  have Y3 := Lib.hid y3
  have hj1 : (j : Int) < ts.length := by omega
  have hj0 : (0 : Int) ≤ j := by omega
  have hlb : b < w.heap.size := World.block_lt_of_cell? _ _ y0
  subst h3
  have hf1 : (ts.length : Int) ≤ 1998 := by omega
  clear h hd hg hr ht hs hcc e0 htk y0 y1 y2 y3 HW
  go_enter Tryz.func107, Tryz.ntmps107
  go_wp2_with fail
  have hP : PAt w (some ⟨b, off, none⟩) B c d dn.length ts.length g ((w.alloc (.cells #[.slice (some ⟨b, off, none⟩) ts.length c, .int .i64 g, .slice B dn.length d] 78)).alloc (.cells #[.slice none 0 0, .int .i64 0, .slice none 0 0] 78)) := Ext.refl _
  refine (copied_any _ _ _ _ _ _ _ _ (H.out.ext hP.ext) (HD.out.ext hP.ext) hl hl2).mono ?_
  rintro e w1 ⟨A1, c1, B1, d1, rfl, hO, hOD, hE⟩
  replace hP := hP.go hE
  have HO : Hid (Ow kTask (w.heap.size + 2) w1 (.slice A1 ts.length c1) ts) := Lib.hid (hO.mono (by simp))
  have HOD : Hid (Ow kBool (w.heap.size + 2) w1 (.slice B1 dn.length d1) dn) := Lib.hid (hOD.mono (by simp))
  have hV : VAt w (some ⟨b, off, none⟩) B c d dn.length ts.length g w1.heap.size A1 B1 c1 d1 (w1.alloc (.cells #[.slice A1 ts.length c1, .int .i64 g, .slice B1 dn.length d1] 78)) := VAt.start hP
  have HV0 := Lib.hid hV
  have HE1 : Hid (Ext w1 (w1.alloc (.cells #[.slice A1 ts.length c1, .int .i64 g, .slice B1 dn.length d1] 78))) := Lib.hid ((Ext.refl _).alloc _)
  obtain ⟨q0, q1, q2⟩ := hP.cells
  have k0 : w.heap.size < w1.heap.size := by have := hP.two; omega
  have k1 : w.heap.size + 1 < w1.heap.size := by have := hP.two; omega
  clear hO hOD hE hP hV
  go_wp2_with fail
  clear q0 q1 q2
  have hV := HV0.out
  refine (asked_any _ _ _ _ _ _ _ _ _ (H.out.ext hV.pat.ext) hn HG.out HI.out).mono ?_
  rintro e w2 ⟨he, hE⟩
  rw [HK.out] at he
  subst he
  replace hV := hV.go hE
  have HE2 := Lib.hid (HE1.out.trans hE)
  have HV := Lib.hid hV
  clear hE HV0 HE1
  obtain ⟨q0, q1, q2⟩ := hV.pat.cells
  obtain ⟨s0, s1, s2, s3⟩ := hV.pat.out
  obtain ⟨_, v0, v1, v2, v3, lv, gv⟩ := hV
  have l0 : w.heap.size < w2.heap.size := by omega
  have l1 : w.heap.size + 1 < w2.heap.size := by omega
  have l2 : w.heap.size < w2.heap.size + 1 := by omega
  have l3 : w.heap.size + 1 < w2.heap.size + 1 := by omega
  have l4 : w1.heap.size < w2.heap.size + 1 := by omega
  have n0 : ¬ w1.heap.size = w.heap.size := by omega
  have n1 : ¬ w1.heap.size = w.heap.size + 1 := by omega
  have n2 : ¬ w.heap.size + 1 = w1.heap.size := by omega
  have n3 : ¬ w.heap.size = w1.heap.size := by omega
  have z0 := HV.out.pat.ext.cell Y0.out
  have z1 := HV.out.pat.ext.cell Y1.out
  have z2 := HV.out.pat.ext.cell Y2.out
  have z3 := HV.out.pat.ext.cell Y3.out
  have lb0 : b < w2.heap.size := by omega
  have lb1 : b < w2.heap.size + 1 := by omega
  go_wp2_with fail
  have lv9 := lv
  clear q0 q1 q2 s0 s1 s2 s3 v0 v1 v2 v3 lv gv l0 l1 l2 l3 l4 n0 n1 n2 n3 z0 z1 z2 z3 lb0 lb1
  refine (great_any lo hi up 0 g _ HDD.out HG.out).mono ?_
  rintro e w3 ⟨he, hE⟩
  rw [HGR.out] at he
  subst he
  have t0 : w3.cell? ⟨w2.heap.size, 0, none⟩ = some (.int .i64 lo) := hE.cell (by go_simp)
  have t1 : w3.cell? ⟨w2.heap.size, 1, none⟩ = some (.int .i64 hi) := hE.cell (by go_simp)
  have t2 : w3.cell? ⟨w2.heap.size, 2, none⟩ = some (.int .i64 up) := hE.cell (by go_simp)
  have t3 : w3.cell? ⟨w2.heap.size, 3, none⟩ = some (.int .i64 0) := hE.cell (by go_simp)
  have hz := hE.size
  simp at hz
  have hE23 := ((Ext.refl w2).alloc _).trans hE
  have hV := HV.out.go hE23
  have HE3 := Lib.hid (HE2.out.trans hE23)
  have HV3 := Lib.hid hV
  clear hE hE23 HV HE2
  obtain ⟨q0, q1, q2⟩ := hV.pat.cells
  obtain ⟨s0, s1, s2, s3⟩ := hV.pat.out
  obtain ⟨_, v0, v1, v2, v3, lv, gv⟩ := hV
  have l0 : w.heap.size < w3.heap.size := by omega
  have l1 : w.heap.size + 1 < w3.heap.size := by omega
  have l2 : w.heap.size < w3.heap.size + 1 := by omega
  have l3 : w.heap.size + 1 < w3.heap.size + 1 := by omega
  have l4 : w1.heap.size < w3.heap.size + 1 := by omega
  have n0 : ¬ w1.heap.size = w.heap.size := by omega
  have n1 : ¬ w1.heap.size = w.heap.size + 1 := by omega
  have n2 : ¬ w.heap.size + 1 = w1.heap.size := by omega
  have n3 : ¬ w.heap.size = w1.heap.size := by omega
  have lt : w2.heap.size < w3.heap.size := by omega
  go_wp2_with fail
  obtain ⟨P2, hP2⟩ : ∃ P2, (hi - lo) / 2 = P2 := ⟨_, rfl⟩
  have HHALF : Hid (in64 (hi - lo)) := HDD
  have hd0 : 0 ≤ hi - lo := by omega
  have HALL : Hid (∀ w', Drawn w3 w' → w'.cell? ⟨w2.heap.size, 0, none⟩ = some (.int .i64 lo) ∧ w'.cell? ⟨w2.heap.size, 1, none⟩ = some (.int .i64 hi)) := Lib.hid fun w' hD => ⟨hD.ext.cell t0, hD.ext.cell t1⟩
  have HH : Hid (∀ w', Drawn w3 w' → Calls Tryz.prog 113 #[.int .i64 (hi - lo)] w' fun e w'' => e = .returned (.int .i64 P2) ∧ Drawn w3 w'') := Lib.hid fun w' hD => (half_any _ w' HDD.out hd0).mono fun e w'' h => ⟨by rw [h.1, hP2], h.2 ▸ hD⟩
  have hw1 : IntKind.i64.wrap (hi - lo) = hi - lo := IntWalk.i64_in _ (by omega)
  have hw2 : IntKind.i64.wrap (lo + P2) = lo + P2 := IntWalk.i64_in _ (by omega)
  have HS := Lib.hid (And.intro t0 (And.intro t1 (And.intro t2 t3)))
  clear q0 q1 q2 s0 s1 s2 s3 v0 v1 v2 v3 lv gv l0 l1 l2 l3 l4 n0 n1 n2 n3 t0 t1 t2 t3
  refine wp_region_class (Drawn w3) (by kernel_rfl) (by kernel_rfl) (Drawn.drew w3) ?_
  repeat (first
    | go_big_quiet_skip
    | (go_big_quiet_want
       first
       | (go_big_quiet_op; go_big_quiet_on)
       | (unfold Oper.quiet
          apply Exists.intro
          refine ⟨fun w' hC => ?_, ?_⟩
          · (obtain ⟨k1, k2⟩ := HALL.out w' hC
             unfold Oper.quietAt
             go_simp
             first
             | exact rfl
             | (with_reducible exact HH.out w' hC))
          go_simp
          go_big_quiet_on)
       | (go_big_quiet_op
          apply Exists.intro
          refine ⟨fun w' hC => ?_, ?_⟩
          · exact HH.out w' hC
          go_big_quiet_on)))
  refine wpQuiet_nil ?_
  intro w4 hC4
  have hV := HV3.out.go hC4.ext
  have HV4 := Lib.hid hV
  have HE4 := Lib.hid (HE3.out.trans hC4.ext)
  obtain ⟨q0, q1, q2⟩ := hV.pat.cells
  obtain ⟨s0, s1, s2, s3⟩ := hV.pat.out
  obtain ⟨_, v0, v1, v2, v3, lv, gv⟩ := hV
  have l0 : w.heap.size < w4.heap.size := by omega
  have l1 : w.heap.size + 1 < w4.heap.size := by omega
  have l2 : w.heap.size < w4.heap.size + 1 := by omega
  have l3 : w.heap.size + 1 < w4.heap.size + 1 := by omega
  have l4 : w1.heap.size < w4.heap.size + 1 := by omega
  have n0 : ¬ w1.heap.size = w.heap.size := by omega
  have n1 : ¬ w1.heap.size = w.heap.size + 1 := by omega
  have n2 : ¬ w.heap.size + 1 = w1.heap.size := by omega
  have n3 : ¬ w.heap.size = w1.heap.size := by omega
  have t0 := hC4.ext.cell HS.out.1
  have t1 := hC4.ext.cell HS.out.2.1
  have HX3 := Lib.hid hC4.ext.size
  clear hC4
  have lt : w2.heap.size < w4.heap.size := by have := HX3.out; omega
  obtain ⟨ga, rfl, ga1, ga2, ga3, ga4⟩ := Ow.pos HO.out (by omega)
  have gf : w4.frozen? ⟨ga, j * 4 + 3, none⟩ = false := (Below.frozen HE4.out (p := ⟨ga, j * 4 + 3, none⟩) ga2).trans (ga4 _)
  have u3 : w4.cell? ⟨ga, j * 4 + 3, none⟩ = some (.int .i64 0) := HE4.out.cell (ga3 j hj 3 (.int .i64 0) (by have e : ts.getD j kTask.d = ts.getD j tk0 := rfl; rw [e, HTK.out]; rfl))
  have m0 : ¬ ga = w1.heap.size := by omega
  have m1 : ¬ ga = w2.heap.size := by omega
  have m2 : ¬ ga = w.heap.size := by omega
  have m3 : ¬ ga = w.heap.size + 1 := by omega
  have m4 : ¬ w2.heap.size = ga := by omega
  have m5 : ¬ w1.heap.size = ga := by omega
  have lg : ga < w4.heap.size := by omega
  have lg1 : ga < w4.heap.size + 1 := by omega
  have lt1 : w2.heap.size < w4.heap.size + 1 := by omega
  clear ga3 ga4
  have hos : Ow kTask _ (w4.setCell ⟨ga, j * 4 + 3, none⟩ (.int .i64 2)) (.slice (some ⟨ga, 0, none⟩) ts.length c1) (ts.set j ⟨lo, hi, up, 2⟩) := (HO.out.ext HE4.out).set (j := j) (i := 3) hj (by decide) (by have e : ts.getD j kTask.d = ts.getD j tk0 := rfl; rw [e, HTK.out]; rfl) (tk_ok (by unfold in64; omega) (by unfold in64; omega) (by unfold in64; omega) (by unfold in64; omega))
  have HOS := Lib.hid hos
  clear hos
  have HP2 := Lib.hid hP2
  have M1 : 0 ≤ P2 := by omega
  have M2 : P2 ≤ hi - lo := by omega
  clear hP2 hw1 hw2
  have hlen : (ts.set j (⟨lo, hi, up, 2⟩ : Tk) ++ ([⟨lo, lo + P2, (j : Int), 0⟩, ⟨lo + P2, hi, (j : Int), 0⟩] : List Tk)).length = ts.length + 2 := by simp
  go_wp2_with (first | (at_builtin; refine Stop.to ?_) | fail)
  refine Stop.of ?_
  refine Kd.wpList_app kTask (by rfl) (.tmp 59) (.tmp 70) (by rfl) (by rfl) _ _ (ts.set j ⟨lo, hi, up, 2⟩) (by rfl) (HOS.out.ext ((Ext.refl _).alloc _)) _ [⟨lo, lo + P2, j, 0⟩, ⟨lo + P2, hi, j, 0⟩] (by rfl) ?rd (by simp; omega) (by simp; omega) ?_
  case rd => exact ((Ow.lit (K := kTask) (B := 0) (p := w4.heap.size) (n := 2) _ [⟨lo, lo + P2, j, 0⟩, ⟨lo + P2, hi, j, 0⟩] _ rfl rfl (by simp) (Nat.zero_le _) (by simp [maxLen]) (by intro x hx; simp only [List.mem_cons, List.not_mem_nil, or_false] at hx; rcases hx with rfl | rfl <;> exact tk_ok (by unfold in64; omega) (by unfold in64; omega) (by unfold in64; omega) (by unfold in64; omega))).rd)
  intro v' w5 hown' hgrow' hat'
  have hv' := hown'.slice
  rw [hlen] at hv'
  obtain ⟨A4, c4, rfl, _⟩ := hv'
  have hg : World.grownBy _ w5 (some ga) := hgrow'
  have p0 : w5.cell? ⟨w1.heap.size, 0, none⟩ = some (.slice (some ⟨ga, 0, none⟩) ts.length c1) := ((grown_far hg (b := w1.heap.size) (by simp; omega) (by simp; omega)).1 0).trans (by go_simp)
  have p1 : w5.cell? ⟨w1.heap.size, 1, none⟩ = some (.int .i64 g) := ((grown_far hg (b := w1.heap.size) (by simp; omega) (by simp; omega)).1 1).trans (by go_simp)
  have p2 : w5.cell? ⟨w1.heap.size, 2, none⟩ = some (.slice B1 dn.length d1) := ((grown_far hg (b := w1.heap.size) (by simp; omega) (by simp; omega)).1 2).trans (by go_simp)
  have p3 : ∀ o, w5.frozen? ⟨w1.heap.size, o, none⟩ = false := fun o => ((grown_far hg (b := w1.heap.size) (by simp; omega) (by simp; omega)).2 o).trans (by have := v3 o; go_simp)
  have x0 : w5.cell? ⟨w.heap.size + 1, 0, none⟩ = some (.slice none 0 0) := ((grown_far hg (b := w.heap.size + 1) (by simp; omega) (by simp; omega)).1 0).trans (by go_simp)
  have x1 : w5.cell? ⟨w.heap.size + 1, 1, none⟩ = some (.int .i64 0) := ((grown_far hg (b := w.heap.size + 1) (by simp; omega) (by simp; omega)).1 1).trans (by go_simp)
  have x2 : w5.cell? ⟨w.heap.size + 1, 2, none⟩ = some (.slice none 0 0) := ((grown_far hg (b := w.heap.size + 1) (by simp; omega) (by simp; omega)).1 2).trans (by go_simp)
  have x3 : ∀ o, w5.frozen? ⟨w.heap.size + 1, o, none⟩ = false := fun o => ((grown_far hg (b := w.heap.size + 1) (by simp; omega) (by simp; omega)).2 o).trans (by have := s3 o; go_simp)
  have hat2 : ∀ k, (Value.slice A4 (ts.length + 2) c4).ownBlock = some k → k = ga ∨ w4.heap.size ≤ k := by
    intro k hk
    rcases hat' with e | e
    · rw [hk] at e; left; simpa [Value.ownBlock] using e
    · rw [hk] at e; right; simp at e; omega
  have HAT := Lib.hid hat2
  have HOW := Lib.hid hown'
  have HGR := Lib.hid hg
  clear hown' hgrow' hat' hat2 hg hlen
  go_wp2_with fail
  have hPT : partedTs ts j = ts.set j ⟨lo, hi, up, 2⟩ ++ [⟨lo, lo + P2, j, 0⟩, ⟨lo + P2, hi, j, 0⟩] := by unfold partedTs; rw [HTK.out]; simp only; rw [HP2.out]
  have hL : (partedTs ts j).length = ts.length + 2 := by rw [hPT]; simp
  have nb : ∀ k, (Value.slice A4 (ts.length + 2) c4).ownBlock = some k → k = ga ∨ w4.heap.size ≤ k := HAT.out
  have hX2 : Ext w w5 := (((HV4.out.pat.ext.setCell (p := ⟨ga, j * 4 + 3, none⟩) (by show _ ≤ ga; omega) _).alloc _)).grown HGR.out (by intro k hk; cases hk; omega)
  have hB3 : (Value.slice B1 dn.length d1).ownBlock ≠ some ga := Ow.far (by decide) HO.out HOD.out ga rfl
  have hB4 : (Value.slice B1 dn.length d1).ownBlock ≠ some w1.heap.size := fun h => by have := (HOD.out.lt _ h).2; omega
  have hOD4 := (((HOD.out.ext HE4.out).setOther (p := ⟨ga, j * 4 + 3, none⟩) hB3 (.int .i64 2)).ext ((Ext.refl _).alloc _)).kept HGR.out (.inr hB3)
  refine bodyPost_ret (v := .tuple #[.agg #[.slice A4 (ts.length + 2) c4, .int .i64 g, .slice B1 dn.length d1], .int .i64 ts.length, .int .i64 (ts.length + 1), .int .i64 0]) (by simp [results, Tryz.results107, go_sem]; go_simp) rfl ⟨A4, c4, B1, d1, by rw [hL], ?_, ?_, ?_, ?_, ?_⟩
  · rw [hL, hPT]
    exact ((((HOW.out.setOther (p := ⟨w1.heap.size, 0, none⟩) (fun h => by have := nb _ h; simp at this; omega) _).setBelow (p := ⟨w.heap.size + 1, 0, none⟩) (by show w.heap.size + 1 < _; omega) _).setBelow (p := ⟨w.heap.size + 1, 1, none⟩) (by show w.heap.size + 1 < _; omega) _).setBelow (p := ⟨w.heap.size + 1, 2, none⟩) (by show w.heap.size + 1 < _; omega) _).rd
  · exact ((((hOD4.setOther (p := ⟨w1.heap.size, 0, none⟩) hB4 _).setBelow (p := ⟨w.heap.size + 1, 0, none⟩) (by show w.heap.size + 1 < _; omega) _).setBelow (p := ⟨w.heap.size + 1, 1, none⟩) (by show w.heap.size + 1 < _; omega) _).setBelow (p := ⟨w.heap.size + 1, 2, none⟩) (by show w.heap.size + 1 < _; omega) _).rd
  · exact (HOW.out.from).mono (by omega)
  · exact (HOD.out.from).mono (by omega)
  · exact (((hX2.setCell (p := ⟨w1.heap.size, 0, none⟩) (by show _ ≤ w1.heap.size; omega) _).setCell (p := ⟨w.heap.size + 1, 0, none⟩) (by show _ ≤ w.heap.size + 1; omega) _).setCell (p := ⟨w.heap.size + 1, 1, none⟩) (by show _ ≤ w.heap.size + 1; omega) _).setCell (p := ⟨w.heap.size + 1, 2, none⟩) (by show _ ≤ w.heap.size + 1; omega) _

theorem ppart_any (A B : Option Addr) (c d : Nat) (ts : List Tk) (dn : List Bool) (g i : Int) (w : World) (h : Rd kTask w (.slice A ts.length c) ts) (hd : Rd kBool w (.slice B dn.length d) dn) (hg : in64 g) (hi : in64 i) (hl : ts.length ≤ 1048576) (hl2 : dn.length ≤ 1048576) :
    Calls Tryz.prog 107 #[.agg #[.slice A ts.length c, .int .i64 g, .slice B dn.length d], .int .i64 i] w fun e w' =>
      (partErr ts g dn.length i ≠ 0 ∧ TNo w ts g dn (mkPart (partErr ts g dn.length i)) e w') ∨ (partErr ts g dn.length i = 0 ∧ PartSaid w ts g dn i.toNat e w') := by
  by_cases ha : askErr ts g dn.length i = 0
  · obtain ⟨hr, hs⟩ := askErr_zero ha
    have hsi : 0 ≤ i ∧ i < (ts.length : Int) := by unfold wHas at hs; simpa using hs
    obtain ⟨j, rfl⟩ : ∃ j : Nat, i = j := ⟨i.toNat, by omega⟩
    have hj : j < ts.length := by omega
    have e0 : tkAt ts (j : Int) = ts.getD j tk0 := by unfold tkAt; rw [Int.toNat_natCast]
    cases ht : wGreat ts g dn.length j with
    | false =>
      have he : partErr ts g dn.length (j : Int) = 5 := by unfold partErr; rw [if_neg (by rw [hr]; decide), if_neg (by rw [hs]; decide), if_pos ht]
      rw [he]
      exact (ppart_small A B c d ts dn g j w h hd hg hr hj ht).mono fun e w' hh => .inl ⟨by decide, hh⟩
    | true =>
      by_cases hw : (ts.getD j tk0).wt = 0
      · by_cases hf : 1998 < ts.length
        · skip
          have he : partErr ts g dn.length (j : Int) = 2 := by unfold partErr; rw [if_neg (by rw [hr]; decide), if_neg (by rw [hs]; decide), if_neg (by rw [ht]; decide), e0, if_neg (by simpa using hw), if_pos hf]
          rw [he]
          exact (ppart_full A B c d ts dn g j w h hd hg hr hj ht hw hf).mono fun e w' hh => .inl ⟨by decide, hh⟩
        · skip
          have he : partErr ts g dn.length (j : Int) = 0 := by unfold partErr; rw [if_neg (by rw [hr]; decide), if_neg (by rw [hs]; decide), if_neg (by rw [ht]; decide), e0, if_neg (by simpa using hw), if_neg hf]
          rw [he]
          exact (ppart_ok A B c d ts dn g j w h hd hg hr hj ht hw (by omega)).mono fun e w' hh => .inr ⟨rfl, by rw [Int.toNat_natCast]; exact hh⟩
      · skip
        have he : partErr ts g dn.length (j : Int) = 5 := by unfold partErr; rw [if_neg (by rw [hr]; decide), if_neg (by rw [hs]; decide), if_neg (by rw [ht]; decide), e0, if_pos hw]
        rw [he]
        exact (ppart_wait A B c d ts dn g j w h hd hg hr hj ht hw).mono fun e w' hh => .inl ⟨by decide, hh⟩
  · have he : partErr ts g dn.length i = askErr ts g dn.length i := by
      unfold partErr
      unfold askErr at ha ⊢
      cases hr : wRight ts g dn.length with
      | false => rfl
      | true =>
        cases hs : wHas ts.length i with
        | false => rfl
        | true => rw [hr, hs] at ha; exact absurd rfl ha
    rw [he]
    exact (ppart_no A B c d ts dn g i w h hd hg hi hl hl2 ha).mono fun e w' hh => .inl ⟨ha, hh⟩
end Go.Proofs.YtkpbanfpnilifaaGreat

/- The program's Do of work. Written by wip/mk_pwork.py. -/
namespace Go.Proofs.YtkpbanfpnilifaaGreat
open Go.BigFrame
open Go.RowKit Go.Proofs.YtkpbanfpnilifaaGreat.Plain

set_option maxHeartbeats 1600000 in
set_option maxRecDepth 100000 in
theorem pdo_no (A B : Option Addr) (c d : Nat) (ts : List Tk) (dn : List Bool) (g : Int) (i : Int) (w : World) (h : Rd kTask w (.slice A ts.length c) ts) (hd : Rd kBool w (.slice B dn.length d) dn) (hg : in64 g) (hi : in64 i) (hl : ts.length ≤ 1048576) (hl2 : dn.length ≤ 1048576) (ha : askErr ts g dn.length i ≠ 0) :
    Calls Tryz.prog 108 #[.agg #[.slice A ts.length c, .int .i64 g, .slice B dn.length d], .int .i64 i] w (TNo w ts g dn (mkDo (askErr ts g dn.length i))) := by
  have H := Lib.hid h
  have HD := Lib.hid hd
  have hn := hd.len
  have hm := h.len
  have HG := Lib.hid hg
  have HI := Lib.hid hi
  obtain ⟨k, hk⟩ : ∃ k, askErr ts g dn.length i = k := ⟨_, rfl⟩
  rw [hk] at ha ⊢
  have HK := Lib.hid hk
  have e1 : (k != 0) = true := by simpa using ha
  clear h hd hk hg hi
  go_enter Tryz.func108, Tryz.ntmps108
  go_wp2_with fail
  have hP : PAt w A B c d dn.length ts.length g ((w.alloc (.cells #[.slice A ts.length c, .int .i64 g, .slice B dn.length d] 78)).alloc (.cells #[.slice none 0 0, .int .i64 0, .slice none 0 0] 78)) := Ext.refl _
  refine (copied_any _ _ _ _ _ _ _ _ (H.out.ext hP.ext) (HD.out.ext hP.ext) hl hl2).mono ?_
  rintro e w1 ⟨A1, c1, B1, d1, rfl, hO, hOD, hE⟩
  replace hP := hP.go hE
  have HO : Hid (Ow kTask (w.heap.size + 2) w1 (.slice A1 ts.length c1) ts) := Lib.hid (hO.mono (by simp))
  have HOD : Hid (Ow kBool (w.heap.size + 2) w1 (.slice B1 dn.length d1) dn) := Lib.hid (hOD.mono (by simp))
  have hV : VAt w A B c d dn.length ts.length g w1.heap.size A1 B1 c1 d1 (w1.alloc (.cells #[.slice A1 ts.length c1, .int .i64 g, .slice B1 dn.length d1] 78)) := VAt.start hP
  have HV0 := Lib.hid hV
  have HE1 : Hid (Ext w1 (w1.alloc (.cells #[.slice A1 ts.length c1, .int .i64 g, .slice B1 dn.length d1] 78))) := Lib.hid ((Ext.refl _).alloc _)
  obtain ⟨q0, q1, q2⟩ := hP.cells
  have k0 : w.heap.size < w1.heap.size := by have := hP.two; omega
  have k1 : w.heap.size + 1 < w1.heap.size := by have := hP.two; omega
  clear hO hOD hE hP hV
  go_wp2_with fail
  clear q0 q1 q2
  have hV := HV0.out
  refine (asked_any _ _ _ _ _ _ _ _ _ (H.out.ext hV.pat.ext) hn HG.out HI.out).mono ?_
  rintro e w2 ⟨he, hE⟩
  rw [HK.out] at he
  subst he
  replace hV := hV.go hE
  have HE2 := Lib.hid (HE1.out.trans hE)
  have HV := Lib.hid hV
  clear hE HV0 HE1
  obtain ⟨q0, q1, q2⟩ := hV.pat.cells
  obtain ⟨s0, s1, s2, s3⟩ := hV.pat.out
  obtain ⟨_, v0, v1, v2, v3, lv, gv⟩ := hV
  have l0 : w.heap.size < w2.heap.size := by omega
  have l1 : w.heap.size + 1 < w2.heap.size := by omega
  have l2 : w.heap.size < w2.heap.size + 1 := by omega
  have l3 : w.heap.size + 1 < w2.heap.size + 1 := by omega
  have l4 : w1.heap.size < w2.heap.size + 1 := by omega
  have n0 : ¬ w1.heap.size = w.heap.size := by omega
  have n1 : ¬ w1.heap.size = w.heap.size + 1 := by omega
  have n2 : ¬ w.heap.size + 1 = w1.heap.size := by omega
  have n3 : ¬ w.heap.size = w1.heap.size := by omega
  go_wp2_with fail
  have HVZ := HV
  have HEZ := HE2
  refine bodyPost_ret (v := .tuple #[.agg #[.slice A1 ts.length c1, .int .i64 g, .slice B1 dn.length d1], .bool false, .int .i64 (k)]) (by simp [results, Tryz.results108, go_sem]; go_simp) rfl (TNo.of (mk := mkDo (k)) HVZ.out HO.out HOD.out HEZ.out _ _ _)

set_option maxHeartbeats 1600000 in
set_option maxRecDepth 100000 in
theorem pdo_great (A B : Option Addr) (c d : Nat) (ts : List Tk) (dn : List Bool) (g : Int) (j : Nat) (w : World) (h : Rd kTask w (.slice A ts.length c) ts) (hd : Rd kBool w (.slice B dn.length d) dn) (hg : in64 g) (hr : wRight ts g dn.length = true) (hj : j < ts.length) (ht : wGreat ts g dn.length j = true) :
    Calls Tryz.prog 108 #[.agg #[.slice A ts.length c, .int .i64 g, .slice B dn.length d], .int .i64 j] w (TNo w ts g dn (mkDo 5)) := by
  have H := Lib.hid h
  have HD := Lib.hid hd
  have hn := hd.len
  have hnb := right_n hr
  have hm := h.len
  have HG := Lib.hid hg
  have HI : Hid (in64 (j : Int)) := Lib.hid (by unfold in64; omega)
  have hl : ts.length ≤ 1048576 := by omega
  have hl2 : dn.length ≤ 1048576 := by omega
  have hgb := hnb.2.2.2.2
  have hs : wHas ts.length (j : Int) = true := by unfold wHas; simp; omega
  have HK := Lib.hid (askErr_ok hr hs)
  have HW : wGreat ts g dn.length j = decide (g < (ts.getD j tk0).hi - (ts.getD j tk0).lo) := by unfold wGreat tkAt; rw [hr, hs, Int.toNat_natCast]; rfl
  obtain ⟨b, off, rfl, hcc⟩ := Rd.tasks H.out (by omega)
  obtain ⟨y0, y1, y2, y3⟩ := hcc j hj
  have e0 : ts.getD j ⟨0, 0, 0, 0⟩ = ts.getD j tk0 := rfl
  rw [e0] at y0 y1 y2 y3
  obtain ⟨o1, o2, o3, o4, o5, o6, o7⟩ := tkOk_iff dn.length j (ts.getD j tk0) |>.1 (right_ok hr j hj)
  obtain ⟨⟨lo, hi, up, wt⟩, htk⟩ : ∃ x, ts.getD j tk0 = x := ⟨_, rfl⟩
  have HTK := Lib.hid htk
  rw [htk] at y0 y1 y2 y3 o1 o2 o3 o4 o5 o6 o7 HW
  simp only at y0 y1 y2 y3 o1 o2 o3 o4 o5 o6 o7 HW
  rw [ht] at HW
  have HGR : Hid (decide (g < hi - lo) = true) := Lib.hid HW.symm
  have HDD : Hid (in64 (hi - lo)) := Lib.hid (by unfold in64; omega)
  have Y0 := Lib.hid y0
  have Y1 := Lib.hid y1
  have Y2 := Lib.hid y2
  have Y3 := Lib.hid y3
  have hj1 : (j : Int) < ts.length := by omega
  have hj0 : (0 : Int) ≤ j := by omega
  have hlb : b < w.heap.size := World.block_lt_of_cell? _ _ y0
  clear h hd hg hr ht hs hcc e0 htk y0 y1 y2 y3 HW
  go_enter Tryz.func108, Tryz.ntmps108
  go_wp2_with fail
  have hP : PAt w (some ⟨b, off, none⟩) B c d dn.length ts.length g ((w.alloc (.cells #[.slice (some ⟨b, off, none⟩) ts.length c, .int .i64 g, .slice B dn.length d] 78)).alloc (.cells #[.slice none 0 0, .int .i64 0, .slice none 0 0] 78)) := Ext.refl _
  refine (copied_any _ _ _ _ _ _ _ _ (H.out.ext hP.ext) (HD.out.ext hP.ext) hl hl2).mono ?_
  rintro e w1 ⟨A1, c1, B1, d1, rfl, hO, hOD, hE⟩
  replace hP := hP.go hE
  have HO : Hid (Ow kTask (w.heap.size + 2) w1 (.slice A1 ts.length c1) ts) := Lib.hid (hO.mono (by simp))
  have HOD : Hid (Ow kBool (w.heap.size + 2) w1 (.slice B1 dn.length d1) dn) := Lib.hid (hOD.mono (by simp))
  have hV : VAt w (some ⟨b, off, none⟩) B c d dn.length ts.length g w1.heap.size A1 B1 c1 d1 (w1.alloc (.cells #[.slice A1 ts.length c1, .int .i64 g, .slice B1 dn.length d1] 78)) := VAt.start hP
  have HV0 := Lib.hid hV
  have HE1 : Hid (Ext w1 (w1.alloc (.cells #[.slice A1 ts.length c1, .int .i64 g, .slice B1 dn.length d1] 78))) := Lib.hid ((Ext.refl _).alloc _)
  obtain ⟨q0, q1, q2⟩ := hP.cells
  have k0 : w.heap.size < w1.heap.size := by have := hP.two; omega
  have k1 : w.heap.size + 1 < w1.heap.size := by have := hP.two; omega
  clear hO hOD hE hP hV
  go_wp2_with fail
  clear q0 q1 q2
  have hV := HV0.out
  refine (asked_any _ _ _ _ _ _ _ _ _ (H.out.ext hV.pat.ext) hn HG.out HI.out).mono ?_
  rintro e w2 ⟨he, hE⟩
  rw [HK.out] at he
  subst he
  replace hV := hV.go hE
  have HE2 := Lib.hid (HE1.out.trans hE)
  have HV := Lib.hid hV
  clear hE HV0 HE1
  obtain ⟨q0, q1, q2⟩ := hV.pat.cells
  obtain ⟨s0, s1, s2, s3⟩ := hV.pat.out
  obtain ⟨_, v0, v1, v2, v3, lv, gv⟩ := hV
  have l0 : w.heap.size < w2.heap.size := by omega
  have l1 : w.heap.size + 1 < w2.heap.size := by omega
  have l2 : w.heap.size < w2.heap.size + 1 := by omega
  have l3 : w.heap.size + 1 < w2.heap.size + 1 := by omega
  have l4 : w1.heap.size < w2.heap.size + 1 := by omega
  have n0 : ¬ w1.heap.size = w.heap.size := by omega
  have n1 : ¬ w1.heap.size = w.heap.size + 1 := by omega
  have n2 : ¬ w.heap.size + 1 = w1.heap.size := by omega
  have n3 : ¬ w.heap.size = w1.heap.size := by omega
  have z0 := HV.out.pat.ext.cell Y0.out
  have z1 := HV.out.pat.ext.cell Y1.out
  have z2 := HV.out.pat.ext.cell Y2.out
  have z3 := HV.out.pat.ext.cell Y3.out
  have lb0 : b < w2.heap.size := by omega
  have lb1 : b < w2.heap.size + 1 := by omega
  go_wp2_with fail
  have lv9 := lv
  clear q0 q1 q2 s0 s1 s2 s3 v0 v1 v2 v3 lv gv l0 l1 l2 l3 l4 n0 n1 n2 n3 z0 z1 z2 z3 lb0 lb1
  refine (great_any lo hi up wt g _ HDD.out HG.out).mono ?_
  rintro e w3 ⟨he, hE⟩
  rw [HGR.out] at he
  subst he
  have t0 : w3.cell? ⟨w2.heap.size, 0, none⟩ = some (.int .i64 lo) := hE.cell (by go_simp)
  have t1 : w3.cell? ⟨w2.heap.size, 1, none⟩ = some (.int .i64 hi) := hE.cell (by go_simp)
  have t2 : w3.cell? ⟨w2.heap.size, 2, none⟩ = some (.int .i64 up) := hE.cell (by go_simp)
  have t3 : w3.cell? ⟨w2.heap.size, 3, none⟩ = some (.int .i64 wt) := hE.cell (by go_simp)
  have hz := hE.size
  simp at hz
  have hE23 := ((Ext.refl w2).alloc _).trans hE
  have hV := HV.out.go hE23
  have HE3 := Lib.hid (HE2.out.trans hE23)
  have HV3 := Lib.hid hV
  clear hE hE23 HV HE2
  obtain ⟨q0, q1, q2⟩ := hV.pat.cells
  obtain ⟨s0, s1, s2, s3⟩ := hV.pat.out
  obtain ⟨_, v0, v1, v2, v3, lv, gv⟩ := hV
  have l0 : w.heap.size < w3.heap.size := by omega
  have l1 : w.heap.size + 1 < w3.heap.size := by omega
  have l2 : w.heap.size < w3.heap.size + 1 := by omega
  have l3 : w.heap.size + 1 < w3.heap.size + 1 := by omega
  have l4 : w1.heap.size < w3.heap.size + 1 := by omega
  have n0 : ¬ w1.heap.size = w.heap.size := by omega
  have n1 : ¬ w1.heap.size = w.heap.size + 1 := by omega
  have n2 : ¬ w.heap.size + 1 = w1.heap.size := by omega
  have n3 : ¬ w.heap.size = w1.heap.size := by omega
  have lt : w2.heap.size < w3.heap.size := by omega
  go_wp2_with fail
  have HVZ := HV3
  have HEZ := HE3
  refine bodyPost_ret (v := .tuple #[.agg #[.slice A1 ts.length c1, .int .i64 g, .slice B1 dn.length d1], .bool false, .int .i64 (5)]) (by simp [results, Tryz.results108, go_sem]; go_simp) rfl (TNo.of (mk := mkDo (5)) HVZ.out HO.out HOD.out HEZ.out _ _ _)

set_option maxHeartbeats 1600000 in
set_option maxRecDepth 100000 in
theorem pdo_wait (A B : Option Addr) (c d : Nat) (ts : List Tk) (dn : List Bool) (g : Int) (j : Nat) (w : World) (h : Rd kTask w (.slice A ts.length c) ts) (hd : Rd kBool w (.slice B dn.length d) dn) (hg : in64 g) (hr : wRight ts g dn.length = true) (hj : j < ts.length) (ht : wGreat ts g dn.length j = false) (h3 : (ts.getD j tk0).wt ≠ 0) :
    Calls Tryz.prog 108 #[.agg #[.slice A ts.length c, .int .i64 g, .slice B dn.length d], .int .i64 j] w (TNo w ts g dn (mkDo 5)) := by
  have H := Lib.hid h
  have HD := Lib.hid hd
  have hn := hd.len
  have hnb := right_n hr
  have hm := h.len
  have HG := Lib.hid hg
  have HI : Hid (in64 (j : Int)) := Lib.hid (by unfold in64; omega)
  have hl : ts.length ≤ 1048576 := by omega
  have hl2 : dn.length ≤ 1048576 := by omega
  have hgb := hnb.2.2.2.2
  have hs : wHas ts.length (j : Int) = true := by unfold wHas; simp; omega
  have HK := Lib.hid (askErr_ok hr hs)
  have HW : wGreat ts g dn.length j = decide (g < (ts.getD j tk0).hi - (ts.getD j tk0).lo) := by unfold wGreat tkAt; rw [hr, hs, Int.toNat_natCast]; rfl
  obtain ⟨b, off, rfl, hcc⟩ := Rd.tasks H.out (by omega)
  obtain ⟨y0, y1, y2, y3⟩ := hcc j hj
  have e0 : ts.getD j ⟨0, 0, 0, 0⟩ = ts.getD j tk0 := rfl
  rw [e0] at y0 y1 y2 y3
  obtain ⟨o1, o2, o3, o4, o5, o6, o7⟩ := tkOk_iff dn.length j (ts.getD j tk0) |>.1 (right_ok hr j hj)
  obtain ⟨⟨lo, hi, up, wt⟩, htk⟩ : ∃ x, ts.getD j tk0 = x := ⟨_, rfl⟩
  have HTK := Lib.hid htk
  rw [htk] at y0 y1 y2 y3 h3 o1 o2 o3 o4 o5 o6 o7 HW
  simp only at y0 y1 y2 y3 h3 o1 o2 o3 o4 o5 o6 o7 HW
  rw [ht] at HW
  have HGR : Hid (decide (g < hi - lo) = false) := Lib.hid HW.symm
  have HDD : Hid (in64 (hi - lo)) := Lib.hid (by unfold in64; omega)
  have Y0 := Lib.hid y0
  have Y1 := Lib.hid y1
  have Y2 := Lib.hid y2
  have Y3 := Lib.hid y3
  have hj1 : (j : Int) < ts.length := by omega
  have hj0 : (0 : Int) ≤ j := by omega
  have hlb : b < w.heap.size := World.block_lt_of_cell? _ _ y0
  have e3 : (wt != 0) = true := by simpa using h3
  clear h hd hg hr ht hs hcc e0 htk y0 y1 y2 y3 HW
  go_enter Tryz.func108, Tryz.ntmps108
  go_wp2_with fail
  have hP : PAt w (some ⟨b, off, none⟩) B c d dn.length ts.length g ((w.alloc (.cells #[.slice (some ⟨b, off, none⟩) ts.length c, .int .i64 g, .slice B dn.length d] 78)).alloc (.cells #[.slice none 0 0, .int .i64 0, .slice none 0 0] 78)) := Ext.refl _
  refine (copied_any _ _ _ _ _ _ _ _ (H.out.ext hP.ext) (HD.out.ext hP.ext) hl hl2).mono ?_
  rintro e w1 ⟨A1, c1, B1, d1, rfl, hO, hOD, hE⟩
  replace hP := hP.go hE
  have HO : Hid (Ow kTask (w.heap.size + 2) w1 (.slice A1 ts.length c1) ts) := Lib.hid (hO.mono (by simp))
  have HOD : Hid (Ow kBool (w.heap.size + 2) w1 (.slice B1 dn.length d1) dn) := Lib.hid (hOD.mono (by simp))
  have hV : VAt w (some ⟨b, off, none⟩) B c d dn.length ts.length g w1.heap.size A1 B1 c1 d1 (w1.alloc (.cells #[.slice A1 ts.length c1, .int .i64 g, .slice B1 dn.length d1] 78)) := VAt.start hP
  have HV0 := Lib.hid hV
  have HE1 : Hid (Ext w1 (w1.alloc (.cells #[.slice A1 ts.length c1, .int .i64 g, .slice B1 dn.length d1] 78))) := Lib.hid ((Ext.refl _).alloc _)
  obtain ⟨q0, q1, q2⟩ := hP.cells
  have k0 : w.heap.size < w1.heap.size := by have := hP.two; omega
  have k1 : w.heap.size + 1 < w1.heap.size := by have := hP.two; omega
  clear hO hOD hE hP hV
  go_wp2_with fail
  clear q0 q1 q2
  have hV := HV0.out
  refine (asked_any _ _ _ _ _ _ _ _ _ (H.out.ext hV.pat.ext) hn HG.out HI.out).mono ?_
  rintro e w2 ⟨he, hE⟩
  rw [HK.out] at he
  subst he
  replace hV := hV.go hE
  have HE2 := Lib.hid (HE1.out.trans hE)
  have HV := Lib.hid hV
  clear hE HV0 HE1
  obtain ⟨q0, q1, q2⟩ := hV.pat.cells
  obtain ⟨s0, s1, s2, s3⟩ := hV.pat.out
  obtain ⟨_, v0, v1, v2, v3, lv, gv⟩ := hV
  have l0 : w.heap.size < w2.heap.size := by omega
  have l1 : w.heap.size + 1 < w2.heap.size := by omega
  have l2 : w.heap.size < w2.heap.size + 1 := by omega
  have l3 : w.heap.size + 1 < w2.heap.size + 1 := by omega
  have l4 : w1.heap.size < w2.heap.size + 1 := by omega
  have n0 : ¬ w1.heap.size = w.heap.size := by omega
  have n1 : ¬ w1.heap.size = w.heap.size + 1 := by omega
  have n2 : ¬ w.heap.size + 1 = w1.heap.size := by omega
  have n3 : ¬ w.heap.size = w1.heap.size := by omega
  have z0 := HV.out.pat.ext.cell Y0.out
  have z1 := HV.out.pat.ext.cell Y1.out
  have z2 := HV.out.pat.ext.cell Y2.out
  have z3 := HV.out.pat.ext.cell Y3.out
  have lb0 : b < w2.heap.size := by omega
  have lb1 : b < w2.heap.size + 1 := by omega
  go_wp2_with fail
  have lv9 := lv
  clear q0 q1 q2 s0 s1 s2 s3 v0 v1 v2 v3 lv gv l0 l1 l2 l3 l4 n0 n1 n2 n3 z0 z1 z2 z3 lb0 lb1
  refine (great_any lo hi up wt g _ HDD.out HG.out).mono ?_
  rintro e w3 ⟨he, hE⟩
  rw [HGR.out] at he
  subst he
  have t0 : w3.cell? ⟨w2.heap.size, 0, none⟩ = some (.int .i64 lo) := hE.cell (by go_simp)
  have t1 : w3.cell? ⟨w2.heap.size, 1, none⟩ = some (.int .i64 hi) := hE.cell (by go_simp)
  have t2 : w3.cell? ⟨w2.heap.size, 2, none⟩ = some (.int .i64 up) := hE.cell (by go_simp)
  have t3 : w3.cell? ⟨w2.heap.size, 3, none⟩ = some (.int .i64 wt) := hE.cell (by go_simp)
  have hz := hE.size
  simp at hz
  have hE23 := ((Ext.refl w2).alloc _).trans hE
  have hV := HV.out.go hE23
  have HE3 := Lib.hid (HE2.out.trans hE23)
  have HV3 := Lib.hid hV
  clear hE hE23 HV HE2
  obtain ⟨q0, q1, q2⟩ := hV.pat.cells
  obtain ⟨s0, s1, s2, s3⟩ := hV.pat.out
  obtain ⟨_, v0, v1, v2, v3, lv, gv⟩ := hV
  have l0 : w.heap.size < w3.heap.size := by omega
  have l1 : w.heap.size + 1 < w3.heap.size := by omega
  have l2 : w.heap.size < w3.heap.size + 1 := by omega
  have l3 : w.heap.size + 1 < w3.heap.size + 1 := by omega
  have l4 : w1.heap.size < w3.heap.size + 1 := by omega
  have n0 : ¬ w1.heap.size = w.heap.size := by omega
  have n1 : ¬ w1.heap.size = w.heap.size + 1 := by omega
  have n2 : ¬ w.heap.size + 1 = w1.heap.size := by omega
  have n3 : ¬ w.heap.size = w1.heap.size := by omega
  have lt : w2.heap.size < w3.heap.size := by omega
  go_wp2_with fail
  have HVZ := HV3
  have HEZ := HE3
  refine bodyPost_ret (v := .tuple #[.agg #[.slice A1 ts.length c1, .int .i64 g, .slice B1 dn.length d1], .bool false, .int .i64 (5)]) (by simp [results, Tryz.results108, go_sem]; go_simp) rfl (TNo.of (mk := mkDo (5)) HVZ.out HO.out HOD.out HEZ.out _ _ _)

set_option maxHeartbeats 1600000 in
set_option maxRecDepth 100000 in
theorem pdo_done (A B : Option Addr) (c d : Nat) (ts : List Tk) (dn : List Bool) (g : Int) (j : Nat) (w : World) (h : Rd kTask w (.slice A ts.length c) ts) (hd : Rd kBool w (.slice B dn.length d) dn) (hg : in64 g) (hr : wRight ts g dn.length = true) (hj : j < ts.length) (ht : wGreat ts g dn.length j = false) (h3 : (ts.getD j tk0).wt = 0) (hdn : dn.getD (ts.getD j tk0).lo.toNat false = true) :
    Calls Tryz.prog 108 #[.agg #[.slice A ts.length c, .int .i64 g, .slice B dn.length d], .int .i64 j] w (TNo w ts g dn (mkDo 5)) := by
  have H := Lib.hid h
  have HD := Lib.hid hd
  have hn := hd.len
  have hnb := right_n hr
  have hm := h.len
  have HG := Lib.hid hg
  have HI : Hid (in64 (j : Int)) := Lib.hid (by unfold in64; omega)
  have hl : ts.length ≤ 1048576 := by omega
  have hl2 : dn.length ≤ 1048576 := by omega
  have hgb := hnb.2.2.2.2
  have hs : wHas ts.length (j : Int) = true := by unfold wHas; simp; omega
  have HK := Lib.hid (askErr_ok hr hs)
  have HW : wGreat ts g dn.length j = decide (g < (ts.getD j tk0).hi - (ts.getD j tk0).lo) := by unfold wGreat tkAt; rw [hr, hs, Int.toNat_natCast]; rfl
  obtain ⟨b, off, rfl, hcc⟩ := Rd.tasks H.out (by omega)
  obtain ⟨y0, y1, y2, y3⟩ := hcc j hj
  have e0 : ts.getD j ⟨0, 0, 0, 0⟩ = ts.getD j tk0 := rfl
  rw [e0] at y0 y1 y2 y3
  obtain ⟨o1, o2, o3, o4, o5, o6, o7⟩ := tkOk_iff dn.length j (ts.getD j tk0) |>.1 (right_ok hr j hj)
  obtain ⟨⟨lo, hi, up, wt⟩, htk⟩ : ∃ x, ts.getD j tk0 = x := ⟨_, rfl⟩
  have HTK := Lib.hid htk
  rw [htk] at y0 y1 y2 y3 h3 o1 o2 o3 o4 o5 o6 o7 HW
  simp only at y0 y1 y2 y3 h3 o1 o2 o3 o4 o5 o6 o7 HW
  rw [ht] at HW
  have HGR : Hid (decide (g < hi - lo) = false) := Lib.hid HW.symm
  have HDD : Hid (in64 (hi - lo)) := Lib.hid (by unfold in64; omega)
  have Y0 := Lib.hid y0
  have Y1 := Lib.hid y1
  have Y2 := Lib.hid y2
  have Y3 := Lib.hid y3
  have hj1 : (j : Int) < ts.length := by omega
  have hj0 : (0 : Int) ≤ j := by omega
  have hlb : b < w.heap.size := World.block_lt_of_cell? _ _ y0
  subst h3
  obtain ⟨L, rfl⟩ : ∃ L : Nat, lo = L := ⟨lo.toNat, by omega⟩
  obtain ⟨R, rfl⟩ : ∃ R : Nat, hi = R := ⟨hi.toNat, by omega⟩
  obtain ⟨bb, boff, rfl, hbc⟩ := Rd.bools HD.out (by omega)
  have z9 := hbc L (by omega)
  have hdL : dn.getD L false = true := by rw [HTK.out] at hdn; simpa using hdn
  rw [hdL] at z9
  have Z9 := Lib.hid z9
  have hL1 : (L : Int) < dn.length := by omega
  have hL0 : (0 : Int) ≤ L := by omega
  clear hbc z9 hdn hdL
  clear h hd hg hr ht hs hcc e0 htk y0 y1 y2 y3 HW
  go_enter Tryz.func108, Tryz.ntmps108
  go_wp2_with fail
  have hP : PAt w (some ⟨b, off, none⟩) (some ⟨bb, boff, none⟩) c d dn.length ts.length g ((w.alloc (.cells #[.slice (some ⟨b, off, none⟩) ts.length c, .int .i64 g, .slice (some ⟨bb, boff, none⟩) dn.length d] 78)).alloc (.cells #[.slice none 0 0, .int .i64 0, .slice none 0 0] 78)) := Ext.refl _
  refine (copied_any _ _ _ _ _ _ _ _ (H.out.ext hP.ext) (HD.out.ext hP.ext) hl hl2).mono ?_
  rintro e w1 ⟨A1, c1, B1, d1, rfl, hO, hOD, hE⟩
  replace hP := hP.go hE
  have HO : Hid (Ow kTask (w.heap.size + 2) w1 (.slice A1 ts.length c1) ts) := Lib.hid (hO.mono (by simp))
  have HOD : Hid (Ow kBool (w.heap.size + 2) w1 (.slice B1 dn.length d1) dn) := Lib.hid (hOD.mono (by simp))
  have hV : VAt w (some ⟨b, off, none⟩) (some ⟨bb, boff, none⟩) c d dn.length ts.length g w1.heap.size A1 B1 c1 d1 (w1.alloc (.cells #[.slice A1 ts.length c1, .int .i64 g, .slice B1 dn.length d1] 78)) := VAt.start hP
  have HV0 := Lib.hid hV
  have HE1 : Hid (Ext w1 (w1.alloc (.cells #[.slice A1 ts.length c1, .int .i64 g, .slice B1 dn.length d1] 78))) := Lib.hid ((Ext.refl _).alloc _)
  obtain ⟨q0, q1, q2⟩ := hP.cells
  have k0 : w.heap.size < w1.heap.size := by have := hP.two; omega
  have k1 : w.heap.size + 1 < w1.heap.size := by have := hP.two; omega
  clear hO hOD hE hP hV
  go_wp2_with fail
  clear q0 q1 q2
  have hV := HV0.out
  refine (asked_any _ _ _ _ _ _ _ _ _ (H.out.ext hV.pat.ext) hn HG.out HI.out).mono ?_
  rintro e w2 ⟨he, hE⟩
  rw [HK.out] at he
  subst he
  replace hV := hV.go hE
  have HE2 := Lib.hid (HE1.out.trans hE)
  have HV := Lib.hid hV
  clear hE HV0 HE1
  obtain ⟨q0, q1, q2⟩ := hV.pat.cells
  obtain ⟨s0, s1, s2, s3⟩ := hV.pat.out
  obtain ⟨_, v0, v1, v2, v3, lv, gv⟩ := hV
  have l0 : w.heap.size < w2.heap.size := by omega
  have l1 : w.heap.size + 1 < w2.heap.size := by omega
  have l2 : w.heap.size < w2.heap.size + 1 := by omega
  have l3 : w.heap.size + 1 < w2.heap.size + 1 := by omega
  have l4 : w1.heap.size < w2.heap.size + 1 := by omega
  have n0 : ¬ w1.heap.size = w.heap.size := by omega
  have n1 : ¬ w1.heap.size = w.heap.size + 1 := by omega
  have n2 : ¬ w.heap.size + 1 = w1.heap.size := by omega
  have n3 : ¬ w.heap.size = w1.heap.size := by omega
  have z0 := HV.out.pat.ext.cell Y0.out
  have z1 := HV.out.pat.ext.cell Y1.out
  have z2 := HV.out.pat.ext.cell Y2.out
  have z3 := HV.out.pat.ext.cell Y3.out
  have lb0 : b < w2.heap.size := by omega
  have lb1 : b < w2.heap.size + 1 := by omega
  go_wp2_with fail
  have lv9 := lv
  clear q0 q1 q2 s0 s1 s2 s3 v0 v1 v2 v3 lv gv l0 l1 l2 l3 l4 n0 n1 n2 n3 z0 z1 z2 z3 lb0 lb1
  refine (great_any L R up 0 g _ HDD.out HG.out).mono ?_
  rintro e w3 ⟨he, hE⟩
  rw [HGR.out] at he
  subst he
  have t0 : w3.cell? ⟨w2.heap.size, 0, none⟩ = some (.int .i64 L) := hE.cell (by go_simp)
  have t1 : w3.cell? ⟨w2.heap.size, 1, none⟩ = some (.int .i64 R) := hE.cell (by go_simp)
  have t2 : w3.cell? ⟨w2.heap.size, 2, none⟩ = some (.int .i64 up) := hE.cell (by go_simp)
  have t3 : w3.cell? ⟨w2.heap.size, 3, none⟩ = some (.int .i64 0) := hE.cell (by go_simp)
  have hz := hE.size
  simp at hz
  have hE23 := ((Ext.refl w2).alloc _).trans hE
  have hV := HV.out.go hE23
  have HE3 := Lib.hid (HE2.out.trans hE23)
  have HV3 := Lib.hid hV
  clear hE hE23 HV HE2
  obtain ⟨q0, q1, q2⟩ := hV.pat.cells
  obtain ⟨s0, s1, s2, s3⟩ := hV.pat.out
  obtain ⟨_, v0, v1, v2, v3, lv, gv⟩ := hV
  have l0 : w.heap.size < w3.heap.size := by omega
  have l1 : w.heap.size + 1 < w3.heap.size := by omega
  have l2 : w.heap.size < w3.heap.size + 1 := by omega
  have l3 : w.heap.size + 1 < w3.heap.size + 1 := by omega
  have l4 : w1.heap.size < w3.heap.size + 1 := by omega
  have n0 : ¬ w1.heap.size = w.heap.size := by omega
  have n1 : ¬ w1.heap.size = w.heap.size + 1 := by omega
  have n2 : ¬ w.heap.size + 1 = w1.heap.size := by omega
  have n3 : ¬ w.heap.size = w1.heap.size := by omega
  have lt : w2.heap.size < w3.heap.size := by omega
  have z9 := HV3.out.pat.ext.cell Z9.out
  go_wp2_with fail
  have HVZ := HV3
  have HEZ := HE3
  refine bodyPost_ret (v := .tuple #[.agg #[.slice A1 ts.length c1, .int .i64 g, .slice B1 dn.length d1], .bool false, .int .i64 (5)]) (by simp [results, Tryz.results108, go_sem]; go_simp) rfl (TNo.of (mk := mkDo (5)) HVZ.out HO.out HOD.out HEZ.out _ _ _)

set_option maxHeartbeats 1600000 in
set_option maxRecDepth 100000 in
theorem pdo_ok (A B : Option Addr) (c d : Nat) (ts : List Tk) (dn : List Bool) (g : Int) (j : Nat) (w : World) (h : Rd kTask w (.slice A ts.length c) ts) (hd : Rd kBool w (.slice B dn.length d) dn) (hg : in64 g) (hr : wRight ts g dn.length = true) (hj : j < ts.length) (ht : wGreat ts g dn.length j = false) (h3 : (ts.getD j tk0).wt = 0) (hdn : dn.getD (ts.getD j tk0).lo.toNat false = false) :
    Calls Tryz.prog 108 #[.agg #[.slice A ts.length c, .int .i64 g, .slice B dn.length d], .int .i64 j] w (DoSaid w ts g dn j) := by
  have HOK := Lib.hid (by have := hr; unfold wRight at this; rw [Bool.and_eq_true] at this; exact this.2 : wOkTo ts dn.length ts.length = true)
  have H := Lib.hid h
  have HD := Lib.hid hd
  have hn := hd.len
  have hnb := right_n hr
  have hm := h.len
  have HG := Lib.hid hg
  have HI : Hid (in64 (j : Int)) := Lib.hid (by unfold in64; omega)
  have hl : ts.length ≤ 1048576 := by omega
  have hl2 : dn.length ≤ 1048576 := by omega
  have hgb := hnb.2.2.2.2
  have hs : wHas ts.length (j : Int) = true := by unfold wHas; simp; omega
  have HK := Lib.hid (askErr_ok hr hs)
  have HW : wGreat ts g dn.length j = decide (g < (ts.getD j tk0).hi - (ts.getD j tk0).lo) := by unfold wGreat tkAt; rw [hr, hs, Int.toNat_natCast]; rfl
  obtain ⟨b, off, rfl, hcc⟩ := Rd.tasks H.out (by omega)
  obtain ⟨y0, y1, y2, y3⟩ := hcc j hj
  have e0 : ts.getD j ⟨0, 0, 0, 0⟩ = ts.getD j tk0 := rfl
  rw [e0] at y0 y1 y2 y3
  obtain ⟨o1, o2, o3, o4, o5, o6, o7⟩ := tkOk_iff dn.length j (ts.getD j tk0) |>.1 (right_ok hr j hj)
  obtain ⟨⟨lo, hi, up, wt⟩, htk⟩ : ∃ x, ts.getD j tk0 = x := ⟨_, rfl⟩
  have HTK := Lib.hid htk
  rw [htk] at y0 y1 y2 y3 h3 o1 o2 o3 o4 o5 o6 o7 HW
  simp only at y0 y1 y2 y3 h3 o1 o2 o3 o4 o5 o6 o7 HW
  rw [ht] at HW
  have HGR : Hid (decide (g < hi - lo) = false) := Lib.hid HW.symm
  have HDD : Hid (in64 (hi - lo)) := Lib.hid (by unfold in64; omega)
  have Y0 := Lib.hid y0
  have Y1 := Lib.hid y1
  have Y2 := Lib.hid y2
  have Y3 := Lib.hid y3
  have hj1 : (j : Int) < ts.length := by omega
  have hj0 : (0 : Int) ≤ j := by omega
  have hlb : b < w.heap.size := World.block_lt_of_cell? _ _ y0
  subst h3
  obtain ⟨L, rfl⟩ : ∃ L : Nat, lo = L := ⟨lo.toNat, by omega⟩
  obtain ⟨R, rfl⟩ : ∃ R : Nat, hi = R := ⟨hi.toNat, by omega⟩
  obtain ⟨bb, boff, rfl, hbc⟩ := Rd.bools HD.out (by omega)
  have z9 := hbc L (by omega)
  have hdL : dn.getD L false = false := by rw [HTK.out] at hdn; simpa using hdn
  rw [hdL] at z9
  have Z9 := Lib.hid z9
  have hL1 : (L : Int) < dn.length := by omega
  have hL0 : (0 : Int) ≤ L := by omega
  clear hbc z9 hdn hdL
  clear h hd hg hr ht hs hcc e0 htk y0 y1 y2 y3 HW
  go_enter Tryz.func108, Tryz.ntmps108
  go_wp2_with fail
  have hP : PAt w (some ⟨b, off, none⟩) (some ⟨bb, boff, none⟩) c d dn.length ts.length g ((w.alloc (.cells #[.slice (some ⟨b, off, none⟩) ts.length c, .int .i64 g, .slice (some ⟨bb, boff, none⟩) dn.length d] 78)).alloc (.cells #[.slice none 0 0, .int .i64 0, .slice none 0 0] 78)) := Ext.refl _
  refine (copied_any _ _ _ _ _ _ _ _ (H.out.ext hP.ext) (HD.out.ext hP.ext) hl hl2).mono ?_
  rintro e w1 ⟨A1, c1, B1, d1, rfl, hO, hOD, hE⟩
  replace hP := hP.go hE
  have HO : Hid (Ow kTask (w.heap.size + 2) w1 (.slice A1 ts.length c1) ts) := Lib.hid (hO.mono (by simp))
  have HOD : Hid (Ow kBool (w.heap.size + 2) w1 (.slice B1 dn.length d1) dn) := Lib.hid (hOD.mono (by simp))
  have hV : VAt w (some ⟨b, off, none⟩) (some ⟨bb, boff, none⟩) c d dn.length ts.length g w1.heap.size A1 B1 c1 d1 (w1.alloc (.cells #[.slice A1 ts.length c1, .int .i64 g, .slice B1 dn.length d1] 78)) := VAt.start hP
  have HV0 := Lib.hid hV
  have HE1 : Hid (Ext w1 (w1.alloc (.cells #[.slice A1 ts.length c1, .int .i64 g, .slice B1 dn.length d1] 78))) := Lib.hid ((Ext.refl _).alloc _)
  obtain ⟨q0, q1, q2⟩ := hP.cells
  have k0 : w.heap.size < w1.heap.size := by have := hP.two; omega
  have k1 : w.heap.size + 1 < w1.heap.size := by have := hP.two; omega
  clear hO hOD hE hP hV
  go_wp2_with fail
  clear q0 q1 q2
  have hV := HV0.out
  refine (asked_any _ _ _ _ _ _ _ _ _ (H.out.ext hV.pat.ext) hn HG.out HI.out).mono ?_
  rintro e w2 ⟨he, hE⟩
  rw [HK.out] at he
  subst he
  replace hV := hV.go hE
  have HE2 := Lib.hid (HE1.out.trans hE)
  have HV := Lib.hid hV
  clear hE HV0 HE1
  obtain ⟨q0, q1, q2⟩ := hV.pat.cells
  obtain ⟨s0, s1, s2, s3⟩ := hV.pat.out
  obtain ⟨_, v0, v1, v2, v3, lv, gv⟩ := hV
  have l0 : w.heap.size < w2.heap.size := by omega
  have l1 : w.heap.size + 1 < w2.heap.size := by omega
  have l2 : w.heap.size < w2.heap.size + 1 := by omega
  have l3 : w.heap.size + 1 < w2.heap.size + 1 := by omega
  have l4 : w1.heap.size < w2.heap.size + 1 := by omega
  have n0 : ¬ w1.heap.size = w.heap.size := by omega
  have n1 : ¬ w1.heap.size = w.heap.size + 1 := by omega
  have n2 : ¬ w.heap.size + 1 = w1.heap.size := by omega
  have n3 : ¬ w.heap.size = w1.heap.size := by omega
  have z0 := HV.out.pat.ext.cell Y0.out
  have z1 := HV.out.pat.ext.cell Y1.out
  have z2 := HV.out.pat.ext.cell Y2.out
  have z3 := HV.out.pat.ext.cell Y3.out
  have lb0 : b < w2.heap.size := by omega
  have lb1 : b < w2.heap.size + 1 := by omega
  go_wp2_with fail
  have lv9 := lv
  clear q0 q1 q2 s0 s1 s2 s3 v0 v1 v2 v3 lv gv l0 l1 l2 l3 l4 n0 n1 n2 n3 z0 z1 z2 z3 lb0 lb1
  refine (great_any L R up 0 g _ HDD.out HG.out).mono ?_
  rintro e w3 ⟨he, hE⟩
  rw [HGR.out] at he
  subst he
  have t0 : w3.cell? ⟨w2.heap.size, 0, none⟩ = some (.int .i64 L) := hE.cell (by go_simp)
  have t1 : w3.cell? ⟨w2.heap.size, 1, none⟩ = some (.int .i64 R) := hE.cell (by go_simp)
  have t2 : w3.cell? ⟨w2.heap.size, 2, none⟩ = some (.int .i64 up) := hE.cell (by go_simp)
  have t3 : w3.cell? ⟨w2.heap.size, 3, none⟩ = some (.int .i64 0) := hE.cell (by go_simp)
  have hz := hE.size
  simp at hz
  have hE23 := ((Ext.refl w2).alloc _).trans hE
  have hV := HV.out.go hE23
  have HE3 := Lib.hid (HE2.out.trans hE23)
  have HV3 := Lib.hid hV
  clear hE hE23 HV HE2
  obtain ⟨q0, q1, q2⟩ := hV.pat.cells
  obtain ⟨s0, s1, s2, s3⟩ := hV.pat.out
  obtain ⟨_, v0, v1, v2, v3, lv, gv⟩ := hV
  have l0 : w.heap.size < w3.heap.size := by omega
  have l1 : w.heap.size + 1 < w3.heap.size := by omega
  have l2 : w.heap.size < w3.heap.size + 1 := by omega
  have l3 : w.heap.size + 1 < w3.heap.size + 1 := by omega
  have l4 : w1.heap.size < w3.heap.size + 1 := by omega
  have n0 : ¬ w1.heap.size = w.heap.size := by omega
  have n1 : ¬ w1.heap.size = w.heap.size + 1 := by omega
  have n2 : ¬ w.heap.size + 1 = w1.heap.size := by omega
  have n3 : ¬ w.heap.size = w1.heap.size := by omega
  have lt : w2.heap.size < w3.heap.size := by omega
  have z9 := HV3.out.pat.ext.cell Z9.out
  go_wp2_with fail
  obtain ⟨ga, rfl, ga1, ga2, ga3, ga4⟩ := Ow.pos HO.out (by omega)
  obtain ⟨gb, rfl, gb1, gb2, gb3, gb4⟩ := Ow.pos HOD.out (by omega)
  have hgab : ga ≠ gb := fun h => by have := Ow.far (by decide) HO.out HOD.out ga rfl; rw [h] at this; exact this rfl
  have hD0 : DAt w w3 (w.heap.size + 2) ga gb c1 d1 w3 ts (marked dn L L) := ⟨fun _ _ _ _ _ => rfl, fun _ _ _ _ _ => rfl, HO.out.ext HE3.out, by rw [marked_none]; exact HOD.out.ext HE3.out, HV3.out.pat.ext⟩
  have HD0 := Lib.hid hD0
  have X := Lib.hid (And.intro v0 (And.intro v1 (And.intro v2 (And.intro t1 t2))))
  have S0 := Lib.hid (And.intro s0 (And.intro s1 (And.intro s2 s3)))
  have HN : Hid ((w1.heap.size ≠ ga ∧ w1.heap.size ≠ gb ∧ w2.heap.size ≠ ga ∧ w2.heap.size ≠ gb) ∧ (w.heap.size + 1 ≠ ga ∧ w.heap.size + 1 ≠ gb)) := Lib.hid ⟨⟨by omega, by omega, by omega, by omega⟩, by omega, by omega⟩
  have HSZ : Hid (w1.heap.size < w3.heap.size ∧ w2.heap.size < w3.heap.size ∧ w.heap.size + 2 ≤ w1.heap.size ∧ w.heap.size + 2 ≤ ga ∧ w.heap.size + 2 ≤ gb ∧ w1.heap.size < w2.heap.size) := Lib.hid ⟨lv, lt, gv, ga1, gb1, lv9⟩
  clear hD0 ga3 ga4 gb3 gb4 ga2 gb2 q0 q1 q2 s0 s1 s2 s3 v0 v1 v2 v3 lv gv l0 l1 l2 l3 l4 n0 n1 n2 n3 t0 t1 t2 t3 z9 lt lv9 hz
  go_loopw [10] (fun i wr => ∃ k : Nat, L ≤ k ∧ k ≤ R ∧ i = .int .i64 k ∧ DAt w w3 (w.heap.size + 2) ga gb c1 d1 wr ts (marked dn L k)) (fun i _ => R - (intOf i).toNat)
  case atStart => exact ⟨L, Nat.le_refl _, by omega, rfl, HD0.out⟩
  case round =>
    obtain ⟨k, hk1, hk2, rfl, hA⟩ := hrel
    have m0 := hA.cell X.out.1 HN.out.1.1 HN.out.1.2.1
    have m1 := hA.cell X.out.2.1 HN.out.1.1 HN.out.1.2.1
    have m2 := hA.cell X.out.2.2.1 HN.out.1.1 HN.out.1.2.1
    have m3 := hA.cell X.out.2.2.2.1 HN.out.1.2.2.1 HN.out.1.2.2.2
    have m4 := hA.cell X.out.2.2.2.2 HN.out.1.2.2.1 HN.out.1.2.2.2
    have HA := Lib.hid hA
    by_cases hlt : k < R
    · have hlt1 : (k : Int) < R := by omega
      have hkl : (k : Int) < dn.length := by omega
      have hk0 : (0 : Int) ≤ k := by omega
      have hml : (marked dn L k).length = dn.length := marked_len dn L k hk1 (by omega)
      obtain ⟨n0, n1⟩ := hA.unit (k := k) (by omega)
      have hN := hA.mark (k := k) (by omega) (by omega) hgab
      rw [← marked_succ dn L k hk1 (by omega)] at hN
      have HNN := Lib.hid hN
      clear hA hN hml
      go_wp2_with fail
      go_roundw
      case rel => exact ⟨k + 1, by omega, by omega, by go_num, HNN.out⟩
      case measure => simp [intOf]; omega
    · have hkr : k = R := by omega
      have hlt1 : ¬ (k : Int) < R := by omega
      subst hkr
      have hml : (marked dn L k).length = dn.length := marked_len dn L k hk1 (by omega)
      have hlo : (ts.getD j tk0).lo = L := by rw [HTK.out]
      have hhi : (ts.getD j tk0).hi = k := by rw [HTK.out]
      have hupj : (ts.getD j tk0).up = up := by rw [HTK.out]
      have HM := Lib.hid (And.intro hml (And.intro hlo (And.intro hhi hupj)))
      have sz1 : w1.heap.size < wr.heap.size := World.block_lt_of_cell? _ _ m0
      have sz2 : w2.heap.size < wr.heap.size := World.block_lt_of_cell? _ _ m3
      have sz3 : w.heap.size + 1 < wr.heap.size := by have := HSZ.out; omega
      have N1 := HN.out
      have u0 := hA.cell S0.out.1 HN.out.2.1 HN.out.2.2
      have u1 := hA.cell S0.out.2.1 HN.out.2.1 HN.out.2.2
      have u2 := hA.cell S0.out.2.2.1 HN.out.2.1 HN.out.2.2
      have u3 : ∀ o, wr.frozen? ⟨w.heap.size + 1, o, none⟩ = false := fun o => (hA.fro (w.heap.size + 1) o (by have := HSZ.out; omega) HN.out.2.1 HN.out.2.2).trans (S0.out.2.2.2 o)
      have f1 : ¬ w1.heap.size = w.heap.size + 1 := by have := HSZ.out; omega
      have f2 : ¬ w2.heap.size = w.heap.size + 1 := by have := HSZ.out; omega
      have f3 : ¬ w.heap.size + 1 = w1.heap.size := by have := HSZ.out; omega
      have f4 : ¬ w.heap.size + 1 = w2.heap.size := by have := HSZ.out; omega
      have hup2 : up < ts.length := by omega
      have hts : ts.length ≤ 2000 := by omega
      clear hA hml hlo hhi hupj
      go_wp2_with fail
      go_region_held3 (fun w' => w'.cell? ⟨w1.heap.size, 0, none⟩ = some (.slice (some ⟨ga, 0, none⟩) ts.length c1) ∧ w'.cell? ⟨w1.heap.size, 1, none⟩ = some (.int .i64 g) ∧ w'.cell? ⟨w1.heap.size, 2, none⟩ = some (.slice (some ⟨gb, 0, none⟩) dn.length d1) ∧ w'.cell? ⟨w2.heap.size, 2, none⟩ = some (.int .i64 up))
        (first | go_keep | (with_reducible exact ⟨c11, c12, c13, c14⟩))
        (first
          | (go_at_call 114
             refine (finish_any (w.heap.size + 2) ga c1 dn.length ts up _ (HA.out.own.ext (Ext.refl _).drew) HOK.out o4 hup2 hts).mono ?_
             rintro e w5 ⟨rfl, hF⟩
             have c11 : w5.cell? ⟨w1.heap.size, 0, none⟩ = some (.slice (some ⟨ga, 0, none⟩) ts.length c1) := ((grown_far hF.grow (b := w1.heap.size) (by first | exact sz1 | (simp; exact sz1)) (by simp; exact N1.1.1)).1 0).trans (by go_simp)
             have c12 : w5.cell? ⟨w1.heap.size, 1, none⟩ = some (.int .i64 g) := ((grown_far hF.grow (b := w1.heap.size) (by first | exact sz1 | (simp; exact sz1)) (by simp; exact N1.1.1)).1 1).trans (by go_simp)
             have c13 : w5.cell? ⟨w1.heap.size, 2, none⟩ = some (.slice (some ⟨gb, 0, none⟩) dn.length d1) := ((grown_far hF.grow (b := w1.heap.size) (by first | exact sz1 | (simp; exact sz1)) (by simp; exact N1.1.1)).1 2).trans (by go_simp)
             have c14 : w5.cell? ⟨w2.heap.size, 2, none⟩ = some (.int .i64 up) := ((grown_far hF.grow (b := w2.heap.size) (by first | exact sz2 | (simp; exact sz2)) (by simp; exact N1.1.2.2.1)).1 2).trans (by go_simp)
             obtain ⟨G1, G2⟩ := grown_far hF.grow (b := w.heap.size + 1) (by first | exact sz3 | (simp; exact sz3)) (by simp; exact N1.2.1)
             have r0 : w5.cell? ⟨w.heap.size + 1, 0, none⟩ = some (.slice none 0 0) := (G1 0).trans (by go_simp)
             have r1 : w5.cell? ⟨w.heap.size + 1, 1, none⟩ = some (.int .i64 0) := (G1 1).trans (by go_simp)
             have r2 : w5.cell? ⟨w.heap.size + 1, 2, none⟩ = some (.slice none 0 0) := (G1 2).trans (by go_simp)
             have r3 : ∀ o, w5.frozen? ⟨w.heap.size + 1, o, none⟩ = false := fun o => (G2 o).trans (by have := u3 o; go_simp)))
      go_wp2_with fail
      have hcl : (climb (ts.length + 1) ts up).1.length = ts.length := climb_len _ _ _
      have ho := hF.own
      rw [hcl] at ho
      have hd5 := (HA.out.dns.ext (Ext.refl _).drew).kept hF.grow (.inr (by simp [Value.ownBlock]; omega))
      rw [HM.out.1] at hd5
      have hx5 : Ext w w5 := HA.out.ext.drew.grown hF.grow (by intro k hk; cases hk; have := HSZ.out; omega)
      refine bodyPost_ret (v := .tuple #[.agg #[.slice (some ⟨ga, 0, none⟩) ts.length c1, .int .i64 g, .slice (some ⟨gb, 0, none⟩) dn.length d1], .bool (climb (ts.length + 1) ts up).2, .int .i64 0]) (by simp [results, Tryz.results108, go_sem]; go_simp) rfl ⟨_, _, _, _, by rw [HM.out.2.2.2], ?_, ?_, ho.from.mono (by omega), hd5.from.mono (by omega), ?_⟩
      · rw [HM.out.2.2.2]
        exact (((ho.setBelow (p := ⟨w.heap.size + 1, 0, none⟩) (by show w.heap.size + 1 < _; omega) _).setBelow (p := ⟨w.heap.size + 1, 1, none⟩) (by show w.heap.size + 1 < _; omega) _).setBelow (p := ⟨w.heap.size + 1, 2, none⟩) (by show w.heap.size + 1 < _; omega) _).rd
      · rw [HM.out.2.1, HM.out.2.2.1, Int.toNat_natCast, Int.toNat_natCast]
        exact (((hd5.setBelow (p := ⟨w.heap.size + 1, 0, none⟩) (by show w.heap.size + 1 < _; omega) _).setBelow (p := ⟨w.heap.size + 1, 1, none⟩) (by show w.heap.size + 1 < _; omega) _).setBelow (p := ⟨w.heap.size + 1, 2, none⟩) (by show w.heap.size + 1 < _; omega) _).rd
      · exact ((hx5.setCell (p := ⟨w.heap.size + 1, 0, none⟩) (by show _ ≤ w.heap.size + 1; omega) _).setCell (p := ⟨w.heap.size + 1, 1, none⟩) (by show _ ≤ w.heap.size + 1; omega) _).setCell (p := ⟨w.heap.size + 1, 2, none⟩) (by show _ ≤ w.heap.size + 1; omega) _

theorem pdo_any (A B : Option Addr) (c d : Nat) (ts : List Tk) (dn : List Bool) (g i : Int) (w : World) (h : Rd kTask w (.slice A ts.length c) ts) (hd : Rd kBool w (.slice B dn.length d) dn) (hg : in64 g) (hi : in64 i) (hl : ts.length ≤ 1048576) (hl2 : dn.length ≤ 1048576) :
    Calls Tryz.prog 108 #[.agg #[.slice A ts.length c, .int .i64 g, .slice B dn.length d], .int .i64 i] w fun e w' =>
      (doErr ts g dn i ≠ 0 ∧ TNo w ts g dn (mkDo (doErr ts g dn i)) e w') ∨ (doErr ts g dn i = 0 ∧ DoSaid w ts g dn i.toNat e w') := by
  by_cases ha : askErr ts g dn.length i = 0
  · obtain ⟨hr, hs⟩ := askErr_zero ha
    have hsi : 0 ≤ i ∧ i < (ts.length : Int) := by unfold wHas at hs; simpa using hs
    obtain ⟨j, rfl⟩ : ∃ j : Nat, i = j := ⟨i.toNat, by omega⟩
    have hj : j < ts.length := by omega
    have e0 : tkAt ts (j : Int) = ts.getD j tk0 := by unfold tkAt; rw [Int.toNat_natCast]
    cases ht : wGreat ts g dn.length j with
    | true =>
      have he : doErr ts g dn (j : Int) = 5 := by unfold doErr; rw [if_neg (by rw [hr]; decide), if_neg (by rw [hs]; decide), if_pos ht]
      rw [he]
      exact (pdo_great A B c d ts dn g j w h hd hg hr hj ht).mono fun e w' hh => .inl ⟨by decide, hh⟩
    | false =>
      by_cases hw : (ts.getD j tk0).wt = 0
      · cases hf : dn.getD (ts.getD j tk0).lo.toNat false with
        | true =>
          have he : doErr ts g dn (j : Int) = 5 := by unfold doErr; rw [if_neg (by rw [hr]; decide), if_neg (by rw [hs]; decide), if_neg (by rw [ht]; decide), e0, if_neg (by simpa using hw), if_pos hf]
          rw [he]
          exact (pdo_done A B c d ts dn g j w h hd hg hr hj ht hw hf).mono fun e w' hh => .inl ⟨by decide, hh⟩
        | false =>
          have he : doErr ts g dn (j : Int) = 0 := by unfold doErr; rw [if_neg (by rw [hr]; decide), if_neg (by rw [hs]; decide), if_neg (by rw [ht]; decide), e0, if_neg (by simpa using hw), if_neg (by rw [hf]; decide)]
          rw [he]
          exact (pdo_ok A B c d ts dn g j w h hd hg hr hj ht hw hf).mono fun e w' hh => .inr ⟨rfl, by rw [Int.toNat_natCast]; exact hh⟩
      · skip
        have he : doErr ts g dn (j : Int) = 5 := by unfold doErr; rw [if_neg (by rw [hr]; decide), if_neg (by rw [hs]; decide), if_neg (by rw [ht]; decide), e0, if_pos hw]
        rw [he]
        exact (pdo_wait A B c d ts dn g j w h hd hg hr hj ht hw).mono fun e w' hh => .inl ⟨by decide, hh⟩
  · have he : doErr ts g dn i = askErr ts g dn.length i := by
      unfold doErr
      unfold askErr at ha ⊢
      cases hr : wRight ts g dn.length with
      | false => rfl
      | true =>
        cases hs : wHas ts.length i with
        | false => rfl
        | true => rw [hr, hs] at ha; exact absurd rfl ha
    rw [he]
    exact (pdo_no A B c d ts dn g i w h hd hg hi hl hl2 ha).mono fun e w' hh => .inl ⟨ha, hh⟩
end Go.Proofs.YtkpbanfpnilifaaGreat

/- The document's Begin of work. -/
namespace Go.Proofs.YtkpbanfpnilifaaGreat
open Go.RowKit Go.Proofs.YtkpbanfpnilifaaGreat.Plain

end Go.Proofs.YtkpbanfpnilifaaGreat

/- The program's Begin of work. -/
namespace Go.Proofs.YtkpbanfpnilifaaGreat
open Go.BigFrame
open Go.RowKit Go.Proofs.YtkpbanfpnilifaaGreat.Plain

end Go.Proofs.YtkpbanfpnilifaaGreat

/- The fixed fact of the work's statements: calls with answers named. Written by wip/mk_talive.py. -/
namespace Go.Proofs.YtkpbanfpnilifaaGreat
open Go.BigFrame
open Go.RowKit Go.Proofs.YtkpbanfpnilifaaGreat.Plain

theorem Rd.lt {α : Type} {K : Kd α} {w : World} {A : Option Addr} {n c : Nat} {xs : List α} (h : Rd K w (.slice A n c) xs) (hl : 0 < xs.length) : ∀ a, A = some a → a.block < w.heap.size := by
  obtain ⟨b, off, rfl, hcc⟩ := h.cells hl
  intro a ha
  cases ha
  have hn : 0 < (K.cells (xs.getD 0 K.d)).length := by rw [K.len]; exact K.pos
  have h9 := hcc 0 hl 0 _ (List.getElem?_eq_getElem hn)
  have h8 := World.block_lt_of_cell? _ _ h9
  exact h8

theorem part_to (A B : Option Addr) (c d m k m' : Nat) (ts ts' : List Tk) (dn : List Bool) (g i a b : Int) (w : World) (h : Rd kTask w (.slice A m c) ts) (hd : Rd kBool w (.slice B k d) dn) (hm : ts.length = m) (hk : dn.length = k) (hg : in64 g) (hi : in64 i) (hl : m ≤ 1048576) (hl2 : k ≤ 1048576)
    (he : partErr ts g k i = 0) (ht : partedTs ts i.toNat = ts') (hm' : ts'.length = m') (ha : (ts.length : Int) = a) (hb : (ts.length : Int) + 1 = b) :
    Calls Tryz.prog 107 #[.agg #[.slice A m c, .int .i64 g, .slice B k d], .int .i64 i] w fun e w' => ∃ A c B d, e = .returned (.tuple #[.agg #[.slice A m' c, .int .i64 g, .slice B k d], .int .i64 a, .int .i64 b, .int .i64 0]) ∧
      Rd kTask w' (.slice A m' c) ts' ∧ Rd kBool w' (.slice B k d) dn ∧ From w.heap.size A ∧ From w.heap.size B ∧ Ext w w' := by
  subst hm hk ht hm' ha hb
  exact (ppart_any A B c d ts dn g i w h hd hg hi hl hl2).mono fun e w' hh => by
    rcases hh with ⟨hh, _⟩ | ⟨_, hh⟩
    · exact absurd he hh
    · exact hh

theorem do_to (A B : Option Addr) (c d m k : Nat) (ts ts' : List Tk) (dn dn' : List Bool) (g i : Int) (q : Bool) (w : World) (h : Rd kTask w (.slice A m c) ts) (hd : Rd kBool w (.slice B k d) dn) (hm : ts.length = m) (hk : dn.length = k) (hg : in64 g) (hi : in64 i) (hl : m ≤ 1048576) (hl2 : k ≤ 1048576)
    (he : doErr ts g dn i = 0) (hc : climb (ts.length + 1) ts (ts.getD i.toNat tk0).up = (ts', q)) (hq : marked dn (ts.getD i.toNat tk0).lo.toNat (ts.getD i.toNat tk0).hi.toNat = dn') :
    Calls Tryz.prog 108 #[.agg #[.slice A m c, .int .i64 g, .slice B k d], .int .i64 i] w fun e w' => ∃ A c B d, e = .returned (.tuple #[.agg #[.slice A m c, .int .i64 g, .slice B k d], .bool q, .int .i64 0]) ∧
      Rd kTask w' (.slice A m c) ts' ∧ Rd kBool w' (.slice B k d) dn' ∧ From w.heap.size A ∧ From w.heap.size B ∧ Ext w w' := by
  subst hm hk hq
  exact (pdo_any A B c d ts dn g i w h hd hg hi hl hl2).mono fun e w' hh => by
    rcases hh with ⟨hh, _⟩ | ⟨_, hh⟩
    · exact absurd he hh
    · unfold DoSaid at hh; rw [hc] at hh; exact hh

theorem right_to (A B : Option Addr) (c d m k : Nat) (ts : List Tk) (g : Int) (q : Bool) (w : World) (h : Rd kTask w (.slice A m c) ts) (hm : ts.length = m) (hk : k ≤ 9223372036854775807) (hg : in64 g) (he : wRight ts g k = q) :
    Calls Tryz.prog 96 #[.agg #[.slice A m c, .int .i64 g, .slice B k d]] w fun e w' => e = .returned (.bool q) ∧ Ext w w' := by
  subst hm he
  exact right_any A B c d k ts g w h hk hg
end Go.Proofs.YtkpbanfpnilifaaGreat

/- What the walk of TaskOnce shares. Written by wip/mk_tonce.py. -/
namespace Go.Proofs.YtkpbanfpnilifaaGreat
open Go.BigFrame
open Go.RowKit Go.Proofs.YtkpbanfpnilifaaGreat.Plain

/-- the q-th one is gone -/
def less (O : List Nat) (q : Nat) : List Nat := O.take q ++ O.drop (q + 1)
theorem doErr_zero {ts : List Tk} {g : Int} {dn : List Bool} {j : Nat} (hr : wRight ts g dn.length = true) (hj : j < ts.length) (ht : wGreat ts g dn.length j = false) (hw : (ts.getD j tk0).wt = 0) (hd : dn.getD (ts.getD j tk0).lo.toNat false = false) : doErr ts g dn j = 0 := by
  have hs : wHas ts.length (j : Int) = true := by unfold wHas; simp; omega
  have e0 : tkAt ts (j : Int) = ts.getD j tk0 := by unfold tkAt; rw [Int.toNat_natCast]
  unfold doErr
  rw [if_neg (by rw [hr]; decide), if_neg (by rw [hs]; decide), if_neg (by rw [ht]; decide), e0, if_neg (by simpa using hw), if_neg (by rw [hd]; decide)]
theorem partErr_ok {ts : List Tk} {g : Int} {n j : Nat} (hr : wRight ts g n = true) (hj : j < ts.length) (ht : wGreat ts g n j = true) (hw : (ts.getD j tk0).wt = 0) (hl : ts.length ≤ 1998) : partErr ts g n j = 0 := by
  have hs : wHas ts.length (j : Int) = true := by unfold wHas; simp; omega
  have e0 : tkAt ts (j : Int) = ts.getD j tk0 := by unfold tkAt; rw [Int.toNat_natCast]
  unfold partErr
  rw [if_neg (by rw [hr]; decide), if_neg (by rw [hs]; decide), if_neg (by rw [ht]; decide), e0, if_neg (by simpa using hw), if_neg (by omega)]

end Go.Proofs.YtkpbanfpnilifaaGreat

/- Lists of lists of numbers: what reads as one, what a call has made; append. -/
namespace Go.Proofs.YtkpbanfpnilifaaGreat
open Go.BigFrame
open Go.RowKit Go.Proofs.YtkpbanfpnilifaaGreat.Plain

/-- a list's head, as it lies in a list of lists -/
structure Hd where
  A : Option Addr
  n : Nat
  c : Nat
def hd0 : Hd := ⟨none, 0, 0⟩
abbrev Hd.v (h : Hd) : Value := .slice h.A h.n h.c
def kRow : Kd Hd where
  t := 79
  e := 29
  n := 1
  cells := fun h => [.slice h.A h.n h.c]
  ok := fun _ => True
  d := hd0
  z := .slice none 0 0
  bytes := 24
  ht := Tryz.underlying79
  info := by kernel_rfl
  hzs := rfl
  pos := by decide
  small := by decide
  len := fun _ => rfl
  one := fun a u hu => by simp at hu; subst hu; rfl
/-- a value that reads as these lists -/
def Rdd (w : World) (v : Value) (D : List (List Int)) : Prop := ∃ hs : List Hd, Rd kRow w v hs ∧ hs.length = D.length ∧ ∀ j, j < D.length → Rd kInt w (hs.getD j hd0).v (D.getD j [])
/-- lists that a call has made -/
def Oww (B : Nat) (w : World) (v : Value) (D : List (List Int)) : Prop := ∃ hs : List Hd, Ow kRow B w v hs ∧ hs.length = D.length ∧ ∀ j, j < D.length → Ow kInt B w (hs.getD j hd0).v (D.getD j [])
theorem Rdd.ext {w W : World} {v : Value} {D : List (List Int)} (h : Rdd w v D) (hE : Ext w W) : Rdd W v D := by
  obtain ⟨hs, h1, h2, h3⟩ := h
  exact ⟨hs, h1.ext hE, h2, fun j hj => (h3 j hj).ext hE⟩
theorem Rdd.slice {w : World} {v : Value} {D : List (List Int)} (h : Rdd w v D) : ∃ A c, v = .slice A D.length c ∧ D.length ≤ c := by
  obtain ⟨hs, h1, h2, _⟩ := h
  obtain ⟨A, c, h4, h5⟩ := h1.slice
  rw [h2] at h4 h5
  exact ⟨A, c, h4, h5⟩
theorem Rdd.len {w : World} {v : Value} {D : List (List Int)} (h : Rdd w v D) : D.length ≤ 9223372036854775807 := by
  obtain ⟨hs, h1, h2, _⟩ := h
  rw [← h2]; exact h1.len
theorem Rdd.nil (w : World) (A : Option Addr) (c : Nat) : Rdd w (.slice A 0 c) [] := ⟨[], Rd.nil _ _ _, rfl, fun j hj => absurd hj (Nat.not_lt_zero _)⟩
/-- a row, as it lies -/
theorem Rdd.row {w : World} {A : Option Addr} {n c : Nat} {D : List (List Int)} (h : Rdd w (.slice A n c) D) (j : Nat) (hj : j < D.length) : ∃ b off A' c', A = some ⟨b, off, none⟩ ∧ w.cell? ⟨b, off + j, none⟩ = some (.slice A' (D.getD j []).length c') ∧ Rd kInt w (.slice A' (D.getD j []).length c') (D.getD j []) := by
  obtain ⟨hs, h1, h2, h3⟩ := h
  obtain ⟨b, off, rfl, hc⟩ := h1.cells (by omega)
  have h4 := h3 j hj
  have h5 := hc j (by omega) 0 _ rfl
  obtain ⟨A', c', h6, _⟩ := h4.slice
  have e : (kRow.cells (hs.getD j kRow.d))[0]? = some (hs.getD j hd0).v := rfl
  refine ⟨b, off, A', c', rfl, ?_, by rw [← h6]; exact h4⟩
  rw [← h6]
  rw [show off + j * kRow.n + 0 = off + j from by show off + j * 1 + 0 = off + j; omega] at h5
  exact h5
theorem Oww.rdd {B : Nat} {w : World} {v : Value} {D : List (List Int)} (h : Oww B w v D) : Rdd w v D := by
  obtain ⟨hs, h1, h2, h3⟩ := h
  exact ⟨hs, h1.rd, h2, fun j hj => (h3 j hj).rd⟩
theorem Oww.ext {B : Nat} {w W : World} {v : Value} {D : List (List Int)} (h : Oww B w v D) (hE : Ext w W) : Oww B W v D := by
  obtain ⟨hs, h1, h2, h3⟩ := h
  exact ⟨hs, h1.ext hE, h2, fun j hj => (h3 j hj).ext hE⟩
theorem Oww.mono {B B' : Nat} {w : World} {v : Value} {D : List (List Int)} (h : Oww B w v D) (hB : B' ≤ B) : Oww B' w v D := by
  obtain ⟨hs, h1, h2, h3⟩ := h
  exact ⟨hs, h1.mono hB, h2, fun j hj => (h3 j hj).mono hB⟩
theorem Oww.nil (B : Nat) (w : World) : Oww B w (.slice none 0 0) [] := ⟨[], Ow.nil _ _, rfl, fun j hj => absurd hj (Nat.not_lt_zero _)⟩
theorem Oww.slice {B : Nat} {w : World} {v : Value} {D : List (List Int)} (h : Oww B w v D) : ∃ A c, v = .slice A D.length c ∧ D.length ≤ c := h.rdd.slice
theorem Oww.lt {B : Nat} {w : World} {v : Value} {D : List (List Int)} (h : Oww B w v D) : ∀ k, v.ownBlock = some k → B ≤ k ∧ k < w.heap.size := by
  obtain ⟨hs, h1, _⟩ := h
  exact h1.lt
/-- a store into another block, below all of them -/
theorem Oww.setBelow {B : Nat} {w : World} {v : Value} {D : List (List Int)} (h : Oww B w v D) {p : Addr} (hp : p.block < B) (u : Value) : Oww B (w.setCell p u) v D := by
  obtain ⟨hs, h1, h2, h3⟩ := h
  exact ⟨hs, h1.setBelow hp u, h2, fun j hj => (h3 j hj).setBelow hp u⟩
theorem row_at {w : World} {q : Nat} {h : Hd} (hq : w.heap[q]? = some (.cells #[h.v] 29)) : Rd kRow w (.slice (some ⟨q, 0, none⟩) 1 1) [h] :=
  ⟨by simp [maxLen], fun _ _ => trivial, _, 1, rfl, Nat.le_refl _, fun _ => ⟨q, 0, rfl, fun j hj i u hu => by
    obtain rfl : j = 0 := by simp at hj; omega
    have hi : i = 0 := by
      rcases i with _ | i
      · rfl
      · simp [kRow] at hu
    subst hi
    have hu' : h.v = u := by simpa [kRow] using hu
    subst hu'
    exact (cell_of_row w q 0 _ _ _ hq).trans rfl⟩⟩
theorem Oww.snoc {B : Nat} {w w' : World} {v v' : Value} {D : List (List Int)} {hs : List Hd} {h : Hd} {ys : List Int} (h1 : Ow kRow B w v hs) (h2 : hs.length = D.length) (h3 : ∀ j, j < D.length → Ow kInt B w (hs.getD j hd0).v (D.getD j [])) (hy : Ow kInt B w h.v ys) (hv : Ow kRow B w' v' (hs ++ [h])) (hg : w.grownBy w' v.ownBlock) : Oww B w' v' (D ++ [ys]) := by
  have hne : kInt.e ≠ kRow.e := by decide
  refine ⟨hs ++ [h], hv, by rw [List.length_append, List.length_append, h2]; rfl, fun j hj => ?_⟩
  rw [List.length_append, List.length_singleton] at hj
  rcases Nat.lt_or_ge j D.length with hlt | hge
  · have e1 : (hs ++ [h]).getD j hd0 = hs.getD j hd0 := by rw [List.getD_eq_getElem?_getD, List.getElem?_append_left (by omega), ← List.getD_eq_getElem?_getD]
    have e2 : (D ++ [ys]).getD j [] = D.getD j [] := by rw [List.getD_eq_getElem?_getD, List.getElem?_append_left hlt, ← List.getD_eq_getElem?_getD]
    rw [e1, e2]
    exact (h3 j hlt).beside h1 hne hg
  · obtain rfl : j = D.length := by omega
    have e1 : (hs ++ [h]).getD D.length hd0 = h := by rw [← h2, List.getD_eq_getElem?_getD, List.getElem?_append_right (Nat.le_refl _), Nat.sub_self]; rfl
    have e2 : (D ++ [ys]).getD D.length [] = ys := by rw [List.getD_eq_getElem?_getD, List.getElem?_append_right (Nat.le_refl _), Nat.sub_self]; rfl
    rw [e1, e2]
    exact hy.beside h1 hne hg
/-- append of one row -/
theorem Oww.wpList_app {ops : Array Oper} {rest : List Oper} {o : Oper} {a : Act} {w : World} {Q : Exit → Act → World → Prop} (hw : Region.wanted o (yielded ops a.tmps) = true) (s x : Operand)
    (ho : o.op = .call { callee := .builtin .append, args := #[s, x], argTypes := #[kRow.t, kRow.t] }) (hty : o.type = kRow.t)
    (B : Nat) (v : Value) (D : List (List Int)) (h1 : a.eval s = v) (hown : Oww B w v D) (p : Nat) (h : Hd) (ys : List Int) (hx : a.eval x = .slice (some ⟨p, 0, none⟩) 1 1) (hp : w.heap[p]? = some (.cells #[h.v] 29)) (hy : Ow kInt B w h.v ys) (hl : D.length + 1 ≤ 1048576) (hB : B ≤ w.heap.size)
    (hh : ∀ v' w', Oww B w' v' (D ++ [ys]) → w.grownBy w' v.ownBlock → (v'.ownBlock = v.ownBlock ∨ v'.ownBlock = some w.heap.size) → wpList Tryz.prog ops Q rest (a.put o.dst v') w') : wpList Tryz.prog ops Q (o :: rest) a w := by
  obtain ⟨hs, g1, g2, g3⟩ := hown
  refine kRow.wpList_app hw s x ho hty B v hs h1 g1 _ [h] hx (row_at hp) (by rw [g2]; exact hl) hB fun v' w' h2 h3 h4 => hh v' w' (Oww.snoc g1 g2 g3 hy h2 h3) h3 h4
end Go.Proofs.YtkpbanfpnilifaaGreat

/- A crew, as it lies; one that goes steps, as it lies. -/
namespace Go.Proofs.YtkpbanfpnilifaaGreat
open Go.RowKit Go.Proofs.YtkpbanfpnilifaaGreat.Plain

/-- deques, in a list at ⟨b, off⟩, that read so whatever becomes of the blocks of S -/
def Hds (S : Nat → Prop) (w : World) (b off m : Nat) (hs : Nat → Hd) (D : List (List Nat)) : Prop :=
  D.length = m ∧ ∀ j, j < m → w.cell? ⟨b, off + j, none⟩ = some (hs j).v ∧ (hs j).n = (D.getD j []).length ∧ RdO kInt S w (hs j).v (zs (D.getD j []))
theorem Hds.grew {S : Nat → Prop} {w W : World} {b off m : Nat} {hs : Nat → Hd} {D : List (List Nat)} (h : Hds S w b off m hs D) (hG : Grew S w W) (hb : ¬ S b) : Hds S W b off m hs D :=
  ⟨h.1, fun j hj => ⟨hG.cell (h.2 j hj).1 hb, (h.2 j hj).2.1, (h.2 j hj).2.2.grew hG⟩⟩
theorem Hds.ext {S : Nat → Prop} {w W : World} {b off m : Nat} {hs : Nat → Hd} {D : List (List Nat)} (h : Hds S w b off m hs D) (hE : Ext w W) : Hds S W b off m hs D :=
  ⟨h.1, fun j hj => ⟨hE.cell (h.2 j hj).1, (h.2 j hj).2.1, (h.2 j hj).2.2.ext hE⟩⟩
/-- a crew's memory, that has nothing to do with the blocks of S -/
structure CrewO (S : Nat → Prop) (w : World) (m : Nat) (c : Cw) (A B : Option Addr) (eb eo a b : Nat) : Prop where
  tsk : RdO kTask S w (.slice A c.ts.length a) c.ts
  dns : RdO kBool S w (.slice B c.dn.length b) c.dn
  deq : ∃ hs, Hds S w eb eo m hs c.D
  off : ¬ S eb
/-- .. of none -/
abbrev CrewAt (w : World) (m : Nat) (c : Cw) (A B : Option Addr) (eb eo a b : Nat) : Prop := CrewO (fun _ => False) w m c A B eb eo a b
theorem CrewO.grew {S : Nat → Prop} {w W : World} {m : Nat} {c : Cw} {A B : Option Addr} {eb eo a b : Nat} (h : CrewO S w m c A B eb eo a b) (hG : Grew S w W) : CrewO S W m c A B eb eo a b := by
  obtain ⟨h1, h2, ⟨hs, h3⟩, h4⟩ := h
  exact ⟨h1.grew hG, h2.grew hG, ⟨hs, h3.grew hG h4⟩, h4⟩
theorem CrewO.ext {S : Nat → Prop} {w W : World} {m : Nat} {c : Cw} {A B : Option Addr} {eb eo a b : Nat} (h : CrewO S w m c A B eb eo a b) (hE : Ext w W) : CrewO S W m c A B eb eo a b := h.grew (Grew.of hE)
theorem CrewO.setCell {S : Nat → Prop} {w : World} {m : Nat} {c : Cw} {A B : Option Addr} {eb eo a b : Nat} (h : CrewO S w m c A B eb eo a b) {p : Addr} (hp : S p.block) (u : Value) : CrewO S (w.setCell p u) m c A B eb eo a b := h.grew ((Grew.refl S w).setCell hp u)
theorem Hds.lt {S : Nat → Prop} {w : World} {b off m : Nat} {hs : Nat → Hd} {D : List (List Nat)} (h : Hds S w b off m hs D) (hm : 1 ≤ m) : b < w.heap.size := World.block_lt_of_cell? _ _ (h.2 0 hm).1
theorem CrewO.mono {S T : Nat → Prop} {w : World} {m : Nat} {c : Cw} {A B : Option Addr} {eb eo a b : Nat} (h : CrewO S w m c A B eb eo a b) (hm : 1 ≤ m) (hT : ∀ x, x < w.heap.size → T x → S x) : CrewO T w m c A B eb eo a b := by
  obtain ⟨h1, h2, ⟨hs, h3⟩, h4⟩ := h
  exact ⟨h1.mono hT, h2.mono hT, ⟨hs, h3.1, fun j hj => ⟨(h3.2 j hj).1, (h3.2 j hj).2.1, (h3.2 j hj).2.2.mono hT⟩⟩, fun ht => h4 (hT eb (h3.lt hm) ht)⟩
theorem CrewO.at_ {S : Nat → Prop} {w : World} {m : Nat} {c : Cw} {A B : Option Addr} {eb eo a b : Nat} (h : CrewO S w m c A B eb eo a b) (hm : 1 ≤ m) : CrewAt w m c A B eb eo a b := h.mono hm (fun _ _ hf => hf.elim)
/-- later, of blocks that were none then -/
theorem CrewO.later {S T : Nat → Prop} {w W : World} {m : Nat} {c : Cw} {A B : Option Addr} {eb eo a b : Nat} (h : CrewO S w m c A B eb eo a b) (hm : 1 ≤ m) (hG : Grew S w W) (hT : ∀ x, x < w.heap.size → T x → S x) : CrewO T W m c A B eb eo a b := by
  obtain ⟨h1, h2, ⟨hs, h3⟩, h4⟩ := h
  exact ⟨h1.later hG hT, h2.later hG hT, ⟨hs, h3.1, fun j hj => ⟨hG.cell (h3.2 j hj).1 h4, (h3.2 j hj).2.1, (h3.2 j hj).2.2.later hG hT⟩⟩, fun ht => h4 (hT eb (h3.lt hm) ht)⟩
/-- a crew, as a value -/
abbrev crewV (A B : Option Addr) (eb eo a b e : Nat) (g m : Nat) (c : Cw) : Value :=
  .agg #[.slice A c.ts.length a, .int .i64 g, .slice B c.dn.length b, .slice (some ⟨eb, eo, none⟩) m e, .bool c.over, .int .i64 c.st, .int .i64 c.id]
/-- an event, as a value -/
abbrev evV (x : Ev) : Value := .agg #[.int .i64 x.wk, .int .i64 x.fr, .int .i64 x.tk, .bool x.pt]

/-- one that goes steps: the block V has its crew and the event, the block e0 its deques' heads -/
structure GoAt (S : Nat → Prop) (w : World) (V e0 g m : Nat) (c : Cw) (ev : Ev) (A B : Option Addr) (a b e : Nat) (hs : Nat → Hd) : Prop where
  sV : S V
  sE : S e0
  sl : ∀ x, S x → x < w.heap.size
  ne : V ≠ e0
  v0 : w.cell? ⟨V, 0, none⟩ = some (.slice A c.ts.length a)
  v1 : w.cell? ⟨V, 1, none⟩ = some (.int .i64 g)
  v2 : w.cell? ⟨V, 2, none⟩ = some (.slice B c.dn.length b)
  v3 : w.cell? ⟨V, 3, none⟩ = some (.slice (some ⟨e0, 0, none⟩) m e)
  v4 : w.cell? ⟨V, 4, none⟩ = some (.bool c.over)
  v5 : w.cell? ⟨V, 5, none⟩ = some (.int .i64 c.st)
  v6 : w.cell? ⟨V, 6, none⟩ = some (.int .i64 c.id)
  v7 : w.cell? ⟨V, 7, none⟩ = some (.int .i64 ev.wk)
  v8 : w.cell? ⟨V, 8, none⟩ = some (.int .i64 ev.fr)
  v9 : w.cell? ⟨V, 9, none⟩ = some (.int .i64 ev.tk)
  v10 : w.cell? ⟨V, 10, none⟩ = some (.bool ev.pt)
  fV : ∀ o, w.frozen? ⟨V, o, none⟩ = false
  fE : ∀ o, w.frozen? ⟨e0, o, none⟩ = false
  me : m ≤ e
  tsk : RdO kTask S w (.slice A c.ts.length a) c.ts
  dns : RdO kBool S w (.slice B c.dn.length b) c.dn
  dl : c.D.length = m
  hd : ∀ j, j < m → w.cell? ⟨e0, j, none⟩ = some (hs j).v
  hn : ∀ j, j < m → (hs j).n = (c.D.getD j []).length
  hr : ∀ j, j < m → RdO kInt S w (hs j).v (zs (c.D.getD j []))
  hc : ∀ j, j < m → (hs j).n = 0 → (hs j).c = 0
theorem GoAt.ext {S : Nat → Prop} {w W : World} {V e0 g m : Nat} {c : Cw} {ev : Ev} {A B : Option Addr} {a b e : Nat} {hs : Nat → Hd} (h : GoAt S w V e0 g m c ev A B a b e hs) (hE : Ext w W) : GoAt S W V e0 g m c ev A B a b e hs where
  sV := h.sV
  sE := h.sE
  sl := fun x hx => Nat.lt_of_lt_of_le (h.sl x hx) hE.size
  ne := h.ne
  v0 := hE.cell h.v0
  v1 := hE.cell h.v1
  v2 := hE.cell h.v2
  v3 := hE.cell h.v3
  v4 := hE.cell h.v4
  v5 := hE.cell h.v5
  v6 := hE.cell h.v6
  v7 := hE.cell h.v7
  v8 := hE.cell h.v8
  v9 := hE.cell h.v9
  v10 := hE.cell h.v10
  fV := fun o => (Below.frozen hE (p := ⟨V, o, none⟩) (h.sl V h.sV)).trans (h.fV o)
  fE := fun o => (Below.frozen hE (p := ⟨e0, o, none⟩) (h.sl e0 h.sE)).trans (h.fE o)
  me := h.me
  tsk := h.tsk.ext hE
  dns := h.dns.ext hE
  dl := h.dl
  hd := fun j hj => hE.cell (h.hd j hj)
  hn := h.hn
  hr := fun j hj => (h.hr j hj).ext hE
  hc := h.hc
/-- but for the two blocks of one that goes steps -/
abbrev GrewG (V e0 : Nat) (w W : World) : Prop := Grew (fun x => x = V ∨ x = e0) w W
theorem GoAt.grewS {S : Nat → Prop} {w : World} {V e0 g m : Nat} {c : Cw} {ev : Ev} {A B : Option Addr} {a b e : Nat} {hs : Nat → Hd} (h : GoAt S w V e0 g m c ev A B a b e hs) {u W : World} (hG : GrewG V e0 u W) : Grew S u W :=
  hG.mono fun x _ hx => by rcases hx with rfl | rfl; exact h.sV; exact h.sE
/-- what one that goes steps has, as a crew -/
theorem GoAt.crew {S T : Nat → Prop} {w : World} {V e0 g m : Nat} {c : Cw} {ev : Ev} {A B : Option Addr} {a b e : Nat} {hs : Nat → Hd} (h : GoAt S w V e0 g m c ev A B a b e hs) (hT : ∀ x, T x → S x) (hE : ¬ T e0) : CrewO T w m c A B e0 0 a b :=
  ⟨h.tsk.mono fun x _ => hT x, h.dns.mono fun x _ => hT x, ⟨hs, h.dl, fun j hj => ⟨by rw [Nat.zero_add]; exact h.hd j hj, h.hn j hj, (h.hr j hj).mono fun x _ => hT x⟩⟩, hE⟩
/-- the box as it is read: a crew -/
theorem GoAt.at_ {S : Nat → Prop} {w : World} {V e0 g m : Nat} {c : Cw} {ev : Ev} {A B : Option Addr} {a b e : Nat} {hs : Nat → Hd} (h : GoAt S w V e0 g m c ev A B a b e hs) : CrewAt w m c A B e0 0 a b := h.crew (fun _ hf => hf.elim) (fun hf => hf)

/-- how many tasks there are, in work that is parted -/
theorem Plain.CwI.few {g n m : Nat} {c : Cw} {done : Nat} {G : List Nat} (h : CwI g n m c done G) (hg : 1 ≤ g) (hn : 1 ≤ n) : c.ts.length ≤ 2 * n := by
  have := (CrI.inv h).few hg hn; omega
end Go.Proofs.YtkpbanfpnilifaaGreat

/- The program's small words of a crew: cut, manned, counted, great, open. -/
namespace Go.Proofs.YtkpbanfpnilifaaGreat
open Go.BigFrame
open Go.RowKit Go.Proofs.YtkpbanfpnilifaaGreat.Plain

set_option maxRecDepth 100000 in
theorem ccut_any (p : Int) (m : Nat) (w : World) (hp : in64 p) (m1 : 1 ≤ m) (m2 : m ≤ 8) :
    Calls Tryz.prog 92 #[.int .i64 p, .int .i64 m] w fun e w' => e = .returned (.int .i64 (cutN m p)) ∧ w = w' := by
  obtain ⟨h1, h2⟩ := tmod_cut m p m1
  have hm0 : (1 : Int) ≤ m := by omega
  have hm8 : (m : Int) ≤ 8 := by omega
  have h3 := Int.tmod_lt_of_pos p (by omega : (0 : Int) < m)
  have h4 := cutN_lt m p m1
  obtain ⟨hp1, hp2⟩ := hp
  obtain ⟨r, hr⟩ : ∃ r, p.tmod m = r := ⟨_, rfl⟩
  rw [hr] at h1 h2 h3
  have hr0 : -8 ≤ r := by
    rcases Int.lt_or_le r 0 with h | h
    · have := h2 h; omega
    · omega
  have HR := Lib.hid hr
  clear hr
  rcases Int.lt_or_le r 0 with h | h
  · have HQ : Hid (r + m = (cutN m p : Int)) := Lib.hid (h2 h)
    clear h1 h2
    go_enter Tryz.func92, Tryz.ntmps92
    go_wp2
    all_goals (try rw [HR.out] at *)
    all_goals first | (exfalso; omega) | skip
    all_goals go_ret
    all_goals exact ⟨ret_int (by first | exact HQ.out | (rw [← HQ.out]; exact IntWalk.i64_in _ (by omega)) | (rw [HR.out]; exact HQ.out) | (rw [IntWalk.wrap64_in _ (by omega)]; exact HQ.out) | (have := HQ.out; have := HR.out; omega)), rfl⟩
  · have HQ : Hid (r = (cutN m p : Int)) := Lib.hid (h1 h)
    clear h1 h2
    go_enter Tryz.func92, Tryz.ntmps92
    go_wp2
    all_goals (try rw [HR.out] at *)
    all_goals first | (exfalso; omega) | skip
    all_goals go_ret
    all_goals exact ⟨ret_int (by first | exact HQ.out | (rw [HR.out]; exact HQ.out) | (have := HQ.out; have := HR.out; omega)), rfl⟩
set_option maxRecDepth 100000 in
theorem manned_yes (m : Nat) (w : World) (m1 : 1 ≤ m) (m2 : m ≤ 8) :
    Calls Tryz.prog 65 #[.int .i64 m] w fun e w' => e = .returned (.bool true) ∧ w = w' := by
  have hm0 : (1 : Int) ≤ m := by omega
  have hm8 : (m : Int) ≤ 8 := by omega
  go_enter Tryz.func65, Tryz.ntmps65
  go_wp2
  go_ret
  exact ⟨rfl, rfl⟩
set_option maxRecDepth 100000 in
theorem counted_yes (m : Int) (w : World) (m1 : 0 ≤ m) (m2 : m ≤ 100000) :
    Calls Tryz.prog 97 #[.int .i64 m] w fun e w' => e = .returned (.bool true) ∧ w = w' := by
  go_enter Tryz.func97, Tryz.ntmps97
  go_wp2
  go_ret
  exact ⟨rfl, rfl⟩
set_option maxRecDepth 100000 in
theorem cgreat_any (A B : Option Addr) (m n a b : Nat) (lo hi up wt g : Int) (w : World) (hd : in64 (hi - lo)) (_hg : in64 g) :
    Calls Tryz.prog 101 #[.agg #[.slice A m a, .int .i64 g, .slice B n b], .agg #[.int .i64 lo, .int .i64 hi, .int .i64 up, .int .i64 wt]] w fun e w' => e = .returned (.bool (decide (g < hi - lo))) ∧ Ext w w' := by
  obtain ⟨h1, h2⟩ := hd
  go_enter Tryz.func101, Tryz.ntmps101
  go_wp2
  go_ret
  exact ⟨ret_bool (by first | rfl | simp), ((Ext.refl w).alloc _).alloc _⟩
set_option maxHeartbeats 800000 in
set_option maxRecDepth 100000 in
theorem copen_yes (A B : Option Addr) (m a b : Nat) (lo hi up : Int) (g : Nat) (dn : List Bool) (w : World) (h : Rd kBool w (.slice B dn.length b) dn) (hlo : 0 ≤ lo) (hlh : lo < hi) (hhn : hi ≤ dn.length) (hg1 : 1 ≤ g) (hg : g ≤ 100) (hdn : dn.length ≤ 1000) (hd : dn.getD lo.toNat false = false) :
    Calls Tryz.prog 106 #[.agg #[.slice A m a, .int .i64 g, .slice B dn.length b], .agg #[.int .i64 lo, .int .i64 hi, .int .i64 up, .int .i64 0]] w fun e w' => e = .returned (.bool true) ∧ Ext w w' := by
  have H := Lib.hid h
  have hl1 : 0 < dn.length := by omega
  obtain ⟨bd, od, rfl, hcd⟩ := Rd.bools H.out hl1
  obtain ⟨l, rfl⟩ : ∃ l : Nat, lo = l := ⟨lo.toNat, by omega⟩
  rw [Int.toNat_natCast] at hd
  have z := hcd l (by omega)
  rw [hd] at z
  have HG : Hid (in64 (g : Int)) := Lib.hid (by unfold in64; omega)
  have HD : Hid (in64 (hi - l)) := Lib.hid (by unfold in64; omega)
  have hl2 : (l : Int) < dn.length := by omega
  have lbd : bd < w.heap.size := World.block_lt_of_cell? _ _ z
  clear h hcd hd
  go_enter Tryz.func106, Tryz.ntmps106
  cases hgr : decide ((g : Int) < hi - l) with
  | true =>
    go_wp2_with ((go_at_call 101; refine (cgreat_any _ _ _ _ _ _ _ _ _ _ _ _ HD.out HG.out).mono ?_; rw [hgr]; rintro e w1 ⟨rfl, hE⟩))
    go_ret
    exact ⟨rfl, (((Ext.refl w).alloc _).alloc _).trans hE⟩
  | false =>
    go_wp2_with ((go_at_call 101; refine (cgreat_any _ _ _ _ _ _ _ _ _ _ _ _ HD.out HG.out).mono ?_; rw [hgr]; rintro e w1 ⟨rfl, hE⟩; have z1 := hE.cell (a := ⟨bd, od + l, none⟩) (v := .bool false) (by go_simp); have x2 := hE.cell (a := ⟨w.heap.size, 2, none⟩) (v := .slice (some ⟨bd, od, none⟩) dn.length b) (by go_simp); have x3 := hE.cell (a := ⟨w.heap.size + 1, 0, none⟩) (v := .int .i64 l) (by go_simp)))
    go_ret
    exact ⟨rfl, (((Ext.refl w).alloc _).alloc _).trans hE⟩
end Go.Proofs.YtkpbanfpnilifaaGreat

/- Plain words of a deque: no program in it. -/
namespace Go.Proofs.YtkpbanfpnilifaaGreat.Plain

def popE (l : List Int) : Int := if l.length = 0 then 4 else 0
def popL (l : List Int) : List Int := l.take (l.length - 1)
def stealL (l : List Int) : List Int := l.drop 1
def topD (l : List Int) : Int := l.getD 0 0
theorem getD_drop (l : List Int) (k j : Nat) : (l.drop k).getD j 0 = l.getD (k + j) 0 := by
  simp [List.getD_eq_getElem?_getD, List.getElem?_drop]
theorem getD_take (l : List Int) (k j : Nat) (h : j < k) : (l.take k).getD j 0 = l.getD j 0 := by
  simp [List.getD_eq_getElem?_getD, List.getElem?_take_of_lt h]
theorem popL_len (l : List Int) : (popL l).length = l.length - 1 := by unfold popL; rw [List.length_take]; omega
end Go.Proofs.YtkpbanfpnilifaaGreat.Plain

/- The library's Grow and Concat at lists of integers; room of a deque. -/
namespace Go.Proofs.YtkpbanfpnilifaaGreat
open Go.RowKit Go.Proofs.YtkpbanfpnilifaaGreat.Plain

/-- a part of a list, from its beginning -/
theorem Ints.take {w : World} {A : Option Addr} {n c : Nat} {xs : List Int} (h : Ints w (.slice A n c) xs) (k c' : Nat) (hk : k ≤ xs.length) (hc : k ≤ c') : Ints w (.slice A k c') (xs.take k) := by
  obtain ⟨h1, h2, A', cap, hv, hcap, h3⟩ := h
  cases hv
  have hl : (xs.take k).length = k := by rw [List.length_take]; omega
  refine ⟨by rw [hl]; omega, fun n hn => h2 n (List.mem_of_mem_take hn), A, c', by rw [hl], by omega, fun hp => ?_⟩
  rw [hl] at hp
  obtain ⟨b, off, rfl, hcc⟩ := h3 (by omega)
  refine ⟨b, off, rfl, fun j hj => ?_⟩
  rw [hl] at hj
  rw [hcc j (by omega), getD_take _ _ _ hj]
/-- a part of a list, from a place on to its end -/
theorem Ints.drop {w : World} {b off n c : Nat} {xs : List Int} (h : Ints w (.slice (some ⟨b, off, none⟩) n c) xs) (k m c' : Nat) (hm : m = xs.length - k) (hc : m ≤ c') : Ints w (.slice (some ⟨b, off + k, none⟩) m c') (xs.drop k) := by
  obtain ⟨h1, h2, A', cap, hv, hcap, h3⟩ := h
  cases hv
  have hl : (xs.drop k).length = m := by rw [List.length_drop]; omega
  refine ⟨by rw [hl]; omega, fun n hn => h2 n (List.mem_of_mem_drop hn), _, c', by rw [hl], by omega, fun hp => ?_⟩
  obtain ⟨b', off', he, hcc⟩ := h3 (by omega)
  cases he
  refine ⟨b, off + k, rfl, fun j hj => ?_⟩
  rw [hl] at hj
  rw [Nat.add_assoc, hcc (k + j) (by omega), getD_drop]

theorem add_at (b off j : Nat) : (⟨b, off, none⟩ : Addr).add j = ⟨b, off + j, none⟩ := by
  by_cases h0 : j = 0
  · subst h0; rfl
  · simp [Addr.add, h0]
/-- .. as the walk writes it, where the address is open -/
theorem Ints.dropAdd {w : World} {ad : Addr} {n c : Nat} {xs : List Int} (h : Ints w (.slice (some ad) n c) xs) (k m c' : Nat) (hm : m = xs.length - k) (hc : m ≤ c') : Ints w (.slice (some (ad.add k)) m c') (xs.drop k) := by
  by_cases h0 : xs.drop k = []
  · have : m = 0 := by have := congrArg List.length h0; rw [List.length_drop] at this; simp at this; omega
    subst this
    rw [h0]
    exact Ints.nil _ _ _
  · have hl : 0 < xs.length := by
      cases xs with
      | nil => simp at h0
      | cons a l => simp
    obtain ⟨b, off, he, _⟩ := h.cells hl
    cases he
    rw [add_at]
    exact h.drop k m c' hm hc
theorem run_zeros (w : World) (n : Nat) (h0 : 0 < n) (hn : n ≤ 1048576) :
    (Builtin.append_ #[29, 3] 29 #[.slice none 0 0, .int .i64 n]).run Tryz.prog w =
      .ok (.slice (some ⟨w.heap.size, 0, none⟩) n (grownCap w n 0 3)) (w.drew.alloc (.cells (Builtin.zeroCells #[.int .i64 0] n ++ Builtin.zeroCells #[.int .i64 0] (grownCap w n 0 3 - n)) 3)) := by
  obtain ⟨i0, hi, hz0, hz1, hz2⟩ := info_parts intInfo
  exact Lib.run_append_nil_zeros w 29 3 29 3 i0 (.int .i64 0) .i64 .i64 Tryz.underlying29 Tryz.underlying3 hi hz0 n h0 (by omega) (by omega) (by rw [hz2]; omega)

theorem wpList_zeros {ops : Array Oper} {rest : List Oper} {o : Oper} {a : Act} {w : World} {Q : Exit → Act → World → Prop} (hgd : o.guard = none) (s x : Operand)
    (ho : o.op = .call { callee := .builtin .append, args := #[s, x], argTypes := #[29, 3] }) (hty : o.type = 29) (n : Nat) (hs : a.eval s = .slice none 0 0) (hx : a.eval x = .int .i64 n) (h0 : 0 < n) (hn : n ≤ 1048576)
    (h : ∀ (cap : Nat) (cur : Array Value), (n : Int) ≤ cap → cap ≤ maxLen → cur.size = cap → wpList Tryz.prog ops Q rest (a.put o.dst (.slice (some ⟨w.heap.size, 0, none⟩) n cap)) (w.drew.alloc (.cells cur 3))) : wpList Tryz.prog ops Q (o :: rest) a w :=
  wpList_plain hgd fun K hK => by
    unfold Oper.wp execOp
    simp only [ho, hty, resolve, invoke, builtin, Sem.run_bind, Sem.run_pure, Result.andThen_ok, List.map_toArray, List.map_cons, List.map_nil, hs, hx, run_zeros w n h0 hn]
    have hge := grownCap_ge w n 0 3
    refine hK _ _ (h _ _ (by omega) (grownCap_le_maxLen w n 0 3 (by unfold maxLen; omega)) ?_)
    simp only [Array.size_append, size_zeroCells]
    simp
    omega

/-- room is made: an empty list of the call's own -/
theorem grow_nil (n : Nat) (w : World) (hn : n ≤ 1048576) :
    Calls Tryz.prog 109 #[.slice none 0 0, .int .i64 n] w fun e w' => ∃ v, e = .returned v ∧ Own w.heap.size w' v [] ∧ Ext w w' := by
  by_cases h0 : 0 < n
  · have h0' : (0 : Int) < n := by omega
    go_enter Tryz.func109, Tryz.ntmps109
    go_wp2_with (at_builtin; refine wpList_zeros rfl _ _ rfl rfl n rfl rfl h0 hn ?_; intro cap cur hc1 hc2 hc3)
    go_ret
    exact ⟨_, rfl, Own.made w.drew _ _ (Nat.le_refl _) hc2 hc3, (Ext.refl w).drew.alloc _⟩
  · obtain rfl : n = 0 := by omega
    go_enter Tryz.func109, Tryz.ntmps109
    go_wp2
    go_ret
    exact ⟨_, rfl, Own.nil _ _, Ext.refl _⟩

end Go.Proofs.YtkpbanfpnilifaaGreat

/- The library at a crew's deques: Concat of all of them, Clone of one (an empty one has no room); how many tasks all deques hold. -/
namespace Go.Proofs.YtkpbanfpnilifaaGreat
open Go.BigFrame
open Go.RowKit Go.Proofs.YtkpbanfpnilifaaGreat.Plain

/-- of the first deques -/
def upTo (D : List (List Nat)) (k : Nat) : List Nat := (D.take k).flatten
theorem upTo_succ (D : List (List Nat)) (k : Nat) (hk : k < D.length) : upTo D (k + 1) = upTo D k ++ D.getD k [] := by
  unfold upTo
  rw [List.take_succ_eq_append_getElem hk, List.flatten_append, getDp hk]; simp
theorem upTo_all (D : List (List Nat)) : upTo D D.length = held D := by unfold upTo held; rw [List.take_length]
theorem upTo_le (D : List (List Nat)) (k : Nat) : (upTo D k).length ≤ (held D).length := by
  have h : held D = upTo D k ++ (D.drop k).flatten := by unfold held upTo; rw [← List.flatten_append, List.take_append_drop]
  rw [h, List.length_append]; omega

set_option maxHeartbeats 800000 in
set_option maxRecDepth 100000 in
theorem concat_all (b off m e : Nat) (hs : Nat → Hd) (D : List (List Nat)) (w : World) (h : Hds (fun _ => False) w b off m hs D) (hm : m ≤ 8) (hl : (held D).length ≤ 1000000) :
    Calls Tryz.prog 105 #[.slice (some ⟨b, off, none⟩) m e] w fun ed w' => ∃ A c, ed = .returned (.slice A (held D).length c) ∧ Own w.heap.size w' (.slice A (held D).length c) (zs (held D)) ∧ Ext w w' := by
  have H := Lib.hid h
  have HDL : Hid (D.length = m) := Lib.hid h.1
  have hm' : (m : Int) ≤ 8 := by omega
  obtain ⟨N, hN⟩ : ∃ N, (held D).length = N := ⟨_, rfl⟩
  rw [hN] at hl ⊢
  have HN := Lib.hid hN
  clear h hN
  go_enter Tryz.func105, Tryz.ntmps105
  go_wp2_with fail
  go_loop [3, 11] (fun s i => ∃ k : Nat, k ≤ m ∧ i = .int .i64 k ∧ s = .int .i64 ((upTo D k).length : Nat)) (fun _ i => m - (intOf i).toNat)
  case atStart => exact ⟨0, Nat.zero_le _, rfl, rfl⟩
  case round =>
    obtain ⟨k, hk, rfl, rfl⟩ := hrel
    have hk0 : (0 : Int) ≤ k := by omega
    by_cases hlt : k < m
    · have hlt' : (k : Int) < m := by omega
      obtain ⟨z, zn, _⟩ := H.out.2 k hlt
      obtain ⟨u1, hu1⟩ : ∃ x, (upTo D k).length = x := ⟨_, rfl⟩
      obtain ⟨u2, hu2⟩ : ∃ x, (hs k).n = x := ⟨_, rfl⟩
      have hsucc : (upTo D (k + 1)).length = u1 + u2 := by rw [upTo_succ D k (by rw [HDL.out]; exact hlt), List.length_append, hu1, ← hu2, zn]
      have hb := upTo_le D (k + 1)
      rw [hsucc, HN.out] at hb
      have hb1 : (u1 : Int) ≤ 1000000 := by omega
      have hb2 : (u2 : Int) ≤ 1000000 := by omega
      have HS := Lib.hid hsucc
      unfold Hd.v at z
      rw [hu2] at z
      rw [hu1]
      clear hsucc hb zn hu1 hu2
      go_wp2_with fail
      go_round
      case rel => exact ⟨k + 1, by omega, by go_num, by rw [HS.out]; go_num⟩
      case measure => simp [intOf]; omega
    · obtain rfl : k = m := by omega
      have hu : (upTo D k).length = N := by rw [← HDL.out, upTo_all D, HN.out]
      rw [hu]
      clear hu
      go_wp2_with fail
      refine (grow_nil _ _ (by omega)).mono ?_
      rintro ed w1 ⟨z, rfl, hown, hE⟩
      have HO := Lib.hid hown
      have HE := Lib.hid hE
      clear hown hE
      go_wp2
      go_loopw [6, 27] (fun v i wr => ∃ j : Nat, j ≤ k ∧ i = .int .i64 j ∧ Own w.heap.size wr v (zs (upTo D j)) ∧ Ext w wr) (fun _ i _ => k - (intOf i).toNat)
      case atStart => exact ⟨0, Nat.zero_le _, rfl, by first | exact HO.out | (unfold upTo; simpa [zs] using HO.out), HE.out⟩
      case round =>
        obtain ⟨j, hj, rfl, hown, hX⟩ := hrel
        have hj0 : (0 : Int) ≤ j := by omega
        by_cases hlt2 : j < k
        · have hlt3 : (j : Int) < k := by omega
          obtain ⟨z, zn, zr⟩ := H.out.2 j hlt2
          have z' := hX.cell z
          have hz := hX.size
          have HZ : Hid (Ints wr (hs j).v (zs (D.getD j []))) := Lib.hid (ints_of_rd (zr.rd.ext hX))
          have hsucc : zs (upTo D (j + 1)) = zs (upTo D j) ++ zs (D.getD j []) := by rw [upTo_succ D j (by rw [HDL.out]; exact hlt2), zs_app]
          have hb := upTo_le D (j + 1)
          have HB : Hid ((zs (upTo D j)).length + (zs (D.getD j [])).length ≤ 1048576) := Lib.hid (by rw [← List.length_append, ← hsucc, zs_len]; have := HN.out; omega)
          have HS := Lib.hid hsucc
          clear hsucc hb zn zr z
          go_wp2_with (at_builtin; refine wpList_app rfl _ _ rfl rfl w.heap.size _ (zs (upTo D j)) rfl hown _ (zs (D.getD j [])) rfl HZ.out HB.out hz ?_; intro v' w2 hown2 hgrow2 hat2)
          go_roundw
          case rel => exact ⟨j + 1, by omega, by go_num, by rw [HS.out]; exact hown2, hX.grown hgrow2 (fun k hk => (hown.lt k hk).1)⟩
          case measure => simp [intOf]; omega
        · obtain rfl : j = k := by omega
          have hu : upTo D j = held D := by rw [← HDL.out]; exact upTo_all D
          rw [hu] at hown
          clear hu
          go_wp2
          go_ret
          obtain ⟨A, c, rfl, _⟩ := hown.shape
          rw [zs_len, HN.out] at hown ⊢
          exact ⟨A, c, rfl, hown, hX⟩

theorem run_app0 (w : World) (g : Nat) (ad : Addr) (c : Nat) : (Builtin.append_ #[29, 29] 29 #[.slice (some ⟨g, 0, none⟩) 0 0, .slice (some ad) 0 c]).run Tryz.prog w = .ok (.slice (some ⟨g, 0, none⟩) 0 0) w := by
  obtain ⟨i0, hi, hz0, hz1, hz2⟩ := info_parts intInfo
  simp [Builtin.append_, run_underlying Tryz.underlying29, sizeOf, typeInfo, hi, Builtin.lenOf, Builtin.firstCells, storeCells, loadCells, loadCellsFrom]
theorem wpList_app0 {ops : Array Oper} {rest : List Oper} {o : Oper} {a : Act} {w : World} {Q : Exit → Act → World → Prop} (hgd : o.guard = none) (s x : Operand)
    (ho : o.op = .call { callee := .builtin .append, args := #[s, x], argTypes := #[29, 29] }) (hty : o.type = 29) (g : Nat) (ad : Addr) (c : Nat) (hs : a.eval s = .slice (some ⟨g, 0, none⟩) 0 0) (hx : a.eval x = .slice (some ad) 0 c)
    (h : wpList Tryz.prog ops Q rest (a.put o.dst (.slice (some ⟨g, 0, none⟩) 0 0)) w) : wpList Tryz.prog ops Q (o :: rest) a w :=
  wpList_plain hgd fun K hK => by
    unfold Oper.wp execOp
    simp only [ho, hty, resolve, invoke, builtin, Sem.run_bind, Sem.run_pure, Result.andThen_ok, List.map_toArray, List.map_cons, List.map_nil, hs, hx, run_app0]
    exact hK _ _ h
/-- an empty list is cloned: no room -/
theorem clone_empty (A : Option Addr) (c : Nat) (w : World) :
    Calls Tryz.prog 90 #[.slice A 0 c] w fun e w' => ∃ A, e = .returned (.slice A 0 0) ∧ Ext w w' := by
  have hnil := fun (w : World) (a : Option Addr) (n c : Nat) => Lib.run_eql_slice_nil w 29 3 a n c 0 0 Tryz.underlying29
  cases A with
  | none =>
    go_enter Tryz.func90, Tryz.ntmps90
    go_wp2
    go_ret
    exact ⟨_, rfl, Ext.refl _⟩
  | some ad =>
    go_enter Tryz.func90, Tryz.ntmps90
    go_wp2_with (at_builtin; refine wpList_app0 rfl _ _ rfl rfl _ ad c rfl rfl ?_)
    go_ret
    exact ⟨_, rfl, (Ext.refl _).alloc _⟩
/-- a deque is cloned: an empty one has no room then -/
theorem clone_dq (h : Hd) (xs : List Nat) (w : World) (hr : Rd kInt w h.v (zs xs)) (hn : h.n = xs.length) (hl : xs.length ≤ 1000000) :
    Calls Tryz.prog 90 #[h.v] w fun e w' => ∃ k : Hd, e = .returned k.v ∧ k.n = xs.length ∧ (k.n = 0 → k.c = 0) ∧ (∀ S : Nat → Prop, (∀ x, S x → x < w.heap.size) → RdO kInt S w' k.v (zs xs)) ∧ Ext w w' := by
  by_cases h0 : xs.length = 0
  · obtain rfl : xs = [] := List.eq_nil_of_length_eq_zero h0
    obtain ⟨A, n, c⟩ := h
    obtain rfl : n = 0 := hn
    exact (clone_empty A c w).mono fun e w' ⟨A, he, hE⟩ => ⟨⟨A, 0, 0⟩, he, rfl, fun _ => rfl, fun S _ => RdO.nil S w' A 0, hE⟩
  · refine (clone_any h.v (zs xs) w (ints_of_rd hr) (by rw [zs_len]; omega)).mono ?_
    rintro e w' ⟨A, c, he, ho, hE⟩
    rw [zs_len] at he ho
    exact ⟨⟨A, xs.length, c⟩, he, rfl, fun hh => absurd hh h0, fun S hS => (rd_of_ints ho.ints).offFrom ho.from hS, hE⟩
set_option maxHeartbeats 800000 in
set_option maxRecDepth 100000 in
theorem cheld_any (A B : Option Addr) (eb eo a b e g m : Nat) (c : Cw) (hs : Nat → Hd) (w : World) (h : Hds (fun _ => False) w eb eo m hs c.D) (hm : m ≤ 8) (hl : (held c.D).length ≤ 1000000) :
    Calls Tryz.prog 87 #[crewV A B eb eo a b e g m c] w fun ed w' => ed = .returned (.int .i64 (held c.D).length) ∧ Ext w w' := by
  have H := Lib.hid h
  have HDL : Hid (c.D.length = m) := Lib.hid h.1
  have hm' : (m : Int) ≤ 8 := by omega
  obtain ⟨N, hN⟩ : ∃ N, (held c.D).length = N := ⟨_, rfl⟩
  rw [hN] at hl ⊢
  have HN := Lib.hid hN
  clear h hN
  go_enter Tryz.func87, Tryz.ntmps87
  go_wp2_with fail
  go_loopw [3, 9] (fun s i wr => ∃ k : Nat, k ≤ m ∧ i = .int .i64 k ∧ s = .int .i64 ((upTo c.D k).length : Nat) ∧ Ext w wr) (fun _ i _ => m - (intOf i).toNat)
  case atStart => exact ⟨0, Nat.zero_le _, rfl, rfl, (Ext.refl _).alloc _⟩
  case round =>
    obtain ⟨k, hk, rfl, rfl, hX⟩ := hrel
    have hk0 : (0 : Int) ≤ k := by omega
    by_cases hlt : k < m
    · have hlt' : (k : Int) < m := by omega
      obtain ⟨z0, zn, _⟩ := H.out.2 k hlt
      have z := hX.cell z0
      obtain ⟨u1, hu1⟩ : ∃ x, (upTo c.D k).length = x := ⟨_, rfl⟩
      obtain ⟨u2, hu2⟩ : ∃ x, (hs k).n = x := ⟨_, rfl⟩
      have hsucc : (upTo c.D (k + 1)).length = u1 + u2 := by rw [upTo_succ c.D k (by rw [HDL.out]; exact hlt), List.length_append, hu1, ← hu2, zn]
      have hb := upTo_le c.D (k + 1)
      rw [hsucc, HN.out] at hb
      have hb1 : (u1 : Int) ≤ 1000000 := by omega
      have hb2 : (u2 : Int) ≤ 1000000 := by omega
      have HS := Lib.hid hsucc
      unfold Hd.v at z
      rw [hu2] at z
      rw [hu1]
      clear hsucc hb zn hu1 hu2 z0
      go_wp2_with fail
      go_roundw
      case rel => exact ⟨k + 1, by omega, by go_num, by rw [HS.out]; go_num, hX⟩
      case measure => simp [intOf]; omega
    · obtain rfl : k = m := by omega
      have hu : (upTo c.D k).length = N := by rw [← HDL.out, upTo_all c.D, HN.out]
      rw [hu]
      clear hu
      go_wp2_with fail
      go_ret
      exact ⟨rfl, hX⟩
end Go.Proofs.YtkpbanfpnilifaaGreat

/- The document's small words of a crew (ref05): cut, Held. -/
namespace Go.Proofs.YtkpbanfpnilifaaGreat
open Go.BigFrame
open Go.RowKit Go.Proofs.YtkpbanfpnilifaaGreat.Plain

set_option maxRecDepth 100000 in
theorem rcut_any (p : Int) (m : Nat) (w : World) (hp : in64 p) (m1 : 1 ≤ m) (m2 : m ≤ 8) :
    Calls Tryz.prog 71 #[.int .i64 p, .int .i64 m] w fun e w' => e = .returned (.int .i64 (cutN m p)) ∧ w = w' := by
  obtain ⟨h1, h2⟩ := tmod_cut m p m1
  have hm0 : (1 : Int) ≤ m := by omega
  have hm8 : (m : Int) ≤ 8 := by omega
  have h3 := Int.tmod_lt_of_pos p (by omega : (0 : Int) < m)
  have h4 := cutN_lt m p m1
  obtain ⟨hp1, hp2⟩ := hp
  obtain ⟨r, hr⟩ : ∃ r, p.tmod m = r := ⟨_, rfl⟩
  rw [hr] at h1 h2 h3
  have hr0 : -8 ≤ r := by
    rcases Int.lt_or_le r 0 with h | h
    · have := h2 h; omega
    · omega
  have HR := Lib.hid hr
  clear hr
  rcases Int.lt_or_le r 0 with h | h
  · have HQ : Hid (r + m = (cutN m p : Int)) := Lib.hid (h2 h)
    clear h1 h2
    go_enter Tryz.func71, Tryz.ntmps71
    go_wp2
    all_goals (try rw [HR.out] at *)
    all_goals first | (exfalso; omega) | skip
    all_goals go_ret
    all_goals exact ⟨ret_int (by first | exact HQ.out | (rw [← HQ.out]; exact IntWalk.i64_in _ (by omega)) | (rw [HR.out]; exact HQ.out) | (rw [IntWalk.wrap64_in _ (by omega)]; exact HQ.out) | (have := HQ.out; have := HR.out; omega)), rfl⟩
  · have HQ : Hid (r = (cutN m p : Int)) := Lib.hid (h1 h)
    clear h1 h2
    go_enter Tryz.func71, Tryz.ntmps71
    go_wp2
    all_goals (try rw [HR.out] at *)
    all_goals first | (exfalso; omega) | skip
    all_goals go_ret
    all_goals exact ⟨ret_int (by first | exact HQ.out | (rw [HR.out]; exact HQ.out) | (have := HQ.out; have := HR.out; omega)), rfl⟩
set_option maxHeartbeats 800000 in
set_option maxRecDepth 100000 in
theorem rheld_any (A B : Option Addr) (eb eo a b e g m : Nat) (c : Cw) (hs : Nat → Hd) (w : World) (h : Hds (fun _ => False) w eb eo m hs c.D) (hm : m ≤ 8) (hl : (held c.D).length ≤ 1000000) :
    Calls Tryz.prog 78 #[crewV A B eb eo a b e g m c] w fun ed w' => ed = .returned (.int .i64 (held c.D).length) ∧ Ext w w' := by
  have H := Lib.hid h
  have HDL : Hid (c.D.length = m) := Lib.hid h.1
  have hm' : (m : Int) ≤ 8 := by omega
  obtain ⟨N, hN⟩ : ∃ N, (held c.D).length = N := ⟨_, rfl⟩
  rw [hN] at hl ⊢
  have HN := Lib.hid hN
  clear h hN
  go_enter Tryz.func78, Tryz.ntmps78
  go_wp2_with fail
  have c3 : (w.alloc (.cells #[.slice A c.ts.length a, .int .i64 g, .slice B c.dn.length b, .slice (some ⟨eb, eo, none⟩) m e, .bool c.over, .int .i64 c.st, .int .i64 c.id] 81)).cell? ⟨w.heap.size, 3, none⟩ = some (.slice (some ⟨eb, eo, none⟩) m e) := by go_simp
  have HX0 : Hid (Ext w (w.alloc (.cells #[.slice A c.ts.length a, .int .i64 g, .slice B c.dn.length b, .slice (some ⟨eb, eo, none⟩) m e, .bool c.over, .int .i64 c.st, .int .i64 c.id] 81))) := Lib.hid ((Ext.refl _).alloc _)
  generalize (w.alloc (.cells #[.slice A c.ts.length a, .int .i64 g, .slice B c.dn.length b, .slice (some ⟨eb, eo, none⟩) m e, .bool c.over, .int .i64 c.st, .int .i64 c.id] 81)) = w1 at *
  go_loopw [3, 4] (fun s i wr => ∃ k : Nat, k ≤ m ∧ i = .int .i64 k ∧ s = .int .i64 ((upTo c.D k).length : Nat) ∧ Ext w1 wr) (fun _ i _ => m - (intOf i).toNat)
  case atStart => exact ⟨0, Nat.zero_le _, rfl, rfl, Ext.refl _⟩
  case round =>
    obtain ⟨k, hk, rfl, rfl, hX⟩ := hrel
    have d3 := hX.cell c3
    have hk0 : (0 : Int) ≤ k := by omega
    by_cases hlt : k < m
    · have hlt' : (k : Int) < m := by omega
      obtain ⟨z0, zn, _⟩ := H.out.2 k hlt
      have z := (HX0.out.trans hX).cell z0
      obtain ⟨u1, hu1⟩ : ∃ x, (upTo c.D k).length = x := ⟨_, rfl⟩
      obtain ⟨u2, hu2⟩ : ∃ x, (hs k).n = x := ⟨_, rfl⟩
      have hsucc : (upTo c.D (k + 1)).length = u1 + u2 := by rw [upTo_succ c.D k (by rw [HDL.out]; exact hlt), List.length_append, hu1, ← hu2, zn]
      have hb := upTo_le c.D (k + 1)
      rw [hsucc, HN.out] at hb
      have hb1 : (u1 : Int) ≤ 1000000 := by omega
      have hb2 : (u2 : Int) ≤ 1000000 := by omega
      have HS := Lib.hid hsucc
      unfold Hd.v at z
      rw [hu2] at z
      rw [hu1]
      clear hsucc hb zn hu1 hu2 z0
      go_wp2_with fail
      go_roundw
      case rel => exact ⟨k + 1, by omega, by go_num, by rw [HS.out]; go_num, hX⟩
      case measure => simp [intOf]; omega
    · obtain rfl : k = m := by omega
      have hu : (upTo c.D k).length = N := by rw [← HDL.out, upTo_all c.D, HN.out]
      rw [hu]
      clear hu
      go_wp2_with fail
      go_ret
      exact ⟨rfl, HX0.out.trans hX⟩
end Go.Proofs.YtkpbanfpnilifaaGreat

/- A region whose order is open and whose operations, but one that writes and a tail in one order, leave all that was there as it was: what each of them leaves is said once, whatever the order. -/
namespace Go.Proofs.YtkpbanfpnilifaaGreat.MonoW
open Go.RowKit Go.Proofs.YtkpbanfpnilifaaGreat Go.Proofs.YtkpbanfpnilifaaGreat.Mono

/-- what an operation may do to memory: only q may write -/
structure Out (q : Nat) (S : World → World → Prop) (i : Nat) (w w' : World) : Prop where
  all : S w w'
  ext : i ≠ q → Ext w w'
theorem Out.of {q i : Nat} {S : World → World → Prop} {w w' : World} (hSE : ∀ w w', Ext w w' → S w w') (h : Ext w w') : Out q S i w w' := ⟨hSE _ _ h, fun _ => h⟩
theorem Out.write {q : Nat} {S : World → World → Prop} {w w' : World} (h : S w w') : Out q S q w w' := ⟨h, fun e => absurd rfl e⟩
section
variable {P : Program} {l : List Oper} {m q : Nat} {S : World → World → Prop} {Q : Exit → Act → World → Prop} {a0 : Act} {w0 : World} {V : Nat → World → List Value → Value → Prop}

def Inv (P : Program) (l : List Oper) (m : Nat) (Q : Exit → Act → World → Prop) (a0 : Act) (w0 : World) (V : Nat → World → List Value → Value → Prop) (q : Nat) (S : World → World → Prop) (listed : Array Bool) (a : Act) (w : World) : Prop :=
  listed.size = l.length ∧
  ((∃ vals : Nat → Value, (S w0 w ∧ (listed.getD q false = false → Ext w0 w)) ∧ (∀ j, m ≤ j → listed.getD j false = false) ∧ (∀ i, listed.getD i false = true → ∀ j ∈ deps l i, listed.getD j false = true) ∧
      (∀ i, i < m → listed.getD i false = true → V i w ((deps l i).map vals) (vals i)) ∧ a = sel listed vals (l.take m) 0 a0) ∨
   (∃ k, m ≤ k ∧ k ≤ l.length ∧ (∀ j, j < l.length → (listed.getD j false = true ↔ j < k)) ∧ wpList P l.toArray Q (l.drop k) a w))

theorem step (hB : monoB l m = true) (hSE : ∀ w w', Ext w w' → S w w') (hST : ∀ a b c, S a b → S b c → S a c) (hst : ∀ i w w' d v, V i w d v → Ext w w' → V i w' d v) (hsw : ∀ i w w' d v, i ≠ q → V i w d v → S w w' → V i w' d v)
    (hop : ∀ i o, i < m → l[i]? = some o → ∀ (vals : Nat → Value) (w : World), S w0 w → (i = q → Ext w0 w) → (∀ j, (deps l i).contains j = true → V j w ((deps l j).map vals) (vals j)) →
      if Region.wanted o (yielded l.toArray (all vals (l.take m) 0 a0).tmps) = true
      then Mono.Yields P (fun v w' => Out q S i w w' ∧ V i w' ((deps l i).map vals) v) ((execOp (all vals (l.take m) 0 a0).eval o).run P w)
      else V i w ((deps l i).map vals) undef)
    (hend : ∀ (vals : Nat → Value) (w : World), S w0 w → (∀ j, j < m → V j w ((deps l j).map vals) (vals j)) → wpList P l.toArray Q (l.drop m) (all vals (l.take m) 0 a0) w)
    (listed : Array Bool) (a : Act) (w : World) (i : Nat) (hI : Inv P l m Q a0 w0 V q S listed a w) (hi : i ∈ Region.ready .any l.toArray listed) :
    wpOp P l.toArray Q i (Inv P l m Q a0 w0 V q S (listed.setIfInBounds i true)) a w := by
  obtain ⟨hsz, hI⟩ := hI
  obtain ⟨hun, o, ho', hall⟩ := mem_ready.1 hi
  have ho : l[i]? = some o := by simpa using ho'
  have hil : i < l.length := by
    rcases Nat.lt_or_ge i l.length with h | h
    · exact h
    · rw [List.getElem?_eq_none h] at ho; cases ho
  have hsi : i < listed.size := by omega
  have hunf : listed.getD i false = false := by
    rw [← hun]; simp [hsi]
  obtain ⟨k1, k2, k3, k4, k5⟩ := ok_parts hB ho
  have hdl : ∀ j ∈ deps l i, listed.getD j false = true := fun j hj => by
    obtain ⟨e, he, hb, rfl⟩ := deps_mem ho hj
    exact hall e he hb
  have hml : m ≤ l.length := by
    unfold monoB at hB
    simp only [Bool.and_eq_true, decide_eq_true_eq] at hB
    exact hB.1
  have hdrop : ∀ k, l[k]? = some o → l.drop k = o :: l.drop (k + 1) := fun k hk => by
    have hkl : k < l.length := by
      rcases Nat.lt_or_ge k l.length with h | h
      · exact h
      · rw [List.getElem?_eq_none h] at hk; cases hk
    rw [List.drop_eq_getElem_cons hkl]
    rw [List.getElem?_eq_getElem hkl] at hk
    cases hk; rfl
  rcases hI with ⟨vals, hE, htail, hdc, hV, ha⟩ | ⟨k, hmk, hkl, hiff, hw⟩
  · rcases Nat.lt_or_ge i m with him | him
    · have hcl := clo_listed hdc l.length i hdl
      have hjm : ∀ j, listed.getD j false = true → j < m := fun j hj => by
        rcases Nat.lt_or_ge j m with h | h
        · exact h
        · rw [htail j h] at hj; cases hj
      have hob := hop i o him ho vals w hE.1 (fun e => hE.2 (by rw [← e]; exact hunf)) (fun j hj => hV j (hjm j (hdl j (by simpa using hj))) (hdl j (by simpa using hj)))
      have hsame := uns_same (ops := l.toArray) (listed := listed) (vals := vals) (x := o) k2 (l.take m) 0 a (fun j oj hj hlj d hd => by
        rw [List.getElem?_take] at hj
        split at hj
        · rename_i hjm'
          exact k3 him j oj hjm' hj (fun hmem => by have := hdl j hmem; rw [Nat.zero_add] at hlj; rw [hlj] at this; cases this) d hd
        · cases hj)
      rw [ha, ← all_eq (l.take m) 0 a0 (Mono.distinct hB)] at hsame
      rw [hsame.2, hsame.1, ← ha] at hob
      have hnew : ∀ v w', Out q S i w w' → V i w' ((deps l i).map vals) v → Inv P l m Q a0 w0 V q S (listed.setIfInBounds i true) (a.put o.dst v) w' := by
        intro v w' hE' hVi
        refine ⟨by simpa using hsz, .inl ⟨upd vals i v, ⟨hST _ _ _ hE.1 hE'.1, fun hq => ?_⟩, fun j hj => ?_, fun i' hi' j hj => ?_, fun i' him' hi' => ?_, ?_⟩⟩
        · rw [set_getD hsi] at hq
          by_cases e : q = i
          · rw [if_pos e] at hq; cases hq
          · rw [if_neg e] at hq; exact (hE.2 hq).trans (hE'.2 (fun e' => e e'.symm))
        · rw [set_getD hsi, if_neg (by omega)]; exact htail j hj
        · rw [set_getD hsi] at hi' ⊢
          by_cases e : i' = i
          · subst e
            split
            · rfl
            · exact hdl j hj
          · rw [if_neg e] at hi'
            split
            · rfl
            · exact hdc i' hi' j hj
        · rw [set_getD hsi] at hi'
          by_cases e : i' = i
          · subst e
            have : (deps l i').map (upd vals i' v) = (deps l i').map vals := List.map_congr_left fun j hj => by
              have := k1 j hj
              simp [upd]; omega
            rw [this]
            simpa [upd] using hVi
          · rw [if_neg e] at hi'
            have : (deps l i').map (upd vals i v) = (deps l i').map vals := List.map_congr_left fun j hj => by
              have hjl := hdc i' hi' j hj
              have : j ≠ i := fun h => by subst h; rw [hunf] at hjl; cases hjl
              simp [upd, this]
            rw [this]
            have h2 : upd vals i v i' = vals i' := by simp [upd, e]
            rw [h2]
            by_cases e' : i = q
            · exact hsw _ _ _ _ _ (fun h => e (h.trans e'.symm)) (hV i' him' hi') hE'.1
            · exact hst _ _ _ _ _ (hV i' him' hi') (hE'.2 e')
        · rw [ha]
          exact (sel_set hsi hunf (l.take m) 0 a0 (Nat.zero_le _) (by rw [Nat.sub_zero, List.getElem?_take, if_pos him]; exact ho) (Mono.distinct hB)).symm
      unfold wpOp
      simp only [ho']
      by_cases hwant : Region.wanted o (yielded l.toArray a.tmps) = true
      · rw [if_pos hwant] at hob ⊢
        exact .inl (wp_of_yields hob (fun v w' h => hnew v w' h.1 h.2))
      · rw [if_neg hwant] at hob ⊢
        exact hnew undef w (Out.of hSE (Ext.refl _)) hob
    · have hmi : i = m := by
        rcases Nat.lt_or_ge m i with h | h
        · have := near_listed hdc hdl (k5 him m h)
          rw [htail m (Nat.le_refl _)] at this; cases this
        · omega
      subst hmi
      have hpre : ∀ j, j < i → listed.getD j false = true := fun j hj => near_listed hdc hdl (k5 him j hj)
      have hall' : a = all vals (l.take i) 0 a0 := by
        rw [ha]
        exact sel_all _ _ _ (fun j _ hj => hpre j (by simp at hj; omega))
      have hw := hend vals w hE.1 (fun j hj => hV j hj (hpre j hj))
      rw [← hall', hdrop i ho] at hw
      refine wpOp_mono (fun a' w' h => ?_) (wpOp_list ho hw)
      refine ⟨by simpa using hsz, .inr ⟨i + 1, by omega, by omega, fun j hj => ?_, h⟩⟩
      rw [set_getD hsi]
      by_cases e : j = i
      · subst e; simp
      · rw [if_neg e]
        constructor
        · intro h
          rcases Nat.lt_or_ge j i with h' | h'
          · omega
          · rw [htail j h'] at h; cases h
        · intro h; exact hpre j (by omega)
  · have hki : k = i := by
      rcases Nat.lt_or_ge i k with h | h
      · have := (hiff i hil).2 h
        rw [hunf] at this; cases this
      · rcases Nat.lt_or_ge k i with h' | h'
        · exact (near_tail hB (by omega) (by omega) hiff hdl (k5 (by omega) k h')).elim
        · omega
    subst hki
    rw [hdrop k ho] at hw
    refine wpOp_mono (fun a' w' h => ?_) (wpOp_list ho hw)
    refine ⟨by simpa using hsz, .inr ⟨k + 1, by omega, by omega, fun j hj => ?_, h⟩⟩
    rw [set_getD hsi]
    by_cases e : j = k
    · subst e; simp
    · rw [if_neg e, hiff j hj]; omega

/-- a region whose order is open: what each operation leaves is said once; one of them (q) may write, as S allows -/
theorem wp_region_write {id : Nat} (m q : Nat) (S : World → World → Prop) (V : Nat → World → List Value → Value → Prop) (hm : P.follows .mixedOrders = true) (hB : monoB l m = true)
    (hSE : ∀ w w', Ext w w' → S w w') (hST : ∀ a b c, S a b → S b c → S a c) (hst : ∀ i w w' d v, V i w d v → Ext w w' → V i w' d v) (hsw : ∀ i w w' d v, i ≠ q → V i w d v → S w w' → V i w' d v)
    (hop : ∀ i o, i < m → l[i]? = some o → ∀ (vals : Nat → Value) (w : World), S w0 w → (i = q → Ext w0 w) → (∀ j, (deps l i).contains j = true → V j w ((deps l j).map vals) (vals j)) →
      if Region.wanted o (yielded l.toArray (all vals (l.take m) 0 a0).tmps) = true
      then Mono.Yields P (fun v w' => Out q S i w w' ∧ V i w' ((deps l i).map vals) v) ((execOp (all vals (l.take m) 0 a0).eval o).run P w)
      else V i w ((deps l i).map vals) undef)
    (hend : ∀ (vals : Nat → Value) (w : World), S w0 w → (∀ j, j < m → V j w ((deps l j).map vals) (vals j)) → wpList P l.toArray Q (l.drop m) (all vals (l.take m) 0 a0) w) :
    (Code.region id l.toArray true).wp P Q a0 w0 := by
  have hml : m ≤ l.length := by
    unfold monoB at hB
    simp only [Bool.and_eq_true, decide_eq_true_eq] at hB
    exact hB.1
  refine wp_region_any hm (any_of_inv (Inv P l m Q a0 w0 V q S) (fun _ _ _ h => h.1) (step hB hSE hST hst hsw hop hend) (fun listed a w hI hr => ?_) _ _ _ _ ?_ ?_)
  · obtain ⟨hsz, hI⟩ := hI
    have hal := all_listed hB hsz hr
    rcases hI with ⟨vals, hE, htail, hdc, hV, ha⟩ | ⟨k, hmk, hkl, hiff, hw⟩
    · have hm' : m = l.length := by
        rcases Nat.lt_or_ge m l.length with h | h
        · have := hal m h
          rw [htail m (Nat.le_refl _)] at this; cases this
        · omega
      have hw := hend vals w hE.1 (fun j hj => hV j hj (hal j (by omega)))
      rw [ha, sel_all _ _ _ (fun j _ hj => hal j (by simp at hj; omega))]
      rw [hm', List.drop_length] at hw
      rw [hm']
      exact hw
    · have hk : k = l.length := by
        rcases Nat.lt_or_ge k l.length with h | h
        · have := (hiff k h).1 (hal k h)
          omega
        · omega
      subst hk
      rw [List.drop_length] at hw
      exact hw
  · unfold count
    exact Nat.le_trans (List.length_filter_le (fun b => !b) (Array.replicate l.toArray.size false).toList) (by simp)
  · refine ⟨by simp, .inl ⟨fun _ => undef, ⟨hSE _ _ (Ext.refl w0).drew, fun _ => (Ext.refl w0).drew⟩, fun j _ => ?_, fun i hi => ?_, fun i _ hi => ?_, ?_⟩⟩
    · by_cases h : j < l.length <;> simp [h]
    · exfalso
      by_cases h : i < l.length <;> simp [h] at hi
    · exfalso
      by_cases h : i < l.length <;> simp [h] at hi
    · have : ∀ (r : List Oper) (k : Nat) (a : Act), sel (Array.replicate l.toArray.size false) (fun _ => undef) r k a = a := by
        intro r
        induction r with
        | nil => intro k a; rfl
        | cons o r ih =>
          intro k a
          simp only [sel]
          rw [if_neg (by by_cases h : k < l.length <;> simp [h])]
          exact ih _ _
      exact (this _ _ _).symm
end
end Go.Proofs.YtkpbanfpnilifaaGreat.MonoW

/- Lists of the call's own behind a store into one block: in a region in which one append may write in place. -/
namespace Go.Proofs.YtkpbanfpnilifaaGreat
open Go.RowKit
/-- a block that may be written: a list's own -/
abbrev Wr (row : Option Nat) (w W : World) : Prop := Grew (fun b => row = some b) w W
theorem Wr.of (row : Option Nat) : ∀ w W, Ext w W → Wr row w W := fun _ _ h => Grew.of h
theorem Wr.tr (row : Option Nat) : ∀ a b c, Wr row a b → Wr row b c → Wr row a c := fun _ _ _ h k => h.trans k
theorem Wr.grown {row : Option Nat} {w W : World} (h : w.grownBy W row) : Wr row w W := ⟨h.os, h.tape, h.output, h.size, fun b hb hne => h.block b hb (fun e => hne e.symm)⟩
/-- .. none of an elder world -/
theorem Wr.toExt {row : Option Nat} {w0 w W : World} (h : Wr row w W) (h0 : Ext w0 w) (hr : ∀ b, row = some b → w0.heap.size ≤ b) : Ext w0 W := Grew.toExt h h0 hr
theorem block_wr {S : Nat → Prop} {w w' : World} {x : Nat} {o : Obj} (h : w.heap[x]? = some o) (hG : Grew S w w') (hS : ¬ S x) : w'.heap[x]? = some o := by
  have hlt : x < w.heap.size := by
    rcases Nat.lt_or_ge x w.heap.size with h' | h'
    · exact h'
    · rw [Array.getElem?_eq_none h'] at h; cases h
  exact (hG.block x hlt hS).trans h
theorem set_block {w : World} {b i : Nat} {cs : Array Value} {T : TypeId} {fr : Nat × Nat} (hb : w.heap[b]? = some (.cells cs T fr)) (v : Value) : (w.setCell ⟨b, i, none⟩ v).heap[b]? = some (.cells (cs.setIfInBounds i v) T fr) := by
  unfold World.setCell
  simp [Array.getElem?_modify, hb]
section
variable {α : Type} {K : Kd α}
theorem Ow.wr {S : Nat → Prop} {B : Nat} {w W : World} {v : Value} {xs : List α} (h : Ow K B w v xs) (hG : Grew S w W) (hS : ∀ k, v.ownBlock = some k → ¬ S k) : Ow K B W v xs := by
  obtain ⟨⟨h1, h2⟩, hb⟩ := h
  refine ⟨⟨h1, ?_⟩, hb⟩
  rcases h2 with h2 | ⟨g, cap, cur, hv, hg, hh, hr⟩
  · exact .inl h2
  · exact .inr ⟨g, cap, cur, hv, hg, block_wr hh hG (hS g (by rw [hv]; rfl)), hr⟩
/-- newer lists stay -/
theorem Ow.sw {row : Option Nat} {B : Nat} {w W : World} {v : Value} {xs : List α} (h : Ow K B w v xs) (hG : Wr row w W) (hr : ∀ b, row = some b → b < B) : Ow K B W v xs :=
  h.wr hG fun k hk e => by have := (h.lt k hk).1; have := hr k e; omega
theorem OwAt.sw {row : Option Nat} {B : Nat} {w W : World} {v : Value} {xs : List α} (h : OwAt K B w v xs) (hG : Wr row w W) (hr : ∀ b, row = some b → b < B) : OwAt K B W v xs := by
  obtain ⟨A, c, rfl, h⟩ := h
  exact ⟨A, c, rfl, h.sw hG hr⟩
theorem NewAt.sw {row : Option Nat} {B : Nat} {w W : World} {v : Value} (h : NewAt K B w v) (hG : Wr row w W) (hr : ∀ b, row = some b → b < B) : NewAt K B W v := by
  obtain ⟨x, rfl, hB, hx⟩ := h
  exact ⟨x, rfl, hB, block_wr hx hG (fun e => by have := hr x e; omega)⟩
/-- one element, as a list of its own: 'append(l, x)' lays it so -/
def OneAt (K : Kd α) (B : Nat) (w : World) (v : Value) (x : α) : Prop := ∃ p, v = .slice (some ⟨p, 0, none⟩) 1 1 ∧ Ow K B w (.slice (some ⟨p, 0, none⟩) 1 1) [x]
theorem OneAt.ext {B : Nat} {w W : World} {v : Value} {x : α} (h : OneAt K B w v x) (hE : Ext w W) : OneAt K B W v x := by
  obtain ⟨p, rfl, h⟩ := h
  exact ⟨p, rfl, h.ext hE⟩
theorem OneAt.sw {row : Option Nat} {B : Nat} {w W : World} {v : Value} {x : α} (h : OneAt K B w v x) (hG : Wr row w W) (hr : ∀ b, row = some b → b < B) : OneAt K B W v x := by
  obtain ⟨p, rfl, h⟩ := h
  exact ⟨p, rfl, h.sw hG hr⟩
theorem OneAt.made (K : Kd α) (w : World) {B : Nat} (hB : B ≤ w.heap.size) (cs : Array Value) (x : α) (hcs : cs.toList = K.cells x) (hok : K.ok x) : OneAt K B (w.alloc (.cells cs K.e)) (.slice (some ⟨w.heap.size, 0, none⟩) 1 1) x :=
  ⟨_, rfl, Ow.lit w [x] cs (by rw [hcs, Kd.flat_one]) rfl rfl hB (by unfold maxLen; omega) (by simpa using hok)⟩
/-- what an append leaves: the list with what was added; it is in the block where it was, or in a new one -/
def AppAt (K : Kd α) (B : Nat) (w : World) (v' : Value) (xs : List α) (v : Value) (n : Nat) : Prop := Ow K B w v' xs ∧ (v'.ownBlock = v.ownBlock ∨ ∃ p, v'.ownBlock = some p ∧ n ≤ p)
theorem AppAt.ext {B : Nat} {w W : World} {v' v : Value} {xs : List α} {n : Nat} (h : AppAt K B w v' xs v n) (hE : Ext w W) : AppAt K B W v' xs v n := ⟨h.1.ext hE, h.2⟩
/-- the append itself: 'v' lies where it lay in the elder world -/
theorem Kd.yields_grow (K : Kd α) {o : Oper} {a : Act} {w : World} {B n : Nat} {q : Nat} {R : Value → World → Prop} (s x : Operand) {v y : Value} {xs ys : List α} (hown : Ow K B w v xs) (hy : Rd K w y ys) (hl : xs.length + ys.length ≤ 1048576) (hB : B ≤ w.heap.size) (hn : n ≤ w.heap.size)
    (ho : o.op = .call { callee := .builtin .append, args := #[s, x], argTypes := #[K.t, K.t] }) (hty : o.type = K.t) (hs : a.eval s = v) (hx : a.eval x = y)
    (hR : ∀ v' w', AppAt K B w' v' (xs ++ ys) v n → MonoW.Out q (Wr v.ownBlock) q w w' → R v' w') : Mono.Yields Tryz.prog R ((execOp a.eval o).run Tryz.prog w) := by
  obtain ⟨v', w', hr, h1, h2, h3⟩ := K.run_app w B v xs hown y ys hy hl hB
  exact K.yields_app s x ho hty hs hx hr (hR v' w' ⟨h1, h3.imp_right fun h => ⟨_, h, hn⟩⟩ (MonoW.Out.write (Wr.grown h2)))
end
end Go.Proofs.YtkpbanfpnilifaaGreat
