/- The document's Part of work, where it parts. -/
import Derived.Test.YtfigfndabokepaaTPart
namespace Go.Proofs.Ytfigfndabokepaa
open Go.BigFrame
open Go.RowKit Go.Proofs.Ytfigfndabokepaa.Plain

/-- the walk stops here -/
def Stop (p : Prop) : Prop := p
theorem Stop.to {p : Prop} (h : Stop p) : p := h
theorem Stop.of {p : Prop} (h : p) : Stop p := h
theorem grown_far {w w' : World} {row : Option Nat} {b : Nat} (hg : w.grownBy w' row) (hb : b < w.heap.size) (hne : some b ≠ row) :
    (∀ o, w'.cell? ⟨b, o, none⟩ = w.cell? ⟨b, o, none⟩) ∧ (∀ o, w'.frozen? ⟨b, o, none⟩ = w.frozen? ⟨b, o, none⟩) :=
  ⟨fun o => World.cell?_of_block (a := ⟨b, o, none⟩) (hg.block b hb hne), fun o => World.frozen?_of_block (a := ⟨b, o, none⟩) (hg.block b hb hne)⟩
theorem PAt.two {w : World} {A B : Option Addr} {c d n m : Nat} {g : Int} {w' : World} (h : PAt w A B c d n m g w') : w.heap.size + 2 ≤ w'.heap.size := by
  have := Ext.size h
  simpa using this
theorem right_n {ts : List Tk} {g : Int} {n : Nat} (h : wRight ts g n = true) : 1 ≤ n ∧ n ≤ 1000 ∧ 1 ≤ ts.length ∧ ts.length ≤ 2000 ∧ 1 ≤ g ∧ g ≤ 100 := by
  unfold wRight at h
  rw [Bool.and_eq_true, wSized_iff] at h
  omega
theorem right_ok {ts : List Tk} {g : Int} {n : Nat} (h : wRight ts g n = true) (j : Nat) (hj : j < ts.length) : tkOk n j (ts.getD j tk0) = true := by
  unfold wRight at h
  rw [Bool.and_eq_true] at h
  exact wOkTo_at ts n ts.length h.2 j hj
/-- the tasks, the j-th of them parted -/
def partedTs (ts : List Tk) (j : Nat) : List Tk :=
  ts.set j ⟨(ts.getD j tk0).lo, (ts.getD j tk0).hi, (ts.getD j tk0).up, 2⟩ ++
    [⟨(ts.getD j tk0).lo, (ts.getD j tk0).lo + ((ts.getD j tk0).hi - (ts.getD j tk0).lo) / 2, j, 0⟩, ⟨(ts.getD j tk0).lo + ((ts.getD j tk0).hi - (ts.getD j tk0).lo) / 2, (ts.getD j tk0).hi, j, 0⟩]
/-- what Part gives -/
def PartSaid (w : World) (ts : List Tk) (g : Int) (dn : List Bool) (j : Nat) (e : Ending) (w' : World) : Prop :=
  ∃ A c B d, e = .returned (.tuple #[.agg #[.slice A (partedTs ts j).length c, .int .i64 g, .slice B dn.length d], .int .i64 ts.length, .int .i64 (ts.length + 1), .int .i64 0]) ∧
    Rd kTask w' (.slice A (partedTs ts j).length c) (partedTs ts j) ∧ Rd kBool w' (.slice B dn.length d) dn ∧ From w.heap.size A ∧ From w.heap.size B ∧ Ext w w'

set_option maxHeartbeats 1600000 in
set_option maxRecDepth 100000 in
theorem rpart_ok (A B : Option Addr) (c d : Nat) (ts : List Tk) (dn : List Bool) (g : Int) (j : Nat) (w : World) (h : Rd kTask w (.slice A ts.length c) ts) (hd : Rd kBool w (.slice B dn.length d) dn) (hg : in64 g) (hr : wRight ts g dn.length = true) (hj : j < ts.length) (ht : wGreat ts g dn.length j = true) (h3 : (ts.getD j tk0).wt = 0) (hf : ts.length ≤ 1998) :
    Calls Try.prog 9 #[.agg #[.slice A ts.length c, .int .i64 g, .slice B dn.length d], .int .i64 j] w (PartSaid w ts g dn j) := by
  have H := Lib.hid h
  have HD := Lib.hid hd
  have hn := hd.len
  have hnb := right_n hr
  have hm := h.len
  have HG := Lib.hid hg
  have HI : Hid (in64 (j : Int)) := Lib.hid (by unfold in64; omega)
  have HYR := Lib.hid hr
  have HYS : Hid (wHas ts.length (j : Int) = true) := Lib.hid (by unfold wHas; simp; omega)
  have HYT := Lib.hid ht
  obtain ⟨b, off, rfl, hcc⟩ := Rd.tasks H.out (by omega)
  obtain ⟨y0, y1, y2, y3⟩ := hcc j hj
  have e0 : ts.getD j ⟨0, 0, 0, 0⟩ = ts.getD j tk0 := rfl
  rw [e0] at y0 y1 y2 y3
  obtain ⟨o1, o2, o3, o4, o5, _⟩ := tkOk_iff dn.length j (ts.getD j tk0) |>.1 (right_ok hr j hj)
  obtain ⟨⟨lo, hi', up, wt⟩, htk⟩ : ∃ x, ts.getD j tk0 = x := ⟨_, rfl⟩
  have HTK := Lib.hid htk
  rw [htk] at y0 y1 y2 y3 h3 o1 o2 o3 o4 o5
  simp only at y0 y1 y2 y3 h3 o1 o2 o3 o4 o5
  have Y0 := Lib.hid y0
  have Y1 := Lib.hid y1
  have Y2 := Lib.hid y2
  have Y3 := Lib.hid y3
  have hj' : (j : Int) < ts.length := by omega
  have hj0 : (0 : Int) ≤ j := by omega
  have hf2 : ¬ (1998 : Int) < ts.length := by omega
  subst h3
  clear h hd hg hr ht hcc e0 htk y0 y1 y2 y3
  go_enter Try.func9, Try.ntmps9
  go_wp2_with fail
  have hP : PAt w (some ⟨b, off, none⟩) B c d dn.length ts.length g ((w.alloc (.cells #[.slice (some ⟨b, off, none⟩) ts.length c, .int .i64 g, .slice B dn.length d] 25)).alloc (.cells #[.slice none 0 0, .int .i64 0, .slice none 0 0] 25)) := Ext.refl _
  refine (rright_any _ _ _ _ _ _ _ _ (H.out.ext hP.ext) hn HG.out).mono ?_
  rintro e w1 ⟨he, hE⟩
  rw [HYR.out] at he
  subst he
  replace hP := hP.go hE
  obtain ⟨q0, q1, q2⟩ := hP.cells
  have HP := Lib.hid hP
  clear hE hP
  go_wp2_with fail
  have hP := HP.out
  clear HP q0 q1 q2
  refine (rhas_any _ _ _ _ _ _ _ _ _ hm).mono ?_
  rintro e w1 ⟨he, hE⟩
  rw [HYS.out] at he
  subst he
  replace hP := hP.go hE
  obtain ⟨q0, q1, q2⟩ := hP.cells
  have HP := Lib.hid hP
  clear hE hP
  go_wp2_with fail
  have hP := HP.out
  clear HP q0 q1 q2
  refine (rgreat_any _ _ _ _ _ _ _ _ _ (H.out.ext hP.ext) hn HG.out HI.out).mono ?_
  rintro e w1 ⟨he, hE⟩
  rw [HYT.out] at he
  subst he
  replace hP := hP.go hE
  obtain ⟨q0, q1, q2⟩ := hP.cells
  have HP := Lib.hid hP
  clear hE hP
  obtain ⟨s0, s1, s2, s3⟩ := HP.out.out
  have q3 := HP.out.ext.cell Y3.out
  have q4 := HP.out.ext.cell Y0.out
  have q5 := HP.out.ext.cell Y1.out
  go_wp2_with fail
  have hP1 := HP.out
  have HW1 := Lib.hid hP1.ext.size
  have hW1 := Lib.hid hP1.two
  clear s0 s1 s2 s3 q0 q1 q2 q3 q4 q5 HP
  refine (rcopy_any _ _ _ _ _ _ _ _ (H.out.ext hP1.ext) (HD.out.ext hP1.ext) (by omega) (by omega)).mono ?_
  rintro e w2 ⟨A3, c3, B3, d3, rfl, hO, hOD, hE⟩
  have hP := hP1.go hE
  obtain ⟨q0, q1, q2⟩ := hP.cells
  obtain ⟨s0, s1, s2, s3⟩ := hP.out
  have q3 := hP.ext.cell Y3.out
  have q4 := hP.ext.cell Y0.out
  have q5 := hP.ext.cell Y1.out
  have q6 := hP.ext.cell Y2.out
  have HP := Lib.hid hP
  have HO := Lib.hid hO
  have HOD := Lib.hid hOD
  obtain ⟨ga, rfl, ga1, ga2, ga3, ga4⟩ := Ow.pos hO (by omega)
  have gf : w2.frozen? ⟨ga, j * 4 + 3, none⟩ = false := ga4 (j * 4 + 3)
  have z2 := hE.size
  have gne0 : ga ≠ w.heap.size := by have := HW1.out; have := hP1.two; omega
  have gne1 : ga ≠ w.heap.size + 1 := by have := HW1.out; have := hP1.two; omega
  have v3 : w2.cell? ⟨ga, j * 4 + 3, none⟩ = some (.int .i64 0) := ga3 j hj 3 (.int .i64 0) (by have e : ts.getD j kTask.d = ts.getD j tk0 := rfl; rw [e, HTK.out]; rfl)
  clear hP hP1 hE hO hOD ga3 ga4
  have hW2 := HP.out.two
  have lb : b < w2.heap.size := World.block_lt_of_cell? _ _ q4
  have l0 : w.heap.size < w2.heap.size := by omega
  have l1 : w.heap.size + 1 < w2.heap.size := by omega
  have l2 : w.heap.size < w2.heap.size + 1 := by omega
  have l3 : w.heap.size + 1 < w2.heap.size + 1 := by omega
  have l4 : ga < w2.heap.size + 1 := by omega
  have l5 : b < w2.heap.size + 1 := by omega
  have l6 : w.heap.size < w2.heap.size + 1 + 1 := by omega
  have l7 : w.heap.size + 1 < w2.heap.size + 1 + 1 := by omega
  have l8 : ga < w2.heap.size + 1 + 1 := by omega
  have l9 : b < w2.heap.size + 1 + 1 := by omega
  have hos : Ow kTask _ (w2.setCell ⟨ga, j * 4 + 3, none⟩ (.int .i64 2)) (.slice (some ⟨ga, 0, none⟩) ts.length c3) (ts.set j ⟨lo, hi', up, 2⟩) := HO.out.set (j := j) (i := 3) hj (by decide) (by have e : ts.getD j kTask.d = ts.getD j tk0 := rfl; rw [e, HTK.out]; rfl) (tk_ok (by unfold in64; omega) (by unfold in64; omega) (by unfold in64; omega) (by unfold in64; omega))
  have HOS := Lib.hid hos
  have HWB := Lib.hid z2
  clear hos
  obtain ⟨M, hM⟩ : ∃ M, lo + (hi' - lo) / 2 = M := ⟨_, rfl⟩
  have M1 : lo ≤ M := by omega
  have M2 : M ≤ hi' := by omega
  have hlen : (ts.set j (⟨lo, hi', up, 2⟩ : Tk) ++ ([⟨lo, M, (j : Int), 0⟩, ⟨M, hi', (j : Int), 0⟩] : List Tk)).length = ts.length + 2 := by simp
  go_wp2_with (first | (at_builtin; refine Stop.to ?_) | fail)
  refine Stop.of ?_
  refine Kd.wpList_app kTask (by rfl) (.tmp 69) (.tmp 80) (by rfl) (by rfl) _ _ (ts.set j ⟨lo, hi', up, 2⟩) (by rfl) (HOS.out.ext ((((Ext.refl _).alloc _).alloc _).alloc _)) _ [⟨lo, M, j, 0⟩, ⟨M, hi', j, 0⟩] (by rfl) ?rd (by simp; omega) (by simp; omega) ?_
  case rd => exact ((Ow.lit (K := kTask) (B := 0) (p := w2.heap.size + 1 + 1) (n := 2) _ [⟨lo, M, j, 0⟩, ⟨M, hi', j, 0⟩] _ rfl rfl (by simp) (Nat.zero_le _) (by simp [maxLen]) (by intro x hx; simp only [List.mem_cons, List.not_mem_nil, or_false] at hx; rcases hx with rfl | rfl <;> exact tk_ok (by unfold in64; omega) (by unfold in64; omega) (by unfold in64; omega) (by unfold in64; omega))).rd)
  intro v' w4 hown' hgrow' hat'
  have hv' := hown'.slice
  rw [hlen] at hv'
  obtain ⟨A4, c4, rfl, _⟩ := hv'
  have hg : World.grownBy _ w4 (some ga) := hgrow'
  have p0 : w4.cell? ⟨w2.heap.size, 0, none⟩ = some (.slice (some ⟨ga, 0, none⟩) ts.length c3) := ((grown_far hg (b := w2.heap.size) (by simp; omega) (by simp; omega)).1 0).trans (by go_simp)
  have p1 : w4.cell? ⟨w2.heap.size, 1, none⟩ = some (.int .i64 g) := ((grown_far hg (b := w2.heap.size) (by simp; omega) (by simp; omega)).1 1).trans (by go_simp)
  have p2 : w4.cell? ⟨w2.heap.size, 2, none⟩ = some (.slice B3 dn.length d3) := ((grown_far hg (b := w2.heap.size) (by simp; omega) (by simp; omega)).1 2).trans (by go_simp)
  have p3 : ∀ o, w4.frozen? ⟨w2.heap.size, o, none⟩ = false := fun o => ((grown_far hg (b := w2.heap.size) (by simp; omega) (by simp; omega)).2 o).trans (by go_simp)
  have t0 : w4.cell? ⟨w.heap.size + 1, 0, none⟩ = some (.slice none 0 0) := ((grown_far hg (b := w.heap.size + 1) (by simp; omega) (by simp; omega)).1 0).trans (by go_simp)
  have t1 : w4.cell? ⟨w.heap.size + 1, 1, none⟩ = some (.int .i64 0) := ((grown_far hg (b := w.heap.size + 1) (by simp; omega) (by simp; omega)).1 1).trans (by go_simp)
  have t2 : w4.cell? ⟨w.heap.size + 1, 2, none⟩ = some (.slice none 0 0) := ((grown_far hg (b := w.heap.size + 1) (by simp; omega) (by simp; omega)).1 2).trans (by go_simp)
  have t3 : ∀ o, w4.frozen? ⟨w.heap.size + 1, o, none⟩ = false := fun o => ((grown_far hg (b := w.heap.size + 1) (by simp; omega) (by simp; omega)).2 o).trans (by have := s3 o; go_simp)
  have hat2 : ∀ k, (Value.slice A4 (ts.length + 2) c4).ownBlock = some k → k = ga ∨ k = w2.heap.size + 3 := by
    intro k hk
    rcases hat' with e | e
    · rw [hk] at e; left; simpa [Value.ownBlock] using e
    · rw [hk] at e; right; simpa using e
  have HAT := Lib.hid hat2
  have HOW := Lib.hid hown'
  have HGR := Lib.hid hg
  clear hown' hgrow' hat' hat2 hg
  clear hlen
  go_wp2_with fail
  have hPT : partedTs ts j = ts.set j ⟨lo, hi', up, 2⟩ ++ [⟨lo, M, j, 0⟩, ⟨M, hi', j, 0⟩] := by unfold partedTs; rw [HTK.out]; simp only; rw [hM]
  have hL : (partedTs ts j).length = ts.length + 2 := by rw [hPT]; simp
  have W1 := HW1.out
  have WB := HWB.out
  have hW1 := hW1.out
  have nb : ∀ k, (Value.slice A4 (ts.length + 2) c4).ownBlock = some k → k = ga ∨ k = w2.heap.size + 3 := HAT.out
  have hX2 : Ext w w4 := (((((HP.out.ext.setCell (by show _ ≤ ga; omega) _).alloc _).alloc _).alloc _)).grown HGR.out (by intro k hk; cases hk; omega)
  have hB3 : (Value.slice B3 dn.length d3).ownBlock ≠ some ga := Ow.far (by decide) HO.out HOD.out ga rfl
  have hB4 : (Value.slice B3 dn.length d3).ownBlock ≠ some w2.heap.size := fun h => by have := (HOD.out.lt _ h).2; omega
  have hOD4 := ((HOD.out.setOther (p := ⟨ga, j * 4 + 3, none⟩) hB3 (.int .i64 2)).ext ((((Ext.refl _).alloc _).alloc _).alloc _)).kept HGR.out (.inr hB3)
  refine bodyPost_ret (v := .tuple #[.agg #[.slice A4 (ts.length + 2) c4, .int .i64 g, .slice B3 dn.length d3], .int .i64 ts.length, .int .i64 (ts.length + 1), .int .i64 0]) (by simp [results, Try.results9, go_sem]; go_simp) rfl ⟨A4, c4, B3, d3, by rw [hL], ?_, ?_, ?_, ?_, ?_⟩
  · rw [hL, hPT]
    exact ((((HOW.out.setOther (p := ⟨w2.heap.size, 0, none⟩) (fun h => by have := nb _ h; simp at this; omega) _).setBelow (p := ⟨w.heap.size + 1, 0, none⟩) (by show w.heap.size + 1 < _; omega) _).setBelow (p := ⟨w.heap.size + 1, 1, none⟩) (by show w.heap.size + 1 < _; omega) _).setBelow (p := ⟨w.heap.size + 1, 2, none⟩) (by show w.heap.size + 1 < _; omega) _).rd
  · exact ((((hOD4.setOther (p := ⟨w2.heap.size, 0, none⟩) hB4 _).setBelow (p := ⟨w.heap.size + 1, 0, none⟩) (by show w.heap.size + 1 < _; omega) _).setBelow (p := ⟨w.heap.size + 1, 1, none⟩) (by show w.heap.size + 1 < _; omega) _).setBelow (p := ⟨w.heap.size + 1, 2, none⟩) (by show w.heap.size + 1 < _; omega) _).rd
  · exact (HOW.out.from).mono (by omega)
  · exact (HOD.out.from).mono (by omega)
  · exact (((hX2.setCell (p := ⟨w2.heap.size, 0, none⟩) (by show _ ≤ w2.heap.size; omega) _).setCell (p := ⟨w.heap.size + 1, 0, none⟩) (by show _ ≤ w.heap.size + 1; omega) _).setCell (p := ⟨w.heap.size + 1, 1, none⟩) (by show _ ≤ w.heap.size + 1; omega) _).setCell (p := ⟨w.heap.size + 1, 2, none⟩) (by show _ ≤ w.heap.size + 1; omega) _

/-- Part's word: 0, or why not -/
def partErr (ts : List Tk) (g : Int) (n : Nat) (i : Int) : Int :=
  if wRight ts g n = false then 1 else if wHas ts.length i = false then 6 else if wGreat ts g n i = false then 5 else if (tkAt ts i).wt ≠ 0 then 5 else if 1998 < ts.length then 2 else 0

theorem rpart_any (A B : Option Addr) (c d : Nat) (ts : List Tk) (dn : List Bool) (g i : Int) (w : World) (h : Rd kTask w (.slice A ts.length c) ts) (hd : Rd kBool w (.slice B dn.length d) dn) (hg : in64 g) (hi : in64 i) :
    Calls Try.prog 9 #[.agg #[.slice A ts.length c, .int .i64 g, .slice B dn.length d], .int .i64 i] w fun e w' =>
      (partErr ts g dn.length i ≠ 0 ∧ PNo w A B c d dn.length ts.length g (partErr ts g dn.length i) e w') ∨ (partErr ts g dn.length i = 0 ∧ PartSaid w ts g dn i.toNat e w') := by
  have hn := hd.len
  cases hr : wRight ts g dn.length with
  | false =>
    have he : partErr ts g dn.length i = 1 := by unfold partErr; rw [if_pos hr]
    rw [he]
    exact (rpart_no A B c d dn.length ts g i w h hn hg hi hr).mono fun e w' hh => .inl ⟨by decide, hh⟩
  | true =>
    cases hs : wHas ts.length i with
    | false =>
      have he : partErr ts g dn.length i = 6 := by unfold partErr; rw [if_neg (by rw [hr]; decide), if_pos hs]
      rw [he]
      exact (rpart_none A B c d dn.length ts g i w h hn hg hi hr hs).mono fun e w' hh => .inl ⟨by decide, hh⟩
    | true =>
      cases ht : wGreat ts g dn.length i with
      | false =>
        have he : partErr ts g dn.length i = 5 := by unfold partErr; rw [if_neg (by rw [hr]; decide), if_neg (by rw [hs]; decide), if_pos ht]
        rw [he]
        exact (rpart_small A B c d dn.length ts g i w h hn hg hi hr hs ht).mono fun e w' hh => .inl ⟨by decide, hh⟩
      | true =>
        have hsi : 0 ≤ i ∧ i < (ts.length : Int) := by unfold wHas at hs; simpa using hs
        obtain ⟨j, rfl⟩ : ∃ j : Nat, i = j := ⟨i.toNat, by omega⟩
        have hj : j < ts.length := by omega
        have e0 : tkAt ts (j : Int) = ts.getD j tk0 := by unfold tkAt; rw [Int.toNat_natCast]
        by_cases hw : (ts.getD j tk0).wt = 0
        · by_cases hf : 1998 < ts.length
          · have he : partErr ts g dn.length (j : Int) = 2 := by unfold partErr; rw [if_neg (by rw [hr]; decide), if_neg (by rw [hs]; decide), if_neg (by rw [ht]; decide), e0, if_neg (by simpa using hw), if_pos hf]
            rw [he]
            exact (rpart_full A B c d dn.length ts g j w h hn hg hr hj ht hw hf).mono fun e w' hh => .inl ⟨by decide, hh⟩
          · have he : partErr ts g dn.length (j : Int) = 0 := by unfold partErr; rw [if_neg (by rw [hr]; decide), if_neg (by rw [hs]; decide), if_neg (by rw [ht]; decide), e0, if_neg (by simpa using hw), if_neg hf]
            rw [he]
            exact (rpart_ok A B c d ts dn g j w h hd hg hr hj ht hw (by omega)).mono fun e w' hh => .inr ⟨rfl, by rw [Int.toNat_natCast]; exact hh⟩
        · have he : partErr ts g dn.length (j : Int) = 5 := by unfold partErr; rw [if_neg (by rw [hr]; decide), if_neg (by rw [hs]; decide), if_neg (by rw [ht]; decide), e0, if_pos hw]
          rw [he]
          exact (rpart_wait A B c d dn.length ts g j w h hn hg hr hj ht hw).mono fun e w' hh => .inl ⟨by decide, hh⟩
end Go.Proofs.Ytfigfndabokepaa
