/- The document's Do of work, where it does. Written by wip/mk_tdo2.py. -/
import Derived.Test.YtfigfndabokepaaTDo
import Derived.Test.YtfigfndabokepaaTDPlain
namespace Go.Proofs.Ytfigfndabokepaa
open Go.BigFrame
open Go.RowKit Go.Proofs.Ytfigfndabokepaa.Plain

/-- the world while Do marks and climbs: its own tasks and units, all else as it was -/
structure DAt (w W : World) (B ga gb c3 d3 : Nat) (wr : World) (us : List Tk) (ds : List Bool) : Prop where
  far : ∀ b o, b < W.heap.size → b ≠ ga → b ≠ gb → wr.cell? ⟨b, o, none⟩ = W.cell? ⟨b, o, none⟩
  fro : ∀ b o, b < W.heap.size → b ≠ ga → b ≠ gb → wr.frozen? ⟨b, o, none⟩ = W.frozen? ⟨b, o, none⟩
  own : Ow kTask B wr (.slice (some ⟨ga, 0, none⟩) us.length c3) us
  dns : Ow kBool B wr (.slice (some ⟨gb, 0, none⟩) ds.length d3) ds
  ext : Ext w wr
theorem DAt.cell {w W : World} {B ga gb c3 d3 : Nat} {wr : World} {us : List Tk} {ds : List Bool} (h : DAt w W B ga gb c3 d3 wr us ds) {b o : Nat} {v : Value} (hc : W.cell? ⟨b, o, none⟩ = some v) (h1 : b ≠ ga) (h2 : b ≠ gb) : wr.cell? ⟨b, o, none⟩ = some v :=
  (h.far b o (World.block_lt_of_cell? _ _ hc) h1 h2).trans hc
theorem DAt.unit {w W : World} {B ga gb c3 d3 : Nat} {wr : World} {us : List Tk} {ds : List Bool} (h : DAt w W B ga gb c3 d3 wr us ds) {k : Nat} (hk : k < ds.length) : wr.cell? ⟨gb, k, none⟩ = some (.bool (ds.getD k false)) ∧ wr.frozen? ⟨gb, k, none⟩ = false := by
  obtain ⟨g', e, _, _, h3, h4⟩ := Ow.pos h.dns (by omega)
  cases e
  have := h3 k hk 0 (.bool (ds.getD k false)) rfl
  exact ⟨by simpa [kBool] using this, h4 k⟩
theorem DAt.mark {w W : World} {B ga gb c3 d3 : Nat} {wr : World} {us : List Tk} {ds : List Bool} (h : DAt w W B ga gb c3 d3 wr us ds) {k : Nat} (hk : k < ds.length) (hw : w.heap.size ≤ gb) (hne : ga ≠ gb) : DAt w W B ga gb c3 d3 (wr.setCell ⟨gb, k, none⟩ (.bool true)) us (ds.set k true) where
  far b o hb h1 h2 := by rw [← h.far b o hb h1 h2]; exact World.cell?_setCell_far _ _ _ _ (fun e => h2 e.symm)
  fro b o hb h1 h2 := by rw [← h.fro b o hb h1 h2]; first | rfl | (go_simp; done) | (simp [World.frozen?, World.setCell]; done)
  own := h.own.setOther (p := ⟨gb, k, none⟩) (by simp [Value.ownBlock, hne]) _
  dns := by
    rw [List.length_set]
    have := h.dns.set (j := k) (i := 0) (x := true) (u := .bool true) hk (by decide) rfl trivial
    simpa [kBool] using this
  ext := h.ext.setCell (p := ⟨gb, k, none⟩) hw _

theorem DAt.task {w W : World} {B ga gb c3 d3 : Nat} {wr : World} {us : List Tk} {ds : List Bool} (h : DAt w W B ga gb c3 d3 wr us ds) {k : Nat} (hk : k < us.length) {lo hi up wt : Int} (ht : us.getD k tk0 = ⟨lo, hi, up, wt⟩) :
    wr.cell? ⟨ga, k * 4 + 2, none⟩ = some (.int .i64 up) ∧ wr.cell? ⟨ga, k * 4 + 3, none⟩ = some (.int .i64 wt) ∧ (∀ o, wr.frozen? ⟨ga, o, none⟩ = false) ∧ in64 up ∧ in64 wt := by
  obtain ⟨g', e, _, _, h3, h4⟩ := Ow.pos h.own (by omega)
  cases e
  have e0 : us.getD k kTask.d = ⟨lo, hi, up, wt⟩ := ht
  have := h.own.rd.okAt k hk
  rw [e0] at this
  exact ⟨h3 k hk 2 (.int .i64 up) (by rw [e0]; rfl), h3 k hk 3 (.int .i64 wt) (by rw [e0]; rfl), h4, this.2.2.1, this.2.2.2⟩
theorem DAt.wait {w W : World} {B ga gb c3 d3 : Nat} {wr : World} {us : List Tk} {ds : List Bool} (h : DAt w W B ga gb c3 d3 wr us ds) {k : Nat} (hk : k < us.length) {lo hi up wt : Int} (ht : us.getD k tk0 = ⟨lo, hi, up, wt⟩) (hwt : 1 ≤ wt) (hw : w.heap.size ≤ ga) (hne : ga ≠ gb) : DAt w W B ga gb c3 d3 (wr.setCell ⟨ga, k * 4 + 3, none⟩ (.int .i64 (wt - 1))) (wless us k) ds where
  far b o hb h1 h2 := by rw [← h.far b o hb h1 h2]; exact World.cell?_setCell_far _ _ _ _ (fun e => h1 e.symm)
  fro b o hb h1 h2 := by rw [← h.fro b o hb h1 h2]; first | rfl | (go_simp; done) | (simp [World.frozen?, World.setCell]; done)
  own := by
    rw [wless_len]
    have e0 : us.getD k kTask.d = ⟨lo, hi, up, wt⟩ := ht
    have ok := h.own.rd.okAt k hk
    rw [e0] at ok
    have := h.own.set (j := k) (i := 3) (x := ⟨lo, hi, up, wt - 1⟩) (u := .int .i64 (wt - 1)) hk (by decide) (by rw [e0]; rfl) (tk_ok ok.1 ok.2.1 ok.2.2.1 (by have h9 : in64 wt := ok.2.2.2; unfold in64 at h9 ⊢; omega))
    unfold wless; rw [ht]; exact this
  dns := h.dns.setOther (p := ⟨ga, k * 4 + 3, none⟩) (by simp [Value.ownBlock]; omega) _
  ext := h.ext.setCell (p := ⟨ga, k * 4 + 3, none⟩) hw _

/-- what Do gives -/
def DoSaid (w : World) (ts : List Tk) (g : Int) (dn : List Bool) (j : Nat) (e : Ending) (w' : World) : Prop :=
  ∃ A c B d, e = .returned (.tuple #[.agg #[.slice A ts.length c, .int .i64 g, .slice B dn.length d], .bool (climb (ts.length + 1) ts (ts.getD j tk0).up).2, .int .i64 0]) ∧
    Rd kTask w' (.slice A ts.length c) (climb (ts.length + 1) ts (ts.getD j tk0).up).1 ∧ Rd kBool w' (.slice B dn.length d) (marked dn (ts.getD j tk0).lo.toNat (ts.getD j tk0).hi.toNat) ∧ From w.heap.size A ∧ From w.heap.size B ∧ Ext w w'

theorem DAt.said {w W : World} {B ga gb c3 d3 : Nat} {wr : World} {us ts : List Tk} {dn : List Bool} {L R j : Nat} {g : Int} {q : Bool} (h : DAt w W B ga gb c3 d3 wr us (marked dn L R)) (hl : us.length = ts.length) (hm : (marked dn L R).length = dn.length)
    (hc : climb (ts.length + 1) ts (ts.getD j tk0).up = (us, q)) (hB : w.heap.size + 1 < B) (hlo : (ts.getD j tk0).lo = L) (hhi : (ts.getD j tk0).hi = R) (x y z : Value) :
    DoSaid w ts g dn j (.returned (.tuple #[.agg #[.slice (some ⟨ga, 0, none⟩) ts.length c3, .int .i64 g, .slice (some ⟨gb, 0, none⟩) dn.length d3], .bool q, .int .i64 0])) (((wr.setCell ⟨w.heap.size + 1, 0, none⟩ x).setCell ⟨w.heap.size + 1, 1, none⟩ y).setCell ⟨w.heap.size + 1, 2, none⟩ z) := by
  have ho := h.own
  have hd := h.dns
  rw [hl] at ho
  rw [hm] at hd
  refine ⟨_, _, _, _, by rw [hc], ?_, ?_, (ho.from).mono (by omega), (hd.from).mono (by omega), ?_⟩
  · rw [hc]
    exact (((ho.setBelow (p := ⟨w.heap.size + 1, 0, none⟩) hB _).setBelow (p := ⟨w.heap.size + 1, 1, none⟩) hB _).setBelow (p := ⟨w.heap.size + 1, 2, none⟩) hB _).rd
  · rw [hlo, hhi, Int.toNat_natCast, Int.toNat_natCast]
    exact (((hd.setBelow (p := ⟨w.heap.size + 1, 0, none⟩) hB _).setBelow (p := ⟨w.heap.size + 1, 1, none⟩) hB _).setBelow (p := ⟨w.heap.size + 1, 2, none⟩) hB _).rd
  · exact ((h.ext.setCell (p := ⟨w.heap.size + 1, 0, none⟩) (by show _ ≤ w.heap.size + 1; omega) _).setCell (p := ⟨w.heap.size + 1, 1, none⟩) (by show _ ≤ w.heap.size + 1; omega) _).setCell (p := ⟨w.heap.size + 1, 2, none⟩) (by show _ ≤ w.heap.size + 1; omega) _

set_option maxHeartbeats 1600000 in
set_option maxRecDepth 100000 in
theorem rdo_ok (A B : Option Addr) (c d : Nat) (ts : List Tk) (dn : List Bool) (g : Int) (j : Nat) (w : World) (h : Rd kTask w (.slice A ts.length c) ts) (hd : Rd kBool w (.slice B dn.length d) dn) (hg : in64 g) (hr : wRight ts g dn.length = true) (hj : j < ts.length) (ht : wGreat ts g dn.length j = false) (h3 : (ts.getD j tk0).wt = 0) (hdn : dn.getD (ts.getD j tk0).lo.toNat false = false) :
    Calls Try.prog 11 #[.agg #[.slice A ts.length c, .int .i64 g, .slice B dn.length d], .int .i64 j] w (DoSaid w ts g dn j) := by
  have H := Lib.hid h
  have HD := Lib.hid hd
  have hn := hd.len
  have hnb := right_n hr
  have hm := h.len
  have HG := Lib.hid hg
  have HI : Hid (in64 (j : Int)) := Lib.hid (by unfold in64; omega)
  have HYR := Lib.hid hr
  have HYS : Hid (wHas ts.length (j : Int) = true) := Lib.hid (by unfold wHas; simp; omega)
  have HYT := Lib.hid ht
  obtain ⟨b, off, rfl, hcc⟩ := Rd.tasks H.out (by omega)
  obtain ⟨y0, y1, y2, y3⟩ := hcc j hj
  have e0 : ts.getD j ⟨0, 0, 0, 0⟩ = ts.getD j tk0 := rfl
  rw [e0] at y0 y1 y2 y3
  obtain ⟨o1, o2, o3, o4, o5, _⟩ := tkOk_iff dn.length j (ts.getD j tk0) |>.1 (right_ok hr j hj)
  obtain ⟨⟨lo, hi', up, wt⟩, htk⟩ : ∃ x, ts.getD j tk0 = x := ⟨_, rfl⟩
  have hbd : in64 (ts.getD j tk0).wt := (H.out.okAt j hj).2.2.2
  have HTK := Lib.hid htk
  rw [htk] at y0 y1 y2 y3 h3 o1 o2 o3 o4 o5 hbd
  simp only at y0 y1 y2 y3 h3 o1 o2 o3 o4 o5 hbd
  obtain ⟨b1, b2⟩ := hbd
  have Y0 := Lib.hid y0
  have Y3 := Lib.hid y3
  have hj' : (j : Int) < ts.length := by omega
  have hj0 : (0 : Int) ≤ j := by omega
  obtain ⟨L, rfl⟩ : ∃ L : Nat, lo = L := ⟨lo.toNat, by omega⟩
  obtain ⟨R, rfl⟩ : ∃ R : Nat, hi' = R := ⟨hi'.toNat, by omega⟩
  obtain ⟨bb, boff, rfl, hbc⟩ := Rd.bools HD.out (by omega)
  have z0 := hbc L (by omega)
  have hdL : dn.getD L false = false := by rw [HTK.out] at hdn; simpa using hdn
  rw [hdL] at z0
  have Z0 := Lib.hid z0
  have Y1 := Lib.hid y1
  have Y2 := Lib.hid y2
  have hL' : (L : Int) < dn.length := by omega
  have hL0 : (0 : Int) ≤ L := by omega
  subst h3
  clear hbc z0 hdn hdL
  clear h hd hg hr ht hcc e0 htk y0 y1 y2 y3
  go_enter Try.func11, Try.ntmps11
  go_wp2_with fail
  have hP : PAt w (some ⟨b, off, none⟩) (some ⟨bb, boff, none⟩) c d dn.length ts.length g ((w.alloc (.cells #[.slice (some ⟨b, off, none⟩) ts.length c, .int .i64 g, .slice (some ⟨bb, boff, none⟩) dn.length d] 25)).alloc (.cells #[.slice none 0 0, .int .i64 0, .slice none 0 0] 25)) := Ext.refl _
  refine (rright_any _ _ _ _ _ _ _ _ (H.out.ext hP.ext) hn HG.out).mono ?_
  rintro e w1 ⟨he, hE⟩
  rw [HYR.out] at he
  subst he
  replace hP := hP.go hE
  obtain ⟨q0, q1, q2⟩ := hP.cells
  have HP := Lib.hid hP
  clear hE hP
  go_wp2_with fail
  have hP := HP.out
  clear HP q0 q1 q2
  refine (rhas_any _ _ _ _ _ _ _ _ _ hm).mono ?_
  rintro e w1 ⟨he, hE⟩
  rw [HYS.out] at he
  subst he
  replace hP := hP.go hE
  obtain ⟨q0, q1, q2⟩ := hP.cells
  have HP := Lib.hid hP
  clear hE hP
  go_wp2_with fail
  have hP := HP.out
  clear HP q0 q1 q2
  have hall : ∀ w', PAt w (some ⟨b, off, none⟩) (some ⟨bb, boff, none⟩) c d dn.length ts.length g w' → (w'.cell? ⟨w.heap.size, 0, none⟩ = some (.slice (some ⟨b, off, none⟩) ts.length c) ∧ w'.cell? ⟨w.heap.size, 1, none⟩ = some (.int .i64 g) ∧ w'.cell? ⟨w.heap.size, 2, none⟩ = some (.slice (some ⟨bb, boff, none⟩) dn.length d) ∧ w'.cell? ⟨b, off + j * 4 + 3, none⟩ = some (.int .i64 0) ∧ w'.cell? ⟨b, off + j * 4, none⟩ = some (.int .i64 L) ∧ w'.cell? ⟨bb, boff + L, none⟩ = some (.bool false)) :=
    fun w' hE => ⟨hE.cells.1, hE.cells.2.1, hE.cells.2.2, hE.ext.cell Y3.out, hE.ext.cell Y0.out, hE.ext.cell Z0.out⟩
  have HALL := Lib.hid hall
  clear hall
  refine wp_region_class (PAt w (some ⟨b, off, none⟩) (some ⟨bb, boff, none⟩) c d dn.length ts.length g) (by kernel_rfl) (by kernel_rfl) (hP.go (Ext.refl _).drew) ?_
  repeat (first
    | go_big_quiet_skip
    | (go_big_quiet_want
       first
       | (go_big_quiet_op; go_big_quiet_on)
       | (unfold Oper.quiet
          apply Exists.intro
          refine ⟨fun w' hC => ?_, ?_⟩
          · (obtain ⟨k0, k1, k2, k3, k4, k5⟩ := HALL.out w' hC
             unfold Oper.quietAt
             go_simp
             exact rfl)
          go_simp
          go_big_quiet_on)
       | (go_big_quiet_op
          apply Exists.intro
          refine ⟨fun w' hC => ?_, ?_⟩
          · exact (rgreat_any _ _ _ _ _ _ _ _ _ (H.out.ext hC.ext) hn HG.out HI.out).mono fun e w'' h => ⟨h.1.trans (ret_bool HYT.out), hC.go h.2⟩
          go_big_quiet_on)))
  refine wpQuiet_nil ?_
  intro w3 hP3
  obtain ⟨q0, q1, q2⟩ := hP3.cells
  obtain ⟨s0, s1, s2, s3⟩ := hP3.out
  have HP := Lib.hid hP3
  clear hP3 hP
  obtain ⟨B0, hB0⟩ : ∃ B0, w3.heap.size = B0 := ⟨_, rfl⟩
  go_wp2_with fail
  have hP1 := HP.out
  have HW1 := Lib.hid hP1.ext.size
  have hW1 := Lib.hid hP1.two
  clear s0 s1 s2 s3 q0 q1 q2 HP
  refine (rcopy_any _ _ _ _ _ _ _ _ (H.out.ext hP1.ext) (HD.out.ext hP1.ext) (by omega) (by omega)).mono ?_
  rintro e w2 ⟨A3, c3, B3, d3, rfl, hO, hOD, hE⟩
  have hP := hP1.go hE
  obtain ⟨q0, q1, q2⟩ := hP.cells
  obtain ⟨s0, s1, s2, s3⟩ := hP.out
  have q3 := hP.ext.cell Y3.out
  have q4 := hP.ext.cell Y0.out
  have q5 := hP.ext.cell Y1.out
  have HP := Lib.hid hP
  have hB3 : (Value.slice B3 dn.length d3).ownBlock ≠ none := by
    obtain ⟨gb, rfl, _⟩ := Ow.pos hOD (by omega)
    simp [Value.ownBlock]
  obtain ⟨gb, rfl, gb1, gb2, gb3, gb4⟩ := Ow.pos hOD (by omega)
  obtain ⟨ga, rfl, ga1, ga2, ga3, ga4⟩ := Ow.pos hO (by omega)
  have hgab : ga ≠ gb := fun h => by have := Ow.far (by decide) hO hOD ga rfl; rw [h] at this; exact this rfl
  have HZ := Lib.hid hE.size
  rw [hB0] at hO hOD gb1 ga1
  have HO := Lib.hid hO
  have HOD := Lib.hid hOD
  have W1 := HW1.out
  have W2 := hW1.out
  have W3 := HZ.out
  have lbw : b < w.heap.size := World.block_lt_of_cell? _ _ Y0.out
  have lb : b < w2.heap.size := World.block_lt_of_cell? _ _ q4
  have l0 : w.heap.size < w2.heap.size := by omega
  have l1 : w.heap.size + 1 < w2.heap.size := by omega
  have l2 : w.heap.size < w2.heap.size + 1 := by omega
  have l3 : w.heap.size + 1 < w2.heap.size + 1 := by omega
  have l4 : b < w2.heap.size + 1 := by omega
  clear hP hP1 hE hO hOD ga3 ga4 gb3 gb4 hB3
  have hD0 : DAt w (w2.alloc (.cells #[.slice (some ⟨ga, 0, none⟩) ts.length c3, .int .i64 g, .slice (some ⟨gb, 0, none⟩) dn.length d3] 25)) B0 ga gb c3 d3 (w2.alloc (.cells #[.slice (some ⟨ga, 0, none⟩) ts.length c3, .int .i64 g, .slice (some ⟨gb, 0, none⟩) dn.length d3] 25)) ts (marked dn L L) :=
    ⟨fun _ _ _ _ _ => rfl, fun _ _ _ _ _ => rfl, HO.out.ext ((Ext.refl _).alloc _), by rw [marked_none]; exact HOD.out.ext ((Ext.refl _).alloc _), HP.out.ext.alloc _⟩
  have HD0 := Lib.hid hD0
  clear hD0
  go_wp2_with fail
  have x0 : (w2.alloc (.cells #[.slice (some ⟨ga, 0, none⟩) ts.length c3, .int .i64 g, .slice (some ⟨gb, 0, none⟩) dn.length d3] 25)).cell? ⟨w.heap.size, 0, none⟩ = some (.slice (some ⟨b, off, none⟩) ts.length c) := by go_simp
  have x1 : (w2.alloc (.cells #[.slice (some ⟨ga, 0, none⟩) ts.length c3, .int .i64 g, .slice (some ⟨gb, 0, none⟩) dn.length d3] 25)).cell? ⟨b, off + j * 4 + 1, none⟩ = some (.int .i64 R) := by go_simp
  have x2 : (w2.alloc (.cells #[.slice (some ⟨ga, 0, none⟩) ts.length c3, .int .i64 g, .slice (some ⟨gb, 0, none⟩) dn.length d3] 25)).cell? ⟨w2.heap.size, 2, none⟩ = some (.slice (some ⟨gb, 0, none⟩) dn.length d3) := by go_simp
  have x3 : (w2.alloc (.cells #[.slice (some ⟨ga, 0, none⟩) ts.length c3, .int .i64 g, .slice (some ⟨gb, 0, none⟩) dn.length d3] 25)).cell? ⟨b, off + j * 4 + 2, none⟩ = some (.int .i64 up) := by have := HP.out.ext.cell Y2.out; go_simp
  have X3 := Lib.hid x3
  have x4 : (w2.alloc (.cells #[.slice (some ⟨ga, 0, none⟩) ts.length c3, .int .i64 g, .slice (some ⟨gb, 0, none⟩) dn.length d3] 25)).cell? ⟨w2.heap.size, 0, none⟩ = some (.slice (some ⟨ga, 0, none⟩) ts.length c3) := by go_simp
  have x5 : (w2.alloc (.cells #[.slice (some ⟨ga, 0, none⟩) ts.length c3, .int .i64 g, .slice (some ⟨gb, 0, none⟩) dn.length d3] 25)).cell? ⟨w2.heap.size, 1, none⟩ = some (.int .i64 g) := by go_simp
  have x6 : (w2.alloc (.cells #[.slice (some ⟨ga, 0, none⟩) ts.length c3, .int .i64 g, .slice (some ⟨gb, 0, none⟩) dn.length d3] 25)).cell? ⟨w.heap.size + 1, 0, none⟩ = some (.slice none 0 0) ∧ (w2.alloc (.cells #[.slice (some ⟨ga, 0, none⟩) ts.length c3, .int .i64 g, .slice (some ⟨gb, 0, none⟩) dn.length d3] 25)).cell? ⟨w.heap.size + 1, 1, none⟩ = some (.int .i64 0) ∧ (w2.alloc (.cells #[.slice (some ⟨ga, 0, none⟩) ts.length c3, .int .i64 g, .slice (some ⟨gb, 0, none⟩) dn.length d3] 25)).cell? ⟨w.heap.size + 1, 2, none⟩ = some (.slice none 0 0) ∧ ∀ o, (w2.alloc (.cells #[.slice (some ⟨ga, 0, none⟩) ts.length c3, .int .i64 g, .slice (some ⟨gb, 0, none⟩) dn.length d3] 25)).frozen? ⟨w.heap.size + 1, o, none⟩ = false := ⟨by go_simp, by go_simp, by go_simp, fun o => by have := s3 o; go_simp⟩
  have X4 := Lib.hid x4
  have X5 := Lib.hid x5
  have X6 := Lib.hid x6
  have X0 := Lib.hid x0
  have X1 := Lib.hid x1
  have X2 := Lib.hid x2
  clear x0 x1 x2 x3 x4 x5 x6
  go_loopw [8] (fun i wr => ∃ k : Nat, L ≤ k ∧ k ≤ R ∧ i = .int .i64 k ∧ DAt w (w2.alloc (.cells #[.slice (some ⟨ga, 0, none⟩) ts.length c3, .int .i64 g, .slice (some ⟨gb, 0, none⟩) dn.length d3] 25)) B0 ga gb c3 d3 wr ts (marked dn L k)) (fun i _ => R - (intOf i).toNat)
  case atStart => exact ⟨L, Nat.le_refl _, by omega, rfl, HD0.out⟩
  case round =>
    obtain ⟨k, hk1, hk2, rfl, hA⟩ := hrel
    have m0 := hA.cell X0.out (by omega) (by omega)
    have m1 := hA.cell X1.out (by omega) (by omega)
    have m2 := hA.cell X2.out (by omega) (by omega)
    have HA := Lib.hid hA
    by_cases hlt : k < R
    · have hlt' : (k : Int) < R := by omega
      have hkl : (k : Int) < dn.length := by omega
      have hk0 : (0 : Int) ≤ k := by omega
      have hml : (marked dn L k).length = dn.length := marked_len dn L k hk1 (by omega)
      obtain ⟨n0, n1⟩ := hA.unit (k := k) (by omega)
      have hN := hA.mark (k := k) (by omega) (by omega) hgab
      rw [← marked_succ dn L k hk1 (by omega)] at hN
      have HN := Lib.hid hN
      clear hA hN hml
      go_wp2
      go_roundw
      case rel => exact ⟨k + 1, by omega, by omega, by go_num, HN.out⟩
      case measure => simp [intOf]; omega
    · have m3 := hA.cell X3.out (by omega) (by omega)
      have hkr : k = R := by omega
      have hlt' : ¬ (k : Int) < R := by omega
      subst hkr
      clear hA
      have hml : (marked dn L k).length = dn.length := marked_len dn L k hk1 (by omega)
      have hlo : (ts.getD j tk0).lo = L := by rw [HTK.out]
      have hhi : (ts.getD j tk0).hi = k := by rw [HTK.out]
      have hupj : (ts.getD j tk0).up = up := by rw [HTK.out]
      have HM := Lib.hid (And.intro hml (And.intro hlo (And.intro hhi hupj)))
      have HOK := Lib.hid (by have := HYR.out; unfold wRight at this; rw [Bool.and_eq_true] at this; exact this.2 : wOkTo ts dn.length ts.length = true)
      clear hml hlo hhi hupj
      go_wp2_with fail
      go_loopw [9] (fun i wx => ∃ (u : Int) (us : List Tk) (f : Nat), i = .int .i64 u ∧ DAt w (w2.alloc (.cells #[.slice (some ⟨ga, 0, none⟩) ts.length c3, .int .i64 g, .slice (some ⟨gb, 0, none⟩) dn.length d3] 25)) B0 ga gb c3 d3 wx us (marked dn L k) ∧ us.length = ts.length ∧ wOkTo us dn.length ts.length = true ∧ -1 ≤ u ∧ u < ts.length ∧ u < f ∧ climb (ts.length + 1) ts up = climb (f + 1) us u) (fun i _ => (intOf i + 1).toNat)
      case atStart => exact ⟨up, ts, ts.length, rfl, HA.out, rfl, HOK.out, o4, by omega, by omega, rfl⟩
      case round =>
        obtain ⟨u, us, f, rfl, hX, hul, hok, hu1, hu2, hu3, hcl⟩ := hrel
        have M2 := hX.cell X2.out (by omega) (by omega)
        have M4 := hX.cell X4.out (by omega) (by omega)
        have M5 := hX.cell X5.out (by omega) (by omega)
        have t0 := hX.cell X6.out.1 (by omega) (by omega)
        have t1 := hX.cell X6.out.2.1 (by omega) (by omega)
        have t2 := hX.cell X6.out.2.2.1 (by omega) (by omega)
        have t3 : ∀ o, wr.frozen? ⟨w.heap.size + 1, o, none⟩ = false := fun o => (hX.fro (w.heap.size + 1) o (World.block_lt_of_cell? _ _ X6.out.1) (by omega) (by omega)).trans (X6.out.2.2.2 o)
        have HX := Lib.hid hX
        by_cases hum : u = -1
        · subst hum
          have HC : Hid (climb (ts.length + 1) ts up = (us, true)) := Lib.hid (by rw [hcl]; simp [climb])
          clear hcl hX
          go_wp2_with fail
          refine bodyPost_ret (v := .tuple #[.agg #[.slice (some ⟨ga, 0, none⟩) ts.length c3, .int .i64 g, .slice (some ⟨gb, 0, none⟩) dn.length d3], .bool true, .int .i64 0]) (by simp [results, Try.results11, go_sem]; go_simp) rfl (HX.out.said hul HM.out.1 (by rw [HM.out.2.2.2]; exact HC.out) (by omega) HM.out.2.1 HM.out.2.2.1 _ _ _)
        · obtain ⟨v, rfl⟩ : ∃ v : Nat, u = v := ⟨u.toNat, by omega⟩
          have hv : v < us.length := by omega
          have hv' : (v : Int) < ts.length := by omega
          have hv0 : (0 : Int) ≤ v := by omega
          have hvn : ((v : Int) != -1) = true := by simp
          have hve : ((v : Int) == -1) = false := by simp
          obtain ⟨⟨lo1, hi1, up1, wt1⟩, ht⟩ : ∃ x, us.getD v tk0 = x := ⟨_, rfl⟩
          obtain ⟨cu, cw, cf, iu, iw⟩ := hX.task hv ht
          have ok1 := (tkOk_iff _ _ _).1 (wOkTo_at us dn.length ts.length hok v (by omega))
          rw [ht] at ok1
          simp only at ok1
          obtain ⟨_, _, _, k4, k5, k6, k7⟩ := ok1
          have e0 : tkAt us (v : Int) = us.getD v tk0 := by unfold tkAt; rw [Int.toNat_natCast]
          have HT := Lib.hid ht
          by_cases hw : wt1 = 0
          · have HC : Hid (climb (ts.length + 1) ts up = (us, false)) := Lib.hid (by rw [hcl]; unfold climb; rw [if_neg hum, e0, ht, if_pos hw])
            subst hw
            clear hcl hX ht e0 hum
            go_wp2_with fail
            refine bodyPost_ret (v := .tuple #[.agg #[.slice (some ⟨ga, 0, none⟩) ts.length c3, .int .i64 g, .slice (some ⟨gb, 0, none⟩) dn.length d3], .bool false, .int .i64 0]) (by simp [results, Try.results11, go_sem]; go_simp) rfl (HX.out.said hul HM.out.1 (by rw [HM.out.2.2.2]; exact HC.out) (by omega) HM.out.2.1 HM.out.2.2.1 _ _ _)
          · have hwe : (wt1 == 0) = false := by simpa using hw
            have hN := hX.wait hv ht (by omega) (by omega) hgab
            have HN := Lib.hid hN
            have hnl : (wless us v).length = ts.length := by rw [wless_len]; exact hul
            have HNL := Lib.hid hnl
            by_cases hq : 0 < wt1 - 1
            · have HC : Hid (climb (ts.length + 1) ts up = (wless us v, false)) := Lib.hid (by rw [hcl]; unfold climb; rw [if_neg hum, e0, ht, if_neg hw, if_pos hq, Int.toNat_natCast])
              clear hcl hX ht e0 hum hN hw
              go_wp2_with fail
              refine bodyPost_ret (v := .tuple #[.agg #[.slice (some ⟨ga, 0, none⟩) ts.length c3, .int .i64 g, .slice (some ⟨gb, 0, none⟩) dn.length d3], .bool false, .int .i64 0]) (by simp [results, Try.results11, go_sem]; go_simp) rfl (HN.out.said HNL.out HM.out.1 (by rw [HM.out.2.2.2]; exact HC.out) (by omega) HM.out.2.1 HM.out.2.2.1 _ _ _)
            · obtain ⟨f, rfl⟩ : ∃ x, f = x + 1 := ⟨f - 1, by omega⟩
              have HC : Hid (climb (ts.length + 1) ts up = climb (f + 1) (wless us v) up1) := Lib.hid (by rw [hcl]; rw [climb]; rw [if_neg hum, e0, ht, if_neg hw, if_neg hq, Int.toNat_natCast])
              have HK : Hid (wOkTo (wless us v) dn.length ts.length = true) := Lib.hid (wless_ok us dn.length v _ hv hok (by omega) (by rw [ht]; exact hw))
              clear hcl hX ht e0 hum hN hw hok
              go_wp2
              go_roundw
              case rel => exact ⟨up1, wless us v, f, rfl, HN.out, HNL.out, HK.out, k4, by omega, by omega, HC.out⟩
              case measure => simp [intOf]; omega

end Go.Proofs.Ytfigfndabokepaa
