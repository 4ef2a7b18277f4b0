/- The document's Copy of work. -/
import Derived.Test.YtfigfndabokepaaTRight
import Derived.Test.YtfigfndabokepaaRowM
import Derived.Deep.DeepCutAuto
namespace Go.Proofs.Ytfigfndabokepaa
open Go.RowKit Go.Proofs.Ytfigfndabokepaa.Plain

def CopyV (w0 : World) (P : Nat) (A B : Option Addr) (c d : Nat) (ts : List Tk) (g : Int) (dn : List Bool) : Nat → World → List Value → Value → Prop
  | 0, w, ds, v => NewAt kTask w0.heap.size w v
  | 1, w, ds, v => v = .pointer (some ⟨P, 0, none⟩)
  | 2, w, ds, v => v = .slice A ts.length c
  | 3, w, ds, v => OwAt kTask w0.heap.size w v ts
  | 4, w, ds, v => v = .pointer (some ⟨P, 1, none⟩)
  | 5, w, ds, v => v = .int .i64 g
  | 6, w, ds, v => NewAt kBool w0.heap.size w v
  | 7, w, ds, v => v = .pointer (some ⟨P, 2, none⟩)
  | 8, w, ds, v => v = .slice B dn.length d
  | 9, w, ds, v => OwAt kBool w0.heap.size w v dn
  | 10, w, ds, v => v = .agg #[ds.getD 0 undef, ds.getD 1 undef, ds.getD 2 undef]
  | _, _, _, _ => True
theorem CopyV_ext (w0 : World) (P : Nat) (A B : Option Addr) (c d : Nat) (ts : List Tk) (g : Int) (dn : List Bool) : ∀ i w w' ds v, CopyV w0 P A B c d ts g dn i w ds v → Ext w w' → CopyV w0 P A B c d ts g dn i w' ds v
  | 0, _, _, _, _, h, hE => NewAt.ext h hE
  | 1, _, _, _, _, h, _ => h
  | 2, _, _, _, _, h, _ => h
  | 3, _, _, _, _, h, hE => OwAt.ext h hE
  | 4, _, _, _, _, h, _ => h
  | 5, _, _, _, _, h, _ => h
  | 6, _, _, _, _, h, hE => NewAt.ext h hE
  | 7, _, _, _, _, h, _ => h
  | 8, _, _, _, _, h, _ => h
  | 9, _, _, _, _, h, hE => OwAt.ext h hE
  | 10, _, _, _, _, h, _ => h
  | _ + 11, _, _, _, _, _, _ => trivial
section
variable (w0 : World) (P : Nat) (A B : Option Addr) (c d : Nat) (ts : List Tk) (g : Int) (dn : List Bool) (w : World) (ds : List Value) (v : Value)
theorem CopyV_i0 (h : NewAt kTask w0.heap.size w v) : CopyV w0 P A B c d ts g dn 0 w ds v := h
theorem CopyV_e0 (h : CopyV w0 P A B c d ts g dn 0 w ds v) : NewAt kTask w0.heap.size w v := h
theorem CopyV_i1 (h : v = .pointer (some ⟨P, 0, none⟩)) : CopyV w0 P A B c d ts g dn 1 w ds v := h
theorem CopyV_e1 (h : CopyV w0 P A B c d ts g dn 1 w ds v) : v = .pointer (some ⟨P, 0, none⟩) := h
theorem CopyV_i2 (h : v = .slice A ts.length c) : CopyV w0 P A B c d ts g dn 2 w ds v := h
theorem CopyV_e2 (h : CopyV w0 P A B c d ts g dn 2 w ds v) : v = .slice A ts.length c := h
theorem CopyV_i3 (h : OwAt kTask w0.heap.size w v ts) : CopyV w0 P A B c d ts g dn 3 w ds v := h
theorem CopyV_e3 (h : CopyV w0 P A B c d ts g dn 3 w ds v) : OwAt kTask w0.heap.size w v ts := h
theorem CopyV_i4 (h : v = .pointer (some ⟨P, 1, none⟩)) : CopyV w0 P A B c d ts g dn 4 w ds v := h
theorem CopyV_e4 (h : CopyV w0 P A B c d ts g dn 4 w ds v) : v = .pointer (some ⟨P, 1, none⟩) := h
theorem CopyV_i5 (h : v = .int .i64 g) : CopyV w0 P A B c d ts g dn 5 w ds v := h
theorem CopyV_e5 (h : CopyV w0 P A B c d ts g dn 5 w ds v) : v = .int .i64 g := h
theorem CopyV_i6 (h : NewAt kBool w0.heap.size w v) : CopyV w0 P A B c d ts g dn 6 w ds v := h
theorem CopyV_e6 (h : CopyV w0 P A B c d ts g dn 6 w ds v) : NewAt kBool w0.heap.size w v := h
theorem CopyV_i7 (h : v = .pointer (some ⟨P, 2, none⟩)) : CopyV w0 P A B c d ts g dn 7 w ds v := h
theorem CopyV_e7 (h : CopyV w0 P A B c d ts g dn 7 w ds v) : v = .pointer (some ⟨P, 2, none⟩) := h
theorem CopyV_i8 (h : v = .slice B dn.length d) : CopyV w0 P A B c d ts g dn 8 w ds v := h
theorem CopyV_e8 (h : CopyV w0 P A B c d ts g dn 8 w ds v) : v = .slice B dn.length d := h
theorem CopyV_i9 (h : OwAt kBool w0.heap.size w v dn) : CopyV w0 P A B c d ts g dn 9 w ds v := h
theorem CopyV_e9 (h : CopyV w0 P A B c d ts g dn 9 w ds v) : OwAt kBool w0.heap.size w v dn := h
theorem CopyV_i10 (h : v = .agg #[ds.getD 0 undef, ds.getD 1 undef, ds.getD 2 undef]) : CopyV w0 P A B c d ts g dn 10 w ds v := h
theorem CopyV_e10 (h : CopyV w0 P A B c d ts g dn 10 w ds v) : v = .agg #[ds.getD 0 undef, ds.getD 1 undef, ds.getD 2 undef] := h
end

set_option maxHeartbeats 3200000 in
set_option maxRecDepth 100000 in
theorem rcopy_any (A B : Option Addr) (c d : Nat) (ts : List Tk) (g : Int) (dn : List Bool) (w : World) (h : Rd kTask w (.slice A ts.length c) ts) (h' : Rd kBool w (.slice B dn.length d) dn) (hl : ts.length ≤ 4000) (hl' : dn.length ≤ 4000) :
    Calls Try.prog 7 #[.agg #[.slice A ts.length c, .int .i64 g, .slice B dn.length d]] w fun e w' => ∃ A c B d, e = .returned (.agg #[.slice A ts.length c, .int .i64 g, .slice B dn.length d]) ∧
      Ow kTask w.heap.size w' (.slice A ts.length c) ts ∧ Ow kBool w.heap.size w' (.slice B dn.length d) dn ∧ Ext w w' := by
  have H0 := Lib.hid h
  have HD0 := Lib.hid h'
  clear h h'
  go_enter Try.func7, Try.ntmps7
  go_wp2
  have q0 : ((w.alloc (.cells #[.slice A ts.length c, .int .i64 g, .slice B dn.length d] 25)).alloc (.cells #[.slice none 0 0, .int .i64 0, .slice none 0 0] 25)).cell? ⟨w.heap.size, 0, none⟩ = some (.slice A ts.length c) := by go_simp
  have q1 : ((w.alloc (.cells #[.slice A ts.length c, .int .i64 g, .slice B dn.length d] 25)).alloc (.cells #[.slice none 0 0, .int .i64 0, .slice none 0 0] 25)).cell? ⟨w.heap.size, 1, none⟩ = some (.int .i64 g) := by go_simp
  have q2 : ((w.alloc (.cells #[.slice A ts.length c, .int .i64 g, .slice B dn.length d] 25)).alloc (.cells #[.slice none 0 0, .int .i64 0, .slice none 0 0] 25)).cell? ⟨w.heap.size, 2, none⟩ = some (.slice B dn.length d) := by go_simp
  have r0 : ((w.alloc (.cells #[.slice A ts.length c, .int .i64 g, .slice B dn.length d] 25)).alloc (.cells #[.slice none 0 0, .int .i64 0, .slice none 0 0] 25)).heap[w.heap.size + 1]? = some (.cells #[.slice none 0 0, .int .i64 0, .slice none 0 0] 25 (0, 0)) := heap_alloc2_new w _ _
  have H := Lib.hid (H0.out.ext (((Ext.refl w).alloc (.cells #[.slice A ts.length c, .int .i64 g, .slice B dn.length d] 25)).alloc (.cells #[.slice none 0 0, .int .i64 0, .slice none 0 0] 25)))
  have HD := Lib.hid (HD0.out.ext (((Ext.refl w).alloc (.cells #[.slice A ts.length c, .int .i64 g, .slice B dn.length d] 25)).alloc (.cells #[.slice none 0 0, .int .i64 0, .slice none 0 0] 25)))
  have X := Lib.hid (((Ext.refl w).alloc (.cells #[.slice A ts.length c, .int .i64 g, .slice B dn.length d] 25)).alloc (.cells #[.slice none 0 0, .int .i64 0, .slice none 0 0] 25))
  have hz : ((w.alloc (.cells #[.slice A ts.length c, .int .i64 g, .slice B dn.length d] 25)).alloc (.cells #[.slice none 0 0, .int .i64 0, .slice none 0 0] 25)).heap.size = w.heap.size + 2 := by simp
  generalize (w.alloc (.cells #[.slice A ts.length c, .int .i64 g, .slice B dn.length d] 25)).alloc (.cells #[.slice none 0 0, .int .i64 0, .slice none 0 0] 25) = w0 at *
  obtain ⟨P, hP⟩ : ∃ P, w.heap.size = P := ⟨_, rfl⟩
  have HZ := Lib.hid hz
  have HP := Lib.hid hP
  rw [hP] at q0 q1 q2 r0 ⊢
  clear hz hP
  refine Mono.wp_region_mono 11 (CopyV w0 P A B c d ts g dn) (by kernel_rfl) (by kernel_rfl) (CopyV_ext w0 P A B c d ts g dn) ?_ ?_
  · intro i o hi ho vals w5 hE hcl
    have hi' : i = 0 ∨ i = 1 ∨ i = 2 ∨ i = 3 ∨ i = 4 ∨ i = 5 ∨ i = 6 ∨ i = 7 ∨ i = 8 ∨ i = 9 ∨ i = 10 := by omega
    rcases hi' with rfl | rfl | rfl | rfl | rfl | rfl | rfl | rfl | rfl | rfl | rfl
    · simp only [List.getElem?_cons_succ, List.getElem?_cons_zero, Option.some.injEq] at ho
      subst ho
      rw [if_pos (Mono.wanted_none rfl)]
      clear hcl
      refine Mono.yields_same (.slice (some ⟨w5.heap.size, 0, none⟩) 0 0) (w5.alloc (.cells #[] kTask.e)) ?_ ⟨(Ext.refl _).alloc _, CopyV_i0 _ _ _ _ _ _ _ _ _ _ _ _ (NewAt.made w5 hE.size)⟩
      simp only [Mono.all, List.take, Act.put, kTask]
      go_simp
    · simp only [List.getElem?_cons_succ, List.getElem?_cons_zero, Option.some.injEq] at ho
      subst ho
      rw [if_pos (Mono.wanted_none rfl)]
      clear hcl
      refine Mono.yields_same (.pointer (some ⟨P, 0, none⟩)) w5 ?_ ⟨Ext.refl _, CopyV_i1 _ _ _ _ _ _ _ _ _ _ _ _ rfl⟩
      simp only [Mono.all, List.take, Act.put]
      go_simp
    · simp only [List.getElem?_cons_succ, List.getElem?_cons_zero, Option.some.injEq] at ho
      subst ho
      rw [if_pos (Mono.wanted_none rfl)]
      have h1 : vals 1 = .pointer (some ⟨P, 0, none⟩) := CopyV_e1 _ _ _ _ _ _ _ _ _ _ _ _ (hcl 1 (by kernel_rfl))
      have k1 := hE.cell q0
      clear hcl
      refine Mono.yields_same (.slice A ts.length c) w5 ?_ ⟨Ext.refl _, CopyV_i2 _ _ _ _ _ _ _ _ _ _ _ _ rfl⟩
      simp only [Mono.all, List.take, Act.put]
      go_simp
    · simp only [List.getElem?_cons_succ, List.getElem?_cons_zero, Option.some.injEq] at ho
      subst ho
      rw [if_pos (Mono.wanted_none rfl)]
      have h0 : NewAt kTask w0.heap.size w5 (vals 0) := CopyV_e0 _ _ _ _ _ _ _ _ _ _ _ _ (hcl 0 (by kernel_rfl))
      have h2 : vals 2 = .slice A ts.length c := CopyV_e2 _ _ _ _ _ _ _ _ _ _ _ _ (hcl 2 (by kernel_rfl))
      obtain ⟨v', w', hr, hX, hO, hb⟩ := Kd.app_new kTask h0 (H.out.ext hE) (by omega) hE.size
      exact Kd.yields_app kTask (v := vals 0) (y := .slice A ts.length c) (.tmp 3) (.tmp 5) rfl rfl (by kernel_rfl) (by rw [← h2]; kernel_rfl) hr ⟨hX, CopyV_i3 _ _ _ _ _ _ _ _ _ _ _ _ hO⟩
    · simp only [List.getElem?_cons_succ, List.getElem?_cons_zero, Option.some.injEq] at ho
      subst ho
      rw [if_pos (Mono.wanted_none rfl)]
      clear hcl
      refine Mono.yields_same (.pointer (some ⟨P, 1, none⟩)) w5 ?_ ⟨Ext.refl _, CopyV_i4 _ _ _ _ _ _ _ _ _ _ _ _ rfl⟩
      simp only [Mono.all, List.take, Act.put]
      go_simp
    · simp only [List.getElem?_cons_succ, List.getElem?_cons_zero, Option.some.injEq] at ho
      subst ho
      rw [if_pos (Mono.wanted_none rfl)]
      have h1 : vals 4 = .pointer (some ⟨P, 1, none⟩) := CopyV_e4 _ _ _ _ _ _ _ _ _ _ _ _ (hcl 4 (by kernel_rfl))
      have k1 := hE.cell q1
      clear hcl
      refine Mono.yields_same (.int .i64 g) w5 ?_ ⟨Ext.refl _, CopyV_i5 _ _ _ _ _ _ _ _ _ _ _ _ rfl⟩
      simp only [Mono.all, List.take, Act.put]
      go_simp
    · simp only [List.getElem?_cons_succ, List.getElem?_cons_zero, Option.some.injEq] at ho
      subst ho
      rw [if_pos (Mono.wanted_none rfl)]
      clear hcl
      refine Mono.yields_same (.slice (some ⟨w5.heap.size, 0, none⟩) 0 0) (w5.alloc (.cells #[] kBool.e)) ?_ ⟨(Ext.refl _).alloc _, CopyV_i6 _ _ _ _ _ _ _ _ _ _ _ _ (NewAt.made w5 hE.size)⟩
      simp only [Mono.all, List.take, Act.put, kBool]
      go_simp
    · simp only [List.getElem?_cons_succ, List.getElem?_cons_zero, Option.some.injEq] at ho
      subst ho
      rw [if_pos (Mono.wanted_none rfl)]
      clear hcl
      refine Mono.yields_same (.pointer (some ⟨P, 2, none⟩)) w5 ?_ ⟨Ext.refl _, CopyV_i7 _ _ _ _ _ _ _ _ _ _ _ _ rfl⟩
      simp only [Mono.all, List.take, Act.put]
      go_simp
    · simp only [List.getElem?_cons_succ, List.getElem?_cons_zero, Option.some.injEq] at ho
      subst ho
      rw [if_pos (Mono.wanted_none rfl)]
      have h1 : vals 7 = .pointer (some ⟨P, 2, none⟩) := CopyV_e7 _ _ _ _ _ _ _ _ _ _ _ _ (hcl 7 (by kernel_rfl))
      have k1 := hE.cell q2
      clear hcl
      refine Mono.yields_same (.slice B dn.length d) w5 ?_ ⟨Ext.refl _, CopyV_i8 _ _ _ _ _ _ _ _ _ _ _ _ rfl⟩
      simp only [Mono.all, List.take, Act.put]
      go_simp
    · simp only [List.getElem?_cons_succ, List.getElem?_cons_zero, Option.some.injEq] at ho
      subst ho
      rw [if_pos (Mono.wanted_none rfl)]
      have h0 : NewAt kBool w0.heap.size w5 (vals 6) := CopyV_e6 _ _ _ _ _ _ _ _ _ _ _ _ (hcl 6 (by kernel_rfl))
      have h2 : vals 8 = .slice B dn.length d := CopyV_e8 _ _ _ _ _ _ _ _ _ _ _ _ (hcl 8 (by kernel_rfl))
      obtain ⟨v', w', hr, hX, hO, hb⟩ := Kd.app_new kBool h0 (HD.out.ext hE) (by omega) hE.size
      exact Kd.yields_app kBool (v := vals 6) (y := .slice B dn.length d) (.tmp 9) (.tmp 11) rfl rfl (by kernel_rfl) (by rw [← h2]; kernel_rfl) hr ⟨hX, CopyV_i9 _ _ _ _ _ _ _ _ _ _ _ _ hO⟩
    · simp only [List.getElem?_cons_succ, List.getElem?_cons_zero, Option.some.injEq] at ho
      subst ho
      rw [if_pos (Mono.wanted_none rfl)]
      obtain ⟨A3, c3, e3, _⟩ : OwAt kTask w0.heap.size w5 (vals 3) ts := CopyV_e3 _ _ _ _ _ _ _ _ _ _ _ _ (hcl 3 (by kernel_rfl))
      have e5 : vals 5 = .int .i64 g := CopyV_e5 _ _ _ _ _ _ _ _ _ _ _ _ (hcl 5 (by kernel_rfl))
      obtain ⟨A9, c9, e9, _⟩ : OwAt kBool w0.heap.size w5 (vals 9) dn := CopyV_e9 _ _ _ _ _ _ _ _ _ _ _ _ (hcl 9 (by kernel_rfl))
      clear hcl
      refine Mono.yields_same (.agg #[vals 3, vals 5, vals 9]) w5 ?_ ⟨Ext.refl _, CopyV_i10 _ _ _ _ _ _ _ _ _ _ _ _ (by kernel_rfl)⟩
      rw [e3, e5, e9]
      simp only [Mono.all, List.take, Act.put]
      go_simp
  · intro vals w5 hE hv
    have e2 := CopyV_e2 _ _ _ _ _ _ _ _ _ _ _ _ (hv 2 (by omega))
    obtain ⟨A3, c3, e3, ho3⟩ := CopyV_e3 _ _ _ _ _ _ _ _ _ _ _ _ (hv 3 (by omega))
    have e5 := CopyV_e5 _ _ _ _ _ _ _ _ _ _ _ _ (hv 5 (by omega))
    have e8 := CopyV_e8 _ _ _ _ _ _ _ _ _ _ _ _ (hv 8 (by omega))
    obtain ⟨A9, c9, e9, ho9⟩ := CopyV_e9 _ _ _ _ _ _ _ _ _ _ _ _ (hv 9 (by omega))
    have e10 : vals 10 = .agg #[vals 3, vals 5, vals 9] := (CopyV_e10 _ _ _ _ _ _ _ _ _ _ _ _ (hv 10 (by omega))).trans (by kernel_rfl)
    rw [e3, e5, e9] at e10
    have HO3 := Lib.hid ho3
    have HO9 := Lib.hid ho9
    have HEE := Lib.hid hE
    have hblk := block_keep r0 hE
    have k0 : w5.cell? ⟨P + 1, 0, none⟩ = some (.slice none 0 0) := (cell_of_row w5 _ 0 _ _ _ hblk).trans rfl
    have k1 : w5.cell? ⟨P + 1, 1, none⟩ = some (.int .i64 0) := (cell_of_row w5 _ 1 _ _ _ hblk).trans rfl
    have k2 : w5.cell? ⟨P + 1, 2, none⟩ = some (.slice none 0 0) := (cell_of_row w5 _ 2 _ _ _ hblk).trans rfl
    have kf : ∀ o, w5.frozen? ⟨P + 1, o, none⟩ = false := fun o => frozen_of_row _ _ o _ _ hblk
    clear hv ho3 ho9 hblk hE r0 q0 q1 q2
    simp only [Mono.all, List.take, List.drop, Act.put]
    rw [e10]
    go_wp2
    have hz := HZ.out
    have hp := HP.out
    refine bodyPost_ret (v := .agg #[.slice A3 ts.length c3, .int .i64 g, .slice A9 dn.length c9]) (by simp [results, Try.results7, go_sem, k0, k1, k2]) rfl ⟨A3, c3, A9, c9, rfl, ?_, ?_, ?_⟩
    · exact ((((HO3.out.setBelow (p := ⟨P + 1, 0, none⟩) (by show P + 1 < _; omega) _).setBelow (p := ⟨P + 1, 1, none⟩) (by show P + 1 < _; omega) _).setBelow (p := ⟨P + 1, 2, none⟩) (by show P + 1 < _; omega) _).mono (by omega))
    · exact ((((HO9.out.setBelow (p := ⟨P + 1, 0, none⟩) (by show P + 1 < _; omega) _).setBelow (p := ⟨P + 1, 1, none⟩) (by show P + 1 < _; omega) _).setBelow (p := ⟨P + 1, 2, none⟩) (by show P + 1 < _; omega) _).mono (by omega))
    · exact (((X.out.trans HEE.out).setCell (p := ⟨P + 1, 0, none⟩) (by show _ ≤ P + 1; omega) _).setCell (p := ⟨P + 1, 1, none⟩) (by show _ ≤ P + 1; omega) _).setCell (p := ⟨P + 1, 2, none⟩) (by show _ ≤ P + 1; omega) _
end Go.Proofs.Ytfigfndabokepaa
