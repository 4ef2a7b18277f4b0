/- The walk of PoolStays. -/
import Derived.Test.YtpmibjjplclkeaaPair
import Derived.Test.YtpmibjjplclkeaaLaws
namespace Go.Proofs.Ytpmibjjplclkeaa
open Go.BigFrame
open Go.RowKit Go.Proofs.Ytpmibjjplclkeaa.Plain

def VS (w0 : World) (p : Nat) (A B : Option Addr) (c d : Nat) (gs xs : List Int) : Nat → World → List Value → Value → Prop
  | 0, w, _, v => EmptyAt w0.heap.size w v
  | 1, _, _, v => v = .pointer (some ⟨p, 0, none⟩)
  | 2, _, _, v => v = .slice A gs.length c
  | 3, w, _, v => OwnAt w0.heap.size w v gs
  | 4, w, _, v => EmptyAt w0.heap.size w v
  | 5, _, _, v => v = .pointer (some ⟨p, 1, none⟩)
  | 6, _, _, v => v = .slice B xs.length d
  | 7, w, ds, v => OwnAt w0.heap.size w v xs ∧ (0 < xs.length → ∀ k, v.ownBlock = some k → (ds.getD 2 undef).ownBlock ≠ some k)
  | 8, _, ds, v => v = .agg #[ds.getD 0 undef, ds.getD 1 undef]
  | 9, w, _, v => BoxAt w0.heap.size w v #[.slice none 0 0, .slice none 0 0] 24
  | _, _, _, _ => True
theorem VS_ext (w0 : World) (p : Nat) (A B : Option Addr) (c d : Nat) (gs xs : List Int) : ∀ i w w' ds v, VS w0 p A B c d gs xs i w ds v → Ext w w' → VS w0 p A B c d gs xs i w' ds v
  | 0, _, _, _, _, h, hE => EmptyAt.ext h hE
  | 1, _, _, _, _, h, _ => h
  | 2, _, _, _, _, h, _ => h
  | 3, _, _, _, _, h, hE => OwnAt.ext h hE
  | 4, _, _, _, _, h, hE => EmptyAt.ext h hE
  | 5, _, _, _, _, h, _ => h
  | 6, _, _, _, _, h, _ => h
  | 7, _, _, _, _, h, hE => ⟨OwnAt.ext h.1 hE, h.2⟩
  | 8, _, _, _, _, h, _ => h
  | 9, _, _, _, _, h, hE => BoxAt.ext h hE
  | _ + 10, _, _, _, _, _, _ => trivial

section
variable (w0 : World) (p : Nat) (A B : Option Addr) (c d : Nat) (gs xs : List Int) (w : World) (ds : List Value) (v : Value)
theorem VS_i0 (h : EmptyAt w0.heap.size w v) : VS w0 p A B c d gs xs 0 w ds v := h
theorem VS_e0 (h : VS w0 p A B c d gs xs 0 w ds v) : EmptyAt w0.heap.size w v := h
theorem VS_i1 (h : v = .pointer (some ⟨p, 0, none⟩)) : VS w0 p A B c d gs xs 1 w ds v := h
theorem VS_e1 (h : VS w0 p A B c d gs xs 1 w ds v) : v = .pointer (some ⟨p, 0, none⟩) := h
theorem VS_i2 (h : v = .slice A gs.length c) : VS w0 p A B c d gs xs 2 w ds v := h
theorem VS_e2 (h : VS w0 p A B c d gs xs 2 w ds v) : v = .slice A gs.length c := h
theorem VS_i3 (h : OwnAt w0.heap.size w v gs) : VS w0 p A B c d gs xs 3 w ds v := h
theorem VS_e3 (h : VS w0 p A B c d gs xs 3 w ds v) : OwnAt w0.heap.size w v gs := h
theorem VS_i4 (h : EmptyAt w0.heap.size w v) : VS w0 p A B c d gs xs 4 w ds v := h
theorem VS_e4 (h : VS w0 p A B c d gs xs 4 w ds v) : EmptyAt w0.heap.size w v := h
theorem VS_i5 (h : v = .pointer (some ⟨p, 1, none⟩)) : VS w0 p A B c d gs xs 5 w ds v := h
theorem VS_e5 (h : VS w0 p A B c d gs xs 5 w ds v) : v = .pointer (some ⟨p, 1, none⟩) := h
theorem VS_i6 (h : v = .slice B xs.length d) : VS w0 p A B c d gs xs 6 w ds v := h
theorem VS_e6 (h : VS w0 p A B c d gs xs 6 w ds v) : v = .slice B xs.length d := h
theorem VS_i9 (h : BoxAt w0.heap.size w v #[.slice none 0 0, .slice none 0 0] 24) : VS w0 p A B c d gs xs 9 w ds v := h
theorem VS_e9 (h : VS w0 p A B c d gs xs 9 w ds v) : BoxAt w0.heap.size w v #[.slice none 0 0, .slice none 0 0] 24 := h
theorem VS_i7 (u : Value) (hu : ds.getD 2 undef = u) (h : OwnAt w0.heap.size w v xs) (h2 : 0 < xs.length → ∀ k, v.ownBlock = some k → u.ownBlock ≠ some k) : VS w0 p A B c d gs xs 7 w ds v := by subst hu; exact ⟨h, h2⟩
theorem VS_e7 (h : VS w0 p A B c d gs xs 7 w ds v) : OwnAt w0.heap.size w v xs ∧ (0 < xs.length → ∀ k, v.ownBlock = some k → (ds.getD 2 undef).ownBlock ≠ some k) := h
theorem VS_i8 (h : v = .agg #[ds.getD 0 undef, ds.getD 1 undef]) : VS w0 p A B c d gs xs 8 w ds v := h
theorem VS_e8 (h : VS w0 p A B c d gs xs 8 w ds v) : v = .agg #[ds.getD 0 undef, ds.getD 1 undef] := h
end

theorem same_refl (gs xs : List Int) : same2B gs xs gs xs = true := by unfold same2B sameB; simp

set_option maxHeartbeats 8000000 in
set_option maxRecDepth 100000 in
theorem stays_walk (A B : Option Addr) (c d : Nat) (gs xs : List Int) (hc hg : Int) (w : World) (h : Ints w (.slice A gs.length c) gs) (h' : Ints w (.slice B xs.length d) xs)
    (bc : -9223372036854775808 ≤ hc ∧ hc ≤ 9223372036854775807) (bg : -9223372036854775808 ≤ hg ∧ hg ≤ 9223372036854775807) (hgr : gs.length ≤ 300 ∧ xs.length ≤ 300) :
    Calls Try.prog 5 #[.agg #[.slice A gs.length c, .slice B xs.length d], .agg #[.int .i64 hc, .int .i64 hg]] w fun e w' => e = .returned (.bool true) ∧ Ext w w' := by
  have HG := Lib.hid h
  have HX := Lib.hid h'
  have GR : Hid ((decide (300 < gs.length) || decide (300 < xs.length)) = false) := Lib.hid (by rw [decide_eq_false (by omega), decide_eq_false (by omega)]; rfl)
  clear h h'
  go_enter Try.func5, Try.ntmps5
  go_wp2_with fail
  refine (alive_any _).mono ?_
  rintro e w1 ⟨rfl, hE⟩
  have E1 := Lib.hid ((((Ext.refl _).alloc _).alloc _).trans hE)
  have z1 := hE.size
  try simp at z1
  have c_p_0_1 : w1.cell? ⟨w.heap.size, 0, none⟩ = some (.slice A gs.length c) := hE.cell (by go_simp)
  have c_p_1_1 : w1.cell? ⟨w.heap.size, 1, none⟩ = some (.slice B xs.length d) := hE.cell (by go_simp)
  have c_h_0_1 : w1.cell? ⟨w.heap.size + 1, 0, none⟩ = some (.int .i64 hc) := hE.cell (by go_simp)
  have c_h_1_1 : w1.cell? ⟨w.heap.size + 1, 1, none⟩ = some (.int .i64 hg) := hE.cell (by go_simp)
  have l_p_0_1 : w.heap.size < w1.heap.size := by omega
  have l_p_1_1 : w.heap.size < w1.heap.size + 1 := by omega
  have l_p_2_1 : w.heap.size < w1.heap.size + 1 + 1 := by omega
  have l_h_0_1 : w.heap.size + 1 < w1.heap.size := by omega
  have l_h_1_1 : w.heap.size + 1 < w1.heap.size + 1 := by omega
  have l_h_2_1 : w.heap.size + 1 < w1.heap.size + 1 + 1 := by omega
  have Ig_1 := Lib.hid ((HG.out.ext (((Ext.refl _).alloc _).alloc _)).ext hE)
  have Ix_1 := Lib.hid ((HX.out.ext (((Ext.refl _).alloc _).alloc _)).ext hE)
  clear HG HX hE
  go_wp2_with fail
  refine (great_any _ _ _ _ _ _ _ (by omega) (by omega)).mono ?_
  rw [GR.out]
  rintro e w2 ⟨rfl, hE⟩
  have E2 := Lib.hid (E1.out.trans hE)
  have z2 := hE.size
  try simp at z2
  have c_p_0_2 : w2.cell? ⟨w.heap.size, 0, none⟩ = some (.slice A gs.length c) := hE.cell (by go_simp)
  have c_p_1_2 : w2.cell? ⟨w.heap.size, 1, none⟩ = some (.slice B xs.length d) := hE.cell (by go_simp)
  have c_h_0_2 : w2.cell? ⟨w.heap.size + 1, 0, none⟩ = some (.int .i64 hc) := hE.cell (by go_simp)
  have c_h_1_2 : w2.cell? ⟨w.heap.size + 1, 1, none⟩ = some (.int .i64 hg) := hE.cell (by go_simp)
  have l_p_0_2 : w.heap.size < w2.heap.size := by omega
  have l_p_1_2 : w.heap.size < w2.heap.size + 1 := by omega
  have l_p_2_2 : w.heap.size < w2.heap.size + 1 + 1 := by omega
  have l_h_0_2 : w.heap.size + 1 < w2.heap.size := by omega
  have l_h_1_2 : w.heap.size + 1 < w2.heap.size + 1 := by omega
  have l_h_2_2 : w.heap.size + 1 < w2.heap.size + 1 + 1 := by omega
  have Ig_2 := Lib.hid (Ig_1.out.ext hE)
  have Ix_2 := Lib.hid (Ix_1.out.ext hE)
  clear c_p_0_1 c_p_1_1 c_h_0_1 c_h_1_1 l_p_0_1 l_p_1_1 l_p_2_1 l_h_0_1 l_h_1_1 l_h_2_1 Ig_1 Ix_1 E1 hE
  go_upto_region 5 with fail
  go_cut [5] (fun s wx => NewPool w2 gs xs s wx)
  case first =>
    refine Mono.wp_region_mono 10 (VS w2 w.heap.size A B c d gs xs) (by kernel_rfl) (by kernel_rfl) (VS_ext w2 w.heap.size A B c d gs xs) ?_ ?_
    · intro i o hi ho vals w5 hE hcl
      have hi' : i = 0 ∨ i = 1 ∨ i = 2 ∨ i = 3 ∨ i = 4 ∨ i = 5 ∨ i = 6 ∨ i = 7 ∨ i = 8 ∨ i = 9 := by omega
      rcases hi' with rfl | rfl | rfl | rfl | rfl | rfl | rfl | rfl | rfl | rfl
      · simp only [List.getElem?_cons_succ, List.getElem?_cons_zero, Option.some.injEq] at ho
        subst ho
        rw [if_pos (Mono.wanted_none rfl)]
        refine Mono.yields_same (.slice (some ⟨w5.heap.size, 0, none⟩) 0 0) (w5.alloc (.cells #[] 3)) ?_ ⟨(Ext.refl _).alloc _, VS_i0 _ _ _ _ _ _ _ _ _ _ _ ⟨w5.heap.size, rfl, hE.size, hp_new rfl⟩⟩
        simp only [Mono.all, List.take, Act.put]
        go_simp
      · simp only [List.getElem?_cons_succ, List.getElem?_cons_zero, Option.some.injEq] at ho
        subst ho
        rw [if_pos (Mono.wanted_none rfl)]
        refine Mono.yields_same (.pointer (some ⟨w.heap.size, 0, none⟩)) w5 ?_ ⟨Ext.refl _, VS_i1 _ _ _ _ _ _ _ _ _ _ _ rfl⟩
        simp only [Mono.all, List.take, Act.put]
        go_simp
      · simp only [List.getElem?_cons_succ, List.getElem?_cons_zero, Option.some.injEq] at ho
        subst ho
        rw [if_pos (Mono.wanted_none rfl)]
        have h1 : vals 1 = .pointer (some ⟨w.heap.size, 0, none⟩) := VS_e1 _ _ _ _ _ _ _ _ _ _ _ (hcl 1 (by kernel_rfl))
        have k1 := hE.cell c_p_0_2
        clear hcl
        refine Mono.yields_same (.slice A gs.length c) w5 ?_ ⟨Ext.refl _, VS_i2 _ _ _ _ _ _ _ _ _ _ _ rfl⟩
        simp only [Mono.all, List.take, Act.put]
        go_simp
      · simp only [List.getElem?_cons_succ, List.getElem?_cons_zero, Option.some.injEq] at ho
        subst ho
        rw [if_pos (Mono.wanted_none rfl)]
        have h0 : EmptyAt w2.heap.size w5 (vals 0) := VS_e0 _ _ _ _ _ _ _ _ _ _ _ (hcl 0 (by kernel_rfl))
        have h2 : vals 2 = .slice A gs.length c := VS_e2 _ _ _ _ _ _ _ _ _ _ _ (hcl 2 (by kernel_rfl))
        obtain ⟨v', w', hr, hX, hO, hb⟩ := app_empty h0 (Ig_2.out.ext hE) (by omega) hE.size
        exact yields_app (v := vals 0) (y := .slice A gs.length c) (.tmp 20) (.tmp 22) rfl rfl (by kernel_rfl) (by rw [← h2]; kernel_rfl) hr ⟨hX, VS_i3 _ _ _ _ _ _ _ _ _ _ _ hO⟩
      · simp only [List.getElem?_cons_succ, List.getElem?_cons_zero, Option.some.injEq] at ho
        subst ho
        rw [if_pos (Mono.wanted_none rfl)]
        refine Mono.yields_same (.slice (some ⟨w5.heap.size, 0, none⟩) 0 0) (w5.alloc (.cells #[] 3)) ?_ ⟨(Ext.refl _).alloc _, VS_i4 _ _ _ _ _ _ _ _ _ _ _ ⟨w5.heap.size, rfl, hE.size, hp_new rfl⟩⟩
        simp only [Mono.all, List.take, Act.put]
        go_simp
      · simp only [List.getElem?_cons_succ, List.getElem?_cons_zero, Option.some.injEq] at ho
        subst ho
        rw [if_pos (Mono.wanted_none rfl)]
        refine Mono.yields_same (.pointer (some ⟨w.heap.size, 1, none⟩)) w5 ?_ ⟨Ext.refl _, VS_i5 _ _ _ _ _ _ _ _ _ _ _ rfl⟩
        simp only [Mono.all, List.take, Act.put]
        go_simp
      · simp only [List.getElem?_cons_succ, List.getElem?_cons_zero, Option.some.injEq] at ho
        subst ho
        rw [if_pos (Mono.wanted_none rfl)]
        have h1 : vals 5 = .pointer (some ⟨w.heap.size, 1, none⟩) := VS_e5 _ _ _ _ _ _ _ _ _ _ _ (hcl 5 (by kernel_rfl))
        have k1 := hE.cell c_p_1_2
        clear hcl
        refine Mono.yields_same (.slice B xs.length d) w5 ?_ ⟨Ext.refl _, VS_i6 _ _ _ _ _ _ _ _ _ _ _ rfl⟩
        simp only [Mono.all, List.take, Act.put]
        go_simp
      · simp only [List.getElem?_cons_succ, List.getElem?_cons_zero, Option.some.injEq] at ho
        subst ho
        rw [if_pos (Mono.wanted_none rfl)]
        have h0 : EmptyAt w2.heap.size w5 (vals 4) := VS_e4 _ _ _ _ _ _ _ _ _ _ _ (hcl 4 (by kernel_rfl))
        have h2 : vals 6 = .slice B xs.length d := VS_e6 _ _ _ _ _ _ _ _ _ _ _ (hcl 6 (by kernel_rfl))
        have h3 : OwnAt w2.heap.size w5 (vals 3) gs := VS_e3 _ _ _ _ _ _ _ _ _ _ _ (hcl 3 (by kernel_rfl))
        obtain ⟨v', w', hr, hX, hO, hb⟩ := app_empty h0 (Ix_2.out.ext hE) (by omega) hE.size
        refine yields_app (v := vals 4) (y := .slice B xs.length d) (.tmp 24) (.tmp 26) rfl rfl (by kernel_rfl) (by rw [← h2]; kernel_rfl) hr ⟨hX, VS_i7 _ _ _ _ _ _ _ _ _ _ _ (vals 3) (by kernel_rfl) hO (fun h k hk => ?_)⟩
        obtain ⟨A3, c3, e3, ho3⟩ := h3
        intro he
        rw [e3] at he
        have := (ho3.lt k he).2
        rw [hb h] at hk
        cases hk
        omega
      · simp only [List.getElem?_cons_succ, List.getElem?_cons_zero, Option.some.injEq] at ho
        subst ho
        rw [if_pos (Mono.wanted_none rfl)]
        obtain ⟨A3, c3, e3, ho3⟩ : OwnAt w2.heap.size w5 (vals 3) gs := VS_e3 _ _ _ _ _ _ _ _ _ _ _ (hcl 3 (by kernel_rfl))
        obtain ⟨A7, c7, e7, ho7⟩ : OwnAt w2.heap.size w5 (vals 7) xs := (VS_e7 _ _ _ _ _ _ _ _ _ _ _ (hcl 7 (by kernel_rfl))).1
        clear hcl
        refine Mono.yields_same (.agg #[vals 3, vals 7]) w5 ?_ ⟨Ext.refl _, VS_i8 _ _ _ _ _ _ _ _ _ _ _ (by kernel_rfl)⟩
        rw [e3, e7]
        simp only [Mono.all, List.take, Act.put]
        go_simp
      · simp only [List.getElem?_cons_succ, List.getElem?_cons_zero, Option.some.injEq] at ho
        subst ho
        rw [if_pos (Mono.wanted_none rfl)]
        refine Mono.yields_same (.pointer (some ⟨w5.heap.size, 0, none⟩)) (w5.alloc (.cells #[.slice none 0 0, .slice none 0 0] 24)) ?_ ⟨(Ext.refl _).alloc _, VS_i9 _ _ _ _ _ _ _ _ _ _ _ ⟨w5.heap.size, rfl, hE.size, hp_new rfl⟩⟩
        simp only [Mono.all, List.take, Act.put]
        go_simp
    · intro vals w5 hE hv
      obtain ⟨A3, c3, e3, ho3⟩ := VS_e3 _ _ _ _ _ _ _ _ _ _ _ (hv 3 (by omega))
      obtain ⟨⟨A7, c7, e7, ho7⟩, hb7⟩ := VS_e7 _ _ _ _ _ _ _ _ _ _ _ (hv 7 (by omega))
      obtain ⟨g, e9, hg9, hblk⟩ := VS_e9 _ _ _ _ _ _ _ _ _ _ _ (hv 9 (by omega))
      have e8 : vals 8 = .agg #[vals 3, vals 7] := (VS_e8 _ _ _ _ _ _ _ _ _ _ _ (hv 8 (by omega))).trans (by kernel_rfl)
      have hb : 0 < xs.length → ∀ k, Value.ownBlock (.slice A7 xs.length c7) = some k → Value.ownBlock (.slice A3 gs.length c3) ≠ some k := fun h k hk => by
        have := hb7 h k (by rw [e7]; exact hk)
        have e : ((List.map vals [4, 6, 3]).getD 2 undef) = vals 3 := rfl
        rw [← e3]
        exact this
      have HB := Lib.hid hb
      have HO3 := Lib.hid ho3
      have HO7 := Lib.hid ho7
      have HBLK := Lib.hid hblk
      have HEE := Lib.hid hE
      have k0 : w5.cell? ⟨g, 0, none⟩ = some (.slice none 0 0) := (cell_of_row w5 g 0 _ _ _ hblk).trans rfl
      have k1 : w5.cell? ⟨g, 1, none⟩ = some (.slice none 0 0) := (cell_of_row w5 g 1 _ _ _ hblk).trans rfl
      have k2 : ∀ o, w5.frozen? ⟨g, o, none⟩ = false := fun o => frozen_of_row _ _ o _ _ hblk
      rw [e3, e7] at e8
      clear hv hb7 hb ho3 ho7 hblk hE
      simp only [Mono.all, List.take, List.drop, Act.put]
      rw [e8, e9]
      go_wp2
      go_meet
      exact tail_pool HEE.out HO3.out HO7.out HB.out hg9 HBLK.out
  case rest =>
    obtain ⟨g, A3, c3, B3, d3, rfl, hg1, hg2, k0, k1, k2, ho3, ho7, _, hE⟩ := hcut
    have c_p_0_c := hE.cell c_p_0_2
    have c_p_1_c := hE.cell c_p_1_2
    have c_h_0_c := hE.cell c_h_0_2
    have c_h_1_c := hE.cell c_h_1_2
    have zc := hE.size
    have lc0 : w.heap.size < wc.heap.size := by omega
    have lc1 : w.heap.size + 1 < wc.heap.size := by omega
    have EC := Lib.hid (E2.out.trans hE)
    have IgC := Lib.hid (Ig_2.out.ext hE)
    have IxC := Lib.hid (Ix_2.out.ext hE)
    have IogC := Lib.hid ho3.ints
    have IoxC := Lib.hid ho7.ints
    clear ho3 ho7 hE c_p_0_2 c_p_1_2 c_h_0_2 c_h_1_2 l_p_0_2 l_p_1_2 l_p_2_2 l_h_0_2 l_h_1_2 l_h_2_2
    go_wp2_with fail
    refine (take_any _ _ _ _ gs xs _ IogC.out IoxC.out (by omega) (by omega)).mono ?_
    rintro e w3 ⟨A4, c4, B4, d4, rfl, ht1, ht2, hE⟩
    have E3 := Lib.hid (EC.out.trans hE)
    have z3 := hE.size
    try simp at z3
    have c_p_0_3 : w3.cell? ⟨w.heap.size, 0, none⟩ = some (.slice A gs.length c) := hE.cell (by go_simp)
    have c_p_1_3 : w3.cell? ⟨w.heap.size, 1, none⟩ = some (.slice B xs.length d) := hE.cell (by go_simp)
    have c_h_0_3 : w3.cell? ⟨w.heap.size + 1, 0, none⟩ = some (.int .i64 hc) := hE.cell (by go_simp)
    have c_h_1_3 : w3.cell? ⟨w.heap.size + 1, 1, none⟩ = some (.int .i64 hg) := hE.cell (by go_simp)
    have c_o_0_3 : w3.cell? ⟨g, 0, none⟩ = some (.slice A3 gs.length c3) := hE.cell (by go_simp)
    have c_o_1_3 : w3.cell? ⟨g, 1, none⟩ = some (.slice B3 xs.length d3) := hE.cell (by go_simp)
    have l_p_0_3 : w.heap.size < w3.heap.size := by omega
    have l_p_1_3 : w.heap.size < w3.heap.size + 1 := by omega
    have l_p_2_3 : w.heap.size < w3.heap.size + 1 + 1 := by omega
    have l_h_0_3 : w.heap.size + 1 < w3.heap.size := by omega
    have l_h_1_3 : w.heap.size + 1 < w3.heap.size + 1 := by omega
    have l_h_2_3 : w.heap.size + 1 < w3.heap.size + 1 + 1 := by omega
    have l_o_0_3 : g < w3.heap.size := by omega
    have l_o_1_3 : g < w3.heap.size + 1 := by omega
    have l_o_2_3 : g < w3.heap.size + 1 + 1 := by omega
    have Ig_3 := Lib.hid (IgC.out.ext hE)
    have Ix_3 := Lib.hid (IxC.out.ext hE)
    have Iog_3 := Lib.hid (IogC.out.ext hE)
    have Iox_3 := Lib.hid (IoxC.out.ext hE)
    clear c_p_0_c c_p_1_c c_h_0_c c_h_1_c k0 k1 k2 hg2 IgC IxC IogC IoxC EC hE
    have Ita_3 := Lib.hid ht1
    clear ht1
    have Itx_3 := Lib.hid ht2
    clear ht2
    go_wp2_with fail
    refine (give_any _ _ _ _ gs xs hc hg _ (Iog_3.out.ext (((Ext.refl _).alloc _).alloc _)) (Iox_3.out.ext (((Ext.refl _).alloc _).alloc _)) (by omega) (by omega) bc).mono ?_
    rintro e w4 ⟨A5, c5, B5, d5, rfl, ht1, ht2, hE⟩
    have E4 := Lib.hid (((E3.out.alloc _).alloc _).trans hE)
    have z4 := hE.size
    try simp at z4
    have c_p_0_4 : w4.cell? ⟨w.heap.size, 0, none⟩ = some (.slice A gs.length c) := hE.cell (by go_simp)
    have c_p_1_4 : w4.cell? ⟨w.heap.size, 1, none⟩ = some (.slice B xs.length d) := hE.cell (by go_simp)
    have c_h_0_4 : w4.cell? ⟨w.heap.size + 1, 0, none⟩ = some (.int .i64 hc) := hE.cell (by go_simp)
    have c_h_1_4 : w4.cell? ⟨w.heap.size + 1, 1, none⟩ = some (.int .i64 hg) := hE.cell (by go_simp)
    have c_o_0_4 : w4.cell? ⟨g, 0, none⟩ = some (.slice A3 gs.length c3) := hE.cell (by go_simp)
    have c_o_1_4 : w4.cell? ⟨g, 1, none⟩ = some (.slice B3 xs.length d3) := hE.cell (by go_simp)
    have c_a_0_4 : w4.cell? ⟨w3.heap.size, 0, none⟩ = some (.slice A4 (takeG gs xs).length c4) := hE.cell (by go_simp)
    have c_a_1_4 : w4.cell? ⟨w3.heap.size, 1, none⟩ = some (.slice B4 (takeX gs xs).length d4) := hE.cell (by go_simp)
    have c_hx_0_4 : w4.cell? ⟨w3.heap.size + 1, 0, none⟩ = some (.int .i64 (takeC gs xs)) := hE.cell (by go_simp)
    have c_hx_1_4 : w4.cell? ⟨w3.heap.size + 1, 1, none⟩ = some (.int .i64 (takeN gs xs)) := hE.cell (by go_simp)
    have l_p_0_4 : w.heap.size < w4.heap.size := by omega
    have l_p_1_4 : w.heap.size < w4.heap.size + 1 := by omega
    have l_p_2_4 : w.heap.size < w4.heap.size + 1 + 1 := by omega
    have l_h_0_4 : w.heap.size + 1 < w4.heap.size := by omega
    have l_h_1_4 : w.heap.size + 1 < w4.heap.size + 1 := by omega
    have l_h_2_4 : w.heap.size + 1 < w4.heap.size + 1 + 1 := by omega
    have l_o_0_4 : g < w4.heap.size := by omega
    have l_o_1_4 : g < w4.heap.size + 1 := by omega
    have l_o_2_4 : g < w4.heap.size + 1 + 1 := by omega
    have l_a_0_4 : w3.heap.size < w4.heap.size := by omega
    have l_a_1_4 : w3.heap.size < w4.heap.size + 1 := by omega
    have l_a_2_4 : w3.heap.size < w4.heap.size + 1 + 1 := by omega
    have l_hx_0_4 : w3.heap.size + 1 < w4.heap.size := by omega
    have l_hx_1_4 : w3.heap.size + 1 < w4.heap.size + 1 := by omega
    have l_hx_2_4 : w3.heap.size + 1 < w4.heap.size + 1 + 1 := by omega
    have Ig_4 := Lib.hid ((Ig_3.out.ext (((Ext.refl _).alloc _).alloc _)).ext hE)
    have Ix_4 := Lib.hid ((Ix_3.out.ext (((Ext.refl _).alloc _).alloc _)).ext hE)
    have Iog_4 := Lib.hid ((Iog_3.out.ext (((Ext.refl _).alloc _).alloc _)).ext hE)
    have Iox_4 := Lib.hid ((Iox_3.out.ext (((Ext.refl _).alloc _).alloc _)).ext hE)
    have Ita_4 := Lib.hid ((Ita_3.out.ext (((Ext.refl _).alloc _).alloc _)).ext hE)
    have Itx_4 := Lib.hid ((Itx_3.out.ext (((Ext.refl _).alloc _).alloc _)).ext hE)
    clear c_p_0_3 c_p_1_3 c_h_0_3 c_h_1_3 c_o_0_3 c_o_1_3 l_p_0_3 l_p_1_3 l_p_2_3 l_h_0_3 l_h_1_3 l_h_2_3 l_o_0_3 l_o_1_3 l_o_2_3 Ig_3 Ix_3 Iog_3 Iox_3 Ita_3 Itx_3 E3 hE
    have Igb_4 := Lib.hid ht1
    clear ht1
    have Ixb_4 := Lib.hid ht2
    clear ht2
    go_wp2_with fail
    refine (same_any _ _ _ _ _ _ _ _ gs xs gs xs _ (Iog_4.out.ext ((Ext.refl _).alloc _)) (Iox_4.out.ext ((Ext.refl _).alloc _)) (Ig_4.out.ext ((Ext.refl _).alloc _)) (Ix_4.out.ext ((Ext.refl _).alloc _))).mono ?_
    rw [same_refl]
    rintro e w5 ⟨rfl, hE⟩
    have E5 := Lib.hid ((E4.out.alloc _).trans hE)
    have z5 := hE.size
    try simp at z5
    have c_p_0_5 : w5.cell? ⟨w.heap.size, 0, none⟩ = some (.slice A gs.length c) := hE.cell (by go_simp)
    have c_p_1_5 : w5.cell? ⟨w.heap.size, 1, none⟩ = some (.slice B xs.length d) := hE.cell (by go_simp)
    have c_h_0_5 : w5.cell? ⟨w.heap.size + 1, 0, none⟩ = some (.int .i64 hc) := hE.cell (by go_simp)
    have c_h_1_5 : w5.cell? ⟨w.heap.size + 1, 1, none⟩ = some (.int .i64 hg) := hE.cell (by go_simp)
    have c_a_0_5 : w5.cell? ⟨w3.heap.size, 0, none⟩ = some (.slice A4 (takeG gs xs).length c4) := hE.cell (by go_simp)
    have c_a_1_5 : w5.cell? ⟨w3.heap.size, 1, none⟩ = some (.slice B4 (takeX gs xs).length d4) := hE.cell (by go_simp)
    have c_hx_0_5 : w5.cell? ⟨w3.heap.size + 1, 0, none⟩ = some (.int .i64 (takeC gs xs)) := hE.cell (by go_simp)
    have c_hx_1_5 : w5.cell? ⟨w3.heap.size + 1, 1, none⟩ = some (.int .i64 (takeN gs xs)) := hE.cell (by go_simp)
    have c_b_0_5 : w5.cell? ⟨w4.heap.size, 0, none⟩ = some (.slice A5 gs.length c5) := hE.cell (by go_simp)
    have c_b_1_5 : w5.cell? ⟨w4.heap.size, 1, none⟩ = some (.slice B5 (giveX gs xs hc hg).length d5) := hE.cell (by go_simp)
    have l_p_0_5 : w.heap.size < w5.heap.size := by omega
    have l_p_1_5 : w.heap.size < w5.heap.size + 1 := by omega
    have l_p_2_5 : w.heap.size < w5.heap.size + 1 + 1 := by omega
    have l_h_0_5 : w.heap.size + 1 < w5.heap.size := by omega
    have l_h_1_5 : w.heap.size + 1 < w5.heap.size + 1 := by omega
    have l_h_2_5 : w.heap.size + 1 < w5.heap.size + 1 + 1 := by omega
    have l_a_0_5 : w3.heap.size < w5.heap.size := by omega
    have l_a_1_5 : w3.heap.size < w5.heap.size + 1 := by omega
    have l_a_2_5 : w3.heap.size < w5.heap.size + 1 + 1 := by omega
    have l_hx_0_5 : w3.heap.size + 1 < w5.heap.size := by omega
    have l_hx_1_5 : w3.heap.size + 1 < w5.heap.size + 1 := by omega
    have l_hx_2_5 : w3.heap.size + 1 < w5.heap.size + 1 + 1 := by omega
    have l_b_0_5 : w4.heap.size < w5.heap.size := by omega
    have l_b_1_5 : w4.heap.size < w5.heap.size + 1 := by omega
    have l_b_2_5 : w4.heap.size < w5.heap.size + 1 + 1 := by omega
    have Ig_5 := Lib.hid ((Ig_4.out.ext ((Ext.refl _).alloc _)).ext hE)
    have Ix_5 := Lib.hid ((Ix_4.out.ext ((Ext.refl _).alloc _)).ext hE)
    have Iog_5 := Lib.hid ((Iog_4.out.ext ((Ext.refl _).alloc _)).ext hE)
    have Iox_5 := Lib.hid ((Iox_4.out.ext ((Ext.refl _).alloc _)).ext hE)
    have Ita_5 := Lib.hid ((Ita_4.out.ext ((Ext.refl _).alloc _)).ext hE)
    have Itx_5 := Lib.hid ((Itx_4.out.ext ((Ext.refl _).alloc _)).ext hE)
    have Igb_5 := Lib.hid ((Igb_4.out.ext ((Ext.refl _).alloc _)).ext hE)
    have Ixb_5 := Lib.hid ((Ixb_4.out.ext ((Ext.refl _).alloc _)).ext hE)
    clear c_p_0_4 c_p_1_4 c_h_0_4 c_h_1_4 c_o_0_4 c_o_1_4 c_a_0_4 c_a_1_4 c_hx_0_4 c_hx_1_4 l_p_0_4 l_p_1_4 l_p_2_4 l_h_0_4 l_h_1_4 l_h_2_4 l_o_0_4 l_o_1_4 l_o_2_4 l_a_0_4 l_a_1_4 l_a_2_4 l_hx_0_4 l_hx_1_4 l_hx_2_4 Ig_4 Ix_4 Iog_4 Iox_4 Ita_4 Itx_4 Igb_4 Ixb_4 E4 hE
    by_cases hT : takeE gs xs = 0
    · obtain ⟨t1, t2, t3, t4, t5, t6, t7, t8, t9⟩ := take_give gs xs hT
      have eT : (takeE gs xs == 0) = true := by rw [hT]; rfl
      have TG1 := Lib.hid t1
      have TG2 := Lib.hid t2
      have TM := Lib.hid t7
      have t3' : (takeG gs xs).length ≤ 300 := by omega
      clear hT t1 t2 t3 t7
      go_wp2_with fail
      refine (give_to _ _ (takeG gs xs).length (takeX gs xs).length _ _ (takeG gs xs) (takeX gs xs) xs (takeC gs xs) (takeN gs xs) 0 xs.length _ Ita_5.out Itx_5.out rfl rfl (by omega) (by omega) (by omega) TG2.out TG1.out rfl).mono ?_
      rintro e w6 ⟨A6, c6, B6, d6, rfl, ht1, ht2, hE⟩
      have E6 := Lib.hid (E5.out.trans hE)
      have z6 := hE.size
      try simp at z6
      have c_p_0_6 : w6.cell? ⟨w.heap.size, 0, none⟩ = some (.slice A gs.length c) := hE.cell (by go_simp)
      have c_p_1_6 : w6.cell? ⟨w.heap.size, 1, none⟩ = some (.slice B xs.length d) := hE.cell (by go_simp)
      have c_h_0_6 : w6.cell? ⟨w.heap.size + 1, 0, none⟩ = some (.int .i64 hc) := hE.cell (by go_simp)
      have c_h_1_6 : w6.cell? ⟨w.heap.size + 1, 1, none⟩ = some (.int .i64 hg) := hE.cell (by go_simp)
      have c_hx_0_6 : w6.cell? ⟨w3.heap.size + 1, 0, none⟩ = some (.int .i64 (takeC gs xs)) := hE.cell (by go_simp)
      have c_hx_1_6 : w6.cell? ⟨w3.heap.size + 1, 1, none⟩ = some (.int .i64 (takeN gs xs)) := hE.cell (by go_simp)
      have c_b_0_6 : w6.cell? ⟨w4.heap.size, 0, none⟩ = some (.slice A5 gs.length c5) := hE.cell (by go_simp)
      have c_b_1_6 : w6.cell? ⟨w4.heap.size, 1, none⟩ = some (.slice B5 (giveX gs xs hc hg).length d5) := hE.cell (by go_simp)
      have l_p_0_6 : w.heap.size < w6.heap.size := by omega
      have l_p_1_6 : w.heap.size < w6.heap.size + 1 := by omega
      have l_p_2_6 : w.heap.size < w6.heap.size + 1 + 1 := by omega
      have l_h_0_6 : w.heap.size + 1 < w6.heap.size := by omega
      have l_h_1_6 : w.heap.size + 1 < w6.heap.size + 1 := by omega
      have l_h_2_6 : w.heap.size + 1 < w6.heap.size + 1 + 1 := by omega
      have l_hx_0_6 : w3.heap.size + 1 < w6.heap.size := by omega
      have l_hx_1_6 : w3.heap.size + 1 < w6.heap.size + 1 := by omega
      have l_hx_2_6 : w3.heap.size + 1 < w6.heap.size + 1 + 1 := by omega
      have l_b_0_6 : w4.heap.size < w6.heap.size := by omega
      have l_b_1_6 : w4.heap.size < w6.heap.size + 1 := by omega
      have l_b_2_6 : w4.heap.size < w6.heap.size + 1 + 1 := by omega
      have Ig_6 := Lib.hid (Ig_5.out.ext hE)
      have Ix_6 := Lib.hid (Ix_5.out.ext hE)
      have Iog_6 := Lib.hid (Iog_5.out.ext hE)
      have Iox_6 := Lib.hid (Iox_5.out.ext hE)
      have Ita_6 := Lib.hid (Ita_5.out.ext hE)
      have Itx_6 := Lib.hid (Itx_5.out.ext hE)
      have Igb_6 := Lib.hid (Igb_5.out.ext hE)
      have Ixb_6 := Lib.hid (Ixb_5.out.ext hE)
      clear c_p_0_5 c_p_1_5 c_h_0_5 c_h_1_5 c_a_0_5 c_a_1_5 c_hx_0_5 c_hx_1_5 c_b_0_5 c_b_1_5 l_p_0_5 l_p_1_5 l_p_2_5 l_h_0_5 l_h_1_5 l_h_2_5 l_a_0_5 l_a_1_5 l_a_2_5 l_hx_0_5 l_hx_1_5 l_hx_2_5 l_b_0_5 l_b_1_5 l_b_2_5 Ig_5 Ix_5 Iog_5 Iox_5 Ita_5 Itx_5 Igb_5 Ixb_5 E5 hE
      have Igc_6 := Lib.hid ht1
      clear ht1
      have Ixc_6 := Lib.hid ht2
      clear ht2
      go_wp2_with fail
      refine (ints_to _ _ xs xs true _ (Ixc_6.out.ext ((Ext.refl _).alloc _)) (Ix_6.out.ext ((Ext.refl _).alloc _)) (by unfold sameB; simp)).mono ?_
      rintro e w7 ⟨rfl, hE⟩
      have E7 := Lib.hid ((E6.out.alloc _).trans hE)
      have z7 := hE.size
      try simp at z7
      have c_p_0_7 : w7.cell? ⟨w.heap.size, 0, none⟩ = some (.slice A gs.length c) := hE.cell (by go_simp)
      have c_p_1_7 : w7.cell? ⟨w.heap.size, 1, none⟩ = some (.slice B xs.length d) := hE.cell (by go_simp)
      have c_h_0_7 : w7.cell? ⟨w.heap.size + 1, 0, none⟩ = some (.int .i64 hc) := hE.cell (by go_simp)
      have c_h_1_7 : w7.cell? ⟨w.heap.size + 1, 1, none⟩ = some (.int .i64 hg) := hE.cell (by go_simp)
      have c_hx_0_7 : w7.cell? ⟨w3.heap.size + 1, 0, none⟩ = some (.int .i64 (takeC gs xs)) := hE.cell (by go_simp)
      have c_hx_1_7 : w7.cell? ⟨w3.heap.size + 1, 1, none⟩ = some (.int .i64 (takeN gs xs)) := hE.cell (by go_simp)
      have c_b_0_7 : w7.cell? ⟨w4.heap.size, 0, none⟩ = some (.slice A5 gs.length c5) := hE.cell (by go_simp)
      have c_b_1_7 : w7.cell? ⟨w4.heap.size, 1, none⟩ = some (.slice B5 (giveX gs xs hc hg).length d5) := hE.cell (by go_simp)
      have c_cc_0_7 : w7.cell? ⟨w6.heap.size, 0, none⟩ = some (.slice A6 (takeG gs xs).length c6) := hE.cell (by go_simp)
      have c_cc_1_7 : w7.cell? ⟨w6.heap.size, 1, none⟩ = some (.slice B6 xs.length d6) := hE.cell (by go_simp)
      have l_p_0_7 : w.heap.size < w7.heap.size := by omega
      have l_p_1_7 : w.heap.size < w7.heap.size + 1 := by omega
      have l_p_2_7 : w.heap.size < w7.heap.size + 1 + 1 := by omega
      have l_h_0_7 : w.heap.size + 1 < w7.heap.size := by omega
      have l_h_1_7 : w.heap.size + 1 < w7.heap.size + 1 := by omega
      have l_h_2_7 : w.heap.size + 1 < w7.heap.size + 1 + 1 := by omega
      have l_hx_0_7 : w3.heap.size + 1 < w7.heap.size := by omega
      have l_hx_1_7 : w3.heap.size + 1 < w7.heap.size + 1 := by omega
      have l_hx_2_7 : w3.heap.size + 1 < w7.heap.size + 1 + 1 := by omega
      have l_b_0_7 : w4.heap.size < w7.heap.size := by omega
      have l_b_1_7 : w4.heap.size < w7.heap.size + 1 := by omega
      have l_b_2_7 : w4.heap.size < w7.heap.size + 1 + 1 := by omega
      have l_cc_0_7 : w6.heap.size < w7.heap.size := by omega
      have l_cc_1_7 : w6.heap.size < w7.heap.size + 1 := by omega
      have l_cc_2_7 : w6.heap.size < w7.heap.size + 1 + 1 := by omega
      have Ig_7 := Lib.hid ((Ig_6.out.ext ((Ext.refl _).alloc _)).ext hE)
      have Ix_7 := Lib.hid ((Ix_6.out.ext ((Ext.refl _).alloc _)).ext hE)
      have Iog_7 := Lib.hid ((Iog_6.out.ext ((Ext.refl _).alloc _)).ext hE)
      have Iox_7 := Lib.hid ((Iox_6.out.ext ((Ext.refl _).alloc _)).ext hE)
      have Ita_7 := Lib.hid ((Ita_6.out.ext ((Ext.refl _).alloc _)).ext hE)
      have Itx_7 := Lib.hid ((Itx_6.out.ext ((Ext.refl _).alloc _)).ext hE)
      have Igb_7 := Lib.hid ((Igb_6.out.ext ((Ext.refl _).alloc _)).ext hE)
      have Ixb_7 := Lib.hid ((Ixb_6.out.ext ((Ext.refl _).alloc _)).ext hE)
      have Igc_7 := Lib.hid ((Igc_6.out.ext ((Ext.refl _).alloc _)).ext hE)
      have Ixc_7 := Lib.hid ((Ixc_6.out.ext ((Ext.refl _).alloc _)).ext hE)
      clear c_p_0_6 c_p_1_6 c_h_0_6 c_h_1_6 c_hx_0_6 c_hx_1_6 c_b_0_6 c_b_1_6 l_p_0_6 l_p_1_6 l_p_2_6 l_h_0_6 l_h_1_6 l_h_2_6 l_hx_0_6 l_hx_1_6 l_hx_2_6 l_b_0_6 l_b_1_6 l_b_2_6 Ig_6 Ix_6 Iog_6 Iox_6 Ita_6 Itx_6 Igb_6 Ixb_6 Igc_6 Ixc_6 E6 hE
      go_wp2_with fail
      refine (good_to _ _ (takeG gs xs).length xs.length _ _ (takeG gs xs) xs (takeC gs xs) (takeN gs xs) false _ Igc_7.out Ixc_7.out rfl rfl (by omega) (by rw [good_free _ _ _ _ TM.out]; simp)).mono ?_
      rintro e w8 ⟨rfl, hE⟩
      have E8 := Lib.hid (E7.out.trans hE)
      have z8 := hE.size
      try simp at z8
      have c_p_0_8 : w8.cell? ⟨w.heap.size, 0, none⟩ = some (.slice A gs.length c) := hE.cell (by go_simp)
      have c_p_1_8 : w8.cell? ⟨w.heap.size, 1, none⟩ = some (.slice B xs.length d) := hE.cell (by go_simp)
      have c_h_0_8 : w8.cell? ⟨w.heap.size + 1, 0, none⟩ = some (.int .i64 hc) := hE.cell (by go_simp)
      have c_h_1_8 : w8.cell? ⟨w.heap.size + 1, 1, none⟩ = some (.int .i64 hg) := hE.cell (by go_simp)
      have c_hx_0_8 : w8.cell? ⟨w3.heap.size + 1, 0, none⟩ = some (.int .i64 (takeC gs xs)) := hE.cell (by go_simp)
      have c_hx_1_8 : w8.cell? ⟨w3.heap.size + 1, 1, none⟩ = some (.int .i64 (takeN gs xs)) := hE.cell (by go_simp)
      have c_b_0_8 : w8.cell? ⟨w4.heap.size, 0, none⟩ = some (.slice A5 gs.length c5) := hE.cell (by go_simp)
      have c_b_1_8 : w8.cell? ⟨w4.heap.size, 1, none⟩ = some (.slice B5 (giveX gs xs hc hg).length d5) := hE.cell (by go_simp)
      have l_p_0_8 : w.heap.size < w8.heap.size := by omega
      have l_p_1_8 : w.heap.size < w8.heap.size + 1 := by omega
      have l_p_2_8 : w.heap.size < w8.heap.size + 1 + 1 := by omega
      have l_h_0_8 : w.heap.size + 1 < w8.heap.size := by omega
      have l_h_1_8 : w.heap.size + 1 < w8.heap.size + 1 := by omega
      have l_h_2_8 : w.heap.size + 1 < w8.heap.size + 1 + 1 := by omega
      have l_hx_0_8 : w3.heap.size + 1 < w8.heap.size := by omega
      have l_hx_1_8 : w3.heap.size + 1 < w8.heap.size + 1 := by omega
      have l_hx_2_8 : w3.heap.size + 1 < w8.heap.size + 1 + 1 := by omega
      have l_b_0_8 : w4.heap.size < w8.heap.size := by omega
      have l_b_1_8 : w4.heap.size < w8.heap.size + 1 := by omega
      have l_b_2_8 : w4.heap.size < w8.heap.size + 1 + 1 := by omega
      have Ig_8 := Lib.hid (Ig_7.out.ext hE)
      have Ix_8 := Lib.hid (Ix_7.out.ext hE)
      have Iog_8 := Lib.hid (Iog_7.out.ext hE)
      have Iox_8 := Lib.hid (Iox_7.out.ext hE)
      have Ita_8 := Lib.hid (Ita_7.out.ext hE)
      have Itx_8 := Lib.hid (Itx_7.out.ext hE)
      have Igb_8 := Lib.hid (Igb_7.out.ext hE)
      have Ixb_8 := Lib.hid (Ixb_7.out.ext hE)
      have Igc_8 := Lib.hid (Igc_7.out.ext hE)
      have Ixc_8 := Lib.hid (Ixc_7.out.ext hE)
      clear c_p_0_7 c_p_1_7 c_h_0_7 c_h_1_7 c_hx_0_7 c_hx_1_7 c_b_0_7 c_b_1_7 c_cc_0_7 c_cc_1_7 l_p_0_7 l_p_1_7 l_p_2_7 l_h_0_7 l_h_1_7 l_h_2_7 l_hx_0_7 l_hx_1_7 l_hx_2_7 l_b_0_7 l_b_1_7 l_b_2_7 l_cc_0_7 l_cc_1_7 l_cc_2_7 Ig_7 Ix_7 Iog_7 Iox_7 Ita_7 Itx_7 Igb_7 Ixb_7 Igc_7 Ixc_7 E7 hE
      go_wp2_with fail
      refine (good_to _ _ gs.length xs.length _ _ gs xs (takeC gs xs) (takeN gs xs) false _ Ig_8.out Ix_8.out rfl rfl (by omega) (by rw [good_free _ _ _ _ TM.out]; simp)).mono ?_
      rintro e w9 ⟨rfl, hE⟩
      have E9 := Lib.hid (E8.out.trans hE)
      have z9 := hE.size
      try simp at z9
      have c_p_0_9 : w9.cell? ⟨w.heap.size, 0, none⟩ = some (.slice A gs.length c) := hE.cell (by go_simp)
      have c_p_1_9 : w9.cell? ⟨w.heap.size, 1, none⟩ = some (.slice B xs.length d) := hE.cell (by go_simp)
      have c_h_0_9 : w9.cell? ⟨w.heap.size + 1, 0, none⟩ = some (.int .i64 hc) := hE.cell (by go_simp)
      have c_h_1_9 : w9.cell? ⟨w.heap.size + 1, 1, none⟩ = some (.int .i64 hg) := hE.cell (by go_simp)
      have c_b_0_9 : w9.cell? ⟨w4.heap.size, 0, none⟩ = some (.slice A5 gs.length c5) := hE.cell (by go_simp)
      have c_b_1_9 : w9.cell? ⟨w4.heap.size, 1, none⟩ = some (.slice B5 (giveX gs xs hc hg).length d5) := hE.cell (by go_simp)
      have l_p_0_9 : w.heap.size < w9.heap.size := by omega
      have l_p_1_9 : w.heap.size < w9.heap.size + 1 := by omega
      have l_p_2_9 : w.heap.size < w9.heap.size + 1 + 1 := by omega
      have l_h_0_9 : w.heap.size + 1 < w9.heap.size := by omega
      have l_h_1_9 : w.heap.size + 1 < w9.heap.size + 1 := by omega
      have l_h_2_9 : w.heap.size + 1 < w9.heap.size + 1 + 1 := by omega
      have l_b_0_9 : w4.heap.size < w9.heap.size := by omega
      have l_b_1_9 : w4.heap.size < w9.heap.size + 1 := by omega
      have l_b_2_9 : w4.heap.size < w9.heap.size + 1 + 1 := by omega
      have Ig_9 := Lib.hid (Ig_8.out.ext hE)
      have Ix_9 := Lib.hid (Ix_8.out.ext hE)
      have Iog_9 := Lib.hid (Iog_8.out.ext hE)
      have Iox_9 := Lib.hid (Iox_8.out.ext hE)
      have Ita_9 := Lib.hid (Ita_8.out.ext hE)
      have Itx_9 := Lib.hid (Itx_8.out.ext hE)
      have Igb_9 := Lib.hid (Igb_8.out.ext hE)
      have Ixb_9 := Lib.hid (Ixb_8.out.ext hE)
      have Igc_9 := Lib.hid (Igc_8.out.ext hE)
      have Ixc_9 := Lib.hid (Ixc_8.out.ext hE)
      clear c_p_0_8 c_p_1_8 c_h_0_8 c_h_1_8 c_hx_0_8 c_hx_1_8 c_b_0_8 c_b_1_8 l_p_0_8 l_p_1_8 l_p_2_8 l_h_0_8 l_h_1_8 l_h_2_8 l_hx_0_8 l_hx_1_8 l_hx_2_8 l_b_0_8 l_b_1_8 l_b_2_8 Ig_8 Ix_8 Iog_8 Iox_8 Ita_8 Itx_8 Igb_8 Ixb_8 Igc_8 Ixc_8 E8 hE
      by_cases hGv : giveE gs xs hc hg = 0
      · obtain ⟨q1, q2, q3, q4, q5, q6, q7⟩ := give_take gs xs hc hg hGv
        have eG : (giveE gs xs hc hg == 0) = true := by rw [hGv]; rfl
        have GX := Lib.hid q1
        have q8 : (giveX gs xs hc hg).length ≤ 300 := by rw [q1]; omega
        clear hGv q1 q2 q3
        rcases q7 with q7 | ⟨q7, r1, r2, r3⟩
        · have GT := Lib.hid q7
          clear q7
          go_wp2_with fail
          refine (take_to _ _ gs.length (giveX gs xs hc hg).length _ _ gs (giveX gs xs hc hg) (takeG gs (xs ++ [hc])) (takeX gs (xs ++ [hc])) (takeC gs (xs ++ [hc])) (takeN gs (xs ++ [hc])) 2 (takeG gs (xs ++ [hc])).length (takeX gs (xs ++ [hc])).length _ Igb_9.out Ixb_9.out rfl rfl (by omega) (by omega) (by rw [GX.out]) (by rw [GX.out]) (by rw [GX.out]) (by rw [GX.out]) (by rw [GX.out]; exact GT.out) rfl rfl).mono ?_
          rintro e w10 ⟨A7, c7, B7, d7, rfl, ht1, ht2, hE⟩
          have E10 := Lib.hid (E9.out.trans hE)
          have z10 := hE.size
          try simp at z10
          have c_p_0_10 : w10.cell? ⟨w.heap.size, 0, none⟩ = some (.slice A gs.length c) := hE.cell (by go_simp)
          have c_p_1_10 : w10.cell? ⟨w.heap.size, 1, none⟩ = some (.slice B xs.length d) := hE.cell (by go_simp)
          have c_h_0_10 : w10.cell? ⟨w.heap.size + 1, 0, none⟩ = some (.int .i64 hc) := hE.cell (by go_simp)
          have c_h_1_10 : w10.cell? ⟨w.heap.size + 1, 1, none⟩ = some (.int .i64 hg) := hE.cell (by go_simp)
          have l_p_0_10 : w.heap.size < w10.heap.size := by omega
          have l_p_1_10 : w.heap.size < w10.heap.size + 1 := by omega
          have l_p_2_10 : w.heap.size < w10.heap.size + 1 + 1 := by omega
          have l_h_0_10 : w.heap.size + 1 < w10.heap.size := by omega
          have l_h_1_10 : w.heap.size + 1 < w10.heap.size + 1 := by omega
          have l_h_2_10 : w.heap.size + 1 < w10.heap.size + 1 + 1 := by omega
          have Ig_10 := Lib.hid (Ig_9.out.ext hE)
          have Ix_10 := Lib.hid (Ix_9.out.ext hE)
          have Iog_10 := Lib.hid (Iog_9.out.ext hE)
          have Iox_10 := Lib.hid (Iox_9.out.ext hE)
          have Ita_10 := Lib.hid (Ita_9.out.ext hE)
          have Itx_10 := Lib.hid (Itx_9.out.ext hE)
          have Igb_10 := Lib.hid (Igb_9.out.ext hE)
          have Ixb_10 := Lib.hid (Ixb_9.out.ext hE)
          have Igc_10 := Lib.hid (Igc_9.out.ext hE)
          have Ixc_10 := Lib.hid (Ixc_9.out.ext hE)
          clear c_p_0_9 c_p_1_9 c_h_0_9 c_h_1_9 c_b_0_9 c_b_1_9 l_p_0_9 l_p_1_9 l_p_2_9 l_h_0_9 l_h_1_9 l_h_2_9 l_b_0_9 l_b_1_9 l_b_2_9 Ig_9 Ix_9 Iog_9 Iox_9 Ita_9 Itx_9 Igb_9 Ixb_9 Igc_9 Ixc_9 E9 hE
          clear ht1 ht2
          go_wp2
          go_ret
          exact ⟨rfl, ((E10.out.alloc _).alloc _)⟩
        · have GT := Lib.hid q7
          have GT2 := Lib.hid r1
          have GT3 := Lib.hid r2
          have GT4 := Lib.hid r3
          clear q7 r1 r2 r3
          go_wp2_with fail
          refine (take_to _ _ gs.length (giveX gs xs hc hg).length _ _ gs (giveX gs xs hc hg) (takeG gs (xs ++ [hc])) xs hc (hg + 1) 0 (takeG gs (xs ++ [hc])).length xs.length _ Igb_9.out Ixb_9.out rfl rfl (by omega) (by omega) (by rw [GX.out]) (by rw [GX.out]; exact GT4.out) (by rw [GX.out]; exact GT2.out) (by rw [GX.out]; exact GT3.out) (by rw [GX.out]; exact GT.out) rfl rfl).mono ?_
          rintro e w10 ⟨A7, c7, B7, d7, rfl, ht1, ht2, hE⟩
          have E10 := Lib.hid (E9.out.trans hE)
          have z10 := hE.size
          try simp at z10
          have c_p_0_10 : w10.cell? ⟨w.heap.size, 0, none⟩ = some (.slice A gs.length c) := hE.cell (by go_simp)
          have c_p_1_10 : w10.cell? ⟨w.heap.size, 1, none⟩ = some (.slice B xs.length d) := hE.cell (by go_simp)
          have c_h_0_10 : w10.cell? ⟨w.heap.size + 1, 0, none⟩ = some (.int .i64 hc) := hE.cell (by go_simp)
          have c_h_1_10 : w10.cell? ⟨w.heap.size + 1, 1, none⟩ = some (.int .i64 hg) := hE.cell (by go_simp)
          have l_p_0_10 : w.heap.size < w10.heap.size := by omega
          have l_p_1_10 : w.heap.size < w10.heap.size + 1 := by omega
          have l_p_2_10 : w.heap.size < w10.heap.size + 1 + 1 := by omega
          have l_h_0_10 : w.heap.size + 1 < w10.heap.size := by omega
          have l_h_1_10 : w.heap.size + 1 < w10.heap.size + 1 := by omega
          have l_h_2_10 : w.heap.size + 1 < w10.heap.size + 1 + 1 := by omega
          have Ig_10 := Lib.hid (Ig_9.out.ext hE)
          have Ix_10 := Lib.hid (Ix_9.out.ext hE)
          have Iog_10 := Lib.hid (Iog_9.out.ext hE)
          have Iox_10 := Lib.hid (Iox_9.out.ext hE)
          have Ita_10 := Lib.hid (Ita_9.out.ext hE)
          have Itx_10 := Lib.hid (Itx_9.out.ext hE)
          have Igb_10 := Lib.hid (Igb_9.out.ext hE)
          have Ixb_10 := Lib.hid (Ixb_9.out.ext hE)
          have Igc_10 := Lib.hid (Igc_9.out.ext hE)
          have Ixc_10 := Lib.hid (Ixc_9.out.ext hE)
          clear c_p_0_9 c_p_1_9 c_h_0_9 c_h_1_9 c_b_0_9 c_b_1_9 l_p_0_9 l_p_1_9 l_p_2_9 l_h_0_9 l_h_1_9 l_h_2_9 l_b_0_9 l_b_1_9 l_b_2_9 Ig_9 Ix_9 Iog_9 Iox_9 Ita_9 Itx_9 Igb_9 Ixb_9 Igc_9 Ixc_9 E9 hE
          have Igd_10 := Lib.hid ht1
          clear ht1
          have Ixd_10 := Lib.hid ht2
          clear ht2
          go_wp2_with fail
          refine (ints_to _ _ xs xs true _ (Ixd_10.out.ext (((Ext.refl _).alloc _).alloc _)) (Ix_10.out.ext (((Ext.refl _).alloc _).alloc _)) (by unfold sameB; simp)).mono ?_
          rintro e w11 ⟨rfl, hE⟩
          have E11 := Lib.hid (((E10.out.alloc _).alloc _).trans hE)
          have z11 := hE.size
          try simp at z11
          have c_p_0_11 : w11.cell? ⟨w.heap.size, 0, none⟩ = some (.slice A gs.length c) := hE.cell (by go_simp)
          have c_p_1_11 : w11.cell? ⟨w.heap.size, 1, none⟩ = some (.slice B xs.length d) := hE.cell (by go_simp)
          have c_h_0_11 : w11.cell? ⟨w.heap.size + 1, 0, none⟩ = some (.int .i64 hc) := hE.cell (by go_simp)
          have c_h_1_11 : w11.cell? ⟨w.heap.size + 1, 1, none⟩ = some (.int .i64 hg) := hE.cell (by go_simp)
          have c_dd_0_11 : w11.cell? ⟨w10.heap.size, 0, none⟩ = some (.slice A7 (takeG gs (xs ++ [hc])).length c7) := hE.cell (by go_simp)
          have c_dd_1_11 : w11.cell? ⟨w10.heap.size, 1, none⟩ = some (.slice B7 xs.length d7) := hE.cell (by go_simp)
          have c_y_0_11 : w11.cell? ⟨w10.heap.size + 1, 0, none⟩ = some (.int .i64 hc) := hE.cell (by go_simp)
          have c_y_1_11 : w11.cell? ⟨w10.heap.size + 1, 1, none⟩ = some (.int .i64 (hg + 1)) := hE.cell (by go_simp)
          have l_p_0_11 : w.heap.size < w11.heap.size := by omega
          have l_p_1_11 : w.heap.size < w11.heap.size + 1 := by omega
          have l_p_2_11 : w.heap.size < w11.heap.size + 1 + 1 := by omega
          have l_h_0_11 : w.heap.size + 1 < w11.heap.size := by omega
          have l_h_1_11 : w.heap.size + 1 < w11.heap.size + 1 := by omega
          have l_h_2_11 : w.heap.size + 1 < w11.heap.size + 1 + 1 := by omega
          have l_dd_0_11 : w10.heap.size < w11.heap.size := by omega
          have l_dd_1_11 : w10.heap.size < w11.heap.size + 1 := by omega
          have l_dd_2_11 : w10.heap.size < w11.heap.size + 1 + 1 := by omega
          have l_y_0_11 : w10.heap.size + 1 < w11.heap.size := by omega
          have l_y_1_11 : w10.heap.size + 1 < w11.heap.size + 1 := by omega
          have l_y_2_11 : w10.heap.size + 1 < w11.heap.size + 1 + 1 := by omega
          have Ig_11 := Lib.hid ((Ig_10.out.ext (((Ext.refl _).alloc _).alloc _)).ext hE)
          have Ix_11 := Lib.hid ((Ix_10.out.ext (((Ext.refl _).alloc _).alloc _)).ext hE)
          have Iog_11 := Lib.hid ((Iog_10.out.ext (((Ext.refl _).alloc _).alloc _)).ext hE)
          have Iox_11 := Lib.hid ((Iox_10.out.ext (((Ext.refl _).alloc _).alloc _)).ext hE)
          have Ita_11 := Lib.hid ((Ita_10.out.ext (((Ext.refl _).alloc _).alloc _)).ext hE)
          have Itx_11 := Lib.hid ((Itx_10.out.ext (((Ext.refl _).alloc _).alloc _)).ext hE)
          have Igb_11 := Lib.hid ((Igb_10.out.ext (((Ext.refl _).alloc _).alloc _)).ext hE)
          have Ixb_11 := Lib.hid ((Ixb_10.out.ext (((Ext.refl _).alloc _).alloc _)).ext hE)
          have Igc_11 := Lib.hid ((Igc_10.out.ext (((Ext.refl _).alloc _).alloc _)).ext hE)
          have Ixc_11 := Lib.hid ((Ixc_10.out.ext (((Ext.refl _).alloc _).alloc _)).ext hE)
          have Igd_11 := Lib.hid ((Igd_10.out.ext (((Ext.refl _).alloc _).alloc _)).ext hE)
          have Ixd_11 := Lib.hid ((Ixd_10.out.ext (((Ext.refl _).alloc _).alloc _)).ext hE)
          clear c_p_0_10 c_p_1_10 c_h_0_10 c_h_1_10 l_p_0_10 l_p_1_10 l_p_2_10 l_h_0_10 l_h_1_10 l_h_2_10 Ig_10 Ix_10 Iog_10 Iox_10 Ita_10 Itx_10 Igb_10 Ixb_10 Igc_10 Ixc_10 Igd_10 Ixd_10 E10 hE
          go_wp2
          go_ret
          exact ⟨rfl, E11.out⟩
      · have eG : (giveE gs xs hc hg == 0) = false := by simpa using hGv
        have GN : Hid (giveX gs xs hc hg = xs) := Lib.hid (by unfold giveX; rw [if_neg hGv])
        clear hGv
        go_wp2_with fail
        refine (same_any _ _ _ _ _ _ _ _ gs (giveX gs xs hc hg) gs xs _ Igb_9.out Ixb_9.out Ig_9.out Ix_9.out).mono ?_
        rw [GN.out, same_refl]
        rintro e w10 ⟨rfl, hE⟩
        have E10 := Lib.hid (E9.out.trans hE)
        have z10 := hE.size
        try simp at z10
        have c_p_0_10 : w10.cell? ⟨w.heap.size, 0, none⟩ = some (.slice A gs.length c) := hE.cell (by go_simp)
        have c_p_1_10 : w10.cell? ⟨w.heap.size, 1, none⟩ = some (.slice B xs.length d) := hE.cell (by go_simp)
        have c_h_0_10 : w10.cell? ⟨w.heap.size + 1, 0, none⟩ = some (.int .i64 hc) := hE.cell (by go_simp)
        have c_h_1_10 : w10.cell? ⟨w.heap.size + 1, 1, none⟩ = some (.int .i64 hg) := hE.cell (by go_simp)
        have c_b_0_10 : w10.cell? ⟨w4.heap.size, 0, none⟩ = some (.slice A5 gs.length c5) := hE.cell (by go_simp)
        have c_b_1_10 : w10.cell? ⟨w4.heap.size, 1, none⟩ = some (.slice B5 (giveX gs xs hc hg).length d5) := hE.cell (by go_simp)
        have l_p_0_10 : w.heap.size < w10.heap.size := by omega
        have l_p_1_10 : w.heap.size < w10.heap.size + 1 := by omega
        have l_p_2_10 : w.heap.size < w10.heap.size + 1 + 1 := by omega
        have l_h_0_10 : w.heap.size + 1 < w10.heap.size := by omega
        have l_h_1_10 : w.heap.size + 1 < w10.heap.size + 1 := by omega
        have l_h_2_10 : w.heap.size + 1 < w10.heap.size + 1 + 1 := by omega
        have l_b_0_10 : w4.heap.size < w10.heap.size := by omega
        have l_b_1_10 : w4.heap.size < w10.heap.size + 1 := by omega
        have l_b_2_10 : w4.heap.size < w10.heap.size + 1 + 1 := by omega
        have Ig_10 := Lib.hid (Ig_9.out.ext hE)
        have Ix_10 := Lib.hid (Ix_9.out.ext hE)
        have Iog_10 := Lib.hid (Iog_9.out.ext hE)
        have Iox_10 := Lib.hid (Iox_9.out.ext hE)
        have Ita_10 := Lib.hid (Ita_9.out.ext hE)
        have Itx_10 := Lib.hid (Itx_9.out.ext hE)
        have Igb_10 := Lib.hid (Igb_9.out.ext hE)
        have Ixb_10 := Lib.hid (Ixb_9.out.ext hE)
        have Igc_10 := Lib.hid (Igc_9.out.ext hE)
        have Ixc_10 := Lib.hid (Ixc_9.out.ext hE)
        clear c_p_0_9 c_p_1_9 c_h_0_9 c_h_1_9 c_b_0_9 c_b_1_9 l_p_0_9 l_p_1_9 l_p_2_9 l_h_0_9 l_h_1_9 l_h_2_9 l_b_0_9 l_b_1_9 l_b_2_9 Ig_9 Ix_9 Iog_9 Iox_9 Ita_9 Itx_9 Igb_9 Ixb_9 Igc_9 Ixc_9 E9 hE
        go_wp2
        go_ret
        exact ⟨rfl, E10.out⟩
    · have eT : (takeE gs xs == 0) = false := by simpa using hT
      clear hT
      by_cases hGv : giveE gs xs hc hg = 0
      · obtain ⟨q1, q2, q3, q4, q5, q6, q7⟩ := give_take gs xs hc hg hGv
        have eG : (giveE gs xs hc hg == 0) = true := by rw [hGv]; rfl
        have GX := Lib.hid q1
        have q8 : (giveX gs xs hc hg).length ≤ 300 := by rw [q1]; omega
        clear hGv q1 q2 q3
        rcases q7 with q7 | ⟨q7, r1, r2, r3⟩
        · have GT := Lib.hid q7
          clear q7
          go_wp2_with fail
          refine (take_to _ _ gs.length (giveX gs xs hc hg).length _ _ gs (giveX gs xs hc hg) (takeG gs (xs ++ [hc])) (takeX gs (xs ++ [hc])) (takeC gs (xs ++ [hc])) (takeN gs (xs ++ [hc])) 2 (takeG gs (xs ++ [hc])).length (takeX gs (xs ++ [hc])).length _ Igb_5.out Ixb_5.out rfl rfl (by omega) (by omega) (by rw [GX.out]) (by rw [GX.out]) (by rw [GX.out]) (by rw [GX.out]) (by rw [GX.out]; exact GT.out) rfl rfl).mono ?_
          rintro e w6 ⟨A7, c7, B7, d7, rfl, ht1, ht2, hE⟩
          have E6 := Lib.hid (E5.out.trans hE)
          have z6 := hE.size
          try simp at z6
          have c_p_0_6 : w6.cell? ⟨w.heap.size, 0, none⟩ = some (.slice A gs.length c) := hE.cell (by go_simp)
          have c_p_1_6 : w6.cell? ⟨w.heap.size, 1, none⟩ = some (.slice B xs.length d) := hE.cell (by go_simp)
          have c_h_0_6 : w6.cell? ⟨w.heap.size + 1, 0, none⟩ = some (.int .i64 hc) := hE.cell (by go_simp)
          have c_h_1_6 : w6.cell? ⟨w.heap.size + 1, 1, none⟩ = some (.int .i64 hg) := hE.cell (by go_simp)
          have c_a_0_6 : w6.cell? ⟨w3.heap.size, 0, none⟩ = some (.slice A4 (takeG gs xs).length c4) := hE.cell (by go_simp)
          have c_a_1_6 : w6.cell? ⟨w3.heap.size, 1, none⟩ = some (.slice B4 (takeX gs xs).length d4) := hE.cell (by go_simp)
          have c_hx_0_6 : w6.cell? ⟨w3.heap.size + 1, 0, none⟩ = some (.int .i64 (takeC gs xs)) := hE.cell (by go_simp)
          have c_hx_1_6 : w6.cell? ⟨w3.heap.size + 1, 1, none⟩ = some (.int .i64 (takeN gs xs)) := hE.cell (by go_simp)
          have l_p_0_6 : w.heap.size < w6.heap.size := by omega
          have l_p_1_6 : w.heap.size < w6.heap.size + 1 := by omega
          have l_p_2_6 : w.heap.size < w6.heap.size + 1 + 1 := by omega
          have l_h_0_6 : w.heap.size + 1 < w6.heap.size := by omega
          have l_h_1_6 : w.heap.size + 1 < w6.heap.size + 1 := by omega
          have l_h_2_6 : w.heap.size + 1 < w6.heap.size + 1 + 1 := by omega
          have l_a_0_6 : w3.heap.size < w6.heap.size := by omega
          have l_a_1_6 : w3.heap.size < w6.heap.size + 1 := by omega
          have l_a_2_6 : w3.heap.size < w6.heap.size + 1 + 1 := by omega
          have l_hx_0_6 : w3.heap.size + 1 < w6.heap.size := by omega
          have l_hx_1_6 : w3.heap.size + 1 < w6.heap.size + 1 := by omega
          have l_hx_2_6 : w3.heap.size + 1 < w6.heap.size + 1 + 1 := by omega
          have Ig_6 := Lib.hid (Ig_5.out.ext hE)
          have Ix_6 := Lib.hid (Ix_5.out.ext hE)
          have Iog_6 := Lib.hid (Iog_5.out.ext hE)
          have Iox_6 := Lib.hid (Iox_5.out.ext hE)
          have Ita_6 := Lib.hid (Ita_5.out.ext hE)
          have Itx_6 := Lib.hid (Itx_5.out.ext hE)
          have Igb_6 := Lib.hid (Igb_5.out.ext hE)
          have Ixb_6 := Lib.hid (Ixb_5.out.ext hE)
          clear c_p_0_5 c_p_1_5 c_h_0_5 c_h_1_5 c_a_0_5 c_a_1_5 c_hx_0_5 c_hx_1_5 c_b_0_5 c_b_1_5 l_p_0_5 l_p_1_5 l_p_2_5 l_h_0_5 l_h_1_5 l_h_2_5 l_a_0_5 l_a_1_5 l_a_2_5 l_hx_0_5 l_hx_1_5 l_hx_2_5 l_b_0_5 l_b_1_5 l_b_2_5 Ig_5 Ix_5 Iog_5 Iox_5 Ita_5 Itx_5 Igb_5 Ixb_5 E5 hE
          clear ht1 ht2
          go_wp2
          go_ret
          exact ⟨rfl, ((E6.out.alloc _).alloc _)⟩
        · have GT := Lib.hid q7
          have GT2 := Lib.hid r1
          have GT3 := Lib.hid r2
          have GT4 := Lib.hid r3
          clear q7 r1 r2 r3
          go_wp2_with fail
          refine (take_to _ _ gs.length (giveX gs xs hc hg).length _ _ gs (giveX gs xs hc hg) (takeG gs (xs ++ [hc])) xs hc (hg + 1) 0 (takeG gs (xs ++ [hc])).length xs.length _ Igb_5.out Ixb_5.out rfl rfl (by omega) (by omega) (by rw [GX.out]) (by rw [GX.out]; exact GT4.out) (by rw [GX.out]; exact GT2.out) (by rw [GX.out]; exact GT3.out) (by rw [GX.out]; exact GT.out) rfl rfl).mono ?_
          rintro e w6 ⟨A7, c7, B7, d7, rfl, ht1, ht2, hE⟩
          have E6 := Lib.hid (E5.out.trans hE)
          have z6 := hE.size
          try simp at z6
          have c_p_0_6 : w6.cell? ⟨w.heap.size, 0, none⟩ = some (.slice A gs.length c) := hE.cell (by go_simp)
          have c_p_1_6 : w6.cell? ⟨w.heap.size, 1, none⟩ = some (.slice B xs.length d) := hE.cell (by go_simp)
          have c_h_0_6 : w6.cell? ⟨w.heap.size + 1, 0, none⟩ = some (.int .i64 hc) := hE.cell (by go_simp)
          have c_h_1_6 : w6.cell? ⟨w.heap.size + 1, 1, none⟩ = some (.int .i64 hg) := hE.cell (by go_simp)
          have c_a_0_6 : w6.cell? ⟨w3.heap.size, 0, none⟩ = some (.slice A4 (takeG gs xs).length c4) := hE.cell (by go_simp)
          have c_a_1_6 : w6.cell? ⟨w3.heap.size, 1, none⟩ = some (.slice B4 (takeX gs xs).length d4) := hE.cell (by go_simp)
          have c_hx_0_6 : w6.cell? ⟨w3.heap.size + 1, 0, none⟩ = some (.int .i64 (takeC gs xs)) := hE.cell (by go_simp)
          have c_hx_1_6 : w6.cell? ⟨w3.heap.size + 1, 1, none⟩ = some (.int .i64 (takeN gs xs)) := hE.cell (by go_simp)
          have l_p_0_6 : w.heap.size < w6.heap.size := by omega
          have l_p_1_6 : w.heap.size < w6.heap.size + 1 := by omega
          have l_p_2_6 : w.heap.size < w6.heap.size + 1 + 1 := by omega
          have l_h_0_6 : w.heap.size + 1 < w6.heap.size := by omega
          have l_h_1_6 : w.heap.size + 1 < w6.heap.size + 1 := by omega
          have l_h_2_6 : w.heap.size + 1 < w6.heap.size + 1 + 1 := by omega
          have l_a_0_6 : w3.heap.size < w6.heap.size := by omega
          have l_a_1_6 : w3.heap.size < w6.heap.size + 1 := by omega
          have l_a_2_6 : w3.heap.size < w6.heap.size + 1 + 1 := by omega
          have l_hx_0_6 : w3.heap.size + 1 < w6.heap.size := by omega
          have l_hx_1_6 : w3.heap.size + 1 < w6.heap.size + 1 := by omega
          have l_hx_2_6 : w3.heap.size + 1 < w6.heap.size + 1 + 1 := by omega
          have Ig_6 := Lib.hid (Ig_5.out.ext hE)
          have Ix_6 := Lib.hid (Ix_5.out.ext hE)
          have Iog_6 := Lib.hid (Iog_5.out.ext hE)
          have Iox_6 := Lib.hid (Iox_5.out.ext hE)
          have Ita_6 := Lib.hid (Ita_5.out.ext hE)
          have Itx_6 := Lib.hid (Itx_5.out.ext hE)
          have Igb_6 := Lib.hid (Igb_5.out.ext hE)
          have Ixb_6 := Lib.hid (Ixb_5.out.ext hE)
          clear c_p_0_5 c_p_1_5 c_h_0_5 c_h_1_5 c_a_0_5 c_a_1_5 c_hx_0_5 c_hx_1_5 c_b_0_5 c_b_1_5 l_p_0_5 l_p_1_5 l_p_2_5 l_h_0_5 l_h_1_5 l_h_2_5 l_a_0_5 l_a_1_5 l_a_2_5 l_hx_0_5 l_hx_1_5 l_hx_2_5 l_b_0_5 l_b_1_5 l_b_2_5 Ig_5 Ix_5 Iog_5 Iox_5 Ita_5 Itx_5 Igb_5 Ixb_5 E5 hE
          have Igd_6 := Lib.hid ht1
          clear ht1
          have Ixd_6 := Lib.hid ht2
          clear ht2
          go_wp2_with fail
          refine (ints_to _ _ xs xs true _ (Ixd_6.out.ext (((Ext.refl _).alloc _).alloc _)) (Ix_6.out.ext (((Ext.refl _).alloc _).alloc _)) (by unfold sameB; simp)).mono ?_
          rintro e w7 ⟨rfl, hE⟩
          have E7 := Lib.hid (((E6.out.alloc _).alloc _).trans hE)
          have z7 := hE.size
          try simp at z7
          have c_p_0_7 : w7.cell? ⟨w.heap.size, 0, none⟩ = some (.slice A gs.length c) := hE.cell (by go_simp)
          have c_p_1_7 : w7.cell? ⟨w.heap.size, 1, none⟩ = some (.slice B xs.length d) := hE.cell (by go_simp)
          have c_h_0_7 : w7.cell? ⟨w.heap.size + 1, 0, none⟩ = some (.int .i64 hc) := hE.cell (by go_simp)
          have c_h_1_7 : w7.cell? ⟨w.heap.size + 1, 1, none⟩ = some (.int .i64 hg) := hE.cell (by go_simp)
          have c_a_0_7 : w7.cell? ⟨w3.heap.size, 0, none⟩ = some (.slice A4 (takeG gs xs).length c4) := hE.cell (by go_simp)
          have c_a_1_7 : w7.cell? ⟨w3.heap.size, 1, none⟩ = some (.slice B4 (takeX gs xs).length d4) := hE.cell (by go_simp)
          have c_hx_0_7 : w7.cell? ⟨w3.heap.size + 1, 0, none⟩ = some (.int .i64 (takeC gs xs)) := hE.cell (by go_simp)
          have c_hx_1_7 : w7.cell? ⟨w3.heap.size + 1, 1, none⟩ = some (.int .i64 (takeN gs xs)) := hE.cell (by go_simp)
          have c_dd_0_7 : w7.cell? ⟨w6.heap.size, 0, none⟩ = some (.slice A7 (takeG gs (xs ++ [hc])).length c7) := hE.cell (by go_simp)
          have c_dd_1_7 : w7.cell? ⟨w6.heap.size, 1, none⟩ = some (.slice B7 xs.length d7) := hE.cell (by go_simp)
          have c_y_0_7 : w7.cell? ⟨w6.heap.size + 1, 0, none⟩ = some (.int .i64 hc) := hE.cell (by go_simp)
          have c_y_1_7 : w7.cell? ⟨w6.heap.size + 1, 1, none⟩ = some (.int .i64 (hg + 1)) := hE.cell (by go_simp)
          have l_p_0_7 : w.heap.size < w7.heap.size := by omega
          have l_p_1_7 : w.heap.size < w7.heap.size + 1 := by omega
          have l_p_2_7 : w.heap.size < w7.heap.size + 1 + 1 := by omega
          have l_h_0_7 : w.heap.size + 1 < w7.heap.size := by omega
          have l_h_1_7 : w.heap.size + 1 < w7.heap.size + 1 := by omega
          have l_h_2_7 : w.heap.size + 1 < w7.heap.size + 1 + 1 := by omega
          have l_a_0_7 : w3.heap.size < w7.heap.size := by omega
          have l_a_1_7 : w3.heap.size < w7.heap.size + 1 := by omega
          have l_a_2_7 : w3.heap.size < w7.heap.size + 1 + 1 := by omega
          have l_hx_0_7 : w3.heap.size + 1 < w7.heap.size := by omega
          have l_hx_1_7 : w3.heap.size + 1 < w7.heap.size + 1 := by omega
          have l_hx_2_7 : w3.heap.size + 1 < w7.heap.size + 1 + 1 := by omega
          have l_dd_0_7 : w6.heap.size < w7.heap.size := by omega
          have l_dd_1_7 : w6.heap.size < w7.heap.size + 1 := by omega
          have l_dd_2_7 : w6.heap.size < w7.heap.size + 1 + 1 := by omega
          have l_y_0_7 : w6.heap.size + 1 < w7.heap.size := by omega
          have l_y_1_7 : w6.heap.size + 1 < w7.heap.size + 1 := by omega
          have l_y_2_7 : w6.heap.size + 1 < w7.heap.size + 1 + 1 := by omega
          have Ig_7 := Lib.hid ((Ig_6.out.ext (((Ext.refl _).alloc _).alloc _)).ext hE)
          have Ix_7 := Lib.hid ((Ix_6.out.ext (((Ext.refl _).alloc _).alloc _)).ext hE)
          have Iog_7 := Lib.hid ((Iog_6.out.ext (((Ext.refl _).alloc _).alloc _)).ext hE)
          have Iox_7 := Lib.hid ((Iox_6.out.ext (((Ext.refl _).alloc _).alloc _)).ext hE)
          have Ita_7 := Lib.hid ((Ita_6.out.ext (((Ext.refl _).alloc _).alloc _)).ext hE)
          have Itx_7 := Lib.hid ((Itx_6.out.ext (((Ext.refl _).alloc _).alloc _)).ext hE)
          have Igb_7 := Lib.hid ((Igb_6.out.ext (((Ext.refl _).alloc _).alloc _)).ext hE)
          have Ixb_7 := Lib.hid ((Ixb_6.out.ext (((Ext.refl _).alloc _).alloc _)).ext hE)
          have Igd_7 := Lib.hid ((Igd_6.out.ext (((Ext.refl _).alloc _).alloc _)).ext hE)
          have Ixd_7 := Lib.hid ((Ixd_6.out.ext (((Ext.refl _).alloc _).alloc _)).ext hE)
          clear c_p_0_6 c_p_1_6 c_h_0_6 c_h_1_6 c_a_0_6 c_a_1_6 c_hx_0_6 c_hx_1_6 l_p_0_6 l_p_1_6 l_p_2_6 l_h_0_6 l_h_1_6 l_h_2_6 l_a_0_6 l_a_1_6 l_a_2_6 l_hx_0_6 l_hx_1_6 l_hx_2_6 Ig_6 Ix_6 Iog_6 Iox_6 Ita_6 Itx_6 Igb_6 Ixb_6 Igd_6 Ixd_6 E6 hE
          go_wp2
          go_ret
          exact ⟨rfl, E7.out⟩
      · have eG : (giveE gs xs hc hg == 0) = false := by simpa using hGv
        have GN : Hid (giveX gs xs hc hg = xs) := Lib.hid (by unfold giveX; rw [if_neg hGv])
        clear hGv
        go_wp2_with fail
        refine (same_any _ _ _ _ _ _ _ _ gs (giveX gs xs hc hg) gs xs _ Igb_5.out Ixb_5.out Ig_5.out Ix_5.out).mono ?_
        rw [GN.out, same_refl]
        rintro e w6 ⟨rfl, hE⟩
        have E6 := Lib.hid (E5.out.trans hE)
        have z6 := hE.size
        try simp at z6
        have c_p_0_6 : w6.cell? ⟨w.heap.size, 0, none⟩ = some (.slice A gs.length c) := hE.cell (by go_simp)
        have c_p_1_6 : w6.cell? ⟨w.heap.size, 1, none⟩ = some (.slice B xs.length d) := hE.cell (by go_simp)
        have c_h_0_6 : w6.cell? ⟨w.heap.size + 1, 0, none⟩ = some (.int .i64 hc) := hE.cell (by go_simp)
        have c_h_1_6 : w6.cell? ⟨w.heap.size + 1, 1, none⟩ = some (.int .i64 hg) := hE.cell (by go_simp)
        have c_a_0_6 : w6.cell? ⟨w3.heap.size, 0, none⟩ = some (.slice A4 (takeG gs xs).length c4) := hE.cell (by go_simp)
        have c_a_1_6 : w6.cell? ⟨w3.heap.size, 1, none⟩ = some (.slice B4 (takeX gs xs).length d4) := hE.cell (by go_simp)
        have c_hx_0_6 : w6.cell? ⟨w3.heap.size + 1, 0, none⟩ = some (.int .i64 (takeC gs xs)) := hE.cell (by go_simp)
        have c_hx_1_6 : w6.cell? ⟨w3.heap.size + 1, 1, none⟩ = some (.int .i64 (takeN gs xs)) := hE.cell (by go_simp)
        have c_b_0_6 : w6.cell? ⟨w4.heap.size, 0, none⟩ = some (.slice A5 gs.length c5) := hE.cell (by go_simp)
        have c_b_1_6 : w6.cell? ⟨w4.heap.size, 1, none⟩ = some (.slice B5 (giveX gs xs hc hg).length d5) := hE.cell (by go_simp)
        have l_p_0_6 : w.heap.size < w6.heap.size := by omega
        have l_p_1_6 : w.heap.size < w6.heap.size + 1 := by omega
        have l_p_2_6 : w.heap.size < w6.heap.size + 1 + 1 := by omega
        have l_h_0_6 : w.heap.size + 1 < w6.heap.size := by omega
        have l_h_1_6 : w.heap.size + 1 < w6.heap.size + 1 := by omega
        have l_h_2_6 : w.heap.size + 1 < w6.heap.size + 1 + 1 := by omega
        have l_a_0_6 : w3.heap.size < w6.heap.size := by omega
        have l_a_1_6 : w3.heap.size < w6.heap.size + 1 := by omega
        have l_a_2_6 : w3.heap.size < w6.heap.size + 1 + 1 := by omega
        have l_hx_0_6 : w3.heap.size + 1 < w6.heap.size := by omega
        have l_hx_1_6 : w3.heap.size + 1 < w6.heap.size + 1 := by omega
        have l_hx_2_6 : w3.heap.size + 1 < w6.heap.size + 1 + 1 := by omega
        have l_b_0_6 : w4.heap.size < w6.heap.size := by omega
        have l_b_1_6 : w4.heap.size < w6.heap.size + 1 := by omega
        have l_b_2_6 : w4.heap.size < w6.heap.size + 1 + 1 := by omega
        have Ig_6 := Lib.hid (Ig_5.out.ext hE)
        have Ix_6 := Lib.hid (Ix_5.out.ext hE)
        have Iog_6 := Lib.hid (Iog_5.out.ext hE)
        have Iox_6 := Lib.hid (Iox_5.out.ext hE)
        have Ita_6 := Lib.hid (Ita_5.out.ext hE)
        have Itx_6 := Lib.hid (Itx_5.out.ext hE)
        have Igb_6 := Lib.hid (Igb_5.out.ext hE)
        have Ixb_6 := Lib.hid (Ixb_5.out.ext hE)
        clear c_p_0_5 c_p_1_5 c_h_0_5 c_h_1_5 c_a_0_5 c_a_1_5 c_hx_0_5 c_hx_1_5 c_b_0_5 c_b_1_5 l_p_0_5 l_p_1_5 l_p_2_5 l_h_0_5 l_h_1_5 l_h_2_5 l_a_0_5 l_a_1_5 l_a_2_5 l_hx_0_5 l_hx_1_5 l_hx_2_5 l_b_0_5 l_b_1_5 l_b_2_5 Ig_5 Ix_5 Iog_5 Iox_5 Ita_5 Itx_5 Igb_5 Ixb_5 E5 hE
        go_wp2
        go_ret
        exact ⟨rfl, E6.out⟩

set_option maxHeartbeats 800000 in
theorem stays_great (A B : Option Addr) (c d : Nat) (gs xs : List Int) (hc hg : Int) (w : World) (h : Ints w (.slice A gs.length c) gs) (h' : Ints w (.slice B xs.length d) xs) (hgr : 300 < gs.length ∨ 300 < xs.length) :
    Calls Try.prog 5 #[.agg #[.slice A gs.length c, .slice B xs.length d], .agg #[.int .i64 hc, .int .i64 hg]] w fun e w' => e = .returned (.bool true) ∧ Ext w w' := by
  have hm1 := h.1
  have hm2 := h'.1
  unfold maxLen at hm1 hm2
  have HG := Lib.hid h
  have HX := Lib.hid h'
  have GR : Hid ((decide (300 < gs.length) || decide (300 < xs.length)) = true) := Lib.hid (by rw [Bool.or_eq_true, decide_eq_true_eq, decide_eq_true_eq]; exact hgr)
  clear h h' hgr
  go_enter Try.func5, Try.ntmps5
  go_wp2_with fail
  refine (alive_any _).mono ?_
  rintro e w1 ⟨rfl, hE⟩
  obtain ⟨hc1, hf1⟩ := bcell hE
  have HE := Lib.hid hE
  clear hE
  go_wp2_with fail
  refine (great_any _ _ _ _ _ _ _ (by omega) (by omega)).mono ?_
  rw [GR.out]
  rintro e w2 ⟨rfl, hE2⟩
  go_wp2
  go_ret
  exact ⟨rfl, ((((Ext.refl w).alloc _).alloc _).trans HE.out).trans hE2⟩

theorem stays_any (A B : Option Addr) (c d : Nat) (gs xs : List Int) (hc hg : Int) (w : World) (h : Ints w (.slice A gs.length c) gs) (h' : Ints w (.slice B xs.length d) xs)
    (bc : -9223372036854775808 ≤ hc ∧ hc ≤ 9223372036854775807) (bg : -9223372036854775808 ≤ hg ∧ hg ≤ 9223372036854775807) :
    Calls Try.prog 5 #[.agg #[.slice A gs.length c, .slice B xs.length d], .agg #[.int .i64 hc, .int .i64 hg]] w fun e w' => e = .returned (.bool true) ∧ Ext w w' := by
  by_cases hgr : 300 < gs.length ∨ 300 < xs.length
  · exact stays_great A B c d gs xs hc hg w h h' hgr
  · exact stays_walk A B c d gs xs hc hg w h h' bc bg (by omega)
end Go.Proofs.Ytpmibjjplclkeaa
