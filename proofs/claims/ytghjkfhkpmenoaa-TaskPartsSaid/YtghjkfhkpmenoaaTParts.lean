/- Halves of a task: the law. -/
import Derived.Test.YtghjkfhkpmenoaaTAlive
import Derived.Test.YtghjkfhkpmenoaaTSame
namespace Go.Proofs.Ytghjkfhkpmenoaa
open Go.BigFrame
open Go.RowKit Go.Proofs.Ytghjkfhkpmenoaa.Plain

theorem ints_lit2 (w : World) (p : Nat) (x y : Int) (hp : p = w.heap.size) (hx : -9223372036854775808 ≤ x ∧ x ≤ 9223372036854775807) (hy : -9223372036854775808 ≤ y ∧ y ≤ 9223372036854775807) :
    Ints (w.alloc (.cells #[.int .i64 x, .int .i64 y] 3)) (.slice (some ⟨p, 0, none⟩) 2 2) [x, y] := by
  subst hp
  exact (Own.lit w [x, y] (B := 0) (Nat.zero_le _) (by simp [maxLen]) (by intro n hn; simp only [List.mem_cons, List.not_mem_nil, or_false] at hn; rcases hn with rfl | rfl <;> assumption)).ints
/-- behind the three tasks' taking -/
def PartsCut (w : World) (lo hi up P2 : Int) (j : Nat) (t l r : Value) (wx : World) : Prop := ∃ a b c : Nat, t = .pointer (some ⟨a, 0, none⟩) ∧ l = .pointer (some ⟨b, 0, none⟩) ∧ r = .pointer (some ⟨c, 0, none⟩) ∧
  wx.cell? ⟨a, 0, none⟩ = some (.int .i64 lo) ∧ wx.cell? ⟨a, 1, none⟩ = some (.int .i64 hi) ∧ wx.cell? ⟨a, 2, none⟩ = some (.int .i64 up) ∧ wx.cell? ⟨a, 3, none⟩ = some (.int .i64 0) ∧
  wx.cell? ⟨b, 0, none⟩ = some (.int .i64 lo) ∧ wx.cell? ⟨b, 1, none⟩ = some (.int .i64 (lo + P2)) ∧ wx.cell? ⟨b, 2, none⟩ = some (.int .i64 j) ∧ wx.cell? ⟨b, 3, none⟩ = some (.int .i64 0) ∧
  wx.cell? ⟨c, 0, none⟩ = some (.int .i64 (lo + P2)) ∧ wx.cell? ⟨c, 1, none⟩ = some (.int .i64 hi) ∧ wx.cell? ⟨c, 2, none⟩ = some (.int .i64 j) ∧ wx.cell? ⟨c, 3, none⟩ = some (.int .i64 0) ∧ Ext w wx
theorem workB_refl (g : Int) (ts : List Tk) (dn : List Bool) : workB g g ts ts dn dn = true := by unfold workB; simp
/-- what Part asks, where it parts -/
theorem partErr_zero {ts : List Tk} {g : Int} {n : Nat} {i : Int} (h : partErr ts g n i = 0) :
    wRight ts g n = true ∧ ∃ j : Nat, i = j ∧ j < ts.length ∧ wGreat ts g n j = true ∧ (ts.getD j tk0).wt = 0 ∧ ts.length ≤ 1998 := by
  unfold partErr at h
  by_cases h1 : wRight ts g n = false
  · rw [if_pos h1] at h; omega
  · rw [if_neg h1] at h
    by_cases h2 : wHas ts.length i = false
    · rw [if_pos h2] at h; omega
    · rw [if_neg h2] at h
      by_cases h3 : wGreat ts g n i = false
      · rw [if_pos h3] at h; omega
      · rw [if_neg h3] at h
        have h2' : wHas ts.length i = true := by simpa using h2
        have hs : 0 ≤ i ∧ i < (ts.length : Int) := by unfold wHas at h2'; simpa using h2'
        obtain ⟨j, rfl⟩ : ∃ j : Nat, i = j := ⟨i.toNat, by omega⟩
        have e0 : tkAt ts (j : Int) = ts.getD j tk0 := by unfold tkAt; rw [Int.toNat_natCast]
        rw [e0] at h
        by_cases h4 : (ts.getD j tk0).wt ≠ 0
        · rw [if_pos h4] at h; omega
        · rw [if_neg h4] at h
          by_cases h5 : 1998 < ts.length
          · rw [if_pos h5] at h; omega
          · exact ⟨by simpa using h1, j, rfl, by omega, by simpa using h3, by omega, by omega⟩

set_option maxHeartbeats 1600000 in
set_option maxRecDepth 100000 in
theorem tparts_great (A B : Option Addr) (c d : Nat) (ts : List Tk) (dn : List Bool) (g i : Int) (W : World) (h : Rd kTask W (.slice A ts.length c) ts) (hd : Rd kBool W (.slice B dn.length d) dn) (hb : 300 < ts.length ∨ 1001 < dn.length) :
    Calls Try.prog 5 #[.agg #[.slice A ts.length c, .int .i64 g, .slice B dn.length d], .int .i64 i] W fun e w' => e = .returned (.bool true) ∧ Ext W w' := by
  have hm := h.len
  have hn := hd.len
  have GR : Hid ((decide (300 < ts.length) || decide (1001 < dn.length)) = true) := Lib.hid (by simpa using hb)
  have hb2 : (300 : Int) < ts.length ∨ (1001 : Int) < dn.length := by omega
  clear h hd hb
  by_cases h3 : (300 : Int) < ts.length
  · go_enter Try.func5, Try.ntmps5
    go_wp2_with fail
    refine (talive_any _).mono ?_
    rintro e w1 ⟨rfl, hE⟩
    have q0 : w1.cell? ⟨W.heap.size, 0, none⟩ = some (.slice A ts.length c) := hE.cell (by go_simp)
    have q2 : w1.cell? ⟨W.heap.size, 2, none⟩ = some (.slice B dn.length d) := hE.cell (by go_simp)
    have E1 := Lib.hid (((Ext.refl W).alloc _).trans hE)
    clear hE
    go_wp2_with fail
    go_ret
    exact ⟨rfl, E1.out⟩
  · have h4 : (1001 : Int) < dn.length := by omega
    go_enter Try.func5, Try.ntmps5
    go_wp2_with fail
    refine (talive_any _).mono ?_
    rintro e w1 ⟨rfl, hE⟩
    have q0 : w1.cell? ⟨W.heap.size, 0, none⟩ = some (.slice A ts.length c) := hE.cell (by go_simp)
    have q2 : w1.cell? ⟨W.heap.size, 2, none⟩ = some (.slice B dn.length d) := hE.cell (by go_simp)
    have E1 := Lib.hid (((Ext.refl W).alloc _).trans hE)
    clear hE
    go_wp2_with fail
    go_ret
    exact ⟨rfl, E1.out⟩

set_option maxHeartbeats 1600000 in
set_option maxRecDepth 100000 in
theorem tparts_no (A B : Option Addr) (c d : Nat) (ts : List Tk) (dn : List Bool) (g i k : Int) (W : World) (h : Rd kTask W (.slice A ts.length c) ts) (hd : Rd kBool W (.slice B dn.length d) dn) (hg : in64 g) (hi : in64 i) (hb : ts.length ≤ 300 ∧ dn.length ≤ 1001) (hk : partErr ts g dn.length i = k) (h0 : k ≠ 0) :
    Calls Try.prog 5 #[.agg #[.slice A ts.length c, .int .i64 g, .slice B dn.length d], .int .i64 i] W fun e w' => e = .returned (.bool true) ∧ Ext W w' := by
  have H := Lib.hid h
  have HD := Lib.hid hd
  have HG := Lib.hid hg
  have HI := Lib.hid hi
  have HK := Lib.hid hk
  have e1 : (k != 0) = true := by simpa using h0
  have hm : ¬ (300 : Int) < ts.length := by omega
  have hn : ¬ (1001 : Int) < dn.length := by omega
  have hl1 : ts.length ≤ 1048576 := by omega
  have hl2 : dn.length ≤ 1048576 := by omega
  clear h hd hg hi hk hb
  go_enter Try.func5, Try.ntmps5
  go_wp2_with fail
  refine (talive_any _).mono ?_
  rintro e w1 ⟨rfl, hE⟩
  have q0 : w1.cell? ⟨W.heap.size, 0, none⟩ = some (.slice A ts.length c) := hE.cell (by go_simp)
  have q1 : w1.cell? ⟨W.heap.size, 1, none⟩ = some (.int .i64 g) := hE.cell (by go_simp)
  have q2 : w1.cell? ⟨W.heap.size, 2, none⟩ = some (.slice B dn.length d) := hE.cell (by go_simp)
  have hz := hE.size
  simp at hz
  have E1 := Lib.hid (((Ext.refl W).alloc _).trans hE)
  clear hE
  go_wp2_with fail
  refine (ppart_any _ _ _ _ ts dn g i _ (H.out.ext E1.out) (HD.out.ext E1.out) HG.out HI.out hl1 hl2).mono ?_
  rintro e w2 (⟨_, hh⟩ | ⟨he, _⟩)
  · rw [HK.out] at hh
    obtain ⟨A2, c2, B2, d2, rfl, hT, hD, hE⟩ := hh
    have r0 : w2.cell? ⟨W.heap.size, 0, none⟩ = some (.slice A ts.length c) := hE.cell q0
    have r1 : w2.cell? ⟨W.heap.size, 1, none⟩ = some (.int .i64 g) := hE.cell q1
    have r2 : w2.cell? ⟨W.heap.size, 2, none⟩ = some (.slice B dn.length d) := hE.cell q2
    have hz2 := hE.size
    have l0 : W.heap.size < w2.heap.size := by omega
    have E2 := Lib.hid (E1.out.trans hE)
    have T2 := Lib.hid hT
    have D2 := Lib.hid hD
    clear hE hT hD q0 q1 q2 E1
    unfold mkPart
    go_wp2_with fail
    refine (rsame_any _ _ _ _ _ _ _ _ ts ts g g dn dn _ (T2.out.ext ((Ext.refl _).alloc _)) (D2.out.ext ((Ext.refl _).alloc _)) (H.out.ext (E2.out.alloc _)) (HD.out.ext (E2.out.alloc _))).mono ?_
    rintro e w3 ⟨he, hE⟩
    rw [workB_refl] at he
    subst he
    have E3 := Lib.hid ((E2.out.alloc _).trans hE)
    clear hE
    go_wp2_with fail
    go_ret
    exact ⟨rfl, E3.out⟩
  · exact absurd (HK.out.symm.trans he) h0

set_option maxHeartbeats 3200000 in
set_option maxRecDepth 100000 in
theorem tparts_ok (A B : Option Addr) (c d : Nat) (ts : List Tk) (dn : List Bool) (g : Int) (j : Nat) (W : World) (h : Rd kTask W (.slice A ts.length c) ts) (hd : Rd kBool W (.slice B dn.length d) dn) (hg : in64 g) (hb : ts.length ≤ 300 ∧ dn.length ≤ 1001) (hj : j < ts.length) (hr : wRight ts g dn.length = true) (hgt : wGreat ts g dn.length j = true) (hw : (ts.getD j tk0).wt = 0) (hk : partErr ts g dn.length j = 0) :
    Calls Try.prog 5 #[.agg #[.slice A ts.length c, .int .i64 g, .slice B dn.length d], .int .i64 j] W fun e w' => e = .returned (.bool true) ∧ Ext W w' := by
  have H := Lib.hid h
  have HD := Lib.hid hd
  have HG := Lib.hid hg
  have HI : Hid (in64 (j : Int)) := Lib.hid (by unfold in64; omega)
  have HK := Lib.hid hk
  have hm : ¬ (300 : Int) < ts.length := by omega
  have hm2 : (ts.length : Int) ≤ 300 := by omega
  have hn : ¬ (1001 : Int) < dn.length := by omega
  have hl1 : ts.length ≤ 1048576 := by omega
  have hl2 : dn.length ≤ 1048576 := by omega
  have hj1 : (j : Int) < ts.length := by omega
  have hj0 : (0 : Int) ≤ j := by omega
  obtain ⟨b, off, rfl, hcc⟩ := Rd.tasks H.out (by omega)
  obtain ⟨y0, y1, y2, y3⟩ := hcc j hj
  have e0 : ts.getD j ⟨0, 0, 0, 0⟩ = ts.getD j tk0 := rfl
  rw [e0] at y0 y1 y2 y3
  obtain ⟨o1, o2, o3, o4, o5, o6, o7⟩ := tkOk_iff dn.length j (ts.getD j tk0) |>.1 (right_ok hr j hj)
  obtain ⟨⟨lo, hi, up, wt⟩, htk⟩ : ∃ x, ts.getD j tk0 = x := ⟨_, rfl⟩
  have HTK := Lib.hid htk
  rw [htk] at y0 y1 y2 y3 hw o1 o2 o3 o4 o5 o6 o7
  simp only at y0 y1 y2 y3 hw o1 o2 o3 o4 o5 o6 o7
  subst hw
  obtain ⟨P2, hP2⟩ : ∃ P2, (hi - lo) / 2 = P2 := ⟨_, rfl⟩
  have hp1 : 0 ≤ P2 := by omega
  have hp2 : P2 ≤ hi - lo - P2 := by omega
  have hp3 : hi - lo - P2 ≤ P2 + 1 := by omega
  have HP : Hid (partedTs ts j = ts.set j ⟨lo, hi, up, 2⟩ ++ [⟨lo, lo + P2, j, 0⟩, ⟨lo + P2, hi, j, 0⟩]) := Lib.hid (by unfold partedTs; rw [htk]; simp only; rw [hP2])
  have hlb : b < W.heap.size := World.block_lt_of_cell? _ _ y0
  have Y := Lib.hid (And.intro y0 (And.intro y1 (And.intro y2 y3)))
  clear h hd hg hk hb hcc e0 htk y0 y1 y2 y3 hr hgt hP2
  go_enter Try.func5, Try.ntmps5
  go_wp2_with fail
  refine (talive_any _).mono ?_
  rintro e w1 ⟨rfl, hE⟩
  have q0 : w1.cell? ⟨W.heap.size, 0, none⟩ = some (.slice (some ⟨b, off, none⟩) ts.length c) := hE.cell (by go_simp)
  have q1 : w1.cell? ⟨W.heap.size, 1, none⟩ = some (.int .i64 g) := hE.cell (by go_simp)
  have q2 : w1.cell? ⟨W.heap.size, 2, none⟩ = some (.slice B dn.length d) := hE.cell (by go_simp)
  have hz := hE.size
  simp at hz
  have E1 := Lib.hid (((Ext.refl W).alloc _).trans hE)
  clear hE
  go_wp2_with fail
  obtain ⟨m1, hm1⟩ : ∃ m1, ts.length + 1 = m1 := ⟨_, rfl⟩
  obtain ⟨m2, hm2⟩ : ∃ m2, ts.length + 2 = m2 := ⟨_, rfl⟩
  have e1 : (ts.length : Int) + 1 = (m1 : Int) := by omega
  have e2 : (m1 : Int) + 1 = (m2 : Int) := by omega
  have i1 : (ts.length : Int) < m2 := by omega
  have i2 : (m1 : Int) < m2 := by omega
  have i3 : (m2 : Int) ≤ 302 := by omega
  have i4 : (j : Int) < m2 := by omega
  have i5 : (0 : Int) ≤ m1 := by omega
  have hpl : Hid ((partedTs ts j).length = m2) := Lib.hid (by rw [HP.out]; simp; omega)
  have M1 := Lib.hid hm1
  have M2 := Lib.hid hm2
  have hlm : j < m2 ∧ ts.length < m2 ∧ m1 < m2 := by omega
  clear hm1 hm2
  refine (part_to _ _ _ _ ts.length dn.length m2 ts (partedTs ts j) dn g j (ts.length : Int) (m1 : Int) _ (H.out.ext E1.out) (HD.out.ext E1.out) rfl rfl HG.out HI.out hl1 hl2 HK.out (by rw [Int.toNat_natCast]) hpl.out rfl e1).mono ?_
  rintro e w2 ⟨A2, c2, B2, d2, rfl, hT, hD, _, _, hE⟩
  obtain ⟨b2, off2, rfl, hcc⟩ := Rd.tasks hT (by rw [hpl.out]; omega)
  have ga : (partedTs ts j).getD ts.length ⟨0, 0, 0, 0⟩ = ⟨lo, lo + P2, j, 0⟩ := by rw [HP.out, List.getD_eq_getElem?_getD, List.getElem?_append_right (by simp)]; simp
  have gb : (partedTs ts j).getD m1 ⟨0, 0, 0, 0⟩ = ⟨lo + P2, hi, j, 0⟩ := by rw [← M1.out, HP.out, List.getD_eq_getElem?_getD, List.getElem?_append_right (by simp)]; simp
  have gc : (partedTs ts j).getD j ⟨0, 0, 0, 0⟩ = ⟨lo, hi, up, 2⟩ := by rw [HP.out, List.getD_eq_getElem?_getD, List.getElem?_append_left (by simpa using hj), List.getElem?_set_self hj]; rfl
  obtain ⟨a0, a1, a2, a3⟩ := hcc ts.length (by rw [hpl.out]; omega)
  obtain ⟨b0', b1', b2', b3'⟩ := hcc m1 (by rw [hpl.out]; omega)
  obtain ⟨_, _, _, k3⟩ := hcc j (by rw [hpl.out]; omega)
  rw [ga] at a0 a1 a2 a3
  rw [gb] at b0' b1' b2' b3'
  rw [gc] at k3
  simp only at a0 a1 a2 a3 b0' b1' b2' b3' k3
  have r0 : w2.cell? ⟨W.heap.size, 0, none⟩ = some (.slice (some ⟨b, off, none⟩) ts.length c) := hE.cell q0
  have hz2 := hE.size
  have l0 : W.heap.size < w2.heap.size := by omega
  have lb : b < w2.heap.size := by omega
  have lb2 : b2 < w2.heap.size := World.block_lt_of_cell? _ _ a0
  have E2 := Lib.hid (E1.out.trans hE)
  have y0 := E2.out.cell Y.out.1
  have y1 := E2.out.cell Y.out.2.1
  have y2 := E2.out.cell Y.out.2.2.1
  have y3 := E2.out.cell Y.out.2.2.2
  clear hE hT hD q0 q1 q2 E1 hcc ga gb gc
  have HS : Hid (∀ w', Below (w2.heap.size + 1) (w2.alloc (.cells #[.slice (some ⟨b2, off2, none⟩) m2 c2, .int .i64 g, .slice B2 dn.length d2] 25)) w' → w'.cell? ⟨W.heap.size, 0, none⟩ = some (.slice (some ⟨b, off, none⟩) ts.length c) ∧ w'.cell? ⟨w2.heap.size, 0, none⟩ = some (.slice (some ⟨b2, off2, none⟩) m2 c2) ∧ w'.cell? ⟨b, off + j * 4, none⟩ = some (.int .i64 lo) ∧ w'.cell? ⟨b, off + j * 4 + 1, none⟩ = some (.int .i64 hi) ∧ w'.cell? ⟨b, off + j * 4 + 2, none⟩ = some (.int .i64 up) ∧ w'.cell? ⟨b, off + j * 4 + 3, none⟩ = some (.int .i64 0) ∧ w'.cell? ⟨b2, off2 + ts.length * 4, none⟩ = some (.int .i64 lo) ∧ w'.cell? ⟨b2, off2 + ts.length * 4 + 1, none⟩ = some (.int .i64 (lo + P2)) ∧ w'.cell? ⟨b2, off2 + ts.length * 4 + 2, none⟩ = some (.int .i64 j) ∧ w'.cell? ⟨b2, off2 + ts.length * 4 + 3, none⟩ = some (.int .i64 0) ∧ w'.cell? ⟨b2, off2 + m1 * 4, none⟩ = some (.int .i64 (lo + P2)) ∧ w'.cell? ⟨b2, off2 + m1 * 4 + 1, none⟩ = some (.int .i64 hi) ∧ w'.cell? ⟨b2, off2 + m1 * 4 + 2, none⟩ = some (.int .i64 j) ∧ w'.cell? ⟨b2, off2 + m1 * 4 + 3, none⟩ = some (.int .i64 0)) := Lib.hid fun w' hB => by
    have f : ∀ bl o v, bl < w2.heap.size → w2.cell? ⟨bl, o, none⟩ = some v → w'.cell? ⟨bl, o, none⟩ = some v := fun bl o v hbl hc => (Below.cell hB (p := ⟨bl, o, none⟩) (by show bl < _; omega)).trans (Lib.cell?_alloc_some _ hc)
    have fx : w'.cell? ⟨w2.heap.size, 0, none⟩ = some (.slice (some ⟨b2, off2, none⟩) m2 c2) := (Below.cell hB (p := ⟨w2.heap.size, 0, none⟩) (by show w2.heap.size < _; omega)).trans (by go_simp)
    exact ⟨f _ _ _ l0 r0, fx, f _ _ _ lb y0, f _ _ _ lb y1, f _ _ _ lb y2, f _ _ _ lb y3, f _ _ _ lb2 a0, f _ _ _ lb2 a1, f _ _ _ lb2 a2, f _ _ _ lb2 a3, f _ _ _ lb2 b0', f _ _ _ lb2 b1', f _ _ _ lb2 b2', f _ _ _ lb2 b3'⟩
  have K3 := Lib.hid k3
  go_upto_region 10 with fail
  go_cut [9, 10, 11] (fun t l r wx => PartsCut (w2.alloc (.cells #[.slice (some ⟨b2, off2, none⟩) m2 c2, .int .i64 g, .slice B2 dn.length d2] 25)) lo hi up P2 j t l r wx)
  case first =>
    go_region_held3 (fun w' => w'.cell? ⟨W.heap.size, 0, none⟩ = some (.slice (some ⟨b, off, none⟩) ts.length c) ∧ w'.cell? ⟨w2.heap.size, 0, none⟩ = some (.slice (some ⟨b2, off2, none⟩) m2 c2) ∧ w'.cell? ⟨b, off + j * 4, none⟩ = some (.int .i64 lo) ∧ w'.cell? ⟨b, off + j * 4 + 1, none⟩ = some (.int .i64 hi) ∧ w'.cell? ⟨b, off + j * 4 + 2, none⟩ = some (.int .i64 up) ∧ w'.cell? ⟨b, off + j * 4 + 3, none⟩ = some (.int .i64 0) ∧ w'.cell? ⟨b2, off2 + ts.length * 4, none⟩ = some (.int .i64 lo) ∧ w'.cell? ⟨b2, off2 + ts.length * 4 + 1, none⟩ = some (.int .i64 (lo + P2)) ∧ w'.cell? ⟨b2, off2 + ts.length * 4 + 2, none⟩ = some (.int .i64 j) ∧ w'.cell? ⟨b2, off2 + ts.length * 4 + 3, none⟩ = some (.int .i64 0) ∧ w'.cell? ⟨b2, off2 + m1 * 4, none⟩ = some (.int .i64 (lo + P2)) ∧ w'.cell? ⟨b2, off2 + m1 * 4 + 1, none⟩ = some (.int .i64 hi) ∧ w'.cell? ⟨b2, off2 + m1 * 4 + 2, none⟩ = some (.int .i64 j) ∧ w'.cell? ⟨b2, off2 + m1 * 4 + 3, none⟩ = some (.int .i64 0))
      (exact HS.out _ (by repeat' (first | exact Below.refl _ _ | apply Below.drew | apply Below.alloc | apply Below.setCell | (simp; done) | (simp; omega))))
      (fail)
    all_goals
      go_wp2_with fail
      go_meet
      exact ⟨_, _, _, rfl, rfl, rfl, by go_simp, by go_simp, by go_simp, by go_simp, by go_simp, by go_simp, by go_simp, by go_simp, by go_simp, by go_simp, by go_simp, by go_simp, by repeat (first | exact Ext.refl _ | refine Ext.drew ?_ | refine Ext.alloc ?_ _)⟩
  case rest =>
    obtain ⟨pa, pb, pc, rfl, rfl, rfl, ta, tb, tc, td, la, lb', lc, ld, ra, rb, rc, rd, hX⟩ := hcut
    have HX := Lib.hid hX
    have x0 : wc.cell? ⟨w2.heap.size, 0, none⟩ = some (.slice (some ⟨b2, off2, none⟩) m2 c2) := hX.cell (by go_simp)
    have k3 := hX.cell (Lib.cell?_alloc_some _ K3.out)
    clear hX
    go_wp2_with fail
    refine Calls.mono (ints_any _ _ [0, 0] [0, 0] _ ((ints_lit2 wc wc.heap.size 0 0 rfl (by omega) (by omega)).ext ((Ext.refl _).alloc _)) (ints_lit2 _ (wc.heap.size + 1) 0 0 (by simp) (by omega) (by omega))) ?_
    rintro e w9 ⟨he, nq, rfl⟩
    rw [show sameB [0, 0] [0, 0] = true from rfl] at he
    subst he
    go_wp2_with fail
    go_ret
    exact ⟨rfl, (((((E2.out.alloc _).trans HX.out).alloc _).alloc _).drewN _)⟩

theorem tparts_any (A B : Option Addr) (c d : Nat) (ts : List Tk) (dn : List Bool) (g i : Int) (W : World) (h : Rd kTask W (.slice A ts.length c) ts) (hd : Rd kBool W (.slice B dn.length d) dn) (hg : in64 g) (hi : in64 i) :
    Calls Try.prog 5 #[.agg #[.slice A ts.length c, .int .i64 g, .slice B dn.length d], .int .i64 i] W fun e w' => e = .returned (.bool true) ∧ Ext W w' := by
  by_cases hb : 300 < ts.length ∨ 1001 < dn.length
  · exact tparts_great A B c d ts dn g i W h hd hb
  · by_cases hk : partErr ts g dn.length i = 0
    · obtain ⟨hr, j, rfl, hj, hgt, hw, _⟩ := partErr_zero hk
      exact tparts_ok A B c d ts dn g j W h hd hg (by omega) hj hr hgt hw hk
    · exact tparts_no A B c d ts dn g i _ W h hd hg hi (by omega) rfl hk
end Go.Proofs.Ytghjkfhkpmenoaa
