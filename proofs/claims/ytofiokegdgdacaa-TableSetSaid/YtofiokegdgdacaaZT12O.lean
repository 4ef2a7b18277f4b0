/- TableNear: the law returns true. -/
import Derived.Test.YtofiokegdgdacaaJ6
import Derived.Test.YtofiokegdgdacaaZT12N
set_option linter.unusedVariables false
set_option linter.unusedSimpArgs false
set_option linter.unnecessarySimpa false
namespace Go.Proofs.Ytofiokegdgdacaa
open Go.BigFrame
open Go.RowKit Go.Proofs.Ytofiokegdgdacaa.Plain

def StopT (p : Prop) : Prop := p
theorem StopT.to {p : Prop} (h : StopT p) : p := h
theorem StopT.of {p : Prop} (h : p) : StopT p := h
/-- what is found in a table of a rising list -/
structure Near (B N : Nat) (tab : Tab) (ks : List Nat) (key fp fk : Nat) (fo : Bool) (h : Nat) : Prop where
  ok : fo = decide (key ∈ ks)
  lo : 1 ≤ fk
  hi : fk ≤ N
  hm : h < N
  before : ∀ j, j + 1 < fk → ∃ y, y ≠ key ∧ tab.getD ((h + j) % N) none = some y
  there : fo = true → fp = (h + (fk - 1)) % N ∧ tab.getD fp none = some key
  gone : fo = false → tab.getD ((h + (fk - 1)) % N) none = none
theorem Plain.find_made {B : Nat} {ks : List Nat} (h1 : 1 ≤ B) (h2 : B ≤ 10) (hl : ks.Pairwise (· < ·)) (hr : ks.length ≤ 2 ^ B * 3 / 4) (key : Nat) : findP (tbOf B ks) key = findT B (fillT B ks) key := by
  unfold findP
  rw [if_pos (right_made h1 h2 hl hr), keys_of hl hr]
  show findT ((B : Int)).toNat (fillT ((B : Int)).toNat ks) key = _
  rw [Int.toNat_natCast]
theorem near_of {B : Nat} {ks : List Nat} (h1 : 1 ≤ B) (h2 : B ≤ 10) (hl : ks.Pairwise (· < ·)) (hr : ks.length ≤ 2 ^ B * 3 / 4) (key fp fk : Nat) (fo : Bool) (hf : findP (tbOf B ks) key = (fp, fk, fo)) : Near B (2 ^ B) (fillT B ks) ks key fp fk fo (homeN B key) := by
  have hi := inv_of hl hr
  have h0 : 0 < 2 ^ B := Nat.two_pow_pos B
  obtain ⟨g1, g2, g3, g4, g5, g6⟩ := find_good hi (by omega) key
  rw [← find_made h1 h2 hl hr key, hf] at g1 g2 g3 g4 g5 g6
  simp only at g1 g2 g3 g4 g5 g6
  rw [hi.len] at g3 g4 g5 g6
  refine ⟨g1, g2, g3, homeN_lt B key h2, g4, fun h => g5 ?_, fun h => g6 ?_⟩
  · rw [g1] at h; exact of_decide_eq_true h
  · rw [g1] at h; exact of_decide_eq_false h
theorem Plain.make_small {B : Nat} (h1 : 1 ≤ B) (h2 : B ≤ 10) (l : List Nat) : makeP (B : Int) l = if 2 ^ B * 3 / 4 < (risingR l).length then (noTb, 2) else (tbOf B (risingR l), 0) := by
  unfold makeP
  rw [if_neg (by omega), Int.toNat_natCast]
set_option maxHeartbeats 6400000 in
set_option maxRecDepth 100000 in
theorem tablenear_any (b : Int) (l : List Nat) (L : Option Addr) (lc other : Nat) (W : World) (hL : Rd kU32 W (.slice L l.length lc) (zs l)) (hb : 0 ≤ b ∧ b ≤ 255) (ho : other < 4294967296) :
    Calls Try.prog 5 #[.int .u8 b, .slice L l.length lc, .int .u32 other] W fun ed w' => ed = .returned (.bool true) ∧ Ext W w' := by
  have HL := Lib.hid hL
  have HOT := Lib.hid ho
  obtain ⟨b0, b1⟩ := hb
  obtain ⟨A1, hA1⟩ : ∃ A : Nat, b.tmod 6 = (A : Int) := ⟨(b % 6).toNat, by rw [Int.tmod_eq_emod_of_nonneg b0]; omega⟩
  have hA2 : A1 < 6 := by rw [Int.tmod_eq_emod_of_nonneg b0] at hA1; omega
  obtain ⟨B, hB⟩ : ∃ B : Nat, (1 : Int) + A1 = B := ⟨1 + A1, by omega⟩
  have hB1 : 1 ≤ B := by omega
  have hB2 : B ≤ 6 := by omega
  have hB9 : IntKind.i64.wrap (B : Int) = B := IntWalk.i64_in _ (by omega)
  have hwa : IntKind.i64.wrap b = b := IntWalk.i64_in _ (by omega)
  have hwb : IntKind.i64.wrap (A1 : Int) = A1 := IntWalk.i64_in _ (by omega)
  have HBI : Hid (in64 (B : Int)) := Lib.hid (in64_nat B (by omega))
  have HBB := Lib.hid (And.intro hB1 hB2)
  clear hL ho hA2
  go_enter Try.func5, Try.ntmps5
  go_wp2_with fail
  refine (tablealive_any _).mono ?_
  rintro ed w1 ⟨rfl, hE1⟩
  have HX1 := Lib.hid hE1
  clear hE1
  by_cases h3 : (48 : Int) < l.length
  · go_wp2_with fail
    go_ret
    exact ⟨rfl, HX1.out⟩
  have h3' : (l.length : Int) ≤ 48 := by omega
  clear h3
  have hmk := make_small hB1 (by omega) l
  have hns : 2 ^ B ≤ 64 := by have := Nat.pow_le_pow_right (n := 2) (by decide) hB2; simpa using this
  have hn0 : 0 < 2 ^ B := Nat.two_pow_pos B
  obtain ⟨ks, hks⟩ : ∃ ks, risingR l = ks := ⟨_, rfl⟩
  have hkr : ks.Pairwise (· < ·) := by rw [← hks]; exact (risingR_good _ l rfl).1
  have hkm : ∀ y, y ∈ ks ↔ y ∈ l := by rw [← hks]; exact (risingR_good _ l rfl).2.1
  rw [hks] at hmk
  clear hks
  go_wp2_with fail
  by_cases hfull : 2 ^ B * 3 / 4 < ks.length
  · rw [if_pos hfull] at hmk
    have HM := Lib.hid hmk
    clear hmk hfull
    refine (pmake12_to B l l.length L lc 0 [] [] 2 0 0 _ (HL.out.ext HX1.out) rfl (by omega) HBI.out HM.out rfl rfl).mono ?_
    rintro ed w2 ⟨C2, F2, c2, f2, rfl, hC2, hF2, hE2⟩
    have HX2 := Lib.hid (HX1.out.trans hE2)
    clear hE2 hC2 hF2
    go_wp2_with fail
    go_ret
    exact ⟨ret_bool (by first | rfl | simp), HX2.out.alloc _⟩
  rw [if_neg hfull] at hmk
  have hfull' : ks.length ≤ 2 ^ B * 3 / 4 := Nat.le_of_not_lt hfull
  have hnear := fun key fp fk fo hf => near_of hB1 (by omega) hkr hfull' key fp fk fo hf
  have hlen : (fillT B ks).length = 2 ^ B := (inv_of hkr hfull').len
  obtain ⟨N, hN⟩ : ∃ N, 2 ^ B = N := ⟨_, rfl⟩
  rw [hN] at hnear hlen hns hn0
  obtain ⟨tab, htab⟩ : ∃ tab, fillT B ks = tab := ⟨_, rfl⟩
  rw [htab] at hnear hlen
  have htb : tbOf B ks = ⟨B, cellsT tab, fullT tab⟩ := by rw [← htab]; rfl
  rw [htb] at hmk
  rw [htb] at hnear
  have hcl : (cellsT tab).length = N := by rw [cellsT_len, hlen]
  have hfl : (fullT tab).length = N := by rw [fullT_len, hlen]
  have HM := Lib.hid hmk
  have HNEAR := Lib.hid hnear
  have HKM := Lib.hid hkm
  have HCL := Lib.hid (And.intro hcl (And.intro hfl hlen))
  have hhome : ∀ key, homeP (B : Int) key = (homeN B key : Nat) := fun key => by unfold homeP; rw [if_neg (by omega), Int.toNat_natCast]
  have HHOME := Lib.hid hhome
  have hN1 : (N : Int) ≤ 64 := by omega
  have hN0 : (0 : Int) < N := by omega
  have hNne : (N : Int) ≠ 0 := by omega
  have hN2 : N ≠ 0 := by omega
  clear hmk hnear hkm hfull hfull' hkr hlen hN htab htb hcl hfl hhome hns hn0
  refine (pmake12_to B l l.length L lc B (cellsT tab) (fullT tab) 0 N N _ (HL.out.ext HX1.out) rfl (by omega) HBI.out HM.out HCL.out.1 HCL.out.2.1).mono ?_
  rintro ed w2 ⟨C2, F2, c2, f2, rfl, hC2, hF2, hE2⟩
  have HX2 := Lib.hid (HX1.out.trans hE2)
  have HC2 := Lib.hid hC2
  have HF2 := Lib.hid hF2
  clear hE2 hC2 hF2 HX1 HM hA1 hB hB9 hwa hwb b0 b1
  have HLL : Hid (([] : List Int).length + (zs l).length ≤ 1048576) := Lib.hid (by rw [zs_len, List.length_nil]; omega)
  have HO1 := Lib.hid (And.intro HOT.out (show (zs l).length + 1 ≤ 1048576 by rw [zs_len]; omega))
  go_wp2_with (first | (at_builtin; refine StopT.to ?_) | fail)
  refine StopT.of ?_
  refine kU32.wpList_app (by rfl) (.tmp 42) (.tmp 43) (by rfl) (by rfl) w2.heap.size _ [] (by rfl) (empty_at (heap_alloc_at (by simp)) (by omega)) _ (zs l) (by rfl) (HL.out.ext (HX2.out.trans (((Ext.refl _).alloc _).alloc _))) HLL.out (by simp; omega) ?_
  intro v4 w4 hown4 hgrow4 hat4
  have hx4 : Ext w2 w4 := Ext.grown (((Ext.refl _).alloc _).alloc _) hgrow4 (fun k hk => by cases hk; simp)
  have k0 : w4.cell? ⟨w2.heap.size, 0, none⟩ = some (.int .i64 B) := hgrow4.cell (by go_simp) (by simp [Value.ownBlock])
  have k1 : w4.cell? ⟨w2.heap.size, 1, none⟩ = some (.slice C2 N c2) := hgrow4.cell (by go_simp) (by simp [Value.ownBlock])
  have k2 : w4.cell? ⟨w2.heap.size, 2, none⟩ = some (.slice F2 N f2) := hgrow4.cell (by go_simp) (by simp [Value.ownBlock])
  have hs4 := hx4.size
  have hP4 : w2.heap.size < w4.heap.size := World.block_lt_of_cell? _ _ k0
  have hrow4 : ∀ k, v4.ownBlock = some k → w2.heap.size + 1 ≤ k := fun k hk => by
    rcases hat4 with e | e
    · rw [e] at hk; simp [Value.ownBlock] at hk; omega
    · rw [e] at hk; cases hk; simp
  rw [List.nil_append] at hown4
  clear hgrow4 hat4
  go_wp2_with (first | (at_builtin; refine StopT.to ?_) | fail)
  refine StopT.of ?_
  refine kU32.wpList_app (by rfl) (.tmp 44) (.tmp 46) (by rfl) (by rfl) w2.heap.size _ (zs l) (by rfl) (hown4.ext ((Ext.refl _).alloc _)) _ [(other : Int)] (by rfl) (u32_lit _ other HO1.out.1) (by rw [List.length_singleton]; exact HO1.out.2) (by simp; omega) ?_
  intro v5 w5 hown5 hgrow5 hat5
  have hx5 : Ext w2 w5 := Ext.grown (hx4.alloc _) hgrow5 (fun k hk => by have := hrow4 k hk; omega)
  have j0 : w5.cell? ⟨w2.heap.size, 0, none⟩ = some (.int .i64 B) := hgrow5.cell (Ext.cell ((Ext.refl w4).alloc _) k0) (fun e => by have := hrow4 w2.heap.size e.symm; omega)
  have j1 : w5.cell? ⟨w2.heap.size, 1, none⟩ = some (.slice C2 N c2) := hgrow5.cell (Ext.cell ((Ext.refl w4).alloc _) k1) (fun e => by have := hrow4 w2.heap.size e.symm; omega)
  have j2 : w5.cell? ⟨w2.heap.size, 2, none⟩ = some (.slice F2 N f2) := hgrow5.cell (Ext.cell ((Ext.refl w4).alloc _) k2) (fun e => by have := hrow4 w2.heap.size e.symm; omega)
  have hP5 : w2.heap.size < w5.heap.size := World.block_lt_of_cell? _ _ j0
  obtain ⟨A5, c5, hv5, hc5⟩ := hown5.slice
  rw [List.length_append, zs_len, List.length_singleton] at hv5
  subst hv5
  have HX5 := Lib.hid (HX2.out.trans hx5)
  have HC5 := Lib.hid (HC2.out.ext hx5)
  have HF5 := Lib.hid (HF2.out.ext hx5)
  have HA5 : Hid (Rd kU32 w5 (.slice A5 (l.length + 1) c5) (zs (l ++ [other]))) := Lib.hid (by rw [zs_app]; exact hown5.rd)
  clear k0 k1 k2 hgrow5 hat5 hown5 hrow4 hown4 hx4 hx5 HC2 HF2 HX2 hs4 hP4 HO1 HLL hc5
  obtain ⟨al, hal⟩ : ∃ al, l ++ [other] = al := ⟨_, rfl⟩
  have hall : al.length = l.length + 1 := by rw [← hal]; simp
  have hpre : ∀ i, i < l.length → al.getD i 0 ∈ l := fun i hi => by
    rw [← hal, List.getD_eq_getElem?_getD, List.getElem?_append_left hi, List.getElem?_eq_getElem hi]; exact List.getElem_mem hi
  rw [hal, ← hall] at HA5
  have hallI : (l.length : Int) + 1 = (al.length : Int) := by omega
  have hal9 : (al.length : Int) ≤ 49 := by omega
  have HPRE := Lib.hid hpre
  have HALL := Lib.hid hall
  rw [← hall]
  clear hal hpre hall
  go_wp2_with fail
  go_loopw [11] (fun i wr => ∃ k : Nat, k ≤ al.length ∧ i = .int .i64 k ∧ Ext w5 wr) (fun i _ => al.length - (intOf i).toNat)
  case atStart => exact ⟨0, Nat.zero_le _, rfl, Ext.refl _⟩
  case round =>
    obtain ⟨i, hi, rfl, hX⟩ := hrel
    have HX := Lib.hid hX
    have hi0 : (0 : Int) ≤ i := by omega
    replace j0 := Ext.cell hX j0
    replace j1 := Ext.cell hX j1
    replace j2 := Ext.cell hX j2
    have hPr : w2.heap.size < wr.heap.size := World.block_lt_of_cell? _ _ j0
    clear hX
    by_cases hlt : i < al.length
    · have hlt' : (i : Int) < al.length := by omega
      obtain ⟨bx, ox, rfl, z0, hxl⟩ := u32_at (HA5.out.ext HX.out) i hlt
      have hpk := HPRE.out i
      obtain ⟨key, hkey⟩ : ∃ key, al.getD i 0 = key := ⟨_, rfl⟩
      rw [hkey] at z0 hxl hpk
      obtain ⟨⟨fp, fk, fo⟩, hf⟩ : ∃ r, findP ⟨B, cellsT tab, fullT tab⟩ key = r := ⟨_, rfl⟩
      obtain ⟨g1, g2, g3, g4, g5, g6, g7⟩ := HNEAR.out key fp fk fo hf
      have hhm := HHOME.out key
      obtain ⟨h, hh⟩ : ∃ h, homeN B key = h := ⟨_, rfl⟩
      rw [hh] at hhm g4 g5 g6 g7
      have hfo : fo = decide (key ∈ l) := by
        rw [g1]
        by_cases h9 : key ∈ l
        · rw [decide_eq_true h9, decide_eq_true ((HKM.out key).2 h9)]
        · rw [decide_eq_false h9, decide_eq_false (fun h8 => h9 ((HKM.out key).1 h8))]
      have HFO := Lib.hid hfo
      have HG5 := Lib.hid g5
      have HG6 := Lib.hid g6
      have HG7 := Lib.hid g7
      have hB10 : in64 ((⟨B, cellsT tab, fullT tab⟩ : Tb).bits) := HBI.out
      have HF1 : Hid (∀ w', Ext wr w' → Calls Try.prog 14 #[tabV B C2 N c2 F2 N f2, .int .u32 key] w' fun ed w'' => ed = .returned (.tuple #[.int .i64 fp, .int .i64 fk, .bool fo]) ∧ Ext wr w'') := Lib.hid fun w' hE => by
        refine (pfind12_to B (cellsT tab) (fullT tab) N N C2 F2 c2 f2 key fp fk fo w' (HC5.out.ext (HX.out.trans hE)) (HF5.out.ext (HX.out.trans hE)) HCL.out.1 HCL.out.2.1 (by rw [HCL.out.1]; omega) (by rw [HCL.out.2.1]; omega) HBI.out hxl (by rw [hf]) (by rw [hf]) (by rw [hf])).mono fun ed w'' h9 => ⟨h9.1, hE.trans h9.2⟩
      have HF3 : Hid (∀ w', Ext wr w' → Calls Try.prog 16 #[.int .i64 B, .int .u32 key] w' fun ed w'' => ed = .returned (.int .i64 h) ∧ Ext wr w'') := Lib.hid fun w' hE => (phome12_any B key w' HBI.out hxl).mono fun ed w'' h9 => ⟨by rw [h9.1, hhm], hE.trans h9.2⟩
      have HHAS : Hid (∀ w', Ext wr w' → Calls Try.prog 25 #[.slice L l.length lc, .int .u32 key] w' fun ed w'' => ed = .returned (.bool fo) ∧ w' = w'') := Lib.hid fun w' hE => (rhas11_any l L lc key w' (HL.out.ext (HX5.out.trans (HX.out.trans hE)))).mono fun ed w'' h9 => ⟨by rw [h9.1, HFO.out], h9.2⟩
      have KS : Hid (∀ w', Ext wr w' → w'.cell? ⟨w2.heap.size, 0, none⟩ = some (.int .i64 B) ∧ w'.cell? ⟨w2.heap.size, 1, none⟩ = some (.slice C2 N c2) ∧ w'.cell? ⟨w2.heap.size, 2, none⟩ = some (.slice F2 N f2) ∧ w'.cell? ⟨bx, ox + i, none⟩ = some (.int .u32 key)) := Lib.hid (fun w' hE => ⟨hE.cell j0, hE.cell j1, hE.cell j2, hE.cell z0⟩)
      have lbx : bx < wr.heap.size := World.block_lt_of_cell? _ _ z0
      have hd1 : decide ((N : Int) ≤ (h : Int)) = false := decide_eq_false (by omega)
      have hd2 : decide ((fk : Int) < 1) = false := decide_eq_false (by omega)
      have hd3 : decide ((N : Int) < (fk : Int)) = false := decide_eq_false (by omega)
      have hd4 : decide (N ≤ h) = false := decide_eq_false (by omega)
      have hd6 : decide (N < fk) = false := decide_eq_false (by omega)
      have hd7 : decide (fk < 1) = false := decide_eq_false (by omega)
      have hh0 : (0 : Int) ≤ h := by omega
      have hh1 : (h : Int) < N := by omega
      have hfk0 : (1 : Int) ≤ fk := by omega
      have hfk1 : (fk : Int) ≤ N := by omega
      obtain ⟨f1, hf1⟩ : ∃ f1 : Nat, (fk : Int) - 1 = (f1 : Int) := ⟨fk - 1, by omega⟩
      have hw1 : IntKind.i64.wrap (f1 : Int) = f1 := IntWalk.i64_in _ (by omega)
      have hf11 : f1 + 1 = fk := by omega
      have hfi : fo = false → decide ((i : Int) < (l.length : Int)) = false := fun h9 => decide_eq_false (fun h8 => by
        have := hpk (by omega)
        rw [hfo, decide_eq_false_iff_not] at h9
        exact h9 this)
      have HFI := Lib.hid hfi
      clear hkey hf hhm hh g1 g2 g3 g4 g5 g6 g7 hfo hxl hpk z0 j0 j1 j2 hfi hB10
      go_wp2_with fail
      refine wp_region_class (Ext wr) (by kernel_rfl) (by kernel_rfl) (Ext.refl _).drew ?_
      try simp only [List.append_eq, List.cons_append, List.nil_append]
      repeat (first
        | go_big_quiet_skip
        | (go_big_quiet_want
           first
           | (go_big_quiet_op; go_big_quiet_on)
           | (unfold Oper.quiet
              apply Exists.intro
              refine ⟨fun w' hC => ?_, ?_⟩
              · (obtain ⟨k1, k2, k3, k4⟩ := KS.out w' hC
                 unfold Oper.quietAt
                 go_simp
                 first
                 | exact rfl
                 | (with_reducible exact HF1.out w' hC))
              go_simp
              go_big_quiet_on)
           | (go_big_quiet_op
              apply Exists.intro
              refine ⟨fun w' hC => ?_, ?_⟩
              · exact HF1.out w' hC
              go_big_quiet_on)))
      refine wpQuiet_nil ?_
      intro w21 hC1
      go_wp2_with fail
      refine wp_region_class (Ext wr) (by kernel_rfl) (by kernel_rfl) hC1.drew ?_
      try simp only [List.append_eq, List.cons_append, List.nil_append]
      repeat (first
        | go_big_quiet_skip
        | (go_big_quiet_want
           first
           | (go_big_quiet_op; go_big_quiet_on)
           | (unfold Oper.quiet
              apply Exists.intro
              refine ⟨fun w' hC => ?_, ?_⟩
              · (obtain ⟨k1, k2, k3, k4⟩ := KS.out w' hC
                 unfold Oper.quietAt
                 go_simp
                 first
                 | exact rfl
                 | (with_reducible exact HF3.out w' hC))
              go_simp
              go_big_quiet_on)
           | (go_big_quiet_op
              apply Exists.intro
              refine ⟨fun w' hC => ?_, ?_⟩
              · exact HF3.out w' hC
              go_big_quiet_on)))
      refine wpQuiet_nil ?_
      intro w22 hC2
      obtain ⟨e0, e1, e2, e3⟩ := KS.out w22 hC2
      have HE2 := Lib.hid hC2
      have lbx2 : bx < w22.heap.size := World.block_lt_of_cell? _ _ e3
      have lbp2 : w2.heap.size < w22.heap.size := World.block_lt_of_cell? _ _ e0
      clear hC1 hC2 HF1 HF3 hPr lbx
      -- WAYS
      clear KS
      rcases (show fo = true ∨ fo = false by cases fo <;> simp) with rfl | rfl
      · have HGG := Lib.hid (HG6.out rfl)
        have hd5 := HFI.out
        go_wp2_with fail
        refine (HHAS.out _ HE2.out).mono ?_
        rintro ed w23 ⟨rfl, rfl⟩
        go_wp2_with fail
        go_loopw [16] (fun k wq => ∃ j : Nat, j ≤ f1 ∧ k = .int .i64 j ∧ Ext w22 wq) (fun k _ => f1 - (intOf k).toNat)
        case atStart => exact ⟨0, Nat.zero_le _, rfl, Ext.refl _⟩
        case round =>
          obtain ⟨j, hj, rfl, hX2⟩ := hrel
          have HX2 := Lib.hid (HE2.out.trans hX2)
          have HY2 := Lib.hid hX2
          have hj0 : (0 : Int) ≤ j := by omega
          clear hX2
          by_cases hlj : j < f1
          · have hlj' : (j : Int) < f1 := by omega
            obtain ⟨y, hy1, hy2⟩ := HG5.out j (by omega)
            obtain ⟨s, hs⟩ : ∃ s : Nat, (h : Int) + (j : Int) = (s : Int) := ⟨h + j, by omega⟩
            have hsn : h + j = s := by omega
            rw [hsn] at hy2
            have hq : s % N < N := Nat.mod_lt _ (by omega)
            have hqI : (s : Int).tmod (N : Int) = ((s % N : Nat) : Int) := by rw [Int.tmod_eq_emod_of_nonneg (by omega), Int.natCast_emod]
            obtain ⟨q, hqx⟩ : ∃ q, s % N = q := ⟨_, rfl⟩
            rw [hqx] at hy2 hq hqI
            obtain ⟨bf, of, hbf, y0⟩ := bool_at (l := fullT tab) (w := wr) (L := F2) (lc := f2) (by rw [HCL.out.2.1]; exact HF5.out.ext (HX.out.trans HX2.out)) q (by rw [HCL.out.2.1]; exact hq)
            obtain ⟨bc, oc, hbc, y1, _⟩ := u32_at (l := cellsT tab) (w := wr) (L := C2) (lc := c2) (by rw [HCL.out.1]; exact HC5.out.ext (HX.out.trans HX2.out)) q (by rw [HCL.out.1]; exact hq)
            rw [show kept (fullT tab) q = true from by show (fullT tab).getD q false = true; rw [fullT_at, hy2]; rfl] at y0
            rw [show (cellsT tab).getD q 0 = y from by rw [cellsT_at, hy2]; rfl] at y1
            have e1' := HY2.out.cell e1
            have e2' := HY2.out.cell e2
            have e3' := HY2.out.cell e3
            rw [hbc] at e1'
            rw [hbf] at e2'
            have KT : Hid (∀ w', Ext wr w' → w'.cell? ⟨w2.heap.size, 1, none⟩ = some (.slice (some ⟨bc, oc, none⟩) N c2) ∧ w'.cell? ⟨w2.heap.size, 2, none⟩ = some (.slice (some ⟨bf, of, none⟩) N f2) ∧ w'.cell? ⟨bx, ox + i, none⟩ = some (.int .u32 key) ∧ w'.cell? ⟨bf, of + q, none⟩ = some (.bool true) ∧ w'.cell? ⟨bc, oc + q, none⟩ = some (.int .u32 y)) := Lib.hid (fun w' hE => ⟨hE.cell e1', hE.cell e2', hE.cell e3', hE.cell y0, hE.cell y1⟩)
            have lb1 : w2.heap.size < wr.heap.size := World.block_lt_of_cell? _ _ e1'
            have lb2 : bf < wr.heap.size := World.block_lt_of_cell? _ _ y0
            have lb3 : bc < wr.heap.size := World.block_lt_of_cell? _ _ y1
            have lb4 : bx < wr.heap.size := World.block_lt_of_cell? _ _ e3'
            have hne1 : ((y : Int) == (key : Int)) = false := by rw [beq_eq_false_iff_ne]; omega
            have hne2 : (y == key) = false := by rw [beq_eq_false_iff_ne]; exact hy1
            have hws : IntKind.i64.wrap (s : Int) = s := IntWalk.i64_in _ (by omega)
            have hwq : IntKind.i64.wrap (q : Int) = q := IntWalk.i64_in _ (by omega)
            have hq0 : (0 : Int) ≤ q := by omega
            have hq1 : (q : Int) < N := by omega
            clear hy1 hy2 hsn hqx y0 y1 e1' e2' e3' hbf hbc e0 e1 e2 e3
            go_wp2_with fail
            refine wp_region_class (Ext wr) (by kernel_rfl) (by kernel_rfl) (Ext.refl _).drew ?_
            try simp only [List.append_eq, List.cons_append, List.nil_append]
            repeat (first
              | go_big_quiet_skip
              | (go_big_quiet_want
                 first
                 | (go_big_quiet_op; go_big_quiet_on)
                 | (unfold Oper.quiet
                    apply Exists.intro
                    refine ⟨fun w' hC => ?_, ?_⟩
                    · (obtain ⟨k1, k2, k3, k4, k5⟩ := KT.out w' hC
                       unfold Oper.quietAt
                       go_simp
                       first
                       | exact rfl)
                    go_simp
                    go_big_quiet_on)))
            refine wpQuiet_nil ?_
            intro w24 hC4
            go_wp2_with fail
            go_roundw
            case rel => exact ⟨j + 1, by omega, by go_num, HY2.out.trans hC4⟩
            case measure => simp [intOf]; omega
          · obtain rfl : j = f1 := by omega
            obtain ⟨s, hs⟩ : ∃ s : Nat, (h : Int) + (fk : Int) = (s : Int) := ⟨h + fk, by omega⟩
            obtain ⟨s4, hs4⟩ : ∃ s4 : Nat, (s : Int) - 1 = (s4 : Int) := ⟨h + j, by omega⟩
            have hsn : h + (fk - 1) = s4 := by omega
            have hq : s4 % N < N := Nat.mod_lt _ (by omega)
            have hqI : (s4 : Int).tmod (N : Int) = ((s4 % N : Nat) : Int) := by rw [Int.tmod_eq_emod_of_nonneg (by omega), Int.natCast_emod]
            have hG := HGG.out
            rw [hsn] at hG
            obtain ⟨q, hqx⟩ : ∃ q, s4 % N = q := ⟨_, rfl⟩
            rw [hqx] at hG hq hqI
            obtain ⟨rfl, hG2⟩ := hG
            obtain ⟨bf, of, hbf, y0⟩ := bool_at (l := fullT tab) (w := wr) (L := F2) (lc := f2) (by rw [HCL.out.2.1]; exact HF5.out.ext (HX.out.trans HX2.out)) fp (by rw [HCL.out.2.1]; exact hq)
            obtain ⟨bc, oc, hbc, y1, _⟩ := u32_at (l := cellsT tab) (w := wr) (L := C2) (lc := c2) (by rw [HCL.out.1]; exact HC5.out.ext (HX.out.trans HX2.out)) fp (by rw [HCL.out.1]; exact hq)
            rw [show kept (fullT tab) fp = true from by show (fullT tab).getD fp false = true; rw [fullT_at, hG2]; rfl] at y0
            rw [show (cellsT tab).getD fp 0 = (key : Nat) from by rw [cellsT_at, hG2]; rfl] at y1
            have e1' := HY2.out.cell e1
            have e2' := HY2.out.cell e2
            have e3' := HY2.out.cell e3
            rw [hbc] at e1'
            rw [hbf] at e2'
            have KT : Hid (∀ w', Ext wr w' → w'.cell? ⟨w2.heap.size, 1, none⟩ = some (.slice (some ⟨bc, oc, none⟩) N c2) ∧ w'.cell? ⟨w2.heap.size, 2, none⟩ = some (.slice (some ⟨bf, of, none⟩) N f2) ∧ w'.cell? ⟨bx, ox + i, none⟩ = some (.int .u32 key) ∧ w'.cell? ⟨bf, of + fp, none⟩ = some (.bool true) ∧ w'.cell? ⟨bc, oc + fp, none⟩ = some (.int .u32 key)) := Lib.hid (fun w' hE => ⟨hE.cell e1', hE.cell e2', hE.cell e3', hE.cell y0, hE.cell y1⟩)
            have lb1 : w2.heap.size < wr.heap.size := World.block_lt_of_cell? _ _ e1'
            have lb2 : bf < wr.heap.size := World.block_lt_of_cell? _ _ y0
            have lb3 : bc < wr.heap.size := World.block_lt_of_cell? _ _ y1
            have lb4 : bx < wr.heap.size := World.block_lt_of_cell? _ _ e3'
            have hws : IntKind.i64.wrap (s : Int) = s := IntWalk.i64_in _ (by omega)
            have hws4 : IntKind.i64.wrap (s4 : Int) = s4 := IntWalk.i64_in _ (by omega)
            have hwq : IntKind.i64.wrap (fp : Int) = fp := IntWalk.i64_in _ (by omega)
            have hq0 : (0 : Int) ≤ fp := by omega
            have hq1 : (fp : Int) < N := by omega
            clear hG2 hsn hqx y0 y1 e1' e2' e3' hbf hbc e0 e1 e2 e3
            go_wp2_with fail
            refine wp_region_class (Ext wr) (by kernel_rfl) (by kernel_rfl) (Ext.refl _).drew ?_
            try simp only [List.append_eq, List.cons_append, List.nil_append]
            repeat (first
              | go_big_quiet_skip
              | (go_big_quiet_want
                 first
                 | (go_big_quiet_op; go_big_quiet_on)
                 | (unfold Oper.quiet
                    apply Exists.intro
                    refine ⟨fun w' hC => ?_, ?_⟩
                    · (obtain ⟨k1, k2, k3, k4, k5⟩ := KT.out w' hC
                       unfold Oper.quietAt
                       go_simp
                       first
                       | exact rfl)
                    go_simp
                    go_big_quiet_on)))
            refine wpQuiet_nil ?_
            intro w24 hC4
            go_wp2_with fail
            go_roundw
            case rel => exact ⟨i + 1, by omega, by go_num, (HX.out.trans HX2.out).trans hC4⟩
            case measure => simp [intOf]; omega
      · have HGG := Lib.hid (HG7.out rfl)
        have hd5 := HFI.out rfl
        have hd8 : decide (i < l.length) = false := decide_eq_false (fun h9 => by rw [decide_eq_false_iff_not] at hd5; omega)
        have hd9 : ¬ (i : Int) < (l.length : Int) := by rw [decide_eq_false_iff_not] at hd5; exact hd5
        go_wp2_with fail
        refine (HHAS.out _ HE2.out).mono ?_
        rintro ed w23 ⟨rfl, rfl⟩
        go_wp2_with fail
        go_loopw [16] (fun k wq => ∃ j : Nat, j ≤ f1 ∧ k = .int .i64 j ∧ Ext w22 wq) (fun k _ => f1 - (intOf k).toNat)
        case atStart => exact ⟨0, Nat.zero_le _, rfl, Ext.refl _⟩
        case round =>
          obtain ⟨j, hj, rfl, hX2⟩ := hrel
          have HX2 := Lib.hid (HE2.out.trans hX2)
          have HY2 := Lib.hid hX2
          have hj0 : (0 : Int) ≤ j := by omega
          clear hX2
          by_cases hlj : j < f1
          · have hlj' : (j : Int) < f1 := by omega
            obtain ⟨y, hy1, hy2⟩ := HG5.out j (by omega)
            obtain ⟨s, hs⟩ : ∃ s : Nat, (h : Int) + (j : Int) = (s : Int) := ⟨h + j, by omega⟩
            have hsn : h + j = s := by omega
            rw [hsn] at hy2
            have hq : s % N < N := Nat.mod_lt _ (by omega)
            have hqI : (s : Int).tmod (N : Int) = ((s % N : Nat) : Int) := by rw [Int.tmod_eq_emod_of_nonneg (by omega), Int.natCast_emod]
            obtain ⟨q, hqx⟩ : ∃ q, s % N = q := ⟨_, rfl⟩
            rw [hqx] at hy2 hq hqI
            obtain ⟨bf, of, hbf, y0⟩ := bool_at (l := fullT tab) (w := wr) (L := F2) (lc := f2) (by rw [HCL.out.2.1]; exact HF5.out.ext (HX.out.trans HX2.out)) q (by rw [HCL.out.2.1]; exact hq)
            obtain ⟨bc, oc, hbc, y1, _⟩ := u32_at (l := cellsT tab) (w := wr) (L := C2) (lc := c2) (by rw [HCL.out.1]; exact HC5.out.ext (HX.out.trans HX2.out)) q (by rw [HCL.out.1]; exact hq)
            rw [show kept (fullT tab) q = true from by show (fullT tab).getD q false = true; rw [fullT_at, hy2]; rfl] at y0
            rw [show (cellsT tab).getD q 0 = y from by rw [cellsT_at, hy2]; rfl] at y1
            have e1' := HY2.out.cell e1
            have e2' := HY2.out.cell e2
            have e3' := HY2.out.cell e3
            rw [hbc] at e1'
            rw [hbf] at e2'
            have KT : Hid (∀ w', Ext wr w' → w'.cell? ⟨w2.heap.size, 1, none⟩ = some (.slice (some ⟨bc, oc, none⟩) N c2) ∧ w'.cell? ⟨w2.heap.size, 2, none⟩ = some (.slice (some ⟨bf, of, none⟩) N f2) ∧ w'.cell? ⟨bx, ox + i, none⟩ = some (.int .u32 key) ∧ w'.cell? ⟨bf, of + q, none⟩ = some (.bool true) ∧ w'.cell? ⟨bc, oc + q, none⟩ = some (.int .u32 y)) := Lib.hid (fun w' hE => ⟨hE.cell e1', hE.cell e2', hE.cell e3', hE.cell y0, hE.cell y1⟩)
            have lb1 : w2.heap.size < wr.heap.size := World.block_lt_of_cell? _ _ e1'
            have lb2 : bf < wr.heap.size := World.block_lt_of_cell? _ _ y0
            have lb3 : bc < wr.heap.size := World.block_lt_of_cell? _ _ y1
            have lb4 : bx < wr.heap.size := World.block_lt_of_cell? _ _ e3'
            have hne1 : ((y : Int) == (key : Int)) = false := by rw [beq_eq_false_iff_ne]; omega
            have hne2 : (y == key) = false := by rw [beq_eq_false_iff_ne]; exact hy1
            have hws : IntKind.i64.wrap (s : Int) = s := IntWalk.i64_in _ (by omega)
            have hwq : IntKind.i64.wrap (q : Int) = q := IntWalk.i64_in _ (by omega)
            have hq0 : (0 : Int) ≤ q := by omega
            have hq1 : (q : Int) < N := by omega
            clear hy1 hy2 hsn hqx y0 y1 e1' e2' e3' hbf hbc e0 e1 e2 e3
            go_wp2_with fail
            refine wp_region_class (Ext wr) (by kernel_rfl) (by kernel_rfl) (Ext.refl _).drew ?_
            try simp only [List.append_eq, List.cons_append, List.nil_append]
            repeat (first
              | go_big_quiet_skip
              | (go_big_quiet_want
                 first
                 | (go_big_quiet_op; go_big_quiet_on)
                 | (unfold Oper.quiet
                    apply Exists.intro
                    refine ⟨fun w' hC => ?_, ?_⟩
                    · (obtain ⟨k1, k2, k3, k4, k5⟩ := KT.out w' hC
                       unfold Oper.quietAt
                       go_simp
                       first
                       | exact rfl)
                    go_simp
                    go_big_quiet_on)))
            refine wpQuiet_nil ?_
            intro w24 hC4
            go_wp2_with fail
            go_roundw
            case rel => exact ⟨j + 1, by omega, by go_num, HY2.out.trans hC4⟩
            case measure => simp [intOf]; omega
          · obtain rfl : j = f1 := by omega
            obtain ⟨s, hs⟩ : ∃ s : Nat, (h : Int) + (fk : Int) = (s : Int) := ⟨h + fk, by omega⟩
            obtain ⟨s4, hs4⟩ : ∃ s4 : Nat, (s : Int) - 1 = (s4 : Int) := ⟨h + j, by omega⟩
            have hsn : h + (fk - 1) = s4 := by omega
            have hq : s4 % N < N := Nat.mod_lt _ (by omega)
            have hqI : (s4 : Int).tmod (N : Int) = ((s4 % N : Nat) : Int) := by rw [Int.tmod_eq_emod_of_nonneg (by omega), Int.natCast_emod]
            have hG := HGG.out
            rw [hsn] at hG
            obtain ⟨q, hqx⟩ : ∃ q, s4 % N = q := ⟨_, rfl⟩
            rw [hqx] at hG hq hqI
            have hG2 := hG
            obtain ⟨bf, of, hbf, y0⟩ := bool_at (l := fullT tab) (w := wr) (L := F2) (lc := f2) (by rw [HCL.out.2.1]; exact HF5.out.ext (HX.out.trans HX2.out)) q (by rw [HCL.out.2.1]; exact hq)
            obtain ⟨bc, oc, hbc, y1, _⟩ := u32_at (l := cellsT tab) (w := wr) (L := C2) (lc := c2) (by rw [HCL.out.1]; exact HC5.out.ext (HX.out.trans HX2.out)) q (by rw [HCL.out.1]; exact hq)
            rw [show kept (fullT tab) q = false from by show (fullT tab).getD q false = false; rw [fullT_at, hG2]; rfl] at y0
            rw [show (cellsT tab).getD q 0 = (0 : Nat) from by rw [cellsT_at, hG2]; rfl] at y1
            have e1' := HY2.out.cell e1
            have e2' := HY2.out.cell e2
            have e3' := HY2.out.cell e3
            rw [hbc] at e1'
            rw [hbf] at e2'
            have KT : Hid (∀ w', Ext wr w' → w'.cell? ⟨w2.heap.size, 1, none⟩ = some (.slice (some ⟨bc, oc, none⟩) N c2) ∧ w'.cell? ⟨w2.heap.size, 2, none⟩ = some (.slice (some ⟨bf, of, none⟩) N f2) ∧ w'.cell? ⟨bx, ox + i, none⟩ = some (.int .u32 key) ∧ w'.cell? ⟨bf, of + q, none⟩ = some (.bool false) ∧ w'.cell? ⟨bc, oc + q, none⟩ = some (.int .u32 (0 : Nat))) := Lib.hid (fun w' hE => ⟨hE.cell e1', hE.cell e2', hE.cell e3', hE.cell y0, hE.cell y1⟩)
            have lb1 : w2.heap.size < wr.heap.size := World.block_lt_of_cell? _ _ e1'
            have lb2 : bf < wr.heap.size := World.block_lt_of_cell? _ _ y0
            have lb3 : bc < wr.heap.size := World.block_lt_of_cell? _ _ y1
            have lb4 : bx < wr.heap.size := World.block_lt_of_cell? _ _ e3'
            have hws : IntKind.i64.wrap (s : Int) = s := IntWalk.i64_in _ (by omega)
            have hws4 : IntKind.i64.wrap (s4 : Int) = s4 := IntWalk.i64_in _ (by omega)
            have hwq : IntKind.i64.wrap (q : Int) = q := IntWalk.i64_in _ (by omega)
            have hq0 : (0 : Int) ≤ q := by omega
            have hq1 : (q : Int) < N := by omega
            clear hG2 hsn hqx y0 y1 e1' e2' e3' hbf hbc e0 e1 e2 e3
            go_wp2_with fail
            refine wp_region_class (Ext wr) (by kernel_rfl) (by kernel_rfl) (Ext.refl _).drew ?_
            try simp only [List.append_eq, List.cons_append, List.nil_append]
            repeat (first
              | go_big_quiet_skip
              | (go_big_quiet_want
                 first
                 | (go_big_quiet_op; go_big_quiet_on)
                 | (unfold Oper.quiet
                    apply Exists.intro
                    refine ⟨fun w' hC => ?_, ?_⟩
                    · (obtain ⟨k1, k2, k3, k4, k5⟩ := KT.out w' hC
                       unfold Oper.quietAt
                       go_simp
                       first
                       | exact rfl)
                    go_simp
                    go_big_quiet_on)))
            refine wpQuiet_nil ?_
            intro w24 hC4
            go_wp2_with fail
            go_roundw
            case rel => exact ⟨i + 1, by omega, by go_num, (HX.out.trans HX2.out).trans hC4⟩
            case measure => simp [intOf]; omega
    · obtain rfl : i = al.length := by omega
      go_wp2_with fail
      go_ret
      exact ⟨rfl, HX5.out.trans HX.out⟩
end Go.Proofs.Ytofiokegdgdacaa
