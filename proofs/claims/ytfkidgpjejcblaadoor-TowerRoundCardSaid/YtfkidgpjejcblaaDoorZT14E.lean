/- TowerRound: the law returns true. Written by wip/mk_t14law.py. -/
import Derived.Test.YtfkidgpjejcblaaDoorJ6
set_option linter.unusedVariables false
set_option linter.unusedSimpArgs false
set_option linter.unnecessarySimpa false
namespace Go.Proofs.YtfkidgpjejcblaaDoor
open Go.BigFrame
open Go.RowKit Go.Proofs.YtfkidgpjejcblaaDoor.Plain

set_option maxHeartbeats 6400000 in
set_option maxRecDepth 100000 in
theorem towerround_any (tk hs : List Int) (L : Option Addr) (lc : Nat) (M : Option Addr) (mc : Nat) (lv8 : Int) (W : World) (hTb : Tab W) (hL : Rd kInt W (.slice L tk.length lc) tk) (hM : Rd kInt W (.slice M hs.length mc) hs) (hlv : 0 ≤ lv8 ∧ lv8 ≤ 255) :
    Calls Tryd.prog 4 #[.slice L tk.length lc, .slice M hs.length mc, .int .u8 lv8] W fun ed w' => ed = .returned (.bool true) ∧ Ext W w' := by
  have HTB := Lib.hid hTb
  clear hTb
  have HL := Lib.hid hL
  have HM := Lib.hid hM
  clear hL hM
  obtain ⟨a8, rfl⟩ : ∃ a : Nat, lv8 = a := ⟨lv8.toNat, by omega⟩
  have ha8 : a8 ≤ 255 := by omega
  have HA8 := Lib.hid ha8
  clear hlv ha8
  go_enter Tryd.func4, Tryd.ntmps4
  go_wp2_with fail
  refine (toweralive_any _ HTB.out).mono ?_
  rintro ed w1 ⟨rfl, hE1⟩
  have HX1 := Lib.hid hE1
  clear hE1
  by_cases h1 : (60 : Int) < tk.length
  · go_wp2_with fail
    go_ret
    exact ⟨rfl, HX1.out⟩
  by_cases h2 : (60 : Int) < hs.length
  · have h1' : (tk.length : Int) ≤ 60 := by omega
    go_wp2_with fail
    go_ret
    exact ⟨rfl, HX1.out⟩
  have h1' : (tk.length : Int) ≤ 60 := by omega
  have h2' : (hs.length : Int) ≤ 60 := by omega
  clear h1 h2
  obtain ⟨⟨t, er⟩, hb⟩ : ∃ x, buildP tk hs = x := ⟨_, rfl⟩
  have her := build_er tk hs
  rw [hb] at her
  simp only at her
  have HB := Lib.hid hb
  clear hb
  go_wp2_with fail
  refine (pbuild14_lt tk hs L M lc mc t er _ (HL.out.ext HX1.out) (HM.out.ext HX1.out) HB.out).mono ?_
  rintro ed w2 ⟨A1, B1, N1, c1, d1, e1, rfl, hT1, hE2⟩
  have HX2 := Lib.hid (HX1.out.trans hE2)
  have Ht_2 := Lib.hid (hT1)
  clear hE2 HX1
  rcases her with rfl | rfl
  case inr =>
    obtain rfl := built_not HB.out
    go_wp2_with fail
    go_ret
    exact ⟨ret_bool (by first | rfl | simp [noTw]), by first | exact HX2.out.alloc _ | exact HX2.out⟩
  obtain ⟨f1, f2, f3, f4, f5, f6⟩ := built_facts HB.out
  have HR := Lib.hid f3
  have HF6 := Lib.hid f6
  obtain ⟨h, hh⟩ : ∃ h : Nat, a8 % 8 = h := ⟨_, rfl⟩
  have hh8 : h < 8 := by omega
  have hw1 : IntKind.i64.wrap (a8 : Int) = (a8 : Int) := IntWalk.i64_in _ (by have := HA8.out; omega)
  have hw2 : (a8 : Int).tmod 8 = (h : Int) := by rw [Int.tmod_eq_emod_of_nonneg (by omega)]; omega
  have hw3 : (a8 : Int) % 8 = (h : Int) := by omega
  have hw4 : IntKind.i64.wrap (h : Int) = (h : Int) := IntWalk.i64_in _ (by omega)
  have hlp : levelP t h = levelF hs h := by unfold levelP; rw [if_pos f3, f2]; rfl
  have HLP := Lib.hid hlp
  have HNX : Hid (t.next.length = hs.length ∧ t.next = (List.range hs.length).map (nextsP hs)) := Lib.hid ⟨by rw [f2]; simp [twOf], by rw [f2]; rfl⟩
  clear hh hlp f1 f2 f3 f4 f5 f6
  go_wp2_with fail
  have hh9 := plevel14_any t (h : Int) A1 B1 N1 c1 d1 e1 (w2.alloc (.cells #[.slice A1 t.tokens.length c1, .slice B1 t.heights.length d1, .slice N1 t.next.length e1] 27)) (Ht_2.out.ext ((Ext.refl _).alloc _))
  rw [HLP.out, levelF_lv] at hh9
  refine hh9.mono ?_
  clear hh9 hw1 hw2 hw3 hw4
  rintro ed w3 ⟨Ll, ll, rfl, hO3, hE3⟩
  have hb3 := block_keep (heap_alloc_new w2 (.cells #[.slice A1 t.tokens.length c1, .slice B1 t.heights.length d1, .slice N1 t.next.length e1] 27)) hE3
  have p2 : w3.cell? ⟨w2.heap.size, 2, none⟩ = some (.slice N1 t.next.length e1) := (cell_of_row w3 w2.heap.size 2 _ _ _ hb3).trans rfl
  have HX3 := Lib.hid ((HX2.out.alloc (.cells #[.slice A1 t.tokens.length c1, .slice B1 t.heights.length d1, .slice N1 t.next.length e1] 27)).trans hE3)
  have HT3 := Lib.hid ((Ht_2.out.ext ((Ext.refl _).alloc (.cells #[.slice A1 t.tokens.length c1, .slice B1 t.heights.length d1, .slice N1 t.next.length e1] 27))).ext hE3)
  have HO3 := Lib.hid hO3.rd
  have lb3 : w2.heap.size < w3.heap.size := World.block_lt_of_cell? _ _ p2
  have HLV := Lib.hid (lv_mem hs (h : Int))
  have HLR : Hid (∀ i, i < (lv hs (h : Int)).length → nextP hs ((lv hs h).getD i 0) h = (lv hs h).getD ((i + 1) % (lv hs h).length) 0) := Lib.hid fun i hi => lv_round hi
  have hle9 : (lv hs (h : Int)).length ≤ hs.length := by rw [lv_len]; exact List.countP_le_length
  obtain ⟨l, hl⟩ : ∃ l, lv hs (h : Int) = l := ⟨_, rfl⟩
  rw [hl] at HO3 HLV HLR hle9 ⊢
  have HZL : Hid (l.map (fun i : Nat => (i : Int)) = zs l) := Lib.hid rfl
  rw [HZL.out] at HO3 ⊢
  rw [zs_len] at HO3 ⊢
  clear hl hb3 hE3 hO3 HX2 Ht_2
  by_cases h0 : l.length = 0
  · have e0 : ((l.length : Int) == 0) = true := by rw [beq_iff_eq]; omega
    clear h0
    go_wp2_with fail
    go_ret
    exact ⟨rfl, HX3.out⟩
  have e0 : ((l.length : Int) == 0) = false := by rw [beq_eq_false_iff_ne]; omega
  have hlp : (0 : Int) < l.length := by omega
  have hlq : 0 < l.length := by omega
  obtain ⟨bl, ol, hbl, hcl⟩ := (ints_of_rd HO3.out).cells (by rw [zs_len]; exact hlq)
  subst hbl
  have hcl' : ∀ i, i < l.length → w3.cell? ⟨bl, ol + i, none⟩ = some (.int .i64 (l.getD i 0 : Nat)) := fun i hi => by have := hcl i (by rw [zs_len]; exact hi); rw [zs_getD] at this; exact this
  have HCL := Lib.hid hcl'
  have z0 : w3.cell? ⟨bl, ol, none⟩ = some (.int .i64 (l.getD 0 0 : Nat)) := by have := hcl' 0 hlq; simpa using this
  obtain ⟨s0, hs0⟩ : ∃ s0, l.getD 0 0 = s0 := ⟨_, rfl⟩
  rw [hs0] at z0
  have HS0 := Lib.hid hs0
  have lbl : bl < w3.heap.size := World.block_lt_of_cell? _ _ z0
  have HL9 : Hid (l.length ≤ 60) := Lib.hid (by omega)
  have hll : (l.length : Int) ≤ 60 := by omega
  clear h0 hcl hcl' hs0 hle9
  go_wp2_with fail
  go_loopw [11, 12] (fun a i wr => ∃ k : Nat, k ≤ l.length ∧ i = .int .i64 k ∧ a = .int .i64 (l.getD (k % l.length) 0 : Nat) ∧ wr = w3) (fun _ i _ => l.length - (intOf i).toNat)
  case atStart => exact ⟨0, Nat.zero_le _, rfl, by rw [Nat.zero_mod, HS0.out], rfl⟩
  case round =>
    obtain ⟨k, hk, rfl, rfl, rfl⟩ := hrel
    have hk0 : (0 : Int) ≤ k := by omega
    by_cases hlt : k < l.length
    · have hlt' : (k : Int) < l.length := by omega
      have z1 := HCL.out k hlt
      have hnr := HLR.out k hlt
      rw [Nat.mod_eq_of_lt hlt]
      obtain ⟨g1, g2⟩ := (HLV.out _).1 (nat_mem hlt)
      obtain ⟨u, hu⟩ : ∃ u, l.getD k 0 = u := ⟨_, rfl⟩
      rw [hu] at z1 hnr g1 g2
      rw [hu]
      have hul : u < t.next.length := by rw [HNX.out.1]; exact g1
      have hul' : (u : Int) < t.next.length := by omega
      have hu0 : (0 : Int) ≤ u := by omega
      obtain ⟨bn, on, Ru, ru, hbn, y0, hRu⟩ := HT3.out.nxt.row u hul
      subst hbn
      have hru : t.next.getD u [] = nextsP hs u := by
        rw [HNX.out.2, List.getD_eq_getElem?_getD, List.getElem?_map, List.getElem?_range g1]; rfl
      rw [hru, nextsP_len] at y0 hRu
      have hgu : (h : Nat) < (hs.getD u 0).toNat := by omega
      obtain ⟨br, or_, hbr, hcr⟩ := (ints_of_rd hRu).cells (by rw [nextsP_len]; omega)
      subst hbr
      have y1 := hcr h (by rw [nextsP_len]; exact hgu)
      rw [nextsP_at hs u h hgu, hnr] at y1
      obtain ⟨q, hq⟩ : ∃ q : Nat, (hs.getD u 0).toNat = q := ⟨_, rfl⟩
      rw [hq] at y0 hgu
      obtain ⟨v, hv⟩ : ∃ v, l.getD ((k + 1) % l.length) 0 = v := ⟨_, rfl⟩
      rw [hv] at y1
      have HV := Lib.hid hv
      have hgu' : (h : Int) < q := by omega
      have hgq : (q : Int) ≤ 8 := by
        have h9 : hs.getD u 0 ∈ hs := by rw [List.getD_eq_getElem?_getD, List.getElem?_eq_getElem g1]; exact List.getElem_mem g1
        have := HF6.out _ h9
        omega
      have d1 : decide ((t.next.length : Int) ≤ u) = false := decide_eq_false (by omega)
      have d2 : decide ((q : Int) ≤ h) = false := decide_eq_false (by omega)
      have d3 : ((u : Int) != (u : Int)) = false := by simp
      have d4 : (u != u) = false := by simp
      have lbn : bn < wr.heap.size := World.block_lt_of_cell? _ _ y0
      have lbr : br < wr.heap.size := World.block_lt_of_cell? _ _ y1
      have hh0 : (0 : Int) ≤ h := by omega
      clear hnr hu hul hru hRu hcr hq hv g1 g2 z0
      go_wp2_with fail
      go_roundw
      case rel => exact ⟨k + 1, by omega, by go_num, by rw [HV.out], by first | trivial | rfl⟩
      case measure => simp [intOf]; omega
    · obtain rfl : k = l.length := by omega
      rw [Nat.mod_self, HS0.out]
      have d3 : ((s0 : Int) == (s0 : Int)) = true := by simp
      go_wp2_with fail
      go_ret
      exact ⟨ret_bool (by first | rfl | simp), HX3.out⟩
end Go.Proofs.YtfkidgpjejcblaaDoor
