/- TowerLevels: the law returns true. Written by wip/mk_t14law.py. -/
import Derived.Test.YtfkidgpjejcblaaDoorJ6
import Derived.Deep.QuietTactic
import Derived.BigQuiet
set_option linter.unusedVariables false
set_option linter.unusedSimpArgs false
set_option linter.unnecessarySimpa false
namespace Go.Proofs.YtfkidgpjejcblaaDoor
open Go.BigFrame
open Go.RowKit Go.Proofs.YtfkidgpjejcblaaDoor.Plain

/-- how many nodes the level below has -/
def Plain.lastP (hs : List Int) (k : Nat) : Nat := if k = 0 then hs.length else (lv hs ((k - 1 : Nat) : Int)).length
theorem Plain.last_le {hs : List Int} (h8 : ∀ x ∈ hs, 1 ≤ x ∧ x ≤ 8) (k : Nat) : (lv hs k).length ≤ lastP hs k ∧ (k = 0 → (lv hs k).length = lastP hs k) := by
  unfold lastP
  rcases k with _ | k
  · have := lv_zero hs h8
    exact ⟨by rw [if_pos rfl]; exact Nat.le_of_eq this, fun _ => by rw [if_pos rfl]; exact this⟩
  · refine ⟨?_, fun h => by cases h⟩
    rw [if_neg (by omega), show k + 1 - 1 = k by omega]
    have := lv_less hs k
    simpa using this
theorem Plain.last_top {hs : List Int} (h8 : ∀ x ∈ hs, 1 ≤ x ∧ x ≤ 8) : lastP hs 9 = 0 := by
  unfold lastP
  rw [if_neg (by omega)]
  exact lv_top hs h8
theorem Plain.last_succ (hs : List Int) (k : Nat) : lastP hs (k + 1) = (lv hs k).length := by unfold lastP; rw [if_neg (by omega), show k + 1 - 1 = k by omega]
set_option maxHeartbeats 6400000 in
set_option maxRecDepth 100000 in
theorem towerlevels_any (tk hs : List Int) (L : Option Addr) (lc : Nat) (M : Option Addr) (mc : Nat) (W : World) (hTb : Tab W) (hL : Rd kInt W (.slice L tk.length lc) tk) (hM : Rd kInt W (.slice M hs.length mc) hs) :
    Calls Tryd.prog 6 #[.slice L tk.length lc, .slice M hs.length mc] W fun ed w' => ed = .returned (.bool true) ∧ Ext W w' := by
  have HTB := Lib.hid hTb
  clear hTb
  have HL := Lib.hid hL
  have HM := Lib.hid hM
  clear hL hM
  go_enter Tryd.func6, Tryd.ntmps6
  go_wp2_with fail
  refine (toweralive_any _ HTB.out).mono ?_
  rintro ed w1 ⟨rfl, hE1⟩
  have HX1 := Lib.hid hE1
  clear hE1
  by_cases h1 : (60 : Int) < tk.length
  · go_wp2_with fail
    go_ret
    exact ⟨rfl, HX1.out⟩
  by_cases h2 : (60 : Int) < hs.length
  · have h1' : (tk.length : Int) ≤ 60 := by omega
    go_wp2_with fail
    go_ret
    exact ⟨rfl, HX1.out⟩
  have h1' : (tk.length : Int) ≤ 60 := by omega
  have h2' : (hs.length : Int) ≤ 60 := by omega
  clear h1 h2
  obtain ⟨⟨t, er⟩, hb⟩ : ∃ x, buildP tk hs = x := ⟨_, rfl⟩
  have her := build_er tk hs
  rw [hb] at her
  simp only at her
  have HB := Lib.hid hb
  clear hb
  go_wp2_with fail
  refine (pbuild14_lt tk hs L M lc mc t er _ (HL.out.ext HX1.out) (HM.out.ext HX1.out) HB.out).mono ?_
  rintro ed w2 ⟨A1, B1, N1, c1, dd, e1, rfl, hT1, hE2⟩
  have HX2 := Lib.hid (HX1.out.trans hE2)
  have Ht_2 := Lib.hid (hT1)
  clear hE2 HX1
  rcases her with rfl | rfl
  case inr =>
    go_wp2_with fail
    go_ret
    exact ⟨ret_bool (by first | rfl | simp), by first | exact HX2.out.alloc _ | exact HX2.out⟩
  obtain ⟨f1, f2, f3, f4, f5, f6⟩ := built_facts HB.out
  have H8 := Lib.hid f6
  have HLP : Hid (∀ h : Nat, levelP t h = zs (lv hs h)) := Lib.hid fun h => by unfold levelP; rw [if_pos f3, f2]; rfl
  have HNX : Hid (t.next.length = hs.length ∧ t.next = (List.range hs.length).map (nextsP hs)) := Lib.hid ⟨by rw [f2]; simp [twOf], by rw [f2]; rfl⟩
  have HHT : Hid (hs.length = tk.length) := Lib.hid f4
  clear f1 f2 f3 f4 f5 f6
  go_wp2_with fail
  obtain ⟨w3, hw3⟩ : ∃ w3, w2.alloc (.cells #[.slice A1 t.tokens.length c1, .slice B1 t.heights.length dd, .slice N1 t.next.length e1] 27) = w3 := ⟨_, rfl⟩
  have p0 : w3.cell? ⟨w2.heap.size, 0, none⟩ = some (.slice A1 t.tokens.length c1) := by subst hw3; go_simp
  have p1 : w3.cell? ⟨w2.heap.size, 1, none⟩ = some (.slice B1 t.heights.length dd) := by subst hw3; go_simp
  have p2 : w3.cell? ⟨w2.heap.size, 2, none⟩ = some (.slice N1 t.next.length e1) := by subst hw3; go_simp
  have HX3 : Hid (Ext W w3) := Lib.hid (by rw [← hw3]; exact HX2.out.alloc _)
  have HT3 : Hid (TwR w3 t A1 B1 N1 c1 dd e1) := Lib.hid (by rw [← hw3]; exact Ht_2.out.ext ((Ext.refl _).alloc _))
  have KP : Hid (∀ w', Ext w3 w' → w'.cell? ⟨w2.heap.size, 0, none⟩ = some (.slice A1 t.tokens.length c1) ∧ w'.cell? ⟨w2.heap.size, 1, none⟩ = some (.slice B1 t.heights.length dd) ∧ w'.cell? ⟨w2.heap.size, 2, none⟩ = some (.slice N1 t.next.length e1)) := Lib.hid fun w' hE => ⟨hE.cell p0, hE.cell p1, hE.cell p2⟩
  have lb3 : w2.heap.size < w3.heap.size := World.block_lt_of_cell? _ _ p0
  rw [hw3]
  have HL9 : Hid (hs.length ≤ 60) := Lib.hid (by omega)
  clear hw3 p0 p1 p2 HX2 Ht_2
  go_loopw [7, 9, 10] (fun al la h wr => ∃ k : Nat, k ≤ 9 ∧ h = .int .i64 k ∧ al = .int .i64 (lvs hs k : Nat) ∧ la = .int .i64 (lastP hs k : Nat) ∧ Ext w3 wr) (fun _ _ h _ => 9 - (intOf h).toNat)
  case atStart => exact ⟨0, Nat.zero_le _, rfl, rfl, by rw [← HHT.out]; rfl, Ext.refl _⟩
  case round =>
    obtain ⟨k, hk, rfl, rfl, rfl, hX⟩ := hrel
    have HX := Lib.hid hX
    have hk0 : (0 : Int) ≤ k := by omega
    have hzx := HX.out.size
    clear hX
    by_cases hlt : k < 9
    · have hlt' : (k : Int) < 9 := by omega
      have hla := last_le H8.out k
      have hls := last_succ hs k
      have hlv : lvs hs (k + 1) = lvs hs k + (lv hs k).length := rfl
      have hb1 := lvs_le hs k
      have hb2 : (lv hs (k : Int)).length ≤ hs.length := by rw [lv_len]; exact List.countP_le_length
      have hlp := HLP.out k
      have hll := HL9.out
      obtain ⟨ll, hll_⟩ : ∃ ll, lv hs (k : Int) = ll := ⟨_, rfl⟩
      rw [hll_] at hla hls hlv hb2 hlp
      obtain ⟨n, hn⟩ : ∃ n, ll.length = n := ⟨_, rfl⟩
      rw [hn] at hla hls hlv hb2
      obtain ⟨S, hS⟩ : ∃ S, lvs hs k = S := ⟨_, rfl⟩
      rw [hS] at hlv hb1 ⊢
      obtain ⟨P, hP⟩ : ∃ P, lastP hs k = P := ⟨_, rfl⟩
      rw [hP] at hla ⊢
      have hkm : k * hs.length ≤ 9 * 60 := Nat.mul_le_mul (by omega) hll
      obtain ⟨V, hV⟩ : ∃ V, S + n = V := ⟨_, rfl⟩
      rw [hV] at hlv
      have hsu : (S : Int) + (n : Int) = (V : Int) := by omega
      have hsw : IntKind.i64.wrap (V : Int) = (V : Int) := IntWalk.i64_in _ (by omega)
      have HLV := Lib.hid hlv
      have HLS := Lib.hid hls
      obtain ⟨q0, q1, q2⟩ := KP.out wr HX.out
      have d1 : decide ((P : Int) < n) = false := decide_eq_false (by omega)
      have d1' : decide (P < n) = false := decide_eq_false (by omega)
      have hh9 := plevel14_any t (k : Int) A1 B1 N1 c1 dd e1 wr (HT3.out.ext HX.out)
      rw [hlp] at hh9
      unfold LsSaid at hh9
      rw [zs_len, hn] at hh9
      have HC := Lib.hid hh9
      have lbp : w2.heap.size < wr.heap.size := by omega
      clear hlp hll_ hS hP hkm hb1 hlv hls hh9 hn hV
      by_cases h0 : k = 0
      · have hPn := hla.2 h0
        subst h0
        have d2 : ((n : Int) != (P : Int)) = false := by rw [bne_eq_false_iff_eq]; omega
        have d2' : (n != P) = false := by rw [bne_eq_false_iff_eq]; omega
        clear hla hPn
        go_wp2_with fail
        refine HC.out.mono ?_
        rintro ed w5 ⟨Lz, lz, rfl, _, hE5⟩
        have HX5 := Lib.hid (HX.out.trans hE5)
        clear hE5
        go_wp2_with fail
        go_roundw
        case rel => exact ⟨1, by omega, by go_num, by rw [show lvs hs 1 = V from HLV.out], by rw [show lastP hs 1 = n from HLS.out], HX5.out⟩
        case measure => simp [intOf]
      · have e0 : ((k : Int) == 0) = false := by rw [beq_eq_false_iff_ne]; omega
        have e0' : (k == 0) = false := by rw [beq_eq_false_iff_ne]; exact h0
        clear hla
        go_wp2_with fail
        refine HC.out.mono ?_
        rintro ed w5 ⟨Lz, lz, rfl, _, hE5⟩
        have HX5 := Lib.hid (HX.out.trans hE5)
        clear hE5
        go_wp2_with fail
        go_roundw
        case rel => exact ⟨k + 1, by omega, by go_num, by rw [HLV.out], by rw [HLS.out], HX5.out⟩
        case measure => simp [intOf]; omega
    · obtain rfl : k = 9 := by omega
      have hal := lvs_all hs H8.out
      have hlt9 := last_top H8.out
      rw [hlt9]
      obtain ⟨S, hS⟩ : ∃ S, lvs hs 9 = S := ⟨_, rfl⟩
      rw [hS] at hal ⊢
      rw [show ((9 : Nat) : Int) = 9 from rfl, show ((0 : Nat) : Int) = 0 from rfl]
      have HAL := Lib.hid hal
      generalize wr = wq at *
      clear hal hlt9 hS hk hlt hk0
      go_wp2_with fail
      go_loopw [8, 12, 13] (fun li su i wr => ∃ (k : Nat) (s : Int), k ≤ hs.length ∧ i = .int .i64 k ∧ (hs.take k).sum = s ∧ su = .int .i64 s ∧ li = .int .i64 s ∧ Ext wq wr) (fun _ _ i _ => hs.length - (intOf i).toNat)
      case atStart => exact ⟨0, 0, Nat.zero_le _, rfl, rfl, rfl, rfl, Ext.refl _⟩
      case round =>
        obtain ⟨k, s, hk, rfl, hs9, rfl, rfl, hX⟩ := hrel
        have HZ := Lib.hid hX
        have HY := Lib.hid (HX.out.trans hX)
        have hk0 : (0 : Int) ≤ k := by omega
        have hzy := HY.out.size
        clear hX
        by_cases hlt : k < hs.length
        · have hlt' : (k : Int) < hs.length := by omega
          have hll := HL9.out
          have hsb := sum_bd hs H8.out k hk
          have hsn := sum_takeI hlt
          have h88 := H8.out (hs.getD k 0) (by rw [List.getD_eq_getElem?_getD, List.getElem?_eq_getElem hlt]; exact List.getElem_mem hlt)
          have hul : k < t.next.length := by rw [HNX.out.1]; exact hlt
          obtain ⟨bn, on, Ru, ru, hbn, y0, _⟩ := (HT3.out.ext HY.out).nxt.row k hul
          subst hbn
          have hru : t.next.getD k [] = nextsP hs k := by
            rw [HNX.out.2, List.getD_eq_getElem?_getD, List.getElem?_map, List.getElem?_range hlt]; rfl
          rw [hru, nextsP_len] at y0
          obtain ⟨bm, om, hbm, hcm⟩ := (ints_of_rd (HM.out.ext (HX3.out.trans HY.out))).cells (by omega)
          subst hbm
          have z0 := hcm k hlt
          rw [hs9] at hsb hsn
          obtain ⟨q, hq⟩ : ∃ q : Nat, (hs.getD k 0).toNat = q := ⟨_, rfl⟩
          have hxq : hs.getD k 0 = (q : Int) := by omega
          rw [hq] at y0
          rw [hxq] at z0 hsn h88
          have hun' : (k : Int) < t.next.length := by omega
          have HSN := Lib.hid hsn
          obtain ⟨s2, hs2⟩ : ∃ s2, s + (q : Int) = s2 := ⟨_, rfl⟩
          have hsw : IntKind.i64.wrap s2 = s2 := IntWalk.i64_in _ (by omega)
          rw [hs2] at HSN
          obtain ⟨q0, q1, q2⟩ := KP.out wr HY.out
          have KS : Hid (∀ w', Ext wr w' → w'.cell? ⟨w2.heap.size, 2, none⟩ = some (.slice (some ⟨bn, on, none⟩) t.next.length e1) ∧ w'.cell? ⟨bn, on + k, none⟩ = some (.slice Ru q ru) ∧ w'.cell? ⟨bm, om + k, none⟩ = some (.int .i64 (q : Int))) := Lib.hid fun w' hE => ⟨hE.cell q2, hE.cell y0, hE.cell z0⟩
          have d1 : decide ((t.next.length : Int) ≤ k) = false := decide_eq_false (by omega)
          have d1' : decide (t.next.length ≤ k) = false := decide_eq_false (by omega)
          have d2 : ((q : Int) != (q : Int)) = false := by simp
          have d2' : (q != q) = false := by simp
          have lbn : bn < wr.heap.size := World.block_lt_of_cell? _ _ y0
          have lbm : bm < wr.heap.size := World.block_lt_of_cell? _ _ z0
          have lbp : w2.heap.size < wr.heap.size := World.block_lt_of_cell? _ _ q2
          clear hsb hsn h88 hru hcm hq hxq hs9 q0 q1
          go_wp2_with fail
          refine wp_region_class (Ext wr) (by kernel_rfl) (by kernel_rfl) (Ext.refl _).drew ?_
          try simp only [List.append_eq, List.cons_append, List.nil_append]
          repeat (first
            | go_big_quiet_skip
            | (go_big_quiet_want
               first
               | (go_big_quiet_op; go_big_quiet_on)
               | (unfold Oper.quiet
                  apply Exists.intro
                  refine ⟨fun w' hC => ?_, ?_⟩
                  · (obtain ⟨k1, k2, k3⟩ := KS.out w' hC
                     unfold Oper.quietAt
                     go_simp
                     first
                     | exact rfl)
                  go_simp
                  go_big_quiet_on)))
          refine wpQuiet_nil ?_
          intro w6 hC6
          obtain ⟨r2, r0, rz⟩ := KS.out w6 hC6
          have lbn6 : bn < w6.heap.size := World.block_lt_of_cell? _ _ r0
          have lbp6 : w2.heap.size < w6.heap.size := World.block_lt_of_cell? _ _ r2
          clear q2 y0 z0 rz
          go_wp2_with fail
          go_roundw
          case rel => exact ⟨k + 1, s2, by omega, by go_num, HSN.out, rfl, rfl, HZ.out.trans hC6⟩
          case measure => simp [intOf]; omega
        · obtain rfl : k = hs.length := by omega
          rw [List.take_length, ← HAL.out] at hs9
          subst hs9
          have d1 : ((S : Int) == (S : Int)) = true := by simp
          go_wp2_with fail
          go_ret
          exact ⟨ret_bool (by first | rfl | simp), HX3.out.trans HY.out⟩
end Go.Proofs.YtfkidgpjejcblaaDoor
