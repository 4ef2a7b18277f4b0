/- TowerWalks: the law returns true. Written by wip/mk_t14law.py. -/
import Derived.Test.YtfkidgpjejcblaaDoorJ6
import Derived.Deep.QuietTactic
import Derived.BigQuiet
set_option linter.unusedVariables false
set_option linter.unusedSimpArgs false
set_option linter.unnecessarySimpa false
namespace Go.Proofs.YtfkidgpjejcblaaDoor
open Go.BigFrame
open Go.RowKit Go.Proofs.YtfkidgpjejcblaaDoor.Plain

/-- what a walk in a tower that was built tells -/
theorem Plain.walks_facts {tk hs : List Int} {t : Tw} (h : buildP tk hs = (t, 0)) {p : Nat} (hp : p < tk.length) : ∃ (hd : Nat) (ws : List Nat), headP t = (hd : Nat) ∧ hd < hs.length ∧ (∀ j, j < hs.length → hs.getD j 0 ≤ hs.getD hd 0) ∧ (∀ j, j < hd → hs.getD j 0 < hs.getD hd 0) ∧ walkP t p = zs ws ∧ Wk hs (hs.getD hd 0) p ws ∧ ws.length ≤ hs.length := by
  obtain ⟨_, ht, hr, hl, h0, h8⟩ := built_facts h
  have e1 : t.heights = hs := by rw [ht]; rfl
  have e2 : t.tokens = tk := by rw [ht]; rfl
  obtain ⟨g1, g2, g3⟩ := headF_good hs hs.length (Nat.le_refl _)
  have hlt : headF hs hs.length < hs.length := by rcases g1 with g | g <;> omega
  have h9 : ∀ j, j < hs.length → 1 ≤ hs.getD j 0 := fun j hj => (h8 _ (by rw [List.getD_eq_getElem?_getD, List.getElem?_eq_getElem hj]; exact List.getElem_mem hj)).1
  have hex : ∃ p, p < hs.length ∧ hs.getD (headF hs hs.length) 0 ≤ hs.getD p 0 := ⟨_, hlt, Int.le_refl _⟩
  have hgk : goK hs (hs.getD (headF hs hs.length) 0) p < hs.length := by
    obtain ⟨k, k1, k2⟩ := most_round hs p (by omega) _ hlt
    exact (goK_spec hs _ p ⟨k, k1, by rw [k2]; exact Int.le_refl _⟩).1
  obtain ⟨ws, e, W⟩ := walk_good h9 g2 hex hs.length p (by omega) (by omega)
  refine ⟨headF hs hs.length, ws, by unfold headP; rw [if_pos hr, e1], hlt, g2, g3, ?_, W, by have := W.len; omega⟩
  unfold walkP
  rw [if_pos ⟨hr, by omega, by rw [e2]; omega⟩, e1, Int.toNat_natCast, e]; rfl
set_option maxHeartbeats 6400000 in
set_option maxRecDepth 100000 in
theorem towerwalks_any (tk hs : List Int) (L : Option Addr) (lc : Nat) (M : Option Addr) (mc : Nat) (pl8 : Int) (W : World) (hTb : Tab W) (hL : Rd kInt W (.slice L tk.length lc) tk) (hM : Rd kInt W (.slice M hs.length mc) hs) (hpl : 0 ≤ pl8 ∧ pl8 ≤ 255) :
    Calls Tryd.prog 5 #[.slice L tk.length lc, .slice M hs.length mc, .int .u8 pl8] W fun ed w' => ed = .returned (.bool true) ∧ Ext W w' := by
  have HTB := Lib.hid hTb
  clear hTb
  have HL := Lib.hid hL
  have HM := Lib.hid hM
  clear hL hM
  obtain ⟨a8, rfl⟩ : ∃ a : Nat, pl8 = a := ⟨pl8.toNat, by omega⟩
  have HA8 : Hid (a8 ≤ 255) := Lib.hid (by omega)
  clear hpl
  go_enter Tryd.func5, Tryd.ntmps5
  go_wp2_with fail
  refine (toweralive_any _ HTB.out).mono ?_
  rintro ed w1 ⟨rfl, hE1⟩
  have HX1 := Lib.hid hE1
  clear hE1
  by_cases h1 : (60 : Int) < tk.length
  · go_wp2_with fail
    go_ret
    exact ⟨rfl, HX1.out⟩
  by_cases h2 : (60 : Int) < hs.length
  · have h1' : (tk.length : Int) ≤ 60 := by omega
    go_wp2_with fail
    go_ret
    exact ⟨rfl, HX1.out⟩
  have h1' : (tk.length : Int) ≤ 60 := by omega
  have h2' : (hs.length : Int) ≤ 60 := by omega
  clear h1 h2
  obtain ⟨⟨t, er⟩, hb⟩ : ∃ x, buildP tk hs = x := ⟨_, rfl⟩
  have her := build_er tk hs
  rw [hb] at her
  simp only at her
  have HB := Lib.hid hb
  clear hb
  go_wp2_with fail
  refine (pbuild14_lt tk hs L M lc mc t er _ (HL.out.ext HX1.out) (HM.out.ext HX1.out) HB.out).mono ?_
  rintro ed w2 ⟨A1, B1, N1, c1, d1, e1, rfl, hT1, hE2⟩
  have HX2 := Lib.hid (HX1.out.trans hE2)
  have Ht_2 := Lib.hid (hT1)
  clear hE2 HX1
  rcases her with rfl | rfl
  case inr =>
    obtain rfl := built_not HB.out
    go_wp2_with fail
    have hh9 := phead14_any noTw A1 B1 N1 c1 d1 e1 (w2.alloc (.cells #[.slice A1 0 c1, .slice B1 0 d1, .slice N1 0 e1] 27)) (Ht_2.out.ext ((Ext.refl _).alloc _))
    rw [show headP noTw = -1 by unfold headP; rw [noTw_wrong]; rfl] at hh9
    refine hh9.mono ?_
    rintro ed w3 ⟨rfl, hE3⟩
    have hb3 := block_keep (heap_alloc_new w2 (.cells #[.slice A1 0 c1, .slice B1 0 d1, .slice N1 0 e1] 27)) hE3
    have p0 : w3.cell? ⟨w2.heap.size, 0, none⟩ = some (.slice A1 0 c1) := (cell_of_row w3 w2.heap.size 0 _ _ _ hb3).trans rfl
    have p1 : w3.cell? ⟨w2.heap.size, 1, none⟩ = some (.slice B1 0 d1) := (cell_of_row w3 w2.heap.size 1 _ _ _ hb3).trans rfl
    have p2 : w3.cell? ⟨w2.heap.size, 2, none⟩ = some (.slice N1 0 e1) := (cell_of_row w3 w2.heap.size 2 _ _ _ hb3).trans rfl
    have lb3 : w2.heap.size < w3.heap.size := World.block_lt_of_cell? _ _ p2
    have HX3 := Lib.hid ((HX2.out.alloc (.cells #[.slice A1 0 c1, .slice B1 0 d1, .slice N1 0 e1] 27)).trans hE3)
    have HT3 := Lib.hid ((Ht_2.out.ext ((Ext.refl _).alloc (.cells #[.slice A1 0 c1, .slice B1 0 d1, .slice N1 0 e1] 27))).ext hE3)
    clear hh9 hb3 hE3 Ht_2
    go_wp2_with fail
    have hh9 := pwalk14_any noTw 0 A1 B1 N1 c1 d1 e1 w3 HT3.out (by decide)
    rw [show walkP noTw 0 = [] by unfold walkP; rw [if_neg (by rw [noTw_wrong]; simp)]] at hh9
    refine hh9.mono ?_
    rintro ed w4 ⟨Lw, lw, rfl, hO4, hE4⟩
    have HX4 := Lib.hid (HX3.out.trans hE4)
    clear hh9 hE4 hO4
    go_wp2_with fail
    go_ret
    exact ⟨ret_bool (by first | rfl | simp), HX4.out⟩
  obtain ⟨f1, f2, f3, f4, f5, f6⟩ := built_facts HB.out
  obtain ⟨p, hp⟩ : ∃ p : Nat, a8 % tk.length = p := ⟨_, rfl⟩
  have hpn : p < tk.length := by rw [← hp]; exact Nat.mod_lt _ (by omega)
  obtain ⟨hd, ws, g1, g2, g3, g4, g5, g6, g7⟩ := walks_facts HB.out hpn
  have HHD := Lib.hid g1
  have HG3 := Lib.hid g3
  have HG4 := Lib.hid g4
  have HWP := Lib.hid g5
  have HWK := Lib.hid g6
  have hw1 : IntKind.i64.wrap (a8 : Int) = (a8 : Int) := IntWalk.i64_in _ (by have := HA8.out; omega)
  have hw3 : (a8 : Int) % (tk.length : Int) = (p : Int) := by rw [← hp]; simp
  have hw2 : (a8 : Int).tmod (tk.length : Int) = (p : Int) := by rw [Int.tmod_eq_emod_of_nonneg (by omega)]; exact hw3
  have hw4 : IntKind.i64.wrap (p : Int) = (p : Int) := IntWalk.i64_in _ (by omega)
  have htn : (tk.length : Int) ≠ 0 := by omega
  have htk : tk ≠ [] := fun e => by rw [e] at hpn; exact absurd hpn (Nat.not_lt_zero _)
  have HLE : Hid (hs.length = tk.length) := Lib.hid f4
  have HIN : Hid (in64 (p : Int)) := Lib.hid (in64_nat p (by omega))
  have HG2 : Hid (hd < hs.length ∧ ws.length ≤ hs.length ∧ p < tk.length) := Lib.hid ⟨g2, g7, hpn⟩
  clear hp g1 g2 g3 g4 g5 g6 g7 hpn f1 f2 f3 f4 f5 f6
  go_wp2_with fail
  have hh9 := pwalk14_any t (p : Int) A1 B1 N1 c1 d1 e1 (w2.alloc (.cells #[.slice A1 t.tokens.length c1, .slice B1 t.heights.length d1, .slice N1 t.next.length e1] 27)) (Ht_2.out.ext ((Ext.refl _).alloc _)) HIN.out
  rw [HWP.out] at hh9
  unfold LsSaid at hh9
  rw [zs_len] at hh9
  refine hh9.mono ?_
  clear hh9 hw1 hw2 hw3 hw4 htn htk
  rintro ed w3 ⟨Lw, lw, rfl, hO3, hE3⟩
  have hb3 := block_keep (heap_alloc_new w2 (.cells #[.slice A1 t.tokens.length c1, .slice B1 t.heights.length d1, .slice N1 t.next.length e1] 27)) hE3
  have p0 : w3.cell? ⟨w2.heap.size, 0, none⟩ = some (.slice A1 t.tokens.length c1) := (cell_of_row w3 w2.heap.size 0 _ _ _ hb3).trans rfl
  have p1 : w3.cell? ⟨w2.heap.size, 1, none⟩ = some (.slice B1 t.heights.length d1) := (cell_of_row w3 w2.heap.size 1 _ _ _ hb3).trans rfl
  have p2 : w3.cell? ⟨w2.heap.size, 2, none⟩ = some (.slice N1 t.next.length e1) := (cell_of_row w3 w2.heap.size 2 _ _ _ hb3).trans rfl
  have HX3 := Lib.hid ((HX2.out.alloc (.cells #[.slice A1 t.tokens.length c1, .slice B1 t.heights.length d1, .slice N1 t.next.length e1] 27)).trans hE3)
  have HT3 := Lib.hid ((Ht_2.out.ext ((Ext.refl _).alloc (.cells #[.slice A1 t.tokens.length c1, .slice B1 t.heights.length d1, .slice N1 t.next.length e1] 27))).ext hE3)
  have HO3 := Lib.hid hO3.rd
  have lb3 : w2.heap.size < w3.heap.size := World.block_lt_of_cell? _ _ p2
  clear hb3 hE3 hO3 HX2 Ht_2
  go_wp2_with fail
  have hh9 := phead14_any t A1 B1 N1 c1 d1 e1 w3 HT3.out
  rw [HHD.out] at hh9
  refine hh9.mono ?_
  clear hh9
  rintro ed w4 ⟨rfl, hE4⟩
  have HX4 := Lib.hid (HX3.out.trans hE4)
  have HO4 := Lib.hid (HO3.out.ext hE4)
  have hwp := HWK.out.pos
  obtain ⟨bw, ow, hbw, hcw⟩ := (ints_of_rd HO4.out).cells (by rw [zs_len]; exact hwp)
  subst hbw
  have hcw' : ∀ w', Ext w4 w' → ∀ i, i < ws.length → w'.cell? ⟨bw, ow + i, none⟩ = some (.int .i64 (ws.getD i 0 : Nat)) := fun w' hE i hi => by have := hcw i (by rw [zs_len]; exact hi); rw [zs_getD] at this; exact hE.cell this
  have HCW := Lib.hid hcw'
  obtain ⟨bm, om, hbm, hcm⟩ := (ints_of_rd (HM.out.ext HX4.out)).cells (by have := HG2.out.1; omega)
  subst hbm
  have HCM : Hid (∀ w', Ext w4 w' → ∀ i, i < hs.length → w'.cell? ⟨bm, om + i, none⟩ = some (.int .i64 (hs.getD i 0))) := Lib.hid fun w' hE i hi => hE.cell (hcm i hi)
  have z0 : w4.cell? ⟨bw, ow, none⟩ = some (.int .i64 (p : Int)) := by
    have := hcw' w4 (Ext.refl _) 0 hwp
    rw [HWK.out.first] at this
    simpa using this
  have lbw : bw < w4.heap.size := World.block_lt_of_cell? _ _ z0
  have lbm : bm < w4.heap.size := World.block_lt_of_cell? _ _ (HCM.out w4 (Ext.refl _) hd HG2.out.1)
  have hd0 : (0 : Int) ≤ hd := by omega
  have hd1 : (hd : Int) < hs.length := by have := HG2.out.1; omega
  have hd2 : decide ((hd : Int) < 0) = false := decide_eq_false (by omega)
  have hd3 : decide ((hs.length : Int) ≤ hd) = false := decide_eq_false (by omega)
  have hd4 : decide (hs.length ≤ hd) = false := decide_eq_false (by omega)
  have hp5 : ((p : Int) != (p : Int)) = false := by simp
  have hp6 : (p != p) = false := by simp
  have e0 : ((ws.length : Int) == 0) = false := by rw [beq_eq_false_iff_ne]; omega
  have hwp' : (0 : Int) < ws.length := by omega
  have hwn : ws ≠ [] := fun e => by rw [e] at hwp; exact absurd hwp (Nat.lt_irrefl 0)
  have hwl : (ws.length : Int) ≤ 60 := by have := HG2.out.2.1; omega
  clear hcw hcw' hcm hE4 p0 p1 p2 lb3 HX3 HT3 HO3
  go_wp2_with fail
  go_loopw [12] (fun i wr => ∃ k : Nat, k ≤ hs.length ∧ i = .int .i64 k ∧ Ext w4 wr) (fun i _ => hs.length - (intOf i).toNat)
  case atStart => exact ⟨0, Nat.zero_le _, rfl, Ext.refl _⟩
  case round =>
    obtain ⟨k, hk, rfl, hX⟩ := hrel
    have HX := Lib.hid hX
    have hk0 : (0 : Int) ≤ k := by omega
    have hzx := HX.out.size
    clear hX
    by_cases hlt : k < hs.length
    · have hlt' : (k : Int) < hs.length := by omega
      have h3 := HG3.out k hlt
      have h4 := HG4.out k
      have KS : Hid (∀ w', Ext wr w' → w'.cell? ⟨bm, om + k, none⟩ = some (.int .i64 (hs.getD k 0)) ∧ w'.cell? ⟨bm, om + hd, none⟩ = some (.int .i64 (hs.getD hd 0))) := Lib.hid fun w' hE => ⟨HCM.out w' (HX.out.trans hE) k hlt, HCM.out w' (HX.out.trans hE) hd HG2.out.1⟩
      obtain ⟨xk, hxk⟩ : ∃ xk, hs.getD k 0 = xk := ⟨_, rfl⟩
      obtain ⟨mst, hmst⟩ : ∃ xk, hs.getD hd 0 = xk := ⟨_, rfl⟩
      rw [hxk, hmst] at KS h3 h4
      have d1 : decide (mst < xk) = false := decide_eq_false (by omega)
      have lbm2 : bm < wr.heap.size := by omega
      clear hxk hmst z0 h3
      by_cases hkd : k < hd
      · have d2 : decide ((k : Int) < hd) = true := decide_eq_true (by omega)
        have d2' : decide (k < hd) = true := decide_eq_true hkd
        have h5 := h4 hkd
        have d3 : (xk == mst) = false := by rw [beq_eq_false_iff_ne]; omega
        have d3' : decide (xk = mst) = false := decide_eq_false (by omega)
        clear h4 h5
        go_wp2_with fail
        refine wp_region_class (Ext wr) (by kernel_rfl) (by kernel_rfl) (Ext.refl _).drew ?_
        try simp only [List.append_eq, List.cons_append, List.nil_append]
        repeat (first
          | go_big_quiet_skip
          | (go_big_quiet_want
             first
             | (go_big_quiet_op; go_big_quiet_on)
             | (unfold Oper.quiet
                apply Exists.intro
                refine ⟨fun w' hC => ?_, ?_⟩
                · (obtain ⟨k1, k2⟩ := KS.out w' hC
                   unfold Oper.quietAt
                   go_simp
                   first
                   | exact rfl)
                go_simp
                go_big_quiet_on)))
        refine wpQuiet_nil ?_
        intro w5 hC5
        go_wp2_with fail
        go_roundw
        case rel => exact ⟨k + 1, by omega, by go_num, HX.out.trans hC5⟩
        case measure => simp [intOf]; omega
      · have d2 : decide ((k : Int) < hd) = false := decide_eq_false (by omega)
        have d2' : decide (k < hd) = false := decide_eq_false hkd
        clear h4
        go_wp2_with fail
        refine wp_region_class (Ext wr) (by kernel_rfl) (by kernel_rfl) (Ext.refl _).drew ?_
        try simp only [List.append_eq, List.cons_append, List.nil_append]
        repeat (first
          | go_big_quiet_skip
          | (go_big_quiet_want
             first
             | (go_big_quiet_op; go_big_quiet_on)
             | (unfold Oper.quiet
                apply Exists.intro
                refine ⟨fun w' hC => ?_, ?_⟩
                · (obtain ⟨k1, k2⟩ := KS.out w' hC
                   unfold Oper.quietAt
                   go_simp
                   first
                   | exact rfl)
                go_simp
                go_big_quiet_on)))
        refine wpQuiet_nil ?_
        intro w5 hC5
        go_wp2_with fail
        go_roundw
        case rel => exact ⟨k + 1, by omega, by go_num, HX.out.trans hC5⟩
        case measure => simp [intOf]; omega
    · obtain rfl : k = hs.length := by omega
      generalize wr = wq at *
      clear hk0 hk hlt z0 hp5 hp6
      go_wp2_with fail
      go_loopw [13] (fun i wr => ∃ k : Nat, 1 ≤ k ∧ k ≤ ws.length ∧ i = .int .i64 k ∧ Ext wq wr) (fun i _ => ws.length - (intOf i).toNat)
      case atStart => exact ⟨1, Nat.le_refl _, by omega, rfl, Ext.refl _⟩
      case round =>
        obtain ⟨k, hk1, hk, rfl, hX⟩ := hrel
        have HY := Lib.hid (HX.out.trans hX)
        have HZ := Lib.hid hX
        have hk0 : (0 : Int) ≤ k := by omega
        have hzy := HY.out.size
        clear hX
        by_cases hlt : k < ws.length
        · have hlt' : (k : Int) < ws.length := by omega
          obtain ⟨j, rfl⟩ : ∃ j, k = j + 1 := ⟨k - 1, by omega⟩
          have hup := HWK.out.up j hlt
          have hi1 := HWK.out.inn (j + 1) hlt
          have hi2 := HWK.out.inn j (by omega)
          have hc1 := fun w' hE => HCW.out w' (HY.out.trans hE) (j + 1) hlt
          have hc2 := fun w' hE => HCW.out w' (HY.out.trans hE) j (by omega)
          obtain ⟨u, hu⟩ : ∃ u, ws.getD (j + 1) 0 = u := ⟨_, rfl⟩
          obtain ⟨v, hv⟩ : ∃ u, ws.getD j 0 = u := ⟨_, rfl⟩
          rw [hu] at hup hi1 hc1
          rw [hv] at hup hi2 hc2
          have hc3 := fun w' hE => HCM.out w' (HY.out.trans hE) u hi1
          have hc4 := fun w' hE => HCM.out w' (HY.out.trans hE) v hi2
          have hc5 := fun w' hE => HCM.out w' (HY.out.trans hE) hd HG2.out.1
          obtain ⟨xu, hxu⟩ : ∃ x, hs.getD u 0 = x := ⟨_, rfl⟩
          obtain ⟨xv, hxv⟩ : ∃ x, hs.getD v 0 = x := ⟨_, rfl⟩
          obtain ⟨mst, hmst⟩ : ∃ x, hs.getD hd 0 = x := ⟨_, rfl⟩
          rw [hxu, hxv, hmst] at hup
          rw [hxu] at hc3
          rw [hxv] at hc4
          rw [hmst] at hc5
          obtain ⟨K, hK⟩ : ∃ K, j + 1 = K := ⟨_, rfl⟩
          rw [hK] at hc1 hlt hlt' hk hk0 ⊢
          have hKj : (K : Int) - 1 = (j : Int) := by omega
          have hjw : IntKind.i64.wrap (j : Int) = (j : Int) := IntWalk.i64_in _ (by omega)
          have hj0 : (0 : Int) ≤ j := by omega
          have hjl : (j : Int) < ws.length := by omega
          have hu0 : (0 : Int) ≤ u := by omega
          have hul : (u : Int) < hs.length := by omega
          have hv0 : (0 : Int) ≤ v := by omega
          have hvl : (v : Int) < hs.length := by omega
          have d1 : decide ((u : Int) < 0) = false := decide_eq_false (by omega)
          have d2 : decide ((hs.length : Int) ≤ u) = false := decide_eq_false (by omega)
          have d2' : decide (hs.length ≤ u) = false := decide_eq_false (by omega)
          have d3 : decide (xu < xv) = false := decide_eq_false (by omega)
          have d4 : (xv == mst) = false := by rw [beq_eq_false_iff_ne]; omega
          have d4' : decide (xv = mst) = false := decide_eq_false (by omega)
          have KS : Hid (∀ w', Ext wr w' → w'.cell? ⟨bw, ow + K, none⟩ = some (.int .i64 (u : Int)) ∧ w'.cell? ⟨bw, ow + j, none⟩ = some (.int .i64 (v : Int)) ∧ w'.cell? ⟨bm, om + u, none⟩ = some (.int .i64 xu) ∧ w'.cell? ⟨bm, om + v, none⟩ = some (.int .i64 xv) ∧ w'.cell? ⟨bm, om + hd, none⟩ = some (.int .i64 mst)) := Lib.hid fun w' hE => ⟨hc1 w' hE, hc2 w' hE, hc3 w' hE, hc4 w' hE, hc5 w' hE⟩
          have lbm2 : bm < wr.heap.size := by omega
          have lbw2 : bw < wr.heap.size := by omega
          have HKK : Hid (j + 1 = K) := Lib.hid hK
          clear hup hi1 hi2 hc1 hc2 hc3 hc4 hc5 hu hv hxu hxv hmst hK hk1 hlt
          go_wp2_with fail
          refine wp_region_class (Ext wr) (by kernel_rfl) (by kernel_rfl) (Ext.refl _).drew ?_
          try simp only [List.append_eq, List.cons_append, List.nil_append]
          repeat (first
            | go_big_quiet_skip
            | (go_big_quiet_want
               first
               | (go_big_quiet_op; go_big_quiet_on)
               | (unfold Oper.quiet
                  apply Exists.intro
                  refine ⟨fun w' hC => ?_, ?_⟩
                  · (obtain ⟨k1, k2, k3, k4, k5⟩ := KS.out w' hC
                     unfold Oper.quietAt
                     go_simp
                     first
                     | exact rfl)
                  go_simp
                  go_big_quiet_on)))
          refine wpQuiet_nil ?_
          intro w6 hC6
          go_wp2_with fail
          go_roundw
          case rel => exact ⟨K + 1, by omega, by omega, by go_num, HZ.out.trans hC6⟩
          case measure => simp [intOf]; omega
        · obtain rfl : k = ws.length := by omega
          have hi1 := HWK.out.inn (ws.length - 1) (by omega)
          have hc1 := fun w' hE => HCW.out w' (HY.out.trans hE) (ws.length - 1) (by omega)
          have hla := HWK.out.last
          obtain ⟨m, hm⟩ : ∃ m, ws.length - 1 = m := ⟨_, rfl⟩
          rw [hm] at hi1 hc1 hla
          obtain ⟨u, hu⟩ : ∃ u, ws.getD m 0 = u := ⟨_, rfl⟩
          rw [hu] at hi1 hc1 hla
          have hc3 := fun w' hE => HCM.out w' (HY.out.trans hE) u hi1
          have hc5 := fun w' hE => HCM.out w' (HY.out.trans hE) hd HG2.out.1
          rw [hla] at hc3
          obtain ⟨mst, hmst⟩ : ∃ x, hs.getD hd 0 = x := ⟨_, rfl⟩
          rw [hmst] at hc3 hc5
          have hm1 : (ws.length : Int) - 1 = (m : Int) := by omega
          have hmw : IntKind.i64.wrap (m : Int) = (m : Int) := IntWalk.i64_in _ (by omega)
          have hm0 : (0 : Int) ≤ m := by omega
          have hml : (m : Int) < ws.length := by omega
          have hu0 : (0 : Int) ≤ u := by omega
          have hul : (u : Int) < hs.length := by omega
          have d1 : (mst == mst) = true := by simp
          have d1' : decide (mst = mst) = true := by simp
          have d2 : decide ((ws.length : Int) ≤ tk.length) = true := decide_eq_true (by have := HG2.out.2.1; have := HLE.out; omega)
          have d2' : decide (ws.length ≤ tk.length) = true := decide_eq_true (by have := HG2.out.2.1; have := HLE.out; omega)
          have KS : Hid (∀ w', Ext wr w' → w'.cell? ⟨bw, ow + m, none⟩ = some (.int .i64 (u : Int)) ∧ w'.cell? ⟨bm, om + u, none⟩ = some (.int .i64 mst) ∧ w'.cell? ⟨bm, om + hd, none⟩ = some (.int .i64 mst)) := Lib.hid fun w' hE => ⟨hc1 w' hE, hc3 w' hE, hc5 w' hE⟩
          have lbm2 : bm < wr.heap.size := by omega
          have lbw2 : bw < wr.heap.size := by omega
          clear hi1 hc1 hc3 hc5 hu hla hm hmst
          go_wp2_with fail
          refine wp_region_class (Ext wr) (by kernel_rfl) (by kernel_rfl) (Ext.refl _).drew ?_
          try simp only [List.append_eq, List.cons_append, List.nil_append]
          repeat (first
            | go_big_quiet_skip
            | (go_big_quiet_want
               first
               | (go_big_quiet_op; go_big_quiet_on)
               | (unfold Oper.quiet
                  apply Exists.intro
                  refine ⟨fun w' hC => ?_, ?_⟩
                  · (obtain ⟨k1, k2, k3⟩ := KS.out w' hC
                     unfold Oper.quietAt
                     go_simp
                     first
                     | exact rfl)
                  go_simp
                  go_big_quiet_on)))
          refine wpQuiet_nil ?_
          intro w6 hC6
          go_wp2_with fail
          go_ret
          exact ⟨ret_bool (by first | rfl | simp), HX4.out.trans (HY.out.trans hC6)⟩
end Go.Proofs.YtfkidgpjejcblaaDoor
