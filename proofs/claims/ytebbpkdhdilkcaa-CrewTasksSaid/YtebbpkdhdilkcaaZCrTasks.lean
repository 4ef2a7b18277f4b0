import Derived.Test.YtebbpkdhdilkcaaJ7
import Derived.Test.YtebbpkdhdilkcaaZCrTk
import Derived.Test.YtebbpkdhdilkcaaZTCount
import Derived.Deep.QuietTactic
/- The walk of CrewTasks. -/
namespace Go.Proofs.Ytebbpkdhdilkcaa
open Go.BigFrame
open Go.RowKit Go.Proofs.Ytebbpkdhdilkcaa.Plain

set_option maxRecDepth 100000 in
theorem ctasks_great (xa xb xc : Int) (picks : List (Int × Int)) (Ap : Option Addr) (cp : Nat) (W : World) (h : Rd kPk W (.slice Ap picks.length cp) picks) (hb : 300 < picks.length) :
    Calls Try.prog 4 #[.agg #[.int .u8 xa, .int .u8 xb, .int .u8 xc], .slice Ap picks.length cp] W fun e w' => e = .returned (.bool true) ∧ Ext W w' := by
  have hm := h.len
  have hb2 : (300 : Int) < picks.length := by omega
  clear h
  go_enter Try.func4, Try.ntmps4
  go_wp2_with fail
  refine (calive_any _).mono ?_
  rintro e w1 ⟨rfl, hE⟩
  have E1 := Lib.hid (((Ext.refl W).alloc _).trans hE)
  clear hE
  go_wp2_with fail
  go_ret
  exact ⟨rfl, E1.out⟩
set_option maxHeartbeats 3200000 in
set_option maxRecDepth 100000 in
theorem ctasks_walk (xa xb xc : Int) (picks : List (Int × Int)) (Ap : Option Addr) (cp : Nat) (W : World) (h : Rd kPk W (.slice Ap picks.length cp) picks) (ba : 0 ≤ xa ∧ xa ≤ 255) (bb : 0 ≤ xb ∧ xb ≤ 255) (bc : 0 ≤ xc ∧ xc ≤ 255) (hl : picks.length ≤ 300) :
    Calls Try.prog 4 #[.agg #[.int .u8 xa, .int .u8 xb, .int .u8 xc], .slice Ap picks.length cp] W fun e w' => e = .returned (.bool true) ∧ Ext W w' := by
  have HX := Lib.hid h
  obtain ⟨ba1, ba2⟩ := ba
  obtain ⟨bb1, bb2⟩ := bb
  obtain ⟨bc1, bc2⟩ := bc
  have hl3 : ¬ (300 : Int) < picks.length := by omega
  have hpl : (picks.length : Int) ≤ 300 := by omega
  obtain ⟨n, hn⟩ : ∃ n : Nat, 1 + xa % 40 = (n : Int) := ⟨(1 + xa % 40).toNat, by omega⟩
  obtain ⟨g, hg⟩ : ∃ g : Nat, 1 + xb % 6 = (g : Int) := ⟨(1 + xb % 6).toNat, by omega⟩
  obtain ⟨m, hm⟩ : ∃ m : Nat, 1 + xc % 8 = (m : Int) := ⟨(1 + xc % 8).toNat, by omega⟩
  have n1 : 1 ≤ n := by omega
  have n2 : n ≤ 40 := by omega
  have g1 : 1 ≤ g := by omega
  have g2 : g ≤ 6 := by omega
  have m1 : 1 ≤ m := by omega
  have m2 : m ≤ 8 := by omega
  obtain ⟨r, hr⟩ : ∃ r, runP g m (beginC n m) picks = r := ⟨_, rfl⟩
  obtain ⟨dn, hI⟩ := CwI.runG (n := n) g1 m1 picks (beginC n m) 0 [] (CwI.begin g n m n1 m1)
  rw [hr, List.nil_append] at hI
  have hrl : r.2.length = picks.length := by rw [← hr]; exact runP_len g m picks _
  obtain ⟨c1, c2, c3, c4⟩ := hI.counts g1 n1
  obtain ⟨f1, f2, f3, _⟩ := CrI.fresh hI
  obtain ⟨rd, evs⟩ := r
  simp only at hI hrl c1 c2 c3 c4 f1 f2 f3
  have HI := Lib.hid hI
  have HR := Lib.hid hr
  have HRL := Lib.hid hrl
  have HF := Lib.hid (And.intro f1 (And.intro f2 f3))
  have HC4 := Lib.hid c4
  have hwk : rd.D.length = m := CrI.wk hI
  obtain ⟨N, hN⟩ : ∃ N, rd.ts.length = N := ⟨_, rfl⟩
  have HN := Lib.hid hN
  obtain ⟨K, hK⟩ : ∃ K, (takenL evs).length = K := ⟨_, rfl⟩
  obtain ⟨L, hL⟩ : ∃ L, (held rd.D).length = L := ⟨_, rfl⟩
  obtain ⟨T', hT'⟩ : ∃ T', cntT n g = T' := ⟨_, rfl⟩
  rw [hN, hK, hL] at c1
  rw [hN, hT'] at c2
  rw [hT'] at c3
  have HKK := Lib.hid (And.intro hK (And.intro hL hT'))
  have HCT : Hid (countT (n : Int) (g : Int) = (T' : Int)) := Lib.hid (by rw [← hT']; exact (count_ok n g n1 (by omega) g1 (by omega)).1)
  have HWK := Lib.hid hwk
  obtain ⟨Cm, hmk, hmown⟩ := kBool.make false rfl trivial N (by omega)
  have HMK := Lib.hid hmown
  have hmk2 : ∀ w : World, (Instr.makeSlice 26 (.int .i64 N) (.int .i64 N)).run Try.prog w = .ok (.slice (some ⟨w.heap.size, 0, none⟩) N N) (w.alloc (.cells Cm 4)) := hmk
  have k1 : (K : Int) + L = N := by omega
  have k2 : (N : Int) ≤ T' := by omega
  have k3 : (T' : Int) ≤ 80 := by omega
  clear h hI hr hrl c1 c2 c3 c4 f1 f2 f3 hwk hN hK hL hT' hmk hmown
  go_enter Try.func4, Try.ntmps4
  go_wp2_with fail
  refine (calive_any _).mono ?_
  rintro ed w1 ⟨rfl, hE⟩
  have k0 : w1.cell? ⟨W.heap.size, 0, none⟩ = some (.int .u8 xa) := hE.cell (by go_simp)
  have k1' : w1.cell? ⟨W.heap.size, 1, none⟩ = some (.int .u8 xb) := hE.cell (by go_simp)
  have k2' : w1.cell? ⟨W.heap.size, 2, none⟩ = some (.int .u8 xc) := hE.cell (by go_simp)
  have E1 := Lib.hid (((Ext.refl W).alloc _).trans hE)
  clear hE
  go_wp2_with fail
  go_quiet (fail)
  go_wp2_with fail
  refine (cbegin_any n g m _ n1 (by omega) g1 (by omega) m1 m2).mono ?_
  rintro ed w2 ⟨A1, B1, e1, a1, b1, rfl, hC, hE⟩
  have E2 := Lib.hid ((E1.out.drewN _).trans hE)
  have C2 := Lib.hid hC
  clear hE hC k0 k1' k2' E1
  go_wp2_with fail
  refine (crun_any A1 B1 Ap e1 0 a1 b1 m g n m cp (beginC n m) 0 [] picks _ (C2.out.ext ((Ext.refl _).alloc _)) (Nat.le_refl _) (CwI.begin g n m n1 m1) (HX.out.ext (E2.out.alloc _)) n1 (by omega) g1 (by omega) m1 m2 (by show 0 + picks.length ≤ 100000; omega) (by show 0 + picks.length ≤ 100000; omega)).mono ?_
  rw [HR.out]
  rintro ed w3 ⟨A3, B3, L3, e3, a3, b3, l3, rfl, hC, hL, hE⟩
  simp only at hC hL
  rw [HRL.out] at hL
  have LB := Lib.hid hL
  have CB := Lib.hid hC
  have hzW : W.heap.size ≤ w3.heap.size := Nat.le_trans E2.out.size (Nat.le_trans (by simp) hE.size)
  have E3 := Lib.hid (((E2.out.alloc _).trans hE).alloc (.cells #[.slice A3 N a3, .int .i64 g, .slice B3 rd.dn.length b3, .slice (some ⟨e3, 0, none⟩) m m, .bool rd.over, .int .i64 rd.st, .int .i64 rd.id] 31))
  have C3 := Lib.hid (hC.ext ((Ext.refl _).alloc (.cells #[.slice A3 N a3, .int .i64 g, .slice B3 rd.dn.length b3, .slice (some ⟨e3, 0, none⟩) m m, .bool rd.over, .int .i64 rd.st, .int .i64 rd.id] 31)))
  have L3' := Lib.hid (hL.ext ((Ext.refl _).alloc (.cells #[.slice A3 N a3, .int .i64 g, .slice B3 rd.dn.length b3, .slice (some ⟨e3, 0, none⟩) m m, .bool rd.over, .int .i64 rd.st, .int .i64 rd.id] 31)))
  unfold crewV
  simp only
  rw [HN.out, HRL.out]
  clear hC hL hE E2 C2
  go_wp2_with fail
  have hEb : Ext (w3.alloc (.cells #[.slice A3 N a3, .int .i64 g, .slice B3 rd.dn.length b3, .slice (some ⟨e3, 0, none⟩) m m, .bool rd.over, .int .i64 rd.st, .int .i64 rd.id] 31)) ((w3.alloc (.cells #[.slice A3 N a3, .int .i64 g, .slice B3 rd.dn.length b3, .slice (some ⟨e3, 0, none⟩) m m, .bool rd.over, .int .i64 rd.st, .int .i64 rd.id] 31)).alloc (.cells Cm 4)) := (Ext.refl _).alloc _
  have x0 : ((w3.alloc (.cells #[.slice A3 N a3, .int .i64 g, .slice B3 rd.dn.length b3, .slice (some ⟨e3, 0, none⟩) m m, .bool rd.over, .int .i64 rd.st, .int .i64 rd.id] 31)).alloc (.cells Cm 4)).cell? ⟨w3.heap.size, 0, none⟩ = some (.slice A3 N a3) := Ext.cell hEb (by go_simp)
  have x1 : ((w3.alloc (.cells #[.slice A3 N a3, .int .i64 g, .slice B3 rd.dn.length b3, .slice (some ⟨e3, 0, none⟩) m m, .bool rd.over, .int .i64 rd.st, .int .i64 rd.id] 31)).alloc (.cells Cm 4)).cell? ⟨w3.heap.size, 1, none⟩ = some (.int .i64 g) := Ext.cell hEb (by go_simp)
  have x2 : ((w3.alloc (.cells #[.slice A3 N a3, .int .i64 g, .slice B3 rd.dn.length b3, .slice (some ⟨e3, 0, none⟩) m m, .bool rd.over, .int .i64 rd.st, .int .i64 rd.id] 31)).alloc (.cells Cm 4)).cell? ⟨w3.heap.size, 2, none⟩ = some (.slice B3 rd.dn.length b3) := Ext.cell hEb (by go_simp)
  have x3 : ((w3.alloc (.cells #[.slice A3 N a3, .int .i64 g, .slice B3 rd.dn.length b3, .slice (some ⟨e3, 0, none⟩) m m, .bool rd.over, .int .i64 rd.st, .int .i64 rd.id] 31)).alloc (.cells Cm 4)).cell? ⟨w3.heap.size, 3, none⟩ = some (.slice (some ⟨e3, 0, none⟩) m m) := Ext.cell hEb (by go_simp)
  have x4 : ((w3.alloc (.cells #[.slice A3 N a3, .int .i64 g, .slice B3 rd.dn.length b3, .slice (some ⟨e3, 0, none⟩) m m, .bool rd.over, .int .i64 rd.st, .int .i64 rd.id] 31)).alloc (.cells Cm 4)).cell? ⟨w3.heap.size, 4, none⟩ = some (.bool rd.over) := Ext.cell hEb (by go_simp)
  have x5 : ((w3.alloc (.cells #[.slice A3 N a3, .int .i64 g, .slice B3 rd.dn.length b3, .slice (some ⟨e3, 0, none⟩) m m, .bool rd.over, .int .i64 rd.st, .int .i64 rd.id] 31)).alloc (.cells Cm 4)).cell? ⟨w3.heap.size, 5, none⟩ = some (.int .i64 rd.st) := Ext.cell hEb (by go_simp)
  have x6 : ((w3.alloc (.cells #[.slice A3 N a3, .int .i64 g, .slice B3 rd.dn.length b3, .slice (some ⟨e3, 0, none⟩) m m, .bool rd.over, .int .i64 rd.st, .int .i64 rd.id] 31)).alloc (.cells Cm 4)).cell? ⟨w3.heap.size, 6, none⟩ = some (.int .i64 rd.id) := Ext.cell hEb (by go_simp)
  have xf : ∀ o, ((w3.alloc (.cells #[.slice A3 N a3, .int .i64 g, .slice B3 rd.dn.length b3, .slice (some ⟨e3, 0, none⟩) m m, .bool rd.over, .int .i64 rd.st, .int .i64 rd.id] 31)).alloc (.cells Cm 4)).frozen? ⟨w3.heap.size, o, none⟩ = false := fun o => (Below.frozen hEb (p := ⟨w3.heap.size, o, none⟩) (by first | omega | (simp; omega) | simp)).trans (by go_simp)
  have HM4 : Hid (Ow kBool (w3.heap.size + 1) ((w3.alloc (.cells #[.slice A3 N a3, .int .i64 g, .slice B3 rd.dn.length b3, .slice (some ⟨e3, 0, none⟩) m m, .bool rd.over, .int .i64 rd.st, .int .i64 rd.id] 31)).alloc (.cells Cm 4)) (.slice (some ⟨w3.heap.size + 1, 0, none⟩) N N) (metL N [])) := Lib.hid (by rw [metL_nil]; exact HMK.out (w3.alloc (.cells #[.slice A3 N a3, .int .i64 g, .slice B3 rd.dn.length b3, .slice (some ⟨e3, 0, none⟩) m m, .bool rd.over, .int .i64 rd.st, .int .i64 rd.id] 31)) (w3.heap.size + 1) (w3.heap.size + 1) (by simp) (Nat.le_refl _))
  have E4 := Lib.hid (E3.out.trans hEb)
  have C4 := Lib.hid ((CB.out.later (T := fun b => b = w3.heap.size + 1) m1 (Grew.of (((Ext.refl w3).alloc (.cells #[.slice A3 N a3, .int .i64 g, .slice B3 rd.dn.length b3, .slice (some ⟨e3, 0, none⟩) m m, .bool rd.over, .int .i64 rd.st, .int .i64 rd.id] 31)).alloc (.cells Cm 4))) (fun x hx hT => by omega)))
  have L4 := Lib.hid (L3'.out.ext hEb)
  have l4 : w3.heap.size < (((w3.alloc (.cells #[.slice A3 N a3, .int .i64 g, .slice B3 rd.dn.length b3, .slice (some ⟨e3, 0, none⟩) m m, .bool rd.over, .int .i64 rd.st, .int .i64 rd.id] 31)).alloc (.cells Cm 4))).heap.size := by simp; omega
  have l5 : w3.heap.size + 1 < (((w3.alloc (.cells #[.slice A3 N a3, .int .i64 g, .slice B3 rd.dn.length b3, .slice (some ⟨e3, 0, none⟩) m m, .bool rd.over, .int .i64 rd.st, .int .i64 rd.id] 31)).alloc (.cells Cm 4))).heap.size := by simp
  clear hEb E3 C3 L3' HMK hmk2
  generalize hw4 : ((w3.alloc (.cells #[.slice A3 N a3, .int .i64 g, .slice B3 rd.dn.length b3, .slice (some ⟨e3, 0, none⟩) m m, .bool rd.over, .int .i64 rd.st, .int .i64 rd.id] 31)).alloc (.cells Cm 4)) = w4 at *
  clear hw4
  have HXC : Hid (w4.cell? ⟨w3.heap.size, 0, none⟩ = some (.slice A3 N a3) ∧ w4.cell? ⟨w3.heap.size, 1, none⟩ = some (.int .i64 g) ∧ w4.cell? ⟨w3.heap.size, 2, none⟩ = some (.slice B3 rd.dn.length b3) ∧ w4.cell? ⟨w3.heap.size, 3, none⟩ = some (.slice (some ⟨e3, 0, none⟩) m m) ∧ w4.cell? ⟨w3.heap.size, 4, none⟩ = some (.bool rd.over) ∧ w4.cell? ⟨w3.heap.size, 5, none⟩ = some (.int .i64 rd.st) ∧ w4.cell? ⟨w3.heap.size, 6, none⟩ = some (.int .i64 rd.id)) := Lib.hid ⟨x0, x1, x2, x3, x4, x5, x6⟩
  clear x0 x1 x2 x3 x4 x5 x6 xf
  go_loopw [13, 14] (fun u i wr => ∃ k : Nat, k ≤ picks.length ∧ i = .int .i64 k ∧ u = .int .i64 ((takenL (evs.take k)).length : Nat) ∧ Ow kBool (w3.heap.size + 1) wr (.slice (some ⟨w3.heap.size + 1, 0, none⟩) N N) (metL N (takenL (evs.take k))) ∧ Grew (fun b => b = w3.heap.size + 1) w4 wr) (fun _ i _ => picks.length - (intOf i).toNat)
  case atStart => exact ⟨0, Nat.zero_le _, rfl, rfl, HM4.out, Grew.refl _ _⟩
  case round =>
    obtain ⟨k, hk, rfl, rfl, hown, hG⟩ := hrel
    have HO := Lib.hid hown
    have HG := Lib.hid hG
    have hk0 : (0 : Int) ≤ k := by omega
    by_cases hlt : k < picks.length
    · have hlt' : (k : Int) < picks.length := by omega
      obtain ⟨bl, ol, rfl, hcl⟩ := LB.out.cells (by rw [HRL.out]; omega)
      have q0 : w3.cell? ⟨bl, ol + k * 4 + 2, none⟩ = some (.int .i64 (evs.getD k ev0).tk) := hcl k (by rw [HRL.out]; exact hlt) 2 _ rfl
      have lbl : bl < w3.heap.size := World.block_lt_of_cell? _ _ q0
      obtain ⟨b9, o9, e9, hc4⟩ := L4.out.cells (by rw [HRL.out]; omega)
      cases e9
      have q1 : w4.cell? ⟨bl, ol + k * 4 + 2, none⟩ = some (.int .i64 (evs.getD k ev0).tk) := hc4 k (by rw [HRL.out]; exact hlt) 2 _ rfl
      have q2 := hG.cell q1 (by omega)
      have hok := L4.out.okAt k (by rw [HRL.out]; exact hlt)
      obtain ⟨tk, htk⟩ : ∃ tk, (evs.getD k ev0).tk = tk := ⟨_, rfl⟩
      have hsn := takenL_snoc evs k (by rw [HRL.out]; exact hlt)
      have hok2 : in64 tk := by rw [← htk]; exact hok.2.2
      rw [htk] at q2
      obtain ⟨K1, hK1⟩ : ∃ K1, (takenL (evs.take k)).length = K1 := ⟨_, rfl⟩
      rw [hK1]
      have hK1b : K1 ≤ 300 := by
        rw [← hK1]; unfold takenL
        exact Nat.le_trans (List.length_filterMap_le _ _) (by rw [List.length_take]; omega)
      by_cases hneg : tk < 0
      · have HS : Hid (takenL (evs.take (k + 1)) = takenL (evs.take k)) := Lib.hid (by rw [hsn, takenL_no _ (by rw [htk]; exact hneg), List.append_nil])
        have HK1 := Lib.hid hK1
        clear hown hG hcl hc4 q0 q1 hok hok2 htk hsn hK1
        go_wp2_with fail
        go_roundw
        case rel => exact ⟨k + 1, by omega, by go_num, by rw [HS.out, HK1.out], by rw [HS.out]; exact HO.out, HG.out⟩
        case measure => simp [intOf]; omega
      · obtain ⟨x, rfl⟩ : ∃ x : Nat, tk = x := ⟨tk.toNat, by omega⟩
        obtain ⟨hxm, hxn⟩ := takenL_new evs HF.out.1 k (by rw [HRL.out]; exact hlt) x htk
        have hxN : x < N := by rw [← HN.out]; exact HF.out.2.1 x hxm
        have HS : Hid (takenL (evs.take (k + 1)) = takenL (evs.take k) ++ [x]) := Lib.hid (by rw [hsn, takenL_yes _ x htk])
        have HK1 := Lib.hid hK1
        obtain ⟨g', eg, _, _, h3, h4⟩ := Ow.pos hown (by rw [metL_len]; omega)
        obtain rfl : g' = w3.heap.size + 1 := by cases eg; rfl
        have zm : wr.cell? ⟨w3.heap.size + 1, x, none⟩ = some (.bool false) := by
          have := h3 x (by rw [metL_len]; exact hxN) 0 _ rfl
          rw [show (metL N (takenL (evs.take k))).getD x kBool.d = false by rw [show kBool.d = false from rfl, metL_getD _ _ _ hxN]; exact decide_eq_false hxn] at this
          rw [show x = x * kBool.n + 0 from by show x = x * 1 + 0; omega]
          exact this
        have hset := hown.set (j := x) (i := 0) (x := true) (u := .bool true) (by rw [metL_len]; exact hxN) (by decide) rfl trivial
        rw [show x * kBool.n + 0 = x from by show x * 1 + 0 = x; omega, ← metL_snoc N _ x hxN, ← HS.out] at hset
        have HSET := Lib.hid hset
        have hx0 : (0 : Int) ≤ x := by omega
        have hx1 : (x : Int) < N := by omega
        have hx2 : ¬ (x : Int) < 0 := by omega
        have hx3 : ¬ (N : Int) ≤ x := by omega
        have lw : w3.heap.size + 1 < wr.heap.size := by have := hG.size; omega
        clear hown hG hcl hc4 q0 q1 hok hok2 htk hsn hK1 hneg hxm hxn h3 eg hset
        go_wp2_with fail
        go_roundw
        case rel => exact ⟨k + 1, by omega, by go_num, by rw [HS.out, List.length_append, HK1.out]; go_num, HSET.out, HG.out.setCell rfl _⟩
        case measure => simp [intOf]; omega
    · obtain rfl : k = picks.length := by omega
      have htk : evs.take picks.length = evs := by rw [← HRL.out, List.take_length]
      rw [htk, HKK.out.1]
      obtain ⟨x0, x1, x2, x3, x4, x5, x6⟩ := HXC.out
      have y0 := hG.cell x0 (by omega)
      have y1 := hG.cell x1 (by omega)
      have y2 := hG.cell x2 (by omega)
      have y3 := hG.cell x3 (by omega)
      have y4 := hG.cell x4 (by omega)
      have y5 := hG.cell x5 (by omega)
      have y6 := hG.cell x6 (by omega)
      have hGE : Ext W wr := hG.toExt E4.out (fun b hb => by rw [hb]; have := E4.out.size; omega)
      have hCr := (C4.out.grew hG).at_ m1
      obtain ⟨hsr, hdr⟩ := hCr.deq
      have HDR := Lib.hid hdr
      have HGE := Lib.hid hGE
      clear hown hG htk x0 x1 x2 x3 x4 x5 x6 hCr hdr hGE
      go_wp2_with fail
      refine (rcount_any (n : Int) (g : Int) _ (by omega) (by omega)).mono ?_
      rintro ed w5 ⟨rfl, rfl⟩
      rw [HCT.out]
      go_wp2_with fail
      have hcl := cheld_any A3 B3 e3 0 a3 b3 m g m rd hsr wr HDR.out m2 (by rw [HKK.out.2.1]; omega)
      unfold crewV at hcl
      rw [HN.out, HKK.out.2.1] at hcl
      refine hcl.mono ?_
      clear hcl
      rintro ed w6 ⟨rfl, hE6⟩
      have z4 := hE6.cell y4
      have HE6 := Lib.hid (HGE.out.trans hE6)
      have h4 := HC4.out
      rw [HKK.out.1, HKK.out.2.2] at h4
      clear hE6
      have k5 : (K : Int) + L = N := k1
      cases hov : rd.over with
      | true =>
        rw [hov] at z4
        have hKT : K = T' := h4.1 hov
        subst hKT
        clear h4
        go_wp2_with fail
        go_ret
        exact ⟨rfl, HE6.out⟩
      | false =>
        rw [hov] at z4
        have hKT : ¬ K = T' := fun e => by have := h4.2 e; rw [hov] at this; cases this
        have hKT2 : ¬ (K : Int) = T' := by omega
        clear h4
        go_wp2_with fail
        go_ret
        exact ⟨ret_bool (by first | (rw [beq_eq_false_iff_ne.2 hKT2]; rfl) | (simp [hKT2])), HE6.out⟩

theorem ctasks_any (xa xb xc : Int) (picks : List (Int × Int)) (Ap : Option Addr) (cp : Nat) (W : World) (h : Rd kPk W (.slice Ap picks.length cp) picks) (ba : 0 ≤ xa ∧ xa ≤ 255) (bb : 0 ≤ xb ∧ xb ≤ 255) (bc : 0 ≤ xc ∧ xc ≤ 255) :
    Calls Try.prog 4 #[.agg #[.int .u8 xa, .int .u8 xb, .int .u8 xc], .slice Ap picks.length cp] W fun e w' => e = .returned (.bool true) ∧ Ext W w' := by
  by_cases hl : picks.length ≤ 300
  · exact ctasks_walk xa xb xc picks Ap cp W h ba bb bc hl
  · exact ctasks_great xa xb xc picks Ap cp W h (by omega)
end Go.Proofs.Ytebbpkdhdilkcaa
