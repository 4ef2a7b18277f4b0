/- Joined by wip/merge.py: T12M, HasW, T12K, T12I, T12J, T12L, T12Z, T12S, T12F. -/
import Derived.Test.YtofiokegdgdacaaJ4
import Derived.Deep.QuietTactic
set_option linter.unusedVariables false
set_option linter.unusedSimpArgs false
set_option linter.unnecessarySimpa false
/- The document's Make (ref12). -/
namespace Go.Proofs.Ytofiokegdgdacaa
open Go.BigFrame
open Go.RowKit Go.Proofs.Ytofiokegdgdacaa.Plain

/-- a table, an error -/
def TabSaid (r : Tb × Int) (w : World) (ed : Ending) (w' : World) : Prop :=
  ∃ (C F : Option Addr) (c f : Nat), ed = .returned (.tuple #[.agg #[.int .i64 r.1.bits, .slice C r.1.cells.length c, .slice F r.1.full.length f], .int .i64 r.2]) ∧ Ow kU32 w.heap.size w' (.slice C r.1.cells.length c) (zs r.1.cells) ∧ Ow kBool w.heap.size w' (.slice F r.1.full.length f) r.1.full ∧ Ext w w'
theorem Plain.risingR_len (l : List Nat) : (risingR l).length ≤ l.length := (risingR_good _ l rfl).2.2
theorem fill_zero (n : Nat) : zs (cellsT (List.replicate n none)) = List.replicate n (0 : Int) ∧ fullT (List.replicate n none) = List.replicate n false := by
  constructor
  · unfold cellsT zs
    rw [List.map_map, List.map_replicate]; rfl
  · unfold fullT
    rw [List.map_replicate]; rfl
theorem heap_drew (w : World) : w.drew.heap = w.heap := rfl
theorem Plain.probe_back {h d n : Nat} (hh : h < n) (hd : d < n) : ((h + d) % n + (n - h)) % n = d := by
  rw [Nat.mod_add_mod, show h + d + (n - h) = d + n by omega, Nat.add_mod_right]
  exact Nat.mod_eq_of_lt hd
/-- a table under way -/
structure TabAt (w3 : World) (P G1 G2 n B : Nat) (tab : Tab) (W : World) : Prop where
  c : Ow kU32 w3.heap.size W (.slice (some ⟨G1, 0, none⟩) n n) (zs (cellsT tab))
  f : Ow kBool w3.heap.size W (.slice (some ⟨G2, 0, none⟩) n n) (fullT tab)
  p : W.cell? ⟨P, 0, none⟩ = some (.int .i64 B) ∧ W.cell? ⟨P, 1, none⟩ = some (.slice (some ⟨G1, 0, none⟩) n n) ∧ W.cell? ⟨P, 2, none⟩ = some (.slice (some ⟨G2, 0, none⟩) n n)
  e : Ext w3 W
theorem TabAt.drew {w3 : World} {P G1 G2 n B : Nat} {tab : Tab} {W : World} (h : TabAt w3 P G1 G2 n B tab W) : TabAt w3 P G1 G2 n B tab W.drew :=
  ⟨h.c.ext (Ext.refl _).drew, h.f.ext (Ext.refl _).drew, h.p, h.e.drew⟩
theorem TabAt.puts {w3 : World} {P G1 G2 n B s x : Nat} {tab : Tab} {W : World} (h : TabAt w3 P G1 G2 n B tab W) (hl : tab.length = n) (hs : s < n) (hx : x < 4294967296) (h1 : w3.heap.size ≤ G1) (h2 : w3.heap.size ≤ G2) (n1 : P ≠ G1) (n2 : P ≠ G2) (n3 : G1 ≠ G2) :
    TabAt w3 P G1 G2 n B (tab.set s (some x)) ((W.setCell ⟨G1, s, none⟩ (.int .u32 x)).setCell ⟨G2, s, none⟩ (.bool true)) ∧ TabAt w3 P G1 G2 n B (tab.set s (some x)) ((W.setCell ⟨G2, s, none⟩ (.bool true)).setCell ⟨G1, s, none⟩ (.int .u32 x)) := by
  have hc := cellsT_set tab s x
  have hf := fullT_set tab s x
  constructor
  · refine ⟨?_, ?_, ?_, (h.e.setCell (p := ⟨G1, s, none⟩) h1 _).setCell (p := ⟨G2, s, none⟩) h2 _⟩
    · rw [hc]
      exact (h.c.setN (u := s) (v := x) (by rw [cellsT_len, hl]; exact hs) hx).setOther (p := ⟨G2, s, none⟩) (by simp [Value.ownBlock]; exact n3) _
    · rw [hf]
      exact (h.f.setOther (p := ⟨G1, s, none⟩) (by simp [Value.ownBlock]; exact fun e => n3 e.symm) _).setB (u := s) (v := true) (by rw [fullT_len, hl]; exact hs)
    · obtain ⟨p0, p1, p2⟩ := h.p
      refine ⟨?_, ?_, ?_⟩ <;> rw [World.cell?_setCell_other _ _ _ _ (fun e => n2 (by cases e; rfl)), World.cell?_setCell_other _ _ _ _ (fun e => n1 (by cases e; rfl))] <;> assumption
  · refine ⟨?_, ?_, ?_, (h.e.setCell (p := ⟨G2, s, none⟩) h2 _).setCell (p := ⟨G1, s, none⟩) h1 _⟩
    · rw [hc]
      exact (h.c.setOther (p := ⟨G2, s, none⟩) (by simp [Value.ownBlock]; exact n3) _).setN (u := s) (v := x) (by rw [cellsT_len, hl]; exact hs) hx
    · rw [hf]
      exact (h.f.setB (u := s) (v := true) (by rw [fullT_len, hl]; exact hs)).setOther (p := ⟨G1, s, none⟩) (by simp [Value.ownBlock]; exact fun e => n3 e.symm) _
    · obtain ⟨p0, p1, p2⟩ := h.p
      refine ⟨?_, ?_, ?_⟩ <;> rw [World.cell?_setCell_other _ _ _ _ (fun e => n1 (by cases e; rfl)), World.cell?_setCell_other _ _ _ _ (fun e => n2 (by cases e; rfl))] <;> assumption
/-- a list of one's own, by its block alone -/
theorem Ow.atRow {α : Type} {K : Kd α} {B B' p p' m : Nat} {w W : World} {xs : List α} {C : Array Value} (h : Ow K B (w.alloc (.cells C K.e)) (.slice (some ⟨p, 0, none⟩) m m) xs) (hp : p = w.heap.size) (hW : W.heap[p']? = some (.cells C K.e)) (hB : B' ≤ p') : Ow K B' W (.slice (some ⟨p', 0, none⟩) m m) xs := by
  obtain ⟨⟨h1, h2⟩, hb⟩ := h
  refine ⟨⟨h1, ?_⟩, hb⟩
  rcases h2 with ⟨h2, _⟩ | ⟨g, cap, cur, hv, hg, hh, hr⟩
  · cases h2
  · cases hv
    rw [hp, heap_alloc_new] at hh
    cases hh
    exact .inr ⟨p', _, C, rfl, hB, hW, hr⟩
set_option maxHeartbeats 3200000 in
set_option maxRecDepth 100000 in
theorem rmake_any (b : Int) (l : List Nat) (L : Option Addr) (lc : Nat) (w : World) (hL : Rd kU32 w (.slice L l.length lc) (zs l)) (hl : l.length ≤ 5000) (hb : in64 b) :
    Calls Try.prog 13 #[.int .i64 b, .slice L l.length lc] w (TabSaid (makeP b l) w) := by
  have HL := Lib.hid hL
  have HB := Lib.hid hb
  have hF : makeP b l = if b < 1 ∨ 10 < b then (noTb, 1) else if 2 ^ b.toNat * 3 / 4 < (risingR l).length then (noTb, 2) else (tbOf b.toNat (risingR l), 0) := rfl
  clear hL hb
  by_cases h : b < 1 ∨ 10 < b
  · rw [if_pos h] at hF
    have HF := Lib.hid hF
    clear hF
    go_enter Try.func13, Try.ntmps13
    by_cases h1 : b < 1
    · have hd1 : decide (b < 1) = true := decide_eq_true h1
      go_wp2_with fail
      refine bodyPost_ret (v := .tuple #[.agg #[.int .i64 0, .slice none 0 0, .slice none 0 0], .int .i64 1]) (by simp [results, Try.results13, go_sem]) rfl (by rw [HF.out]; exact ⟨none, none, 0, 0, rfl, Ow.nil _ _, Ow.nil _ _, (Ext.refl _).alloc _⟩)
    · have hd1 : decide (b < 1) = false := decide_eq_false h1
      have hd2 : decide (10 < b) = true := decide_eq_true (by omega)
      go_wp2_with fail
      refine bodyPost_ret (v := .tuple #[.agg #[.int .i64 0, .slice none 0 0, .slice none 0 0], .int .i64 1]) (by simp [results, Try.results13, go_sem]) rfl (by rw [HF.out]; exact ⟨none, none, 0, 0, rfl, Ow.nil _ _, Ow.nil _ _, (Ext.refl _).alloc _⟩)
  obtain ⟨B, rfl⟩ : ∃ B : Nat, b = B := ⟨b.toNat, by omega⟩
  rw [if_neg h, Int.toNat_natCast] at hF
  have hd1 : decide ((B : Int) < 1) = false := decide_eq_false (by omega)
  have hd2 : decide ((10 : Int) < (B : Int)) = false := decide_eq_false (by omega)
  have hd3 : decide (10 < B) = false := decide_eq_false (by omega)
  have hB1 : (1 : Int) ≤ B := by omega
  have hB2 : (B : Int) ≤ 10 := by omega
  have hB10 : B ≤ 10 := by omega
  have hhome : ∀ x, homeP B x = ((homeN B x : Nat) : Int) := fun x => by unfold homeP; rw [if_neg h, Int.toNat_natCast]
  have hhl : ∀ x, homeN B x < 2 ^ B := fun x => homeN_lt B x hB10
  have hns : 2 ^ B ≤ 1024 := Nat.pow_le_pow_right (n := 2) (by decide) hB10
  have hn0 : 0 < 2 ^ B := Nat.two_pow_pos B
  have hrl := risingR_len l
  have hrr := (risingR_good _ l rfl).1
  have hinv := fun (hr : (risingR l).length ≤ 2 ^ B * 3 / 4) (k : Nat) => fill_inv B _ ((risingR l).take k) rfl ((hrr.imp (fun {a b} h => by omega) : (risingR l).Nodup).sublist (List.take_sublist _ _)) (by rw [List.length_take]; omega)
  obtain ⟨n, hn⟩ : ∃ n, 2 ^ B = n := ⟨_, rfl⟩
  have hnI : (2 : Int) ^ B = (n : Int) := by rw [← hn]; simp
  rw [hn] at hF hhl hns hn0 hinv
  obtain ⟨n3, hn3⟩ : ∃ x, n * 3 = x := ⟨_, rfl⟩
  obtain ⟨q, hq⟩ : ∃ x, n3 / 4 = x := ⟨_, rfl⟩
  rw [hn3, hq] at hF hinv
  have hnI2 : (n : Int) * 3 = (n3 : Int) := by omega
  have hnI3 : (n3 : Int) / 4 = (q : Int) := by omega
  have hnI4 : (n3 : Int).tdiv 4 = (q : Int) := by rw [Int.tdiv_eq_ediv_of_nonneg (by omega)]; exact hnI3
  have hw1 : IntKind.i64.wrap (n : Int) = (n : Int) := IntWalk.i64_in _ (by omega)
  have hw2 : IntKind.i64.wrap (n3 : Int) = (n3 : Int) := IntWalk.i64_in _ (by omega)
  have hw3 : IntKind.i64.wrap (q : Int) = (q : Int) := IntWalk.i64_in _ (by omega)
  have hw4 : IntKind.u64.wrap (B : Int) = (B : Int) := by rw [IntKind.wrap_u64]; omega
  have HF := Lib.hid hF
  have HH := Lib.hid (And.intro hhome (And.intro hhl (And.intro hns hn0)))
  have HINV := Lib.hid hinv
  have HN := Lib.hid hn
  have hqn : q < n := by omega
  clear hF hhome hhl hinv hn hrr h hn3 hq hns hn0
  go_enter Try.func13, Try.ntmps13
  go_wp2_with fail
  refine (rrising_any l L lc _ (HL.out.ext ((Ext.refl _).alloc _)) hl).mono ?_
  obtain ⟨rl, hrlx⟩ : ∃ x, risingR l = x := ⟨_, rfl⟩
  rw [hrlx] at HF HINV hrl ⊢
  clear hrlx
  rintro ed w3 ⟨A3, c3, rfl, hO3, hE3⟩
  have HO3 := Lib.hid hO3.rd
  have t0 : w3.cell? ⟨w.heap.size, 0, none⟩ = some (.int .i64 0) := Ext.cell hE3 (by go_simp)
  have t1 : w3.cell? ⟨w.heap.size, 1, none⟩ = some (.slice none 0 0) := Ext.cell hE3 (by go_simp)
  have t2 : w3.cell? ⟨w.heap.size, 2, none⟩ = some (.slice none 0 0) := Ext.cell hE3 (by go_simp)
  have tf : ∀ o, w3.frozen? ⟨w.heap.size, o, none⟩ = false := fun o => (Below.frozen hE3 (p := ⟨w.heap.size, o, none⟩) (by first | omega | (simp; omega) | simp)).trans (by go_simp)
  have HX3 := Lib.hid (((Ext.refl w).alloc (.cells #[.int .i64 0, .slice none 0 0, .slice none 0 0] 25)).trans hE3)
  have lw3 : w.heap.size < w3.heap.size := World.block_lt_of_cell? _ _ t0
  clear hE3 hO3
  by_cases hfull : q < rl.length
  · have hd5 : decide ((q : Int) < (rl.length : Int)) = true := decide_eq_true (by omega)
    have HFF : Hid (makeP B l = (noTb, 2)) := Lib.hid (by rw [HF.out, if_pos hfull])
    go_wp2_with fail
    obtain ⟨W, hW⟩ : ∃ W, ((w3.setCell ⟨w.heap.size, 0, none⟩ (.int .i64 0)).setCell ⟨w.heap.size, 1, none⟩ (.slice none 0 0)).setCell ⟨w.heap.size, 2, none⟩ (.slice none 0 0) = W := ⟨_, rfl⟩
    have s0 : W.cell? ⟨w.heap.size, 0, none⟩ = some (.int .i64 0) := by subst hW; go_simp
    have s1 : W.cell? ⟨w.heap.size, 1, none⟩ = some (.slice none 0 0) := by subst hW; go_simp
    have s2 : W.cell? ⟨w.heap.size, 2, none⟩ = some (.slice none 0 0) := by subst hW; go_simp
    have HXW : Hid (Ext w W) := Lib.hid (by rw [← hW]; exact ((HX3.out.setCell (Nat.le_refl _) _).setCell (Nat.le_refl _) _).setCell (Nat.le_refl _) _)
    rw [hW]
    clear hW
    refine bodyPost_ret (v := .tuple #[.agg #[.int .i64 0, .slice none 0 0, .slice none 0 0], .int .i64 2]) (by simp [results, Try.results13, go_sem, s0, s1, s2]) rfl (by rw [HFF.out]; exact ⟨none, none, 0, 0, rfl, Ow.nil _ _, Ow.nil _ _, HXW.out⟩)
  · have hd5 : decide ((q : Int) < (rl.length : Int)) = false := decide_eq_false (by omega)
    have hd6 : decide (q < rl.length) = false := decide_eq_false (by omega)
    have hfl : rl.length ≤ q := by omega
    have HFF : Hid (makeP B l = (tbOf B rl, 0)) := Lib.hid (by rw [HF.out, if_neg hfull])
    have HIN := Lib.hid (HINV.out hfl)
    have hns := HH.out.2.2.1
    obtain ⟨C1, hmk1, hmo1⟩ := kU32.make 0 rfl (show (0 : Int) ≤ 0 ∧ (0 : Int) ≤ 4294967295 by omega) n (by omega)
    obtain ⟨C2, hmk2, hmo2⟩ := kBool.make false rfl trivial n (by omega)
    have HM1 := Lib.hid hmo1
    have HM2 := Lib.hid hmo2
    have hma : ∀ w : World, (Instr.makeSlice 22 (.int .i64 n) (.int .i64 n)).run Try.prog w = .ok (.slice (some ⟨w.heap.size, 0, none⟩) n n) (w.alloc (.cells C1 34)) := hmk1
    have hmb : ∀ w : World, (Instr.makeSlice 23 (.int .i64 n) (.int .i64 n)).run Try.prog w = .ok (.slice (some ⟨w.heap.size, 0, none⟩) n n) (w.alloc (.cells C2 4)) := hmk2
    clear hmk1 hmk2 hmo1 hmo2 hfull HF HINV
    go_wp2_with fail
    go_cut [8] from 30 to 35 (fun p wx => ∃ (P G1 G2 : Nat), p = .pointer (some ⟨P, 0, none⟩) ∧ (w3.heap.size ≤ P ∧ w3.heap.size ≤ G1 ∧ w3.heap.size ≤ G2 ∧ P ≠ G1 ∧ P ≠ G2 ∧ G1 ≠ G2) ∧ (wx.cell? ⟨P, 0, none⟩ = some (.int .i64 B) ∧ wx.cell? ⟨P, 1, none⟩ = some (.slice (some ⟨G1, 0, none⟩) n n) ∧ wx.cell? ⟨P, 2, none⟩ = some (.slice (some ⟨G2, 0, none⟩) n n)) ∧ Ow kU32 w3.heap.size wx (.slice (some ⟨G1, 0, none⟩) n n) (List.replicate n (0 : Int)) ∧ Ow kBool w3.heap.size wx (.slice (some ⟨G2, 0, none⟩) n n) (List.replicate n false) ∧ Ext w3 wx)
    case first =>
      go_region_law (fail)
      all_goals go_wp2_with fail
      all_goals go_meet
      all_goals first
        | (refine ⟨w3.heap.size, w3.heap.size + 1, w3.heap.size + 1 + 1, rfl, ⟨by omega, by omega, by omega, by omega, by omega, by omega⟩, ⟨(by first | (go_simp; done) | fail), (by first | (go_simp; done) | fail), (by first | (go_simp; done) | fail)⟩, ?_, ?_, ?_⟩)
        | (refine ⟨w3.heap.size, w3.heap.size + 1 + 1, w3.heap.size + 1, rfl, ⟨by omega, by omega, by omega, by omega, by omega, by omega⟩, ⟨(by first | (go_simp; done) | fail), (by first | (go_simp; done) | fail), (by first | (go_simp; done) | fail)⟩, ?_, ?_, ?_⟩)
        | (refine ⟨w3.heap.size + 1, w3.heap.size, w3.heap.size + 1 + 1, rfl, ⟨by omega, by omega, by omega, by omega, by omega, by omega⟩, ⟨(by first | (go_simp; done) | fail), (by first | (go_simp; done) | fail), (by first | (go_simp; done) | fail)⟩, ?_, ?_, ?_⟩)
        | (refine ⟨w3.heap.size + 1, w3.heap.size + 1 + 1, w3.heap.size, rfl, ⟨by omega, by omega, by omega, by omega, by omega, by omega⟩, ⟨(by first | (go_simp; done) | fail), (by first | (go_simp; done) | fail), (by first | (go_simp; done) | fail)⟩, ?_, ?_, ?_⟩)
        | (refine ⟨w3.heap.size + 1 + 1, w3.heap.size, w3.heap.size + 1, rfl, ⟨by omega, by omega, by omega, by omega, by omega, by omega⟩, ⟨(by first | (go_simp; done) | fail), (by first | (go_simp; done) | fail), (by first | (go_simp; done) | fail)⟩, ?_, ?_, ?_⟩)
        | (refine ⟨w3.heap.size + 1 + 1, w3.heap.size + 1, w3.heap.size, rfl, ⟨by omega, by omega, by omega, by omega, by omega, by omega⟩, ⟨(by first | (go_simp; done) | fail), (by first | (go_simp; done) | fail), (by first | (go_simp; done) | fail)⟩, ?_, ?_, ?_⟩)
        | fail
      all_goals first
        | (refine Ow.atRow (HM1.out w3 0 w3.heap.size rfl (Nat.zero_le _)) rfl ?_ (by omega); rw [heap_drew])
        | (refine Ow.atRow (HM2.out w3 0 w3.heap.size rfl (Nat.zero_le _)) rfl ?_ (by omega); rw [heap_drew])
        | (refine Ext.drew ?_; repeat (first | (with_reducible exact Ext.refl _) | refine Ext.alloc ?_ _))
        | fail
      all_goals repeat (first | exact heap_alloc_at (by first | (simp; done) | (simp; omega) | fail) | refine (heap_alloc_old _ _ (by first | (simp; done) | (simp; omega) | fail)).trans ?_)
    case rest =>
    obtain ⟨P, G1, G2, rfl, ⟨g1, g2, g3, g4, g5, g6⟩, ⟨p0, p1, p2⟩, hO1, hO2, hX4⟩ := hcut
    generalize wc = w4 at *
    have HO1 : Hid (Ow kU32 w3.heap.size w4 (.slice (some ⟨G1, 0, none⟩) n n) (zs (cellsT (fillT B (rl.take 0))))) := Lib.hid (by
      rw [List.take_zero]
      show Ow kU32 _ _ _ (zs (cellsT (List.replicate (2 ^ B) none)))
      rw [HN.out, (fill_zero n).1]; exact hO1)
    have HO2 : Hid (Ow kBool w3.heap.size w4 (.slice (some ⟨G2, 0, none⟩) n n) (fullT (fillT B (rl.take 0)))) := Lib.hid (by
      rw [List.take_zero]
      show Ow kBool _ _ _ (fullT (List.replicate (2 ^ B) none))
      rw [HN.out, (fill_zero n).2]; exact hO2)
    have HX4 := Lib.hid hX4
    have HP4 := Lib.hid (And.intro p0 (And.intro p1 p2))
    have HT := Lib.hid (And.intro t0 (And.intro t1 (And.intro t2 tf)))
    have hn9 : (n : Int) ≤ 1024 := by omega
    have hn1 : (0 : Int) < n := by have := HH.out.2.2.2; omega
    have hrl9 : (rl.length : Int) ≤ 1024 := by omega
    clear hO1 hO2 hX4 p0 p1 p2 t0 t1 t2 tf hma hmb HM1 HM2 hd1 hd2 hd3 hd5 hd6 hw2 hw3 hw4 hnI hnI2 hnI3 hnI4
    go_wp2_with fail
    go_loopw [9] (fun i wr => ∃ k : Nat, k ≤ rl.length ∧ i = .int .i64 k ∧ Ow kU32 w3.heap.size wr (.slice (some ⟨G1, 0, none⟩) n n) (zs (cellsT (fillT B (rl.take k)))) ∧ Ow kBool w3.heap.size wr (.slice (some ⟨G2, 0, none⟩) n n) (fullT (fillT B (rl.take k))) ∧ (wr.cell? ⟨P, 0, none⟩ = some (.int .i64 B) ∧ wr.cell? ⟨P, 1, none⟩ = some (.slice (some ⟨G1, 0, none⟩) n n) ∧ wr.cell? ⟨P, 2, none⟩ = some (.slice (some ⟨G2, 0, none⟩) n n)) ∧ Ext w3 wr) (fun i _ => rl.length - (intOf i).toNat)
    case atStart => exact ⟨0, Nat.zero_le _, rfl, HO1.out, HO2.out, HP4.out, HX4.out⟩
    case round =>
      obtain ⟨k, hk, rfl, hO1', hO2', hP, hX⟩ := hrel
      have HA := Lib.hid hO1'
      have HBL := Lib.hid hO2'
      have HPC := Lib.hid hP
      have HX := Lib.hid hX
      have hk0 : (0 : Int) ≤ k := by omega
      clear hO1' hO2' hP hX
      by_cases hlt : k < rl.length
      · have hlt' : (k : Int) < rl.length := by omega
        obtain ⟨bx, ox, rfl, z0, hxl⟩ := u32_at (HO3.out.ext HX.out) k hlt
        obtain ⟨_, _, eL, x9, _⟩ := u32_at HO3.out k hlt
        cases eL
        have lbx : bx < w3.heap.size := World.block_lt_of_cell? _ _ x9
        have htk := takeN_snoc hlt
        have hinv := HIN.out k
        obtain ⟨x, hx⟩ : ∃ x, rl.getD k 0 = x := ⟨_, rfl⟩
        rw [hx] at z0 hxl htk
        have hsn := fillT_snoc B (rl.take k) x
        rw [← htk] at hsn
        obtain ⟨tab, htab⟩ : ∃ t, fillT B (rl.take k) = t := ⟨_, rfl⟩
        rw [htab] at hsn hinv HA HBL
        have htl : tab.length = n := by rw [hinv.len, HN.out]
        obtain ⟨d1, d2, d3⟩ := probe_some isNo tab (homeN B x) (hinv.room (by rw [HN.out, List.length_take]; omega))
        have hhx := HH.out.2.1 x
        have hho := HH.out.1 x
        obtain ⟨h, hh⟩ : ∃ h, homeN B x = h := ⟨_, rfl⟩
        rw [hh] at d1 d2 d3 hhx hho
        obtain ⟨d0, hd0⟩ : ∃ d, probeD isNo tab h = d := ⟨_, rfl⟩
        rw [hd0, htl] at d1 d2
        rw [hd0, htl] at d3
        have hspot : spotT B tab x = (h + d0) % n := by unfold spotT; rw [hh, hd0, htl]
        unfold putT at hsn
        rw [hspot] at hsn
        have HSN := Lib.hid hsn
        have HD := Lib.hid (And.intro d1 (And.intro d2 d3))
        have HTL := Lib.hid htl
        have HXL := Lib.hid hxl
        have HHO := Lib.hid hho
        have HHX := Lib.hid hhx
        have HZ0 := Lib.hid z0
        have lbw : bx < wr.heap.size := World.block_lt_of_cell? _ _ z0
        clear htk hinv hx hsn htab htl d1 d2 d3 hh hd0 hspot hxl hho hhx x9
        go_wp2_with fail
        refine (rhome_any B x _ HXL.out HB.out).mono ?_
        rw [HHO.out]
        rintro ed w5 ⟨rfl, rfl⟩
        go_wp2_with fail
        go_loopw [10] (fun p wq => ∃ d : Nat, d ≤ d0 ∧ p = .int .i64 (((h + d) % n : Nat) : Int) ∧ wr = wq) (fun p _ => n - ((intOf p).toNat + (n - h)) % n)
        case atStart => exact ⟨0, Nat.zero_le _, by rw [Nat.add_zero, Nat.mod_eq_of_lt HHX.out], rfl⟩
        case round =>
          obtain ⟨d, hd, rfl, rfl⟩ := hrel
          have hdn : d < n := Nat.lt_of_le_of_lt hd HD.out.1
          have hpb := probe_back HHX.out hdn
          have hsl : (h + d) % n < n := Nat.mod_lt _ (by omega)
          obtain ⟨c1, c2, _, _⟩ := HBL.out.atB (u := (h + d) % n) (by rw [fullT_len, HTL.out]; exact hsl)
          rw [fullT_at] at c1
          have hnx : ((h + d) % n + 1) % n = (h + (d + 1)) % n := by rw [Nat.mod_add_mod]; rfl
          obtain ⟨p1, p2⟩ := HPC.out.2
          have hstop := HD.out.2.2 d
          have hend := HD.out.2.1
          obtain ⟨s, hs⟩ : ∃ s, (h + d) % n = s := ⟨_, rfl⟩
          rw [hs] at hpb hsl c1 hnx hstop ⊢
          have lbp : P < wr.heap.size := World.block_lt_of_cell? _ _ p1
          have hs0 : (0 : Int) ≤ s := by omega
          have hs1 : (s : Int) < n := by omega
          by_cases hlt2 : d < d0
          · have hfl2 : (tab.getD s none).isSome = true := by
              have := hstop hlt2
              unfold isNo at this
              cases ho : tab.getD s none with
              | none => rw [ho] at this; cases this
              | some _ => rfl
            rw [hfl2] at c1
            obtain ⟨s2, hs2⟩ : ∃ s2, (s + 1) % n = s2 := ⟨_, rfl⟩
            rw [hs2] at hnx
            have hsI : ((s : Int) + 1) % (n : Int) = (s2 : Int) := by rw [← hs2]; simp
            have hsT : ((s : Int) + 1).tmod (n : Int) = (s2 : Int) := by rw [Int.tmod_eq_emod_of_nonneg (by omega)]; exact hsI
            have hw9 : IntKind.i64.wrap ((s : Int) + 1) = (s : Int) + 1 := IntWalk.i64_in _ (by omega)
            have hw8 : IntKind.i64.wrap (s2 : Int) = (s2 : Int) := IntWalk.i64_in _ (by have := Nat.mod_lt (s + 1) (show 0 < n by omega); omega)
            have hpb2 : (s2 + (n - h)) % n = d + 1 := by
              have hd1 : d + 1 < n := Nat.lt_of_le_of_lt hlt2 HD.out.1
              have := probe_back HHX.out hd1
              rw [← hnx] at this; exact this
            have HPB := Lib.hid (And.intro hpb (And.intro hpb2 hnx))
            clear hpb hpb2 hnx hstop hend hfl2 c2 hs hs2
            go_wp2_with fail
            go_roundw
            case rel => exact ⟨d + 1, hlt2, by rw [HPB.out.2.2], trivial⟩
            case measure =>
              show n - ((s2 : Int).toNat + (n - h)) % n < n - ((s : Int).toNat + (n - h)) % n
              rw [Int.toNat_natCast, Int.toNat_natCast, HPB.out.1, HPB.out.2.1]
              omega
          · obtain rfl : d = d0 := by omega
            rw [hs] at hend
            have hnone : (tab.getD s none).isSome = false := by
              unfold isNo at hend
              cases ho : tab.getD s none with
              | none => rfl
              | some _ => rw [ho] at hend; cases hend
            rw [hnone] at c1
            have HSPOT := Lib.hid hs
            obtain ⟨a1, a2, _, _, ga⟩ := HA.out.atN (u := s) (by rw [cellsT_len, HTL.out]; exact hsl)
            have HPUT := Lib.hid (TabAt.puts (x := x) (s := s) ⟨HA.out, HBL.out, HPC.out, HX.out⟩ HTL.out hsl HXL.out g2 g3 g4 g5 g6)
            rw [HSPOT.out] at HSN
            have a2' := a2 s
            have c2' := c2 s
            have z1 := HZ0.out
            clear hpb hnx hstop hend hnone hs
            go_wp2_with fail
            go_region_law (fail)
            all_goals go_wp2_with fail
            all_goals go_roundw
            all_goals first
              | exact ⟨k + 1, by omega, by go_num, by rw [HSN.out]; exact HPUT.out.1.c, by rw [HSN.out]; exact HPUT.out.1.f, HPUT.out.1.p, HPUT.out.1.e⟩
              | exact ⟨k + 1, by omega, by go_num, by rw [HSN.out]; exact HPUT.out.2.c, by rw [HSN.out]; exact HPUT.out.2.f, HPUT.out.2.p, HPUT.out.2.e⟩
              | exact ⟨k + 1, by omega, by go_num, by rw [HSN.out]; exact HPUT.out.1.drew.c, by rw [HSN.out]; exact HPUT.out.1.drew.f, HPUT.out.1.drew.p, HPUT.out.1.drew.e⟩
              | exact ⟨k + 1, by omega, by go_num, by rw [HSN.out]; exact HPUT.out.2.drew.c, by rw [HSN.out]; exact HPUT.out.2.drew.f, HPUT.out.2.drew.p, HPUT.out.2.drew.e⟩
              | (simp [intOf]; omega)
              | fail
      · obtain rfl : k = rl.length := by omega
        rw [List.take_length] at HA HBL
        obtain ⟨p0, p1, p2⟩ := HPC.out
        obtain ⟨t0, t1, t2, tf⟩ := HT.out
        replace t0 := HX.out.cell t0
        replace t1 := HX.out.cell t1
        replace t2 := HX.out.cell t2
        have tf' : ∀ o, wr.frozen? ⟨w.heap.size, o, none⟩ = false := fun o => (Below.frozen HX.out (p := ⟨w.heap.size, o, none⟩) lw3).trans (tf o)
        have lbt : w.heap.size < wr.heap.size := World.block_lt_of_cell? _ _ t0
        have lbp : P < wr.heap.size := World.block_lt_of_cell? _ _ p0
        have hPw : w.heap.size ≠ P := by omega
        have hcl : (cellsT (fillT B rl)).length = n := by
          have h9 := HIN.out rl.length
          rw [List.take_length] at h9
          rw [cellsT_len, h9.len, HN.out]
        have hfl3 : (fullT (fillT B rl)).length = n := by rw [fullT_len, ← cellsT_len]; exact hcl
        have HCL := Lib.hid (And.intro hcl hfl3)
        clear tf hcl hfl3
        go_wp2_with fail
        obtain ⟨W, hW⟩ : ∃ W, ((wr.setCell ⟨w.heap.size, 0, none⟩ (.int .i64 B)).setCell ⟨w.heap.size, 1, none⟩ (.slice (some ⟨G1, 0, none⟩) n n)).setCell ⟨w.heap.size, 2, none⟩ (.slice (some ⟨G2, 0, none⟩) n n) = W := ⟨_, rfl⟩
        have s0 : W.cell? ⟨w.heap.size, 0, none⟩ = some (.int .i64 B) := by subst hW; go_simp
        have s1 : W.cell? ⟨w.heap.size, 1, none⟩ = some (.slice (some ⟨G1, 0, none⟩) n n) := by subst hW; go_simp
        have s2 : W.cell? ⟨w.heap.size, 2, none⟩ = some (.slice (some ⟨G2, 0, none⟩) n n) := by subst hW; go_simp
        have HXW : Hid (Ext w W) := Lib.hid (by rw [← hW]; exact (((HX3.out.trans HX.out).setCell (p := ⟨w.heap.size, 0, none⟩) (Nat.le_refl _) _).setCell (p := ⟨w.heap.size, 1, none⟩) (Nat.le_refl _) _).setCell (p := ⟨w.heap.size, 2, none⟩) (Nat.le_refl _) _)
        have HAW : Hid (Ow kU32 w.heap.size W (.slice (some ⟨G1, 0, none⟩) n n) (zs (cellsT (fillT B rl)))) := Lib.hid (by rw [← hW]; exact (((HA.out.setBelow (p := ⟨w.heap.size, 0, none⟩) lw3 _).setBelow (p := ⟨w.heap.size, 1, none⟩) lw3 _).setBelow (p := ⟨w.heap.size, 2, none⟩) lw3 _).mono (by omega))
        have HFW : Hid (Ow kBool w.heap.size W (.slice (some ⟨G2, 0, none⟩) n n) (fullT (fillT B rl))) := Lib.hid (by rw [← hW]; exact (((HBL.out.setBelow (p := ⟨w.heap.size, 0, none⟩) lw3 _).setBelow (p := ⟨w.heap.size, 1, none⟩) lw3 _).setBelow (p := ⟨w.heap.size, 2, none⟩) lw3 _).mono (by omega))
        rw [hW]
        clear hW
        refine bodyPost_ret (v := .tuple #[.agg #[.int .i64 B, .slice (some ⟨G1, 0, none⟩) n n, .slice (some ⟨G2, 0, none⟩) n n], .int .i64 0]) (by simp [results, Try.results13, go_sem, s0, s1, s2]) rfl (by
          rw [HFF.out]
          refine ⟨some ⟨G1, 0, none⟩, some ⟨G2, 0, none⟩, n, n, ?_, ?_, ?_, HXW.out⟩
          · show _ = Ending.returned (.tuple #[.agg #[.int .i64 B, .slice (some ⟨G1, 0, none⟩) (cellsT (fillT B rl)).length n, .slice (some ⟨G2, 0, none⟩) (fullT (fillT B rl)).length n], .int .i64 0])
            rw [HCL.out.1, HCL.out.2]
          · show Ow kU32 w.heap.size W (.slice (some ⟨G1, 0, none⟩) (cellsT (fillT B rl)).length n) (zs (cellsT (fillT B rl)))
            rw [HCL.out.1]; exact HAW.out
          · show Ow kBool w.heap.size W (.slice (some ⟨G2, 0, none⟩) (fullT (fillT B rl)).length n) (fullT (fillT B rl))
            rw [HCL.out.2]; exact HFW.out)
end Go.Proofs.Ytofiokegdgdacaa

/- The document's Has, Without (ref11). -/
namespace Go.Proofs.Ytofiokegdgdacaa
open Go.BigFrame
open Go.RowKit Go.Proofs.Ytofiokegdgdacaa.Plain

set_option maxHeartbeats 1600000 in
set_option maxRecDepth 100000 in
theorem rhas11_any (l : List Nat) (L : Option Addr) (lc x : Nat) (w : World) (hL : Rd kU32 w (.slice L l.length lc) (zs l)) :
    Calls Try.prog 25 #[.slice L l.length lc, .int .u32 x] w fun ed w' => ed = .returned (.bool (decide (x ∈ l))) ∧ w = w' := by
  have HL := Lib.hid hL
  have hll : (l.length : Int) ≤ 9223372036854775807 := by have := hL.len; rw [zs_len] at this; omega
  clear hL
  go_enter Try.func25, Try.ntmps25
  go_wp2_with fail
  go_loopw [5] (fun i wr => ∃ k : Nat, k ≤ l.length ∧ i = .int .i64 k ∧ x ∉ l.take k ∧ w = wr) (fun i _ => l.length - (intOf i).toNat)
  case atStart => exact ⟨0, Nat.zero_le _, rfl, by simp, rfl⟩
  case round =>
    obtain ⟨k, hk, rfl, hno, rfl⟩ := hrel
    have hk0 : (0 : Int) ≤ k := by omega
    by_cases hlt : k < l.length
    · have hlt' : (k : Int) < l.length := by omega
      obtain ⟨bx, ox, rfl, z0, hxl⟩ := u32_at HL.out k hlt
      have htk := takeN_snoc hlt
      have hmem : l.getD k 0 ∈ l := by rw [List.getD_eq_getElem?_getD, List.getElem?_eq_getElem hlt]; exact List.getElem_mem hlt
      obtain ⟨y, hy⟩ : ∃ y, l.getD k 0 = y := ⟨_, rfl⟩
      rw [hy] at z0 htk hmem
      by_cases hxy : y = x
      · subst hxy
        have HM := Lib.hid hmem
        clear hno htk hmem hy hxl
        go_wp2_with fail
        go_ret
        exact ⟨ret_bool (by rw [decide_eq_true HM.out]), rfl⟩
      · have hne : (y == x) = false := by simp [hxy]
        have hni : ((y : Int) == (x : Int)) = false := by simp; omega
        have HN : Hid (x ∉ l.take (k + 1)) := Lib.hid (by
          rw [htk, List.mem_append, List.mem_singleton]
          rintro (h | h)
          · exact hno h
          · exact hxy h.symm)
        have hk9 : IntKind.i64.wrap ((k : Int) + 1) = (k : Int) + 1 := IntWalk.i64_in _ (by omega)
        clear hno htk hmem hy hxl
        go_wp2_with fail
        go_roundw
        case rel => exact ⟨k + 1, by omega, by go_num, HN.out, trivial⟩
        case measure => simp [intOf]; omega
    · obtain rfl : k = l.length := by omega
      rw [List.take_length] at hno
      have HN := Lib.hid hno
      clear hno
      go_wp2_with fail
      go_ret
      exact ⟨ret_bool (by rw [decide_eq_false HN.out]), rfl⟩
/-- those that aren't among others -/
def Plain.withoutL (a b : List Nat) : List Nat := a.filter (fun x => !decide (x ∈ b))
theorem Plain.withoutL_snoc (a b : List Nat) (x : Nat) : withoutL (a ++ [x]) b = withoutL a b ++ (if x ∈ b then [] else [x]) := by
  unfold withoutL
  rw [List.filter_append]
  congr 1
  by_cases h : x ∈ b
  · rw [if_pos h, List.filter_cons_of_neg (by simp [h])]; rfl
  · rw [if_neg h, List.filter_cons_of_pos (by simp [h])]; rfl
set_option maxHeartbeats 1600000 in
set_option maxRecDepth 100000 in
theorem rwithout_any (l r : List Nat) (L R : Option Addr) (lc rc : Nat) (w : World) (hL : Rd kU32 w (.slice L l.length lc) (zs l)) (hR : Rd kU32 w (.slice R r.length rc) (zs r)) (hl : l.length ≤ 900) :
    Calls Try.prog 24 #[.slice L l.length lc, .slice R r.length rc] w fun ed w' => ∃ (A : Option Addr) (c : Nat), ed = .returned (.slice A (withoutL l r).length c) ∧ Ow kU32 w.heap.size w' (.slice A (withoutL l r).length c) (zs (withoutL l r)) ∧ Ext w w' := by
  have HL := Lib.hid hL
  have HR := Lib.hid hR
  have hl' : (l.length : Int) ≤ 900 := by omega
  clear hL hR
  go_enter Try.func24, Try.ntmps24
  go_wp2_with fail
  go_loopw [5, 6] (fun v i wr => ∃ k : Nat, k ≤ l.length ∧ i = .int .i64 k ∧ Ow kU32 w.heap.size wr v (zs (withoutL (l.take k) r)) ∧ Ext w wr) (fun _ i _ => l.length - (intOf i).toNat)
  case atStart => exact ⟨0, Nat.zero_le _, rfl, Ow.nil _ _, Ext.refl _⟩
  case round =>
    obtain ⟨k, hk, rfl, hO, hX⟩ := hrel
    have HO := Lib.hid hO
    have HX := Lib.hid hX
    have hk0 : (0 : Int) ≤ k := by omega
    clear hO hX
    by_cases hlt : k < l.length
    · have hlt' : (k : Int) < l.length := by omega
      obtain ⟨bx, ox, rfl, z0, hxl⟩ := u32_at (HL.out.ext HX.out) k hlt
      have lbx : bx < wr.heap.size := World.block_lt_of_cell? _ _ z0
      have htk := takeN_snoc hlt
      obtain ⟨x, hx⟩ : ∃ y, l.getD k 0 = y := ⟨_, rfl⟩
      rw [hx] at z0 htk hxl
      have hws := withoutL_snoc (l.take k) r x
      rw [← htk] at hws
      have HXL := Lib.hid hxl
      clear htk hx hxl
      by_cases hxr : x ∈ r
      · rw [if_pos hxr, List.append_nil] at hws
        have HWS := Lib.hid hws
        have HXR := Lib.hid hxr
        clear hws hxr
        go_wp2_with fail
        refine (rhas11_any r R rc x _ (HR.out.ext HX.out)).mono ?_
        rintro ed w9 ⟨rfl, rfl⟩
        rw [decide_eq_true HXR.out]
        go_wp2_with fail
        go_roundw
        case rel => exact ⟨k + 1, by omega, by go_num, by rw [HWS.out]; exact HO.out, HX.out⟩
        case measure => simp [intOf]; omega
      · rw [if_neg hxr] at hws
        have HWS := Lib.hid hws
        have HXR := Lib.hid hxr
        have hwl : (withoutL (l.take k) r).length ≤ k := Nat.le_trans (List.length_filter_le _ _) (by rw [List.length_take]; omega)
        have HLL : Hid ((zs (withoutL (l.take k) r)).length + [(x : Int)].length ≤ 1048576) := Lib.hid (by rw [zs_len, List.length_singleton]; omega)
        have hzx := HX.out.size
        clear hws hxr hwl
        go_wp2_with fail
        refine (rhas11_any r R rc x _ (HR.out.ext HX.out)).mono ?_
        rintro ed w9 ⟨rfl, rfl⟩
        rw [decide_eq_false HXR.out]
        go_wp2_with (at_builtin; refine kU32.wpList_app (by rfl) (.tmp 20) (.tmp 25) (by rfl) (by rfl) w.heap.size _ (zs (withoutL (l.take k) r)) (by rfl) (HO.out.ext ((Ext.refl _).alloc _)) _ [(x : Int)] (by rfl) (u32_lit _ x HXL.out) HLL.out (by simp; omega) ?_; intro v' w8 hown8 hgrow8 hat8)
        have H8 := Lib.hid (And.intro hown8 (And.intro hgrow8 hat8))
        clear hown8 hgrow8 hat8
        go_wp2_with fail
        go_roundw
        case rel =>
          obtain ⟨hown8, hgrow8, hat8⟩ := H8.out
          exact ⟨k + 1, by omega, by go_num, by rw [HWS.out, zs_app]; exact hown8, Ext.grown (HX.out.alloc _) hgrow8 (fun q hq => (HO.out.lt q hq).1)⟩
        case measure => simp [intOf]; omega
    · obtain rfl : k = l.length := by omega
      rw [List.take_length] at HO
      obtain ⟨Lz, lz, hv, hlz⟩ := HO.out.slice
      subst hv
      go_wp2_with fail
      refine bodyPost_ret (v := .slice Lz (zs (withoutL l r)).length lz) (by simp [results, Try.results24, go_sem]) rfl ⟨Lz, lz, by rw [zs_len], by have := HO.out; rw [zs_len] at this; exact this, HX.out⟩
end Go.Proofs.Ytofiokegdgdacaa

/- The document's Keys, Same (ref12). -/
namespace Go.Proofs.Ytofiokegdgdacaa
open Go.BigFrame
open Go.RowKit Go.Proofs.Ytofiokegdgdacaa.Plain

abbrev tabV (bits : Int) (C : Option Addr) (n c : Nat) (F : Option Addr) (m f : Nat) : Value := .agg #[.int .i64 bits, .slice C n c, .slice F m f]
theorem Plain.keysT_len (cells : List Nat) (full : List Bool) (n : Nat) : (keysT cells full n).length ≤ n := by
  unfold keysT
  rw [List.length_map]
  exact Nat.le_trans (List.length_filter_le _ _) (by rw [List.length_range]; exact Nat.le_refl _)
set_option maxHeartbeats 1600000 in
set_option maxRecDepth 100000 in
theorem rkeys12_any (t : Tb) (C F : Option Addr) (cc cf : Nat) (w : World) (hC : Rd kU32 w (.slice C t.cells.length cc) (zs t.cells)) (hF : Rd kBool w (.slice F t.full.length cf) t.full) (hc : t.cells.length ≤ 2000) (hf : t.full.length ≤ 2000) :
    Calls Try.prog 23 #[tabV t.bits C t.cells.length cc F t.full.length cf] w fun ed w' => ∃ (A : Option Addr) (c : Nat), ed = .returned (.slice A (keysP t).length c) ∧ Ow kU32 w.heap.size w' (.slice A (keysP t).length c) (zs (keysP t)) ∧ Ext w w' := by
  obtain ⟨bits, cells, full⟩ := t
  have HK : Hid (keysP ⟨bits, cells, full⟩ = risingR (keysT cells full (min full.length cells.length))) := Lib.hid rfl
  simp only at hC hF hc hf ⊢
  have HC := Lib.hid hC
  have HF := Lib.hid hF
  have hc9 : (cells.length : Int) ≤ 2000 := by omega
  have hf9 : (full.length : Int) ≤ 2000 := by omega
  obtain ⟨m, hm⟩ : ∃ m, min full.length cells.length = m := ⟨_, rfl⟩
  rw [hm] at HK
  have HM := Lib.hid hm
  have hm1 : m ≤ full.length := by omega
  have hm2 : m ≤ cells.length := by omega
  clear hC hF hc hf hm
  go_enter Try.func23, Try.ntmps23
  go_wp2_with fail
  obtain ⟨W0, hW0⟩ : ∃ W0, w.alloc (.cells #[.int .i64 bits, .slice C cells.length cc, .slice F full.length cf] 25) = W0 := ⟨_, rfl⟩
  have k1 : W0.cell? ⟨w.heap.size, 1, none⟩ = some (.slice C cells.length cc) := by subst hW0; go_simp
  have k2 : W0.cell? ⟨w.heap.size, 2, none⟩ = some (.slice F full.length cf) := by subst hW0; go_simp
  have HKS := Lib.hid (And.intro k1 k2)
  have HX0 : Hid (Ext w W0) := Lib.hid (by rw [← hW0]; exact (Ext.refl w).alloc _)
  try rw [hW0]
  clear hW0 k1 k2
  go_loopw [3, 4] (fun v i wr => ∃ k : Nat, k ≤ m ∧ i = .int .i64 k ∧ Ow kU32 W0.heap.size wr v (zs (keysT cells full k)) ∧ Ext W0 wr) (fun _ i _ => m - (intOf i).toNat)
  case atStart => exact ⟨0, Nat.zero_le _, rfl, Ow.nil _ _, Ext.refl _⟩
  case round =>
    obtain ⟨k, hk, rfl, hO, hX⟩ := hrel
    have HO := Lib.hid hO
    have HX := Lib.hid hX
    have hk0 : (0 : Int) ≤ k := by omega
    obtain ⟨k1, k2⟩ := HKS.out
    replace k1 := hX.cell k1
    replace k2 := hX.cell k2
    have lw : w.heap.size < wr.heap.size := World.block_lt_of_cell? _ _ k1
    clear hO hX
    by_cases hlt : k < m
    · have hlf : (k : Int) < full.length := by omega
      have hlc : (k : Int) < cells.length := by omega
      obtain ⟨bf, of_, rfl, z0⟩ := bool_at (HF.out.ext (HX0.out.trans HX.out)) k (by omega)
      obtain ⟨bc, oc, rfl, x0, hxl⟩ := u32_at (HC.out.ext (HX0.out.trans HX.out)) k (by omega)
      have lbf : bf < wr.heap.size := World.block_lt_of_cell? _ _ z0
      have lbc : bc < wr.heap.size := World.block_lt_of_cell? _ _ x0
      have hks := keysT_succ cells full k
      have hd1 : decide (k < full.length) = true := decide_eq_true (by omega)
      have hd2 : decide (k < cells.length) = true := decide_eq_true (by omega)
      obtain ⟨x, hx⟩ : ∃ x, cells.getD k 0 = x := ⟨_, rfl⟩
      rw [hx] at x0 hxl hks
      cases hkf : full.getD k false with
      | false =>
        have z0' : wr.cell? ⟨bf, of_ + k, none⟩ = some (.bool false) := by rw [z0]; show some (Value.bool (full.getD k false)) = _; rw [hkf]
        rw [hkf, if_neg (by decide), List.append_nil] at hks
        have HKT := Lib.hid hks
        clear hks z0 hkf hx hxl
        go_wp2_with fail
        go_roundw
        case rel => exact ⟨k + 1, by omega, by go_num, by rw [HKT.out]; exact HO.out, HX.out⟩
        case measure => simp [intOf]; omega
      | true =>
        have z0' : wr.cell? ⟨bf, of_ + k, none⟩ = some (.bool true) := by rw [z0]; show some (Value.bool (full.getD k false)) = _; rw [hkf]
        rw [hkf, if_pos rfl] at hks
        have HKT := Lib.hid hks
        have HXL := Lib.hid hxl
        have HLL : Hid ((zs (keysT cells full k)).length + [(x : Int)].length ≤ 1048576) := Lib.hid (by have := keysT_len cells full k; rw [zs_len, List.length_singleton]; omega)
        have hzx := HX.out.size
        clear hks z0 hkf hx hxl
        go_wp2_with (at_builtin; refine kU32.wpList_app (by rfl) (.tmp 24) (.tmp 30) (by rfl) (by rfl) W0.heap.size _ (zs (keysT cells full k)) (by rfl) (HO.out.ext ((Ext.refl _).alloc _)) _ [(x : Int)] (by rfl) (u32_lit _ x HXL.out) HLL.out (by simp; omega) ?_; intro v' w8 hown8 hgrow8 hat8)
        have H8 := Lib.hid (And.intro hown8 (And.intro hgrow8 hat8))
        clear hown8 hgrow8 hat8
        go_wp2_with fail
        go_roundw
        case rel =>
          obtain ⟨hown8, hgrow8, hat8⟩ := H8.out
          exact ⟨k + 1, by omega, by go_num, by rw [HKT.out, zs_app]; exact hown8, Ext.grown (HX.out.alloc _) hgrow8 (fun q hq => (HO.out.lt q hq).1)⟩
        case measure => simp [intOf]; omega
    · obtain rfl : k = m := by omega
      obtain ⟨A, c, hv, _⟩ := HO.out.slice
      rw [zs_len] at hv
      subst hv
      have HXX := Lib.hid (HX0.out.trans HX.out)
      have hkl := keysT_len cells full k
      have HRd := Lib.hid HO.out.rd
      obtain ⟨ks, hks⟩ : ∃ x, keysT cells full k = x := ⟨_, rfl⟩
      rw [hks] at HK HO HRd hkl ⊢
      have hend : full.length ≤ k ∨ (k < full.length ∧ cells.length ≤ k) := by have := HM.out; omega
      have hzz := HXX.out.size
      clear hks
      rcases hend with h | ⟨h, h'⟩
      · have hd1 : decide (k < full.length) = false := decide_eq_false (by omega)
        have hd1' : decide ((k : Int) < (full.length : Int)) = false := decide_eq_false (by omega)
        go_wp2_with fail
        refine (rrising_any ks A c wr HRd.out (by omega)).mono ?_
        rintro ed w8 ⟨A8, c8, rfl, hO8, hE8⟩
        have HO8 := Lib.hid (hO8.mono (B' := w.heap.size) hzz)
        have HX8 := Lib.hid (HXX.out.trans hE8)
        clear hO8 hE8
        go_wp2_with fail
        refine bodyPost_ret (v := .slice A8 (risingR ks).length c8) (by simp [results, Try.results23, go_sem]) rfl ⟨A8, c8, by rw [HK.out], by rw [HK.out]; exact HO8.out, HX8.out⟩
      · have hd1 : decide (k < full.length) = true := decide_eq_true h
        have hd1' : decide ((k : Int) < (full.length : Int)) = true := decide_eq_true (by omega)
        have hd2 : decide (k < cells.length) = false := decide_eq_false (by omega)
        have hd2' : decide ((k : Int) < (cells.length : Int)) = false := decide_eq_false (by omega)
        go_wp2_with fail
        refine (rrising_any ks A c wr HRd.out (by omega)).mono ?_
        rintro ed w8 ⟨A8, c8, rfl, hO8, hE8⟩
        have HO8 := Lib.hid (hO8.mono (B' := w.heap.size) hzz)
        have HX8 := Lib.hid (HXX.out.trans hE8)
        clear hO8 hE8
        go_wp2_with fail
        refine bodyPost_ret (v := .slice A8 (risingR ks).length c8) (by simp [results, Try.results23, go_sem]) rfl ⟨A8, c8, by rw [HK.out], by rw [HK.out]; exact HO8.out, HX8.out⟩
end Go.Proofs.Ytofiokegdgdacaa

/- The program's look and filled. -/
namespace Go.Proofs.Ytofiokegdgdacaa
open Go.BigFrame
open Go.RowKit Go.Proofs.Ytofiokegdgdacaa.Plain

set_option maxHeartbeats 3200000 in
set_option maxRecDepth 100000 in
theorem plook_any (B key : Nat) (tab : Tab) (C F : Option Addr) (cc cf : Nat) (w : World) (hC : Rd kU32 w (.slice C (cellsT tab).length cc) (zs (cellsT tab))) (hF : Rd kBool w (.slice F (fullT tab).length cf) (fullT tab))
    (h1 : 1 ≤ B) (h2 : B ≤ 10) (hlen : tab.length = 2 ^ B) (hk : key < 4294967296) (hex : ∃ p, p < tab.length ∧ stopF key (tab.getD p none) = true) :
    Calls Try.prog 36 #[tabV (B : Int) C (cellsT tab).length cc F (fullT tab).length cf, .int .u32 key] w fun ed w' => ed = .returned (.tuple #[.int .i64 (((homeN B key + probeD (stopF key) tab (homeN B key)) % tab.length : Nat) : Int), .int .i64 ((probeD (stopF key) tab (homeN B key) + 1 : Nat) : Int)]) ∧ Ext w w' := by
  have hns : 2 ^ B ≤ 1024 := Nat.pow_le_pow_right (n := 2) (by decide) h2
  have hn0 : 0 < 2 ^ B := Nat.two_pow_pos B
  obtain ⟨d1, d2, d3⟩ := probe_some (stopF key) tab (homeN B key) hex
  obtain ⟨n, hn⟩ : ∃ n, tab.length = n := ⟨_, rfl⟩
  have hn1 : (cellsT tab).length = n := (cellsT_len tab).trans hn
  have hn2 : (fullT tab).length = n := (fullT_len tab).trans hn
  have hho : homeP (B : Int) key = (homeN B key : Nat) := by unfold homeP; rw [if_neg (by omega), Int.toNat_natCast]
  have hhx := homeN_lt B key h2
  rw [← hlen, hn] at hhx hns hn0
  obtain ⟨h, hh⟩ : ∃ h, homeN B key = h := ⟨_, rfl⟩
  rw [hh] at d1 d2 d3 hhx hho ⊢
  obtain ⟨d0, hd0⟩ : ∃ d, probeD (stopF key) tab h = d := ⟨_, rfl⟩
  rw [hd0] at d1 d2 d3 ⊢
  rw [hn] at d1 d2 d3 ⊢
  have HC : Hid (Rd kU32 w (.slice C (cellsT tab).length cc) (zs (cellsT tab))) := Lib.hid hC
  have HF : Hid (Rd kBool w (.slice F (fullT tab).length cf) (fullT tab)) := Lib.hid hF
  have HN := Lib.hid (And.intro hn1 (And.intro hn2 hn))
  have HHOME := Lib.hid (fun w => phome12_any (B : Int) key w (by unfold in64; omega) hk)
  rw [hho] at HHOME
  have HHX := Lib.hid hhx
  have HD := Lib.hid (And.intro d1 (And.intro d2 d3))
  have hn9 : (n : Int) ≤ 1024 := by omega
  have hnp : (0 : Int) < n := by omega
  have HN0 : Hid (0 < n) := Lib.hid hn0
  rw [hn1, hn2]
  clear d1 d2 d3 hho hhx hh hd0 hn1 hn2 hn hC hF hex hlen hk h1 h2 hns hn0
  go_enter Try.func36, Try.ntmps36
  go_wp2_with fail
  refine (HHOME.out _).mono ?_
  rintro ed w3 ⟨rfl, hE3⟩
  have k1 : w3.cell? ⟨w.heap.size, 1, none⟩ = some (.slice C n cc) := hE3.cell (by go_simp)
  have k2 : w3.cell? ⟨w.heap.size, 2, none⟩ = some (.slice F n cf) := hE3.cell (by go_simp)
  have HX3 : Hid (Ext w w3) := Lib.hid (((Ext.refl w).alloc _).trans hE3)
  clear hE3 HHOME
  go_wp2_with fail
  go_loopw [4, 5] (fun p l wq => ∃ d : Nat, d ≤ d0 ∧ p = .int .i64 (((h + d) % n : Nat) : Int) ∧ l = .int .i64 ((d + 1 : Nat) : Int) ∧ Ext w3 wq) (fun _ l _ => n + 1 - (intOf l).toNat)
  case atStart => exact ⟨0, Nat.zero_le _, by rw [Nat.add_zero, Nat.mod_eq_of_lt HHX.out], rfl, Ext.refl _⟩
  case round =>
    obtain ⟨d, hd, rfl, rfl, hX⟩ := hrel
    rename World => wq
    have HX := Lib.hid hX
    have hdn : d < n := Nat.lt_of_le_of_lt hd HD.out.1
    have hsl : (h + d) % n < n := Nat.mod_lt _ HN0.out
    have hxx : Ext w wq := HX3.out.trans hX
    obtain ⟨bf, of_, rfl, z0⟩ := bool_at (HF.out.ext hxx) ((h + d) % n) (by rw [HN.out.2.1]; exact hsl)
    obtain ⟨bc, oc, rfl, x0, hxl⟩ := u32_at (HC.out.ext hxx) ((h + d) % n) (by rw [HN.out.1]; exact hsl)
    have z0' : wq.cell? ⟨bf, of_ + (h + d) % n, none⟩ = some (.bool (tab.getD ((h + d) % n) none).isSome) := by rw [z0]; show some (Value.bool ((fullT tab).getD _ false)) = _; rw [fullT_at]
    rw [cellsT_at] at x0 hxl
    replace k1 := hX.cell k1
    replace k2 := hX.cell k2
    have hnx : ((h + d) % n + 1) % n = (h + (d + 1)) % n := by rw [Nat.mod_add_mod]; rfl
    have hstop := HD.out.2.2 d
    have hend := HD.out.2.1
    obtain ⟨s, hs⟩ : ∃ s, (h + d) % n = s := ⟨_, rfl⟩
    rw [hs] at hsl x0 hxl z0' hnx hstop ⊢
    have HS := Lib.hid hs
    have lbf : bf < wq.heap.size := World.block_lt_of_cell? _ _ z0'
    have lbc : bc < wq.heap.size := World.block_lt_of_cell? _ _ x0
    have lbw : w.heap.size < wq.heap.size := World.block_lt_of_cell? _ _ k1
    have hs0 : (0 : Int) ≤ s := by omega
    have hs1 : (s : Int) < n := by omega
    have hd9 : (d : Int) ≤ 2000 := by omega
    have HXX := Lib.hid hxx
    clear hX hxx z0
    by_cases hlt2 : d < d0
    · have hst := hstop hlt2
      unfold stopF at hst
      rw [Bool.or_eq_false_iff, decide_eq_false_iff_not] at hst
      obtain ⟨y, ho, hyk⟩ : ∃ y, tab.getD s none = some y ∧ y ≠ key := by
        cases ho : tab.getD s none with
        | none => rw [ho] at hst; cases hst.1
        | some y => exact ⟨y, rfl, fun e => hst.2 (by rw [ho, e])⟩
      rw [ho] at z0' x0 hxl
      have z1 : wq.cell? ⟨bf, of_ + s, none⟩ = some (.bool true) := z0'
      have x1 : wq.cell? ⟨bc, oc + s, none⟩ = some (.int .u32 y) := x0
      have hy1 : ((y : Int) != (key : Int)) = true := by simp; omega
      have hy2 : (y != key) = true := by simp [hyk]
      obtain ⟨s2, hs2⟩ : ∃ s2, (s + 1) % n = s2 := ⟨_, rfl⟩
      rw [hs2] at hnx
      have hsI : ((s : Int) + 1) % (n : Int) = (s2 : Int) := by rw [← hs2]; simp
      have hsT : ((s : Int) + 1).tmod (n : Int) = (s2 : Int) := by rw [Int.tmod_eq_emod_of_nonneg (by omega)]; exact hsI
      have hw9 : IntKind.i64.wrap ((s : Int) + 1) = (s : Int) + 1 := IntWalk.i64_in _ (by omega)
      have hw8 : IntKind.i64.wrap (s2 : Int) = (s2 : Int) := IntWalk.i64_in _ (by have := Nat.mod_lt (s + 1) HN0.out; omega)
      have HNX := Lib.hid hnx
      clear z0' x0 hxl hst hstop hend hnx hs hs2 ho hyk
      go_wp2_with fail
      all_goals go_roundw
      all_goals first
        | exact ⟨d + 1, hlt2, by rw [HNX.out], by go_num, HX.out⟩
        | (simp [intOf]; omega)
        | fail
    · obtain rfl : d = d0 := by omega
      rw [hs] at hend
      unfold stopF at hend
      rw [Bool.or_eq_true, decide_eq_true_eq] at hend
      by_cases ho : tab.getD s none = some key
      · rw [ho] at z0' x0 hxl
        have z1 : wq.cell? ⟨bf, of_ + s, none⟩ = some (.bool true) := z0'
        have x1 : wq.cell? ⟨bc, oc + s, none⟩ = some (.int .u32 key) := x0
        have hy1 : ((key : Int) != (key : Int)) = false := by simp
        have hy2 : (key != key) = false := by simp
        clear z0' x0 hxl hstop hend hnx hs ho
        go_wp2_with fail
        refine bodyPost_ret (v := .tuple #[.int .i64 (s : Int), .int .i64 ((d + 1 : Nat) : Int)]) (by simp [results, Try.results36, go_sem]) rfl ⟨by rw [HS.out], HXX.out⟩
      · have hno : tab.getD s none = none := by
          rcases hend with h9 | h9
          · simpa using h9
          · exact absurd h9 ho
        rw [hno] at z0' x0 hxl
        have z1 : wq.cell? ⟨bf, of_ + s, none⟩ = some (.bool false) := z0'
        clear z0' x0 hxl hstop hend hnx hs ho hno
        go_wp2_with fail
        refine bodyPost_ret (v := .tuple #[.int .i64 (s : Int), .int .i64 ((d + 1 : Nat) : Int)]) (by simp [results, Try.results36, go_sem]) rfl ⟨by rw [HS.out], HXX.out⟩
end Go.Proofs.Ytofiokegdgdacaa

/- The program's filled. -/
namespace Go.Proofs.Ytofiokegdgdacaa
open Go.BigFrame
open Go.RowKit Go.Proofs.Ytofiokegdgdacaa.Plain

/-- one that isn't there goes to the first empty place -/
theorem Plain.probe_same {B : Nat} {tab : Tab} {pre : List Nat} (h : Inv B tab pre) {x : Nat} (hx : x ∉ pre) (hr : pre.length < 2 ^ B) : probeD (stopF x) tab (homeN B x) = probeD isNo tab (homeN B x) ∧ ∃ p, p < tab.length ∧ stopF x (tab.getD p none) = true := by
  obtain ⟨p0, hp0, hno⟩ := h.room hr
  obtain ⟨d1, d2, d3⟩ := probe_some isNo tab (homeN B x) ⟨p0, hp0, hno⟩
  refine ⟨probeD_of _ _ _ _ d1 (fun j hj => ?_) ?_, p0, hp0, by unfold stopF; unfold isNo at hno; rw [hno]; rfl⟩
  · have h3 := d3 j hj
    unfold isNo at h3
    unfold stopF
    rw [h3, Bool.false_or, decide_eq_false_iff_not]
    exact fun e => hx (h.mem1 _ _ e)
  · have d4 : (tab.getD ((homeN B x + probeD isNo tab (homeN B x)) % tab.length) none).isNone = true := d2
    unfold stopF
    rw [d4]; rfl
set_option maxHeartbeats 3200000 in
set_option maxRecDepth 100000 in
theorem pfilled_any (B : Nat) (rl : List Nat) (L : Option Addr) (lc : Nat) (w : World) (hL : Rd kU32 w (.slice L rl.length lc) (zs rl)) (h1 : 1 ≤ B) (h2 : B ≤ 10) (hrr : rl.Pairwise (· < ·)) (hfl : rl.length ≤ 2 ^ B * 3 / 4) :
    Calls Try.prog 32 #[.int .i64 B, .slice L rl.length lc] w fun ed w' => ∃ (C F : Option Addr) (c f : Nat), ed = .returned (.agg #[.int .i64 B, .slice C (cellsT (fillT B rl)).length c, .slice F (fullT (fillT B rl)).length f]) ∧ Ow kU32 w.heap.size w' (.slice C (cellsT (fillT B rl)).length c) (zs (cellsT (fillT B rl))) ∧ Ow kBool w.heap.size w' (.slice F (fullT (fillT B rl)).length f) (fullT (fillT B rl)) ∧ Ext w w' := by
  have HO3 := Lib.hid hL
  have HPL := Lib.hid (fun w => pplaces_any B w h2)
  have hns : 2 ^ B ≤ 1024 := Nat.pow_le_pow_right (n := 2) (by decide) h2
  have hn0 : 0 < 2 ^ B := Nat.two_pow_pos B
  have hinv := fun (k : Nat) => fill_inv B _ (rl.take k) rfl ((hrr.imp (fun {a b} h => by omega) : rl.Nodup).sublist (List.take_sublist _ _)) (by rw [List.length_take]; omega)
  have HNOD := Lib.hid (hrr.imp (fun {a b} h => by omega) : rl.Nodup)
  obtain ⟨n, hn⟩ : ∃ n, 2 ^ B = n := ⟨_, rfl⟩
  rw [hn] at hns hn0 HPL
  have HROOM : Hid (rl.length < n) := Lib.hid (by rw [hn] at hfl; omega)
  have HHOME := Lib.hid (fun x => homeN_lt B x h2)
  rw [hn] at HHOME
  have HB := Lib.hid (And.intro h1 h2)
  have HIN := Lib.hid hinv
  have HN := Lib.hid hn
  have hn9 : (n : Int) ≤ 1024 := by omega
  have hn1 : (0 : Int) < n := by omega
  have hrl9 : (rl.length : Int) ≤ 1024 := by have := HROOM.out; omega
  obtain ⟨C1, hmk1, hmo1⟩ := kU32.make 0 rfl (show (0 : Int) ≤ 0 ∧ (0 : Int) ≤ 4294967295 by omega) n (by omega)
  obtain ⟨C2, hmk2, hmo2⟩ := kBool.make false rfl trivial n (by omega)
  have HM1 := Lib.hid hmo1
  have HM2 := Lib.hid hmo2
  have hma : ∀ w : World, (Instr.makeSlice 22 (.int .i64 n) (.int .i64 n)).run Try.prog w = .ok (.slice (some ⟨w.heap.size, 0, none⟩) n n) (w.alloc (.cells C1 34)) := hmk1
  have hmb : ∀ w : World, (Instr.makeSlice 23 (.int .i64 n) (.int .i64 n)).run Try.prog w = .ok (.slice (some ⟨w.heap.size, 0, none⟩) n n) (w.alloc (.cells C2 4)) := hmk2
  clear hmk1 hmk2 hmo1 hmo2 hinv hn hns hn0 hfl hrr h1 h2 hL
  go_enter Try.func32, Try.ntmps32
  go_wp2_with fail
  obtain ⟨w3, hw3⟩ : ∃ w3, w.alloc (.cells #[.int .i64 0, .slice none 0 0, .slice none 0 0] 25) = w3 := ⟨_, rfl⟩
  have t0 : w3.cell? ⟨w.heap.size, 0, none⟩ = some (.int .i64 0) := by subst hw3; go_simp
  have t1 : w3.cell? ⟨w.heap.size, 1, none⟩ = some (.slice none 0 0) := by subst hw3; go_simp
  have t2 : w3.cell? ⟨w.heap.size, 2, none⟩ = some (.slice none 0 0) := by subst hw3; go_simp
  have tf : ∀ o, w3.frozen? ⟨w.heap.size, o, none⟩ = false := fun o => by subst hw3; go_simp
  have HX3 : Hid (Ext w w3) := Lib.hid (by rw [← hw3]; exact (Ext.refl w).alloc _)
  have lw3 : w.heap.size < w3.heap.size := World.block_lt_of_cell? _ _ t0
  rw [hw3]
  clear hw3
  go_cut [5] from 10 to 17 (fun p wx => ∃ (P G1 G2 : Nat), p = .pointer (some ⟨P, 0, none⟩) ∧ (w3.heap.size ≤ P ∧ w3.heap.size ≤ G1 ∧ w3.heap.size ≤ G2 ∧ P ≠ G1 ∧ P ≠ G2 ∧ G1 ≠ G2) ∧ (wx.cell? ⟨P, 0, none⟩ = some (.int .i64 B) ∧ wx.cell? ⟨P, 1, none⟩ = some (.slice (some ⟨G1, 0, none⟩) n n) ∧ wx.cell? ⟨P, 2, none⟩ = some (.slice (some ⟨G2, 0, none⟩) n n)) ∧ Ow kU32 w3.heap.size wx (.slice (some ⟨G1, 0, none⟩) n n) (List.replicate n (0 : Int)) ∧ Ow kBool w3.heap.size wx (.slice (some ⟨G2, 0, none⟩) n n) (List.replicate n false) ∧ Ext w3 wx)
  case first =>
    go_region_law (first
      | (go_simp; go_at_call 47
         refine (HPL.out _).mono ?_
         rintro ed w9 ⟨rfl, rfl⟩))
    all_goals go_wp2_with fail
    all_goals go_meet
    all_goals first
      | (refine ⟨w3.heap.size, w3.heap.size + 1, w3.heap.size + 1 + 1, rfl, ⟨by omega, by omega, by omega, by omega, by omega, by omega⟩, ⟨(by first | (go_simp; done) | fail), (by first | (go_simp; done) | fail), (by first | (go_simp; done) | fail)⟩, ?_, ?_, ?_⟩)
      | (refine ⟨w3.heap.size, w3.heap.size + 1 + 1, w3.heap.size + 1, rfl, ⟨by omega, by omega, by omega, by omega, by omega, by omega⟩, ⟨(by first | (go_simp; done) | fail), (by first | (go_simp; done) | fail), (by first | (go_simp; done) | fail)⟩, ?_, ?_, ?_⟩)
      | (refine ⟨w3.heap.size + 1, w3.heap.size, w3.heap.size + 1 + 1, rfl, ⟨by omega, by omega, by omega, by omega, by omega, by omega⟩, ⟨(by first | (go_simp; done) | fail), (by first | (go_simp; done) | fail), (by first | (go_simp; done) | fail)⟩, ?_, ?_, ?_⟩)
      | (refine ⟨w3.heap.size + 1, w3.heap.size + 1 + 1, w3.heap.size, rfl, ⟨by omega, by omega, by omega, by omega, by omega, by omega⟩, ⟨(by first | (go_simp; done) | fail), (by first | (go_simp; done) | fail), (by first | (go_simp; done) | fail)⟩, ?_, ?_, ?_⟩)
      | (refine ⟨w3.heap.size + 1 + 1, w3.heap.size, w3.heap.size + 1, rfl, ⟨by omega, by omega, by omega, by omega, by omega, by omega⟩, ⟨(by first | (go_simp; done) | fail), (by first | (go_simp; done) | fail), (by first | (go_simp; done) | fail)⟩, ?_, ?_, ?_⟩)
      | (refine ⟨w3.heap.size + 1 + 1, w3.heap.size + 1, w3.heap.size, rfl, ⟨by omega, by omega, by omega, by omega, by omega, by omega⟩, ⟨(by first | (go_simp; done) | fail), (by first | (go_simp; done) | fail), (by first | (go_simp; done) | fail)⟩, ?_, ?_, ?_⟩)
      | fail
    all_goals first
      | (refine Ow.atRow (HM1.out w3 0 w3.heap.size rfl (Nat.zero_le _)) rfl ?_ (by omega); rw [heap_drew])
      | (refine Ow.atRow (HM2.out w3 0 w3.heap.size rfl (Nat.zero_le _)) rfl ?_ (by omega); rw [heap_drew])
      | (refine Ext.drew ?_; repeat (first | (with_reducible exact Ext.refl _) | refine Ext.alloc ?_ _))
      | fail
    all_goals repeat (first | exact heap_alloc_at (by first | (simp; done) | (simp; omega) | fail) | refine (heap_alloc_old _ _ (by first | (simp; done) | (simp; omega) | fail)).trans ?_)
  case rest =>
  obtain ⟨P, G1, G2, rfl, ⟨g1, g2, g3, g4, g5, g6⟩, ⟨p0, p1, p2⟩, hO1, hO2, hX4⟩ := hcut
  generalize wc = w4 at *
  have HO1 : Hid (Ow kU32 w3.heap.size w4 (.slice (some ⟨G1, 0, none⟩) n n) (zs (cellsT (fillT B (rl.take 0))))) := Lib.hid (by
    rw [List.take_zero]
    show Ow kU32 _ _ _ (zs (cellsT (List.replicate (2 ^ B) none)))
    rw [HN.out, (fill_zero n).1]; exact hO1)
  have HO2 : Hid (Ow kBool w3.heap.size w4 (.slice (some ⟨G2, 0, none⟩) n n) (fullT (fillT B (rl.take 0)))) := Lib.hid (by
    rw [List.take_zero]
    show Ow kBool _ _ _ (fullT (List.replicate (2 ^ B) none))
    rw [HN.out, (fill_zero n).2]; exact hO2)
  have HX4 := Lib.hid hX4
  have HP4 := Lib.hid (And.intro p0 (And.intro p1 p2))
  have HT := Lib.hid (And.intro t0 (And.intro t1 (And.intro t2 tf)))
  clear hO1 hO2 hX4 p0 p1 p2 t0 t1 t2 tf hma hmb HM1 HM2 HPL
  go_wp2_with fail
  go_loopw [20] (fun i wr => ∃ k : Nat, k ≤ rl.length ∧ i = .int .i64 k ∧ Ow kU32 w3.heap.size wr (.slice (some ⟨G1, 0, none⟩) n n) (zs (cellsT (fillT B (rl.take k)))) ∧ Ow kBool w3.heap.size wr (.slice (some ⟨G2, 0, none⟩) n n) (fullT (fillT B (rl.take k))) ∧ (wr.cell? ⟨P, 0, none⟩ = some (.int .i64 B) ∧ wr.cell? ⟨P, 1, none⟩ = some (.slice (some ⟨G1, 0, none⟩) n n) ∧ wr.cell? ⟨P, 2, none⟩ = some (.slice (some ⟨G2, 0, none⟩) n n)) ∧ Ext w3 wr) (fun i _ => rl.length - (intOf i).toNat)
  case atStart => exact ⟨0, Nat.zero_le _, rfl, HO1.out, HO2.out, HP4.out, HX4.out⟩
  case round =>
    obtain ⟨k, hk, rfl, hO1', hO2', hP, hX⟩ := hrel
    have HA := Lib.hid hO1'
    have HBL := Lib.hid hO2'
    have HPC := Lib.hid hP
    have HX := Lib.hid hX
    have hk0 : (0 : Int) ≤ k := by omega
    clear hO1' hO2' hP hX HO1 HO2 HX4 HP4
    by_cases hlt : k < rl.length
    · have hlt' : (k : Int) < rl.length := by omega
      have hd9 : decide (k < rl.length) = true := decide_eq_true hlt
      obtain ⟨bx, ox, rfl, z0, hxl⟩ := u32_at (HO3.out.ext (HX3.out.trans HX.out)) k hlt
      obtain ⟨_, _, eL, x9, _⟩ := u32_at HO3.out k hlt
      cases eL
      have lbx : bx < w.heap.size := World.block_lt_of_cell? _ _ x9
      have htk := takeN_snoc hlt
      have hinv := HIN.out k
      have hnin : rl.getD k 0 ∉ rl.take k := by
        intro hmem
        have hnd : rl.Pairwise (· ≠ ·) := HNOD.out
        rw [List.pairwise_iff_getElem] at hnd
        obtain ⟨j, hj, ej⟩ := List.getElem_of_mem hmem
        rw [List.length_take] at hj
        rw [List.getElem_take, List.getD_eq_getElem?_getD, List.getElem?_eq_getElem hlt] at ej
        exact hnd j k (by omega) hlt (by omega) ej
      obtain ⟨x, hx⟩ : ∃ x, rl.getD k 0 = x := ⟨_, rfl⟩
      rw [hx] at z0 hxl htk hnin
      have hsn := fillT_snoc B (rl.take k) x
      rw [← htk] at hsn
      obtain ⟨tab, htab⟩ : ∃ t, fillT B (rl.take k) = t := ⟨_, rfl⟩
      rw [htab] at hsn hinv HA HBL
      have htl : tab.length = n := by rw [hinv.len, HN.out]
      have hcl9 : (cellsT tab).length = n := (cellsT_len tab).trans htl
      have hfl9 : (fullT tab).length = n := (fullT_len tab).trans htl
      obtain ⟨hps, hex⟩ := Plain.probe_same hinv hnin (by rw [HN.out, List.length_take]; have := HROOM.out; omega)
      have hcall := plook_any B x tab (some ⟨G1, 0, none⟩) (some ⟨G2, 0, none⟩) n n wr (by rw [hcl9]; exact HA.out.rd) (by rw [hfl9]; exact HBL.out.rd) HB.out.1 HB.out.2 hinv.len hxl hex
      rw [hcl9, hfl9, hps, htl] at hcall
      unfold putT spotT at hsn
      rw [htl] at hsn
      obtain ⟨s, hs⟩ : ∃ s, (homeN B x + probeD isNo tab (homeN B x)) % n = s := ⟨_, rfl⟩
      rw [hs] at hcall hsn
      have hsl : s < n := by rw [← hs]; exact Nat.mod_lt _ (by omega)
      have HCALL := Lib.hid (fun w' (hE : Ext wr w') => plook_any B x tab (some ⟨G1, 0, none⟩) (some ⟨G2, 0, none⟩) n n w' (by rw [hcl9]; exact (HA.out.ext hE).rd) (by rw [hfl9]; exact (HBL.out.ext hE).rd) HB.out.1 HB.out.2 hinv.len hxl hex)
      rw [hcl9, hfl9, hps, htl, hs] at HCALL
      have HSN := Lib.hid hsn
      have HTL := Lib.hid htl
      have HXL := Lib.hid hxl
      obtain ⟨pp0, pp1, pp2⟩ := HPC.out
      have lbp : P < wr.heap.size := World.block_lt_of_cell? _ _ pp0
      have lbw : bx < wr.heap.size := World.block_lt_of_cell? _ _ z0
      have hs0 : (0 : Int) ≤ s := by omega
      have hs1 : (s : Int) < n := by omega
      clear hcall htk hinv hx hsn htab htl hxl hnin hps hex hs hcl9 hfl9 x9
      go_wp2_with fail
      refine (HCALL.out _ (Ext.refl _)).mono ?_
      rintro ed w5 ⟨rfl, hE5⟩
      have HA5 := Lib.hid (HA.out.ext hE5)
      have HBL5 := Lib.hid (HBL.out.ext hE5)
      have HX5 := Lib.hid (HX.out.trans hE5)
      replace pp0 := hE5.cell pp0
      replace pp1 := hE5.cell pp1
      replace pp2 := hE5.cell pp2
      have lbp5 : P < w5.heap.size := World.block_lt_of_cell? _ _ pp0
      obtain ⟨a1, a2, _, _, ga⟩ := HA5.out.atN (u := s) (by rw [cellsT_len, HTL.out]; exact hsl)
      obtain ⟨c1, c2, _, _⟩ := HBL5.out.atB (u := s) (by rw [fullT_len, HTL.out]; exact hsl)
      have HPUT := Lib.hid (TabAt.puts (x := x) (s := s) ⟨HA5.out, HBL5.out, ⟨pp0, pp1, pp2⟩, HX5.out⟩ HTL.out hsl HXL.out g2 g3 g4 g5 g6)
      have a2' := a2 s
      have c2' := c2 s
      clear hE5 HCALL HA HBL HX a2 c2 HPC
      go_wp2_with fail
      go_region_law (fail)
      all_goals go_wp2_with fail
      all_goals go_roundw
      all_goals first
        | exact ⟨k + 1, by omega, by go_num, by rw [HSN.out]; exact HPUT.out.1.c, by rw [HSN.out]; exact HPUT.out.1.f, HPUT.out.1.p, HPUT.out.1.e⟩
        | exact ⟨k + 1, by omega, by go_num, by rw [HSN.out]; exact HPUT.out.2.c, by rw [HSN.out]; exact HPUT.out.2.f, HPUT.out.2.p, HPUT.out.2.e⟩
        | exact ⟨k + 1, by omega, by go_num, by rw [HSN.out]; exact HPUT.out.1.drew.c, by rw [HSN.out]; exact HPUT.out.1.drew.f, HPUT.out.1.drew.p, HPUT.out.1.drew.e⟩
        | exact ⟨k + 1, by omega, by go_num, by rw [HSN.out]; exact HPUT.out.2.drew.c, by rw [HSN.out]; exact HPUT.out.2.drew.f, HPUT.out.2.drew.p, HPUT.out.2.drew.e⟩
        | (simp [intOf]; done)
        | (simp [intOf]; omega)
        | fail
    · obtain rfl : k = rl.length := by omega
      rw [List.take_length] at HA HBL
      obtain ⟨p0, p1, p2⟩ := HPC.out
      obtain ⟨t0, t1, t2, tf⟩ := HT.out
      replace t0 := HX.out.cell t0
      replace t1 := HX.out.cell t1
      replace t2 := HX.out.cell t2
      have tf' : ∀ o, wr.frozen? ⟨w.heap.size, o, none⟩ = false := fun o => (Below.frozen HX.out (p := ⟨w.heap.size, o, none⟩) lw3).trans (tf o)
      have lbt : w.heap.size < wr.heap.size := World.block_lt_of_cell? _ _ t0
      have lbp : P < wr.heap.size := World.block_lt_of_cell? _ _ p0
      have hPw : w.heap.size ≠ P := by omega
      have hcl : (cellsT (fillT B rl)).length = n := by
        have h9 := HIN.out rl.length
        rw [List.take_length] at h9
        rw [cellsT_len, h9.len, HN.out]
      have hfl3 : (fullT (fillT B rl)).length = n := by rw [fullT_len, ← cellsT_len]; exact hcl
      have HCL := Lib.hid (And.intro hcl hfl3)
      clear tf hcl hfl3
      go_wp2_with fail
      obtain ⟨W, hW⟩ : ∃ W, ((wr.setCell ⟨w.heap.size, 0, none⟩ (.int .i64 B)).setCell ⟨w.heap.size, 1, none⟩ (.slice (some ⟨G1, 0, none⟩) n n)).setCell ⟨w.heap.size, 2, none⟩ (.slice (some ⟨G2, 0, none⟩) n n) = W := ⟨_, rfl⟩
      have s0 : W.cell? ⟨w.heap.size, 0, none⟩ = some (.int .i64 B) := by subst hW; go_simp
      have s1 : W.cell? ⟨w.heap.size, 1, none⟩ = some (.slice (some ⟨G1, 0, none⟩) n n) := by subst hW; go_simp
      have s2 : W.cell? ⟨w.heap.size, 2, none⟩ = some (.slice (some ⟨G2, 0, none⟩) n n) := by subst hW; go_simp
      have HXW : Hid (Ext w W) := Lib.hid (by rw [← hW]; exact (((HX3.out.trans HX.out).setCell (p := ⟨w.heap.size, 0, none⟩) (Nat.le_refl _) _).setCell (p := ⟨w.heap.size, 1, none⟩) (Nat.le_refl _) _).setCell (p := ⟨w.heap.size, 2, none⟩) (Nat.le_refl _) _)
      have HAW : Hid (Ow kU32 w.heap.size W (.slice (some ⟨G1, 0, none⟩) n n) (zs (cellsT (fillT B rl)))) := Lib.hid (by rw [← hW]; exact (((HA.out.setBelow (p := ⟨w.heap.size, 0, none⟩) lw3 _).setBelow (p := ⟨w.heap.size, 1, none⟩) lw3 _).setBelow (p := ⟨w.heap.size, 2, none⟩) lw3 _).mono (Nat.le_of_lt lw3))
      have HFW : Hid (Ow kBool w.heap.size W (.slice (some ⟨G2, 0, none⟩) n n) (fullT (fillT B rl))) := Lib.hid (by rw [← hW]; exact (((HBL.out.setBelow (p := ⟨w.heap.size, 0, none⟩) lw3 _).setBelow (p := ⟨w.heap.size, 1, none⟩) lw3 _).setBelow (p := ⟨w.heap.size, 2, none⟩) lw3 _).mono (Nat.le_of_lt lw3))
      rw [hW]
      clear hW
      refine bodyPost_ret (v := .agg #[.int .i64 B, .slice (some ⟨G1, 0, none⟩) n n, .slice (some ⟨G2, 0, none⟩) n n]) (by simp [results, Try.results32, go_sem, s0, s1, s2]) rfl (by
        refine ⟨some ⟨G1, 0, none⟩, some ⟨G2, 0, none⟩, n, n, ?_, ?_, ?_, HXW.out⟩
        · rw [HCL.out.1, HCL.out.2]
        · rw [HCL.out.1]; exact HAW.out
        · rw [HCL.out.2]; exact HFW.out)
end Go.Proofs.Ytofiokegdgdacaa

/- The program's Make, Keys. -/
namespace Go.Proofs.Ytofiokegdgdacaa
open Go.BigFrame
open Go.RowKit Go.Proofs.Ytofiokegdgdacaa.Plain

set_option maxHeartbeats 3200000 in
set_option maxRecDepth 100000 in
theorem pmakeS_any (b : Int) (l : List Nat) (L : Option Addr) (lc : Nat) (w : World) (hL : Rd kU32 w (.slice L l.length lc) (zs l)) (hl : l.length ≤ 1000000) (hb : in64 b) :
    Calls Try.prog 12 #[.int .i64 b, .slice L l.length lc] w (TabSaid (makeP b l) w) := by
  have HL := Lib.hid hL
  have HB := Lib.hid hb
  have HLL := Lib.hid hl
  have hF : makeP b l = if b < 1 ∨ 10 < b then (noTb, 1) else if 2 ^ b.toNat * 3 / 4 < (risingR l).length then (noTb, 2) else (tbOf b.toNat (risingR l), 0) := rfl
  have HSZ := Lib.hid (fun w => psized_any b w)
  clear hL hb hl
  by_cases h : b < 1 ∨ 10 < b
  · rw [if_pos h] at hF
    have HF := Lib.hid hF
    have hd : decide (1 ≤ b ∧ b ≤ 10) = false := decide_eq_false (by omega)
    rw [hd] at HSZ
    clear hF h hd
    go_enter Try.func12, Try.ntmps12
    go_wp2_with fail
    refine (HSZ.out _).mono ?_
    rintro ed w1 ⟨rfl, rfl⟩
    go_wp2_with fail
    refine bodyPost_ret (v := .tuple #[.agg #[.int .i64 0, .slice none 0 0, .slice none 0 0], .int .i64 1]) (by simp [results, Try.results12, go_sem]) rfl (by rw [HF.out]; exact ⟨none, none, 0, 0, rfl, Ow.nil _ _, Ow.nil _ _, by repeat (first | (with_reducible exact Ext.refl _) | refine Ext.alloc ?_ _ | refine Ext.setCell ?_ (Nat.le_refl _) _)⟩)
  obtain ⟨B, rfl⟩ : ∃ B : Nat, b = B := ⟨b.toNat, by omega⟩
  rw [if_neg h, Int.toNat_natCast] at hF
  have hd : decide (1 ≤ (B : Int) ∧ (B : Int) ≤ 10) = true := decide_eq_true (by omega)
  rw [hd] at HSZ
  have HB2 : Hid (1 ≤ B ∧ B ≤ 10) := Lib.hid (by omega)
  have HROOM := Lib.hid (fun w => proom_any B w HB2.out.2)
  have hrl := risingR_len l
  have HRISE := Lib.hid (risingR_good _ l rfl).1
  have HRS := Lib.hid (fun w1 (hE : Ext w w1) => prising_any l L lc w1 (HL.out.ext hE) HLL.out)
  obtain ⟨rl, hrlx⟩ : ∃ x, risingR l = x := ⟨_, rfl⟩
  rw [hrlx] at hF hrl HRISE HRS
  obtain ⟨q, hq⟩ : ∃ q, 2 ^ B * 3 / 4 = q := ⟨_, rfl⟩
  rw [hq] at hF HROOM
  have hq9 : (q : Int) ≤ 1000 := by
    have := Nat.pow_le_pow_right (n := 2) (by decide) HB2.out.2
    omega
  have HF := Lib.hid hF
  have HQ := Lib.hid hq
  have hrl9 : (rl.length : Int) ≤ 1000000 := by have := HLL.out; omega
  clear hF h hd hrl hrlx hq
  go_enter Try.func12, Try.ntmps12
  go_wp2_with fail
  refine (HSZ.out _).mono ?_
  rintro ed w1 ⟨rfl, rfl⟩
  go_wp2_with fail
  refine (HRS.out _ ((Ext.refl w).alloc _)).mono ?_
  rintro ed w3 ⟨A3, c3, rfl, hO3, hE3⟩
  have HO3 := Lib.hid hO3.rd
  have t0 : w3.cell? ⟨w.heap.size, 0, none⟩ = some (.int .i64 0) := Ext.cell hE3 (by go_simp)
  have t1 : w3.cell? ⟨w.heap.size, 1, none⟩ = some (.slice none 0 0) := Ext.cell hE3 (by go_simp)
  have t2 : w3.cell? ⟨w.heap.size, 2, none⟩ = some (.slice none 0 0) := Ext.cell hE3 (by go_simp)
  have tf : ∀ o, w3.frozen? ⟨w.heap.size, o, none⟩ = false := fun o => (Below.frozen hE3 (p := ⟨w.heap.size, o, none⟩) (by first | omega | (simp; omega) | simp)).trans (by go_simp)
  have HX3 := Lib.hid (((Ext.refl w).alloc (.cells #[.int .i64 0, .slice none 0 0, .slice none 0 0] 25)).trans hE3)
  have lw3 : w.heap.size < w3.heap.size := World.block_lt_of_cell? _ _ t0
  clear hE3 hO3 HSZ HRS
  go_wp2_with fail
  refine (HROOM.out _).mono ?_
  rintro ed w4 ⟨rfl, rfl⟩
  by_cases hfull : q < rl.length
  · have hd5 : decide ((q : Int) < (rl.length : Int)) = true := decide_eq_true (by omega)
    have hd6 : decide (q < rl.length) = true := decide_eq_true hfull
    have HFF : Hid (makeP B l = (noTb, 2)) := Lib.hid (by rw [HF.out, if_pos hfull])
    go_wp2_with fail
    obtain ⟨W, hW⟩ : ∃ W, ((w4.setCell ⟨w.heap.size, 0, none⟩ (.int .i64 0)).setCell ⟨w.heap.size, 1, none⟩ (.slice none 0 0)).setCell ⟨w.heap.size, 2, none⟩ (.slice none 0 0) = W := ⟨_, rfl⟩
    have s0 : W.cell? ⟨w.heap.size, 0, none⟩ = some (.int .i64 0) := by subst hW; go_simp
    have s1 : W.cell? ⟨w.heap.size, 1, none⟩ = some (.slice none 0 0) := by subst hW; go_simp
    have s2 : W.cell? ⟨w.heap.size, 2, none⟩ = some (.slice none 0 0) := by subst hW; go_simp
    have HXW : Hid (Ext w W) := Lib.hid (by rw [← hW]; exact ((HX3.out.setCell (p := ⟨w.heap.size, 0, none⟩) (Nat.le_refl _) _).setCell (p := ⟨w.heap.size, 1, none⟩) (Nat.le_refl _) _).setCell (p := ⟨w.heap.size, 2, none⟩) (Nat.le_refl _) _)
    rw [hW]
    clear hW
    refine bodyPost_ret (v := .tuple #[.agg #[.int .i64 0, .slice none 0 0, .slice none 0 0], .int .i64 2]) (by simp [results, Try.results12, go_sem, s0, s1, s2]) rfl (by rw [HFF.out]; exact ⟨none, none, 0, 0, rfl, Ow.nil _ _, Ow.nil _ _, HXW.out⟩)
  · have hd5 : decide ((q : Int) < (rl.length : Int)) = false := decide_eq_false (by omega)
    have hd6 : decide (q < rl.length) = false := decide_eq_false (by omega)
    have hfl : rl.length ≤ q := by omega
    have HFF : Hid (makeP B l = (tbOf B rl, 0)) := Lib.hid (by rw [HF.out, if_neg hfull])
    have HFI := Lib.hid (pfilled_any B rl A3 c3 w4 HO3.out HB2.out.1 HB2.out.2 HRISE.out (by rw [HQ.out]; exact hfl))
    clear hfull HF hfl
    go_wp2_with fail
    refine HFI.out.mono ?_
    rintro ed w5 ⟨C, F, c, f, rfl, hO5, hP5, hE5⟩
    replace t0 := hE5.cell t0
    replace t1 := hE5.cell t1
    replace t2 := hE5.cell t2
    have tf' : ∀ o, w5.frozen? ⟨w.heap.size, o, none⟩ = false := fun o => (Below.frozen hE5 (p := ⟨w.heap.size, o, none⟩) lw3).trans (tf o)
    have HO5 := Lib.hid (And.intro hO5 hP5)
    have HX5 := Lib.hid (HX3.out.trans hE5)
    have lw5 : w.heap.size < w5.heap.size := World.block_lt_of_cell? _ _ t0
    obtain ⟨n1, hn1⟩ : ∃ x, (cellsT (fillT B rl)).length = x := ⟨_, rfl⟩
    obtain ⟨n2, hn2⟩ : ∃ x, (fullT (fillT B rl)).length = x := ⟨_, rfl⟩
    have HLN := Lib.hid (And.intro hn1 hn2)
    rw [hn1, hn2] at HO5 ⊢
    clear hO5 hP5 hE5 tf hn1 hn2 HFI
    go_wp2_with fail
    obtain ⟨W, hW⟩ : ∃ W, ((w5.setCell ⟨w.heap.size, 0, none⟩ (.int .i64 B)).setCell ⟨w.heap.size, 1, none⟩ (.slice C n1 c)).setCell ⟨w.heap.size, 2, none⟩ (.slice F n2 f) = W := ⟨_, rfl⟩
    have s0 : W.cell? ⟨w.heap.size, 0, none⟩ = some (.int .i64 B) := by subst hW; go_simp
    have s1 : W.cell? ⟨w.heap.size, 1, none⟩ = some (.slice C n1 c) := by subst hW; go_simp
    have s2 : W.cell? ⟨w.heap.size, 2, none⟩ = some (.slice F n2 f) := by subst hW; go_simp
    have HXW : Hid (Ext w W) := Lib.hid (by rw [← hW]; exact ((HX5.out.setCell (p := ⟨w.heap.size, 0, none⟩) (Nat.le_refl _) _).setCell (p := ⟨w.heap.size, 1, none⟩) (Nat.le_refl _) _).setCell (p := ⟨w.heap.size, 2, none⟩) (Nat.le_refl _) _)
    have HAW : Hid (Ow kU32 w.heap.size W (.slice C n1 c) (zs (cellsT (fillT B rl)))) := Lib.hid (by rw [← hW]; exact (((HO5.out.1.setBelow (p := ⟨w.heap.size, 0, none⟩) lw3 _).setBelow (p := ⟨w.heap.size, 1, none⟩) lw3 _).setBelow (p := ⟨w.heap.size, 2, none⟩) lw3 _).mono (Nat.le_of_lt lw3))
    have HFW : Hid (Ow kBool w.heap.size W (.slice F n2 f) (fullT (fillT B rl))) := Lib.hid (by rw [← hW]; exact (((HO5.out.2.setBelow (p := ⟨w.heap.size, 0, none⟩) lw3 _).setBelow (p := ⟨w.heap.size, 1, none⟩) lw3 _).setBelow (p := ⟨w.heap.size, 2, none⟩) lw3 _).mono (Nat.le_of_lt lw3))
    rw [hW]
    clear hW
    refine bodyPost_ret (v := .tuple #[.agg #[.int .i64 B, .slice C n1 c, .slice F n2 f], .int .i64 0]) (by simp [results, Try.results12, go_sem, s0, s1, s2]) rfl (by
      rw [HFF.out]
      refine ⟨C, F, c, f, ?_, ?_, ?_, HXW.out⟩
      · show _ = Ending.returned (.tuple #[.agg #[.int .i64 B, .slice C (cellsT (fillT B rl)).length c, .slice F (fullT (fillT B rl)).length f], .int .i64 0])
        rw [HLN.out.1, HLN.out.2]
      · show Ow kU32 w.heap.size W (.slice C (cellsT (fillT B rl)).length c) (zs (cellsT (fillT B rl)))
        rw [HLN.out.1]; exact HAW.out
      · show Ow kBool w.heap.size W (.slice F (fullT (fillT B rl)).length f) (fullT (fillT B rl))
        rw [HLN.out.2]; exact HFW.out)
end Go.Proofs.Ytofiokegdgdacaa

/- The program's Keys. -/
namespace Go.Proofs.Ytofiokegdgdacaa
open Go.BigFrame
open Go.RowKit Go.Proofs.Ytofiokegdgdacaa.Plain

set_option maxHeartbeats 3200000 in
set_option maxRecDepth 100000 in
theorem pkeysS_any (t : Tb) (C F : Option Addr) (cc cf : Nat) (w : World) (hC : Rd kU32 w (.slice C t.cells.length cc) (zs t.cells)) (hF : Rd kBool w (.slice F t.full.length cf) t.full) (hc : t.cells.length ≤ 2000) (hf : t.full.length ≤ 2000) :
    Calls Try.prog 22 #[tabV t.bits C t.cells.length cc F t.full.length cf] w fun ed w' => ∃ (A : Option Addr) (c : Nat), ed = .returned (.slice A (keysP t).length c) ∧ Ow kU32 w.heap.size w' (.slice A (keysP t).length c) (zs (keysP t)) ∧ Ext w w' := by
  obtain ⟨bits, cells, full⟩ := t
  have HK : Hid (keysP ⟨bits, cells, full⟩ = risingR (keysT cells full (min full.length cells.length))) := Lib.hid rfl
  simp only at hC hF hc hf ⊢
  have HC := Lib.hid hC
  have HF := Lib.hid hF
  obtain ⟨m, hm⟩ : ∃ m, min full.length cells.length = m := ⟨_, rfl⟩
  rw [hm] at HK
  obtain ⟨nc, hnc⟩ : ∃ m, cells.length = m := ⟨_, rfl⟩
  obtain ⟨nf, hnf⟩ : ∃ m, full.length = m := ⟨_, rfl⟩
  have HN := Lib.hid (And.intro hnc hnf)
  rw [hnc] at hm hc ⊢
  rw [hnf] at hm hf ⊢
  have hm1 : m ≤ nf := by omega
  have hm2 : m ≤ nc := by omega
  have hmI : (if (nf : Int) < (nc : Int) then (nf : Int) else (nc : Int)) = (m : Int) := by split <;> omega
  have hmI2 : (if (nf : Int) < (nc : Int) then Value.int .i64 (nf : Int) else Value.int .i64 (nc : Int)) = Value.int .i64 (m : Int) := by split <;> (congr 1; omega)
  have hmN : (if nf < nc then (nf : Int) else (nc : Int)) = (m : Int) := by split <;> omega
  have hmN2 : (if nf < nc then Value.int .i64 (nf : Int) else Value.int .i64 (nc : Int)) = Value.int .i64 (m : Int) := by split <;> (congr 1; omega)
  have hm9 : (m : Int) ≤ 2000 := by omega
  clear hC hF hc hf hm hnc hnf
  go_enter Try.func22, Try.ntmps22
  go_wp2_with fail
  obtain ⟨W0, hW0⟩ : ∃ W0, w.alloc (.cells #[.int .i64 bits, .slice C nc cc, .slice F nf cf] 25) = W0 := ⟨_, rfl⟩
  have k1 : W0.cell? ⟨w.heap.size, 1, none⟩ = some (.slice C nc cc) := by subst hW0; go_simp
  have k2 : W0.cell? ⟨w.heap.size, 2, none⟩ = some (.slice F nf cf) := by subst hW0; go_simp
  have HKS := Lib.hid (And.intro k1 k2)
  have HX0 : Hid (Ext w W0) := Lib.hid (by rw [← hW0]; exact (Ext.refl w).alloc _)
  try rw [hW0]
  clear hW0 k1 k2 hmI hmI2 hmN hmN2
  go_loopw [3, 12] (fun v i wr => ∃ k : Nat, k ≤ m ∧ i = .int .i64 k ∧ Ow kU32 W0.heap.size wr v (zs (keysT cells full k)) ∧ Ext W0 wr) (fun _ i _ => m - (intOf i).toNat)
  case atStart => exact ⟨0, Nat.zero_le _, rfl, Ow.nil _ _, Ext.refl _⟩
  case round =>
    obtain ⟨k, hk, rfl, hO, hX⟩ := hrel
    have HO := Lib.hid hO
    have HX := Lib.hid hX
    have hk0 : (0 : Int) ≤ k := by omega
    obtain ⟨k1, k2⟩ := HKS.out
    replace k1 := hX.cell k1
    replace k2 := hX.cell k2
    have lw : w.heap.size < wr.heap.size := World.block_lt_of_cell? _ _ k1
    clear hO hX
    by_cases hlt : k < m
    · have hlt' : (k : Int) < m := by omega
      have hdk : decide (k < m) = true := decide_eq_true hlt
      have hlf : (k : Int) < nf := by omega
      have hlc : (k : Int) < nc := by omega
      obtain ⟨bf, of_, rfl, z0⟩ := bool_at (HF.out.ext (HX0.out.trans HX.out)) k (by have := HN.out; omega)
      obtain ⟨bc, oc, rfl, x0, hxl⟩ := u32_at (HC.out.ext (HX0.out.trans HX.out)) k (by have := HN.out; omega)
      have lbf : bf < wr.heap.size := World.block_lt_of_cell? _ _ z0
      have lbc : bc < wr.heap.size := World.block_lt_of_cell? _ _ x0
      have hks := keysT_succ cells full k
      obtain ⟨x, hx⟩ : ∃ x, cells.getD k 0 = x := ⟨_, rfl⟩
      rw [hx] at x0 hxl hks
      cases hkf : full.getD k false with
      | false =>
        have z0' : wr.cell? ⟨bf, of_ + k, none⟩ = some (.bool false) := by rw [z0]; show some (Value.bool (full.getD k false)) = _; rw [hkf]
        rw [hkf, if_neg (by decide), List.append_nil] at hks
        have HKT := Lib.hid hks
        clear hks z0 hkf hx hxl
        go_wp2_with fail
        go_roundw
        case rel => exact ⟨k + 1, by omega, by go_num, by rw [HKT.out]; exact HO.out, HX.out⟩
        case measure => simp [intOf]; omega
      | true =>
        have z0' : wr.cell? ⟨bf, of_ + k, none⟩ = some (.bool true) := by rw [z0]; show some (Value.bool (full.getD k false)) = _; rw [hkf]
        rw [hkf, if_pos rfl] at hks
        have HKT := Lib.hid hks
        have HXL := Lib.hid hxl
        have HLL : Hid ((zs (keysT cells full k)).length + [(x : Int)].length ≤ 1048576) := Lib.hid (by have := keysT_len cells full k; rw [zs_len, List.length_singleton]; omega)
        have hzx := HX.out.size
        clear hks z0 hkf hx hxl
        go_wp2_with (at_builtin; refine kU32.wpList_app (by rfl) (.tmp 20) (.tmp 26) (by rfl) (by rfl) W0.heap.size _ (zs (keysT cells full k)) (by rfl) (HO.out.ext ((Ext.refl _).alloc _)) _ [(x : Int)] (by rfl) (u32_lit _ x HXL.out) HLL.out (by simp; omega) ?_; intro v' w8 hown8 hgrow8 hat8)
        have H8 := Lib.hid (And.intro hown8 (And.intro hgrow8 hat8))
        clear hown8 hgrow8 hat8
        go_wp2_with fail
        go_roundw
        case rel =>
          obtain ⟨hown8, hgrow8, hat8⟩ := H8.out
          exact ⟨k + 1, by omega, by go_num, by rw [HKT.out, zs_app]; exact hown8, Ext.grown (HX.out.alloc _) hgrow8 (fun q hq => (HO.out.lt q hq).1)⟩
        case measure => simp [intOf]; omega
    · obtain rfl : k = m := by omega
      obtain ⟨A, c, hv, _⟩ := HO.out.slice
      rw [zs_len] at hv
      subst hv
      have HXX := Lib.hid (HX0.out.trans HX.out)
      have hkl := keysT_len cells full k
      have HRd := Lib.hid HO.out.rd
      obtain ⟨ks, hks⟩ : ∃ x, keysT cells full k = x := ⟨_, rfl⟩
      rw [hks] at HK HO HRd hkl ⊢
      have hzz := HXX.out.size
      clear hks
      go_wp2_with fail
      refine (prising_any ks A c wr HRd.out (by omega)).mono ?_
      rintro ed w8 ⟨A8, c8, rfl, hO8, hE8⟩
      have HO8 := Lib.hid (hO8.mono (B' := w.heap.size) hzz)
      have HX8 := Lib.hid (HXX.out.trans hE8)
      clear hO8 hE8
      go_wp2_with fail
      refine bodyPost_ret (v := .slice A8 (risingR ks).length c8) (by simp [results, Try.results22, go_sem]) rfl ⟨A8, c8, by rw [HK.out], by rw [HK.out]; exact HO8.out, HX8.out⟩
end Go.Proofs.Ytofiokegdgdacaa

/- The document's Same (ref12). -/
namespace Go.Proofs.Ytofiokegdgdacaa
open Go.BigFrame
open Go.RowKit Go.Proofs.Ytofiokegdgdacaa.Plain

set_option maxHeartbeats 1600000 in
set_option maxRecDepth 100000 in
theorem rsame12_any (s t : Tb) (C F C' F' : Option Addr) (cc cf cc' cf' : Nat) (w : World) (hC : Rd kU32 w (.slice C s.cells.length cc) (zs s.cells)) (hF : Rd kBool w (.slice F s.full.length cf) s.full) (hC' : Rd kU32 w (.slice C' t.cells.length cc') (zs t.cells)) (hF' : Rd kBool w (.slice F' t.full.length cf') t.full) (hf : s.full.length ≤ 2000) :
    Calls Try.prog 18 #[tabV s.bits C s.cells.length cc F s.full.length cf, tabV t.bits C' t.cells.length cc' F' t.full.length cf'] w fun ed w' => ed = .returned (.bool (sameTb s t)) ∧ Ext w w' := by
  obtain ⟨bits, cells, full⟩ := s
  obtain ⟨bits', cells', full'⟩ := t
  have hS : sameTb ⟨bits, cells, full⟩ ⟨bits', cells', full'⟩ = (decide (bits = bits') && decide (full = full') && decide (cells = cells')) := rfl
  simp only at hC hF hC' hF' hf ⊢
  have HC := Lib.hid hC
  have HF := Lib.hid hF
  have HC' := Lib.hid hC'
  have HF' := Lib.hid hF'
  have HS := Lib.hid hS
  have hf9 : (full.length : Int) ≤ 2000 := by omega
  rw [hS]
  clear hC hF hC' hF' hf hS
  go_enter Try.func18, Try.ntmps18
  by_cases hb : bits = bits'
  · subst hb
    have hb1 : (bits != bits) = false := by simp
    by_cases hl : full.length = full'.length
    · have hl1 : ((full.length : Int) != (full'.length : Int)) = false := by simp; omega
      have hl2 : (full.length != full'.length) = false := by simp [hl]
      have HL := Lib.hid hl
      clear hl
      go_wp2_with fail
      obtain ⟨W0, hW0⟩ : ∃ W0, ((w.alloc (.cells #[.int .i64 bits, .slice C cells.length cc, .slice F full.length cf] 25)).alloc (.cells #[.int .i64 bits, .slice C' cells'.length cc', .slice F' full'.length cf'] 25)) = W0 := ⟨_, rfl⟩
      have k1 : W0.cell? ⟨w.heap.size, 1, none⟩ = some (.slice C cells.length cc) := by subst hW0; go_simp
      have k2 : W0.cell? ⟨w.heap.size, 2, none⟩ = some (.slice F full.length cf) := by subst hW0; go_simp
      have j1 : W0.cell? ⟨w.heap.size + 1, 1, none⟩ = some (.slice C' cells'.length cc') := by subst hW0; go_simp
      have j2 : W0.cell? ⟨w.heap.size + 1, 2, none⟩ = some (.slice F' full'.length cf') := by subst hW0; go_simp
      have HKS := Lib.hid (And.intro (And.intro k1 k2) (And.intro j1 j2))
      have HX0 : Hid (Ext w W0) := Lib.hid (by rw [← hW0]; exact ((Ext.refl w).alloc _).alloc _)
      try rw [hW0]
      clear hW0 k1 k2 j1 j2
      go_loopw [5] (fun i wr => ∃ k : Nat, k ≤ full.length ∧ i = .int .i64 k ∧ (∀ j, j < k → kept full j = kept full' j) ∧ Ext W0 wr) (fun i _ => full.length - (intOf i).toNat)
      case atStart => exact ⟨0, Nat.zero_le _, rfl, by omega, Ext.refl _⟩
      case round =>
        obtain ⟨k, hk, rfl, hno, hX⟩ := hrel
        have HX := Lib.hid hX
        have HNO := Lib.hid hno
        have hk0 : (0 : Int) ≤ k := by omega
        obtain ⟨⟨k1, k2⟩, ⟨j1, j2⟩⟩ := HKS.out
        replace k1 := hX.cell k1
        replace k2 := hX.cell k2
        replace j1 := hX.cell j1
        replace j2 := hX.cell j2
        have lw1 : w.heap.size < wr.heap.size := World.block_lt_of_cell? _ _ k1
        have lw2 : w.heap.size + 1 < wr.heap.size := World.block_lt_of_cell? _ _ j1
        clear hX hno
        by_cases hlt : k < full.length
        · have hlt' : (k : Int) < full.length := by omega
          have hlt2 : (k : Int) < full'.length := by have := HL.out; omega
          obtain ⟨bx, ox, rfl, z0⟩ := bool_at (HF.out.ext (HX0.out.trans HX.out)) k hlt
          obtain ⟨by_, oy, rfl, z1⟩ := bool_at (HF'.out.ext (HX0.out.trans HX.out)) k (by have := HL.out; omega)
          obtain ⟨a, ha⟩ : ∃ a, kept full k = a := ⟨_, rfl⟩
          obtain ⟨b, hb⟩ : ∃ a, kept full' k = a := ⟨_, rfl⟩
          rw [ha] at z0
          rw [hb] at z1
          have HAB := Lib.hid (And.intro ha hb)
          have KS : Hid (∀ w', Ext wr w' → w'.cell? ⟨w.heap.size, 2, none⟩ = some (.slice (some ⟨bx, ox, none⟩) full.length cf) ∧ w'.cell? ⟨w.heap.size + 1, 2, none⟩ = some (.slice (some ⟨by_, oy, none⟩) full'.length cf') ∧ w'.cell? ⟨bx, ox + k, none⟩ = some (.bool a) ∧ w'.cell? ⟨by_, oy + k, none⟩ = some (.bool b)) := Lib.hid (fun w' hE => ⟨hE.cell k2, hE.cell j2, hE.cell z0, hE.cell z1⟩)
          clear z0 z1 ha hb j1 j2 k1
          by_cases hab : a = b
          · subst hab
            have hx1 : (a != a) = false := by simp
            go_wp2_with fail
            refine wp_region_class (Ext wr) (by kernel_rfl) (by kernel_rfl) (Ext.refl _).drew ?_
            try simp only [List.append_eq, List.cons_append, List.nil_append]
            repeat (first
              | go_big_quiet_skip
              | (go_big_quiet_want
                 first
                 | (go_big_quiet_op; go_big_quiet_on)
                 | (unfold Oper.quiet
                    apply Exists.intro
                    refine ⟨fun w' hC => ?_, ?_⟩
                    · (obtain ⟨k1, k2, k3, k4⟩ := KS.out w' hC
                       unfold Oper.quietAt
                       go_simp
                       first
                       | exact rfl)
                    go_simp
                    go_big_quiet_on)))
            refine wpQuiet_nil ?_
            intro w9 hC9
            have hnx : ∀ j, j < k + 1 → kept full j = kept full' j := fun j hj => by
              by_cases e : j = k
              · subst e; rw [HAB.out.1, HAB.out.2]
              · exact HNO.out j (by omega)
            have HNX := Lib.hid hnx
            clear hnx
            go_wp2_with fail
            all_goals go_roundw
            all_goals first
              | exact ⟨k + 1, by omega, by go_num, HNX.out, HX.out.trans hC9⟩
              | (simp [intOf]; omega)
              | fail
          · have HNE : Hid (full ≠ full') := Lib.hid fun e => hab (by rw [← HAB.out.1, ← HAB.out.2, e])
            obtain rfl : b = !a := by cases a <;> cases b <;> simp_all
            clear hab
            go_wp2_with fail
            cases a
            all_goals
              simp only [Bool.not_true, Bool.not_false] at KS
              refine wp_region_class (Ext wr) (by kernel_rfl) (by kernel_rfl) (Ext.refl _).drew ?_
              try simp only [List.append_eq, List.cons_append, List.nil_append]
              repeat (first
                | go_big_quiet_skip
                | (go_big_quiet_want
                   first
                   | (go_big_quiet_op; go_big_quiet_on)
                   | (unfold Oper.quiet
                      apply Exists.intro
                      refine ⟨fun w' hC => ?_, ?_⟩
                      · (obtain ⟨k1, k2, k3, k4⟩ := KS.out w' hC
                         unfold Oper.quietAt
                         go_simp
                         first
                         | exact rfl)
                      go_simp
                      go_big_quiet_on)))
              refine wpQuiet_nil ?_
              intro w9 hC9
              go_wp2_with fail
              go_ret
              exact ⟨ret_bool (by rw [decide_eq_false HNE.out]; simp), (HX0.out.trans HX.out).trans hC9⟩
        · obtain rfl : k = full.length := by omega
          have heq : full = full' := by
            apply List.ext_getElem?
            intro i
            by_cases hi : i < full.length
            · have h9 := HNO.out i hi
              unfold kept at h9
              rw [List.getD_eq_getElem?_getD, List.getD_eq_getElem?_getD, List.getElem?_eq_getElem hi, List.getElem?_eq_getElem (by rw [← HL.out]; exact hi)] at h9
              rw [List.getElem?_eq_getElem hi, List.getElem?_eq_getElem (by rw [← HL.out]; exact hi)]
              exact congrArg some h9
            · rw [List.getElem?_eq_none (by omega), List.getElem?_eq_none (by rw [← HL.out]; omega)]
          have HEQ := Lib.hid heq
          have HXX := Lib.hid (HX0.out.trans HX.out)
          clear heq
          go_wp2_with fail
          refine (rwords_any _ _ _ _ _ (HC.out.ext HXX.out) (HC'.out.ext HXX.out)).mono ?_
          rintro ed w9 ⟨rfl, hE9⟩
          have HX9 := Lib.hid (HXX.out.trans hE9)
          have hsb : sameB (zs cells) (zs cells') = decide (cells = cells') := by
            unfold sameB
            by_cases h : cells = cells'
            · rw [decide_eq_true h, decide_eq_true (by rw [h])]
            · rw [decide_eq_false h, decide_eq_false (fun e => h (by
                have h1 := congrArg (fun l => l.map Int.toNat) e
                unfold zs at h1
                simp only [List.map_map] at h1
                have h2 : (Int.toNat ∘ fun k : Nat => (k : Int)) = id := by funext x; simp
                rw [h2, List.map_id, List.map_id] at h1
                exact h1))]
          rw [hsb]
          clear hE9 hsb
          go_wp2_with fail
          go_ret
          exact ⟨ret_bool (by rw [decide_eq_true HEQ.out]; simp), HX9.out⟩
    · have hl1 : ((full.length : Int) != (full'.length : Int)) = true := by simp; omega
      have hl2 : (full.length != full'.length) = true := by simp [hl]
      have HN : Hid (full ≠ full') := Lib.hid (fun e => hl (by rw [e]))
      clear hl
      go_wp2_with fail
      go_ret
      exact ⟨ret_bool (by rw [decide_eq_false HN.out]; simp), ((Ext.refl _).alloc _).alloc _⟩
  · have hb1 : (bits != bits') = true := by simp [hb]
    have HN := Lib.hid hb
    clear hb
    go_wp2_with fail
    go_ret
    exact ⟨ret_bool (by rw [decide_eq_false HN.out]; simp), ((Ext.refl _).alloc _).alloc _⟩
end Go.Proofs.Ytofiokegdgdacaa

/- The document's Right (ref12). -/
namespace Go.Proofs.Ytofiokegdgdacaa
open Go.BigFrame
open Go.RowKit Go.Proofs.Ytofiokegdgdacaa.Plain

theorem Plain.keysP_len (t : Tb) : (keysP t).length ≤ t.cells.length := by
  refine Nat.le_trans (risingR_len _) (Nat.le_trans (keysT_len _ _ _) (Nat.min_le_right _ _))
set_option maxHeartbeats 3200000 in
set_option maxRecDepth 100000 in
theorem rright12_any (t : Tb) (C F : Option Addr) (cc cf : Nat) (w : World) (hC : Rd kU32 w (.slice C t.cells.length cc) (zs t.cells)) (hF : Rd kBool w (.slice F t.full.length cf) t.full) (hc : t.cells.length ≤ 2000) (hf : t.full.length ≤ 2000) (hb : in64 t.bits) :
    Calls Try.prog 20 #[tabV t.bits C t.cells.length cc F t.full.length cf] w fun ed w' => ed = .returned (.bool (rightP t)) ∧ Ext w w' := by
  have hkl := keysP_len t
  have hR : rightP t = (decide ((makeP t.bits (keysP t)).2 = 0) && sameTb (makeP t.bits (keysP t)).1 t) := rfl
  obtain ⟨ks, hks⟩ : ∃ x, keysP t = x := ⟨_, rfl⟩
  rw [hks] at hkl hR
  obtain ⟨⟨y, er⟩, hy⟩ : ∃ x, makeP t.bits ks = x := ⟨_, rfl⟩
  rw [hy] at hR
  simp only at hR
  have hfl : y.full.length ≤ 2000 := by
    have h9 : (makeP t.bits ks).1.full.length ≤ 2000 := by
      unfold makeP
      split
      · exact Nat.zero_le _
      · split
        · exact Nat.zero_le _
        · rename_i h1 h2
          show (fullT (fillT t.bits.toNat (risingR ks))).length ≤ 2000
          have h10 : t.bits.toNat ≤ 10 := by omega
          have h3 : 2 ^ t.bits.toNat ≤ 1024 := Nat.pow_le_pow_right (n := 2) (by decide) h10
          have := (inv_of (B := t.bits.toNat) (risingR_good _ ks rfl).1 (by omega)).len
          rw [fullT_len, this]; omega
    rw [hy] at h9; exact h9
  obtain ⟨bits, cells, full⟩ := t
  simp only at hC hF hc hf hb hkl hy ⊢
  have HC := Lib.hid hC
  have HF := Lib.hid hF
  have HB := Lib.hid (And.intro hb (And.intro hc (And.intro hf (And.intro hkl hfl))))
  have HKS := Lib.hid hks
  have HY := Lib.hid hy
  have HR := Lib.hid hR
  clear hC hF hc hf hb hkl hks hy hR hfl
  go_enter Try.func20, Try.ntmps20
  go_upto_region 1 with fail
  obtain ⟨w1, hw1⟩ : ∃ w1, w.alloc (.cells #[.int .i64 bits, .slice C cells.length cc, .slice F full.length cf] 25) = w1 := ⟨_, rfl⟩
  have k0 : w1.cell? ⟨w.heap.size, 0, none⟩ = some (.int .i64 bits) := by subst hw1; go_simp
  have k1 : w1.cell? ⟨w.heap.size, 1, none⟩ = some (.slice C cells.length cc) := by subst hw1; go_simp
  have k2 : w1.cell? ⟨w.heap.size, 2, none⟩ = some (.slice F full.length cf) := by subst hw1; go_simp
  have HX1 : Hid (Ext w w1) := Lib.hid (by rw [← hw1]; exact (Ext.refl w).alloc _)
  have lw1 : w.heap.size < w1.heap.size := World.block_lt_of_cell? _ _ k0
  rw [hw1]
  clear hw1
  go_cut [3, 4] from 5 to 12 (fun p e wx => ∃ (P : Nat) (C' F' : Option Addr) (cc' cf' : Nat), p = .pointer (some ⟨P, 0, none⟩) ∧ e = .int .i64 er ∧ (wx.cell? ⟨P, 0, none⟩ = some (.int .i64 y.bits) ∧ wx.cell? ⟨P, 1, none⟩ = some (.slice C' y.cells.length cc') ∧ wx.cell? ⟨P, 2, none⟩ = some (.slice F' y.full.length cf')) ∧ Rd kU32 wx (.slice C' y.cells.length cc') (zs y.cells) ∧ Rd kBool wx (.slice F' y.full.length cf') y.full ∧ Ext w1 wx)
  case first =>
    go_region_law (first
      | (go_simp; go_at_call 23
         refine (rkeys12_any ⟨bits, cells, full⟩ C F cc cf _ (HC.out.ext (HX1.out.trans (by repeat (first | (with_reducible exact Ext.refl _) | (with_reducible assumption) | refine Ext.drew ?_ | refine Ext.drewN ?_ _ | refine Ext.alloc ?_ _)))) (HF.out.ext (HX1.out.trans (by repeat (first | (with_reducible exact Ext.refl _) | (with_reducible assumption) | refine Ext.drew ?_ | refine Ext.drewN ?_ _ | refine Ext.alloc ?_ _)))) HB.out.2.1 HB.out.2.2.1).mono ?_
         rw [HKS.out]
         rintro ed w5 ⟨A5, c5, rfl, hO5, hE5⟩
         have hx5 : Ext w1 w5 := Ext.trans (by repeat (first | (with_reducible exact Ext.refl _) | (with_reducible assumption) | refine Ext.drew ?_ | refine Ext.drewN ?_ _ | refine Ext.alloc ?_ _)) hE5
         have m0 := hx5.cell k0
         have m1 := hx5.cell k1
         have m2 := hx5.cell k2
         have hs5 := hx5.size
         have lm5 : w.heap.size < w5.heap.size := World.block_lt_of_cell? _ _ m0
         try have pc0 : w5.cell? ⟨w1.heap.size, 0, none⟩ = some (.int .i64 0) := Ext.cell hE5 (by first | (go_simp; done) | fail)
         try have pc1 : w5.cell? ⟨w1.heap.size, 1, none⟩ = some (.slice none 0 0) := Ext.cell hE5 (by first | (go_simp; done) | fail)
         try have pc2 : w5.cell? ⟨w1.heap.size, 2, none⟩ = some (.slice none 0 0) := Ext.cell hE5 (by first | (go_simp; done) | fail)
         try have pf : ∀ o, w5.frozen? ⟨w1.heap.size, o, none⟩ = false := fun o => (Below.frozen hE5 (p := ⟨w1.heap.size, o, none⟩) (by first | (simp; done) | (simp; omega) | fail)).trans (by first | (go_simp; done) | fail)
         try have pl : w1.heap.size < w5.heap.size := World.block_lt_of_cell? _ _ pc0)
      | (go_simp; go_at_call 13
         refine (rmake_any bits ks A5 c5 _ (hO5.rd.ext (by repeat (first | (with_reducible exact Ext.refl _) | (with_reducible assumption) | refine Ext.drew ?_ | refine Ext.drewN ?_ _ | refine Ext.alloc ?_ _))) (by have := HB.out; omega) HB.out.1).mono ?_
         rw [HY.out]
         rintro ed w6 ⟨C6, F6, c6, f6, rfl, hC6, hF6, hE6⟩
         have hx6 : Ext w5 w6 := Ext.trans (by repeat (first | (with_reducible exact Ext.refl _) | (with_reducible assumption) | refine Ext.drew ?_ | refine Ext.drewN ?_ _ | refine Ext.alloc ?_ _)) hE6
         have hs6 := hx6.size
         try have qc0 := hx6.cell pc0
         try have qc1 := hx6.cell pc1
         try have qc2 := hx6.cell pc2
         try have qf : ∀ o, w6.frozen? ⟨w1.heap.size, o, none⟩ = false := fun o => (Below.frozen hx6 (p := ⟨w1.heap.size, o, none⟩) pl).trans (pf o)
         try have rc0 : w6.cell? ⟨w5.heap.size, 0, none⟩ = some (.int .i64 0) := Ext.cell hE6 (by first | (go_simp; done) | fail)
         try have rc1 : w6.cell? ⟨w5.heap.size, 1, none⟩ = some (.slice none 0 0) := Ext.cell hE6 (by first | (go_simp; done) | fail)
         try have rc2 : w6.cell? ⟨w5.heap.size, 2, none⟩ = some (.slice none 0 0) := Ext.cell hE6 (by first | (go_simp; done) | fail)
         try have rf : ∀ o, w6.frozen? ⟨w5.heap.size, o, none⟩ = false := fun o => (Below.frozen hE6 (p := ⟨w5.heap.size, o, none⟩) (by first | (simp; done) | (simp; omega) | fail)).trans (by first | (go_simp; done) | fail)
         try have rl : w5.heap.size < w6.heap.size := World.block_lt_of_cell? _ _ rc0)
      | fail)
    all_goals go_wp2_with fail
    all_goals go_meet
    all_goals first
        | (refine ⟨w6.heap.size, C6, F6, c6, f6, ?_, ?_, ⟨?_, ?_, ?_⟩, ?_, ?_, ?_⟩
           · with_reducible rfl
           · with_reducible rfl
           · (first | (go_simp; done) | fail)
           · (first | (go_simp; done) | fail)
           · (first | (go_simp; done) | fail)
           · exact hC6.rd.ext ((Ext.refl _).alloc _)
           · exact hF6.rd.ext ((Ext.refl _).alloc _)
           · exact (hx5.trans hx6).alloc _)
        | (refine ⟨w5.heap.size, C6, F6, c6, f6, ?_, ?_, ⟨?_, ?_, ?_⟩, ?_, ?_, ?_⟩
           · with_reducible rfl
           · with_reducible rfl
           · (first | (go_simp; done) | fail)
           · (first | (go_simp; done) | fail)
           · (first | (go_simp; done) | fail)
           · exact (((hC6.setBelow (p := ⟨w5.heap.size, 0, none⟩) (by first | (simp; done) | (simp; omega) | omega | fail) _).setBelow (p := ⟨w5.heap.size, 1, none⟩) (by first | (simp; done) | (simp; omega) | omega | fail) _).setBelow (p := ⟨w5.heap.size, 2, none⟩) (by first | (simp; done) | (simp; omega) | omega | fail) _).rd
           · exact (((hF6.setBelow (p := ⟨w5.heap.size, 0, none⟩) (by first | (simp; done) | (simp; omega) | omega | fail) _).setBelow (p := ⟨w5.heap.size, 1, none⟩) (by first | (simp; done) | (simp; omega) | omega | fail) _).setBelow (p := ⟨w5.heap.size, 2, none⟩) (by first | (simp; done) | (simp; omega) | omega | fail) _).rd
           · exact ((((hx5.trans hx6).setCell (p := ⟨w5.heap.size, 0, none⟩) (by first | exact Nat.le_refl _ | omega | fail) _).setCell (p := ⟨w5.heap.size, 1, none⟩) (by first | exact Nat.le_refl _ | omega | fail) _).setCell (p := ⟨w5.heap.size, 2, none⟩) (by first | exact Nat.le_refl _ | omega | fail) _))
        | (refine ⟨w1.heap.size, C6, F6, c6, f6, ?_, ?_, ⟨?_, ?_, ?_⟩, ?_, ?_, ?_⟩
           · with_reducible rfl
           · with_reducible rfl
           · (first | (go_simp; done) | fail)
           · (first | (go_simp; done) | fail)
           · (first | (go_simp; done) | fail)
           · exact (((hC6.setBelow (p := ⟨w1.heap.size, 0, none⟩) (by first | (simp; done) | (simp; omega) | omega | fail) _).setBelow (p := ⟨w1.heap.size, 1, none⟩) (by first | (simp; done) | (simp; omega) | omega | fail) _).setBelow (p := ⟨w1.heap.size, 2, none⟩) (by first | (simp; done) | (simp; omega) | omega | fail) _).rd
           · exact (((hF6.setBelow (p := ⟨w1.heap.size, 0, none⟩) (by first | (simp; done) | (simp; omega) | omega | fail) _).setBelow (p := ⟨w1.heap.size, 1, none⟩) (by first | (simp; done) | (simp; omega) | omega | fail) _).setBelow (p := ⟨w1.heap.size, 2, none⟩) (by first | (simp; done) | (simp; omega) | omega | fail) _).rd
           · exact ((((hx5.trans hx6).setCell (p := ⟨w1.heap.size, 0, none⟩) (by first | exact Nat.le_refl _ | omega | fail) _).setCell (p := ⟨w1.heap.size, 1, none⟩) (by first | exact Nat.le_refl _ | omega | fail) _).setCell (p := ⟨w1.heap.size, 2, none⟩) (by first | exact Nat.le_refl _ | omega | fail) _))
        | fail
  case rest =>
  obtain ⟨P, C', F', cc', cf', rfl, rfl, ⟨q0, q1, q2⟩, hRC, hRF, hX2⟩ := hcut
  generalize wc = w2 at *
  replace k0 := hX2.cell k0
  replace k1 := hX2.cell k1
  replace k2 := hX2.cell k2
  have lw2 : w.heap.size < w2.heap.size := World.block_lt_of_cell? _ _ k0
  have lP2 : P < w2.heap.size := World.block_lt_of_cell? _ _ q0
  have HRC := Lib.hid hRC
  have HRF := Lib.hid hRF
  have HX2 := Lib.hid (HX1.out.trans hX2)
  clear hRC hRF hX2 lw1 HX1
  by_cases her : er = 0
  · subst her
    go_wp2_with fail
    refine (rsame12_any y ⟨bits, cells, full⟩ C' F' C F cc' cf' cc cf _ HRC.out HRF.out (HC.out.ext HX2.out) (HF.out.ext HX2.out) HB.out.2.2.2.2).mono ?_
    rintro ed w9 ⟨rfl, hE9⟩
    have HX9 := Lib.hid (HX2.out.trans hE9)
    clear hE9
    go_wp2_with fail
    go_ret
    exact ⟨ret_bool (by rw [HR.out]; simp), HX9.out⟩
  · have he1 : (er == 0) = false := by simp [her]
    have HE := Lib.hid her
    clear her
    go_wp2_with fail
    go_ret
    exact ⟨ret_bool (by rw [HR.out, decide_eq_false HE.out]; simp), HX2.out⟩
end Go.Proofs.Ytofiokegdgdacaa
