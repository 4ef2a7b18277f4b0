/- Joined by wip/merge.py: TBeginN, CrBegin, D6A, DrS, D6B, D6C, R5A, R5B, R5C, DMove. -/
import Derived.Test.YtjabahfkgaamdaaJ4
import Derived.Deep.DeepCutAuto
import Derived.BigRegion
import Derived.IntWalk
import Derived.BigQuiet
import Derived.Laws.Cover1
import Derived.Deep.RegionWith
/- The program's Begin of work, in new memory. -/
namespace Go.Proofs.Ytjabahfkgaamdaa
open Go.RowKit Go.Proofs.Ytjabahfkgaamdaa.Plain

def BeginNew (w : World) (n g : Int) (e : Ending) (w' : World) : Prop :=
  ∃ A c B d, e = .returned (.tuple #[.agg #[.slice A 1 c, .int .i64 g, .slice B n.toNat d], .int .i64 0]) ∧
    Rd kTask w' (.slice A 1 c) [⟨0, n, -1, 0⟩] ∧ Rd kBool w' (.slice B n.toNat d) (List.replicate n.toNat false) ∧ From w.heap.size A ∧ From w.heap.size B ∧ Ext w w'
set_option maxHeartbeats 800000 in
set_option maxRecDepth 100000 in
theorem pbegin_new (n g : Int) (w : World) (hn : in64 n) (hg : in64 g) (hc : cOk n g = true) :
    Calls Try.prog 42 #[.int .i64 n, .int .i64 g] w (BeginNew w n g) := by
  have HN := Lib.hid hn
  have HG := Lib.hid hg
  have HC := Lib.hid hc
  obtain ⟨a1, a2, a3, a4⟩ : 1 ≤ n ∧ n ≤ 1000 ∧ 1 ≤ g ∧ g ≤ 100 := by unfold cOk at hc; simp only [Bool.and_eq_true, decide_eq_true_eq] at hc; omega
  obtain ⟨N, rfl⟩ : ∃ N : Nat, n = N := ⟨n.toNat, by omega⟩
  clear hc hn hg
  obtain ⟨C, hmk, hown⟩ := kBool.make false rfl trivial N (by omega)
  have hmk' : ∀ w : World, (Instr.makeSlice 52 (.int .i64 N) (.int .i64 N)).run Try.prog w = .ok (.slice (some ⟨w.heap.size, 0, none⟩) N N) (w.alloc (.cells C 4)) := hmk
  have HO := Lib.hid hown
  clear hmk hown
  go_enter Try.func42, Try.ntmps42
  go_wp2_with fail
  refine (sized_any _ _ _ HN.out HG.out).mono ?_
  rintro e w1 ⟨he, rfl⟩
  rw [HC.out] at he
  subst he
  go_wp2_with fail
  go_region
  all_goals (try go_wp2)
  · refine bodyPost_ret (v := .tuple #[.agg #[.slice (some ⟨w.heap.size + 1 + 1, 0, none⟩) 1 1, .int .i64 g, .slice (some ⟨w.heap.size + 1 + 1 + 1, 0, none⟩) N N], .int .i64 0]) (by simp [results, Try.results42, go_sem]) rfl ⟨_, 1, _, N, rfl, ?_, ?_, fun a ha => by cases ha; simp only; omega, fun a ha => by cases ha; simp only; omega, ?_⟩
    · exact (Ow.lit (K := kTask) (B := 0) (p := w.heap.size + 1 + 1) _ [⟨0, N, -1, 0⟩] #[.int .i64 0, .int .i64 N, .int .i64 (-1), .int .i64 0] rfl rfl (by simp) (Nat.zero_le _) (by simp [maxLen]) (by intro x hx; simp only [List.mem_singleton] at hx; subst hx; exact tk_ok (by unfold in64; omega) (by unfold in64; omega) (by unfold in64; omega) (by unfold in64; omega))).rd.ext ((Ext.refl _).alloc _).drew
    · exact (HO.out _ 0 (w.heap.size + 1 + 1 + 1) (by simp) (Nat.zero_le _)).rd.ext (Ext.refl _).drew
    · exact (((((Ext.refl w).alloc _).alloc _).alloc _).alloc _).drew
  · refine bodyPost_ret (v := .tuple #[.agg #[.slice (some ⟨w.heap.size + 1 + 1 + 1, 0, none⟩) 1 1, .int .i64 g, .slice (some ⟨w.heap.size + 1 + 1, 0, none⟩) N N], .int .i64 0]) (by simp [results, Try.results42, go_sem]) rfl ⟨_, 1, _, N, rfl, ?_, ?_, fun a ha => by cases ha; simp only; omega, fun a ha => by cases ha; simp only; omega, ?_⟩
    · exact (Ow.lit (K := kTask) (B := 0) (p := w.heap.size + 1 + 1 + 1) _ [⟨0, N, -1, 0⟩] #[.int .i64 0, .int .i64 N, .int .i64 (-1), .int .i64 0] rfl rfl (by simp) (Nat.zero_le _) (by simp [maxLen]) (by intro x hx; simp only [List.mem_singleton] at hx; subst hx; exact tk_ok (by unfold in64; omega) (by unfold in64; omega) (by unfold in64; omega) (by unfold in64; omega))).rd.ext (Ext.refl _).drew
    · exact (HO.out _ 0 (w.heap.size + 1 + 1) (by simp) (Nat.zero_le _)).rd.ext ((Ext.refl _).alloc _).drew
    · exact (((((Ext.refl w).alloc _).alloc _).alloc _).alloc _).drew
end Go.Proofs.Ytjabahfkgaamdaa

/- The program's Begin of a crew. -/
namespace Go.Proofs.Ytjabahfkgaamdaa
open Go.BigFrame
open Go.RowKit Go.Proofs.Ytjabahfkgaamdaa.Plain

/-- but for two blocks -/
abbrev GrewTwo (w : World) (X Y : Nat) (W : World) : Prop := Grew (fun x => x = X ∨ x = Y) w W
def CBeginSaid (n g m : Nat) (w : World) (ed : Ending) (w' : World) : Prop :=
  ∃ (A B : Option Addr) (e0 a b : Nat), ed = .returned (.tuple #[crewV A B e0 0 a b m g m (beginC n m), .int .i64 0]) ∧ CrewAt w' m (beginC n m) A B e0 0 a b ∧ Ext w w'
/-- .. in memory that is new -/
def CBeginOff (n g m : Nat) (w : World) (ed : Ending) (w' : World) : Prop :=
  ∃ (A B : Option Addr) (e0 a b : Nat), ed = .returned (.tuple #[crewV A B e0 0 a b m g m (beginC n m), .int .i64 0]) ∧ CrewO (fun x => x < w.heap.size) w' m (beginC n m) A B e0 0 a b ∧ Ext w w'
set_option maxRecDepth 100000 in
theorem manned_no (m : Int) (w : World) (m1 : 8 < m) :
    Calls Try.prog 41 #[.int .i64 m] w fun e w' => e = .returned (.bool false) ∧ w = w' := by
  have m2 : ¬ m ≤ 8 := by omega
  have m3 : 1 ≤ m := by omega
  have m4 : decide (m ≤ 8) = false := decide_eq_false m2
  go_enter Try.func41, Try.ntmps41
  go_wp2
  go_ret
  exact ⟨rfl, rfl⟩
set_option maxHeartbeats 400000 in
set_option maxRecDepth 100000 in
/-- too many workers -/
theorem cbegin_no (n g m : Int) (w : World) (m1 : 8 < m) :
    Calls Try.prog 34 #[.int .i64 n, .int .i64 g, .int .i64 m] w fun ed w' => ∃ v, ed = .returned (.tuple #[v, .int .i64 1]) ∧ v = .agg #[.slice none 0 0, .int .i64 0, .slice none 0 0, .slice none 0 0, .bool false, .int .i64 0, .int .i64 0] ∧ Ext w w' := by
  go_enter Try.func34, Try.ntmps34
  go_wp2_with ((go_at_call 41; refine (manned_no m _ m1).mono ?_; rintro ed w1 ⟨rfl, rfl⟩))
  exact bodyPost_ret (v := .tuple #[.agg #[.slice none 0 0, .int .i64 0, .slice none 0 0, .slice none 0 0, .bool false, .int .i64 0, .int .i64 0], .int .i64 1]) (by simp [results, Try.results34, go_sem]) rfl ⟨_, rfl, rfl, by repeat (first | exact Ext.refl _ | refine Ext.alloc ?_ _ | refine Ext.setCell ?_ (Nat.le_refl _) _)⟩
set_option maxHeartbeats 800000 in
set_option maxRecDepth 100000 in
theorem cbegin_off (n g m : Nat) (w : World) (n1 : 1 ≤ n) (n2 : n ≤ 1000) (g1 : 1 ≤ g) (g2 : g ≤ 100) (m1 : 1 ≤ m) (m2 : m ≤ 8) :
    Calls Try.prog 34 #[.int .i64 n, .int .i64 g, .int .i64 m] w (CBeginOff n g m w) := by
  have HCK : Hid (cOk (n : Int) (g : Int) = true) := Lib.hid (by unfold cOk; simp; omega)
  have HNI : Hid (in64 (n : Int)) := Lib.hid (in64_nat n (by omega))
  have HGI : Hid (in64 (g : Int)) := Lib.hid (in64_nat g (by omega))
  have m3 : (1 : Int) ≤ m := by omega
  have m4 : (m : Int) ≤ 8 := by omega
  have m5 : (0 : Int) < m := by omega
  have m6 : 0 < m := by omega
  obtain ⟨C, hmk, hmown⟩ := kRow.make hd0 rfl trivial m (by omega)
  have HMK := Lib.hid hmown
  have hmk2 : ∀ w : World, (Instr.makeSlice 55 (.int .i64 m) (.int .i64 m)).run Try.prog w = .ok (.slice (some ⟨w.heap.size, 0, none⟩) m m) (w.alloc (.cells C 32)) := hmk
  clear hmk hmown
  go_enter Try.func34, Try.ntmps34
  go_wp2_with ((go_at_call 41; refine (manned_yes m _ m1 m2).mono ?_; rintro ed w1 ⟨rfl, rfl⟩))
  refine (pbegin_new (n : Int) (g : Int) _ HNI.out HGI.out HCK.out).mono ?_
  rintro ed w2 ⟨A1, a1, B1, b1, rfl, hT, hD, hA, hB, hE⟩
  rw [Int.toNat_natCast] at hD ⊢
  have HAB : Hid ((∀ a, A1 = some a → w.heap.size + 1 ≤ a.block ∧ a.block < w2.heap.size) ∧ (∀ a, B1 = some a → w.heap.size + 1 ≤ a.block ∧ a.block < w2.heap.size)) := Lib.hid ⟨fun a ha => ⟨by have := hA a ha; simpa using this, Rd.lt hT (by simp) a ha⟩, fun a ha => ⟨by have := hB a ha; simpa using this, Rd.lt hD (by simp; omega) a ha⟩⟩
  clear hA hB
  have r0 : w2.cell? ⟨w.heap.size, 0, none⟩ = some (.slice none 0 0) := Ext.cell hE (by go_simp)
  have r1 : w2.cell? ⟨w.heap.size, 1, none⟩ = some (.int .i64 0) := Ext.cell hE (by go_simp)
  have r2 : w2.cell? ⟨w.heap.size, 2, none⟩ = some (.slice none 0 0) := Ext.cell hE (by go_simp)
  have r3 : w2.cell? ⟨w.heap.size, 3, none⟩ = some (.slice none 0 0) := Ext.cell hE (by go_simp)
  have r4 : w2.cell? ⟨w.heap.size, 4, none⟩ = some (.bool false) := Ext.cell hE (by go_simp)
  have r5 : w2.cell? ⟨w.heap.size, 5, none⟩ = some (.int .i64 0) := Ext.cell hE (by go_simp)
  have r6 : w2.cell? ⟨w.heap.size, 6, none⟩ = some (.int .i64 0) := Ext.cell hE (by go_simp)
  have rf : ∀ o, w2.frozen? ⟨w.heap.size, o, none⟩ = false := fun o => (Below.frozen hE (p := ⟨w.heap.size, o, none⟩) (by first | omega | (simp; omega) | simp)).trans (by go_simp)
  have HT := Lib.hid hT
  have HD := Lib.hid hD
  have hz := hE.size
  simp at hz
  have l2 : w.heap.size < w2.heap.size := by omega
  have l3 : w.heap.size < w2.heap.size + 1 := by omega
  have HX2 := Lib.hid (((Ext.refl w).alloc _).trans hE)
  clear hT hD hE
  go_upto_region 7 with fail
  have hEb : Ext (w2.alloc (.cells #[.slice A1 1 a1, .int .i64 g, .slice B1 n b1] 54)) ((w2.alloc (.cells #[.slice A1 1 a1, .int .i64 g, .slice B1 n b1] 54)).alloc (.cells C 32)) := (Ext.refl _).alloc _
  have hEa : Ext w2 ((w2.alloc (.cells #[.slice A1 1 a1, .int .i64 g, .slice B1 n b1] 54)).alloc (.cells C 32)) := ((Ext.refl w2).alloc _).alloc _
  have s0 : ((w2.alloc (.cells #[.slice A1 1 a1, .int .i64 g, .slice B1 n b1] 54)).alloc (.cells C 32)).cell? ⟨w.heap.size, 0, none⟩ = some (.slice none 0 0) := Ext.cell hEa (by go_simp)
  have s1 : ((w2.alloc (.cells #[.slice A1 1 a1, .int .i64 g, .slice B1 n b1] 54)).alloc (.cells C 32)).cell? ⟨w.heap.size, 1, none⟩ = some (.int .i64 0) := Ext.cell hEa (by go_simp)
  have s2 : ((w2.alloc (.cells #[.slice A1 1 a1, .int .i64 g, .slice B1 n b1] 54)).alloc (.cells C 32)).cell? ⟨w.heap.size, 2, none⟩ = some (.slice none 0 0) := Ext.cell hEa (by go_simp)
  have s3 : ((w2.alloc (.cells #[.slice A1 1 a1, .int .i64 g, .slice B1 n b1] 54)).alloc (.cells C 32)).cell? ⟨w.heap.size, 3, none⟩ = some (.slice none 0 0) := Ext.cell hEa (by go_simp)
  have s4 : ((w2.alloc (.cells #[.slice A1 1 a1, .int .i64 g, .slice B1 n b1] 54)).alloc (.cells C 32)).cell? ⟨w.heap.size, 4, none⟩ = some (.bool false) := Ext.cell hEa (by go_simp)
  have s5 : ((w2.alloc (.cells #[.slice A1 1 a1, .int .i64 g, .slice B1 n b1] 54)).alloc (.cells C 32)).cell? ⟨w.heap.size, 5, none⟩ = some (.int .i64 0) := Ext.cell hEa (by go_simp)
  have s6 : ((w2.alloc (.cells #[.slice A1 1 a1, .int .i64 g, .slice B1 n b1] 54)).alloc (.cells C 32)).cell? ⟨w.heap.size, 6, none⟩ = some (.int .i64 0) := Ext.cell hEa (by go_simp)
  have sf : ∀ o, ((w2.alloc (.cells #[.slice A1 1 a1, .int .i64 g, .slice B1 n b1] 54)).alloc (.cells C 32)).frozen? ⟨w.heap.size, o, none⟩ = false := fun o => (Below.frozen hEa (p := ⟨w.heap.size, o, none⟩) (by first | omega | (simp; omega) | simp)).trans (by go_simp)
  have y0 : ((w2.alloc (.cells #[.slice A1 1 a1, .int .i64 g, .slice B1 n b1] 54)).alloc (.cells C 32)).cell? ⟨w2.heap.size, 0, none⟩ = some (.slice A1 1 a1) := Ext.cell hEb (by go_simp)
  have y1 : ((w2.alloc (.cells #[.slice A1 1 a1, .int .i64 g, .slice B1 n b1] 54)).alloc (.cells C 32)).cell? ⟨w2.heap.size, 1, none⟩ = some (.int .i64 g) := Ext.cell hEb (by go_simp)
  have y2 : ((w2.alloc (.cells #[.slice A1 1 a1, .int .i64 g, .slice B1 n b1] 54)).alloc (.cells C 32)).cell? ⟨w2.heap.size, 2, none⟩ = some (.slice B1 n b1) := Ext.cell hEb (by go_simp)
  have yf : ∀ o, ((w2.alloc (.cells #[.slice A1 1 a1, .int .i64 g, .slice B1 n b1] 54)).alloc (.cells C 32)).frozen? ⟨w2.heap.size, o, none⟩ = false := fun o => (Below.frozen hEb (p := ⟨w2.heap.size, o, none⟩) (by first | omega | (simp; omega) | simp)).trans (by go_simp)
  have hm := HMK.out (w2.alloc (.cells #[.slice A1 1 a1, .int .i64 g, .slice B1 n b1] 54)) (w2.heap.size + 1) (w2.heap.size + 1) (by simp) (Nat.le_refl _)
  obtain ⟨g', eg, _, _, h3, hdf⟩ := Ow.pos hm (by rw [List.length_replicate]; omega)
  obtain rfl : g' = w2.heap.size + 1 := by cases eg; rfl
  have hd : ∀ j, j < m → (((w2.alloc (.cells #[.slice A1 1 a1, .int .i64 g, .slice B1 n b1] 54)).alloc (.cells C 32))).cell? ⟨w2.heap.size + 1, j, none⟩ = some (.slice none 0 0) := fun j hj => by
    have := h3 j (by rw [List.length_replicate]; exact hj) 0 (.slice none 0 0) (by rw [List.getD_eq_getElem?_getD, List.getElem?_replicate, if_pos hj]; rfl)
    rw [show j = j * kRow.n + 0 from by show j = j * 1 + 0; omega]
    exact this
  have hd0 := hd 0 (by omega)
  have hdf2 : ∀ o, (((w2.alloc (.cells #[.slice A1 1 a1, .int .i64 g, .slice B1 n b1] 54)).alloc (.cells C 32))).frozen? ⟨w2.heap.size + 1, o, none⟩ = false := hdf
  clear hdf
  have HDD := Lib.hid hd
  have HX3 := Lib.hid (HX2.out.trans hEa)
  have HT3 := Lib.hid (HT.out.ext hEa)
  have HD3 := Lib.hid (HD.out.ext hEa)
  have l4 : w2.heap.size + 1 < (((w2.alloc (.cells #[.slice A1 1 a1, .int .i64 g, .slice B1 n b1] 54)).alloc (.cells C 32))).heap.size := by simp
  have l5 : w2.heap.size < (((w2.alloc (.cells #[.slice A1 1 a1, .int .i64 g, .slice B1 n b1] 54)).alloc (.cells C 32))).heap.size := by simp; omega
  have l6 : w.heap.size < (((w2.alloc (.cells #[.slice A1 1 a1, .int .i64 g, .slice B1 n b1] 54)).alloc (.cells C 32))).heap.size := by simp; omega
  have HZ3 : Hid ((((w2.alloc (.cells #[.slice A1 1 a1, .int .i64 g, .slice B1 n b1] 54)).alloc (.cells C 32))).heap.size = w2.heap.size + 2) := Lib.hid (by simp)
  clear hEa hEb hm h3 eg hd r0 r1 r2 r3 r4 r5 r6 rf hmk2
  generalize hw3 : ((w2.alloc (.cells #[.slice A1 1 a1, .int .i64 g, .slice B1 n b1] 54)).alloc (.cells C 32)) = w3 at *
  clear hw3
  have HG3 : Hid (∀ u0 u1 u2 u3 u4 u5 u6 : Value, GrewTwo w3 (w2.heap.size + 1) w.heap.size ((((((((w3.setCell ⟨w2.heap.size + 1, 0, none⟩ (.slice (some ⟨w3.heap.size, 0, none⟩) 1 1)).setCell ⟨w.heap.size, 0, none⟩ u0).setCell ⟨w.heap.size, 1, none⟩ u1).setCell ⟨w.heap.size, 2, none⟩ u2).setCell ⟨w.heap.size, 3, none⟩ u3).setCell ⟨w.heap.size, 4, none⟩ u4).setCell ⟨w.heap.size, 5, none⟩ u5).setCell ⟨w.heap.size, 6, none⟩ u6)) := Lib.hid (fun u0 u1 u2 u3 u4 u5 u6 => (((((((Grew.setCell (S := fun x => x = w2.heap.size + 1 ∨ x = w.heap.size) (p := ⟨w2.heap.size + 1, 0, none⟩) (Grew.refl _ w3) (.inl rfl) (.slice (some ⟨w3.heap.size, 0, none⟩) 1 1)).setCell (p := ⟨w.heap.size, 0, none⟩) (.inr rfl) _).setCell (p := ⟨w.heap.size, 1, none⟩) (.inr rfl) _).setCell (p := ⟨w.heap.size, 2, none⟩) (.inr rfl) _).setCell (p := ⟨w.heap.size, 3, none⟩) (.inr rfl) _).setCell (p := ⟨w.heap.size, 4, none⟩) (.inr rfl) _).setCell (p := ⟨w.heap.size, 5, none⟩) (.inr rfl) _).setCell (p := ⟨w.heap.size, 6, none⟩) (.inr rfl) _)
  go_wp2_with fail
  refine bodyPost_ret (v := .tuple #[.agg #[.slice A1 1 a1, .int .i64 g, .slice B1 n b1, .slice (some ⟨w2.heap.size + 1, 0, none⟩) m m, .bool false, .int .i64 0, .int .i64 0], .int .i64 0]) (by simp [results, Try.results34, go_sem]; go_simp) rfl ?_
  have hG := HG3.out (.slice A1 1 a1) (.int .i64 g) (.slice B1 n b1) (.slice (some ⟨w2.heap.size + 1, 0, none⟩) m m) (.bool false) (.int .i64 0) (.int .i64 0)
  refine ⟨A1, B1, w2.heap.size + 1, a1, b1, by simp [beginC], ?_, ?_⟩
  · have hGa := hG.alloc (.cells #[.int .i64 0] 3)
    refine ⟨?_, ?_, ⟨fun j => if j = 0 then ⟨some ⟨w3.heap.size, 0, none⟩, 1, 1⟩ else (⟨none, 0, 0⟩ : Hd), by simp [beginC]; omega, fun j hj => ?_⟩, fun hf => by omega⟩
    · have h1 := (Rd.off (S := fun x => (x = w2.heap.size + 1 ∨ x = w.heap.size) ∨ x < w.heap.size) HT3.out (fun a ha hs => by have := HAB.out.1 a ha; omega)).grew (hGa.mono (fun x _ hx => .inl hx))
      exact h1.mono (fun _ _ hf => .inr hf)
    · have h1 := (Rd.off (S := fun x => (x = w2.heap.size + 1 ∨ x = w.heap.size) ∨ x < w.heap.size) HD3.out (fun a ha hs => by have := HAB.out.2 a ha; omega)).grew (hGa.mono (fun x _ hx => .inl hx))
      have e : (beginC n m).dn.length = n := by simp [beginC]
      rw [e]
      exact h1.mono (fun _ _ hf => .inr hf)
    · by_cases e : j = 0
      · subst e
        dsimp only
        rw [if_pos rfl]
        refine ⟨by simp only [Nat.zero_add]; go_simp, rfl, ?_⟩
        refine Rd.off (Ow.rd (K := kInt) (B := 0) (Ow.lit (K := kInt) (p := w3.heap.size) (n := 1) _ [0] #[.int .i64 0] rfl rfl ?_ (Nat.zero_le _) (by simp [maxLen]) ?_)) (fun a ha hs => ?_)
        · simp
        · intro x hx; simp only [List.mem_singleton] at hx; subst hx; exact in64_nat 0 (by omega)
        · cases ha
          have h9 := HZ3.out
          simp only at hs
          omega
      · dsimp only
        rw [if_neg e]
        have e2 : (beginC n m).D.getD j [] = [] := by
          unfold beginC
          obtain ⟨k, rfl⟩ : ∃ k, j = k + 1 := ⟨j - 1, by omega⟩
          simp only [List.getD_cons_succ]
          rw [List.getD_eq_getElem?_getD, List.getElem?_replicate]; split <;> rfl
        rw [e2]
        refine ⟨?_, rfl, RdO.nil _ _ _ _⟩
        rw [Nat.zero_add]
        have h1 := HDD.out j hj
        have n1 : ¬ w2.heap.size + 1 = w.heap.size := by omega
        have h2 : (w3.setCell ⟨w2.heap.size + 1, 0, none⟩ (.slice (some ⟨w3.heap.size, 0, none⟩) 1 1)).cell? ⟨w2.heap.size + 1, j, none⟩ = some (.slice none 0 0) := by
          rw [World.cell?_setCell_other _ _ _ _ (fun e' => e (by cases e'; rfl))]; exact h1
        refine Ext.cell ((Ext.refl _).alloc _) ?_
        refine Grew.cell (S := fun x => x = w.heap.size) (w := w3.setCell ⟨w2.heap.size + 1, 0, none⟩ (.slice (some ⟨w3.heap.size, 0, none⟩) 1 1)) ?_ h2 (by omega)
        exact ((((((Grew.setCell (S := fun x => x = w.heap.size) (p := ⟨w.heap.size, 0, none⟩) (Grew.refl _ _) rfl _).setCell (p := ⟨w.heap.size, 1, none⟩) rfl _).setCell (p := ⟨w.heap.size, 2, none⟩) rfl _).setCell (p := ⟨w.heap.size, 3, none⟩) rfl _).setCell (p := ⟨w.heap.size, 4, none⟩) rfl _).setCell (p := ⟨w.heap.size, 5, none⟩) rfl _).setCell (p := ⟨w.heap.size, 6, none⟩) rfl _
  · exact (hG.toExt HX3.out (fun b hb => by rcases hb with rfl | rfl <;> omega)).alloc _
theorem cbegin_any (n g m : Nat) (w : World) (n1 : 1 ≤ n) (n2 : n ≤ 1000) (g1 : 1 ≤ g) (g2 : g ≤ 100) (m1 : 1 ≤ m) (m2 : m ≤ 8) :
    Calls Try.prog 34 #[.int .i64 n, .int .i64 g, .int .i64 m] w (CBeginSaid n g m w) := by
  refine (cbegin_off n g m w n1 n2 g1 g2 m1 m2).mono ?_
  rintro ed w' ⟨A, B, e0, a, b, h1, h2, h3⟩
  exact ⟨A, B, e0, a, b, h1, h2.at_ m1, h3⟩
end Go.Proofs.Ytjabahfkgaamdaa

/- The program's drain: one that goes on: a step. Written by wip/mk_d6a.py. -/
namespace Go.Proofs.Ytjabahfkgaamdaa
open Go.BigFrame
open Go.RowKit Go.Proofs.Ytjabahfkgaamdaa.Plain

def D6P (w0 : World) (row : Option Nat) (V : Nat) (ve vo : Value) (B : Nat) (evs : List Ev) (ev : Ev) : Nat → World → List Value → Value → Prop
  | 0, w, ds, v => v = .pointer (some ⟨V, 0, none⟩)
  | 1, w, ds, v => v = .pointer (some ⟨V, 0, none⟩)
  | 2, w, ds, v => v = .pointer (some ⟨V, 0, none⟩)
  | 3, w, ds, v => v = .pointer (some ⟨V, 7, none⟩)
  | 4, w, ds, v => v = vo
  | 5, w, ds, v => v = ve
  | 6, w, ds, v => OneAt kEv w0.heap.size w v ev
  | 7, w, ds, v => AppAt kEv B w v (evs ++ [ev]) vo w0.heap.size
  | 8, w, ds, v => v = .pointer (some ⟨V, 0, none⟩)
  | 9, w, ds, v => v = .pointer (some ⟨V, 7, none⟩)
  | _, _, _, _ => True
theorem D6P_ext (w0 : World) (row : Option Nat) (V : Nat) (ve vo : Value) (B : Nat) (evs : List Ev) (ev : Ev) : ∀ i w w' ds v, D6P w0 row V ve vo B evs ev i w ds v → Ext w w' → D6P w0 row V ve vo B evs ev i w' ds v
  | 0, _, _, _, _, h, _ => h
  | 1, _, _, _, _, h, _ => h
  | 2, _, _, _, _, h, _ => h
  | 3, _, _, _, _, h, _ => h
  | 4, _, _, _, _, h, _ => h
  | 5, _, _, _, _, h, _ => h
  | 6, _, _, _, _, h, hE => OneAt.ext h hE
  | 7, _, _, _, _, h, hE => h.ext hE
  | 8, _, _, _, _, h, _ => h
  | 9, _, _, _, _, h, _ => h
  | _ + 10, _, _, _, _, _, _ => trivial
theorem D6P_sw (w0 : World) (row : Option Nat) (V : Nat) (ve vo : Value) (B : Nat) (evs : List Ev) (ev : Ev) (hrow : ∀ b, row = some b → b < w0.heap.size) : ∀ i w w' ds v, i ≠ 7 → D6P w0 row V ve vo B evs ev i w ds v → Wr row w w' → D6P w0 row V ve vo B evs ev i w' ds v
  | 0, _, _, _, _, _, h, _ => h
  | 1, _, _, _, _, _, h, _ => h
  | 2, _, _, _, _, _, h, _ => h
  | 3, _, _, _, _, _, h, _ => h
  | 4, _, _, _, _, _, h, _ => h
  | 5, _, _, _, _, _, h, _ => h
  | 6, _, _, _, _, _, h, hE => OneAt.sw h hE hrow
  | 7, _, _, _, _, hq, _, _ => absurd rfl hq
  | 8, _, _, _, _, _, h, _ => h
  | 9, _, _, _, _, _, h, _ => h
  | _ + 10, _, _, _, _, _, _, _ => trivial
section
variable (w0 : World) (row : Option Nat) (V : Nat) (ve vo : Value) (B : Nat) (evs : List Ev) (ev : Ev) (w : World) (ds : List Value) (v : Value)
theorem D6P_i0 (h : v = .pointer (some ⟨V, 0, none⟩)) : D6P w0 row V ve vo B evs ev 0 w ds v := h
theorem D6P_e0 (h : D6P w0 row V ve vo B evs ev 0 w ds v) : v = .pointer (some ⟨V, 0, none⟩) := h
theorem D6P_i1 (h : v = .pointer (some ⟨V, 0, none⟩)) : D6P w0 row V ve vo B evs ev 1 w ds v := h
theorem D6P_e1 (h : D6P w0 row V ve vo B evs ev 1 w ds v) : v = .pointer (some ⟨V, 0, none⟩) := h
theorem D6P_i2 (h : v = .pointer (some ⟨V, 0, none⟩)) : D6P w0 row V ve vo B evs ev 2 w ds v := h
theorem D6P_e2 (h : D6P w0 row V ve vo B evs ev 2 w ds v) : v = .pointer (some ⟨V, 0, none⟩) := h
theorem D6P_i3 (h : v = .pointer (some ⟨V, 7, none⟩)) : D6P w0 row V ve vo B evs ev 3 w ds v := h
theorem D6P_e3 (h : D6P w0 row V ve vo B evs ev 3 w ds v) : v = .pointer (some ⟨V, 7, none⟩) := h
theorem D6P_i4 (h : v = vo) : D6P w0 row V ve vo B evs ev 4 w ds v := h
theorem D6P_e4 (h : D6P w0 row V ve vo B evs ev 4 w ds v) : v = vo := h
theorem D6P_i5 (h : v = ve) : D6P w0 row V ve vo B evs ev 5 w ds v := h
theorem D6P_e5 (h : D6P w0 row V ve vo B evs ev 5 w ds v) : v = ve := h
theorem D6P_i6 (h : OneAt kEv w0.heap.size w v ev) : D6P w0 row V ve vo B evs ev 6 w ds v := h
theorem D6P_e6 (h : D6P w0 row V ve vo B evs ev 6 w ds v) : OneAt kEv w0.heap.size w v ev := h
theorem D6P_i7 (h : AppAt kEv B w v (evs ++ [ev]) vo w0.heap.size) : D6P w0 row V ve vo B evs ev 7 w ds v := h
theorem D6P_e7 (h : D6P w0 row V ve vo B evs ev 7 w ds v) : AppAt kEv B w v (evs ++ [ev]) vo w0.heap.size := h
theorem D6P_i8 (h : v = .pointer (some ⟨V, 0, none⟩)) : D6P w0 row V ve vo B evs ev 8 w ds v := h
theorem D6P_e8 (h : D6P w0 row V ve vo B evs ev 8 w ds v) : v = .pointer (some ⟨V, 0, none⟩) := h
theorem D6P_i9 (h : v = .pointer (some ⟨V, 7, none⟩)) : D6P w0 row V ve vo B evs ev 9 w ds v := h
theorem D6P_e9 (h : D6P w0 row V ve vo B evs ev 9 w ds v) : v = .pointer (some ⟨V, 7, none⟩) := h
end

theorem set_box7of8 {w : World} {P : Nat} {T : TypeId} {v0 v1 v2 v3 v4 v5 v6 v7 : Value} {fr : Nat × Nat} (h : w.heap[P]? = some (.cells #[v0, v1, v2, v3, v4, v5, v6, v7] T fr)) (u0 u1 u2 u3 u4 u5 u6 : Value) :
    ((((((((w.setCell ⟨P, 0, none⟩ (u0)).setCell ⟨P, 1, none⟩ (u1)).setCell ⟨P, 2, none⟩ (u2)).setCell ⟨P, 3, none⟩ (u3)).setCell ⟨P, 4, none⟩ (u4)).setCell ⟨P, 5, none⟩ (u5)).setCell ⟨P, 6, none⟩ (u6))).heap[P]? = some (.cells #[u0, u1, u2, u3, u4, u5, u6, v7] T fr) := by
  have h0 : ((w.setCell ⟨P, 0, none⟩ u0)).heap[P]? = some (.cells #[u0, v1, v2, v3, v4, v5, v6, v7] T fr) := by have := set_block (i := 0) h u0; simpa using this
  have h1 : (((w.setCell ⟨P, 0, none⟩ u0).setCell ⟨P, 1, none⟩ u1)).heap[P]? = some (.cells #[u0, u1, v2, v3, v4, v5, v6, v7] T fr) := by have := set_block (i := 1) h0 u1; simpa using this
  have h2 : ((((w.setCell ⟨P, 0, none⟩ u0).setCell ⟨P, 1, none⟩ u1).setCell ⟨P, 2, none⟩ u2)).heap[P]? = some (.cells #[u0, u1, u2, v3, v4, v5, v6, v7] T fr) := by have := set_block (i := 2) h1 u2; simpa using this
  have h3 : (((((w.setCell ⟨P, 0, none⟩ u0).setCell ⟨P, 1, none⟩ u1).setCell ⟨P, 2, none⟩ u2).setCell ⟨P, 3, none⟩ u3)).heap[P]? = some (.cells #[u0, u1, u2, u3, v4, v5, v6, v7] T fr) := by have := set_block (i := 3) h2 u3; simpa using this
  have h4 : ((((((w.setCell ⟨P, 0, none⟩ u0).setCell ⟨P, 1, none⟩ u1).setCell ⟨P, 2, none⟩ u2).setCell ⟨P, 3, none⟩ u3).setCell ⟨P, 4, none⟩ u4)).heap[P]? = some (.cells #[u0, u1, u2, u3, u4, v5, v6, v7] T fr) := by have := set_block (i := 4) h3 u4; simpa using this
  have h5 : (((((((w.setCell ⟨P, 0, none⟩ u0).setCell ⟨P, 1, none⟩ u1).setCell ⟨P, 2, none⟩ u2).setCell ⟨P, 3, none⟩ u3).setCell ⟨P, 4, none⟩ u4).setCell ⟨P, 5, none⟩ u5)).heap[P]? = some (.cells #[u0, u1, u2, u3, u4, u5, v6, v7] T fr) := by have := set_block (i := 5) h4 u5; simpa using this
  have h6 : ((((((((w.setCell ⟨P, 0, none⟩ u0).setCell ⟨P, 1, none⟩ u1).setCell ⟨P, 2, none⟩ u2).setCell ⟨P, 3, none⟩ u3).setCell ⟨P, 4, none⟩ u4).setCell ⟨P, 5, none⟩ u5).setCell ⟨P, 6, none⟩ u6)).heap[P]? = some (.cells #[u0, u1, u2, u3, u4, u5, u6, v7] T fr) := by have := set_block (i := 6) h5 u6; simpa using this
  exact h6

theorem blk_lt {w : World} {x : Nat} {o : Obj} (h : w.heap[x]? = some o) : x < w.heap.size := by
  rcases Nat.lt_or_ge x w.heap.size with h' | h'
  · exact h'
  · rw [Array.getElem?_eq_none h'] at h; cases h
/-- one that goes on to the end, at V: the crew, and what came; its memory has nothing to do with the blocks of S -/
structure DG (S : Nat → Prop) (w : World) (V g m : Nat) (c : Cw) (evs : List Ev) (v : Value) (A B : Option Addr) (e0 eo a b e : Nat) : Prop where
  me : m ≤ e
  box : w.heap[V]? = some (.cells #[.slice A c.ts.length a, .int .i64 g, .slice B c.dn.length b, .slice (some ⟨e0, eo, none⟩) m e, .bool c.over, .int .i64 c.st, .int .i64 c.id, v] 73)
  cr : CrewO (fun x => S x ∨ x = V ∨ v.ownBlock = some x) w m c A B e0 eo a b
  own : Ow kEv (V + 1) w v evs
theorem DG.ext {S : Nat → Prop} {w W : World} {V g m : Nat} {c : Cw} {evs : List Ev} {v : Value} {A B : Option Addr} {e0 eo a b e : Nat} (h : DG S w V g m c evs v A B e0 eo a b e) (hE : Ext w W) : DG S W V g m c evs v A B e0 eo a b e :=
  ⟨h.me, block_keep h.box hE, h.cr.ext hE, h.own.ext hE⟩
/-- what a step leaves -/
def DStepSaid (S : Nat → Prop) (V g m : Nat) (r : Cw × Ev) (evs : List Ev) (w : World) (ed : Ending) (w' : World) : Prop :=
  ∃ (v' : Value) (A B : Option Addr) (e0 a b : Nat), ed = .returned (.int .i64 0) ∧ DG S w' V g m r.1 (evs ++ [r.2]) v' A B e0 0 a b m ∧ Grew (fun x => V ≤ x) w w'

set_option maxHeartbeats 1600000 in
set_option maxRecDepth 100000 in
theorem dstep_any (S : Nat → Prop) (V g n m : Nat) (c : Cw) (evs : List Ev) (v : Value) (A B : Option Addr) (e0 eo a b e : Nat) (p q : Int) (w : World) (hS : ∀ x, S x → x < V) (h : DG S w V g m c evs v A B e0 eo a b e) (hI : ∃ done G, CwI g n m c done G)
    (n1 : 1 ≤ n) (n2 : n ≤ 900) (g1 : 1 ≤ g) (g2 : g ≤ 100) (m1 : 1 ≤ m) (m2 : m ≤ 8) (hst : c.st < 100000) (hid : c.id < 100000) (hp : in64 p) (hq : in64 q) (hl : evs.length ≤ 200000) :
    Calls Try.prog 43 #[.pointer (some ⟨V, 0, none⟩), .int .i64 p, .int .i64 q] w (DStepSaid S V g m (stepP g m c p q) evs w) := by
  obtain ⟨done, G, hI⟩ := hI
  have H := Lib.hid h
  have HI := Lib.hid hI
  have HS := Lib.hid hS
  have HPQ := Lib.hid (And.intro hp hq)
  have k0 : w.cell? ⟨V, 0, none⟩ = some (.slice A c.ts.length a) := (cell_of_row w (V) 0 _ _ _ h.box).trans rfl
  have k1 : w.cell? ⟨V, 1, none⟩ = some (.int .i64 g) := (cell_of_row w (V) 1 _ _ _ h.box).trans rfl
  have k2 : w.cell? ⟨V, 2, none⟩ = some (.slice B c.dn.length b) := (cell_of_row w (V) 2 _ _ _ h.box).trans rfl
  have k3 : w.cell? ⟨V, 3, none⟩ = some (.slice (some ⟨e0, eo, none⟩) m e) := (cell_of_row w (V) 3 _ _ _ h.box).trans rfl
  have k4 : w.cell? ⟨V, 4, none⟩ = some (.bool c.over) := (cell_of_row w (V) 4 _ _ _ h.box).trans rfl
  have k5 : w.cell? ⟨V, 5, none⟩ = some (.int .i64 c.st) := (cell_of_row w (V) 5 _ _ _ h.box).trans rfl
  have k6 : w.cell? ⟨V, 6, none⟩ = some (.int .i64 c.id) := (cell_of_row w (V) 6 _ _ _ h.box).trans rfl
  have k7 : w.cell? ⟨V, 7, none⟩ = some (v) := (cell_of_row w (V) 7 _ _ _ h.box).trans rfl
  have kf := fun o => frozen_of_row w (V) o _ _ h.box
  have lV := blk_lt h.box
  have HOKE : Hid (kEv.ok (stepP g m c p q).2) := Lib.hid (HI.out.evOk g1 n1 n2 m1 m2 _ _)
  obtain ⟨⟨c5, ev⟩, hr⟩ : ∃ x, stepP g m c p q = x := ⟨_, rfl⟩
  have HR := Lib.hid hr
  rw [hr] at HOKE ⊢
  clear h hI hS hp hq hr
  go_enter Try.func43, Try.ntmps43
  go_wp2_with fail
  have hh := cstep_any A B e0 eo a b e g n m c done G p q w (H.out.cr.at_ m1) H.out.me HI.out n1 n2 g1 g2 m1 m2 hst hid HPQ.out.1 HPQ.out.2
  refine hh.mono ?_
  clear hh
  rw [HR.out]
  rintro ed w1 ⟨A5, B5, e5, a5, b5, rfl, hC, hE⟩
  have hz := hE.size
  have HC := Lib.hid hC
  have HE := Lib.hid hE
  have HOK : Hid (kEv.ok ev) := HOKE
  have HB1 := Lib.hid (block_keep H.out.box hE)
  have lV1 : V < w1.heap.size := by omega
  have l0 : w1.cell? ⟨V, 0, none⟩ = some (.slice A c.ts.length a) := (cell_of_row w1 (V) 0 _ _ _ HB1.out).trans rfl
  have l1 : w1.cell? ⟨V, 1, none⟩ = some (.int .i64 g) := (cell_of_row w1 (V) 1 _ _ _ HB1.out).trans rfl
  have l2 : w1.cell? ⟨V, 2, none⟩ = some (.slice B c.dn.length b) := (cell_of_row w1 (V) 2 _ _ _ HB1.out).trans rfl
  have l3 : w1.cell? ⟨V, 3, none⟩ = some (.slice (some ⟨e0, eo, none⟩) m e) := (cell_of_row w1 (V) 3 _ _ _ HB1.out).trans rfl
  have l4 : w1.cell? ⟨V, 4, none⟩ = some (.bool c.over) := (cell_of_row w1 (V) 4 _ _ _ HB1.out).trans rfl
  have l5 : w1.cell? ⟨V, 5, none⟩ = some (.int .i64 c.st) := (cell_of_row w1 (V) 5 _ _ _ HB1.out).trans rfl
  have l6 : w1.cell? ⟨V, 6, none⟩ = some (.int .i64 c.id) := (cell_of_row w1 (V) 6 _ _ _ HB1.out).trans rfl
  have l7 : w1.cell? ⟨V, 7, none⟩ = some (v) := (cell_of_row w1 (V) 7 _ _ _ HB1.out).trans rfl
  have lf := fun o => frozen_of_row w1 (V) o _ _ HB1.out
  clear hC hE k0 k1 k2 k3 k4 k5 k6 k7 kf
  go_upto_region 5 with fail
  have HG8 : Hid (Grew (fun x => x = V) w1 ((((((((w1.setCell ⟨V, 0, none⟩ (.slice A5 c5.ts.length a5)).setCell ⟨V, 1, none⟩ (.int .i64 g)).setCell ⟨V, 2, none⟩ (.slice B5 c5.dn.length b5)).setCell ⟨V, 3, none⟩ (.slice (some ⟨e5, 0, none⟩) m m)).setCell ⟨V, 4, none⟩ (.bool c5.over)).setCell ⟨V, 5, none⟩ (.int .i64 c5.st)).setCell ⟨V, 6, none⟩ (.int .i64 c5.id)))) := Lib.hid (Grew.setCell (S := fun x => x = V) (p := ⟨V, 6, none⟩) (Grew.setCell (S := fun x => x = V) (p := ⟨V, 5, none⟩) (Grew.setCell (S := fun x => x = V) (p := ⟨V, 4, none⟩) (Grew.setCell (S := fun x => x = V) (p := ⟨V, 3, none⟩) (Grew.setCell (S := fun x => x = V) (p := ⟨V, 2, none⟩) (Grew.setCell (S := fun x => x = V) (p := ⟨V, 1, none⟩) (Grew.setCell (S := fun x => x = V) (p := ⟨V, 0, none⟩) (Grew.refl _ _) rfl _) rfl _) rfl _) rfl _) rfl _) rfl _) rfl _)
  have HE2 : Hid (Ext ((((((((w1.setCell ⟨V, 0, none⟩ (.slice A5 c5.ts.length a5)).setCell ⟨V, 1, none⟩ (.int .i64 g)).setCell ⟨V, 2, none⟩ (.slice B5 c5.dn.length b5)).setCell ⟨V, 3, none⟩ (.slice (some ⟨e5, 0, none⟩) m m)).setCell ⟨V, 4, none⟩ (.bool c5.over)).setCell ⟨V, 5, none⟩ (.int .i64 c5.st)).setCell ⟨V, 6, none⟩ (.int .i64 c5.id))) ((((((((((w1.setCell ⟨V, 0, none⟩ (.slice A5 c5.ts.length a5)).setCell ⟨V, 1, none⟩ (.int .i64 g)).setCell ⟨V, 2, none⟩ (.slice B5 c5.dn.length b5)).setCell ⟨V, 3, none⟩ (.slice (some ⟨e5, 0, none⟩) m m)).setCell ⟨V, 4, none⟩ (.bool c5.over)).setCell ⟨V, 5, none⟩ (.int .i64 c5.st)).setCell ⟨V, 6, none⟩ (.int .i64 c5.id)).alloc (.cells #[.slice A5 c5.ts.length a5, .int .i64 g, .slice B5 c5.dn.length b5, .slice (some ⟨e5, 0, none⟩) m m, .bool c5.over, .int .i64 c5.st, .int .i64 c5.id] 57)).alloc (.cells #[.int .i64 ev.wk, .int .i64 ev.fr, .int .i64 ev.tk, .bool ev.pt] 77)))) := Lib.hid (((Ext.refl _).alloc _).alloc _)
  have HBX : Hid (((((((((((w1.setCell ⟨V, 0, none⟩ (.slice A5 c5.ts.length a5)).setCell ⟨V, 1, none⟩ (.int .i64 g)).setCell ⟨V, 2, none⟩ (.slice B5 c5.dn.length b5)).setCell ⟨V, 3, none⟩ (.slice (some ⟨e5, 0, none⟩) m m)).setCell ⟨V, 4, none⟩ (.bool c5.over)).setCell ⟨V, 5, none⟩ (.int .i64 c5.st)).setCell ⟨V, 6, none⟩ (.int .i64 c5.id)).alloc (.cells #[.slice A5 c5.ts.length a5, .int .i64 g, .slice B5 c5.dn.length b5, .slice (some ⟨e5, 0, none⟩) m m, .bool c5.over, .int .i64 c5.st, .int .i64 c5.id] 57)).alloc (.cells #[.int .i64 ev.wk, .int .i64 ev.fr, .int .i64 ev.tk, .bool ev.pt] 77))).heap[V]? = some (.cells #[.slice A5 c5.ts.length a5, .int .i64 g, .slice B5 c5.dn.length b5, .slice (some ⟨e5, 0, none⟩) m m, .bool c5.over, .int .i64 c5.st, .int .i64 c5.id, v] 73)) := Lib.hid (block_keep (set_box7of8 HB1.out _ _ _ _ _ _ _) HE2.out)
  have HBY : Hid (((((((((((w1.setCell ⟨V, 0, none⟩ (.slice A5 c5.ts.length a5)).setCell ⟨V, 1, none⟩ (.int .i64 g)).setCell ⟨V, 2, none⟩ (.slice B5 c5.dn.length b5)).setCell ⟨V, 3, none⟩ (.slice (some ⟨e5, 0, none⟩) m m)).setCell ⟨V, 4, none⟩ (.bool c5.over)).setCell ⟨V, 5, none⟩ (.int .i64 c5.st)).setCell ⟨V, 6, none⟩ (.int .i64 c5.id)).alloc (.cells #[.slice A5 c5.ts.length a5, .int .i64 g, .slice B5 c5.dn.length b5, .slice (some ⟨e5, 0, none⟩) m m, .bool c5.over, .int .i64 c5.st, .int .i64 c5.id] 57)).alloc (.cells #[.int .i64 ev.wk, .int .i64 ev.fr, .int .i64 ev.tk, .bool ev.pt] 77))).heap[w1.heap.size + 1]? = some (.cells #[.int .i64 ev.wk, .int .i64 ev.fr, .int .i64 ev.tk, .bool ev.pt] 77)) := Lib.hid (by
    have h9 := heap_alloc2_new ((((((((w1.setCell ⟨V, 0, none⟩ (.slice A5 c5.ts.length a5)).setCell ⟨V, 1, none⟩ (.int .i64 g)).setCell ⟨V, 2, none⟩ (.slice B5 c5.dn.length b5)).setCell ⟨V, 3, none⟩ (.slice (some ⟨e5, 0, none⟩) m m)).setCell ⟨V, 4, none⟩ (.bool c5.over)).setCell ⟨V, 5, none⟩ (.int .i64 c5.st)).setCell ⟨V, 6, none⟩ (.int .i64 c5.id))) (.cells #[.slice A5 c5.ts.length a5, .int .i64 g, .slice B5 c5.dn.length b5, .slice (some ⟨e5, 0, none⟩) m m, .bool c5.over, .int .i64 c5.st, .int .i64 c5.id] 57) (.cells #[.int .i64 ev.wk, .int .i64 ev.fr, .int .i64 ev.tk, .bool ev.pt] 77)
    rw [show ((((((((w1.setCell ⟨V, 0, none⟩ (.slice A5 c5.ts.length a5)).setCell ⟨V, 1, none⟩ (.int .i64 g)).setCell ⟨V, 2, none⟩ (.slice B5 c5.dn.length b5)).setCell ⟨V, 3, none⟩ (.slice (some ⟨e5, 0, none⟩) m m)).setCell ⟨V, 4, none⟩ (.bool c5.over)).setCell ⟨V, 5, none⟩ (.int .i64 c5.st)).setCell ⟨V, 6, none⟩ (.int .i64 c5.id))).heap.size = w1.heap.size by simp] at h9
    exact h9)
  have hz8 : ((((((((((w1.setCell ⟨V, 0, none⟩ (.slice A5 c5.ts.length a5)).setCell ⟨V, 1, none⟩ (.int .i64 g)).setCell ⟨V, 2, none⟩ (.slice B5 c5.dn.length b5)).setCell ⟨V, 3, none⟩ (.slice (some ⟨e5, 0, none⟩) m m)).setCell ⟨V, 4, none⟩ (.bool c5.over)).setCell ⟨V, 5, none⟩ (.int .i64 c5.st)).setCell ⟨V, 6, none⟩ (.int .i64 c5.id)).alloc (.cells #[.slice A5 c5.ts.length a5, .int .i64 g, .slice B5 c5.dn.length b5, .slice (some ⟨e5, 0, none⟩) m m, .bool c5.over, .int .i64 c5.st, .int .i64 c5.id] 57)).alloc (.cells #[.int .i64 ev.wk, .int .i64 ev.fr, .int .i64 ev.tk, .bool ev.pt] 77))).heap.size = w1.heap.size + 2 := by simp
  have HGW : Hid (Grew (fun x => x = V) w1 ((((((((((w1.setCell ⟨V, 0, none⟩ (.slice A5 c5.ts.length a5)).setCell ⟨V, 1, none⟩ (.int .i64 g)).setCell ⟨V, 2, none⟩ (.slice B5 c5.dn.length b5)).setCell ⟨V, 3, none⟩ (.slice (some ⟨e5, 0, none⟩) m m)).setCell ⟨V, 4, none⟩ (.bool c5.over)).setCell ⟨V, 5, none⟩ (.int .i64 c5.st)).setCell ⟨V, 6, none⟩ (.int .i64 c5.id)).alloc (.cells #[.slice A5 c5.ts.length a5, .int .i64 g, .slice B5 c5.dn.length b5, .slice (some ⟨e5, 0, none⟩) m m, .bool c5.over, .int .i64 c5.st, .int .i64 c5.id] 57)).alloc (.cells #[.int .i64 ev.wk, .int .i64 ev.fr, .int .i64 ev.tk, .bool ev.pt] 77)))) := Lib.hid (HG8.out.ext HE2.out)
  clear HE2 HG8 l0 l1 l2 l3 l4 l5 l6 l7 lf HB1
  generalize (((((((((w1.setCell ⟨V, 0, none⟩ (.slice A5 c5.ts.length a5)).setCell ⟨V, 1, none⟩ (.int .i64 g)).setCell ⟨V, 2, none⟩ (.slice B5 c5.dn.length b5)).setCell ⟨V, 3, none⟩ (.slice (some ⟨e5, 0, none⟩) m m)).setCell ⟨V, 4, none⟩ (.bool c5.over)).setCell ⟨V, 5, none⟩ (.int .i64 c5.st)).setCell ⟨V, 6, none⟩ (.int .i64 c5.id)).alloc (.cells #[.slice A5 c5.ts.length a5, .int .i64 g, .slice B5 c5.dn.length b5, .slice (some ⟨e5, 0, none⟩) m m, .bool c5.over, .int .i64 c5.st, .int .i64 c5.id] 57)).alloc (.cells #[.int .i64 ev.wk, .int .i64 ev.fr, .int .i64 ev.tk, .bool ev.pt] 77)) = w8 at *
  have x0 : w8.cell? ⟨V, 0, none⟩ = some (.slice A5 c5.ts.length a5) := (cell_of_row w8 (V) 0 _ _ _ HBX.out).trans rfl
  have x1 : w8.cell? ⟨V, 1, none⟩ = some (.int .i64 g) := (cell_of_row w8 (V) 1 _ _ _ HBX.out).trans rfl
  have x2 : w8.cell? ⟨V, 2, none⟩ = some (.slice B5 c5.dn.length b5) := (cell_of_row w8 (V) 2 _ _ _ HBX.out).trans rfl
  have x3 : w8.cell? ⟨V, 3, none⟩ = some (.slice (some ⟨e5, 0, none⟩) m m) := (cell_of_row w8 (V) 3 _ _ _ HBX.out).trans rfl
  have x4 : w8.cell? ⟨V, 4, none⟩ = some (.bool c5.over) := (cell_of_row w8 (V) 4 _ _ _ HBX.out).trans rfl
  have x5 : w8.cell? ⟨V, 5, none⟩ = some (.int .i64 c5.st) := (cell_of_row w8 (V) 5 _ _ _ HBX.out).trans rfl
  have x6 : w8.cell? ⟨V, 6, none⟩ = some (.int .i64 c5.id) := (cell_of_row w8 (V) 6 _ _ _ HBX.out).trans rfl
  have x7 : w8.cell? ⟨V, 7, none⟩ = some (v) := (cell_of_row w8 (V) 7 _ _ _ HBX.out).trans rfl
  have xf := fun o => frozen_of_row w8 (V) o _ _ HBX.out
  have y0 : w8.cell? ⟨w1.heap.size + 1, 0, none⟩ = some (.int .i64 ev.wk) := (cell_of_row w8 (w1.heap.size + 1) 0 _ _ _ HBY.out).trans rfl
  have y1 : w8.cell? ⟨w1.heap.size + 1, 1, none⟩ = some (.int .i64 ev.fr) := (cell_of_row w8 (w1.heap.size + 1) 1 _ _ _ HBY.out).trans rfl
  have y2 : w8.cell? ⟨w1.heap.size + 1, 2, none⟩ = some (.int .i64 ev.tk) := (cell_of_row w8 (w1.heap.size + 1) 2 _ _ _ HBY.out).trans rfl
  have y3 : w8.cell? ⟨w1.heap.size + 1, 3, none⟩ = some (.bool ev.pt) := (cell_of_row w8 (w1.heap.size + 1) 3 _ _ _ HBY.out).trans rfl
  have yf := fun o => frozen_of_row w8 (w1.heap.size + 1) o _ _ HBY.out
  obtain ⟨Ao, co, hv, hco⟩ := H.out.own.slice
  obtain ⟨no, hno⟩ : ∃ no, evs.length = no := ⟨_, rfl⟩
  rw [hno] at hv hco
  subst hv
  obtain ⟨row, hrw⟩ : ∃ row, Value.ownBlock (.slice Ao no co) = row := ⟨_, rfl⟩
  have hrlt : ∀ x, row = some x → V + 1 ≤ x ∧ x < w.heap.size := fun x hx => H.out.own.lt x (hrw.trans hx)
  have hrow : ∀ x, row = some x → x < w8.heap.size := fun x hx => by have := hrlt x hx; omega
  have nV : ¬ row = some V := fun hh => by have := hrlt _ hh; omega
  have nY : ¬ row = some (w1.heap.size + 1) := fun hh => by have := hrlt _ hh; omega
  have HRL := Lib.hid hrlt
  have HO8 : Hid (Ow kEv (V + 1) w8 (.slice Ao no co) evs) := Lib.hid ((H.out.own.ext HE.out).grew HGW.out (fun x hx e => by have := (H.out.own.lt x hx).1; omega))
  have HLL : Hid (evs.length + [ev].length ≤ 1048576) := Lib.hid (by simp; omega)
  have HBS : Hid (V + 1 ≤ w8.heap.size) := Lib.hid (by omega)
  have lV8 : V < w8.heap.size := by omega
  clear hno hco hrlt
  refine MonoW.wp_region_write 10 7 (Wr row) (D6P w8 row V (.agg #[.int .i64 ev.wk, .int .i64 ev.fr, .int .i64 ev.tk, .bool ev.pt]) (.slice Ao no co) (V + 1) evs ev) (by kernel_rfl) (by kernel_rfl) (Wr.of row) (Wr.tr row) (D6P_ext w8 row V (.agg #[.int .i64 ev.wk, .int .i64 ev.fr, .int .i64 ev.tk, .bool ev.pt]) (.slice Ao no co) (V + 1) evs ev) (D6P_sw w8 row V (.agg #[.int .i64 ev.wk, .int .i64 ev.fr, .int .i64 ev.tk, .bool ev.pt]) (.slice Ao no co) (V + 1) evs ev hrow) ?_ ?_
  · intro i o hi ho vals w5 hE hQ hcl
    have hi' : i = 0 ∨ i = 1 ∨ i = 2 ∨ i = 3 ∨ i = 4 ∨ i = 5 ∨ i = 6 ∨ i = 7 ∨ i = 8 ∨ i = 9 := by omega
    rcases hi' with rfl | rfl | rfl | rfl | rfl | rfl | rfl | rfl | rfl | rfl
    · simp only [List.getElem?_cons_succ, List.getElem?_cons_zero, Option.some.injEq] at ho
      subst ho
      rw [if_pos (Mono.wanted_none rfl)]
      clear hcl
      refine Mono.yields_same (.pointer (some ⟨V, 0, none⟩)) w5 ?_ ⟨MonoW.Out.of (Wr.of row) (Ext.refl _), D6P_i0 _ _ _ _ _ _ _ _ _ _ _ rfl⟩
      simp only [Mono.all, List.take, Act.put]
      go_simp
    · simp only [List.getElem?_cons_succ, List.getElem?_cons_zero, Option.some.injEq] at ho
      subst ho
      rw [if_pos (Mono.wanted_none rfl)]
      clear hcl
      refine Mono.yields_same (.pointer (some ⟨V, 0, none⟩)) w5 ?_ ⟨MonoW.Out.of (Wr.of row) (Ext.refl _), D6P_i1 _ _ _ _ _ _ _ _ _ _ _ rfl⟩
      simp only [Mono.all, List.take, Act.put]
      go_simp
    · simp only [List.getElem?_cons_succ, List.getElem?_cons_zero, Option.some.injEq] at ho
      subst ho
      rw [if_pos (Mono.wanted_none rfl)]
      have h1 : vals 1 = .pointer (some ⟨V, 0, none⟩) := D6P_e1 _ _ _ _ _ _ _ _ _ _ _ (hcl 1 (by kernel_rfl))
      clear hcl
      refine Mono.yields_same (.pointer (some ⟨V, 0, none⟩)) w5 ?_ ⟨MonoW.Out.of (Wr.of row) (Ext.refl _), D6P_i2 _ _ _ _ _ _ _ _ _ _ _ rfl⟩
      simp only [Mono.all, List.take, Act.put]
      go_simp
    · simp only [List.getElem?_cons_succ, List.getElem?_cons_zero, Option.some.injEq] at ho
      subst ho
      rw [if_pos (Mono.wanted_none rfl)]
      have h2 : vals 2 = .pointer (some ⟨V, 0, none⟩) := D6P_e2 _ _ _ _ _ _ _ _ _ _ _ (hcl 2 (by kernel_rfl))
      clear hcl
      refine Mono.yields_same (.pointer (some ⟨V, 7, none⟩)) w5 ?_ ⟨MonoW.Out.of (Wr.of row) (Ext.refl _), D6P_i3 _ _ _ _ _ _ _ _ _ _ _ rfl⟩
      simp only [Mono.all, List.take, Act.put]
      go_simp
    · simp only [List.getElem?_cons_succ, List.getElem?_cons_zero, Option.some.injEq] at ho
      subst ho
      rw [if_pos (Mono.wanted_none rfl)]
      have h3 : vals 3 = .pointer (some ⟨V, 7, none⟩) := D6P_e3 _ _ _ _ _ _ _ _ _ _ _ (hcl 3 (by kernel_rfl))
      have l7 := hE.cell x7 nV
      clear hcl
      refine Mono.yields_same (.slice Ao no co) w5 ?_ ⟨MonoW.Out.of (Wr.of row) (Ext.refl _), D6P_i4 _ _ _ _ _ _ _ _ _ _ _ rfl⟩
      simp only [Mono.all, List.take, Act.put]
      go_simp
    · simp only [List.getElem?_cons_succ, List.getElem?_cons_zero, Option.some.injEq] at ho
      subst ho
      rw [if_pos (Mono.wanted_none rfl)]
      have l0 := hE.cell y0 nY
      have l1 := hE.cell y1 nY
      have l2 := hE.cell y2 nY
      have l3 := hE.cell y3 nY
      clear hcl
      refine Mono.yields_same (.agg #[.int .i64 ev.wk, .int .i64 ev.fr, .int .i64 ev.tk, .bool ev.pt]) w5 ?_ ⟨MonoW.Out.of (Wr.of row) (Ext.refl _), D6P_i5 _ _ _ _ _ _ _ _ _ _ _ rfl⟩
      simp only [Mono.all, List.take, Act.put]
      go_simp
    · simp only [List.getElem?_cons_succ, List.getElem?_cons_zero, Option.some.injEq] at ho
      subst ho
      rw [if_pos (Mono.wanted_none rfl)]
      have h2 : vals 5 = .agg #[.int .i64 ev.wk, .int .i64 ev.fr, .int .i64 ev.tk, .bool ev.pt] := (D6P_e5 _ _ _ _ _ _ _ _ _ _ _ (hcl 5 (by kernel_rfl)))
      clear hcl
      refine Mono.yields_same (.slice (some ⟨w5.heap.size, 0, none⟩) 1 1) (w5.alloc (.cells #[.int .i64 ev.wk, .int .i64 ev.fr, .int .i64 ev.tk, .bool ev.pt] kEv.e)) ?_ ⟨MonoW.Out.of (Wr.of row) ((Ext.refl _).alloc _), D6P_i6 _ _ _ _ _ _ _ _ _ _ _ (OneAt.made kEv w5 hE.size _ _ rfl HOKE.out)⟩
      simp only [Mono.all, List.take, Act.put, kEv]
      go_simp
    · simp only [List.getElem?_cons_succ, List.getElem?_cons_zero, Option.some.injEq] at ho
      subst ho
      rw [if_pos (Mono.wanted_none rfl)]
      obtain ⟨p, h3, o3⟩ := (D6P_e6 _ _ _ _ _ _ _ _ _ _ _ (hcl 6 (by kernel_rfl)))
      have h1 : vals 4 = .slice Ao no co := (D6P_e4 _ _ _ _ _ _ _ _ _ _ _ (hcl 4 (by kernel_rfl)))
      have hX := hQ rfl
      clear hcl
      refine Kd.yields_grow kEv (B := V + 1) (n := w8.heap.size) (q := 7) (.tmp 32) (.tmp 34) (v := .slice Ao no co) (y := .slice (some ⟨p, 0, none⟩) 1 1) (xs := evs) (ys := [ev]) (HO8.out.ext hX) o3.rd HLL.out (Nat.le_trans HBS.out hX.size) hX.size rfl rfl (by rw [← h1]; kernel_rfl) (by rw [← h3]; kernel_rfl) ?_
      intro v' w' hA hO
      exact ⟨by rw [← hrw]; exact hO, D6P_i7 _ _ _ _ _ _ _ _ _ _ _ hA⟩
    · simp only [List.getElem?_cons_succ, List.getElem?_cons_zero, Option.some.injEq] at ho
      subst ho
      rw [if_pos (Mono.wanted_none rfl)]
      have h0 : vals 0 = .pointer (some ⟨V, 0, none⟩) := D6P_e0 _ _ _ _ _ _ _ _ _ _ _ (hcl 0 (by kernel_rfl))
      clear hcl
      refine Mono.yields_same (.pointer (some ⟨V, 0, none⟩)) w5 ?_ ⟨MonoW.Out.of (Wr.of row) (Ext.refl _), D6P_i8 _ _ _ _ _ _ _ _ _ _ _ rfl⟩
      simp only [Mono.all, List.take, Act.put]
      go_simp
    · simp only [List.getElem?_cons_succ, List.getElem?_cons_zero, Option.some.injEq] at ho
      subst ho
      rw [if_pos (Mono.wanted_none rfl)]
      have h8 : vals 8 = .pointer (some ⟨V, 0, none⟩) := D6P_e8 _ _ _ _ _ _ _ _ _ _ _ (hcl 8 (by kernel_rfl))
      clear hcl
      refine Mono.yields_same (.pointer (some ⟨V, 7, none⟩)) w5 ?_ ⟨MonoW.Out.of (Wr.of row) (Ext.refl _), D6P_i9 _ _ _ _ _ _ _ _ _ _ _ rfl⟩
      simp only [Mono.all, List.take, Act.put]
      go_simp
  · intro vals w5 hE hv
    have hA := (D6P_e7 _ _ _ _ _ _ _ _ _ _ _ (hv 7 (by omega)))
    have ee9 := (D6P_e9 _ _ _ _ _ _ _ _ _ _ _ (hv 9 (by omega)))
    obtain ⟨Az, cz, ee7, hcz⟩ := hA.1.slice
    obtain ⟨nz, hnz⟩ : ∃ nz, (evs ++ [ev]).length = nz := ⟨_, rfl⟩
    rw [hnz] at ee7
    rw [ee7] at hA
    have HA := Lib.hid hA
    have HG := Lib.hid hE
    have hbP : w5.heap[V]? = some (.cells #[.slice A5 c5.ts.length a5, .int .i64 g, .slice B5 c5.dn.length b5, .slice (some ⟨e5, 0, none⟩) m m, .bool c5.over, .int .i64 c5.st, .int .i64 c5.id, .slice Ao no co] 73) := block_wr HBX.out hE nV
    have z0 : w5.cell? ⟨V, 0, none⟩ = some (.slice A5 c5.ts.length a5) := (cell_of_row w5 (V) 0 _ _ _ hbP).trans rfl
    have z1 : w5.cell? ⟨V, 1, none⟩ = some (.int .i64 g) := (cell_of_row w5 (V) 1 _ _ _ hbP).trans rfl
    have z2 : w5.cell? ⟨V, 2, none⟩ = some (.slice B5 c5.dn.length b5) := (cell_of_row w5 (V) 2 _ _ _ hbP).trans rfl
    have z3 : w5.cell? ⟨V, 3, none⟩ = some (.slice (some ⟨e5, 0, none⟩) m m) := (cell_of_row w5 (V) 3 _ _ _ hbP).trans rfl
    have z4 : w5.cell? ⟨V, 4, none⟩ = some (.bool c5.over) := (cell_of_row w5 (V) 4 _ _ _ hbP).trans rfl
    have z5 : w5.cell? ⟨V, 5, none⟩ = some (.int .i64 c5.st) := (cell_of_row w5 (V) 5 _ _ _ hbP).trans rfl
    have z6 : w5.cell? ⟨V, 6, none⟩ = some (.int .i64 c5.id) := (cell_of_row w5 (V) 6 _ _ _ hbP).trans rfl
    have z7 : w5.cell? ⟨V, 7, none⟩ = some (.slice Ao no co) := (cell_of_row w5 (V) 7 _ _ _ hbP).trans rfl
    have zf := fun o => frozen_of_row w5 (V) o _ _ hbP
    have HBP := Lib.hid hbP
    have lV5 : V < w5.heap.size := blk_lt hbP
    clear hA hbP hE hcz hnz
    simp only [Mono.all, List.take, List.drop, Act.put]
    go_wp2_with fail
    go_ret
    have hGV : Grew (fun x => x = V) w5 (w5.setCell ⟨V, 7, none⟩ (.slice Az nz cz)) := Grew.setCell (S := fun x => x = V) (p := ⟨V, 7, none⟩) (Grew.refl _ _) rfl _
    have hGr : Grew (fun x => x = V ∨ row = some x) w8 (w5.setCell ⟨V, 7, none⟩ (.slice Az nz cz)) := (HG.out.mono (fun x _ hx => .inr hx)).trans (hGV.mono (fun x _ hx => .inl hx))
    have hGA : Grew (fun x => x = V ∨ row = some x) w1 (w5.setCell ⟨V, 7, none⟩ (.slice Az nz cz)) := (HGW.out.mono (fun x _ hx => .inl hx)).trans hGr
    refine ⟨.slice Az nz cz, A5, B5, e5, a5, b5, rfl, ⟨Nat.le_refl _, ?_, ?_, ?_⟩, ?_⟩
    · have h9 := set_block (i := 7) HBP.out (.slice Az nz cz)
      simpa using h9
    · refine HC.out.later m1 (hGA.mono (fun x hx hh => ?_)) (fun x hx hT => ?_)
      · rcases hh with hh | hh
        · omega
        · have := (HRL.out x hh).2; omega
      · rcases hT with hT | hT | hT
        · have := HS.out x hT; omega
        · omega
        · rcases HA.out.2 with h9 | ⟨p, h9, h10⟩
          · rw [h9, hrw] at hT
            have := (HRL.out x hT).2; omega
          · rw [h9] at hT; cases hT; omega
    · exact HA.out.1.grew hGV (fun x hx e => by have := (HA.out.1.lt x hx).1; omega)
    · exact (Grew.of HE.out).trans (hGA.mono (fun x _ hx => by
        rcases hx with hx | hx
        · omega
        · have := (HRL.out x hx).1; omega))

set_option maxRecDepth 100000 in
theorem dholds_yes (S : Nat → Prop) (V g m : Nat) (c : Cw) (evs : List Ev) (v : Value) (A B : Option Addr) (e0 eo a b e : Nat) (w : World) (h : DG S w V g m c evs v A B e0 eo a b e) (m1 : 1 ≤ m) (m2 : m ≤ 8) (hp : 0 < (held c.D).length) (hl : (held c.D).length ≤ 1000000) :
    Calls Try.prog 56 #[.pointer (some ⟨V, 0, none⟩)] w fun ed w' => ed = .returned (.bool true) ∧ Ext w w' := by
  have H := Lib.hid h
  have k0 : w.cell? ⟨V, 0, none⟩ = some (.slice A c.ts.length a) := (cell_of_row w (V) 0 _ _ _ h.box).trans rfl
  have k1 : w.cell? ⟨V, 1, none⟩ = some (.int .i64 g) := (cell_of_row w (V) 1 _ _ _ h.box).trans rfl
  have k2 : w.cell? ⟨V, 2, none⟩ = some (.slice B c.dn.length b) := (cell_of_row w (V) 2 _ _ _ h.box).trans rfl
  have k3 : w.cell? ⟨V, 3, none⟩ = some (.slice (some ⟨e0, eo, none⟩) m e) := (cell_of_row w (V) 3 _ _ _ h.box).trans rfl
  have k4 : w.cell? ⟨V, 4, none⟩ = some (.bool c.over) := (cell_of_row w (V) 4 _ _ _ h.box).trans rfl
  have k5 : w.cell? ⟨V, 5, none⟩ = some (.int .i64 c.st) := (cell_of_row w (V) 5 _ _ _ h.box).trans rfl
  have k6 : w.cell? ⟨V, 6, none⟩ = some (.int .i64 c.id) := (cell_of_row w (V) 6 _ _ _ h.box).trans rfl
  have k7 : w.cell? ⟨V, 7, none⟩ = some (v) := (cell_of_row w (V) 7 _ _ _ h.box).trans rfl
  have kf := fun o => frozen_of_row w (V) o _ _ h.box
  obtain ⟨N0, hN0⟩ : ∃ N0, (held c.D).length = N0 := ⟨_, rfl⟩
  have HN0 := Lib.hid hN0
  rw [hN0] at hp hl
  have hp' : (0 : Int) < N0 := by omega
  clear h hN0
  go_enter Try.func56, Try.ntmps56
  go_wp2_with fail
  refine (cheld_any A B e0 eo a b e g m c _ w ((H.out.cr.at_ m1).deq.choose_spec) m2 (by rw [HN0.out]; omega)).mono ?_
  rintro ed w1 ⟨rfl, hE⟩
  rw [HN0.out]
  have HE := Lib.hid hE
  clear hE
  go_wp2_with fail
  go_ret
  exact ⟨ret_bool (by first | rfl | simp; omega), HE.out⟩
end Go.Proofs.Ytjabahfkgaamdaa

/- Plain words of a drain under way, and of picks under way. No program in it. -/
namespace Go.Proofs.Ytjabahfkgaamdaa.Plain

theorem drainP_ov (g m f t : Nat) (c : Cw) (h : c.over = true) : drainP g m f t c = (c, []) := by
  cases f with
  | zero => rfl
  | succ f => unfold drainP; rw [if_pos h]
theorem drainP_nx (g m f t : Nat) (c : Cw) (h : c.over = false) : drainP g m (f + 1) t c = ((drainP g m f (t + 1) (stepP g m c (dpick m t).1 (dpick m t).2).1).1, (stepP g m c (dpick m t).1 (dpick m t).2).2 :: (drainP g m f (t + 1) (stepP g m c (dpick m t).1 (dpick m t).2).1).2) := by
  conv => lhs; unfold drainP
  rw [if_neg (by rw [h]; decide)]
theorem dpick_eq (m k j : Nat) (hj : j < m) : dpick m (k * m + j) = ((j : Int), (j : Int) + 1 + k) := by
  unfold dpick
  rw [Nat.add_comm, Nat.add_mul_mod_self_right, Nat.mod_eq_of_lt hj, Nat.add_mul_div_right _ _ (by omega), Nat.div_eq_of_lt hj]
  simp
theorem untilP_ov (g m : Nat) (c : Cw) (l : List (Int × Int)) (h : c.over = true) : untilP g m c l = (c, []) := by
  cases l with
  | nil => rfl
  | cons x l => unfold untilP; rw [if_pos h]
theorem untilP_nx (g m k : Nat) (c : Cw) (l : List (Int × Int)) (hk : k < l.length) (h : c.over = false) : untilP g m c (l.drop k) = ((untilP g m (stepP g m c (l.getD k (0, 0)).1 (l.getD k (0, 0)).2).1 (l.drop (k + 1))).1, (stepP g m c (l.getD k (0, 0)).1 (l.getD k (0, 0)).2).2 :: (untilP g m (stepP g m c (l.getD k (0, 0)).1 (l.getD k (0, 0)).2).1 (l.drop (k + 1))).2) := by
  rw [List.drop_eq_getElem_cons hk, List.getD_eq_getElem?_getD, List.getElem?_eq_getElem hk]
  conv => lhs; unfold untilP
  rw [if_neg (by rw [h]; decide)]
  rfl
/-- a drain, t steps on (or over) -/
structure DrSt (g n m N : Nat) (c0 : Cw) (t : Nat) (c : Cw) (ds : List Ev) : Prop where
  inv : ∃ done G, CwI g n m c done G
  st : c.st = c0.st + ds.length
  id : c.id ≤ c0.id + ds.length
  len : ds.length ≤ N
  at_ : (c.over = true ∧ drainP g m N 0 c0 = (c, ds)) ∨ (c.over = false ∧ t ≤ N ∧ ds.length = t ∧ drainP g m N 0 c0 = ((drainP g m (N - t) t c).1, ds ++ (drainP g m (N - t) t c).2))
theorem DrSt.start {g n m N : Nat} {c0 : Cw} (h : ∃ done G, CwI g n m c0 done G) : DrSt g n m N c0 0 c0 [] := by
  refine ⟨h, rfl, Nat.le_refl _, Nat.zero_le _, ?_⟩
  cases ho : c0.over with
  | true => exact .inl ⟨rfl, drainP_ov _ _ _ _ _ ho⟩
  | false => exact .inr ⟨rfl, Nat.zero_le _, rfl, by simp⟩
theorem DrSt.skip {g n m N : Nat} {c0 : Cw} {t : Nat} {c : Cw} {ds : List Ev} (h : DrSt g n m N c0 t c ds) (ho : c.over = true) (t' : Nat) : DrSt g n m N c0 t' c ds := by
  obtain ⟨h1, h2, h3, h4, h5⟩ := h
  rcases h5 with h5 | ⟨h5, _⟩
  · exact ⟨h1, h2, h3, h4, .inl h5⟩
  · rw [ho] at h5; cases h5
theorem DrSt.done {g n m N : Nat} {c0 : Cw} {t : Nat} {c : Cw} {ds : List Ev} (h : DrSt g n m N c0 t c ds) (ho : c.over = true) : drainP g m N 0 c0 = (c, ds) := by
  rcases h.at_ with h5 | ⟨h5, _⟩
  · exact h5.2
  · rw [ho] at h5; cases h5
theorem DrSt.lt {g n m N : Nat} {c0 : Cw} {t : Nat} {c : Cw} {ds : List Ev} (h : DrSt g n m N c0 t c ds) (ho : c.over = false) (he : (drainP g m N 0 c0).1.over = true) : t < N ∧ ds.length = t := by
  rcases h.at_ with ⟨h5, _⟩ | ⟨_, h6, h7, h8⟩
  · rw [ho] at h5; cases h5
  · refine ⟨?_, h7⟩
    rcases Nat.lt_or_ge t N with h9 | h9
    · exact h9
    · exfalso
      rw [h8, show N - t = 0 by omega] at he
      have h5 : c.over = true := he
      rw [ho] at h5; cases h5
theorem DrSt.step {g n m N : Nat} {c0 : Cw} {t : Nat} {c : Cw} {ds : List Ev} (hg : 1 ≤ g) (hm : 1 ≤ m) (h : DrSt g n m N c0 t c ds) (ho : c.over = false) (he : (drainP g m N 0 c0).1.over = true) : DrSt g n m N c0 (t + 1) (stepP g m c (dpick m t).1 (dpick m t).2).1 (ds ++ [(stepP g m c (dpick m t).1 (dpick m t).2).2]) := by
  obtain ⟨hlt, hlen⟩ := h.lt ho he
  obtain ⟨h1, h2, h3, h4, h5⟩ := h
  obtain ⟨s1, s2, s3⟩ := stepP_st g m c (dpick m t).1 (dpick m t).2
  obtain ⟨d, G, hI⟩ := h1
  rcases h5 with ⟨h5, _⟩ | ⟨_, h6, h7, h8⟩
  · rw [ho] at h5; cases h5
  · rw [show N - t = (N - (t + 1)) + 1 by omega, drainP_nx _ _ _ _ _ ho] at h8
    refine ⟨hI.stepD hg hm _ _, by rw [List.length_append]; simp only [List.length_singleton]; omega, by rw [List.length_append]; simp only [List.length_singleton]; omega, by rw [List.length_append]; simp only [List.length_singleton]; omega, ?_⟩
    cases ho' : (stepP g m c (dpick m t).1 (dpick m t).2).1.over with
    | true =>
      refine .inl ⟨rfl, ?_⟩
      rw [h8, drainP_ov _ _ _ _ _ ho']
    | false =>
      refine .inr ⟨rfl, by omega, by rw [List.length_append]; simp only [List.length_singleton]; omega, ?_⟩
      rw [h8, List.append_assoc]
      rfl
/-- picks, k of them on -/
structure UnSt (g n m : Nat) (picks : List (Int × Int)) (k : Nat) (c : Cw) (evs : List Ev) : Prop where
  been : Been g n m c evs
  eq : untilP g m (beginC n m) picks = ((untilP g m c (picks.drop k)).1, evs ++ (untilP g m c (picks.drop k)).2)
  len : evs.length ≤ k
theorem UnSt.start {g n m : Nat} {picks : List (Int × Int)} (hn : 1 ≤ n) (hm : 1 ≤ m) : UnSt g n m picks 0 (beginC n m) [] := ⟨Been.begin g n m hn hm, by simp, Nat.le_refl _⟩
theorem UnSt.step {g n m : Nat} {picks : List (Int × Int)} {k : Nat} {c : Cw} {evs : List Ev} (hg : 1 ≤ g) (hm : 1 ≤ m) (h : UnSt g n m picks k c evs) (hk : k < picks.length) (ho : c.over = false) : UnSt g n m picks (k + 1) (stepP g m c (picks.getD k (0, 0)).1 (picks.getD k (0, 0)).2).1 (evs ++ [(stepP g m c (picks.getD k (0, 0)).1 (picks.getD k (0, 0)).2).2]) := by
  refine ⟨h.been.step hg hm _ _, ?_, by have := h.len; rw [List.length_append]; simp only [List.length_singleton]; omega⟩
  rw [h.eq, untilP_nx g m k c picks hk ho, List.append_assoc]
  rfl
theorem UnSt.over {g n m : Nat} {picks : List (Int × Int)} {k : Nat} {c : Cw} {evs : List Ev} (h : UnSt g n m picks k c evs) (ho : c.over = true) : untilP g m (beginC n m) picks = (c, evs) := by
  rw [h.eq, untilP_ov _ _ _ _ ho]; simp
theorem UnSt.done {g n m : Nat} {picks : List (Int × Int)} {k : Nat} {c : Cw} {evs : List Ev} (h : UnSt g n m picks k c evs) (hk : picks.length ≤ k) : untilP g m (beginC n m) picks = (c, evs) := by
  rw [h.eq, List.drop_of_length_le hk]; simp [untilP]
end Go.Proofs.Ytjabahfkgaamdaa.Plain

/- The program's drain: a round, picks, to the end. Written by wip/mk_d6b.py. -/
namespace Go.Proofs.Ytjabahfkgaamdaa
open Go.BigFrame
open Go.RowKit Go.Proofs.Ytjabahfkgaamdaa.Plain

/-- what some steps of a drain leave -/
def DOnSaid (S : Nat → Prop) (V g n m N t : Nat) (c0 : Cw) (evs0 : List Ev) (w : World) (ed : Ending) (w' : World) : Prop :=
  ∃ (c : Cw) (ds : List Ev) (v : Value) (A B : Option Addr) (e0 eo a b e : Nat), ed = .returned (.int .i64 0) ∧ DrSt g n m N c0 t c ds ∧ DG S w' V g m c (evs0 ++ ds) v A B e0 eo a b e ∧ Grew (fun x => V ≤ x) w w'
theorem held_few {g n m : Nat} {c : Cw} (hg : 1 ≤ g) (hn : 1 ≤ n) (n2 : n ≤ 900) (h : ∃ done G, CwI g n m c done G) : (held c.D).length ≤ 4000 := by
  obtain ⟨d, G, hI⟩ := h
  have h1 := (CrI.fresh hI).2.2.2
  have h2 := hI.few hg hn
  omega
set_option maxHeartbeats 1600000 in
set_option maxRecDepth 100000 in
theorem dround_any (S : Nat → Prop) (V g n m N k : Nat) (c0 c : Cw) (evs0 ds : List Ev) (v : Value) (A B : Option Addr) (e0 eo a b e : Nat) (w : World) (hS : ∀ x, S x → x < V) (h : DG S w V g m c (evs0 ++ ds) v A B e0 eo a b e) (hD : DrSt g n m N c0 (k * m) c ds) (he : (drainP g m N 0 c0).1.over = true)
    (n1 : 1 ≤ n) (n2 : n ≤ 900) (g1 : 1 ≤ g) (g2 : g ≤ 100) (m1 : 1 ≤ m) (m2 : m ≤ 8) (hst : c0.st + N ≤ 100000) (hid : c0.id + N ≤ 100000) (hl : evs0.length + N ≤ 200000) (hk : k ≤ 50000) :
    Calls Try.prog 44 #[.pointer (some ⟨V, 0, none⟩), .int .i64 k] w (DOnSaid S V g n m N ((k + 1) * m) c0 evs0 w) := by
  have H := Lib.hid h
  have HD := Lib.hid hD
  have HS := Lib.hid hS
  have HO := Lib.hid he
  have hk0 : (0 : Int) ≤ k := by omega
  have hk1 : (k : Int) ≤ 50000 := by omega
  have m3 : (m : Int) ≤ 8 := by omega
  have k0 : w.cell? ⟨V, 0, none⟩ = some (.slice A c.ts.length a) := (cell_of_row w (V) 0 _ _ _ h.box).trans rfl
  have k1 : w.cell? ⟨V, 1, none⟩ = some (.int .i64 g) := (cell_of_row w (V) 1 _ _ _ h.box).trans rfl
  have k2 : w.cell? ⟨V, 2, none⟩ = some (.slice B c.dn.length b) := (cell_of_row w (V) 2 _ _ _ h.box).trans rfl
  have k3 : w.cell? ⟨V, 3, none⟩ = some (.slice (some ⟨e0, eo, none⟩) m e) := (cell_of_row w (V) 3 _ _ _ h.box).trans rfl
  have k4 : w.cell? ⟨V, 4, none⟩ = some (.bool c.over) := (cell_of_row w (V) 4 _ _ _ h.box).trans rfl
  have k5 : w.cell? ⟨V, 5, none⟩ = some (.int .i64 c.st) := (cell_of_row w (V) 5 _ _ _ h.box).trans rfl
  have k6 : w.cell? ⟨V, 6, none⟩ = some (.int .i64 c.id) := (cell_of_row w (V) 6 _ _ _ h.box).trans rfl
  have k7 : w.cell? ⟨V, 7, none⟩ = some (v) := (cell_of_row w (V) 7 _ _ _ h.box).trans rfl
  have kf := fun o => frozen_of_row w (V) o _ _ h.box
  have lV := blk_lt h.box
  clear h hD hS he
  go_enter Try.func44, Try.ntmps44
  go_wp2_with fail
  go_loopw [13] (fun i wr => ∃ j : Nat, j ≤ m ∧ i = .int .i64 j ∧ ∃ (c1 : Cw) (ds1 : List Ev) (v1 : Value) (A1 B1 : Option Addr) (e1 o1 a1 b1 q1 : Nat), DrSt g n m N c0 (k * m + j) c1 ds1 ∧ DG S wr V g m c1 (evs0 ++ ds1) v1 A1 B1 e1 o1 a1 b1 q1 ∧ Grew (fun x => V ≤ x) w wr) (fun i _ => m - (intOf i).toNat)
  case atStart => exact ⟨0, Nat.zero_le _, rfl, _, _, _, _, _, _, _, _, _, _, HD.out, H.out, Grew.refl _ _⟩
  case round =>
    clear k0 k1 k2 k3 k4 k5 k6 k7 kf
    obtain ⟨j, hj, rfl, c1, ds1, v1, A1, B1, e1, o1, a1, b1, q1, hD1, hG1, hW1⟩ := hrel
    have HD1 := Lib.hid hD1
    have HG1 := Lib.hid hG1
    have HW1 := Lib.hid hW1
    have hj0 : (0 : Int) ≤ j := by omega
    have hj8 : (j : Int) ≤ 8 := by omega
    have k0 : wr.cell? ⟨V, 0, none⟩ = some (.slice A1 c1.ts.length a1) := (cell_of_row wr (V) 0 _ _ _ hG1.box).trans rfl
    have k1 : wr.cell? ⟨V, 1, none⟩ = some (.int .i64 g) := (cell_of_row wr (V) 1 _ _ _ hG1.box).trans rfl
    have k2 : wr.cell? ⟨V, 2, none⟩ = some (.slice B1 c1.dn.length b1) := (cell_of_row wr (V) 2 _ _ _ hG1.box).trans rfl
    have k3 : wr.cell? ⟨V, 3, none⟩ = some (.slice (some ⟨e1, o1, none⟩) m q1) := (cell_of_row wr (V) 3 _ _ _ hG1.box).trans rfl
    have k4 : wr.cell? ⟨V, 4, none⟩ = some (.bool c1.over) := (cell_of_row wr (V) 4 _ _ _ hG1.box).trans rfl
    have k5 : wr.cell? ⟨V, 5, none⟩ = some (.int .i64 c1.st) := (cell_of_row wr (V) 5 _ _ _ hG1.box).trans rfl
    have k6 : wr.cell? ⟨V, 6, none⟩ = some (.int .i64 c1.id) := (cell_of_row wr (V) 6 _ _ _ hG1.box).trans rfl
    have k7 : wr.cell? ⟨V, 7, none⟩ = some (v1) := (cell_of_row wr (V) 7 _ _ _ hG1.box).trans rfl
    have kf := fun o => frozen_of_row wr (V) o _ _ hG1.box
    have lV1 := blk_lt hG1.box
    clear hD1 hG1 hW1
    by_cases hlt : j < m
    · have hlt' : (j : Int) < m := by omega
      cases hov : c1.over with
      | true =>
        rw [hov] at k4
        have HOV := Lib.hid hov
        clear hov
        go_wp2_with fail
        go_ret
        exact ⟨c1, ds1, v1, A1, B1, e1, o1, a1, b1, q1, rfl, HD1.out.skip HOV.out _, HG1.out, HW1.out⟩
      | false =>
        have HOV := Lib.hid hov
        have hpos : 0 < (held c1.D).length := by
          obtain ⟨d1, G1, hI1⟩ := HD1.out.inv
          exact (CrI.over_iff hI1).2 hov
        have hfew := held_few g1 n1 n2 HD1.out.inv
        obtain ⟨htN, htl⟩ := HD1.out.lt hov HO.out
        have HPF := Lib.hid (And.intro hpos hfew)
        have HTN := Lib.hid (And.intro htN htl)
        rw [hov] at k4
        clear hov hpos hfew htN htl
        go_wp2_with fail
        refine (dholds_yes S V g m c1 _ v1 A1 B1 e1 o1 a1 b1 q1 wr HG1.out m1 m2 HPF.out.1 (by have := HPF.out.2; omega)).mono ?_
        rintro ed w2 ⟨rfl, hE2⟩
        have HE2 := Lib.hid hE2
        clear hE2 k0 k1 k2 k3 k4 k5 k6 k7 kf
        go_wp2_with fail
        refine (dstep_any S V g n m c1 (evs0 ++ ds1) v1 A1 B1 e1 o1 a1 b1 q1 (j : Int) ((j : Int) + 1 + k) w2 HS.out (HG1.out.ext HE2.out) HD1.out.inv n1 n2 g1 g2 m1 m2 (by have := HD1.out.st; have := HTN.out; omega) (by have := HD1.out.id; have := HTN.out; omega) (by unfold in64; omega) (by unfold in64; omega) (by have := HTN.out; rw [List.length_append]; omega)).mono ?_
        have HDN : Hid (DrSt g n m N c0 (k * m + (j + 1)) (stepP g m c1 (j : Int) ((j : Int) + 1 + k)).1 (ds1 ++ [(stepP g m c1 (j : Int) ((j : Int) + 1 + k)).2])) := Lib.hid (by
          have h9 := HD1.out.step g1 m1 HOV.out HO.out
          rw [dpick_eq m k j hlt] at h9
          exact h9)
        obtain ⟨⟨c5, ev⟩, hr⟩ : ∃ x, stepP g m c1 (j : Int) ((j : Int) + 1 + k) = x := ⟨_, rfl⟩
        rw [hr] at HDN ⊢
        rintro ed w3 ⟨v3, A3, B3, e3, a3, b3, rfl, hG3, hW3⟩
        rw [List.append_assoc] at hG3
        have HG3 := Lib.hid hG3
        have HW3 := Lib.hid hW3
        have HDN' : Hid (DrSt g n m N c0 (k * m + (j + 1)) c5 (ds1 ++ [ev])) := HDN
        clear hr hG3 hW3
        go_wp2_with fail
        go_roundw
        case rel => exact ⟨j + 1, by omega, by go_num, c5, ds1 ++ [ev], v3, A3, B3, e3, 0, a3, b3, m, HDN'.out, HG3.out, (HW1.out.ext HE2.out).trans HW3.out⟩
        case measure => simp [intOf]; omega
    · obtain rfl : j = m := by omega
      go_wp2_with fail
      go_ret
      exact ⟨c1, ds1, v1, A1, B1, e1, o1, a1, b1, q1, rfl, by rw [Nat.succ_mul]; exact HD1.out, HG1.out, HW1.out⟩

/-- what a drain leaves -/
def DEndSaid (S : Nat → Prop) (V g m : Nat) (r : Cw × List Ev) (evs0 : List Ev) (w : World) (ed : Ending) (w' : World) : Prop :=
  ∃ (v : Value) (A B : Option Addr) (e0 eo a b e : Nat), ed = .returned (.int .i64 0) ∧ DG S w' V g m r.1 (evs0 ++ r.2) v A B e0 eo a b e ∧ Grew (fun x => V ≤ x) w w'
set_option maxHeartbeats 1600000 in
set_option maxRecDepth 100000 in
theorem ddrain_any (S : Nat → Prop) (V g n m N : Nat) (c0 : Cw) (evs0 : List Ev) (v : Value) (A B : Option Addr) (e0 eo a b e : Nat) (w : World) (hS : ∀ x, S x → x < V) (h : DG S w V g m c0 evs0 v A B e0 eo a b e) (hI : ∃ done G, CwI g n m c0 done G) (he : (drainP g m N 0 c0).1.over = true)
    (n1 : 1 ≤ n) (n2 : n ≤ 900) (g1 : 1 ≤ g) (g2 : g ≤ 100) (m1 : 1 ≤ m) (m2 : m ≤ 8) (hst : c0.st + N ≤ 100000) (hid : c0.id + N ≤ 100000) (hl : evs0.length + N ≤ 200000) (hN : N ≤ 50000) :
    Calls Try.prog 36 #[.pointer (some ⟨V, 0, none⟩)] w (DEndSaid S V g m (drainP g m N 0 c0) evs0 w) := by
  have H := Lib.hid h
  have HI := Lib.hid hI
  have HS := Lib.hid hS
  have HO := Lib.hid he
  clear h hI hS he
  go_enter Try.func36, Try.ntmps36
  go_wp2_with fail
  go_loopw [3] (fun i wr => ∃ k : Nat, k ≤ N ∧ i = .int .i64 k ∧ ∃ (c1 : Cw) (ds1 : List Ev) (v1 : Value) (A1 B1 : Option Addr) (e1 o1 a1 b1 q1 : Nat), DrSt g n m N c0 (k * m) c1 ds1 ∧ DG S wr V g m c1 (evs0 ++ ds1) v1 A1 B1 e1 o1 a1 b1 q1 ∧ Grew (fun x => V ≤ x) w wr) (fun i _ => N - (intOf i).toNat)
  case atStart => exact ⟨0, Nat.zero_le _, rfl, c0, [], v, A, B, e0, eo, a, b, e, by rw [Nat.zero_mul]; exact DrSt.start HI.out, by rw [List.append_nil]; exact H.out, Grew.refl _ _⟩
  case round =>
    obtain ⟨k, hk, rfl, c1, ds1, v1, A1, B1, e1, o1, a1, b1, q1, hD1, hG1, hW1⟩ := hrel
    have HD1 := Lib.hid hD1
    have HG1 := Lib.hid hG1
    have HW1 := Lib.hid hW1
    have hk0 : (0 : Int) ≤ k := by omega
    have hk1 : (k : Int) ≤ 50000 := by omega
    have k0 : wr.cell? ⟨V, 0, none⟩ = some (.slice A1 c1.ts.length a1) := (cell_of_row wr (V) 0 _ _ _ hG1.box).trans rfl
    have k1 : wr.cell? ⟨V, 1, none⟩ = some (.int .i64 g) := (cell_of_row wr (V) 1 _ _ _ hG1.box).trans rfl
    have k2 : wr.cell? ⟨V, 2, none⟩ = some (.slice B1 c1.dn.length b1) := (cell_of_row wr (V) 2 _ _ _ hG1.box).trans rfl
    have k3 : wr.cell? ⟨V, 3, none⟩ = some (.slice (some ⟨e1, o1, none⟩) m q1) := (cell_of_row wr (V) 3 _ _ _ hG1.box).trans rfl
    have k4 : wr.cell? ⟨V, 4, none⟩ = some (.bool c1.over) := (cell_of_row wr (V) 4 _ _ _ hG1.box).trans rfl
    have k5 : wr.cell? ⟨V, 5, none⟩ = some (.int .i64 c1.st) := (cell_of_row wr (V) 5 _ _ _ hG1.box).trans rfl
    have k6 : wr.cell? ⟨V, 6, none⟩ = some (.int .i64 c1.id) := (cell_of_row wr (V) 6 _ _ _ hG1.box).trans rfl
    have k7 : wr.cell? ⟨V, 7, none⟩ = some (v1) := (cell_of_row wr (V) 7 _ _ _ hG1.box).trans rfl
    have kf := fun o => frozen_of_row wr (V) o _ _ hG1.box
    have lV1 := blk_lt hG1.box
    clear hD1 hG1 hW1
    cases hov : c1.over with
    | true =>
      rw [hov] at k4
      have HEQ := Lib.hid (HD1.out.done hov)
      clear hov
      go_wp2_with fail
      go_ret
      rw [HEQ.out]
      exact ⟨v1, A1, B1, e1, o1, a1, b1, q1, rfl, HG1.out, HW1.out⟩
    | false =>
      have hlt : k < N := by
        have h1 := (HD1.out.lt hov HO.out).1
        have h2 : k ≤ k * m := Nat.le_mul_of_pos_right k m1
        omega
      rw [hov] at k4
      clear hov
      go_wp2_with fail
      refine (dround_any S V g n m N k c0 c1 evs0 ds1 v1 A1 B1 e1 o1 a1 b1 q1 wr HS.out HG1.out HD1.out HO.out n1 n2 g1 g2 m1 m2 hst hid hl (by omega)).mono ?_
      rintro ed w3 ⟨c3, ds3, v3, A3, B3, e3, o3, a3, b3, q3, rfl, hD3, hG3, hW3⟩
      have HD3 := Lib.hid hD3
      have HG3 := Lib.hid hG3
      have HW3 := Lib.hid hW3
      clear hD3 hG3 hW3 k0 k1 k2 k3 k4 k5 k6 k7 kf
      go_wp2_with fail
      go_roundw
      case rel => exact ⟨k + 1, by omega, by go_num, c3, ds3, v3, A3, B3, e3, o3, a3, b3, q3, HD3.out, HG3.out, HW1.out.trans HW3.out⟩
      case measure => simp [intOf]; omega
set_option maxHeartbeats 1600000 in
set_option maxRecDepth 100000 in
theorem dpick_any (S : Nat → Prop) (V g n m cp : Nat) (Ap : Option Addr) (picks : List (Int × Int)) (v : Value) (A B : Option Addr) (e0 eo a b e : Nat) (w : World) (hS : ∀ x, S x → x < V) (h : DG S w V g m (beginC n m) [] v A B e0 eo a b e) (hp : RdO kPk (fun x => V ≤ x) w (.slice Ap picks.length cp) picks)
    (n1 : 1 ≤ n) (n2 : n ≤ 900) (g1 : 1 ≤ g) (g2 : g ≤ 100) (m1 : 1 ≤ m) (m2 : m ≤ 8) (hl : picks.length ≤ 50000) :
    Calls Try.prog 35 #[.pointer (some ⟨V, 0, none⟩), .slice Ap picks.length cp] w (DEndSaid S V g m (untilP g m (beginC n m) picks) [] w) := by
  have H := Lib.hid h
  have HS := Lib.hid hS
  have HP := Lib.hid hp
  have hl' : (picks.length : Int) ≤ 50000 := by omega
  clear h hS hp
  go_enter Try.func35, Try.ntmps35
  go_wp2_with fail
  go_loopw [10] (fun i wr => ∃ k : Nat, k ≤ picks.length ∧ i = .int .i64 k ∧ ∃ (c1 : Cw) (evs1 : List Ev) (v1 : Value) (A1 B1 : Option Addr) (e1 o1 a1 b1 q1 : Nat), UnSt g n m picks k c1 evs1 ∧ DG S wr V g m c1 evs1 v1 A1 B1 e1 o1 a1 b1 q1 ∧ Grew (fun x => V ≤ x) w wr) (fun i _ => picks.length - (intOf i).toNat)
  case atStart => exact ⟨0, Nat.zero_le _, rfl, _, _, _, _, _, _, _, _, _, _, UnSt.start n1 m1, H.out, Grew.refl _ _⟩
  case round =>
    obtain ⟨k, hk, rfl, c1, evs1, v1, A1, B1, e1, o1, a1, b1, q1, hD1, hG1, hW1⟩ := hrel
    have HD1 := Lib.hid hD1
    have HG1 := Lib.hid hG1
    have HW1 := Lib.hid hW1
    have hk0 : (0 : Int) ≤ k := by omega
    have k0 : wr.cell? ⟨V, 0, none⟩ = some (.slice A1 c1.ts.length a1) := (cell_of_row wr (V) 0 _ _ _ hG1.box).trans rfl
    have k1 : wr.cell? ⟨V, 1, none⟩ = some (.int .i64 g) := (cell_of_row wr (V) 1 _ _ _ hG1.box).trans rfl
    have k2 : wr.cell? ⟨V, 2, none⟩ = some (.slice B1 c1.dn.length b1) := (cell_of_row wr (V) 2 _ _ _ hG1.box).trans rfl
    have k3 : wr.cell? ⟨V, 3, none⟩ = some (.slice (some ⟨e1, o1, none⟩) m q1) := (cell_of_row wr (V) 3 _ _ _ hG1.box).trans rfl
    have k4 : wr.cell? ⟨V, 4, none⟩ = some (.bool c1.over) := (cell_of_row wr (V) 4 _ _ _ hG1.box).trans rfl
    have k5 : wr.cell? ⟨V, 5, none⟩ = some (.int .i64 c1.st) := (cell_of_row wr (V) 5 _ _ _ hG1.box).trans rfl
    have k6 : wr.cell? ⟨V, 6, none⟩ = some (.int .i64 c1.id) := (cell_of_row wr (V) 6 _ _ _ hG1.box).trans rfl
    have k7 : wr.cell? ⟨V, 7, none⟩ = some (v1) := (cell_of_row wr (V) 7 _ _ _ hG1.box).trans rfl
    have kf := fun o => frozen_of_row wr (V) o _ _ hG1.box
    have lV1 := blk_lt hG1.box
    clear hD1 hG1
    by_cases hlt : k < picks.length
    · have hlt' : (k : Int) < picks.length := by omega
      have HRP := Lib.hid (HP.out wr hW1)
      obtain ⟨bp, op, rfl, hcp⟩ := Rd.picks HRP.out (by omega)
      obtain ⟨z0, z1⟩ := hcp k hlt
      have hok := HRP.out.okAt k hlt
      obtain ⟨⟨p, q⟩, hpq⟩ : ∃ x, picks.getD k (0, 0) = x := ⟨_, rfl⟩
      rw [hpq] at z0 z1
      have HOK : Hid (in64 p ∧ in64 q) := Lib.hid (by have h9 : picks.getD k kPk.d = (p, q) := hpq; rw [h9] at hok; exact hok)
      simp only at z0 z1
      have HPQ := Lib.hid hpq
      have lbp : bp < wr.heap.size := World.block_lt_of_cell? _ _ z0
      clear hcp hok hpq hW1
      cases hov : c1.over with
      | true =>
        rw [hov] at k4
        have HEQ := Lib.hid (HD1.out.over hov)
        clear hov
        go_wp2_with fail
        go_ret
        rw [HEQ.out]
        exact ⟨v1, A1, B1, e1, o1, a1, b1, q1, rfl, HG1.out.ext ((Ext.refl _).alloc _), HW1.out.alloc _⟩
      | false =>
        have HDN : Hid (UnSt g n m picks (k + 1) (stepP g m c1 p q).1 (evs1 ++ [(stepP g m c1 p q).2])) := Lib.hid (by
          have h9 := HD1.out.step g1 m1 hlt hov
          rw [HPQ.out] at h9
          exact h9)
        rw [hov] at k4
        clear hov
        go_wp2_with fail
        refine (dstep_any S V g n m c1 evs1 v1 A1 B1 e1 o1 a1 b1 q1 p q _ HS.out (HG1.out.ext ((Ext.refl _).alloc _)) ⟨_, _, HD1.out.been.inv.choose_spec⟩ n1 n2 g1 g2 m1 m2 (by have := HD1.out.been.st; have := HD1.out.len; omega) (by have := HD1.out.been.id; have := HD1.out.len; omega) HOK.out.1 HOK.out.2 (by have := HD1.out.len; omega)).mono ?_
        obtain ⟨⟨c5, ev⟩, hr⟩ : ∃ x, stepP g m c1 p q = x := ⟨_, rfl⟩
        rw [hr] at HDN ⊢
        rintro ed w3 ⟨v3, A3, B3, e3, a3, b3, rfl, hG3, hW3⟩
        have HG3 := Lib.hid hG3
        have HW3 := Lib.hid hW3
        have HDN' : Hid (UnSt g n m picks (k + 1) c5 (evs1 ++ [ev])) := HDN
        clear hr hG3 hW3 k0 k1 k2 k3 k4 k5 k6 k7 kf z0 z1
        go_wp2_with fail
        go_roundw
        case rel => exact ⟨k + 1, by omega, by go_num, c5, evs1 ++ [ev], v3, A3, B3, e3, 0, a3, b3, m, HDN'.out, HG3.out, (HW1.out.alloc _).trans HW3.out⟩
        case measure => simp [intOf]; omega
    · have HEQ := Lib.hid (HD1.out.done (by omega))
      obtain rfl : k = picks.length := by omega
      clear hW1
      go_wp2_with fail
      go_ret
      rw [HEQ.out]
      exact ⟨v1, A1, B1, e1, o1, a1, b1, q1, rfl, HG1.out, HW1.out⟩
end Go.Proofs.Ytjabahfkgaamdaa

/- The program's Whole: from the beginning to the end. Written by wip/mk_d6c.py. -/
namespace Go.Proofs.Ytjabahfkgaamdaa
open Go.BigFrame
open Go.RowKit Go.Proofs.Ytjabahfkgaamdaa.Plain

/-- a crew's box -/
structure D6Box (w : World) (R : Nat) (A B : Option Addr) (e0 eo a b e g m : Nat) (c : Cw) : Prop where
  v0 : w.cell? ⟨R, 0, none⟩ = some (.slice A c.ts.length a)
  v1 : w.cell? ⟨R, 1, none⟩ = some (.int .i64 g)
  v2 : w.cell? ⟨R, 2, none⟩ = some (.slice B c.dn.length b)
  v3 : w.cell? ⟨R, 3, none⟩ = some (.slice (some ⟨e0, eo, none⟩) m e)
  v4 : w.cell? ⟨R, 4, none⟩ = some (.bool c.over)
  v5 : w.cell? ⟨R, 5, none⟩ = some (.int .i64 c.st)
  v6 : w.cell? ⟨R, 6, none⟩ = some (.int .i64 c.id)
theorem D6Box.one {w : World} {R : Nat} {A B : Option Addr} {e0 eo a b e g m : Nat} {c : Cw} {p0 p1 p2 p3 p4 p5 p6 : Value} (r0 : w.cell? ⟨R, 0, none⟩ = some p0) (r1 : w.cell? ⟨R, 1, none⟩ = some p1) (r2 : w.cell? ⟨R, 2, none⟩ = some p2) (r3 : w.cell? ⟨R, 3, none⟩ = some p3) (r4 : w.cell? ⟨R, 4, none⟩ = some p4) (r5 : w.cell? ⟨R, 5, none⟩ = some p5) (r6 : w.cell? ⟨R, 6, none⟩ = some p6) : D6Box (World.drew (((((((w.setCell ⟨R, 0, none⟩ (.slice A c.ts.length a)).setCell ⟨R, 1, none⟩ (.int .i64 g)).setCell ⟨R, 2, none⟩ (.slice B c.dn.length b)).setCell ⟨R, 3, none⟩ (.slice (some ⟨e0, eo, none⟩) m e)).setCell ⟨R, 4, none⟩ (.bool c.over)).setCell ⟨R, 5, none⟩ (.int .i64 c.st)).setCell ⟨R, 6, none⟩ (.int .i64 c.id))) R A B e0 eo a b e g m c ∧ Grew (fun x => x = R) w (World.drew (((((((w.setCell ⟨R, 0, none⟩ (.slice A c.ts.length a)).setCell ⟨R, 1, none⟩ (.int .i64 g)).setCell ⟨R, 2, none⟩ (.slice B c.dn.length b)).setCell ⟨R, 3, none⟩ (.slice (some ⟨e0, eo, none⟩) m e)).setCell ⟨R, 4, none⟩ (.bool c.over)).setCell ⟨R, 5, none⟩ (.int .i64 c.st)).setCell ⟨R, 6, none⟩ (.int .i64 c.id))) := by
  refine ⟨⟨by go_simp, by go_simp, by go_simp, by go_simp, by go_simp, by go_simp, by go_simp⟩, Grew.drew (Grew.setCell (S := fun x => x = R) (p := ⟨R, 6, none⟩) (Grew.setCell (S := fun x => x = R) (p := ⟨R, 5, none⟩) (Grew.setCell (S := fun x => x = R) (p := ⟨R, 4, none⟩) (Grew.setCell (S := fun x => x = R) (p := ⟨R, 3, none⟩) (Grew.setCell (S := fun x => x = R) (p := ⟨R, 2, none⟩) (Grew.setCell (S := fun x => x = R) (p := ⟨R, 1, none⟩) (Grew.setCell (S := fun x => x = R) (p := ⟨R, 0, none⟩) (Grew.refl _ _) rfl _) rfl _) rfl _) rfl _) rfl _) rfl _) rfl _)⟩
/-- what Whole leaves -/
def DWholeSaid (g m : Nat) (r : Cw × List Ev) (w : World) (ed : Ending) (w' : World) : Prop :=
  ∃ (A B L : Option Addr) (e0 eo a b e l : Nat), m ≤ e ∧ ed = .returned (.tuple #[crewV A B e0 eo a b e g m r.1, .slice L r.2.length l, .int .i64 0]) ∧ CrewAt w' m r.1 A B e0 eo a b ∧ Ow kEv w.heap.size w' (.slice L r.2.length l) r.2 ∧ Ext w w'
set_option maxHeartbeats 1600000 in
set_option maxRecDepth 100000 in
theorem dwhole_any (n g m : Nat) (Ap : Option Addr) (cp : Nat) (picks : List (Int × Int)) (w : World) (hp : Rd kPk w (.slice Ap picks.length cp) picks) (n1 : 1 ≤ n) (n2 : n ≤ 900) (g1 : 1 ≤ g) (g2 : g ≤ 100) (m1 : 1 ≤ m) (m2 : m ≤ 8) (hl : picks.length ≤ 4000) :
    Calls Try.prog 25 #[.int .i64 n, .int .i64 g, .int .i64 m, .slice Ap picks.length cp] w (DWholeSaid g m (wholeP g n m picks) w) := by
  have HP := Lib.hid hp
  obtain ⟨r, hr⟩ : ∃ r, wholeP g n m picks = r := ⟨_, rfl⟩
  have HR := Lib.hid hr
  rw [hr]
  clear hp hr
  go_enter Try.func25, Try.ntmps25
  go_wp2_with fail
  refine (cbegin_off n g m _ n1 (by omega) g1 g2 m1 m2).mono ?_
  obtain ⟨c0, hc0⟩ : ∃ x, beginC n m = x := ⟨_, rfl⟩
  have HC0 := Lib.hid hc0
  rintro ed w2 ⟨A0, B0, e0, a0, b0, rfl, hC, hE⟩
  rw [hc0] at hC ⊢
  have HRS := Lib.hid (block_keep (heap_alloc_new w (.cells #[.slice none 0 0, .int .i64 0, .slice none 0 0, .slice none 0 0, .bool false, .int .i64 0, .int .i64 0] 57)) hE)
  have hz := hE.size
  simp at hz
  have HX2 := Lib.hid (((Ext.refl w).alloc _).trans hE)
  have HC := Lib.hid hC
  obtain ⟨V, hV⟩ : ∃ V, w2.heap.size + 1 = V := ⟨_, rfl⟩
  clear hC hE hc0
  go_wp2_with fail
  have HDG : Hid (DG (fun x => x = w.heap.size) (((w2.alloc (.cells #[.slice A0 c0.ts.length a0, .int .i64 g, .slice B0 c0.dn.length b0, .slice (some ⟨e0, 0, none⟩) m m, .bool c0.over, .int .i64 c0.st, .int .i64 c0.id] 57)).alloc (.cells #[.slice A0 c0.ts.length a0, .int .i64 g, .slice B0 c0.dn.length b0, .slice (some ⟨e0, 0, none⟩) m m, .bool c0.over, .int .i64 c0.st, .int .i64 c0.id, .slice none 0 0] 73))) V g m (beginC n m) [] (.slice none 0 0) A0 B0 e0 0 a0 b0 m) := Lib.hid (by
    rw [HC0.out, ← hV]
    refine ⟨Nat.le_refl _, heap_alloc2_new w2 _ _, HC.out.later m1 (Grew.of (((Ext.refl _).alloc _).alloc _)) (fun x hx hT => ?_), Ow.nil _ _⟩
    rcases hT with hT | hT | hT
    · simp; omega
    · omega
    · cases hT)
  have HRP : Hid (RdO kPk (fun x => V ≤ x) (((w2.alloc (.cells #[.slice A0 c0.ts.length a0, .int .i64 g, .slice B0 c0.dn.length b0, .slice (some ⟨e0, 0, none⟩) m m, .bool c0.over, .int .i64 c0.st, .int .i64 c0.id] 57)).alloc (.cells #[.slice A0 c0.ts.length a0, .int .i64 g, .slice B0 c0.dn.length b0, .slice (some ⟨e0, 0, none⟩) m m, .bool c0.over, .int .i64 c0.st, .int .i64 c0.id, .slice none 0 0] 73))) (.slice Ap picks.length cp) picks) := Lib.hid (fun W hW => HP.out.ext (hW.toExt ((HX2.out.alloc _).alloc _) (fun b hb => by omega)))
  have HRS2 : Hid ((((w2.alloc (.cells #[.slice A0 c0.ts.length a0, .int .i64 g, .slice B0 c0.dn.length b0, .slice (some ⟨e0, 0, none⟩) m m, .bool c0.over, .int .i64 c0.st, .int .i64 c0.id] 57)).alloc (.cells #[.slice A0 c0.ts.length a0, .int .i64 g, .slice B0 c0.dn.length b0, .slice (some ⟨e0, 0, none⟩) m m, .bool c0.over, .int .i64 c0.st, .int .i64 c0.id, .slice none 0 0] 73))).heap[w.heap.size]? = some (.cells #[.slice none 0 0, .int .i64 0, .slice none 0 0, .slice none 0 0, .bool false, .int .i64 0, .int .i64 0] 57)) := Lib.hid (block_keep HRS.out (((Ext.refl _).alloc _).alloc _))
  have HX3 : Hid (Ext w (((w2.alloc (.cells #[.slice A0 c0.ts.length a0, .int .i64 g, .slice B0 c0.dn.length b0, .slice (some ⟨e0, 0, none⟩) m m, .bool c0.over, .int .i64 c0.st, .int .i64 c0.id] 57)).alloc (.cells #[.slice A0 c0.ts.length a0, .int .i64 g, .slice B0 c0.dn.length b0, .slice (some ⟨e0, 0, none⟩) m m, .bool c0.over, .int .i64 c0.st, .int .i64 c0.id, .slice none 0 0] 73)))) := Lib.hid ((HX2.out.alloc _).alloc _)
  clear HRS
  generalize (((w2.alloc (.cells #[.slice A0 c0.ts.length a0, .int .i64 g, .slice B0 c0.dn.length b0, .slice (some ⟨e0, 0, none⟩) m m, .bool c0.over, .int .i64 c0.st, .int .i64 c0.id] 57)).alloc (.cells #[.slice A0 c0.ts.length a0, .int .i64 g, .slice B0 c0.dn.length b0, .slice (some ⟨e0, 0, none⟩) m m, .bool c0.over, .int .i64 c0.st, .int .i64 c0.id, .slice none 0 0] 73))) = w3 at *
  refine (dpick_any (fun x => x = w.heap.size) V g n m cp Ap picks _ A0 B0 e0 0 a0 b0 m w3 (fun x hx => by omega) HDG.out HRP.out n1 n2 g1 g2 m1 m2 (by omega)).mono ?_
  obtain ⟨hU1, hU2⟩ := Been.until g1 m1 picks (beginC n m) [] (Been.begin g n m n1 m1)
  obtain ⟨N, hN⟩ : ∃ N, m * cntT n g = N := ⟨_, rfl⟩
  have hov := (whole_ends g1 n1 m1 picks).1
  have hW : wholeP g n m picks = ((drainP g m N 0 (untilP g m (beginC n m) picks).1).1, (untilP g m (beginC n m) picks).2 ++ (drainP g m N 0 (untilP g m (beginC n m) picks).1).2) := by rw [← hN]; rfl
  rw [hW] at hov
  rw [HR.out] at hW
  rw [List.nil_append] at hU1
  obtain ⟨⟨c1, evs⟩, hu⟩ : ∃ x, untilP g m (beginC n m) picks = x := ⟨_, rfl⟩
  rw [hu] at hU1 hU2 hov hW ⊢
  simp only at hU1 hU2 hov hW
  have hNl : N ≤ 14400 := by
    obtain ⟨dn, hI⟩ := hU1.inv
    have hcn := (hI.counts g1 n1).2.2.1
    have h1 : m * cntT n g ≤ 8 * 1800 := Nat.mul_le_mul m2 (by omega)
    omega
  have HU1 : Hid (Been g n m c1 evs) := Lib.hid hU1
  have HOV : Hid ((drainP g m N 0 c1).1.over = true) := Lib.hid hov
  have HW := Lib.hid hW
  have HU2 : Hid (evs.length ≤ picks.length) := Lib.hid hU2
  rintro ed w4 ⟨v1, A1, B1, e1, o1, a1, b1, q1, rfl, hG, hG4⟩
  rw [List.nil_append] at hG
  have HG := Lib.hid hG
  have HG4 := Lib.hid hG4
  have HNL := Lib.hid hNl
  clear hG hG4 hU1 hov hW hU2 hu hN hNl
  go_wp2_with fail
  refine (ddrain_any (fun x => x = w.heap.size) V g n m N c1 evs v1 A1 B1 e1 o1 a1 b1 q1 w4 (fun x hx => by omega) HG.out ⟨_, _, HU1.out.inv.choose_spec⟩ HOV.out n1 n2 g1 g2 m1 m2 (by have := HU1.out.st; have := HU2.out; have := HNL.out; omega) (by have := HU1.out.id; have := HU2.out; have := HNL.out; omega) (by have := HU2.out; have := HNL.out; omega) (by have := HNL.out; omega)).mono ?_
  obtain ⟨⟨c2, ds⟩, hd⟩ : ∃ x, drainP g m N 0 c1 = x := ⟨_, rfl⟩
  have hW2 := HW.out
  rw [hd] at hW2 ⊢
  simp only at hW2
  rintro ed w7 ⟨v2, A2, B2, e2, o2, a2, b2, q2, rfl, hG5, hW5⟩
  obtain ⟨es, hes⟩ : ∃ es, evs ++ ds = es := ⟨_, rfl⟩
  have hG6 : DG (fun x => x = w.heap.size) w7 V g m c2 es v2 A2 B2 e2 o2 a2 b2 q2 := by rw [← hes]; exact hG5
  rw [hes] at hW2
  obtain ⟨Ao, co, hv, hco⟩ := hG6.own.slice
  obtain ⟨no, hno⟩ : ∃ no, es.length = no := ⟨_, rfl⟩
  rw [hno] at hv
  subst hv
  have HNO := Lib.hid hno
  have HW2 := Lib.hid hW2
  have HG6 := Lib.hid hG6
  have hGW : Grew (fun x => V ≤ x) w3 w7 := HG4.out.trans hW5
  have HRS5 := Lib.hid (block_wr HRS2.out hGW (by omega))
  have HX5 : Hid (Ext w w7) := Lib.hid (hGW.toExt HX3.out (fun b hb => by omega))
  clear hG5 hW5 hes hG6 hco hno hd hW2 hGW
  have z0 : w7.cell? ⟨V, 0, none⟩ = some (.slice A2 c2.ts.length a2) := (cell_of_row w7 (V) 0 _ _ _ HG6.out.box).trans rfl
  have z1 : w7.cell? ⟨V, 1, none⟩ = some (.int .i64 g) := (cell_of_row w7 (V) 1 _ _ _ HG6.out.box).trans rfl
  have z2 : w7.cell? ⟨V, 2, none⟩ = some (.slice B2 c2.dn.length b2) := (cell_of_row w7 (V) 2 _ _ _ HG6.out.box).trans rfl
  have z3 : w7.cell? ⟨V, 3, none⟩ = some (.slice (some ⟨e2, o2, none⟩) m q2) := (cell_of_row w7 (V) 3 _ _ _ HG6.out.box).trans rfl
  have z4 : w7.cell? ⟨V, 4, none⟩ = some (.bool c2.over) := (cell_of_row w7 (V) 4 _ _ _ HG6.out.box).trans rfl
  have z5 : w7.cell? ⟨V, 5, none⟩ = some (.int .i64 c2.st) := (cell_of_row w7 (V) 5 _ _ _ HG6.out.box).trans rfl
  have z6 : w7.cell? ⟨V, 6, none⟩ = some (.int .i64 c2.id) := (cell_of_row w7 (V) 6 _ _ _ HG6.out.box).trans rfl
  have z7 : w7.cell? ⟨V, 7, none⟩ = some (.slice Ao no co) := (cell_of_row w7 (V) 7 _ _ _ HG6.out.box).trans rfl
  have zf := fun o => frozen_of_row w7 (V) o _ _ HG6.out.box
  have y0 : w7.cell? ⟨w.heap.size, 0, none⟩ = some (.slice none 0 0) := (cell_of_row w7 (w.heap.size) 0 _ _ _ HRS5.out).trans rfl
  have y1 : w7.cell? ⟨w.heap.size, 1, none⟩ = some (.int .i64 0) := (cell_of_row w7 (w.heap.size) 1 _ _ _ HRS5.out).trans rfl
  have y2 : w7.cell? ⟨w.heap.size, 2, none⟩ = some (.slice none 0 0) := (cell_of_row w7 (w.heap.size) 2 _ _ _ HRS5.out).trans rfl
  have y3 : w7.cell? ⟨w.heap.size, 3, none⟩ = some (.slice none 0 0) := (cell_of_row w7 (w.heap.size) 3 _ _ _ HRS5.out).trans rfl
  have y4 : w7.cell? ⟨w.heap.size, 4, none⟩ = some (.bool false) := (cell_of_row w7 (w.heap.size) 4 _ _ _ HRS5.out).trans rfl
  have y5 : w7.cell? ⟨w.heap.size, 5, none⟩ = some (.int .i64 0) := (cell_of_row w7 (w.heap.size) 5 _ _ _ HRS5.out).trans rfl
  have y6 : w7.cell? ⟨w.heap.size, 6, none⟩ = some (.int .i64 0) := (cell_of_row w7 (w.heap.size) 6 _ _ _ HRS5.out).trans rfl
  have yf := fun o => frozen_of_row w7 (w.heap.size) o _ _ HRS5.out
  have lV := blk_lt HG6.out.box
  have lR := blk_lt HRS5.out
  have nRV : ¬ w.heap.size = V := by omega
  have nVR : ¬ V = w.heap.size := by omega
  go_upto_region 8 with fail
  go_cut [9, 10] (fun l z wx => l = .slice Ao no co ∧ z = .int .i64 0 ∧ D6Box wx w.heap.size A2 B2 e2 o2 a2 b2 q2 g m c2 ∧ Grew (fun x => x = w.heap.size) w7 wx)
  case first =>
    go_region
    all_goals go_wp2_with fail
    all_goals go_meet
    all_goals (with_reducible exact ⟨rfl, rfl, D6Box.one y0 y1 y2 y3 y4 y5 y6⟩)
  case rest =>
  obtain ⟨rfl, rfl, hB, hGR⟩ := hcut
  obtain ⟨y0, y1, y2, y3, y4, y5, y6⟩ := hB
  have HGR := Lib.hid hGR
  clear hGR z0 z1 z2 z3 z4 z5 z6 z7 zf lV lR
  go_wp2_with fail
  refine bodyPost_ret (v := .tuple #[crewV A2 B2 e2 o2 a2 b2 q2 g m c2, .slice Ao no co, .int .i64 0]) (by simp [results, Try.results25, go_sem, y0, y1, y2, y3, y4, y5, y6]) rfl ?_
  rw [HW2.out]
  refine ⟨A2, B2, Ao, e2, o2, a2, b2, q2, co, HG6.out.me, by rw [HNO.out], ?_, ?_, ?_⟩
  · exact (HG6.out.cr.grew (HGR.out.mono (fun x _ hx => .inl hx))).at_ m1
  · rw [HNO.out]
    exact (HG6.out.own.grew HGR.out (fun x hx e => by have := (HG6.out.own.lt x hx).1; omega)).mono (by omega)
  · exact HGR.out.toExt HX5.out (fun x hx => by omega)
end Go.Proofs.Ytjabahfkgaamdaa

/- The document's small words of a crew (ref05): cut, Held. -/
namespace Go.Proofs.Ytjabahfkgaamdaa
open Go.BigFrame
open Go.RowKit Go.Proofs.Ytjabahfkgaamdaa.Plain

set_option maxRecDepth 100000 in
theorem rcut_any (p : Int) (m : Nat) (w : World) (hp : in64 p) (m1 : 1 ≤ m) (m2 : m ≤ 8) :
    Calls Try.prog 46 #[.int .i64 p, .int .i64 m] w fun e w' => e = .returned (.int .i64 (cutN m p)) ∧ w = w' := by
  obtain ⟨h1, h2⟩ := tmod_cut m p m1
  have hm0 : (1 : Int) ≤ m := by omega
  have hm8 : (m : Int) ≤ 8 := by omega
  have h3 := Int.tmod_lt_of_pos p (by omega : (0 : Int) < m)
  have h4 := cutN_lt m p m1
  obtain ⟨hp1, hp2⟩ := hp
  obtain ⟨r, hr⟩ : ∃ r, p.tmod m = r := ⟨_, rfl⟩
  rw [hr] at h1 h2 h3
  have hr0 : -8 ≤ r := by
    rcases Int.lt_or_le r 0 with h | h
    · have := h2 h; omega
    · omega
  have HR := Lib.hid hr
  clear hr
  rcases Int.lt_or_le r 0 with h | h
  · have HQ : Hid (r + m = (cutN m p : Int)) := Lib.hid (h2 h)
    clear h1 h2
    go_enter Try.func46, Try.ntmps46
    go_wp2
    all_goals (try rw [HR.out] at *)
    all_goals first | (exfalso; omega) | skip
    all_goals go_ret
    all_goals exact ⟨ret_int (by first | exact HQ.out | (rw [← HQ.out]; exact IntWalk.i64_in _ (by omega)) | (rw [HR.out]; exact HQ.out) | (rw [IntWalk.wrap64_in _ (by omega)]; exact HQ.out) | (have := HQ.out; have := HR.out; omega)), rfl⟩
  · have HQ : Hid (r = (cutN m p : Int)) := Lib.hid (h1 h)
    clear h1 h2
    go_enter Try.func46, Try.ntmps46
    go_wp2
    all_goals (try rw [HR.out] at *)
    all_goals first | (exfalso; omega) | skip
    all_goals go_ret
    all_goals exact ⟨ret_int (by first | exact HQ.out | (rw [HR.out]; exact HQ.out) | (have := HQ.out; have := HR.out; omega)), rfl⟩
set_option maxHeartbeats 800000 in
set_option maxRecDepth 100000 in
theorem rheld_any (A B : Option Addr) (eb eo a b e g m : Nat) (c : Cw) (hs : Nat → Hd) (w : World) (h : Hds (fun _ => False) w eb eo m hs c.D) (hm : m ≤ 8) (hl : (held c.D).length ≤ 1000000) :
    Calls Try.prog 53 #[crewV A B eb eo a b e g m c] w fun ed w' => ed = .returned (.int .i64 (held c.D).length) ∧ Ext w w' := by
  have H := Lib.hid h
  have HDL : Hid (c.D.length = m) := Lib.hid h.1
  have hm' : (m : Int) ≤ 8 := by omega
  obtain ⟨N, hN⟩ : ∃ N, (held c.D).length = N := ⟨_, rfl⟩
  rw [hN] at hl ⊢
  have HN := Lib.hid hN
  clear h hN
  go_enter Try.func53, Try.ntmps53
  go_wp2_with fail
  have c3 : (w.alloc (.cells #[.slice A c.ts.length a, .int .i64 g, .slice B c.dn.length b, .slice (some ⟨eb, eo, none⟩) m e, .bool c.over, .int .i64 c.st, .int .i64 c.id] 57)).cell? ⟨w.heap.size, 3, none⟩ = some (.slice (some ⟨eb, eo, none⟩) m e) := by go_simp
  have HX0 : Hid (Ext w (w.alloc (.cells #[.slice A c.ts.length a, .int .i64 g, .slice B c.dn.length b, .slice (some ⟨eb, eo, none⟩) m e, .bool c.over, .int .i64 c.st, .int .i64 c.id] 57))) := Lib.hid ((Ext.refl _).alloc _)
  generalize (w.alloc (.cells #[.slice A c.ts.length a, .int .i64 g, .slice B c.dn.length b, .slice (some ⟨eb, eo, none⟩) m e, .bool c.over, .int .i64 c.st, .int .i64 c.id] 57)) = w1 at *
  go_loopw [3, 4] (fun s i wr => ∃ k : Nat, k ≤ m ∧ i = .int .i64 k ∧ s = .int .i64 ((upTo c.D k).length : Nat) ∧ Ext w1 wr) (fun _ i _ => m - (intOf i).toNat)
  case atStart => exact ⟨0, Nat.zero_le _, rfl, rfl, Ext.refl _⟩
  case round =>
    obtain ⟨k, hk, rfl, rfl, hX⟩ := hrel
    have d3 := hX.cell c3
    have hk0 : (0 : Int) ≤ k := by omega
    by_cases hlt : k < m
    · have hlt' : (k : Int) < m := by omega
      obtain ⟨z0, zn, _⟩ := H.out.2 k hlt
      have z := (HX0.out.trans hX).cell z0
      obtain ⟨u1, hu1⟩ : ∃ x, (upTo c.D k).length = x := ⟨_, rfl⟩
      obtain ⟨u2, hu2⟩ : ∃ x, (hs k).n = x := ⟨_, rfl⟩
      have hsucc : (upTo c.D (k + 1)).length = u1 + u2 := by rw [upTo_succ c.D k (by rw [HDL.out]; exact hlt), List.length_append, hu1, ← hu2, zn]
      have hb := upTo_le c.D (k + 1)
      rw [hsucc, HN.out] at hb
      have hb1 : (u1 : Int) ≤ 1000000 := by omega
      have hb2 : (u2 : Int) ≤ 1000000 := by omega
      have HS := Lib.hid hsucc
      unfold Hd.v at z
      rw [hu2] at z
      rw [hu1]
      clear hsucc hb zn hu1 hu2 z0
      go_wp2_with fail
      go_roundw
      case rel => exact ⟨k + 1, by omega, by go_num, by rw [HS.out]; go_num, hX⟩
      case measure => simp [intOf]; omega
    · obtain rfl : k = m := by omega
      have hu : (upTo c.D k).length = N := by rw [← HDL.out, upTo_all c.D, HN.out]
      rw [hu]
      clear hu
      go_wp2_with fail
      go_ret
      exact ⟨rfl, HX0.out.trans hX⟩
end Go.Proofs.Ytjabahfkgaamdaa

/- The document's copy of a crew (ref05): memory of its own. -/
namespace Go.Proofs.Ytjabahfkgaamdaa
open Go.BigFrame
open Go.RowKit Go.Proofs.Ytjabahfkgaamdaa.Plain

/-- a crew of the call's own memory: no list shares a block with another one -/
structure OwC (B : Nat) (w : World) (m : Nat) (c : Cw) (A A' : Option Addr) (e0 e a b : Nat) (L : List Hd) : Prop where
  tsk : Ow kTask B w (.slice A c.ts.length a) c.ts
  dns : Ow kBool B w (.slice A' c.dn.length b) c.dn
  row : Ow kRow B w (.slice (some ⟨e0, 0, none⟩) m e) L
  len : L.length = m
  dl : c.D.length = m
  els : ∀ j, j < m → (L.getD j hd0).n = (c.D.getD j []).length ∧ Ow kInt B w (L.getD j hd0).v (zs (c.D.getD j []))
  far : ∀ i j, i < m → j < m → i ≠ j → ∀ k, (L.getD i hd0).v.ownBlock = some k → (L.getD j hd0).v.ownBlock ≠ some k
theorem OwC.ext {B : Nat} {w W : World} {m : Nat} {c : Cw} {A A' : Option Addr} {e0 e a b : Nat} {L : List Hd} (h : OwC B w m c A A' e0 e a b L) (hE : Ext w W) : OwC B W m c A A' e0 e a b L :=
  ⟨h.tsk.ext hE, h.dns.ext hE, h.row.ext hE, h.len, h.dl, fun j hj => ⟨(h.els j hj).1, (h.els j hj).2.ext hE⟩, h.far⟩
/-- work of the call's own memory, as a value -/
def WorkOwn (B : Nat) (w : World) (v : Value) (ts : List Tk) (g : Int) (dn : List Bool) : Prop :=
  ∃ A c B' d, v = .agg #[.slice A ts.length c, .int .i64 g, .slice B' dn.length d] ∧ Ow kTask B w (.slice A ts.length c) ts ∧ Ow kBool B w (.slice B' dn.length d) dn
theorem WorkOwn.ext {B : Nat} {w W : World} {v : Value} {ts : List Tk} {g : Int} {dn : List Bool} (h : WorkOwn B w v ts g dn) (hE : Ext w W) : WorkOwn B W v ts g dn := by
  obtain ⟨A, c, B', d, h1, h2, h3⟩ := h
  exact ⟨A, c, B', d, h1, h2.ext hE, h3.ext hE⟩
/-- .. in a crew without deques -/
def CrewOwn0 (B : Nat) (w : World) (v : Value) (g : Int) (c : Cw) : Prop :=
  ∃ A a B' b, v = .agg #[.slice A c.ts.length a, .int .i64 g, .slice B' c.dn.length b, .slice none 0 0, .bool c.over, .int .i64 c.st, .int .i64 c.id] ∧ Ow kTask B w (.slice A c.ts.length a) c.ts ∧ Ow kBool B w (.slice B' c.dn.length b) c.dn
theorem CrewOwn0.ext {B : Nat} {w W : World} {v : Value} {g : Int} {c : Cw} (h : CrewOwn0 B w v g c) (hE : Ext w W) : CrewOwn0 B W v g c := by
  obtain ⟨A, a, B', d, h1, h2, h3⟩ := h
  exact ⟨A, a, B', d, h1, h2.ext hE, h3.ext hE⟩
/-- a new box -/
def BoxNew (B : Nat) (w : World) (v : Value) (cs : Array Value) (ty : TypeId) : Prop := ∃ x, v = .pointer (some ⟨x, 0, none⟩) ∧ B ≤ x ∧ w.heap[x]? = some (.cells cs ty (0, 0))
theorem BoxNew.ext {B : Nat} {w W : World} {v : Value} {cs : Array Value} {ty : TypeId} (h : BoxNew B w v cs ty) (hE : Ext w W) : BoxNew B W v cs ty := by
  obtain ⟨x, h1, h2, h3⟩ := h
  exact ⟨x, h1, h2, block_keep h3 hE⟩
theorem BoxNew.made (w : World) {B : Nat} (hB : B ≤ w.heap.size) (cs : Array Value) (ty : TypeId) : BoxNew B (w.alloc (.cells cs ty)) (.pointer (some ⟨w.heap.size, 0, none⟩)) cs ty := ⟨w.heap.size, rfl, hB, heap_alloc_new w _⟩
/-- lists lie in blocks of their own type alone -/
theorem Ow.notBox {α : Type} {K : Kd α} {B x : Nat} {w : World} {v : Value} {xs : List α} {cs : Array Value} {ty : TypeId} {r : Nat × Nat} (h : Ow K B w v xs) (hx : w.heap[x]? = some (.cells cs ty r)) (ht : K.e ≠ ty) : v.ownBlock ≠ some x := by
  obtain ⟨⟨h1, h2⟩, _⟩ := h
  rcases h2 with h2 | ⟨g, cap, cur, hv, hg, hh, hr⟩
  · rw [h2.1]; simp [Value.ownBlock]
  · rw [hv]
    simp only [Value.ownBlock, ne_eq, Option.some.injEq]
    intro e
    subst e
    rw [hh] at hx
    cases hx
    exact ht rfl

def R5C (w0 : World) (P : Nat) (A B : Option Addr) (eb eo a b e g m : Nat) (c : Cw) : Nat → World → List Value → Value → Prop
  | 0, w, ds, v => v = .pointer (some ⟨P, 0, none⟩)
  | 1, w, ds, v => v = .agg #[.slice A c.ts.length a, .int .i64 g, .slice B c.dn.length b]
  | 2, w, ds, v => WorkOwn w0.heap.size w v c.ts g c.dn
  | 3, w, ds, v => v = .pointer (some ⟨P, 4, none⟩)
  | 4, w, ds, v => v = .bool c.over
  | 5, w, ds, v => v = .pointer (some ⟨P, 5, none⟩)
  | 6, w, ds, v => v = .int .i64 c.st
  | 7, w, ds, v => v = .pointer (some ⟨P, 6, none⟩)
  | 8, w, ds, v => v = .int .i64 c.id
  | 9, w, ds, v => CrewOwn0 w0.heap.size w v g c
  | 10, w, ds, v => BoxNew w0.heap.size w v #[.slice none 0 0, .int .i64 0, .slice none 0 0, .slice none 0 0, .bool false, .int .i64 0, .int .i64 0] 57
  | _, _, _, _ => True
theorem R5C_ext (w0 : World) (P : Nat) (A B : Option Addr) (eb eo a b e g m : Nat) (c : Cw) : ∀ i w w' ds v, R5C w0 P A B eb eo a b e g m c i w ds v → Ext w w' → R5C w0 P A B eb eo a b e g m c i w' ds v
  | 0, _, _, _, _, h, _ => h
  | 1, _, _, _, _, h, _ => h
  | 2, _, _, _, _, h, hE => h.ext hE
  | 3, _, _, _, _, h, _ => h
  | 4, _, _, _, _, h, _ => h
  | 5, _, _, _, _, h, _ => h
  | 6, _, _, _, _, h, _ => h
  | 7, _, _, _, _, h, _ => h
  | 8, _, _, _, _, h, _ => h
  | 9, _, _, _, _, h, hE => h.ext hE
  | 10, _, _, _, _, h, hE => h.ext hE
  | _ + 11, _, _, _, _, _, _ => trivial
section
variable (w0 : World) (P : Nat) (A B : Option Addr) (eb eo a b e g m : Nat) (c : Cw) (w : World) (ds : List Value) (v : Value)
theorem R5C_i0 (h : v = .pointer (some ⟨P, 0, none⟩)) : R5C w0 P A B eb eo a b e g m c 0 w ds v := h
theorem R5C_e0 (h : R5C w0 P A B eb eo a b e g m c 0 w ds v) : v = .pointer (some ⟨P, 0, none⟩) := h
theorem R5C_i1 (h : v = .agg #[.slice A c.ts.length a, .int .i64 g, .slice B c.dn.length b]) : R5C w0 P A B eb eo a b e g m c 1 w ds v := h
theorem R5C_e1 (h : R5C w0 P A B eb eo a b e g m c 1 w ds v) : v = .agg #[.slice A c.ts.length a, .int .i64 g, .slice B c.dn.length b] := h
theorem R5C_i2 (h : WorkOwn w0.heap.size w v c.ts g c.dn) : R5C w0 P A B eb eo a b e g m c 2 w ds v := h
theorem R5C_e2 (h : R5C w0 P A B eb eo a b e g m c 2 w ds v) : WorkOwn w0.heap.size w v c.ts g c.dn := h
theorem R5C_i3 (h : v = .pointer (some ⟨P, 4, none⟩)) : R5C w0 P A B eb eo a b e g m c 3 w ds v := h
theorem R5C_e3 (h : R5C w0 P A B eb eo a b e g m c 3 w ds v) : v = .pointer (some ⟨P, 4, none⟩) := h
theorem R5C_i4 (h : v = .bool c.over) : R5C w0 P A B eb eo a b e g m c 4 w ds v := h
theorem R5C_e4 (h : R5C w0 P A B eb eo a b e g m c 4 w ds v) : v = .bool c.over := h
theorem R5C_i5 (h : v = .pointer (some ⟨P, 5, none⟩)) : R5C w0 P A B eb eo a b e g m c 5 w ds v := h
theorem R5C_e5 (h : R5C w0 P A B eb eo a b e g m c 5 w ds v) : v = .pointer (some ⟨P, 5, none⟩) := h
theorem R5C_i6 (h : v = .int .i64 c.st) : R5C w0 P A B eb eo a b e g m c 6 w ds v := h
theorem R5C_e6 (h : R5C w0 P A B eb eo a b e g m c 6 w ds v) : v = .int .i64 c.st := h
theorem R5C_i7 (h : v = .pointer (some ⟨P, 6, none⟩)) : R5C w0 P A B eb eo a b e g m c 7 w ds v := h
theorem R5C_e7 (h : R5C w0 P A B eb eo a b e g m c 7 w ds v) : v = .pointer (some ⟨P, 6, none⟩) := h
theorem R5C_i8 (h : v = .int .i64 c.id) : R5C w0 P A B eb eo a b e g m c 8 w ds v := h
theorem R5C_e8 (h : R5C w0 P A B eb eo a b e g m c 8 w ds v) : v = .int .i64 c.id := h
theorem R5C_i9 (h : CrewOwn0 w0.heap.size w v g c) : R5C w0 P A B eb eo a b e g m c 9 w ds v := h
theorem R5C_e9 (h : R5C w0 P A B eb eo a b e g m c 9 w ds v) : CrewOwn0 w0.heap.size w v g c := h
theorem R5C_i10 (h : BoxNew w0.heap.size w v #[.slice none 0 0, .int .i64 0, .slice none 0 0, .slice none 0 0, .bool false, .int .i64 0, .int .i64 0] 57) : R5C w0 P A B eb eo a b e g m c 10 w ds v := h
theorem R5C_e10 (h : R5C w0 P A B eb eo a b e g m c 10 w ds v) : BoxNew w0.heap.size w v #[.slice none 0 0, .int .i64 0, .slice none 0 0, .slice none 0 0, .bool false, .int .i64 0, .int .i64 0] 57 := h
end

def R5L (w0 : World) (row : Option Nat) (P V : Nat) (Ar A : Option Addr) (er eb eo e m k nh ch B : Nat) (L : List Hd) (D : List Nat) : Nat → World → List Value → Value → Prop
  | 0, w, ds, v => v = .pointer (some ⟨V, 3, none⟩)
  | 1, w, ds, v => v = .slice Ar k er
  | 2, w, ds, v => NewAt kInt w0.heap.size w v
  | 3, w, ds, v => v = .pointer (some ⟨P, 3, none⟩)
  | 4, w, ds, v => v = .slice (some ⟨eb, eo, none⟩) m e
  | 5, w, ds, v => v = .int .i64 k
  | 6, w, ds, v => v = .pointer (some ⟨eb, eo + k, none⟩)
  | 7, w, ds, v => v = .slice A nh ch
  | 8, w, ds, v => OwAt kInt w0.heap.size w v (zs D)
  | 9, w, ds, v => ∃ x, ds.getD 0 undef = x.v ∧ OneAt kRow w0.heap.size w v x
  | 10, w, ds, v => ∃ x : Hd, ds.getD 2 undef = x.v ∧ AppAt kRow B w v (L ++ [x]) (.slice Ar k er) w0.heap.size
  | _, _, _, _ => True
theorem R5L_ext (w0 : World) (row : Option Nat) (P V : Nat) (Ar A : Option Addr) (er eb eo e m k nh ch B : Nat) (L : List Hd) (D : List Nat) : ∀ i w w' ds v, R5L w0 row P V Ar A er eb eo e m k nh ch B L D i w ds v → Ext w w' → R5L w0 row P V Ar A er eb eo e m k nh ch B L D i w' ds v
  | 0, _, _, _, _, h, _ => h
  | 1, _, _, _, _, h, _ => h
  | 2, _, _, _, _, h, hE => NewAt.ext h hE
  | 3, _, _, _, _, h, _ => h
  | 4, _, _, _, _, h, _ => h
  | 5, _, _, _, _, h, _ => h
  | 6, _, _, _, _, h, _ => h
  | 7, _, _, _, _, h, _ => h
  | 8, _, _, _, _, h, hE => OwAt.ext h hE
  | 9, _, _, _, _, h, hE => (by obtain ⟨x, h1, h2⟩ := h; exact ⟨x, h1, OneAt.ext h2 hE⟩)
  | 10, _, _, _, _, h, hE => (by obtain ⟨x, h1, h2⟩ := h; exact ⟨x, h1, h2.ext hE⟩)
  | _ + 11, _, _, _, _, _, _ => trivial
theorem R5L_sw (w0 : World) (row : Option Nat) (P V : Nat) (Ar A : Option Addr) (er eb eo e m k nh ch B : Nat) (L : List Hd) (D : List Nat) (hrow : ∀ b, row = some b → b < w0.heap.size) : ∀ i w w' ds v, i ≠ 10 → R5L w0 row P V Ar A er eb eo e m k nh ch B L D i w ds v → Wr row w w' → R5L w0 row P V Ar A er eb eo e m k nh ch B L D i w' ds v
  | 0, _, _, _, _, _, h, _ => h
  | 1, _, _, _, _, _, h, _ => h
  | 2, _, _, _, _, _, h, hE => NewAt.sw h hE hrow
  | 3, _, _, _, _, _, h, _ => h
  | 4, _, _, _, _, _, h, _ => h
  | 5, _, _, _, _, _, h, _ => h
  | 6, _, _, _, _, _, h, _ => h
  | 7, _, _, _, _, _, h, _ => h
  | 8, _, _, _, _, _, h, hE => OwAt.sw h hE hrow
  | 9, _, _, _, _, _, h, hE => (by obtain ⟨x, h1, h2⟩ := h; exact ⟨x, h1, OneAt.sw h2 hE hrow⟩)
  | 10, _, _, _, _, hq, _, _ => absurd rfl hq
  | _ + 11, _, _, _, _, _, _, _ => trivial
section
variable (w0 : World) (row : Option Nat) (P V : Nat) (Ar A : Option Addr) (er eb eo e m k nh ch B : Nat) (L : List Hd) (D : List Nat) (w : World) (ds : List Value) (v : Value)
theorem R5L_i0 (h : v = .pointer (some ⟨V, 3, none⟩)) : R5L w0 row P V Ar A er eb eo e m k nh ch B L D 0 w ds v := h
theorem R5L_e0 (h : R5L w0 row P V Ar A er eb eo e m k nh ch B L D 0 w ds v) : v = .pointer (some ⟨V, 3, none⟩) := h
theorem R5L_i1 (h : v = .slice Ar k er) : R5L w0 row P V Ar A er eb eo e m k nh ch B L D 1 w ds v := h
theorem R5L_e1 (h : R5L w0 row P V Ar A er eb eo e m k nh ch B L D 1 w ds v) : v = .slice Ar k er := h
theorem R5L_i2 (h : NewAt kInt w0.heap.size w v) : R5L w0 row P V Ar A er eb eo e m k nh ch B L D 2 w ds v := h
theorem R5L_e2 (h : R5L w0 row P V Ar A er eb eo e m k nh ch B L D 2 w ds v) : NewAt kInt w0.heap.size w v := h
theorem R5L_i3 (h : v = .pointer (some ⟨P, 3, none⟩)) : R5L w0 row P V Ar A er eb eo e m k nh ch B L D 3 w ds v := h
theorem R5L_e3 (h : R5L w0 row P V Ar A er eb eo e m k nh ch B L D 3 w ds v) : v = .pointer (some ⟨P, 3, none⟩) := h
theorem R5L_i4 (h : v = .slice (some ⟨eb, eo, none⟩) m e) : R5L w0 row P V Ar A er eb eo e m k nh ch B L D 4 w ds v := h
theorem R5L_e4 (h : R5L w0 row P V Ar A er eb eo e m k nh ch B L D 4 w ds v) : v = .slice (some ⟨eb, eo, none⟩) m e := h
theorem R5L_i5 (h : v = .int .i64 k) : R5L w0 row P V Ar A er eb eo e m k nh ch B L D 5 w ds v := h
theorem R5L_e5 (h : R5L w0 row P V Ar A er eb eo e m k nh ch B L D 5 w ds v) : v = .int .i64 k := h
theorem R5L_i6 (h : v = .pointer (some ⟨eb, eo + k, none⟩)) : R5L w0 row P V Ar A er eb eo e m k nh ch B L D 6 w ds v := h
theorem R5L_e6 (h : R5L w0 row P V Ar A er eb eo e m k nh ch B L D 6 w ds v) : v = .pointer (some ⟨eb, eo + k, none⟩) := h
theorem R5L_i7 (h : v = .slice A nh ch) : R5L w0 row P V Ar A er eb eo e m k nh ch B L D 7 w ds v := h
theorem R5L_e7 (h : R5L w0 row P V Ar A er eb eo e m k nh ch B L D 7 w ds v) : v = .slice A nh ch := h
theorem R5L_i8 (h : OwAt kInt w0.heap.size w v (zs D)) : R5L w0 row P V Ar A er eb eo e m k nh ch B L D 8 w ds v := h
theorem R5L_e8 (h : R5L w0 row P V Ar A er eb eo e m k nh ch B L D 8 w ds v) : OwAt kInt w0.heap.size w v (zs D) := h
theorem R5L_i9 (h : ∃ x, ds.getD 0 undef = x.v ∧ OneAt kRow w0.heap.size w v x) : R5L w0 row P V Ar A er eb eo e m k nh ch B L D 9 w ds v := h
theorem R5L_e9 (h : R5L w0 row P V Ar A er eb eo e m k nh ch B L D 9 w ds v) : ∃ x, ds.getD 0 undef = x.v ∧ OneAt kRow w0.heap.size w v x := h
theorem R5L_i10 (h : ∃ x : Hd, ds.getD 2 undef = x.v ∧ AppAt kRow B w v (L ++ [x]) (.slice Ar k er) w0.heap.size) : R5L w0 row P V Ar A er eb eo e m k nh ch B L D 10 w ds v := h
theorem R5L_e10 (h : R5L w0 row P V Ar A er eb eo e m k nh ch B L D 10 w ds v) : ∃ x : Hd, ds.getD 2 undef = x.v ∧ AppAt kRow B w v (L ++ [x]) (.slice Ar k er) w0.heap.size := h
end

/-- while a crew is copied -/
structure R5At (w0 wr : World) (V k g : Nat) (c : Cw) (A1 B1 : Option Addr) (a1 b1 : Nat) (L : List Hd) (Ar : Option Addr) (er : Nat) : Prop where
  box : wr.heap[V]? = some (.cells #[.slice A1 c.ts.length a1, .int .i64 g, .slice B1 c.dn.length b1, .slice Ar k er, .bool c.over, .int .i64 c.st, .int .i64 c.id] 57 (0, 0))
  tsk : Ow kTask w0.heap.size wr (.slice A1 c.ts.length a1) c.ts
  dns : Ow kBool w0.heap.size wr (.slice B1 c.dn.length b1) c.dn
  row : Ow kRow w0.heap.size wr (.slice Ar k er) L
  len : L.length = k
  els : ∀ j, j < k → (L.getD j hd0).n = (c.D.getD j []).length ∧ Ow kInt w0.heap.size wr (L.getD j hd0).v (zs (c.D.getD j []))
  far : ∀ i j, i < k → j < k → i ≠ j → ∀ b, (L.getD i hd0).v.ownBlock = some b → (L.getD j hd0).v.ownBlock ≠ some b
  ext : Ext w0 wr
  vl : w0.heap.size ≤ V
theorem Ow.zsN {B : Nat} {w : World} {A : Option Addr} {n c : Nat} {xs : List Nat} (h : Ow kInt B w (.slice A n c) (zs xs)) : n = xs.length := by
  obtain ⟨A', c', h, _⟩ := h.slice
  cases h
  exact zs_len xs
theorem R5At.next {w0 wr w5 : World} {V k g : Nat} {c : Cw} {A1 B1 : Option Addr} {a1 b1 : Nat} {L : List Hd} {Ar : Option Addr} {er : Nat} (h : R5At w0 wr V k g c A1 B1 a1 b1 L Ar er) (hG : Wr (Value.ownBlock (.slice Ar k er)) wr w5) {x : Hd} (hx : Ow kInt wr.heap.size w5 x.v (zs (c.D.getD k []))) {v : Value} (hA : AppAt kRow w0.heap.size w5 v (L ++ [x]) (.slice Ar k er) wr.heap.size) :
    ∃ Ar' er', v = .slice Ar' (k + 1) er' ∧ R5At w0 (w5.setCell ⟨V, 3, none⟩ v) V (k + 1) g c A1 B1 a1 b1 (L ++ [x]) Ar' er' := by
  obtain ⟨hv, _⟩ := hA
  obtain ⟨Ar', er', rfl, _⟩ := hv.slice
  have hl : (L ++ [x]).length = k + 1 := by simp [h.len]
  rw [hl] at hv ⊢
  refine ⟨Ar', er', rfl, ?_⟩
  have nV : ¬ (Value.ownBlock (.slice Ar k er)) = some V := h.row.notBox h.box (by decide)
  have hb5 := block_wr h.box hG nV
  have far1 : ∀ {α : Type} {K : Kd α} {v : Value} {xs : List α}, K.e ≠ kRow.e → Ow K w0.heap.size wr v xs → ∀ k', v.ownBlock = some k' → ¬ (Value.ownBlock (.slice Ar k er)) = some k' := fun hne ho k' hk' => Ow.far hne ho h.row k' hk'
  have sto : ∀ {α : Type} {K : Kd α} {v : Value} {xs : List α} (u : Value), K.e ≠ 57 → Ow K w0.heap.size w5 v xs → Ow K w0.heap.size (w5.setCell ⟨V, 3, none⟩ u) v xs := fun u hne ho => ho.setOther (p := ⟨V, 3, none⟩) (ho.notBox hb5 hne) u
  refine ⟨(set_block (i := 3) hb5 _).trans rfl, sto _ (by decide) (h.tsk.wr hG (far1 (by decide) h.tsk)), sto _ (by decide) (h.dns.wr hG (far1 (by decide) h.dns)), sto _ (by decide) hv, hl, fun j hj => ?_, fun i j hi hj hij b hb => ?_, ?_, h.vl⟩
  · by_cases e : j = k
    · subst e
      have e1 : (L ++ [x]).getD j hd0 = x := by rw [List.getD_eq_getElem?_getD, List.getElem?_append_right (by rw [h.len]; exact Nat.le_refl _)]; simp [h.len]
      rw [e1]
      exact ⟨Ow.zsN hx, sto _ (by decide) (hx.mono h.ext.size)⟩
    · have e1 : (L ++ [x]).getD j hd0 = L.getD j hd0 := by rw [List.getD_eq_getElem?_getD, List.getElem?_append_left (by rw [h.len]; omega), List.getD_eq_getElem?_getD]
      rw [e1]
      obtain ⟨h1, h2⟩ := h.els j (by omega)
      exact ⟨h1, sto _ (by decide) (h2.wr hG (far1 (by decide) h2))⟩
  · have e0 : ∀ j, j < k → (L ++ [x]).getD j hd0 = L.getD j hd0 := fun j hj => by rw [List.getD_eq_getElem?_getD, List.getElem?_append_left (by rw [h.len]; omega), List.getD_eq_getElem?_getD]
    have e1 : (L ++ [x]).getD k hd0 = x := by rw [List.getD_eq_getElem?_getD, List.getElem?_append_right (by rw [h.len]; exact Nat.le_refl _)]; simp [h.len]
    by_cases ei : i = k
    · subst ei
      have hj' : j < i := by omega
      rw [e1] at hb
      rw [e0 j hj']
      intro hj2
      have := (hx.lt b hb).1
      have := ((h.els j hj').2.lt b hj2).2
      omega
    · have hi' : i < k := by omega
      rw [e0 i hi'] at hb
      by_cases ej : j = k
      · subst ej
        rw [e1]
        intro hj2
        have := (hx.lt b hj2).1
        have := ((h.els i hi').2.lt b hb).2
        omega
      · rw [e0 j (by omega)]
        exact h.far i j hi' (by omega) hij b hb
  · exact (Wr.toExt hG h.ext (fun b hb => (h.row.lt b hb).1)).setCell (p := ⟨V, 3, none⟩) h.vl _

set_option maxHeartbeats 3200000 in
set_option maxRecDepth 100000 in
theorem r5copy_any (A B : Option Addr) (eb eo a b e g m : Nat) (c : Cw) (w : World) (h : CrewAt w m c A B eb eo a b) (me : m ≤ e) (m1 : 1 ≤ m) (m2 : m ≤ 8) (lt : c.ts.length ≤ 4000) (ln : c.dn.length ≤ 4000) (lh : ∀ j, (c.D.getD j []).length ≤ 1000000) :
    Calls Try.prog 47 #[crewV A B eb eo a b e g m c] w fun ed w' => ∃ (A1 B1 : Option Addr) (e0 a1 b1 e1 : Nat) (L : List Hd), ed = .returned (crewV A1 B1 e0 0 a1 b1 e1 g m c) ∧
      OwC w.heap.size w' m c A1 B1 e0 e1 a1 b1 L ∧ Ext w w' := by
  have HLH := Lib.hid lh
  obtain ⟨hs0, hds⟩ := h.deq
  have HDL : Hid (c.D.length = m) := Lib.hid hds.1
  have m3 : (m : Int) ≤ 8 := by omega
  have m4 : (1 : Int) ≤ m := by omega
  have m5 : (m : Int) ≤ e := by omega
  have E0 : Ext w ((w.alloc (.cells #[.slice A c.ts.length a, .int .i64 g, .slice B c.dn.length b, .slice (some ⟨eb, eo, none⟩) m e, .bool c.over, .int .i64 c.st, .int .i64 c.id] 57)).alloc (.cells #[.slice none 0 0, .int .i64 0, .slice none 0 0, .slice none 0 0, .bool false, .int .i64 0, .int .i64 0] 57)) := ((Ext.refl w).alloc _).alloc _
  have HT := Lib.hid (h.tsk.rd.ext E0)
  have HD := Lib.hid (h.dns.rd.ext E0)
  have HDS := Lib.hid (hds.ext E0)
  have X := Lib.hid E0
  clear h hds lh E0
  go_enter Try.func47, Try.ntmps47
  go_wp2_with fail
  have q0 : ((w.alloc (.cells #[.slice A c.ts.length a, .int .i64 g, .slice B c.dn.length b, .slice (some ⟨eb, eo, none⟩) m e, .bool c.over, .int .i64 c.st, .int .i64 c.id] 57)).alloc (.cells #[.slice none 0 0, .int .i64 0, .slice none 0 0, .slice none 0 0, .bool false, .int .i64 0, .int .i64 0] 57)).cell? ⟨w.heap.size, 0, none⟩ = some (.slice A c.ts.length a) := by go_simp
  have q1 : ((w.alloc (.cells #[.slice A c.ts.length a, .int .i64 g, .slice B c.dn.length b, .slice (some ⟨eb, eo, none⟩) m e, .bool c.over, .int .i64 c.st, .int .i64 c.id] 57)).alloc (.cells #[.slice none 0 0, .int .i64 0, .slice none 0 0, .slice none 0 0, .bool false, .int .i64 0, .int .i64 0] 57)).cell? ⟨w.heap.size, 1, none⟩ = some (.int .i64 g) := by go_simp
  have q2 : ((w.alloc (.cells #[.slice A c.ts.length a, .int .i64 g, .slice B c.dn.length b, .slice (some ⟨eb, eo, none⟩) m e, .bool c.over, .int .i64 c.st, .int .i64 c.id] 57)).alloc (.cells #[.slice none 0 0, .int .i64 0, .slice none 0 0, .slice none 0 0, .bool false, .int .i64 0, .int .i64 0] 57)).cell? ⟨w.heap.size, 2, none⟩ = some (.slice B c.dn.length b) := by go_simp
  have q3 : ((w.alloc (.cells #[.slice A c.ts.length a, .int .i64 g, .slice B c.dn.length b, .slice (some ⟨eb, eo, none⟩) m e, .bool c.over, .int .i64 c.st, .int .i64 c.id] 57)).alloc (.cells #[.slice none 0 0, .int .i64 0, .slice none 0 0, .slice none 0 0, .bool false, .int .i64 0, .int .i64 0] 57)).cell? ⟨w.heap.size, 3, none⟩ = some (.slice (some ⟨eb, eo, none⟩) m e) := by go_simp
  have q4 : ((w.alloc (.cells #[.slice A c.ts.length a, .int .i64 g, .slice B c.dn.length b, .slice (some ⟨eb, eo, none⟩) m e, .bool c.over, .int .i64 c.st, .int .i64 c.id] 57)).alloc (.cells #[.slice none 0 0, .int .i64 0, .slice none 0 0, .slice none 0 0, .bool false, .int .i64 0, .int .i64 0] 57)).cell? ⟨w.heap.size, 4, none⟩ = some (.bool c.over) := by go_simp
  have q5 : ((w.alloc (.cells #[.slice A c.ts.length a, .int .i64 g, .slice B c.dn.length b, .slice (some ⟨eb, eo, none⟩) m e, .bool c.over, .int .i64 c.st, .int .i64 c.id] 57)).alloc (.cells #[.slice none 0 0, .int .i64 0, .slice none 0 0, .slice none 0 0, .bool false, .int .i64 0, .int .i64 0] 57)).cell? ⟨w.heap.size, 5, none⟩ = some (.int .i64 c.st) := by go_simp
  have q6 : ((w.alloc (.cells #[.slice A c.ts.length a, .int .i64 g, .slice B c.dn.length b, .slice (some ⟨eb, eo, none⟩) m e, .bool c.over, .int .i64 c.st, .int .i64 c.id] 57)).alloc (.cells #[.slice none 0 0, .int .i64 0, .slice none 0 0, .slice none 0 0, .bool false, .int .i64 0, .int .i64 0] 57)).cell? ⟨w.heap.size, 6, none⟩ = some (.int .i64 c.id) := by go_simp
  have r0 : ((w.alloc (.cells #[.slice A c.ts.length a, .int .i64 g, .slice B c.dn.length b, .slice (some ⟨eb, eo, none⟩) m e, .bool c.over, .int .i64 c.st, .int .i64 c.id] 57)).alloc (.cells #[.slice none 0 0, .int .i64 0, .slice none 0 0, .slice none 0 0, .bool false, .int .i64 0, .int .i64 0] 57)).heap[w.heap.size + 1]? = some (.cells #[.slice none 0 0, .int .i64 0, .slice none 0 0, .slice none 0 0, .bool false, .int .i64 0, .int .i64 0] 57 (0, 0)) := heap_alloc2_new w _ _
  have hz : ((w.alloc (.cells #[.slice A c.ts.length a, .int .i64 g, .slice B c.dn.length b, .slice (some ⟨eb, eo, none⟩) m e, .bool c.over, .int .i64 c.st, .int .i64 c.id] 57)).alloc (.cells #[.slice none 0 0, .int .i64 0, .slice none 0 0, .slice none 0 0, .bool false, .int .i64 0, .int .i64 0] 57)).heap.size = w.heap.size + 2 := by simp
  generalize ((w.alloc (.cells #[.slice A c.ts.length a, .int .i64 g, .slice B c.dn.length b, .slice (some ⟨eb, eo, none⟩) m e, .bool c.over, .int .i64 c.st, .int .i64 c.id] 57)).alloc (.cells #[.slice none 0 0, .int .i64 0, .slice none 0 0, .slice none 0 0, .bool false, .int .i64 0, .int .i64 0] 57)) = w0 at *
  obtain ⟨P, hP⟩ : ∃ P, w.heap.size = P := ⟨_, rfl⟩
  have HZ := Lib.hid hz
  have HP := Lib.hid hP
  rw [hP] at q0 q1 q2 q3 q4 q5 q6 r0 ⊢
  clear hz hP
  refine Mono.wp_region_mono 11 (R5C w0 P A B eb eo a b e g m c) (by kernel_rfl) (by kernel_rfl) (R5C_ext w0 P A B eb eo a b e g m c) ?_ ?_
  · intro i o hi ho vals w5 hE hcl
    have hi' : i = 0 ∨ i = 1 ∨ i = 2 ∨ i = 3 ∨ i = 4 ∨ i = 5 ∨ i = 6 ∨ i = 7 ∨ i = 8 ∨ i = 9 ∨ i = 10 := by omega
    rcases hi' with rfl | rfl | rfl | rfl | rfl | rfl | rfl | rfl | rfl | rfl | rfl
    · simp only [List.getElem?_cons_succ, List.getElem?_cons_zero, Option.some.injEq] at ho
      subst ho
      rw [if_pos (Mono.wanted_none rfl)]
      clear hcl
      refine Mono.yields_same (.pointer (some ⟨P, 0, none⟩)) w5 ?_ ⟨Ext.refl _, R5C_i0 _ _ _ _ _ _ _ _ _ _ _ _ _ _ _ rfl⟩
      simp only [Mono.all, List.take, Act.put]
      go_simp
    · simp only [List.getElem?_cons_succ, List.getElem?_cons_zero, Option.some.injEq] at ho
      subst ho
      rw [if_pos (Mono.wanted_none rfl)]
      have h1 : vals 0 = .pointer (some ⟨P, 0, none⟩) := (R5C_e0 _ _ _ _ _ _ _ _ _ _ _ _ _ _ _ (hcl 0 (by kernel_rfl)))
      have k0 := hE.cell q0
      have k1 := hE.cell q1
      have k2 := hE.cell q2
      clear hcl
      refine Mono.yields_same (.agg #[.slice A c.ts.length a, .int .i64 g, .slice B c.dn.length b]) w5 ?_ ⟨Ext.refl _, R5C_i1 _ _ _ _ _ _ _ _ _ _ _ _ _ _ _ rfl⟩
      simp only [Mono.all, List.take, Act.put]
      go_simp
    · simp only [List.getElem?_cons_succ, List.getElem?_cons_zero, Option.some.injEq] at ho
      subst ho
      rw [if_pos (Mono.wanted_none rfl)]
      have h1 : vals 1 = .agg #[.slice A c.ts.length a, .int .i64 g, .slice B c.dn.length b] := (R5C_e1 _ _ _ _ _ _ _ _ _ _ _ _ _ _ _ (hcl 1 (by kernel_rfl)))
      clear hcl
      refine Mono.yields_call 58 #[.agg #[.slice A c.ts.length a, .int .i64 g, .slice B c.dn.length b]] w5 ?_ ((rcopy_any A B a b c.ts g c.dn w5 (HT.out.ext hE) (HD.out.ext hE) lt ln).mono ?_)
      · simp only [Mono.all, List.take, Act.put]
        go_simp
      · rintro ed w6 ⟨A1, c1, B1, d1, rfl, o1, o2, hE6⟩
        exact ⟨_, rfl, hE6, R5C_i2 _ _ _ _ _ _ _ _ _ _ _ _ _ _ _ ⟨A1, c1, B1, d1, rfl, o1.mono hE.size, o2.mono hE.size⟩⟩
    · simp only [List.getElem?_cons_succ, List.getElem?_cons_zero, Option.some.injEq] at ho
      subst ho
      rw [if_pos (Mono.wanted_none rfl)]
      clear hcl
      refine Mono.yields_same (.pointer (some ⟨P, 4, none⟩)) w5 ?_ ⟨Ext.refl _, R5C_i3 _ _ _ _ _ _ _ _ _ _ _ _ _ _ _ rfl⟩
      simp only [Mono.all, List.take, Act.put]
      go_simp
    · simp only [List.getElem?_cons_succ, List.getElem?_cons_zero, Option.some.injEq] at ho
      subst ho
      rw [if_pos (Mono.wanted_none rfl)]
      have h1 : vals 3 = .pointer (some ⟨P, 4, none⟩) := R5C_e3 _ _ _ _ _ _ _ _ _ _ _ _ _ _ _ (hcl 3 (by kernel_rfl))
      have k1 := hE.cell q4
      clear hcl
      refine Mono.yields_same (.bool c.over) w5 ?_ ⟨Ext.refl _, R5C_i4 _ _ _ _ _ _ _ _ _ _ _ _ _ _ _ rfl⟩
      simp only [Mono.all, List.take, Act.put]
      go_simp
    · simp only [List.getElem?_cons_succ, List.getElem?_cons_zero, Option.some.injEq] at ho
      subst ho
      rw [if_pos (Mono.wanted_none rfl)]
      clear hcl
      refine Mono.yields_same (.pointer (some ⟨P, 5, none⟩)) w5 ?_ ⟨Ext.refl _, R5C_i5 _ _ _ _ _ _ _ _ _ _ _ _ _ _ _ rfl⟩
      simp only [Mono.all, List.take, Act.put]
      go_simp
    · simp only [List.getElem?_cons_succ, List.getElem?_cons_zero, Option.some.injEq] at ho
      subst ho
      rw [if_pos (Mono.wanted_none rfl)]
      have h1 : vals 5 = .pointer (some ⟨P, 5, none⟩) := R5C_e5 _ _ _ _ _ _ _ _ _ _ _ _ _ _ _ (hcl 5 (by kernel_rfl))
      have k1 := hE.cell q5
      clear hcl
      refine Mono.yields_same (.int .i64 c.st) w5 ?_ ⟨Ext.refl _, R5C_i6 _ _ _ _ _ _ _ _ _ _ _ _ _ _ _ rfl⟩
      simp only [Mono.all, List.take, Act.put]
      go_simp
    · simp only [List.getElem?_cons_succ, List.getElem?_cons_zero, Option.some.injEq] at ho
      subst ho
      rw [if_pos (Mono.wanted_none rfl)]
      clear hcl
      refine Mono.yields_same (.pointer (some ⟨P, 6, none⟩)) w5 ?_ ⟨Ext.refl _, R5C_i7 _ _ _ _ _ _ _ _ _ _ _ _ _ _ _ rfl⟩
      simp only [Mono.all, List.take, Act.put]
      go_simp
    · simp only [List.getElem?_cons_succ, List.getElem?_cons_zero, Option.some.injEq] at ho
      subst ho
      rw [if_pos (Mono.wanted_none rfl)]
      have h1 : vals 7 = .pointer (some ⟨P, 6, none⟩) := R5C_e7 _ _ _ _ _ _ _ _ _ _ _ _ _ _ _ (hcl 7 (by kernel_rfl))
      have k1 := hE.cell q6
      clear hcl
      refine Mono.yields_same (.int .i64 c.id) w5 ?_ ⟨Ext.refl _, R5C_i8 _ _ _ _ _ _ _ _ _ _ _ _ _ _ _ rfl⟩
      simp only [Mono.all, List.take, Act.put]
      go_simp
    · simp only [List.getElem?_cons_succ, List.getElem?_cons_zero, Option.some.injEq] at ho
      subst ho
      rw [if_pos (Mono.wanted_none rfl)]
      obtain ⟨A1, c1, B1, d1, h2, o1, o2⟩ : WorkOwn w0.heap.size w5 (vals 2) c.ts g c.dn := (R5C_e2 _ _ _ _ _ _ _ _ _ _ _ _ _ _ _ (hcl 2 (by kernel_rfl)))
      have h4 : vals 4 = .bool c.over := (R5C_e4 _ _ _ _ _ _ _ _ _ _ _ _ _ _ _ (hcl 4 (by kernel_rfl)))
      have h6 : vals 6 = .int .i64 c.st := (R5C_e6 _ _ _ _ _ _ _ _ _ _ _ _ _ _ _ (hcl 6 (by kernel_rfl)))
      have h8 : vals 8 = .int .i64 c.id := (R5C_e8 _ _ _ _ _ _ _ _ _ _ _ _ _ _ _ (hcl 8 (by kernel_rfl)))
      clear hcl
      refine Mono.yields_same (.agg #[.slice A1 c.ts.length c1, .int .i64 g, .slice B1 c.dn.length d1, .slice none 0 0, .bool c.over, .int .i64 c.st, .int .i64 c.id]) w5 ?_ ⟨Ext.refl _, R5C_i9 _ _ _ _ _ _ _ _ _ _ _ _ _ _ _ ⟨A1, c1, B1, d1, rfl, o1, o2⟩⟩
      simp only [Mono.all, List.take, Act.put]
      go_simp
    · simp only [List.getElem?_cons_succ, List.getElem?_cons_zero, Option.some.injEq] at ho
      subst ho
      rw [if_pos (Mono.wanted_none rfl)]
      clear hcl
      refine Mono.yields_same (.pointer (some ⟨w5.heap.size, 0, none⟩)) (w5.alloc (.cells #[.slice none 0 0, .int .i64 0, .slice none 0 0, .slice none 0 0, .bool false, .int .i64 0, .int .i64 0] 57)) ?_ ⟨(Ext.refl _).alloc _, R5C_i10 _ _ _ _ _ _ _ _ _ _ _ _ _ _ _ (BoxNew.made w5 hE.size _ _)⟩
      simp only [Mono.all, List.take, Act.put]
      go_simp
  · intro vals w5 hE hv
    have e4 := R5C_e4 _ _ _ _ _ _ _ _ _ _ _ _ _ _ _ (hv 4 (by omega))
    have e6 := R5C_e6 _ _ _ _ _ _ _ _ _ _ _ _ _ _ _ (hv 6 (by omega))
    have e8 := R5C_e8 _ _ _ _ _ _ _ _ _ _ _ _ _ _ _ (hv 8 (by omega))
    obtain ⟨A1, a1, B1, b1, e9, o1, o2⟩ := (R5C_e9 _ _ _ _ _ _ _ _ _ _ _ _ _ _ _ (hv 9 (by omega)))
    obtain ⟨V, e10, hV, hx⟩ := (R5C_e10 _ _ _ _ _ _ _ _ _ _ _ _ _ _ _ (hv 10 (by omega)))
    have k10 := fun o => frozen_of_row w5 V o _ _ hx
    have y0 : w5.cell? ⟨V, 0, none⟩ = some (.slice none 0 0) := (cell_of_row w5 V 0 _ _ _ hx).trans rfl
    have y1 : w5.cell? ⟨V, 1, none⟩ = some (.int .i64 0) := (cell_of_row w5 V 1 _ _ _ hx).trans rfl
    have y2 : w5.cell? ⟨V, 2, none⟩ = some (.slice none 0 0) := (cell_of_row w5 V 2 _ _ _ hx).trans rfl
    have y3 : w5.cell? ⟨V, 3, none⟩ = some (.slice none 0 0) := (cell_of_row w5 V 3 _ _ _ hx).trans rfl
    have y4 : w5.cell? ⟨V, 4, none⟩ = some (.bool false) := (cell_of_row w5 V 4 _ _ _ hx).trans rfl
    have y5 : w5.cell? ⟨V, 5, none⟩ = some (.int .i64 0) := (cell_of_row w5 V 5 _ _ _ hx).trans rfl
    have y6 : w5.cell? ⟨V, 6, none⟩ = some (.int .i64 0) := (cell_of_row w5 V 6 _ _ _ hx).trans rfl
    clear hv
    simp only [Mono.all, List.take, List.drop, Act.put]
    rw [e9, e10]
    go_wp2_with fail
    have hbx : (((((((w5.setCell ⟨V, 0, none⟩ (.slice A1 c.ts.length a1)).setCell ⟨V, 1, none⟩ (.int .i64 g)).setCell ⟨V, 2, none⟩ (.slice B1 c.dn.length b1)).setCell ⟨V, 3, none⟩ (.slice none 0 0)).setCell ⟨V, 4, none⟩ (.bool c.over)).setCell ⟨V, 5, none⟩ (.int .i64 c.st)).setCell ⟨V, 6, none⟩ (.int .i64 c.id)).heap[V]? = some (.cells #[.slice A1 c.ts.length a1, .int .i64 g, .slice B1 c.dn.length b1, .slice none 0 0, .bool c.over, .int .i64 c.st, .int .i64 c.id] 57 (0, 0)) := (set_block (i := 6) (set_block (i := 5) (set_block (i := 4) (set_block (i := 3) (set_block (i := 2) (set_block (i := 1) (set_block (i := 0) hx _) _) _) _) _) _) _).trans rfl
    have nT := o1.notBox hx (by decide)
    have nD := o2.notBox hx (by decide)
    have hT7 : Ow kTask w0.heap.size (((((((w5.setCell ⟨V, 0, none⟩ (.slice A1 c.ts.length a1)).setCell ⟨V, 1, none⟩ (.int .i64 g)).setCell ⟨V, 2, none⟩ (.slice B1 c.dn.length b1)).setCell ⟨V, 3, none⟩ (.slice none 0 0)).setCell ⟨V, 4, none⟩ (.bool c.over)).setCell ⟨V, 5, none⟩ (.int .i64 c.st)).setCell ⟨V, 6, none⟩ (.int .i64 c.id)) (.slice A1 c.ts.length a1) c.ts := (((((((o1.setOther (p := ⟨V, 0, none⟩) nT _).setOther (p := ⟨V, 1, none⟩) nT _).setOther (p := ⟨V, 2, none⟩) nT _).setOther (p := ⟨V, 3, none⟩) nT _).setOther (p := ⟨V, 4, none⟩) nT _).setOther (p := ⟨V, 5, none⟩) nT _).setOther (p := ⟨V, 6, none⟩) nT _)
    have hD7 : Ow kBool w0.heap.size (((((((w5.setCell ⟨V, 0, none⟩ (.slice A1 c.ts.length a1)).setCell ⟨V, 1, none⟩ (.int .i64 g)).setCell ⟨V, 2, none⟩ (.slice B1 c.dn.length b1)).setCell ⟨V, 3, none⟩ (.slice none 0 0)).setCell ⟨V, 4, none⟩ (.bool c.over)).setCell ⟨V, 5, none⟩ (.int .i64 c.st)).setCell ⟨V, 6, none⟩ (.int .i64 c.id)) (.slice B1 c.dn.length b1) c.dn := (((((((o2.setOther (p := ⟨V, 0, none⟩) nD _).setOther (p := ⟨V, 1, none⟩) nD _).setOther (p := ⟨V, 2, none⟩) nD _).setOther (p := ⟨V, 3, none⟩) nD _).setOther (p := ⟨V, 4, none⟩) nD _).setOther (p := ⟨V, 5, none⟩) nD _).setOther (p := ⟨V, 6, none⟩) nD _)
    have hE7 : Ext w0 (((((((w5.setCell ⟨V, 0, none⟩ (.slice A1 c.ts.length a1)).setCell ⟨V, 1, none⟩ (.int .i64 g)).setCell ⟨V, 2, none⟩ (.slice B1 c.dn.length b1)).setCell ⟨V, 3, none⟩ (.slice none 0 0)).setCell ⟨V, 4, none⟩ (.bool c.over)).setCell ⟨V, 5, none⟩ (.int .i64 c.st)).setCell ⟨V, 6, none⟩ (.int .i64 c.id)) := (((((((hE.setCell (p := ⟨V, 0, none⟩) hV _).setCell (p := ⟨V, 1, none⟩) hV _).setCell (p := ⟨V, 2, none⟩) hV _).setCell (p := ⟨V, 3, none⟩) hV _).setCell (p := ⟨V, 4, none⟩) hV _).setCell (p := ⟨V, 5, none⟩) hV _).setCell (p := ⟨V, 6, none⟩) hV _)
    generalize (((((((w5.setCell ⟨V, 0, none⟩ (.slice A1 c.ts.length a1)).setCell ⟨V, 1, none⟩ (.int .i64 g)).setCell ⟨V, 2, none⟩ (.slice B1 c.dn.length b1)).setCell ⟨V, 3, none⟩ (.slice none 0 0)).setCell ⟨V, 4, none⟩ (.bool c.over)).setCell ⟨V, 5, none⟩ (.int .i64 c.st)).setCell ⟨V, 6, none⟩ (.int .i64 c.id)) = w7 at *
    have H7 : Hid (R5At w0 w7 V 0 g c A1 B1 a1 b1 [] none 0) := Lib.hid ⟨hbx, hT7, hD7, Ow.nil _ _, rfl, fun j hj => absurd hj (Nat.not_lt_zero _), fun i j hi => absurd hi (Nat.not_lt_zero _), hE7, hV⟩
    clear hbx nT nD hT7 hD7 hE7 o1 o2 k10 y0 y1 y2 y3 y4 y5 y6 hx hE e9 e10 e4 e6 e8
    go_loopw [4] (fun i wr => ∃ (k : Nat) (L : List Hd) (Ar : Option Addr) (er : Nat), k ≤ m ∧ i = .int .i64 k ∧ R5At w0 wr V k g c A1 B1 a1 b1 L Ar er) (fun i _ => m - (intOf i).toNat)
    case atStart => exact ⟨0, [], none, 0, Nat.zero_le _, rfl, H7.out⟩
    case round =>
      obtain ⟨k, L, Ar, er, hk, rfl, hR⟩ := hrel
      have HR := Lib.hid hR
      have hk0 : (0 : Int) ≤ k := by omega
      have q3' := hR.ext.cell q3
      by_cases hlt : k < m
      · have hlt' : (k : Int) < m := by omega
        obtain ⟨z0, zn, zr⟩ := HDS.out.2 k hlt
        have qh := hR.ext.cell z0
        obtain ⟨⟨Ah, nh, ch⟩, hh⟩ : ∃ x, hs0 k = x := ⟨_, rfl⟩
        rw [hh] at zn zr qh
        unfold Hd.v at qh zr
        simp only at qh zn zr
        have HZR : Hid (RdO kInt (fun _ => False) w0 (.slice Ah nh ch) (zs (c.D.getD k []))) := Lib.hid zr
        have qv : wr.cell? ⟨V, 3, none⟩ = some (.slice Ar k er) := (cell_of_row wr V 3 _ _ _ hR.box).trans rfl
        obtain ⟨row, hrw⟩ : ∃ row, Value.ownBlock (.slice Ar k er) = row := ⟨_, rfl⟩
        have nV : ¬ row = some V := by rw [← hrw]; exact hR.row.notBox hR.box (by decide)
        have nP : ¬ row = some P := by
          intro e'
          have h1 := (hR.row.lt P (hrw.trans e')).1
          have h2 := HZ.out
          have h3 := HP.out
          omega
        have nE : ¬ row = some eb := by
          intro e'
          have h1 := (hR.row.lt eb (hrw.trans e')).1
          have h2 := HDS.out.lt m1
          omega
        have hrow : ∀ b, row = some b → b < wr.heap.size := fun b e' => (hR.row.lt b (hrw.trans e')).2
        have HRX : Hid (∀ w5, Wr row wr w5 → Ext w0 w5) := Lib.hid (fun w5 hE => Wr.toExt hE hR.ext (fun b hb => (hR.row.lt b (hrw.trans hb)).1))
        have HRW := Lib.hid hR.row
        have HLL : Hid (L.length + 1 ≤ 1048576) := Lib.hid (by rw [hR.len]; omega)
        have HBS := Lib.hid hR.ext.size
        have HXL : Hid ((c.D.getD k []).length ≤ 1000000) := Lib.hid (HLH.out k)
        obtain ⟨D, hD⟩ : ∃ D, c.D.getD k [] = D := ⟨_, rfl⟩
        rw [hD] at zn zr HZR HXL
        have HDD := Lib.hid hD
        obtain ⟨B, hB⟩ : ∃ B, w0.heap.size = B := ⟨_, rfl⟩
        rw [hB] at HRW HBS
        have HB := Lib.hid hB
        clear hR z0 zn zr hh hD hB
        go_wp2_with fail
        refine MonoW.wp_region_write 11 10 (Wr row) (R5L wr row P V Ar Ah er eb eo e m k nh ch B L D) (by kernel_rfl) (by kernel_rfl) (Wr.of row) (Wr.tr row) (R5L_ext wr row P V Ar Ah er eb eo e m k nh ch B L D) (R5L_sw wr row P V Ar Ah er eb eo e m k nh ch B L D hrow) ?_ ?_
        · intro i o hi ho vals w5 hE hQ hcl
          have hi' : i = 0 ∨ i = 1 ∨ i = 2 ∨ i = 3 ∨ i = 4 ∨ i = 5 ∨ i = 6 ∨ i = 7 ∨ i = 8 ∨ i = 9 ∨ i = 10 := by omega
          rcases hi' with rfl | rfl | rfl | rfl | rfl | rfl | rfl | rfl | rfl | rfl | rfl
          · simp only [List.getElem?_cons_succ, List.getElem?_cons_zero, Option.some.injEq] at ho
            subst ho
            rw [if_pos (Mono.wanted_none rfl)]
            clear hcl
            refine Mono.yields_same (.pointer (some ⟨V, 3, none⟩)) w5 ?_ ⟨MonoW.Out.of (Wr.of row) (Ext.refl _), R5L_i0 _ _ _ _ _ _ _ _ _ _ _ _ _ _ _ _ _ _ _ _ rfl⟩
            simp only [Mono.all, List.take, Act.put]
            go_simp
          · simp only [List.getElem?_cons_succ, List.getElem?_cons_zero, Option.some.injEq] at ho
            subst ho
            rw [if_pos (Mono.wanted_none rfl)]
            have h1 : vals 0 = .pointer (some ⟨V, 3, none⟩) := R5L_e0 _ _ _ _ _ _ _ _ _ _ _ _ _ _ _ _ _ _ _ _ (hcl 0 (by kernel_rfl))
            have k1 := hE.cell qv nV
            clear hcl
            refine Mono.yields_same (.slice Ar k er) w5 ?_ ⟨MonoW.Out.of (Wr.of row) (Ext.refl _), R5L_i1 _ _ _ _ _ _ _ _ _ _ _ _ _ _ _ _ _ _ _ _ rfl⟩
            simp only [Mono.all, List.take, Act.put]
            go_simp
          · simp only [List.getElem?_cons_succ, List.getElem?_cons_zero, Option.some.injEq] at ho
            subst ho
            rw [if_pos (Mono.wanted_none rfl)]
            clear hcl
            refine Mono.yields_same (.slice (some ⟨w5.heap.size, 0, none⟩) 0 0) (w5.alloc (.cells #[] kInt.e)) ?_ ⟨MonoW.Out.of (Wr.of row) ((Ext.refl _).alloc _), R5L_i2 _ _ _ _ _ _ _ _ _ _ _ _ _ _ _ _ _ _ _ _ (NewAt.made w5 hE.size)⟩
            simp only [Mono.all, List.take, Act.put, kInt]
            go_simp
          · simp only [List.getElem?_cons_succ, List.getElem?_cons_zero, Option.some.injEq] at ho
            subst ho
            rw [if_pos (Mono.wanted_none rfl)]
            clear hcl
            refine Mono.yields_same (.pointer (some ⟨P, 3, none⟩)) w5 ?_ ⟨MonoW.Out.of (Wr.of row) (Ext.refl _), R5L_i3 _ _ _ _ _ _ _ _ _ _ _ _ _ _ _ _ _ _ _ _ rfl⟩
            simp only [Mono.all, List.take, Act.put]
            go_simp
          · simp only [List.getElem?_cons_succ, List.getElem?_cons_zero, Option.some.injEq] at ho
            subst ho
            rw [if_pos (Mono.wanted_none rfl)]
            have h1 : vals 3 = .pointer (some ⟨P, 3, none⟩) := R5L_e3 _ _ _ _ _ _ _ _ _ _ _ _ _ _ _ _ _ _ _ _ (hcl 3 (by kernel_rfl))
            have k1 := hE.cell q3' nP
            clear hcl
            refine Mono.yields_same (.slice (some ⟨eb, eo, none⟩) m e) w5 ?_ ⟨MonoW.Out.of (Wr.of row) (Ext.refl _), R5L_i4 _ _ _ _ _ _ _ _ _ _ _ _ _ _ _ _ _ _ _ _ rfl⟩
            simp only [Mono.all, List.take, Act.put]
            go_simp
          · simp only [List.getElem?_cons_succ, List.getElem?_cons_zero, Option.some.injEq] at ho
            subst ho
            rw [if_pos (Mono.wanted_none rfl)]
            clear hcl
            refine Mono.yields_same (.int .i64 k) w5 ?_ ⟨MonoW.Out.of (Wr.of row) (Ext.refl _), R5L_i5 _ _ _ _ _ _ _ _ _ _ _ _ _ _ _ _ _ _ _ _ rfl⟩
            simp only [Mono.all, List.take, Act.put]
            go_simp
          · simp only [List.getElem?_cons_succ, List.getElem?_cons_zero, Option.some.injEq] at ho
            subst ho
            rw [if_pos (Mono.wanted_none rfl)]
            have h4 : vals 4 = .slice (some ⟨eb, eo, none⟩) m e := R5L_e4 _ _ _ _ _ _ _ _ _ _ _ _ _ _ _ _ _ _ _ _ (hcl 4 (by kernel_rfl))
            have h5 : vals 5 = .int .i64 k := R5L_e5 _ _ _ _ _ _ _ _ _ _ _ _ _ _ _ _ _ _ _ _ (hcl 5 (by kernel_rfl))
            clear hcl
            refine Mono.yields_same (.pointer (some ⟨eb, eo + k, none⟩)) w5 ?_ ⟨MonoW.Out.of (Wr.of row) (Ext.refl _), R5L_i6 _ _ _ _ _ _ _ _ _ _ _ _ _ _ _ _ _ _ _ _ rfl⟩
            simp only [Mono.all, List.take, Act.put]
            go_simp
          · simp only [List.getElem?_cons_succ, List.getElem?_cons_zero, Option.some.injEq] at ho
            subst ho
            rw [if_pos (Mono.wanted_none rfl)]
            have h1 : vals 6 = .pointer (some ⟨eb, eo + k, none⟩) := R5L_e6 _ _ _ _ _ _ _ _ _ _ _ _ _ _ _ _ _ _ _ _ (hcl 6 (by kernel_rfl))
            have k1 := hE.cell qh nE
            clear hcl
            refine Mono.yields_same (.slice Ah nh ch) w5 ?_ ⟨MonoW.Out.of (Wr.of row) (Ext.refl _), R5L_i7 _ _ _ _ _ _ _ _ _ _ _ _ _ _ _ _ _ _ _ _ rfl⟩
            simp only [Mono.all, List.take, Act.put]
            go_simp
          · simp only [List.getElem?_cons_succ, List.getElem?_cons_zero, Option.some.injEq] at ho
            subst ho
            rw [if_pos (Mono.wanted_none rfl)]
            have h0 : NewAt kInt wr.heap.size w5 (vals 2) := R5L_e2 _ _ _ _ _ _ _ _ _ _ _ _ _ _ _ _ _ _ _ _ (hcl 2 (by kernel_rfl))
            have h2 : vals 7 = .slice Ah nh ch := R5L_e7 _ _ _ _ _ _ _ _ _ _ _ _ _ _ _ _ _ _ _ _ (hcl 7 (by kernel_rfl))
            obtain ⟨v', w', hr, hX, hO, hb⟩ := Kd.app_new kInt h0 ((HZR.out.ext (HRX.out _ hE)).rd) (by rw [zs_len]; have := HXL.out; omega) hE.size
            exact Kd.yields_app kInt (v := vals 2) (y := .slice Ah nh ch) (.tmp 24) (.tmp 29) rfl rfl (by kernel_rfl) (by rw [← h2]; kernel_rfl) hr ⟨MonoW.Out.of (Wr.of row) (hX), R5L_i8 _ _ _ _ _ _ _ _ _ _ _ _ _ _ _ _ _ _ _ _ hO⟩
          · simp only [List.getElem?_cons_succ, List.getElem?_cons_zero, Option.some.injEq] at ho
            subst ho
            rw [if_pos (Mono.wanted_none rfl)]
            obtain ⟨A8, c9, h8, _⟩ : OwAt kInt wr.heap.size w5 (vals 8) (zs D) := (R5L_e8 _ _ _ _ _ _ _ _ _ _ _ _ _ _ _ _ _ _ _ _ (hcl 8 (by kernel_rfl)))
            clear hcl
            refine Mono.yields_same (.slice (some ⟨w5.heap.size, 0, none⟩) 1 1) (w5.alloc (.cells #[.slice A8 (zs D).length c9] kRow.e)) ?_ ⟨MonoW.Out.of (Wr.of row) ((Ext.refl _).alloc _), R5L_i9 _ _ _ _ _ _ _ _ _ _ _ _ _ _ _ _ _ _ _ _ ⟨⟨A8, (zs D).length, c9⟩, by first | rfl | assumption | kernel_rfl, OneAt.made kRow w5 hE.size _ _ rfl trivial⟩⟩
            simp only [Mono.all, List.take, Act.put, kRow]
            go_simp
          · simp only [List.getElem?_cons_succ, List.getElem?_cons_zero, Option.some.injEq] at ho
            subst ho
            rw [if_pos (Mono.wanted_none rfl)]
            obtain ⟨x, hx, p, h9, o9⟩ : ∃ x : Hd, _ ∧ OneAt kRow wr.heap.size w5 (vals 9) x := (R5L_e9 _ _ _ _ _ _ _ _ _ _ _ _ _ _ _ _ _ _ _ _ (hcl 9 (by kernel_rfl)))
            have h1 : vals 1 = .slice Ar k er := (R5L_e1 _ _ _ _ _ _ _ _ _ _ _ _ _ _ _ _ _ _ _ _ (hcl 1 (by kernel_rfl)))
            have hX := hQ rfl
            clear hcl
            refine Kd.yields_grow kRow (B := B) (n := wr.heap.size) (q := 10) (.tmp 23) (.tmp 31) (v := .slice Ar k er) (y := .slice (some ⟨p, 0, none⟩) 1 1) (xs := L) (ys := [x]) (HRW.out.ext hX) o9.rd HLL.out (Nat.le_trans HBS.out hX.size) hX.size rfl rfl (by rw [← h1]; kernel_rfl) (by rw [← h9]; kernel_rfl) ?_
            intro v' w' hA hO
            exact ⟨by rw [← hrw]; exact hO, R5L_i10 _ _ _ _ _ _ _ _ _ _ _ _ _ _ _ _ _ _ _ _ ⟨x, by first | exact hx | kernel_rfl, hA⟩⟩
        · intro vals w5 hE hv
          have e1 := R5L_e1 _ _ _ _ _ _ _ _ _ _ _ _ _ _ _ _ _ _ _ _ (hv 1 (by omega))
          have e4 := R5L_e4 _ _ _ _ _ _ _ _ _ _ _ _ _ _ _ _ _ _ _ _ (hv 4 (by omega))
          have e7 := R5L_e7 _ _ _ _ _ _ _ _ _ _ _ _ _ _ _ _ _ _ _ _ (hv 7 (by omega))
          obtain ⟨A8, c8, e8, ho8⟩ := R5L_e8 _ _ _ _ _ _ _ _ _ _ _ _ _ _ _ _ _ _ _ _ (hv 8 (by omega))
          obtain ⟨x, hx, hA⟩ := (R5L_e10 _ _ _ _ _ _ _ _ _ _ _ _ _ _ _ _ _ _ _ _ (hv 10 (by omega)))
          have hx8 : vals 8 = x.v := Eq.trans (by kernel_rfl) hx
          have ho8' : Ow kInt wr.heap.size w5 x.v (zs (c.D.getD k [])) := by rw [HDD.out, ← hx8, e8]; exact ho8
          obtain ⟨Ar', er', e10, hN⟩ := R5At.next HR.out (by rw [hrw]; exact hE) ho8' (by rw [HB.out]; exact hA)
          rw [e10] at hN
          have HN := Lib.hid hN
          have hb5 := block_wr HR.out.box hE nV
          have y3 : w5.cell? ⟨V, 3, none⟩ = some (.slice Ar k er) := (cell_of_row w5 V 3 _ _ _ hb5).trans rfl
          have yf := fun o => frozen_of_row w5 V o _ _ hb5
          clear hv hN hb5 hA hx hx8 ho8' ho8
          simp only [Mono.all, List.take, List.drop, Act.put]
          rw [e10]
          go_wp2_with fail
          go_roundw
          case rel => exact ⟨k + 1, L ++ [x], Ar', er', by omega, by go_num, HN.out⟩
          case measure => simp [intOf]; omega
      · obtain rfl : k = m := by omega
        have hb1 := block_keep r0 hR.ext
        have x0 : wr.cell? ⟨P + 1, 0, none⟩ = some (.slice none 0 0) := (cell_of_row wr (P + 1) 0 _ _ _ hb1).trans rfl
        have x1 : wr.cell? ⟨P + 1, 1, none⟩ = some (.int .i64 0) := (cell_of_row wr (P + 1) 1 _ _ _ hb1).trans rfl
        have x2 : wr.cell? ⟨P + 1, 2, none⟩ = some (.slice none 0 0) := (cell_of_row wr (P + 1) 2 _ _ _ hb1).trans rfl
        have x3 : wr.cell? ⟨P + 1, 3, none⟩ = some (.slice none 0 0) := (cell_of_row wr (P + 1) 3 _ _ _ hb1).trans rfl
        have x4 : wr.cell? ⟨P + 1, 4, none⟩ = some (.bool false) := (cell_of_row wr (P + 1) 4 _ _ _ hb1).trans rfl
        have x5 : wr.cell? ⟨P + 1, 5, none⟩ = some (.int .i64 0) := (cell_of_row wr (P + 1) 5 _ _ _ hb1).trans rfl
        have x6 : wr.cell? ⟨P + 1, 6, none⟩ = some (.int .i64 0) := (cell_of_row wr (P + 1) 6 _ _ _ hb1).trans rfl
        have xf := fun o => frozen_of_row wr (P + 1) o _ _ hb1
        have v0 : wr.cell? ⟨V, 0, none⟩ = some (.slice A1 c.ts.length a1) := (cell_of_row wr V 0 _ _ _ hR.box).trans rfl
        have v1 : wr.cell? ⟨V, 1, none⟩ = some (.int .i64 g) := (cell_of_row wr V 1 _ _ _ hR.box).trans rfl
        have v2 : wr.cell? ⟨V, 2, none⟩ = some (.slice B1 c.dn.length b1) := (cell_of_row wr V 2 _ _ _ hR.box).trans rfl
        have v3 : wr.cell? ⟨V, 3, none⟩ = some (.slice Ar k er) := (cell_of_row wr V 3 _ _ _ hR.box).trans rfl
        have v4 : wr.cell? ⟨V, 4, none⟩ = some (.bool c.over) := (cell_of_row wr V 4 _ _ _ hR.box).trans rfl
        have v5 : wr.cell? ⟨V, 5, none⟩ = some (.int .i64 c.st) := (cell_of_row wr V 5 _ _ _ hR.box).trans rfl
        have v6 : wr.cell? ⟨V, 6, none⟩ = some (.int .i64 c.id) := (cell_of_row wr V 6 _ _ _ hR.box).trans rfl
        obtain ⟨e0, he0, _⟩ := Ow.pos hR.row (by rw [hR.len]; omega)
        subst he0
        clear hR hb1
        go_wp2_with fail
        have hz := HZ.out
        have hp := HP.out
        refine bodyPost_ret (v := .agg #[.slice A1 c.ts.length a1, .int .i64 g, .slice B1 c.dn.length b1, .slice (some ⟨e0, 0, none⟩) k er, .bool c.over, .int .i64 c.st, .int .i64 c.id]) (by simp [results, Try.results47, go_sem]; go_simp) rfl ⟨A1, B1, e0, a1, b1, er, L, rfl, ?_, ?_⟩
        · have hR := HR.out
          have sto : ∀ {α : Type} {K : Kd α} {v : Value} {xs : List α}, Ow K w0.heap.size wr v xs → Ow K w.heap.size (((((((wr.setCell ⟨P + 1, 0, none⟩ (.slice A1 c.ts.length a1)).setCell ⟨P + 1, 1, none⟩ (.int .i64 g)).setCell ⟨P + 1, 2, none⟩ (.slice B1 c.dn.length b1)).setCell ⟨P + 1, 3, none⟩ (.slice (some ⟨e0, 0, none⟩) k er)).setCell ⟨P + 1, 4, none⟩ (.bool c.over)).setCell ⟨P + 1, 5, none⟩ (.int .i64 c.st)).setCell ⟨P + 1, 6, none⟩ (.int .i64 c.id)) v xs := fun ho => (((((((ho.setBelow (p := ⟨P + 1, 0, none⟩) (by show P + 1 < _; omega) _).setBelow (p := ⟨P + 1, 1, none⟩) (by show P + 1 < _; omega) _).setBelow (p := ⟨P + 1, 2, none⟩) (by show P + 1 < _; omega) _).setBelow (p := ⟨P + 1, 3, none⟩) (by show P + 1 < _; omega) _).setBelow (p := ⟨P + 1, 4, none⟩) (by show P + 1 < _; omega) _).setBelow (p := ⟨P + 1, 5, none⟩) (by show P + 1 < _; omega) _).setBelow (p := ⟨P + 1, 6, none⟩) (by show P + 1 < _; omega) _).mono (by omega)
          exact ⟨sto hR.tsk, sto hR.dns, sto hR.row, hR.len, HDL.out, fun j hj => ⟨(hR.els j hj).1, sto (hR.els j hj).2⟩, hR.far⟩
        · exact ((((((((X.out.trans HR.out.ext).setCell (p := ⟨P + 1, 0, none⟩) (by show _ ≤ P + 1; omega) _).setCell (p := ⟨P + 1, 1, none⟩) (by show _ ≤ P + 1; omega) _).setCell (p := ⟨P + 1, 2, none⟩) (by show _ ≤ P + 1; omega) _).setCell (p := ⟨P + 1, 3, none⟩) (by show _ ≤ P + 1; omega) _).setCell (p := ⟨P + 1, 4, none⟩) (by show _ ≤ P + 1; omega) _).setCell (p := ⟨P + 1, 5, none⟩) (by show _ ≤ P + 1; omega) _).setCell (p := ⟨P + 1, 6, none⟩) (by show _ ≤ P + 1; omega) _)
end Go.Proofs.Ytjabahfkgaamdaa

/- The document's Right of a crew (ref05), where it may be. -/
namespace Go.Proofs.Ytjabahfkgaamdaa
open Go.BigFrame
open Go.RowKit Go.Proofs.Ytjabahfkgaamdaa.Plain

theorem held_split (D : List (List Nat)) (j k : Nat) (hj : j < D.length) (hk : k < (D.getD j []).length) : ∃ R, held D = (upTo D j ++ (D.getD j []).take k) ++ (D.getD j []).getD k 0 :: R := by
  have h1 : held D = upTo D (j + 1) ++ (D.drop (j + 1)).flatten := by unfold held upTo; rw [← List.flatten_append, List.take_append_drop]
  have h2 : D.getD j [] = (D.getD j []).take k ++ (D.getD j []).getD k 0 :: (D.getD j []).drop (k + 1) := by
    have h3 := List.drop_eq_getElem_cons (l := D.getD j []) (i := k) hk
    have h4 : (D.getD j []).getD k 0 = (D.getD j [])[k] := by rw [List.getD_eq_getElem?_getD, List.getElem?_eq_getElem hk]; rfl
    rw [h4, ← h3, List.take_append_drop]
  refine ⟨(D.getD j []).drop (k + 1) ++ (D.drop (j + 1)).flatten, ?_⟩
  rw [h1, upTo_succ D j hj]
  conv => lhs; rw [h2]
  simp [List.append_assoc]

set_option maxHeartbeats 3200000 in
set_option maxRecDepth 100000 in
theorem rright5_yes (A B : Option Addr) (eb eo a b e g n m : Nat) (c : Cw) (done : Nat) (G : List Nat) (w : World) (h : CrewAt w m c A B eb eo a b) (hI : CwI g n m c done G) (n1 : 1 ≤ n) (n2 : n ≤ 900) (g1 : 1 ≤ g) (g2 : g ≤ 100) (m1 : 1 ≤ m) (m2 : m ≤ 8) (hst : c.st ≤ 100000) (hid : c.id ≤ 100000) :
    Calls Try.prog 45 #[crewV A B eb eo a b e g m c] w fun ed w' => ed = .returned (.bool true) ∧ Ext w w' := by
  have HI := Lib.hid hI
  have HH := Lib.hid h
  have hfew := hI.few g1 n1
  have hts : (c.ts.length : Int) ≤ 1800 := by omega
  have hO := CrI.inv hI
  have HWR : Hid (wRight c.ts (g : Int) c.dn.length = true) := Lib.hid (by rw [hO.dl]; exact hO.right g1 g2 n1 n2)
  have HDN : Hid (c.dn.length = n) := Lib.hid hO.dl
  have HGI : Hid (in64 (g : Int)) := Lib.hid (by unfold in64; omega)
  have s1 : (0 : Int) ≤ (c.st : Int) := by omega
  have s2 : (c.st : Int) ≤ 100000 := by omega
  have s3 : (0 : Int) ≤ (c.id : Int) := by omega
  have s4 : (c.id : Int) ≤ 100000 := by omega
  have s5 : (1 : Int) ≤ m := by omega
  have s6 : (m : Int) ≤ 8 := by omega
  obtain ⟨hs, hds⟩ := h.deq
  have HDS := Lib.hid hds
  have HDL : Hid (c.D.length = m) := Lib.hid hds.1
  obtain ⟨n0, hn0⟩ : ∃ n0, c.ts.length = n0 := ⟨_, rfl⟩
  have htl0 : 0 < n0 := by rw [← hn0]; exact hO.len
  obtain ⟨ta, to', hA, hct⟩ := Rd.tasks h.tsk.rd (by omega : 0 < c.ts.length)
  subst hA
  rw [hn0] at hts hfew
  have HCT : Hid (∀ j, j < n0 → _) := Lib.hid (by rw [← hn0]; exact hct)
  have HTN := Lib.hid hn0
  obtain ⟨C, hmk, hmown⟩ := kBool.make false rfl trivial n0 (by omega)
  have HMK := Lib.hid hmown
  have hmk2 : ∀ w : World, (Instr.makeSlice 52 (.int .i64 n0) (.int .i64 n0)).run Try.prog w = .ok (.slice (some ⟨w.heap.size, 0, none⟩) n0 n0) (w.alloc (.cells C 4)) := hmk
  clear hmk
  clear h hI hO hds hct hmown
  unfold crewV
  rw [hn0]
  go_enter Try.func45, Try.ntmps45
  go_wp2_with fail
  have hrr := rright_any (some ⟨ta, to', none⟩) B a b c.dn.length c.ts (g : Int) (w.alloc (.cells #[.slice (some ⟨ta, to', none⟩) n0 a, .int .i64 g, .slice B c.dn.length b, .slice (some ⟨eb, eo, none⟩) m e, .bool c.over, .int .i64 c.st, .int .i64 c.id] 57)) (HH.out.tsk.rd.ext ((Ext.refl _).alloc _)) (by rw [HDN.out]; omega) HGI.out
  rw [hn0, HWR.out] at hrr
  clear hn0
  refine hrr.mono ?_
  clear hrr
  rintro ed w1 ⟨rfl, hE⟩
  have x0 : w1.cell? ⟨w.heap.size, 0, none⟩ = some (.slice (some ⟨ta, to', none⟩) n0 a) := Ext.cell hE (by go_simp)
  have x1 : w1.cell? ⟨w.heap.size, 1, none⟩ = some (.int .i64 g) := Ext.cell hE (by go_simp)
  have x2 : w1.cell? ⟨w.heap.size, 2, none⟩ = some (.slice B c.dn.length b) := Ext.cell hE (by go_simp)
  have x3 : w1.cell? ⟨w.heap.size, 3, none⟩ = some (.slice (some ⟨eb, eo, none⟩) m e) := Ext.cell hE (by go_simp)
  have x4 : w1.cell? ⟨w.heap.size, 4, none⟩ = some (.bool c.over) := Ext.cell hE (by go_simp)
  have x5 : w1.cell? ⟨w.heap.size, 5, none⟩ = some (.int .i64 c.st) := Ext.cell hE (by go_simp)
  have x6 : w1.cell? ⟨w.heap.size, 6, none⟩ = some (.int .i64 c.id) := Ext.cell hE (by go_simp)
  have xf : ∀ o, w1.frozen? ⟨w.heap.size, o, none⟩ = false := fun o => (Below.frozen hE (p := ⟨w.heap.size, o, none⟩) (by first | omega | (simp; omega) | simp)).trans (by go_simp)
  have HE1 := Lib.hid (((Ext.refl w).alloc _).trans hE)
  have hz1 := hE.size
  simp at hz1
  clear hE
  go_wp2_with fail
  have hown1 := HMK.out w1 w1.heap.size w1.heap.size rfl (Nat.le_refl _)
  have hE2 : Ext w1 (w1.alloc (.cells C 4)) := (Ext.refl _).alloc _
  obtain ⟨M, hM⟩ : ∃ M, w1.heap.size = M := ⟨_, rfl⟩
  have hz2 : (w1.alloc (.cells C 4)).heap.size = M + 1 := by simp [hM]
  have hown2 : Ow kBool M (w1.alloc (.cells C 4)) (.slice (some ⟨M, 0, none⟩) n0 n0) (List.replicate n0 false) := by rw [← hM]; exact hown1
  rw [hM]
  generalize hw2 : w1.alloc (.cells C 4) = w2 at *
  clear hw2 hown1
  have HO2 := Lib.hid hown2
  have HZ2 := Lib.hid hz2
  have HX2 : Hid (Ext w w2) := Lib.hid (HE1.out.trans hE2)
  have lM : w.heap.size < M := by omega
  have y0 := hE2.cell x0
  have y1 := hE2.cell x1
  have y2 := hE2.cell x2
  have y3 := hE2.cell x3
  clear hown2 hz2 hE2 x0 x1 x2 x3 x4 x5 x6 xf hz1 hM HMK hmk2
  go_loopw [5] (fun i wr => ∃ j : Nat, j ≤ m ∧ i = .int .i64 j ∧ Ow kBool M wr (.slice (some ⟨M, 0, none⟩) n0 n0) (metL n0 (upTo c.D j)) ∧ Grew (fun b => b = M) w2 wr) (fun i _ => m - (intOf i).toNat)
  case atStart => exact ⟨0, Nat.zero_le _, rfl, by rw [show upTo c.D 0 = [] from rfl, metL_nil]; exact HO2.out, Grew.refl _ _⟩
  case round =>
    obtain ⟨j, hj, rfl, hown, hG⟩ := hrel
    have HO := Lib.hid hown
    have HG := Lib.hid hG
    clear hown hG
    have hj0 : (0 : Int) ≤ j := by omega
    by_cases hlt : j < m
    · have hlt' : (j : Int) < m := by omega
      obtain ⟨z0, zn, zr⟩ := HDS.out.2 j hlt
      obtain ⟨⟨Ah, nh, ch⟩, hh⟩ : ∃ x, hs j = x := ⟨_, rfl⟩
      rw [hh] at zn zr z0
      unfold Hd.v at z0 zr
      simp only at z0 zn zr
      have leb : eb < w.heap.size := HDS.out.lt m1
      have HZ0 := Lib.hid z0
      obtain ⟨D, hD⟩ : ∃ D, c.D.getD j [] = D := ⟨_, rfl⟩
      rw [hD] at zn zr
      have HDD := Lib.hid hD
      have HZR := Lib.hid zr
      have HZN := Lib.hid zn
      have hnh : nh ≤ 1800 := by
        have h1 := held_at c.D j (by rw [HDL.out]; exact hlt)
        have h2 := h1.length_eq
        rw [List.length_append, hD, ← zn] at h2
        have h3 := (CrI.fresh HI.out).2.2.2
        have := HTN.out
        omega
      have hnh' : (nh : Int) ≤ 1800 := by omega
      clear z0 zn zr hh hD
      go_wp2_with fail
      go_loopw [6] (fun i wr => ∃ k : Nat, k ≤ nh ∧ i = .int .i64 k ∧ Ow kBool M wr (.slice (some ⟨M, 0, none⟩) n0 n0) (metL n0 (upTo c.D j ++ D.take k)) ∧ Grew (fun b => b = M) w2 wr) (fun i _ => nh - (intOf i).toNat)
      case atStart => exact ⟨0, Nat.zero_le _, rfl, by rw [List.take_zero, List.append_nil]; exact HO.out, HG.out⟩
      case round =>
        obtain ⟨k, hk, rfl, hown, hG⟩ := hrel
        have HO := Lib.hid hown
        have HG := Lib.hid hG
        have hk0 : (0 : Int) ≤ k := by omega
        have hEb : ∀ b, b < w.heap.size → ¬ b = M := fun b hb => by omega
        have q0 := hG.cell y0 (by omega)
        have q1 := hG.cell y1 (by omega)
        have q2 := hG.cell y2 (by omega)
        have q3 := hG.cell y3 (by omega)
        have qh := hG.cell (HX2.out.cell HZ0.out) (by omega)
        by_cases hlk : k < nh
        · have hlk' : (k : Int) < nh := by omega
          obtain ⟨i, hi⟩ : ∃ i, D.getD k 0 = i := ⟨_, rfl⟩
          have hlkD : k < D.length := by rw [← HZN.out]; exact hlk
          obtain ⟨R, hsp⟩ := held_split c.D j k (by rw [HDL.out]; exact hlt) (by rw [HDD.out]; exact hlkD)
          rw [HDD.out, hi] at hsp
          have hO := CrI.inv HI.out
          have him : i ∈ held c.D := by rw [hsp]; simp
          have hin : i < n0 := by rw [← HTN.out]; exact hO.lt i him
          have hnot : i ∉ upTo c.D j ++ D.take k := by
            intro hh
            have hnd := hO.nd
            rw [hsp, List.nodup_append] at hnd
            exact hnd.2.2 i hh i (by simp) rfl
          have hsucc : upTo c.D j ++ D.take (k + 1) = (upTo c.D j ++ D.take k) ++ [i] := by
            rw [List.take_succ_eq_append_getElem hlkD, ← hi, List.getD_eq_getElem?_getD, List.getElem?_eq_getElem hlkD, List.append_assoc]; rfl
          have HS : Hid (metL n0 (upTo c.D j ++ D.take (k + 1)) = (metL n0 (upTo c.D j ++ D.take k)).set i true) := Lib.hid (by rw [hsucc]; exact metL_snoc n0 _ i hin)
          obtain ⟨b1, o1, hA1, hc1⟩ := HZR.out.rd.cells (by rw [zs_len]; omega)
          subst hA1
          have z0 := hc1 k (by rw [zs_len]; exact hlkD) 0 _ rfl
          have e0 : (zs D).getD k kInt.d = ((i : Nat) : Int) := by rw [← hi]; exact zs_getD _ _
          have z1 : w.cell? ⟨b1, o1 + k, none⟩ = some (.int .i64 i) := by
            rw [e0] at z0
            rw [show o1 + k = o1 + k * kInt.n + 0 from by show o1 + k = o1 + k * 1 + 0; omega]
            exact z0
          have zi := hG.cell (HX2.out.cell z1) (hEb b1 (World.block_lt_of_cell? _ _ z1))
          obtain ⟨⟨lo, hi', up, wt⟩, ht⟩ : ∃ t, c.ts.getD i ⟨0, 0, 0, 0⟩ = t := ⟨_, rfl⟩
          have htT : T c.ts i = ⟨lo, hi', up, wt⟩ := ht
          have hw0 := hO.w0 i him
          rw [htT] at hw0
          simp only at hw0
          subst hw0
          have htask := hO.task i (hO.lt i him)
          rw [htT] at htask
          simp only at htask
          obtain ⟨t1, t2, t3, _, _, _, _⟩ := htask
          have hcov := (hO.cov lo.toNat (by omega)).2 ⟨i, him, by rw [htT]; simp only; omega, by rw [htT]; simp only; omega⟩
          obtain ⟨p0, p1, p2, p3⟩ := HCT.out i hin
          rw [ht] at p0 p1 p2 p3
          simp only at p0 p1 p2 p3
          have lta := hEb ta (World.block_lt_of_cell? _ _ p0)
          have r0 := hG.cell (HX2.out.cell p0) lta
          have r1 := hG.cell (HX2.out.cell p1) lta
          have r2 := hG.cell (HX2.out.cell p2) lta
          have r3 := hG.cell (HX2.out.cell p3) lta
          obtain ⟨g', eg, _, _, h3, h4⟩ := Ow.pos hown (by rw [metL_len]; exact htl0)
          obtain rfl : g' = M := by cases eg; rfl
          have zm : wr.cell? ⟨g', i, none⟩ = some (.bool false) := by
            have := h3 i (by rw [metL_len]; exact hin) 0 _ rfl
            rw [show (metL n0 (upTo c.D j ++ D.take k)).getD i kBool.d = false by rw [show kBool.d = false from rfl, metL_getD _ _ _ hin]; exact decide_eq_false hnot] at this
            rw [show i = i * kBool.n + 0 from by show i = i * 1 + 0; omega]
            exact this
          have HFR := Lib.hid h4
          have hdl := HDN.out
          obtain ⟨bd, od, hB1, hcd⟩ := Rd.bools HH.out.dns.rd (by omega : 0 < c.dn.length)
          subst hB1
          obtain ⟨l, hl⟩ : ∃ l : Nat, lo = l := ⟨lo.toNat, by omega⟩
          subst hl
          rw [Int.toNat_natCast] at hcov
          have zd := hcd l (by omega)
          rw [hcov] at zd
          have zd' := hG.cell (HX2.out.cell zd) (hEb bd (World.block_lt_of_cell? _ _ zd))
          have HTS : Hid (Rd kTask wr (.slice (some ⟨ta, to', none⟩) c.ts.length a) c.ts) := Lib.hid (HH.out.tsk wr (Grew.of (hG.toExt HX2.out (fun b hb => by rw [hb]; omega))))
          have HNL : Hid (c.dn.length ≤ 9223372036854775807) := Lib.hid (by omega)
          have hl2 : (l : Int) < c.dn.length := by omega
          have hl3 : decide ((c.dn.length : Int) ≤ (l : Int)) = false := decide_eq_false (by omega)
          have hl4 : decide (c.dn.length ≤ l) = false := decide_eq_false (by omega)
          have hi0 : (0 : Int) ≤ i := by omega
          have hi1 : (i : Int) < n0 := by omega
          have hd1 : decide ((i : Int) < 0) = false := decide_eq_false (by omega)
          have hd2 : decide ((n0 : Int) ≤ (i : Int)) = false := decide_eq_false (by omega)
          have hd3 : decide (n0 ≤ i) = false := decide_eq_false (by omega)
          have HI64 : Hid (-9223372036854775808 ≤ (i : Int) ∧ (i : Int) ≤ 9223372036854775807) := Lib.hid ⟨by omega, by omega⟩
          clear hown hG h3 h4 z0 z1 e0 hc1 hi ht htT him hO hnot hsucc p0 p1 p2 p3 eg hsp hcd zd hcov hdl hEb lta
          have KS : Hid (∀ w', Ext wr w' → w'.cell? ⟨w.heap.size, 0, none⟩ = some (.slice (some ⟨ta, to', none⟩) n0 a) ∧ w'.cell? ⟨w.heap.size, 1, none⟩ = some (.int .i64 g) ∧ w'.cell? ⟨w.heap.size, 2, none⟩ = some (.slice (some ⟨bd, od, none⟩) c.dn.length b) ∧ w'.cell? ⟨g', i, none⟩ = some (.bool false) ∧ w'.cell? ⟨ta, to' + i * 4, none⟩ = some (.int .i64 l) ∧ w'.cell? ⟨ta, to' + i * 4 + 1, none⟩ = some (.int .i64 hi') ∧ w'.cell? ⟨ta, to' + i * 4 + 2, none⟩ = some (.int .i64 up) ∧ w'.cell? ⟨ta, to' + i * 4 + 3, none⟩ = some (.int .i64 0) ∧ w'.cell? ⟨bd, od + l, none⟩ = some (.bool false)) := Lib.hid fun w' hE => ⟨hE.cell q0, hE.cell q1, hE.cell q2, hE.cell zm, hE.cell r0, hE.cell r1, hE.cell r2, hE.cell r3, hE.cell zd'⟩
          go_wp2_with fail
          obtain ⟨gr, hgr⟩ : ∃ gr, wGreat c.ts (g : Int) c.dn.length (i : Int) = gr := ⟨_, rfl⟩
          have HOP : Hid (∀ w', Ext wr w' → Calls Try.prog 50 #[.agg #[.slice (some ⟨ta, to', none⟩) n0 a, .int .i64 g, .slice (some ⟨bd, od, none⟩) c.dn.length b], .int .i64 i] w' fun ed w'' => ed = .returned (.bool gr) ∧ Ext wr w'') := Lib.hid fun w' hE => by
            have hc := rgreat_any (some ⟨ta, to', none⟩) (some ⟨bd, od, none⟩) a b c.dn.length c.ts (g : Int) (i : Int) w' (HTS.out.ext hE) HNL.out HGI.out HI64.out
            rw [HTN.out, hgr] at hc
            exact hc.mono fun ed w'' hh => ⟨hh.1, hE.trans hh.2⟩
          clear hgr
          have hM1 : g' < wr.heap.size := by have := HZ2.out; have := HG.out.size; omega
          have fin : ∀ w4, Ext wr w4 → Hid (Ow kBool g' (w4.setCell ⟨g', i, none⟩ (.bool true)) (.slice (some ⟨g', 0, none⟩) n0 n0) (metL n0 (upTo c.D j ++ D.take (k + 1))) ∧ Grew (fun b => b = g') w2 (w4.setCell ⟨g', i, none⟩ (.bool true))) := fun w4 hC4 => Lib.hid (by
            have hset := (HO.out.ext hC4).set (j := i) (i := 0) (x := true) (u := .bool true) (by rw [metL_len]; exact hin) (by decide) rfl trivial
            rw [show i * kBool.n + 0 = i from by show i * 1 + 0 = i; omega, ← HS.out] at hset
            exact ⟨hset, (HG.out.ext hC4).setCell rfl _⟩)
          have fro : ∀ w4, Ext wr w4 → ∀ o, w4.frozen? ⟨g', o, none⟩ = false := fun w4 hC4 o => (Below.frozen hC4 (p := ⟨g', o, none⟩) hM1).trans (HFR.out o)
          have FIN := Lib.hid fin
          have FRO := Lib.hid fro
          clear fin fro
          cases gr with
          | true =>
            refine wp_region_class (Ext wr) (by kernel_rfl) (by kernel_rfl) (Ext.refl _).drew ?_
            try simp only [List.append_eq, List.cons_append, List.nil_append]
            repeat (first
              | go_big_quiet_skip
              | (go_big_quiet_want
                 first
                 | (go_big_quiet_op; go_big_quiet_on)
                 | (unfold Oper.quiet
                    apply Exists.intro
                    refine ⟨fun w' hC => ?_, ?_⟩
                    · (obtain ⟨k1, k2, k3, k4, k5, k6, k7, k8, k9⟩ := KS.out w' hC
                       unfold Oper.quietAt
                       go_simp
                       first
                       | exact rfl
                       | (with_reducible exact HOP.out w' hC))
                    go_simp
                    go_big_quiet_on)
                 | (go_big_quiet_op
                    apply Exists.intro
                    refine ⟨fun w' hC => ?_, ?_⟩
                    · exact HOP.out w' hC
                    go_big_quiet_on)))
            refine wpQuiet_nil ?_
            intro w4 hC4
            have hfr := FRO.out w4 hC4
            have hFN := FIN.out w4 hC4
            have l1 : g' < w4.heap.size := by have := hC4.size; omega
            have zm4 := hC4.cell zm
            go_wp2_with fail
            go_roundw
            case rel => exact ⟨k + 1, by omega, by go_num, hFN.out.1, hFN.out.2⟩
            case measure => simp [intOf]; omega
          | false =>
            refine wp_region_class (Ext wr) (by kernel_rfl) (by kernel_rfl) (Ext.refl _).drew ?_
            try simp only [List.append_eq, List.cons_append, List.nil_append]
            repeat (first
              | go_big_quiet_skip
              | (go_big_quiet_want
                 first
                 | (go_big_quiet_op; go_big_quiet_on)
                 | (unfold Oper.quiet
                    apply Exists.intro
                    refine ⟨fun w' hC => ?_, ?_⟩
                    · (obtain ⟨k1, k2, k3, k4, k5, k6, k7, k8, k9⟩ := KS.out w' hC
                       unfold Oper.quietAt
                       go_simp
                       first
                       | exact rfl
                       | (with_reducible exact HOP.out w' hC))
                    go_simp
                    go_big_quiet_on)
                 | (go_big_quiet_op
                    apply Exists.intro
                    refine ⟨fun w' hC => ?_, ?_⟩
                    · exact HOP.out w' hC
                    go_big_quiet_on)))
            refine wpQuiet_nil ?_
            intro w4 hC4
            have hfr := FRO.out w4 hC4
            have hFN := FIN.out w4 hC4
            have l1 : g' < w4.heap.size := by have := hC4.size; omega
            have zm4 := hC4.cell zm
            go_wp2_with fail
            go_roundw
            case rel => exact ⟨k + 1, by omega, by go_num, hFN.out.1, hFN.out.2⟩
            case measure => simp [intOf]; omega
        · obtain rfl : k = nh := by omega
          go_wp2_with fail
          go_roundw
          case rel => exact ⟨j + 1, by omega, by go_num, by rw [upTo_succ _ _ (by rw [HDL.out]; exact hlt), HDD.out]; rw [List.take_of_length_le (by rw [HZN.out]; exact Nat.le_refl _)] at hown; exact hown, hG⟩
          case measure => simp [intOf]; omega
    · obtain rfl : j = m := by omega
      go_wp2_with fail
      go_ret
      exact ⟨rfl, HG.out.toExt HX2.out (fun b hb => by rw [hb]; omega)⟩
end Go.Proofs.Ytjabahfkgaamdaa

/- The deque's Move. -/
namespace Go.Proofs.Ytjabahfkgaamdaa
open Go.RowKit Go.Proofs.Ytjabahfkgaamdaa.Plain

theorem clone_to (v : Value) (xs : List Int) (n : Nat) (w : World) (h : Ints w v xs) (hn : xs.length = n) (hl : xs.length ≤ 1048576) :
    Calls Try.prog 65 #[v] w fun e w' => ∃ A c, e = .returned (.slice A n c) ∧ Own w.heap.size w' (.slice A n c) xs ∧ Ext w w' := by
  subst hn
  exact clone_any v xs w h hl
theorem val_int {k : IntKind} {a b : Int} (h : a = b) : Value.int k a = .int k b := by rw [h]

end Go.Proofs.Ytjabahfkgaamdaa
