/- TableSet: the law returns true. -/
import Derived.Test.YtofiokegdgdacaaJ6
import Derived.Test.YtofiokegdgdacaaZT12O
set_option linter.unusedVariables false
set_option linter.unusedSimpArgs false
set_option linter.unnecessarySimpa false
namespace Go.Proofs.Ytofiokegdgdacaa
open Go.BigFrame
open Go.RowKit Go.Proofs.Ytofiokegdgdacaa.Plain

theorem Plain.make_self {B : Nat} {ks : List Nat} (h1 : 1 ≤ B) (h2 : B ≤ 10) (hl : ks.Pairwise (· < ·)) (hr : ks.length ≤ 2 ^ B * 3 / 4) : makeP (B : Int) ks = (tbOf B ks, 0) := by
  rw [make_small h1 h2, risingR_self hl, if_neg (by omega)]
theorem Plain.put_one {B : Nat} {ks : List Nat} (h1 : 1 ≤ B) (h2 : B ≤ 10) (hl : ks.Pairwise (· < ·)) (hr : ks.length ≤ 2 ^ B * 3 / 4) (xs : List Nat) :
    putP (tbOf B ks) xs = if 2 ^ B * 3 / 4 < (risingR (ks ++ xs)).length then (tbOf B ks, 2) else (tbOf B (risingR (ks ++ xs)), 0) := by
  unfold putP
  rw [if_pos (right_made h1 h2 hl hr), keys_of hl hr]
  show (if (makeP (B : Int) (ks ++ xs)).2 = 0 then makeP (B : Int) (ks ++ xs) else (tbOf B ks, (makeP (B : Int) (ks ++ xs)).2)) = _
  rw [make_small h1 h2]
  by_cases h : 2 ^ B * 3 / 4 < (risingR (ks ++ xs)).length
  · rw [if_pos h, if_pos h, if_neg (by simp)]
  · rw [if_neg h, if_neg h, if_pos rfl]
theorem Plain.without_rise {ks : List Nat} (hl : ks.Pairwise (· < ·)) (xs : List Nat) : (withoutL ks xs).Pairwise (· < ·) ∧ (withoutL ks xs).length ≤ ks.length := by
  unfold withoutL
  exact ⟨hl.sublist List.filter_sublist, List.length_filter_le _ _⟩
theorem Plain.drop_made {B : Nat} {ks : List Nat} (h1 : 1 ≤ B) (h2 : B ≤ 10) (hl : ks.Pairwise (· < ·)) (hr : ks.length ≤ 2 ^ B * 3 / 4) (xs : List Nat) : dropP (tbOf B ks) xs = (tbOf B (withoutL ks xs), 0) := by
  obtain ⟨g1, g2⟩ := without_rise hl xs
  unfold dropP
  rw [if_pos (right_made h1 h2 hl hr), keys_of hl hr]
  exact make_self h1 h2 g1 (by omega)
theorem Plain.without_more (ks ys : List Nat) (x : Nat) : withoutL ks (ys ++ [x]) = withoutL (withoutL ks ys) [x] := by
  unfold withoutL
  rw [List.filter_filter]
  refine List.filter_congr fun y _ => ?_
  by_cases h1 : y ∈ ys <;> by_cases h2 : y = x <;> simp [h1, h2]
theorem Plain.without_nil (ks : List Nat) : withoutL ks [] = ks := by unfold withoutL; simp
/-- a table under way -/
def stepS (B : Nat) (ks : List Nat) (x : Nat) : List Nat := if 2 ^ B * 3 / 4 < (risingR (ks ++ [x])).length then ks else risingR (ks ++ [x])
/-- a table of these keys lies at P -/
def TabIn (B N P : Nat) (ks : List Nat) (W : World) : Prop :=
  ∃ (C F : Option Addr) (c f : Nat), (W.cell? ⟨P, 0, none⟩ = some (.int .i64 B) ∧ W.cell? ⟨P, 1, none⟩ = some (.slice C N c) ∧ W.cell? ⟨P, 2, none⟩ = some (.slice F N f)) ∧ (∀ o, W.frozen? ⟨P, o, none⟩ = false) ∧ Rd kU32 W (.slice C N c) (zs (cellsT (fillT B ks))) ∧ Rd kBool W (.slice F N f) (fullT (fillT B ks))
theorem TabIn.ext {B N P : Nat} {ks : List Nat} {W W' : World} (h : TabIn B N P ks W) (hE : Ext W W') : TabIn B N P ks W' := by
  obtain ⟨C, F, c, f, ⟨h0, h1, h2⟩, hf, hC, hF⟩ := h
  have hl : P < W.heap.size := World.block_lt_of_cell? _ _ h0
  exact ⟨C, F, c, f, ⟨hE.cell h0, hE.cell h1, hE.cell h2⟩, fun o => (Below.frozen hE (p := ⟨P, o, none⟩) hl).trans (hf o), hC.ext hE, hF.ext hE⟩
theorem TabIn.new {B N : Nat} {ks : List Nat} {w : World} {C F : Option Addr} {c f : Nat} (hC : Rd kU32 w (.slice C N c) (zs (cellsT (fillT B ks)))) (hF : Rd kBool w (.slice F N f) (fullT (fillT B ks))) : TabIn B N w.heap.size ks (w.alloc (.cells #[.int .i64 B, .slice C N c, .slice F N f] 25)) :=
  ⟨C, F, c, f, ⟨by go_simp, by go_simp, by go_simp⟩, fun o => by go_simp, hC.ext ((Ext.refl _).alloc _), hF.ext ((Ext.refl _).alloc _)⟩
/-- stores into a box of a table leave lists as they are -/
theorem Rd.boxed {α : Type} {K : Kd α} {W : World} {v : Value} {xs : List α} {P B0 N0 M0 : Nat} {C0 F0 : Option Addr} {c0 f0 : Nat} (h : Rd K W v xs) (h0 : W.cell? ⟨P, 0, none⟩ = some (.int .i64 B0)) (h1 : W.cell? ⟨P, 1, none⟩ = some (.slice C0 N0 c0)) (h2 : W.cell? ⟨P, 2, none⟩ = some (.slice F0 M0 f0)) (hf : ∀ o, W.frozen? ⟨P, o, none⟩ = false) (k0 : ∀ a, Value.int .i64 B0 ∉ K.cells a) (k1 : ∀ a, Value.slice C0 N0 c0 ∉ K.cells a) (k2 : ∀ a, Value.slice F0 M0 f0 ∉ K.cells a) (a b c : Value) :
    Rd K (((W.setCell ⟨P, 0, none⟩ a).setCell ⟨P, 1, none⟩ b).setCell ⟨P, 2, none⟩ c) v xs := by
  have g1 := h.setNot h0 k0 a
  have g2 := g1.setNot (p := ⟨P, 1, none⟩) (u := .slice C0 N0 c0) (by go_simp) k1 b
  exact g2.setNot (p := ⟨P, 2, none⟩) (u := .slice F0 M0 f0) (by go_simp) k2 c
theorem TabIn.put {B N P : Nat} {ks ks' : List Nat} {W : World} {C F : Option Addr} {c f : Nat} (h : TabIn B N P ks W) (hC : Rd kU32 W (.slice C N c) (zs (cellsT (fillT B ks')))) (hF : Rd kBool W (.slice F N f) (fullT (fillT B ks'))) : TabIn B N P ks' (((W.setCell ⟨P, 0, none⟩ (.int .i64 B)).setCell ⟨P, 1, none⟩ (.slice C N c)).setCell ⟨P, 2, none⟩ (.slice F N f)) := by
  obtain ⟨C0, F0, c0, f0, ⟨h0, h1, h2⟩, hf, _, _⟩ := h
  refine ⟨C, F, c, f, ⟨by go_simp, by go_simp, by go_simp⟩, fun o => by go_simp, ?_, ?_⟩
  · exact hC.boxed h0 h1 h2 hf (fun a => by simp [kU32]) (fun a => by simp [kU32]) (fun a => by simp [kU32]) _ _ _
  · exact hF.boxed h0 h1 h2 hf (fun a => by simp [kBool]) (fun a => by simp [kBool]) (fun a => by simp [kBool]) _ _ _
theorem TabIn.keep {B N P Q : Nat} {ks ks' : List Nat} {W : World} {a b c : Value} (h : TabIn B N P ks W) (h' : TabIn B N Q ks' W) (hne : P ≠ Q) : TabIn B N P ks (((W.setCell ⟨Q, 0, none⟩ a).setCell ⟨Q, 1, none⟩ b).setCell ⟨Q, 2, none⟩ c) := by
  obtain ⟨C0, F0, c0, f0, ⟨h0, h1, h2⟩, hf, _, _⟩ := h'
  obtain ⟨C, F, c9, f9, ⟨g0, g1, g2⟩, gf, gC, gF⟩ := h
  have hl : P < W.heap.size := World.block_lt_of_cell? _ _ g0
  refine ⟨C, F, c9, f9, ⟨by go_simp, by go_simp, by go_simp⟩, fun o => by go_simp, ?_, ?_⟩
  · exact gC.boxed h0 h1 h2 hf (fun a => by simp [kU32]) (fun a => by simp [kU32]) (fun a => by simp [kU32]) _ _ _
  · exact gF.boxed h0 h1 h2 hf (fun a => by simp [kBool]) (fun a => by simp [kBool]) (fun a => by simp [kBool]) _ _ _
/-- one of a list, as the walk cuts it out -/
theorem Rd.oneAt {w : World} {A : Option Addr} {lc : Nat} {l : List Nat} (h : Rd kU32 w (.slice A l.length lc) (zs l)) (i : Nat) (hi : i < l.length) : Rd kU32 w (.slice (if lc = i then A else Option.map (fun x => x.add i) A) 1 (lc - i)) (zs [l.getD i 0]) := by
  have hlc : l.length ≤ lc := by obtain ⟨_, _, hs, hc⟩ := h.slice; rw [zs_len] at hs hc; cases hs; exact hc
  have h1 := Rd.take h (i + 1) lc (by rw [zs_len]; omega) (by omega)
  have h2 := Rd.sliced h1 rfl i (by rw [List.length_take, zs_len]; omega)
  have e : ((zs l).take (i + 1)).drop i = zs [l.getD i 0] := by
    rw [← zs_take9, ← zs_drop9, takeN_snoc hi]
    congr 1
    rw [List.drop_left' (by rw [List.length_take]; omega)]
  rw [e, Nat.add_sub_cancel_left] at h2
  exact h2
end Go.Proofs.Ytofiokegdgdacaa
