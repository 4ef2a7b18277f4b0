/- Joined by wip/merge.py: CrMem, CrSmall, DPlain, DBase, CrLib, R5A, MonoW, RowW, R5B, CrRight, R5C, Deque, DMove, DTo, DRef, CrDeq, R5D, CrGo, CrGoer, CrGoAt. -/
import Derived.Test.YtkpbanfpnilifaaJ2
import Derived.IntWalk
import Derived.Lib.AppendZeros
import Derived.Deep.DeepCutAuto
import Derived.BigQuiet
import Derived.Deep.QuietTactic
import Derived.Deep.RegionHeld3
import Derived.Laws.Cover1
import Derived.Deep.RegionWith
import Derived.Deep.RegionLawGrows
import Derived.Deep.RegionLaw
set_option linter.unusedVariables false
set_option linter.unusedSimpArgs false
set_option linter.unnecessarySimpa false
/- A crew, as it lies; one that goes steps, as it lies. -/
namespace Go.Proofs.Ytkpbanfpnilifaa
open Go.RowKit Go.Proofs.Ytkpbanfpnilifaa.Plain

/-- deques, in a list at ⟨b, off⟩, that read so whatever becomes of the blocks of S -/
def Hds (S : Nat → Prop) (w : World) (b off m : Nat) (hs : Nat → Hd) (D : List (List Nat)) : Prop :=
  D.length = m ∧ ∀ j, j < m → w.cell? ⟨b, off + j, none⟩ = some (hs j).v ∧ (hs j).n = (D.getD j []).length ∧ RdO kInt S w (hs j).v (zs (D.getD j []))
theorem Hds.grew {S : Nat → Prop} {w W : World} {b off m : Nat} {hs : Nat → Hd} {D : List (List Nat)} (h : Hds S w b off m hs D) (hG : Grew S w W) (hb : ¬ S b) : Hds S W b off m hs D :=
  ⟨h.1, fun j hj => ⟨hG.cell (h.2 j hj).1 hb, (h.2 j hj).2.1, (h.2 j hj).2.2.grew hG⟩⟩
theorem Hds.ext {S : Nat → Prop} {w W : World} {b off m : Nat} {hs : Nat → Hd} {D : List (List Nat)} (h : Hds S w b off m hs D) (hE : Ext w W) : Hds S W b off m hs D :=
  ⟨h.1, fun j hj => ⟨hE.cell (h.2 j hj).1, (h.2 j hj).2.1, (h.2 j hj).2.2.ext hE⟩⟩
/-- a crew's memory, that has nothing to do with the blocks of S -/
structure CrewO (S : Nat → Prop) (w : World) (m : Nat) (c : Cw) (A B : Option Addr) (eb eo a b : Nat) : Prop where
  tsk : RdO kTask S w (.slice A c.ts.length a) c.ts
  dns : RdO kBool S w (.slice B c.dn.length b) c.dn
  deq : ∃ hs, Hds S w eb eo m hs c.D
  off : ¬ S eb
/-- .. of none -/
abbrev CrewAt (w : World) (m : Nat) (c : Cw) (A B : Option Addr) (eb eo a b : Nat) : Prop := CrewO (fun _ => False) w m c A B eb eo a b
theorem CrewO.grew {S : Nat → Prop} {w W : World} {m : Nat} {c : Cw} {A B : Option Addr} {eb eo a b : Nat} (h : CrewO S w m c A B eb eo a b) (hG : Grew S w W) : CrewO S W m c A B eb eo a b := by
  obtain ⟨h1, h2, ⟨hs, h3⟩, h4⟩ := h
  exact ⟨h1.grew hG, h2.grew hG, ⟨hs, h3.grew hG h4⟩, h4⟩
theorem CrewO.ext {S : Nat → Prop} {w W : World} {m : Nat} {c : Cw} {A B : Option Addr} {eb eo a b : Nat} (h : CrewO S w m c A B eb eo a b) (hE : Ext w W) : CrewO S W m c A B eb eo a b := h.grew (Grew.of hE)
theorem CrewO.setCell {S : Nat → Prop} {w : World} {m : Nat} {c : Cw} {A B : Option Addr} {eb eo a b : Nat} (h : CrewO S w m c A B eb eo a b) {p : Addr} (hp : S p.block) (u : Value) : CrewO S (w.setCell p u) m c A B eb eo a b := h.grew ((Grew.refl S w).setCell hp u)
theorem Hds.lt {S : Nat → Prop} {w : World} {b off m : Nat} {hs : Nat → Hd} {D : List (List Nat)} (h : Hds S w b off m hs D) (hm : 1 ≤ m) : b < w.heap.size := World.block_lt_of_cell? _ _ (h.2 0 hm).1
theorem CrewO.mono {S T : Nat → Prop} {w : World} {m : Nat} {c : Cw} {A B : Option Addr} {eb eo a b : Nat} (h : CrewO S w m c A B eb eo a b) (hm : 1 ≤ m) (hT : ∀ x, x < w.heap.size → T x → S x) : CrewO T w m c A B eb eo a b := by
  obtain ⟨h1, h2, ⟨hs, h3⟩, h4⟩ := h
  exact ⟨h1.mono hT, h2.mono hT, ⟨hs, h3.1, fun j hj => ⟨(h3.2 j hj).1, (h3.2 j hj).2.1, (h3.2 j hj).2.2.mono hT⟩⟩, fun ht => h4 (hT eb (h3.lt hm) ht)⟩
theorem CrewO.at_ {S : Nat → Prop} {w : World} {m : Nat} {c : Cw} {A B : Option Addr} {eb eo a b : Nat} (h : CrewO S w m c A B eb eo a b) (hm : 1 ≤ m) : CrewAt w m c A B eb eo a b := h.mono hm (fun _ _ hf => hf.elim)
/-- later, of blocks that were none then -/
theorem CrewO.later {S T : Nat → Prop} {w W : World} {m : Nat} {c : Cw} {A B : Option Addr} {eb eo a b : Nat} (h : CrewO S w m c A B eb eo a b) (hm : 1 ≤ m) (hG : Grew S w W) (hT : ∀ x, x < w.heap.size → T x → S x) : CrewO T W m c A B eb eo a b := by
  obtain ⟨h1, h2, ⟨hs, h3⟩, h4⟩ := h
  exact ⟨h1.later hG hT, h2.later hG hT, ⟨hs, h3.1, fun j hj => ⟨hG.cell (h3.2 j hj).1 h4, (h3.2 j hj).2.1, (h3.2 j hj).2.2.later hG hT⟩⟩, fun ht => h4 (hT eb (h3.lt hm) ht)⟩
/-- a crew, as a value -/
abbrev crewV (A B : Option Addr) (eb eo a b e : Nat) (g m : Nat) (c : Cw) : Value :=
  .agg #[.slice A c.ts.length a, .int .i64 g, .slice B c.dn.length b, .slice (some ⟨eb, eo, none⟩) m e, .bool c.over, .int .i64 c.st, .int .i64 c.id]
/-- an event, as a value -/
abbrev evV (x : Ev) : Value := .agg #[.int .i64 x.wk, .int .i64 x.fr, .int .i64 x.tk, .bool x.pt]

/-- one that goes steps: the block V has its crew and the event, the block e0 its deques' heads -/
structure GoAt (S : Nat → Prop) (w : World) (V e0 g m : Nat) (c : Cw) (ev : Ev) (A B : Option Addr) (a b e : Nat) (hs : Nat → Hd) : Prop where
  sV : S V
  sE : S e0
  sl : ∀ x, S x → x < w.heap.size
  ne : V ≠ e0
  v0 : w.cell? ⟨V, 0, none⟩ = some (.slice A c.ts.length a)
  v1 : w.cell? ⟨V, 1, none⟩ = some (.int .i64 g)
  v2 : w.cell? ⟨V, 2, none⟩ = some (.slice B c.dn.length b)
  v3 : w.cell? ⟨V, 3, none⟩ = some (.slice (some ⟨e0, 0, none⟩) m e)
  v4 : w.cell? ⟨V, 4, none⟩ = some (.bool c.over)
  v5 : w.cell? ⟨V, 5, none⟩ = some (.int .i64 c.st)
  v6 : w.cell? ⟨V, 6, none⟩ = some (.int .i64 c.id)
  v7 : w.cell? ⟨V, 7, none⟩ = some (.int .i64 ev.wk)
  v8 : w.cell? ⟨V, 8, none⟩ = some (.int .i64 ev.fr)
  v9 : w.cell? ⟨V, 9, none⟩ = some (.int .i64 ev.tk)
  v10 : w.cell? ⟨V, 10, none⟩ = some (.bool ev.pt)
  fV : ∀ o, w.frozen? ⟨V, o, none⟩ = false
  fE : ∀ o, w.frozen? ⟨e0, o, none⟩ = false
  me : m ≤ e
  tsk : RdO kTask S w (.slice A c.ts.length a) c.ts
  dns : RdO kBool S w (.slice B c.dn.length b) c.dn
  dl : c.D.length = m
  hd : ∀ j, j < m → w.cell? ⟨e0, j, none⟩ = some (hs j).v
  hn : ∀ j, j < m → (hs j).n = (c.D.getD j []).length
  hr : ∀ j, j < m → RdO kInt S w (hs j).v (zs (c.D.getD j []))
  hc : ∀ j, j < m → (hs j).n = 0 → (hs j).c = 0
theorem GoAt.ext {S : Nat → Prop} {w W : World} {V e0 g m : Nat} {c : Cw} {ev : Ev} {A B : Option Addr} {a b e : Nat} {hs : Nat → Hd} (h : GoAt S w V e0 g m c ev A B a b e hs) (hE : Ext w W) : GoAt S W V e0 g m c ev A B a b e hs where
  sV := h.sV
  sE := h.sE
  sl := fun x hx => Nat.lt_of_lt_of_le (h.sl x hx) hE.size
  ne := h.ne
  v0 := hE.cell h.v0
  v1 := hE.cell h.v1
  v2 := hE.cell h.v2
  v3 := hE.cell h.v3
  v4 := hE.cell h.v4
  v5 := hE.cell h.v5
  v6 := hE.cell h.v6
  v7 := hE.cell h.v7
  v8 := hE.cell h.v8
  v9 := hE.cell h.v9
  v10 := hE.cell h.v10
  fV := fun o => (Below.frozen hE (p := ⟨V, o, none⟩) (h.sl V h.sV)).trans (h.fV o)
  fE := fun o => (Below.frozen hE (p := ⟨e0, o, none⟩) (h.sl e0 h.sE)).trans (h.fE o)
  me := h.me
  tsk := h.tsk.ext hE
  dns := h.dns.ext hE
  dl := h.dl
  hd := fun j hj => hE.cell (h.hd j hj)
  hn := h.hn
  hr := fun j hj => (h.hr j hj).ext hE
  hc := h.hc
/-- but for the two blocks of one that goes steps -/
abbrev GrewG (V e0 : Nat) (w W : World) : Prop := Grew (fun x => x = V ∨ x = e0) w W
theorem GoAt.grewS {S : Nat → Prop} {w : World} {V e0 g m : Nat} {c : Cw} {ev : Ev} {A B : Option Addr} {a b e : Nat} {hs : Nat → Hd} (h : GoAt S w V e0 g m c ev A B a b e hs) {u W : World} (hG : GrewG V e0 u W) : Grew S u W :=
  hG.mono fun x _ hx => by rcases hx with rfl | rfl; exact h.sV; exact h.sE
/-- what one that goes steps has, as a crew -/
theorem GoAt.crew {S T : Nat → Prop} {w : World} {V e0 g m : Nat} {c : Cw} {ev : Ev} {A B : Option Addr} {a b e : Nat} {hs : Nat → Hd} (h : GoAt S w V e0 g m c ev A B a b e hs) (hT : ∀ x, T x → S x) (hE : ¬ T e0) : CrewO T w m c A B e0 0 a b :=
  ⟨h.tsk.mono fun x _ => hT x, h.dns.mono fun x _ => hT x, ⟨hs, h.dl, fun j hj => ⟨by rw [Nat.zero_add]; exact h.hd j hj, h.hn j hj, (h.hr j hj).mono fun x _ => hT x⟩⟩, hE⟩
/-- the box as it is read: a crew -/
theorem GoAt.at_ {S : Nat → Prop} {w : World} {V e0 g m : Nat} {c : Cw} {ev : Ev} {A B : Option Addr} {a b e : Nat} {hs : Nat → Hd} (h : GoAt S w V e0 g m c ev A B a b e hs) : CrewAt w m c A B e0 0 a b := h.crew (fun _ hf => hf.elim) (fun hf => hf)

/-- how many tasks there are, in work that is parted -/
theorem Plain.CwI.few {g n m : Nat} {c : Cw} {done : Nat} {G : List Nat} (h : CwI g n m c done G) (hg : 1 ≤ g) (hn : 1 ≤ n) : c.ts.length ≤ 2 * n := by
  have := (CrI.inv h).few hg hn; omega
end Go.Proofs.Ytkpbanfpnilifaa

/- The program's small words of a crew: cut, manned, counted, great, open. -/
namespace Go.Proofs.Ytkpbanfpnilifaa
open Go.BigFrame
open Go.RowKit Go.Proofs.Ytkpbanfpnilifaa.Plain

set_option maxRecDepth 100000 in
theorem ccut_any (p : Int) (m : Nat) (w : World) (hp : in64 p) (m1 : 1 ≤ m) (m2 : m ≤ 8) :
    Calls Try.prog 59 #[.int .i64 p, .int .i64 m] w fun e w' => e = .returned (.int .i64 (cutN m p)) ∧ w = w' := by
  obtain ⟨h1, h2⟩ := tmod_cut m p m1
  have hm0 : (1 : Int) ≤ m := by omega
  have hm8 : (m : Int) ≤ 8 := by omega
  have h3 := Int.tmod_lt_of_pos p (by omega : (0 : Int) < m)
  have h4 := cutN_lt m p m1
  obtain ⟨hp1, hp2⟩ := hp
  obtain ⟨r, hr⟩ : ∃ r, p.tmod m = r := ⟨_, rfl⟩
  rw [hr] at h1 h2 h3
  have hr0 : -8 ≤ r := by
    rcases Int.lt_or_le r 0 with h | h
    · have := h2 h; omega
    · omega
  have HR := Lib.hid hr
  clear hr
  rcases Int.lt_or_le r 0 with h | h
  · have HQ : Hid (r + m = (cutN m p : Int)) := Lib.hid (h2 h)
    clear h1 h2
    go_enter Try.func59, Try.ntmps59
    go_wp2
    all_goals (try rw [HR.out] at *)
    all_goals first | (exfalso; omega) | skip
    all_goals go_ret
    all_goals exact ⟨ret_int (by first | exact HQ.out | (rw [← HQ.out]; exact IntWalk.i64_in _ (by omega)) | (rw [HR.out]; exact HQ.out) | (rw [IntWalk.wrap64_in _ (by omega)]; exact HQ.out) | (have := HQ.out; have := HR.out; omega)), rfl⟩
  · have HQ : Hid (r = (cutN m p : Int)) := Lib.hid (h1 h)
    clear h1 h2
    go_enter Try.func59, Try.ntmps59
    go_wp2
    all_goals (try rw [HR.out] at *)
    all_goals first | (exfalso; omega) | skip
    all_goals go_ret
    all_goals exact ⟨ret_int (by first | exact HQ.out | (rw [HR.out]; exact HQ.out) | (have := HQ.out; have := HR.out; omega)), rfl⟩
set_option maxRecDepth 100000 in
theorem manned_yes (m : Nat) (w : World) (m1 : 1 ≤ m) (m2 : m ≤ 8) :
    Calls Try.prog 45 #[.int .i64 m] w fun e w' => e = .returned (.bool true) ∧ w = w' := by
  have hm0 : (1 : Int) ≤ m := by omega
  have hm8 : (m : Int) ≤ 8 := by omega
  go_enter Try.func45, Try.ntmps45
  go_wp2
  go_ret
  exact ⟨rfl, rfl⟩
set_option maxRecDepth 100000 in
theorem counted_yes (m : Int) (w : World) (m1 : 0 ≤ m) (m2 : m ≤ 100000) :
    Calls Try.prog 64 #[.int .i64 m] w fun e w' => e = .returned (.bool true) ∧ w = w' := by
  go_enter Try.func64, Try.ntmps64
  go_wp2
  go_ret
  exact ⟨rfl, rfl⟩
set_option maxRecDepth 100000 in
theorem cgreat_any (A B : Option Addr) (m n a b : Nat) (lo hi up wt g : Int) (w : World) (hd : in64 (hi - lo)) (_hg : in64 g) :
    Calls Try.prog 68 #[.agg #[.slice A m a, .int .i64 g, .slice B n b], .agg #[.int .i64 lo, .int .i64 hi, .int .i64 up, .int .i64 wt]] w fun e w' => e = .returned (.bool (decide (g < hi - lo))) ∧ Ext w w' := by
  obtain ⟨h1, h2⟩ := hd
  go_enter Try.func68, Try.ntmps68
  go_wp2
  go_ret
  exact ⟨ret_bool (by first | rfl | simp), ((Ext.refl w).alloc _).alloc _⟩
set_option maxHeartbeats 800000 in
set_option maxRecDepth 100000 in
theorem copen_yes (A B : Option Addr) (m a b : Nat) (lo hi up : Int) (g : Nat) (dn : List Bool) (w : World) (h : Rd kBool w (.slice B dn.length b) dn) (hlo : 0 ≤ lo) (hlh : lo < hi) (hhn : hi ≤ dn.length) (hg1 : 1 ≤ g) (hg : g ≤ 100) (hdn : dn.length ≤ 1000) (hd : dn.getD lo.toNat false = false) :
    Calls Try.prog 73 #[.agg #[.slice A m a, .int .i64 g, .slice B dn.length b], .agg #[.int .i64 lo, .int .i64 hi, .int .i64 up, .int .i64 0]] w fun e w' => e = .returned (.bool true) ∧ Ext w w' := by
  have H := Lib.hid h
  have hl1 : 0 < dn.length := by omega
  obtain ⟨bd, od, rfl, hcd⟩ := Rd.bools H.out hl1
  obtain ⟨l, rfl⟩ : ∃ l : Nat, lo = l := ⟨lo.toNat, by omega⟩
  rw [Int.toNat_natCast] at hd
  have z := hcd l (by omega)
  rw [hd] at z
  have HG : Hid (in64 (g : Int)) := Lib.hid (by unfold in64; omega)
  have HD : Hid (in64 (hi - l)) := Lib.hid (by unfold in64; omega)
  have hl2 : (l : Int) < dn.length := by omega
  have lbd : bd < w.heap.size := World.block_lt_of_cell? _ _ z
  clear h hcd hd
  go_enter Try.func73, Try.ntmps73
  cases hgr : decide ((g : Int) < hi - l) with
  | true =>
    go_wp2_with ((go_at_call 68; refine (cgreat_any _ _ _ _ _ _ _ _ _ _ _ _ HD.out HG.out).mono ?_; rw [hgr]; rintro e w1 ⟨rfl, hE⟩))
    go_ret
    exact ⟨rfl, (((Ext.refl w).alloc _).alloc _).trans hE⟩
  | false =>
    go_wp2_with ((go_at_call 68; refine (cgreat_any _ _ _ _ _ _ _ _ _ _ _ _ HD.out HG.out).mono ?_; rw [hgr]; rintro e w1 ⟨rfl, hE⟩; have z1 := hE.cell (a := ⟨bd, od + l, none⟩) (v := .bool false) (by go_simp); have x2 := hE.cell (a := ⟨w.heap.size, 2, none⟩) (v := .slice (some ⟨bd, od, none⟩) dn.length b) (by go_simp); have x3 := hE.cell (a := ⟨w.heap.size + 1, 0, none⟩) (v := .int .i64 l) (by go_simp)))
    go_ret
    exact ⟨rfl, (((Ext.refl w).alloc _).alloc _).trans hE⟩
end Go.Proofs.Ytkpbanfpnilifaa

/- Plain words of a deque: no program in it. -/
namespace Go.Proofs.Ytkpbanfpnilifaa.Plain

def popE (l : List Int) : Int := if l.length = 0 then 4 else 0
def popL (l : List Int) : List Int := l.take (l.length - 1)
theorem getD_drop (l : List Int) (k j : Nat) : (l.drop k).getD j 0 = l.getD (k + j) 0 := by
  simp [List.getD_eq_getElem?_getD, List.getElem?_drop]
theorem getD_take (l : List Int) (k j : Nat) (h : j < k) : (l.take k).getD j 0 = l.getD j 0 := by
  simp [List.getD_eq_getElem?_getD, List.getElem?_take_of_lt h]
theorem popL_len (l : List Int) : (popL l).length = l.length - 1 := by unfold popL; rw [List.length_take]; omega
end Go.Proofs.Ytkpbanfpnilifaa.Plain

/- The library's Grow and Concat at lists of integers; room of a deque. -/
namespace Go.Proofs.Ytkpbanfpnilifaa
open Go.RowKit Go.Proofs.Ytkpbanfpnilifaa.Plain

/-- a part of a list, from its beginning -/
theorem Ints.take {w : World} {A : Option Addr} {n c : Nat} {xs : List Int} (h : Ints w (.slice A n c) xs) (k c' : Nat) (hk : k ≤ xs.length) (hc : k ≤ c') : Ints w (.slice A k c') (xs.take k) := by
  obtain ⟨h1, h2, A', cap, hv, hcap, h3⟩ := h
  cases hv
  have hl : (xs.take k).length = k := by rw [List.length_take]; omega
  refine ⟨by rw [hl]; omega, fun n hn => h2 n (List.mem_of_mem_take hn), A, c', by rw [hl], by omega, fun hp => ?_⟩
  rw [hl] at hp
  obtain ⟨b, off, rfl, hcc⟩ := h3 (by omega)
  refine ⟨b, off, rfl, fun j hj => ?_⟩
  rw [hl] at hj
  rw [hcc j (by omega), getD_take _ _ _ hj]
/-- a part of a list, from a place on to its end -/
theorem Ints.drop {w : World} {b off n c : Nat} {xs : List Int} (h : Ints w (.slice (some ⟨b, off, none⟩) n c) xs) (k m c' : Nat) (hm : m = xs.length - k) (hc : m ≤ c') : Ints w (.slice (some ⟨b, off + k, none⟩) m c') (xs.drop k) := by
  obtain ⟨h1, h2, A', cap, hv, hcap, h3⟩ := h
  cases hv
  have hl : (xs.drop k).length = m := by rw [List.length_drop]; omega
  refine ⟨by rw [hl]; omega, fun n hn => h2 n (List.mem_of_mem_drop hn), _, c', by rw [hl], by omega, fun hp => ?_⟩
  obtain ⟨b', off', he, hcc⟩ := h3 (by omega)
  cases he
  refine ⟨b, off + k, rfl, fun j hj => ?_⟩
  rw [hl] at hj
  rw [Nat.add_assoc, hcc (k + j) (by omega), getD_drop]

theorem add_at (b off j : Nat) : (⟨b, off, none⟩ : Addr).add j = ⟨b, off + j, none⟩ := by
  by_cases h0 : j = 0
  · subst h0; rfl
  · simp [Addr.add, h0]
/-- .. as the walk writes it, where the address is open -/
theorem Ints.dropAdd {w : World} {ad : Addr} {n c : Nat} {xs : List Int} (h : Ints w (.slice (some ad) n c) xs) (k m c' : Nat) (hm : m = xs.length - k) (hc : m ≤ c') : Ints w (.slice (some (ad.add k)) m c') (xs.drop k) := by
  by_cases h0 : xs.drop k = []
  · have : m = 0 := by have := congrArg List.length h0; rw [List.length_drop] at this; simp at this; omega
    subst this
    rw [h0]
    exact Ints.nil _ _ _
  · have hl : 0 < xs.length := by
      cases xs with
      | nil => simp at h0
      | cons a l => simp
    obtain ⟨b, off, he, _⟩ := h.cells hl
    cases he
    rw [add_at]
    exact h.drop k m c' hm hc
theorem run_zeros (w : World) (n : Nat) (h0 : 0 < n) (hn : n ≤ 1048576) :
    (Builtin.append_ #[30, 3] 30 #[.slice none 0 0, .int .i64 n]).run Try.prog w =
      .ok (.slice (some ⟨w.heap.size, 0, none⟩) n (grownCap w n 0 3)) (w.drew.alloc (.cells (Builtin.zeroCells #[.int .i64 0] n ++ Builtin.zeroCells #[.int .i64 0] (grownCap w n 0 3 - n)) 3)) := by
  obtain ⟨i0, hi, hz0, hz1, hz2⟩ := info_parts intInfo
  exact Lib.run_append_nil_zeros w 30 3 30 3 i0 (.int .i64 0) .i64 .i64 Try.underlying30 Try.underlying3 hi hz0 n h0 (by omega) (by omega) (by rw [hz2]; omega)

theorem wpList_zeros {ops : Array Oper} {rest : List Oper} {o : Oper} {a : Act} {w : World} {Q : Exit → Act → World → Prop} (hgd : o.guard = none) (s x : Operand)
    (ho : o.op = .call { callee := .builtin .append, args := #[s, x], argTypes := #[30, 3] }) (hty : o.type = 30) (n : Nat) (hs : a.eval s = .slice none 0 0) (hx : a.eval x = .int .i64 n) (h0 : 0 < n) (hn : n ≤ 1048576)
    (h : ∀ (cap : Nat) (cur : Array Value), (n : Int) ≤ cap → cap ≤ maxLen → cur.size = cap → wpList Try.prog ops Q rest (a.put o.dst (.slice (some ⟨w.heap.size, 0, none⟩) n cap)) (w.drew.alloc (.cells cur 3))) : wpList Try.prog ops Q (o :: rest) a w :=
  wpList_plain hgd fun K hK => by
    unfold Oper.wp execOp
    simp only [ho, hty, resolve, invoke, builtin, Sem.run_bind, Sem.run_pure, Result.andThen_ok, List.map_toArray, List.map_cons, List.map_nil, hs, hx, run_zeros w n h0 hn]
    have hge := grownCap_ge w n 0 3
    refine hK _ _ (h _ _ (by omega) (grownCap_le_maxLen w n 0 3 (by unfold maxLen; omega)) ?_)
    simp only [Array.size_append, size_zeroCells]
    simp
    omega

/-- room is made: an empty list of the call's own -/
theorem grow_nil (n : Nat) (w : World) (hn : n ≤ 1048576) :
    Calls Try.prog 76 #[.slice none 0 0, .int .i64 n] w fun e w' => ∃ v, e = .returned v ∧ Own w.heap.size w' v [] ∧ Ext w w' := by
  by_cases h0 : 0 < n
  · have h0' : (0 : Int) < n := by omega
    go_enter Try.func76, Try.ntmps76
    go_wp2_with (at_builtin; refine wpList_zeros rfl _ _ rfl rfl n rfl rfl h0 hn ?_; intro cap cur hc1 hc2 hc3)
    go_ret
    exact ⟨_, rfl, Own.made w.drew _ _ (Nat.le_refl _) hc2 hc3, (Ext.refl w).drew.alloc _⟩
  · obtain rfl : n = 0 := by omega
    go_enter Try.func76, Try.ntmps76
    go_wp2
    go_ret
    exact ⟨_, rfl, Own.nil _ _, Ext.refl _⟩

end Go.Proofs.Ytkpbanfpnilifaa

/- The library at a crew's deques: Concat of all of them, Clone of one (an empty one has no room); how many tasks all deques hold. -/
namespace Go.Proofs.Ytkpbanfpnilifaa
open Go.BigFrame
open Go.RowKit Go.Proofs.Ytkpbanfpnilifaa.Plain

/-- of the first deques -/
def upTo (D : List (List Nat)) (k : Nat) : List Nat := (D.take k).flatten
theorem upTo_succ (D : List (List Nat)) (k : Nat) (hk : k < D.length) : upTo D (k + 1) = upTo D k ++ D.getD k [] := by
  unfold upTo
  rw [List.take_succ_eq_append_getElem hk, List.flatten_append, getDp hk]; simp
theorem upTo_all (D : List (List Nat)) : upTo D D.length = held D := by unfold upTo held; rw [List.take_length]
theorem upTo_le (D : List (List Nat)) (k : Nat) : (upTo D k).length ≤ (held D).length := by
  have h : held D = upTo D k ++ (D.drop k).flatten := by unfold held upTo; rw [← List.flatten_append, List.take_append_drop]
  rw [h, List.length_append]; omega

set_option maxHeartbeats 800000 in
set_option maxRecDepth 100000 in
theorem concat_all (b off m e : Nat) (hs : Nat → Hd) (D : List (List Nat)) (w : World) (h : Hds (fun _ => False) w b off m hs D) (hm : m ≤ 8) (hl : (held D).length ≤ 1000000) :
    Calls Try.prog 72 #[.slice (some ⟨b, off, none⟩) m e] w fun ed w' => ∃ A c, ed = .returned (.slice A (held D).length c) ∧ Own w.heap.size w' (.slice A (held D).length c) (zs (held D)) ∧ Ext w w' := by
  have H := Lib.hid h
  have HDL : Hid (D.length = m) := Lib.hid h.1
  have hm' : (m : Int) ≤ 8 := by omega
  obtain ⟨N, hN⟩ : ∃ N, (held D).length = N := ⟨_, rfl⟩
  rw [hN] at hl ⊢
  have HN := Lib.hid hN
  clear h hN
  go_enter Try.func72, Try.ntmps72
  go_wp2_with fail
  go_loop [3, 11] (fun s i => ∃ k : Nat, k ≤ m ∧ i = .int .i64 k ∧ s = .int .i64 ((upTo D k).length : Nat)) (fun _ i => m - (intOf i).toNat)
  case atStart => exact ⟨0, Nat.zero_le _, rfl, rfl⟩
  case round =>
    obtain ⟨k, hk, rfl, rfl⟩ := hrel
    have hk0 : (0 : Int) ≤ k := by omega
    by_cases hlt : k < m
    · have hlt' : (k : Int) < m := by omega
      obtain ⟨z, zn, _⟩ := H.out.2 k hlt
      obtain ⟨u1, hu1⟩ : ∃ x, (upTo D k).length = x := ⟨_, rfl⟩
      obtain ⟨u2, hu2⟩ : ∃ x, (hs k).n = x := ⟨_, rfl⟩
      have hsucc : (upTo D (k + 1)).length = u1 + u2 := by rw [upTo_succ D k (by rw [HDL.out]; exact hlt), List.length_append, hu1, ← hu2, zn]
      have hb := upTo_le D (k + 1)
      rw [hsucc, HN.out] at hb
      have hb1 : (u1 : Int) ≤ 1000000 := by omega
      have hb2 : (u2 : Int) ≤ 1000000 := by omega
      have HS := Lib.hid hsucc
      unfold Hd.v at z
      rw [hu2] at z
      rw [hu1]
      clear hsucc hb zn hu1 hu2
      go_wp2_with fail
      go_round
      case rel => exact ⟨k + 1, by omega, by go_num, by rw [HS.out]; go_num⟩
      case measure => simp [intOf]; omega
    · obtain rfl : k = m := by omega
      have hu : (upTo D k).length = N := by rw [← HDL.out, upTo_all D, HN.out]
      rw [hu]
      clear hu
      go_wp2_with fail
      refine (grow_nil _ _ (by omega)).mono ?_
      rintro ed w1 ⟨z, rfl, hown, hE⟩
      have HO := Lib.hid hown
      have HE := Lib.hid hE
      clear hown hE
      go_wp2
      go_loopw [6, 27] (fun v i wr => ∃ j : Nat, j ≤ k ∧ i = .int .i64 j ∧ Own w.heap.size wr v (zs (upTo D j)) ∧ Ext w wr) (fun _ i _ => k - (intOf i).toNat)
      case atStart => exact ⟨0, Nat.zero_le _, rfl, by first | exact HO.out | (unfold upTo; simpa [zs] using HO.out), HE.out⟩
      case round =>
        obtain ⟨j, hj, rfl, hown, hX⟩ := hrel
        have hj0 : (0 : Int) ≤ j := by omega
        by_cases hlt2 : j < k
        · have hlt3 : (j : Int) < k := by omega
          obtain ⟨z, zn, zr⟩ := H.out.2 j hlt2
          have z' := hX.cell z
          have hz := hX.size
          have HZ : Hid (Ints wr (hs j).v (zs (D.getD j []))) := Lib.hid (ints_of_rd (zr.rd.ext hX))
          have hsucc : zs (upTo D (j + 1)) = zs (upTo D j) ++ zs (D.getD j []) := by rw [upTo_succ D j (by rw [HDL.out]; exact hlt2), zs_app]
          have hb := upTo_le D (j + 1)
          have HB : Hid ((zs (upTo D j)).length + (zs (D.getD j [])).length ≤ 1048576) := Lib.hid (by rw [← List.length_append, ← hsucc, zs_len]; have := HN.out; omega)
          have HS := Lib.hid hsucc
          clear hsucc hb zn zr z
          go_wp2_with (at_builtin; refine wpList_app rfl _ _ rfl rfl w.heap.size _ (zs (upTo D j)) rfl hown _ (zs (D.getD j [])) rfl HZ.out HB.out hz ?_; intro v' w2 hown2 hgrow2 hat2)
          go_roundw
          case rel => exact ⟨j + 1, by omega, by go_num, by rw [HS.out]; exact hown2, hX.grown hgrow2 (fun k hk => (hown.lt k hk).1)⟩
          case measure => simp [intOf]; omega
        · obtain rfl : j = k := by omega
          have hu : upTo D j = held D := by rw [← HDL.out]; exact upTo_all D
          rw [hu] at hown
          clear hu
          go_wp2
          go_ret
          obtain ⟨A, c, rfl, _⟩ := hown.shape
          rw [zs_len, HN.out] at hown ⊢
          exact ⟨A, c, rfl, hown, hX⟩

theorem run_app0 (w : World) (g : Nat) (ad : Addr) (c : Nat) : (Builtin.append_ #[30, 30] 30 #[.slice (some ⟨g, 0, none⟩) 0 0, .slice (some ad) 0 c]).run Try.prog w = .ok (.slice (some ⟨g, 0, none⟩) 0 0) w := by
  obtain ⟨i0, hi, hz0, hz1, hz2⟩ := info_parts intInfo
  simp [Builtin.append_, run_underlying Try.underlying30, sizeOf, typeInfo, hi, Builtin.lenOf, Builtin.firstCells, storeCells, loadCells, loadCellsFrom]
theorem wpList_app0 {ops : Array Oper} {rest : List Oper} {o : Oper} {a : Act} {w : World} {Q : Exit → Act → World → Prop} (hgd : o.guard = none) (s x : Operand)
    (ho : o.op = .call { callee := .builtin .append, args := #[s, x], argTypes := #[30, 30] }) (hty : o.type = 30) (g : Nat) (ad : Addr) (c : Nat) (hs : a.eval s = .slice (some ⟨g, 0, none⟩) 0 0) (hx : a.eval x = .slice (some ad) 0 c)
    (h : wpList Try.prog ops Q rest (a.put o.dst (.slice (some ⟨g, 0, none⟩) 0 0)) w) : wpList Try.prog ops Q (o :: rest) a w :=
  wpList_plain hgd fun K hK => by
    unfold Oper.wp execOp
    simp only [ho, hty, resolve, invoke, builtin, Sem.run_bind, Sem.run_pure, Result.andThen_ok, List.map_toArray, List.map_cons, List.map_nil, hs, hx, run_app0]
    exact hK _ _ h
/-- an empty list is cloned: no room -/
theorem clone_empty (A : Option Addr) (c : Nat) (w : World) :
    Calls Try.prog 57 #[.slice A 0 c] w fun e w' => ∃ A, e = .returned (.slice A 0 0) ∧ Ext w w' := by
  have hnil := fun (w : World) (a : Option Addr) (n c : Nat) => Lib.run_eql_slice_nil w 30 3 a n c 0 0 Try.underlying30
  cases A with
  | none =>
    go_enter Try.func57, Try.ntmps57
    go_wp2
    go_ret
    exact ⟨_, rfl, Ext.refl _⟩
  | some ad =>
    go_enter Try.func57, Try.ntmps57
    go_wp2_with (at_builtin; refine wpList_app0 rfl _ _ rfl rfl _ ad c rfl rfl ?_)
    go_ret
    exact ⟨_, rfl, (Ext.refl _).alloc _⟩
/-- a deque is cloned: an empty one has no room then -/
theorem clone_dq (h : Hd) (xs : List Nat) (w : World) (hr : Rd kInt w h.v (zs xs)) (hn : h.n = xs.length) (hl : xs.length ≤ 1000000) :
    Calls Try.prog 57 #[h.v] w fun e w' => ∃ k : Hd, e = .returned k.v ∧ k.n = xs.length ∧ (k.n = 0 → k.c = 0) ∧ (∀ S : Nat → Prop, (∀ x, S x → x < w.heap.size) → RdO kInt S w' k.v (zs xs)) ∧ Ext w w' := by
  by_cases h0 : xs.length = 0
  · obtain rfl : xs = [] := List.eq_nil_of_length_eq_zero h0
    obtain ⟨A, n, c⟩ := h
    obtain rfl : n = 0 := hn
    exact (clone_empty A c w).mono fun e w' ⟨A, he, hE⟩ => ⟨⟨A, 0, 0⟩, he, rfl, fun _ => rfl, fun S _ => RdO.nil S w' A 0, hE⟩
  · refine (clone_any h.v (zs xs) w (ints_of_rd hr) (by rw [zs_len]; omega)).mono ?_
    rintro e w' ⟨A, c, he, ho, hE⟩
    rw [zs_len] at he ho
    exact ⟨⟨A, xs.length, c⟩, he, rfl, fun hh => absurd hh h0, fun S hS => (rd_of_ints ho.ints).offFrom ho.from hS, hE⟩
set_option maxHeartbeats 800000 in
set_option maxRecDepth 100000 in
theorem cheld_any (A B : Option Addr) (eb eo a b e g m : Nat) (c : Cw) (hs : Nat → Hd) (w : World) (h : Hds (fun _ => False) w eb eo m hs c.D) (hm : m ≤ 8) (hl : (held c.D).length ≤ 1000000) :
    Calls Try.prog 54 #[crewV A B eb eo a b e g m c] w fun ed w' => ed = .returned (.int .i64 (held c.D).length) ∧ Ext w w' := by
  have H := Lib.hid h
  have HDL : Hid (c.D.length = m) := Lib.hid h.1
  have hm' : (m : Int) ≤ 8 := by omega
  obtain ⟨N, hN⟩ : ∃ N, (held c.D).length = N := ⟨_, rfl⟩
  rw [hN] at hl ⊢
  have HN := Lib.hid hN
  clear h hN
  go_enter Try.func54, Try.ntmps54
  go_wp2_with fail
  go_loopw [3, 9] (fun s i wr => ∃ k : Nat, k ≤ m ∧ i = .int .i64 k ∧ s = .int .i64 ((upTo c.D k).length : Nat) ∧ Ext w wr) (fun _ i _ => m - (intOf i).toNat)
  case atStart => exact ⟨0, Nat.zero_le _, rfl, rfl, (Ext.refl _).alloc _⟩
  case round =>
    obtain ⟨k, hk, rfl, rfl, hX⟩ := hrel
    have hk0 : (0 : Int) ≤ k := by omega
    by_cases hlt : k < m
    · have hlt' : (k : Int) < m := by omega
      obtain ⟨z0, zn, _⟩ := H.out.2 k hlt
      have z := hX.cell z0
      obtain ⟨u1, hu1⟩ : ∃ x, (upTo c.D k).length = x := ⟨_, rfl⟩
      obtain ⟨u2, hu2⟩ : ∃ x, (hs k).n = x := ⟨_, rfl⟩
      have hsucc : (upTo c.D (k + 1)).length = u1 + u2 := by rw [upTo_succ c.D k (by rw [HDL.out]; exact hlt), List.length_append, hu1, ← hu2, zn]
      have hb := upTo_le c.D (k + 1)
      rw [hsucc, HN.out] at hb
      have hb1 : (u1 : Int) ≤ 1000000 := by omega
      have hb2 : (u2 : Int) ≤ 1000000 := by omega
      have HS := Lib.hid hsucc
      unfold Hd.v at z
      rw [hu2] at z
      rw [hu1]
      clear hsucc hb zn hu1 hu2 z0
      go_wp2_with fail
      go_roundw
      case rel => exact ⟨k + 1, by omega, by go_num, by rw [HS.out]; go_num, hX⟩
      case measure => simp [intOf]; omega
    · obtain rfl : k = m := by omega
      have hu : (upTo c.D k).length = N := by rw [← HDL.out, upTo_all c.D, HN.out]
      rw [hu]
      clear hu
      go_wp2_with fail
      go_ret
      exact ⟨rfl, hX⟩
end Go.Proofs.Ytkpbanfpnilifaa

/- The document's small words of a crew (ref05): cut, Held. -/
namespace Go.Proofs.Ytkpbanfpnilifaa
open Go.BigFrame
open Go.RowKit Go.Proofs.Ytkpbanfpnilifaa.Plain

end Go.Proofs.Ytkpbanfpnilifaa

/- A region whose order is open and whose operations, but one that writes and a tail in one order, leave all that was there as it was: what each of them leaves is said once, whatever the order. -/
namespace Go.Proofs.Ytkpbanfpnilifaa.MonoW
open Go.RowKit Go.Proofs.Ytkpbanfpnilifaa Go.Proofs.Ytkpbanfpnilifaa.Mono

/-- what an operation may do to memory: only q may write -/
structure Out (q : Nat) (S : World → World → Prop) (i : Nat) (w w' : World) : Prop where
  all : S w w'
  ext : i ≠ q → Ext w w'
theorem Out.of {q i : Nat} {S : World → World → Prop} {w w' : World} (hSE : ∀ w w', Ext w w' → S w w') (h : Ext w w') : Out q S i w w' := ⟨hSE _ _ h, fun _ => h⟩
theorem Out.write {q : Nat} {S : World → World → Prop} {w w' : World} (h : S w w') : Out q S q w w' := ⟨h, fun e => absurd rfl e⟩
section
variable {P : Program} {l : List Oper} {m q : Nat} {S : World → World → Prop} {Q : Exit → Act → World → Prop} {a0 : Act} {w0 : World} {V : Nat → World → List Value → Value → Prop}

def Inv (P : Program) (l : List Oper) (m : Nat) (Q : Exit → Act → World → Prop) (a0 : Act) (w0 : World) (V : Nat → World → List Value → Value → Prop) (q : Nat) (S : World → World → Prop) (listed : Array Bool) (a : Act) (w : World) : Prop :=
  listed.size = l.length ∧
  ((∃ vals : Nat → Value, (S w0 w ∧ (listed.getD q false = false → Ext w0 w)) ∧ (∀ j, m ≤ j → listed.getD j false = false) ∧ (∀ i, listed.getD i false = true → ∀ j ∈ deps l i, listed.getD j false = true) ∧
      (∀ i, i < m → listed.getD i false = true → V i w ((deps l i).map vals) (vals i)) ∧ a = sel listed vals (l.take m) 0 a0) ∨
   (∃ k, m ≤ k ∧ k ≤ l.length ∧ (∀ j, j < l.length → (listed.getD j false = true ↔ j < k)) ∧ wpList P l.toArray Q (l.drop k) a w))

theorem step (hB : monoB l m = true) (hSE : ∀ w w', Ext w w' → S w w') (hST : ∀ a b c, S a b → S b c → S a c) (hst : ∀ i w w' d v, V i w d v → Ext w w' → V i w' d v) (hsw : ∀ i w w' d v, i ≠ q → V i w d v → S w w' → V i w' d v)
    (hop : ∀ i o, i < m → l[i]? = some o → ∀ (vals : Nat → Value) (w : World), S w0 w → (i = q → Ext w0 w) → (∀ j, (deps l i).contains j = true → V j w ((deps l j).map vals) (vals j)) →
      if Region.wanted o (yielded l.toArray (all vals (l.take m) 0 a0).tmps) = true
      then Mono.Yields P (fun v w' => Out q S i w w' ∧ V i w' ((deps l i).map vals) v) ((execOp (all vals (l.take m) 0 a0).eval o).run P w)
      else V i w ((deps l i).map vals) undef)
    (hend : ∀ (vals : Nat → Value) (w : World), S w0 w → (∀ j, j < m → V j w ((deps l j).map vals) (vals j)) → wpList P l.toArray Q (l.drop m) (all vals (l.take m) 0 a0) w)
    (listed : Array Bool) (a : Act) (w : World) (i : Nat) (hI : Inv P l m Q a0 w0 V q S listed a w) (hi : i ∈ Region.ready .any l.toArray listed) :
    wpOp P l.toArray Q i (Inv P l m Q a0 w0 V q S (listed.setIfInBounds i true)) a w := by
  obtain ⟨hsz, hI⟩ := hI
  obtain ⟨hun, o, ho', hall⟩ := mem_ready.1 hi
  have ho : l[i]? = some o := by simpa using ho'
  have hil : i < l.length := by
    rcases Nat.lt_or_ge i l.length with h | h
    · exact h
    · rw [List.getElem?_eq_none h] at ho; cases ho
  have hsi : i < listed.size := by omega
  have hunf : listed.getD i false = false := by
    rw [← hun]; simp [hsi]
  obtain ⟨k1, k2, k3, k4, k5⟩ := ok_parts hB ho
  have hdl : ∀ j ∈ deps l i, listed.getD j false = true := fun j hj => by
    obtain ⟨e, he, hb, rfl⟩ := deps_mem ho hj
    exact hall e he hb
  have hml : m ≤ l.length := by
    unfold monoB at hB
    simp only [Bool.and_eq_true, decide_eq_true_eq] at hB
    exact hB.1
  have hdrop : ∀ k, l[k]? = some o → l.drop k = o :: l.drop (k + 1) := fun k hk => by
    have hkl : k < l.length := by
      rcases Nat.lt_or_ge k l.length with h | h
      · exact h
      · rw [List.getElem?_eq_none h] at hk; cases hk
    rw [List.drop_eq_getElem_cons hkl]
    rw [List.getElem?_eq_getElem hkl] at hk
    cases hk; rfl
  rcases hI with ⟨vals, hE, htail, hdc, hV, ha⟩ | ⟨k, hmk, hkl, hiff, hw⟩
  · rcases Nat.lt_or_ge i m with him | him
    · have hcl := clo_listed hdc l.length i hdl
      have hjm : ∀ j, listed.getD j false = true → j < m := fun j hj => by
        rcases Nat.lt_or_ge j m with h | h
        · exact h
        · rw [htail j h] at hj; cases hj
      have hob := hop i o him ho vals w hE.1 (fun e => hE.2 (by rw [← e]; exact hunf)) (fun j hj => hV j (hjm j (hdl j (by simpa using hj))) (hdl j (by simpa using hj)))
      have hsame := uns_same (ops := l.toArray) (listed := listed) (vals := vals) (x := o) k2 (l.take m) 0 a (fun j oj hj hlj d hd => by
        rw [List.getElem?_take] at hj
        split at hj
        · rename_i hjm'
          exact k3 him j oj hjm' hj (fun hmem => by have := hdl j hmem; rw [Nat.zero_add] at hlj; rw [hlj] at this; cases this) d hd
        · cases hj)
      rw [ha, ← all_eq (l.take m) 0 a0 (Mono.distinct hB)] at hsame
      rw [hsame.2, hsame.1, ← ha] at hob
      have hnew : ∀ v w', Out q S i w w' → V i w' ((deps l i).map vals) v → Inv P l m Q a0 w0 V q S (listed.setIfInBounds i true) (a.put o.dst v) w' := by
        intro v w' hE' hVi
        refine ⟨by simpa using hsz, .inl ⟨upd vals i v, ⟨hST _ _ _ hE.1 hE'.1, fun hq => ?_⟩, fun j hj => ?_, fun i' hi' j hj => ?_, fun i' him' hi' => ?_, ?_⟩⟩
        · rw [set_getD hsi] at hq
          by_cases e : q = i
          · rw [if_pos e] at hq; cases hq
          · rw [if_neg e] at hq; exact (hE.2 hq).trans (hE'.2 (fun e' => e e'.symm))
        · rw [set_getD hsi, if_neg (by omega)]; exact htail j hj
        · rw [set_getD hsi] at hi' ⊢
          by_cases e : i' = i
          · subst e
            split
            · rfl
            · exact hdl j hj
          · rw [if_neg e] at hi'
            split
            · rfl
            · exact hdc i' hi' j hj
        · rw [set_getD hsi] at hi'
          by_cases e : i' = i
          · subst e
            have : (deps l i').map (upd vals i' v) = (deps l i').map vals := List.map_congr_left fun j hj => by
              have := k1 j hj
              simp [upd]; omega
            rw [this]
            simpa [upd] using hVi
          · rw [if_neg e] at hi'
            have : (deps l i').map (upd vals i v) = (deps l i').map vals := List.map_congr_left fun j hj => by
              have hjl := hdc i' hi' j hj
              have : j ≠ i := fun h => by subst h; rw [hunf] at hjl; cases hjl
              simp [upd, this]
            rw [this]
            have h2 : upd vals i v i' = vals i' := by simp [upd, e]
            rw [h2]
            by_cases e' : i = q
            · exact hsw _ _ _ _ _ (fun h => e (h.trans e'.symm)) (hV i' him' hi') hE'.1
            · exact hst _ _ _ _ _ (hV i' him' hi') (hE'.2 e')
        · rw [ha]
          exact (sel_set hsi hunf (l.take m) 0 a0 (Nat.zero_le _) (by rw [Nat.sub_zero, List.getElem?_take, if_pos him]; exact ho) (Mono.distinct hB)).symm
      unfold wpOp
      simp only [ho']
      by_cases hwant : Region.wanted o (yielded l.toArray a.tmps) = true
      · rw [if_pos hwant] at hob ⊢
        exact .inl (wp_of_yields hob (fun v w' h => hnew v w' h.1 h.2))
      · rw [if_neg hwant] at hob ⊢
        exact hnew undef w (Out.of hSE (Ext.refl _)) hob
    · have hmi : i = m := by
        rcases Nat.lt_or_ge m i with h | h
        · have := near_listed hdc hdl (k5 him m h)
          rw [htail m (Nat.le_refl _)] at this; cases this
        · omega
      subst hmi
      have hpre : ∀ j, j < i → listed.getD j false = true := fun j hj => near_listed hdc hdl (k5 him j hj)
      have hall' : a = all vals (l.take i) 0 a0 := by
        rw [ha]
        exact sel_all _ _ _ (fun j _ hj => hpre j (by simp at hj; omega))
      have hw := hend vals w hE.1 (fun j hj => hV j hj (hpre j hj))
      rw [← hall', hdrop i ho] at hw
      refine wpOp_mono (fun a' w' h => ?_) (wpOp_list ho hw)
      refine ⟨by simpa using hsz, .inr ⟨i + 1, by omega, by omega, fun j hj => ?_, h⟩⟩
      rw [set_getD hsi]
      by_cases e : j = i
      · subst e; simp
      · rw [if_neg e]
        constructor
        · intro h
          rcases Nat.lt_or_ge j i with h' | h'
          · omega
          · rw [htail j h'] at h; cases h
        · intro h; exact hpre j (by omega)
  · have hki : k = i := by
      rcases Nat.lt_or_ge i k with h | h
      · have := (hiff i hil).2 h
        rw [hunf] at this; cases this
      · rcases Nat.lt_or_ge k i with h' | h'
        · exact (near_tail hB (by omega) (by omega) hiff hdl (k5 (by omega) k h')).elim
        · omega
    subst hki
    rw [hdrop k ho] at hw
    refine wpOp_mono (fun a' w' h => ?_) (wpOp_list ho hw)
    refine ⟨by simpa using hsz, .inr ⟨k + 1, by omega, by omega, fun j hj => ?_, h⟩⟩
    rw [set_getD hsi]
    by_cases e : j = k
    · subst e; simp
    · rw [if_neg e, hiff j hj]; omega

/-- a region whose order is open: what each operation leaves is said once; one of them (q) may write, as S allows -/
theorem wp_region_write {id : Nat} (m q : Nat) (S : World → World → Prop) (V : Nat → World → List Value → Value → Prop) (hm : P.follows .mixedOrders = true) (hB : monoB l m = true)
    (hSE : ∀ w w', Ext w w' → S w w') (hST : ∀ a b c, S a b → S b c → S a c) (hst : ∀ i w w' d v, V i w d v → Ext w w' → V i w' d v) (hsw : ∀ i w w' d v, i ≠ q → V i w d v → S w w' → V i w' d v)
    (hop : ∀ i o, i < m → l[i]? = some o → ∀ (vals : Nat → Value) (w : World), S w0 w → (i = q → Ext w0 w) → (∀ j, (deps l i).contains j = true → V j w ((deps l j).map vals) (vals j)) →
      if Region.wanted o (yielded l.toArray (all vals (l.take m) 0 a0).tmps) = true
      then Mono.Yields P (fun v w' => Out q S i w w' ∧ V i w' ((deps l i).map vals) v) ((execOp (all vals (l.take m) 0 a0).eval o).run P w)
      else V i w ((deps l i).map vals) undef)
    (hend : ∀ (vals : Nat → Value) (w : World), S w0 w → (∀ j, j < m → V j w ((deps l j).map vals) (vals j)) → wpList P l.toArray Q (l.drop m) (all vals (l.take m) 0 a0) w) :
    (Code.region id l.toArray true).wp P Q a0 w0 := by
  have hml : m ≤ l.length := by
    unfold monoB at hB
    simp only [Bool.and_eq_true, decide_eq_true_eq] at hB
    exact hB.1
  refine wp_region_any hm (any_of_inv (Inv P l m Q a0 w0 V q S) (fun _ _ _ h => h.1) (step hB hSE hST hst hsw hop hend) (fun listed a w hI hr => ?_) _ _ _ _ ?_ ?_)
  · obtain ⟨hsz, hI⟩ := hI
    have hal := all_listed hB hsz hr
    rcases hI with ⟨vals, hE, htail, hdc, hV, ha⟩ | ⟨k, hmk, hkl, hiff, hw⟩
    · have hm' : m = l.length := by
        rcases Nat.lt_or_ge m l.length with h | h
        · have := hal m h
          rw [htail m (Nat.le_refl _)] at this; cases this
        · omega
      have hw := hend vals w hE.1 (fun j hj => hV j hj (hal j (by omega)))
      rw [ha, sel_all _ _ _ (fun j _ hj => hal j (by simp at hj; omega))]
      rw [hm', List.drop_length] at hw
      rw [hm']
      exact hw
    · have hk : k = l.length := by
        rcases Nat.lt_or_ge k l.length with h | h
        · have := (hiff k h).1 (hal k h)
          omega
        · omega
      subst hk
      rw [List.drop_length] at hw
      exact hw
  · unfold count
    exact Nat.le_trans (List.length_filter_le (fun b => !b) (Array.replicate l.toArray.size false).toList) (by simp)
  · refine ⟨by simp, .inl ⟨fun _ => undef, ⟨hSE _ _ (Ext.refl w0).drew, fun _ => (Ext.refl w0).drew⟩, fun j _ => ?_, fun i hi => ?_, fun i _ hi => ?_, ?_⟩⟩
    · by_cases h : j < l.length <;> simp [h]
    · exfalso
      by_cases h : i < l.length <;> simp [h] at hi
    · exfalso
      by_cases h : i < l.length <;> simp [h] at hi
    · have : ∀ (r : List Oper) (k : Nat) (a : Act), sel (Array.replicate l.toArray.size false) (fun _ => undef) r k a = a := by
        intro r
        induction r with
        | nil => intro k a; rfl
        | cons o r ih =>
          intro k a
          simp only [sel]
          rw [if_neg (by by_cases h : k < l.length <;> simp [h])]
          exact ih _ _
      exact (this _ _ _).symm
end
end Go.Proofs.Ytkpbanfpnilifaa.MonoW

/- Lists of the call's own behind a store into one block: in a region in which one append may write in place. -/
namespace Go.Proofs.Ytkpbanfpnilifaa
open Go.RowKit
/-- a block that may be written: a list's own -/
abbrev Wr (row : Option Nat) (w W : World) : Prop := Grew (fun b => row = some b) w W
theorem Wr.of (row : Option Nat) : ∀ w W, Ext w W → Wr row w W := fun _ _ h => Grew.of h
theorem Wr.tr (row : Option Nat) : ∀ a b c, Wr row a b → Wr row b c → Wr row a c := fun _ _ _ h k => h.trans k
theorem Wr.grown {row : Option Nat} {w W : World} (h : w.grownBy W row) : Wr row w W := ⟨h.os, h.tape, h.output, h.size, fun b hb hne => h.block b hb (fun e => hne e.symm)⟩
/-- .. none of an elder world -/
theorem Wr.toExt {row : Option Nat} {w0 w W : World} (h : Wr row w W) (h0 : Ext w0 w) (hr : ∀ b, row = some b → w0.heap.size ≤ b) : Ext w0 W := Grew.toExt h h0 hr
theorem block_wr {S : Nat → Prop} {w w' : World} {x : Nat} {o : Obj} (h : w.heap[x]? = some o) (hG : Grew S w w') (hS : ¬ S x) : w'.heap[x]? = some o := by
  have hlt : x < w.heap.size := by
    rcases Nat.lt_or_ge x w.heap.size with h' | h'
    · exact h'
    · rw [Array.getElem?_eq_none h'] at h; cases h
  exact (hG.block x hlt hS).trans h
theorem set_block {w : World} {b i : Nat} {cs : Array Value} {T : TypeId} {fr : Nat × Nat} (hb : w.heap[b]? = some (.cells cs T fr)) (v : Value) : (w.setCell ⟨b, i, none⟩ v).heap[b]? = some (.cells (cs.setIfInBounds i v) T fr) := by
  unfold World.setCell
  simp [Array.getElem?_modify, hb]
section
variable {α : Type} {K : Kd α}
theorem Ow.wr {S : Nat → Prop} {B : Nat} {w W : World} {v : Value} {xs : List α} (h : Ow K B w v xs) (hG : Grew S w W) (hS : ∀ k, v.ownBlock = some k → ¬ S k) : Ow K B W v xs := by
  obtain ⟨⟨h1, h2⟩, hb⟩ := h
  refine ⟨⟨h1, ?_⟩, hb⟩
  rcases h2 with h2 | ⟨g, cap, cur, hv, hg, hh, hr⟩
  · exact .inl h2
  · exact .inr ⟨g, cap, cur, hv, hg, block_wr hh hG (hS g (by rw [hv]; rfl)), hr⟩
/-- newer lists stay -/
theorem Ow.sw {row : Option Nat} {B : Nat} {w W : World} {v : Value} {xs : List α} (h : Ow K B w v xs) (hG : Wr row w W) (hr : ∀ b, row = some b → b < B) : Ow K B W v xs :=
  h.wr hG fun k hk e => by have := (h.lt k hk).1; have := hr k e; omega
theorem OwAt.sw {row : Option Nat} {B : Nat} {w W : World} {v : Value} {xs : List α} (h : OwAt K B w v xs) (hG : Wr row w W) (hr : ∀ b, row = some b → b < B) : OwAt K B W v xs := by
  obtain ⟨A, c, rfl, h⟩ := h
  exact ⟨A, c, rfl, h.sw hG hr⟩
theorem NewAt.sw {row : Option Nat} {B : Nat} {w W : World} {v : Value} (h : NewAt K B w v) (hG : Wr row w W) (hr : ∀ b, row = some b → b < B) : NewAt K B W v := by
  obtain ⟨x, rfl, hB, hx⟩ := h
  exact ⟨x, rfl, hB, block_wr hx hG (fun e => by have := hr x e; omega)⟩
/-- one element, as a list of its own: 'append(l, x)' lays it so -/
def OneAt (K : Kd α) (B : Nat) (w : World) (v : Value) (x : α) : Prop := ∃ p, v = .slice (some ⟨p, 0, none⟩) 1 1 ∧ Ow K B w (.slice (some ⟨p, 0, none⟩) 1 1) [x]
theorem OneAt.ext {B : Nat} {w W : World} {v : Value} {x : α} (h : OneAt K B w v x) (hE : Ext w W) : OneAt K B W v x := by
  obtain ⟨p, rfl, h⟩ := h
  exact ⟨p, rfl, h.ext hE⟩
theorem OneAt.sw {row : Option Nat} {B : Nat} {w W : World} {v : Value} {x : α} (h : OneAt K B w v x) (hG : Wr row w W) (hr : ∀ b, row = some b → b < B) : OneAt K B W v x := by
  obtain ⟨p, rfl, h⟩ := h
  exact ⟨p, rfl, h.sw hG hr⟩
theorem OneAt.made (K : Kd α) (w : World) {B : Nat} (hB : B ≤ w.heap.size) (cs : Array Value) (x : α) (hcs : cs.toList = K.cells x) (hok : K.ok x) : OneAt K B (w.alloc (.cells cs K.e)) (.slice (some ⟨w.heap.size, 0, none⟩) 1 1) x :=
  ⟨_, rfl, Ow.lit w [x] cs (by rw [hcs, Kd.flat_one]) rfl rfl hB (by unfold maxLen; omega) (by simpa using hok)⟩
/-- what an append leaves: the list with what was added; it is in the block where it was, or in a new one -/
def AppAt (K : Kd α) (B : Nat) (w : World) (v' : Value) (xs : List α) (v : Value) (n : Nat) : Prop := Ow K B w v' xs ∧ (v'.ownBlock = v.ownBlock ∨ ∃ p, v'.ownBlock = some p ∧ n ≤ p)
theorem AppAt.ext {B : Nat} {w W : World} {v' v : Value} {xs : List α} {n : Nat} (h : AppAt K B w v' xs v n) (hE : Ext w W) : AppAt K B W v' xs v n := ⟨h.1.ext hE, h.2⟩
/-- the append itself: 'v' lies where it lay in the elder world -/
theorem Kd.yields_grow (K : Kd α) {o : Oper} {a : Act} {w : World} {B n : Nat} {q : Nat} {R : Value → World → Prop} (s x : Operand) {v y : Value} {xs ys : List α} (hown : Ow K B w v xs) (hy : Rd K w y ys) (hl : xs.length + ys.length ≤ 1048576) (hB : B ≤ w.heap.size) (hn : n ≤ w.heap.size)
    (ho : o.op = .call { callee := .builtin .append, args := #[s, x], argTypes := #[K.t, K.t] }) (hty : o.type = K.t) (hs : a.eval s = v) (hx : a.eval x = y)
    (hR : ∀ v' w', AppAt K B w' v' (xs ++ ys) v n → MonoW.Out q (Wr v.ownBlock) q w w' → R v' w') : Mono.Yields Try.prog R ((execOp a.eval o).run Try.prog w) := by
  obtain ⟨v', w', hr, h1, h2, h3⟩ := K.run_app w B v xs hown y ys hy hl hB
  exact K.yields_app s x ho hty hs hx hr (hR v' w' ⟨h1, h3.imp_right fun h => ⟨_, h, hn⟩⟩ (MonoW.Out.write (Wr.grown h2)))
end
end Go.Proofs.Ytkpbanfpnilifaa

/- The document's copy of a crew (ref05): memory of its own. -/
namespace Go.Proofs.Ytkpbanfpnilifaa
open Go.BigFrame
open Go.RowKit Go.Proofs.Ytkpbanfpnilifaa.Plain

/-- a crew of the call's own memory: no list shares a block with another one -/
structure OwC (B : Nat) (w : World) (m : Nat) (c : Cw) (A A' : Option Addr) (e0 e a b : Nat) (L : List Hd) : Prop where
  tsk : Ow kTask B w (.slice A c.ts.length a) c.ts
  dns : Ow kBool B w (.slice A' c.dn.length b) c.dn
  row : Ow kRow B w (.slice (some ⟨e0, 0, none⟩) m e) L
  len : L.length = m
  dl : c.D.length = m
  els : ∀ j, j < m → (L.getD j hd0).n = (c.D.getD j []).length ∧ Ow kInt B w (L.getD j hd0).v (zs (c.D.getD j []))
  far : ∀ i j, i < m → j < m → i ≠ j → ∀ k, (L.getD i hd0).v.ownBlock = some k → (L.getD j hd0).v.ownBlock ≠ some k
theorem OwC.ext {B : Nat} {w W : World} {m : Nat} {c : Cw} {A A' : Option Addr} {e0 e a b : Nat} {L : List Hd} (h : OwC B w m c A A' e0 e a b L) (hE : Ext w W) : OwC B W m c A A' e0 e a b L :=
  ⟨h.tsk.ext hE, h.dns.ext hE, h.row.ext hE, h.len, h.dl, fun j hj => ⟨(h.els j hj).1, (h.els j hj).2.ext hE⟩, h.far⟩
/-- work of the call's own memory, as a value -/
def WorkOwn (B : Nat) (w : World) (v : Value) (ts : List Tk) (g : Int) (dn : List Bool) : Prop :=
  ∃ A c B' d, v = .agg #[.slice A ts.length c, .int .i64 g, .slice B' dn.length d] ∧ Ow kTask B w (.slice A ts.length c) ts ∧ Ow kBool B w (.slice B' dn.length d) dn
theorem WorkOwn.ext {B : Nat} {w W : World} {v : Value} {ts : List Tk} {g : Int} {dn : List Bool} (h : WorkOwn B w v ts g dn) (hE : Ext w W) : WorkOwn B W v ts g dn := by
  obtain ⟨A, c, B', d, h1, h2, h3⟩ := h
  exact ⟨A, c, B', d, h1, h2.ext hE, h3.ext hE⟩
/-- .. in a crew without deques -/
def CrewOwn0 (B : Nat) (w : World) (v : Value) (g : Int) (c : Cw) : Prop :=
  ∃ A a B' b, v = .agg #[.slice A c.ts.length a, .int .i64 g, .slice B' c.dn.length b, .slice none 0 0, .bool c.over, .int .i64 c.st, .int .i64 c.id] ∧ Ow kTask B w (.slice A c.ts.length a) c.ts ∧ Ow kBool B w (.slice B' c.dn.length b) c.dn
theorem CrewOwn0.ext {B : Nat} {w W : World} {v : Value} {g : Int} {c : Cw} (h : CrewOwn0 B w v g c) (hE : Ext w W) : CrewOwn0 B W v g c := by
  obtain ⟨A, a, B', d, h1, h2, h3⟩ := h
  exact ⟨A, a, B', d, h1, h2.ext hE, h3.ext hE⟩
/-- a new box -/
def BoxNew (B : Nat) (w : World) (v : Value) (cs : Array Value) (ty : TypeId) : Prop := ∃ x, v = .pointer (some ⟨x, 0, none⟩) ∧ B ≤ x ∧ w.heap[x]? = some (.cells cs ty (0, 0))
theorem BoxNew.ext {B : Nat} {w W : World} {v : Value} {cs : Array Value} {ty : TypeId} (h : BoxNew B w v cs ty) (hE : Ext w W) : BoxNew B W v cs ty := by
  obtain ⟨x, h1, h2, h3⟩ := h
  exact ⟨x, h1, h2, block_keep h3 hE⟩
theorem BoxNew.made (w : World) {B : Nat} (hB : B ≤ w.heap.size) (cs : Array Value) (ty : TypeId) : BoxNew B (w.alloc (.cells cs ty)) (.pointer (some ⟨w.heap.size, 0, none⟩)) cs ty := ⟨w.heap.size, rfl, hB, heap_alloc_new w _⟩
/-- lists lie in blocks of their own type alone -/
theorem Ow.notBox {α : Type} {K : Kd α} {B x : Nat} {w : World} {v : Value} {xs : List α} {cs : Array Value} {ty : TypeId} {r : Nat × Nat} (h : Ow K B w v xs) (hx : w.heap[x]? = some (.cells cs ty r)) (ht : K.e ≠ ty) : v.ownBlock ≠ some x := by
  obtain ⟨⟨h1, h2⟩, _⟩ := h
  rcases h2 with h2 | ⟨g, cap, cur, hv, hg, hh, hr⟩
  · rw [h2.1]; simp [Value.ownBlock]
  · rw [hv]
    simp only [Value.ownBlock, ne_eq, Option.some.injEq]
    intro e
    subst e
    rw [hh] at hx
    cases hx
    exact ht rfl

section
variable (w0 : World) (P : Nat) (A B : Option Addr) (eb eo a b e g m : Nat) (c : Cw) (w : World) (ds : List Value) (v : Value)
end

section
variable (w0 : World) (row : Option Nat) (P V : Nat) (Ar A : Option Addr) (er eb eo e m k nh ch B : Nat) (L : List Hd) (D : List Nat) (w : World) (ds : List Value) (v : Value)
end

/-- while a crew is copied -/
structure R5At (w0 wr : World) (V k g : Nat) (c : Cw) (A1 B1 : Option Addr) (a1 b1 : Nat) (L : List Hd) (Ar : Option Addr) (er : Nat) : Prop where
  box : wr.heap[V]? = some (.cells #[.slice A1 c.ts.length a1, .int .i64 g, .slice B1 c.dn.length b1, .slice Ar k er, .bool c.over, .int .i64 c.st, .int .i64 c.id] 81 (0, 0))
  tsk : Ow kTask w0.heap.size wr (.slice A1 c.ts.length a1) c.ts
  dns : Ow kBool w0.heap.size wr (.slice B1 c.dn.length b1) c.dn
  row : Ow kRow w0.heap.size wr (.slice Ar k er) L
  len : L.length = k
  els : ∀ j, j < k → (L.getD j hd0).n = (c.D.getD j []).length ∧ Ow kInt w0.heap.size wr (L.getD j hd0).v (zs (c.D.getD j []))
  far : ∀ i j, i < k → j < k → i ≠ j → ∀ b, (L.getD i hd0).v.ownBlock = some b → (L.getD j hd0).v.ownBlock ≠ some b
  ext : Ext w0 wr
  vl : w0.heap.size ≤ V
theorem Ow.zsN {B : Nat} {w : World} {A : Option Addr} {n c : Nat} {xs : List Nat} (h : Ow kInt B w (.slice A n c) (zs xs)) : n = xs.length := by
  obtain ⟨A', c', h, _⟩ := h.slice
  cases h
  exact zs_len xs
theorem R5At.next {w0 wr w5 : World} {V k g : Nat} {c : Cw} {A1 B1 : Option Addr} {a1 b1 : Nat} {L : List Hd} {Ar : Option Addr} {er : Nat} (h : R5At w0 wr V k g c A1 B1 a1 b1 L Ar er) (hG : Wr (Value.ownBlock (.slice Ar k er)) wr w5) {x : Hd} (hx : Ow kInt wr.heap.size w5 x.v (zs (c.D.getD k []))) {v : Value} (hA : AppAt kRow w0.heap.size w5 v (L ++ [x]) (.slice Ar k er) wr.heap.size) :
    ∃ Ar' er', v = .slice Ar' (k + 1) er' ∧ R5At w0 (w5.setCell ⟨V, 3, none⟩ v) V (k + 1) g c A1 B1 a1 b1 (L ++ [x]) Ar' er' := by
  obtain ⟨hv, _⟩ := hA
  obtain ⟨Ar', er', rfl, _⟩ := hv.slice
  have hl : (L ++ [x]).length = k + 1 := by simp [h.len]
  rw [hl] at hv ⊢
  refine ⟨Ar', er', rfl, ?_⟩
  have nV : ¬ (Value.ownBlock (.slice Ar k er)) = some V := h.row.notBox h.box (by decide)
  have hb5 := block_wr h.box hG nV
  have far1 : ∀ {α : Type} {K : Kd α} {v : Value} {xs : List α}, K.e ≠ kRow.e → Ow K w0.heap.size wr v xs → ∀ k', v.ownBlock = some k' → ¬ (Value.ownBlock (.slice Ar k er)) = some k' := fun hne ho k' hk' => Ow.far hne ho h.row k' hk'
  have sto : ∀ {α : Type} {K : Kd α} {v : Value} {xs : List α} (u : Value), K.e ≠ 81 → Ow K w0.heap.size w5 v xs → Ow K w0.heap.size (w5.setCell ⟨V, 3, none⟩ u) v xs := fun u hne ho => ho.setOther (p := ⟨V, 3, none⟩) (ho.notBox hb5 hne) u
  refine ⟨(set_block (i := 3) hb5 _).trans rfl, sto _ (by decide) (h.tsk.wr hG (far1 (by decide) h.tsk)), sto _ (by decide) (h.dns.wr hG (far1 (by decide) h.dns)), sto _ (by decide) hv, hl, fun j hj => ?_, fun i j hi hj hij b hb => ?_, ?_, h.vl⟩
  · by_cases e : j = k
    · subst e
      have e1 : (L ++ [x]).getD j hd0 = x := by rw [List.getD_eq_getElem?_getD, List.getElem?_append_right (by rw [h.len]; exact Nat.le_refl _)]; simp [h.len]
      rw [e1]
      exact ⟨Ow.zsN hx, sto _ (by decide) (hx.mono h.ext.size)⟩
    · have e1 : (L ++ [x]).getD j hd0 = L.getD j hd0 := by rw [List.getD_eq_getElem?_getD, List.getElem?_append_left (by rw [h.len]; omega), List.getD_eq_getElem?_getD]
      rw [e1]
      obtain ⟨h1, h2⟩ := h.els j (by omega)
      exact ⟨h1, sto _ (by decide) (h2.wr hG (far1 (by decide) h2))⟩
  · have e0 : ∀ j, j < k → (L ++ [x]).getD j hd0 = L.getD j hd0 := fun j hj => by rw [List.getD_eq_getElem?_getD, List.getElem?_append_left (by rw [h.len]; omega), List.getD_eq_getElem?_getD]
    have e1 : (L ++ [x]).getD k hd0 = x := by rw [List.getD_eq_getElem?_getD, List.getElem?_append_right (by rw [h.len]; exact Nat.le_refl _)]; simp [h.len]
    by_cases ei : i = k
    · subst ei
      have hj' : j < i := by omega
      rw [e1] at hb
      rw [e0 j hj']
      intro hj2
      have := (hx.lt b hb).1
      have := ((h.els j hj').2.lt b hj2).2
      omega
    · have hi' : i < k := by omega
      rw [e0 i hi'] at hb
      by_cases ej : j = k
      · subst ej
        rw [e1]
        intro hj2
        have := (hx.lt b hj2).1
        have := ((h.els i hi').2.lt b hb).2
        omega
      · rw [e0 j (by omega)]
        exact h.far i j hi' (by omega) hij b hb
  · exact (Wr.toExt hG h.ext (fun b hb => (h.row.lt b hb).1)).setCell (p := ⟨V, 3, none⟩) h.vl _

end Go.Proofs.Ytkpbanfpnilifaa

/- The program's Right of a crew, where it may be. -/
namespace Go.Proofs.Ytkpbanfpnilifaa
open Go.BigFrame
open Go.RowKit Go.Proofs.Ytkpbanfpnilifaa.Plain

/-- which of n are among these -/
def metL (n : Nat) (L : List Nat) : List Bool := (List.range n).map fun i => decide (i ∈ L)
theorem metL_len (n : Nat) (L : List Nat) : (metL n L).length = n := by unfold metL; simp
theorem metL_getD (n : Nat) (L : List Nat) (j : Nat) (hj : j < n) : (metL n L).getD j false = decide (j ∈ L) := by
  unfold metL
  rw [List.getD_eq_getElem?_getD, List.getElem?_map, List.getElem?_range hj]; rfl
theorem metL_nil (n : Nat) : metL n [] = List.replicate n false := by
  unfold metL
  apply List.ext_getElem?
  intro i
  rw [List.getElem?_map, List.getElem?_replicate]
  by_cases hi : i < n
  · rw [List.getElem?_range hi, if_pos hi]; rfl
  · rw [List.getElem?_eq_none (by simpa using hi), if_neg hi]; rfl
theorem metL_snoc (n : Nat) (L : List Nat) (k : Nat) (hk : k < n) : metL n (L ++ [k]) = (metL n L).set k true := by
  unfold metL
  apply List.ext_getElem?
  intro i
  by_cases hi : i < n
  · rw [List.getElem?_map, List.getElem?_range hi]
    by_cases e : i = k
    · subst e
      rw [List.getElem?_set_self (by simpa using hk)]; simp
    · rw [List.getElem?_set_ne (by omega), List.getElem?_map, List.getElem?_range hi]; simp [e]
  · rw [List.getElem?_eq_none (by simpa using hi), List.getElem?_eq_none (by simpa using hi)]

set_option maxHeartbeats 1600000 in
set_option maxRecDepth 100000 in
theorem holds_yes (A B : Option Addr) (eb eo a b e g n m : Nat) (c : Cw) (done : Nat) (G : List Nat) (w : World) (h : CrewAt w m c A B eb eo a b) (hI : CwI g n m c done G) (n1 : 1 ≤ n) (n2 : n ≤ 900) (g1 : 1 ≤ g) (g2 : g ≤ 100) (m2 : m ≤ 8) :
    Calls Try.prog 65 #[crewV A B eb eo a b e g m c] w fun ed w' => ed = .returned (.bool true) ∧ Ext w w' := by
  have HI := Lib.hid hI
  have HH := Lib.hid h
  have hfew := hI.few g1 n1
  have hts : (c.ts.length : Int) ≤ 1800 := by omega
  have hO := CrI.inv hI
  have hgl : (held c.D).length ≤ c.ts.length := by have := (CrI.fresh hI).2.2.2; omega
  have HDN : Hid (c.dn.length = n) := Lib.hid hO.dl
  obtain ⟨N, hN⟩ : ∃ N, (held c.D).length = N := ⟨_, rfl⟩
  have hNl : N ≤ 1800 := by omega
  have HN := Lib.hid hN
  obtain ⟨hs, hds⟩ := h.deq
  have HDS := Lib.hid hds
  obtain ⟨n0, hn0⟩ : ∃ n0, c.ts.length = n0 := ⟨_, rfl⟩
  have htl0 : 0 < n0 := by rw [← hn0]; exact hO.len
  obtain ⟨ta, to', rfl, hct⟩ := Rd.tasks h.tsk.rd (by omega : 0 < c.ts.length)
  rw [hn0] at hts hfew
  have HCT : Hid (∀ j, j < n0 → _) := Lib.hid (by rw [← hn0]; exact hct)
  have HTN := Lib.hid hn0
  obtain ⟨C, hmk, hmown⟩ := kBool.make false rfl trivial n0 (by omega)
  have HMK := Lib.hid hmown
  have hmk2 : ∀ w : World, (Instr.makeSlice 56 (.int .i64 n0) (.int .i64 n0)).run Try.prog w = .ok (.slice (some ⟨w.heap.size, 0, none⟩) n0 n0) (w.alloc (.cells C 4)) := hmk
  clear hmk
  clear h hI hO hgl hN hds hct hmown
  unfold crewV
  rw [hn0]
  clear hn0
  go_enter Try.func65, Try.ntmps65
  go_wp2_with fail
  refine (concat_all _ _ _ _ hs c.D _ (HDS.out.ext (((Ext.refl _).alloc _).alloc _)) m2 (by rw [HN.out]; omega)).mono ?_
  rintro ed w1 ⟨A1, c1, rfl, hown, hE⟩
  rw [HN.out]
  have HR1 := Lib.hid (rd_of_ints hown.ints)
  have HF1 : Hid (From (w.heap.size + 2) A1) := Lib.hid (hown.from.mono (by simp))
  have HM1 := Lib.hid ((HMK.out (w.alloc (.cells #[.slice (some ⟨ta, to', none⟩) n0 a, .int .i64 g, .slice B c.dn.length b, .slice (some ⟨eb, eo, none⟩) m e, .bool c.over, .int .i64 c.st, .int .i64 c.id] 81)) (w.heap.size + 1) (w.heap.size + 1) (by simp) (Nat.le_refl _)).ext hE)
  have HE1 := Lib.hid ((((Ext.refl w).alloc _).alloc _).trans hE)
  have x0 : w1.cell? ⟨w.heap.size, 0, none⟩ = some (.slice (some ⟨ta, to', none⟩) n0 a) := hE.cell (by go_simp)
  have x1 : w1.cell? ⟨w.heap.size, 1, none⟩ = some (.int .i64 g) := hE.cell (by go_simp)
  have x2 : w1.cell? ⟨w.heap.size, 2, none⟩ = some (.slice B c.dn.length b) := hE.cell (by go_simp)
  have HX : Hid (w1.cell? ⟨w.heap.size, 0, none⟩ = some (.slice (some ⟨ta, to', none⟩) n0 a) ∧ w1.cell? ⟨w.heap.size, 1, none⟩ = some (.int .i64 g) ∧ w1.cell? ⟨w.heap.size, 2, none⟩ = some (.slice B c.dn.length b)) := Lib.hid ⟨x0, x1, x2⟩
  have HZ := Lib.hid hE.size
  clear hown hE x0 x1 x2
  go_wp2_with fail
  go_loopw [15] (fun i wr => ∃ k : Nat, k ≤ N ∧ i = .int .i64 k ∧ Ow kBool (w.heap.size + 1) wr (.slice (some ⟨w.heap.size + 1, 0, none⟩) n0 n0) (metL n0 ((held c.D).take k)) ∧ Grew (fun b => b = w.heap.size + 1) w1 wr) (fun i _ => N - (intOf i).toNat)
  case atStart => exact ⟨0, Nat.zero_le _, rfl, by rw [List.take_zero, metL_nil]; exact HM1.out, Grew.refl _ _⟩
  case round =>
    obtain ⟨k, hk, rfl, hown, hG⟩ := hrel
    have HO := Lib.hid hown
    have HG := Lib.hid hG
    have hk0 : (0 : Int) ≤ k := by omega
    by_cases hlt : k < N
    · have hlt' : (k : Int) < N := by omega
      obtain ⟨i, hi⟩ : ∃ i, (held c.D).getD k 0 = i := ⟨_, rfl⟩
      have him : i ∈ held c.D := by
        rw [← hi, List.getD_eq_getElem?_getD, List.getElem?_eq_getElem (by rw [HN.out]; exact hlt)]
        exact List.getElem_mem _
      have hO := CrI.inv HI.out
      have hin : i < n0 := by rw [← HTN.out]; exact hO.lt i him
      have hnot : i ∉ (held c.D).take k := by
        intro hh
        have hnd := hO.nd
        rw [← List.take_append_drop k (held c.D), List.nodup_append] at hnd
        refine hnd.2.2 i hh i ?_ rfl
        have hd := List.drop_eq_getElem_cons (l := held c.D) (i := k) (by rw [HN.out]; exact hlt)
        rw [hd, ← hi, List.getD_eq_getElem?_getD, List.getElem?_eq_getElem (by rw [HN.out]; exact hlt)]
        exact List.mem_cons_self
      have hsucc : (held c.D).take (k + 1) = (held c.D).take k ++ [i] := by
        rw [List.take_succ_eq_append_getElem (by rw [HN.out]; exact hlt), ← hi, List.getD_eq_getElem?_getD, List.getElem?_eq_getElem (by rw [HN.out]; exact hlt)]; rfl
      have HS : Hid (metL n0 ((held c.D).take (k + 1)) = (metL n0 ((held c.D).take k)).set i true) := Lib.hid (by rw [hsucc]; exact metL_snoc n0 _ i hin)
      obtain ⟨b1, o1, rfl, hc1⟩ := HR1.out.cells (by rw [zs_len, HN.out]; omega)
      have hb1 := HF1.out _ rfl
      simp only at hb1
      have z0 := hc1 k (by rw [zs_len, HN.out]; exact hlt) 0 _ rfl
      have e0 : (zs (held c.D)).getD k kInt.d = ((i : Nat) : Int) := by rw [← hi]; exact zs_getD _ _
      have z1 : w1.cell? ⟨b1, o1 + k, none⟩ = some (.int .i64 i) := by
        rw [e0] at z0
        rw [show o1 + k = o1 + k * kInt.n + 0 from by show o1 + k = o1 + k * 1 + 0; omega]
        exact z0
      have zi := hG.cell z1 (by omega)
      obtain ⟨⟨lo, hi', up, wt⟩, ht⟩ : ∃ t, c.ts.getD i ⟨0, 0, 0, 0⟩ = t := ⟨_, rfl⟩
      have htT : T c.ts i = ⟨lo, hi', up, wt⟩ := ht
      have hw0 := hO.w0 i him
      rw [htT] at hw0
      simp only at hw0
      subst hw0
      have htask := hO.task i (hO.lt i him)
      rw [htT] at htask
      simp only at htask
      obtain ⟨t1, t2, t3, _, _, _, _⟩ := htask
      have hcov := (hO.cov lo.toNat (by omega)).2 ⟨i, him, by rw [htT]; simp only; omega, by rw [htT]; simp only; omega⟩
      obtain ⟨y0, y1, y2, y3⟩ := HCT.out i hin
      rw [ht] at y0 y1 y2 y3
      simp only at y0 y1 y2 y3
      have lta : ta < w.heap.size := World.block_lt_of_cell? _ _ y0
      have q0 := hG.cell (HE1.out.cell y0) (by omega)
      have q1 := hG.cell (HE1.out.cell y1) (by omega)
      have q2 := hG.cell (HE1.out.cell y2) (by omega)
      have q3 := hG.cell (HE1.out.cell y3) (by omega)
      have x0 := hG.cell HX.out.1 (by omega)
      have x1 := hG.cell HX.out.2.1 (by omega)
      have x2 := hG.cell HX.out.2.2 (by omega)
      obtain ⟨g', eg, _, _, h3, h4⟩ := Ow.pos hown (by rw [metL_len]; exact htl0)
      obtain rfl : g' = w.heap.size + 1 := by cases eg; rfl
      have zm : wr.cell? ⟨w.heap.size + 1, i, none⟩ = some (.bool false) := by
        have := h3 i (by rw [metL_len]; exact hin) 0 _ rfl
        rw [show (metL n0 ((held c.D).take k)).getD i kBool.d = false by rw [show kBool.d = false from rfl, metL_getD _ _ _ hin]; exact decide_eq_false hnot] at this
        rw [show i = i * kBool.n + 0 from by show i = i * 1 + 0; omega]
        exact this
      have HDR : Hid (Rd kBool wr (.slice B c.dn.length b) c.dn) := Lib.hid (HH.out.dns wr (Grew.of (hG.toExt HE1.out (fun b hb => by rw [hb]; omega))))
      have HFR := Lib.hid h4
      have hi0 : (0 : Int) ≤ i := by omega
      have hi1 : (i : Int) < n0 := by omega
      have hd1 : decide ((i : Int) < 0) = false := decide_eq_false (by omega)
      have hd2 : decide ((n0 : Int) ≤ (i : Int)) = false := decide_eq_false (by omega)
      have hd3 : decide (n0 ≤ i) = false := decide_eq_false (by omega)
      clear hown hG h3 h4 z0 z1 e0 hc1 hi ht htT him hO hnot hsucc y0 y1 y2 y3 eg
      have KS : Hid (∀ w', Ext wr w' → w'.cell? ⟨w.heap.size, 0, none⟩ = some (.slice (some ⟨ta, to', none⟩) n0 a) ∧ w'.cell? ⟨w.heap.size, 1, none⟩ = some (.int .i64 g) ∧ w'.cell? ⟨w.heap.size, 2, none⟩ = some (.slice B c.dn.length b) ∧ w'.cell? ⟨w.heap.size + 1, i, none⟩ = some (.bool false) ∧ w'.cell? ⟨ta, to' + i * 4, none⟩ = some (.int .i64 lo) ∧ w'.cell? ⟨ta, to' + i * 4 + 1, none⟩ = some (.int .i64 hi') ∧ w'.cell? ⟨ta, to' + i * 4 + 2, none⟩ = some (.int .i64 up) ∧ w'.cell? ⟨ta, to' + i * 4 + 3, none⟩ = some (.int .i64 0)) := Lib.hid fun w' hE => ⟨hE.cell x0, hE.cell x1, hE.cell x2, hE.cell zm, hE.cell q0, hE.cell q1, hE.cell q2, hE.cell q3⟩
      go_wp2_with fail
      have HOP : Hid (∀ w', Ext wr w' → Calls Try.prog 73 #[.agg #[.slice (some ⟨ta, to', none⟩) n0 a, .int .i64 g, .slice B c.dn.length b], .agg #[.int .i64 lo, .int .i64 hi', .int .i64 up, .int .i64 0]] w' fun ed w'' => ed = .returned (.bool true) ∧ Ext wr w'') := Lib.hid fun w' hE =>
        (copen_yes _ _ _ _ _ lo hi' up g c.dn w' (HDR.out.ext hE) t1 t2 (by rw [HDN.out]; omega) g1 g2 (by rw [HDN.out]; omega) hcov).mono fun ed w'' hh => ⟨hh.1, hE.trans hh.2⟩
      refine wp_region_class (Ext wr) (by kernel_rfl) (by kernel_rfl) (Ext.refl _).drew ?_
      try simp only [List.append_eq, List.cons_append, List.nil_append]
      repeat (first
        | go_big_quiet_skip
        | (go_big_quiet_want
           first
           | (go_big_quiet_op; go_big_quiet_on)
           | (unfold Oper.quiet
              apply Exists.intro
              refine ⟨fun w' hC => ?_, ?_⟩
              · (obtain ⟨k1, k2, k3, k4, k5, k6, k7, k8⟩ := KS.out w' hC
                 unfold Oper.quietAt
                 go_simp
                 first
                 | exact rfl
                 | (with_reducible exact HOP.out w' hC))
              go_simp
              go_big_quiet_on)
           | (go_big_quiet_op
              apply Exists.intro
              refine ⟨fun w' hC => ?_, ?_⟩
              · exact HOP.out w' hC
              go_big_quiet_on)))
      refine wpQuiet_nil ?_
      intro w4 hC4
      have y3 := fun o => (Below.frozen hC4 (p := ⟨w.heap.size + 1, o, none⟩) (by have := HZ.out; have := HG.out.size; simp at this ⊢; omega)).trans (HFR.out o)
      have l1 : w.heap.size + 1 < w4.heap.size := by have := HZ.out; have := HG.out.size; have := hC4.size; simp at *; omega
      have zm4 := hC4.cell zm
      have hset := (HO.out.ext hC4).set (j := i) (i := 0) (x := true) (u := .bool true) (by rw [metL_len]; exact hin) (by decide) rfl trivial
      rw [show i * kBool.n + 0 = i from by show i * 1 + 0 = i; omega, ← HS.out] at hset
      have HSET := Lib.hid hset
      clear hset
      go_wp2_with fail
      go_roundw
      case rel => exact ⟨k + 1, by omega, by go_num, HSET.out, (HG.out.ext hC4).setCell rfl _⟩
      case measure => simp [intOf]; omega
    · obtain rfl : k = N := by omega
      go_wp2_with fail
      go_ret
      exact ⟨rfl, hG.toExt HE1.out (fun b hb => by rw [hb]; omega)⟩

set_option maxHeartbeats 800000 in
set_option maxRecDepth 100000 in
/-- a crew that may be -/
theorem cright_yes (A B : Option Addr) (eb eo a b e g n m : Nat) (c : Cw) (done : Nat) (G : List Nat) (w : World) (h : CrewAt w m c A B eb eo a b) (hI : CwI g n m c done G) (n1 : 1 ≤ n) (n2 : n ≤ 900) (g1 : 1 ≤ g) (g2 : g ≤ 100) (m1 : 1 ≤ m) (m2 : m ≤ 8) (hst : c.st ≤ 100000) (hid : c.id ≤ 100000) :
    Calls Try.prog 58 #[crewV A B eb eo a b e g m c] w fun ed w' => ed = .returned (.bool true) ∧ Ext w w' := by
  have HI := Lib.hid hI
  have HH := Lib.hid h
  have HWR : Hid (wRight c.ts (g : Int) c.dn.length = true) := Lib.hid (by rw [(CrI.inv hI).dl]; exact (CrI.inv hI).right g1 g2 n1 n2)
  have HDL : Hid (c.dn.length = n) := Lib.hid (CrI.inv hI).dl
  have HGI : Hid (in64 (g : Int)) := Lib.hid (by unfold in64; omega)
  have s1 : (0 : Int) ≤ (c.st : Int) := by omega
  have s2 : (c.st : Int) ≤ 100000 := by omega
  have s3 : (0 : Int) ≤ (c.id : Int) := by omega
  have s4 : (c.id : Int) ≤ 100000 := by omega
  clear h hI
  go_enter Try.func58, Try.ntmps58
  go_wp2_with fail
  refine (right_to A B a b _ _ c.ts g true _ (HH.out.tsk.rd.ext ((Ext.refl _).alloc _)) rfl (by rw [HDL.out]; omega) HGI.out HWR.out).mono ?_
  rintro ed w1 ⟨rfl, hE⟩
  have x3 : w1.cell? ⟨w.heap.size, 3, none⟩ = some (.slice (some ⟨eb, eo, none⟩) m e) := hE.cell (by go_simp)
  have x5 : w1.cell? ⟨w.heap.size, 5, none⟩ = some (.int .i64 c.st) := hE.cell (by go_simp)
  have x6 : w1.cell? ⟨w.heap.size, 6, none⟩ = some (.int .i64 c.id) := hE.cell (by go_simp)
  have x0 : w1.cell? ⟨w.heap.size, 0, none⟩ = some (.slice A c.ts.length a) := hE.cell (by go_simp)
  have x1 : w1.cell? ⟨w.heap.size, 1, none⟩ = some (.int .i64 g) := hE.cell (by go_simp)
  have x2 : w1.cell? ⟨w.heap.size, 2, none⟩ = some (.slice B c.dn.length b) := hE.cell (by go_simp)
  have x4 : w1.cell? ⟨w.heap.size, 4, none⟩ = some (.bool c.over) := hE.cell (by go_simp)
  have HE1 := Lib.hid (((Ext.refl w).alloc _).trans hE)
  clear hE
  go_wp2_with (first | (go_at_call 45; refine (manned_yes _ _ m1 m2).mono ?_; rintro ed w2 ⟨rfl, rfl⟩) | (go_at_call 64; refine (counted_yes _ _ (by assumption) (by assumption)).mono ?_; rintro ed w2 ⟨rfl, rfl⟩))
  refine (holds_yes A B eb eo a b e g n m c _ _ _ (HH.out.ext HE1.out) HI.out n1 n2 g1 g2 m2).mono ?_
  rintro ed w3 ⟨rfl, hE3⟩
  go_wp2_with fail
  go_ret
  exact ⟨rfl, HE1.out.trans hE3⟩
end Go.Proofs.Ytkpbanfpnilifaa

/- The document's Right of a crew (ref05), where it may be. -/
namespace Go.Proofs.Ytkpbanfpnilifaa
open Go.BigFrame
open Go.RowKit Go.Proofs.Ytkpbanfpnilifaa.Plain

end Go.Proofs.Ytkpbanfpnilifaa

/- The deque's functions. -/
namespace Go.Proofs.Ytkpbanfpnilifaa
open Go.RowKit Go.Proofs.Ytkpbanfpnilifaa.Plain

theorem Ints.slice {w : World} {v : Value} {xs : List Int} (h : Ints w v xs) : ∃ A c, v = .slice A xs.length c ∧ xs.length ≤ c := by
  obtain ⟨_, _, A, c, rfl, hc, _⟩ := h
  exact ⟨A, c, rfl, hc⟩
theorem Own.slice {B : Nat} {w : World} {v : Value} {xs : List Int} (h : Own B w v xs) : ∃ A c, v = .slice A xs.length c := by
  obtain ⟨A, c, rfl, _⟩ := h.shape
  exact ⟨A, c, rfl⟩

end Go.Proofs.Ytkpbanfpnilifaa

/- The deque's Move. -/
namespace Go.Proofs.Ytkpbanfpnilifaa
open Go.RowKit Go.Proofs.Ytkpbanfpnilifaa.Plain

end Go.Proofs.Ytkpbanfpnilifaa

/- The deque's functions, with their answers named; and the document's. -/
namespace Go.Proofs.Ytkpbanfpnilifaa
open Go.RowKit Go.Proofs.Ytkpbanfpnilifaa.Plain

/-- a literal of integers, in a block of its own -/
theorem Ints.lit (w : World) (xs : List Int) (n : Nat) (hn : xs.length = n) (hm : xs.length ≤ maxLen) (hb : ∀ x ∈ xs, -9223372036854775808 ≤ x ∧ x ≤ 9223372036854775807) :
    Ints (w.alloc (.cells (xs.map (Value.int .i64)).toArray 3)) (.slice (some ⟨w.heap.size, 0, none⟩) n n) xs := by
  subst hn
  exact (Own.lit w xs (Nat.le_refl _) hm hb).ints
end Go.Proofs.Ytkpbanfpnilifaa

/- The document's deque. -/
namespace Go.Proofs.Ytkpbanfpnilifaa
open Go.RowKit Go.Proofs.Ytkpbanfpnilifaa.Plain

end Go.Proofs.Ytkpbanfpnilifaa

/- Pop and Steal of a crew's deque: what is left, and its room. -/
namespace Go.Proofs.Ytkpbanfpnilifaa
open Go.BigFrame
open Go.RowKit Go.Proofs.Ytkpbanfpnilifaa.Plain

theorem pop_zs (xs : List Nat) (h : xs ≠ []) : popL (zs xs) = zs xs.dropLast ∧ lastD (zs xs) = ((xs.getLastD 0 : Nat) : Int) ∧ popE (zs xs) = 0 := by
  have e := getLastD_snoc xs h
  obtain ⟨ys, y, hy⟩ : ∃ ys y, xs = ys ++ [y] := ⟨_, _, e⟩
  subst hy
  have e1 : (ys ++ [y]).dropLast = ys := List.dropLast_concat
  have e2 : (ys ++ [y]).getLastD 0 = y := by rw [List.getLastD_eq_getLast?, List.getLast?_concat]; rfl
  rw [e1, e2]
  have e3 : zs (ys ++ [y]) = zs ys ++ [(y : Int)] := by unfold zs; simp
  rw [e3]
  refine ⟨?_, ?_, ?_⟩
  · unfold popL; simp
  · unfold lastD; simp
  · unfold popE; simp
set_option maxHeartbeats 400000 in
set_option maxRecDepth 100000 in
theorem pop_go (x : Hd) (xs : List Nat) (w : World) (hr : Rd kInt w x.v (zs xs)) (hn : x.n = xs.length) (hl : xs.length ≤ 4000) (h0 : xs ≠ []) :
    Calls Try.prog 66 #[x.v] w fun e w' => ∃ y : Hd, e = .returned (.tuple #[y.v, .int .i64 (xs.getLastD 0 : Nat), .int .i64 0]) ∧ y.n = xs.dropLast.length ∧ y.c = y.n ∧ (∀ S : Nat → Prop, (∀ x, S x → x < w.heap.size) → RdO kInt S w' y.v (zs xs.dropLast)) ∧ Ext w w' := by
  obtain ⟨p1, p2, p3⟩ := pop_zs xs h0
  obtain ⟨A, n, c⟩ := x
  obtain rfl : n = xs.length := hn
  obtain ⟨l, hl'⟩ : ∃ l, zs xs = l := ⟨_, rfl⟩
  have hlen : l.length = xs.length := by rw [← hl', zs_len]
  rw [hl'] at hr p1 p2 p3
  have H : Hid (Ints w (.slice A l.length c) l) := Lib.hid (by rw [hlen]; exact ints_of_rd hr)
  have h1 : 0 < l.length := by rw [hlen]; exact List.length_pos_iff.2 h0
  have e2 : Hid ((popL l).length = l.length - 1) := Lib.hid (popL_len l)
  have e3 : Hid (lastD l = l.getD (l.length - 1) 0) := Lib.hid rfl
  have P1 := Lib.hid p1
  have P2 := Lib.hid p2
  have HL := Lib.hid hlen
  have hb : l.length ≤ 4000 := by omega
  unfold Hd.v
  simp only
  rw [← hlen]
  clear hr p1 p2 p3 hl' hlen hl h0
  go_enter Try.func66, Try.ntmps66
  go_wp2_with fail
  refine (clone_any _ _ _ H.out (by omega)).mono ?_
  rintro e w1 ⟨A1, c1, rfl, ho, hE⟩
  obtain ⟨_, _, hsh, hdd⟩ := ho.shape
  have hdd1 : (l.length : Int) - 1 ≤ (c1 : Int) := by cases hsh; omega
  have hdd2 : (l.length : Int) ≤ (c1 : Int) := by cases hsh; omega
  clear hdd hsh
  obtain ⟨g, rfl, hgB, hgw, hgc, hgf, hgs⟩ := ho.pos h1
  have kf := hgc (l.length - 1) (by omega)
  rw [← e3.out] at kf
  have HO := Lib.hid ho
  have HE := Lib.hid hE
  clear hgc hgs hgf ho hE
  go_wp2_with fail
  go_quiet (fail)
  go_wp2
  go_ret3
  rw [P2.out]
  refine ⟨⟨some ⟨g, 0, none⟩, l.length - 1, l.length - 1⟩, rfl, ?_, rfl, fun S hS => ?_, HE.out.drewN _⟩
  · show l.length - 1 = _
    rw [List.length_dropLast, HL.out]
  · rw [← P1.out]
    exact Rd.offFrom (B := w.heap.size) (rd_of_ints (Ints.ext (HO.out.ints.take (l.length - 1) (l.length - 1) (by omega) (by omega)) ((Ext.refl _).drewN _))) HO.out.from hS
set_option maxHeartbeats 800000 in
set_option maxRecDepth 100000 in
theorem steal_go (x : Hd) (xs : List Nat) (w : World) (hr : Rd kInt w x.v (zs xs)) (hn : x.n = xs.length) (hl : xs.length ≤ 4000) (h0 : xs ≠ []) :
    Calls Try.prog 67 #[x.v] w fun e w' => ∃ y : Hd, e = .returned (.tuple #[y.v, .int .i64 (xs.headD 0 : Nat), .int .i64 0]) ∧ y.n = xs.tail.length ∧ (y.n = 0 → y.c = 0) ∧ (∀ S : Nat → Prop, (∀ x, S x → x < w.heap.size) → RdO kInt S w' y.v (zs xs.tail)) ∧ Ext w w' := by
  obtain ⟨A, n, c⟩ := x
  obtain rfl : n = xs.length := hn
  obtain ⟨z, zt, rfl⟩ : ∃ z zt, xs = z :: zt := ⟨_, _, head_tail xs h0⟩
  have H := Lib.hid hr
  have hcap : (z :: zt).length ≤ c := by obtain ⟨_, _, h1, h2⟩ := hr.slice; rw [zs_len] at h1 h2; cases h1; exact h2
  obtain ⟨b, off, rfl, hcc⟩ := hr.cells (by rw [zs_len]; simp)
  have k0 : w.cell? ⟨b, off, none⟩ = some (.int .i64 (z : Nat)) := by
    have := hcc 0 (by rw [zs_len]; simp) 0 _ rfl
    simpa [kInt, zs] using this
  have hb := World.block_lt_of_cell? _ _ k0
  simp at hb
  obtain ⟨m, hm⟩ : ∃ m, zt.length = m := ⟨_, rfl⟩
  have hm1 : (z :: zt).length = m + 1 := by rw [List.length_cons, hm]
  have HM := Lib.hid hm
  unfold Hd.v
  simp only [List.headD_cons, List.tail_cons]
  rw [hm1] at hcap hr hl ⊢
  have HR := Lib.hid hr
  have hc5 : ((m : Int) + 1 == 0) = false := by rw [beq_eq_false_iff_ne]; omega
  have hc4 : (1 : Int) ≤ (m : Int) + 1 := by omega
  have hc6 : (m : Int) + 1 ≤ c := by omega
  clear hcc hr hm hm1 h0 H
  by_cases hc1 : c = 1
  · subst hc1
    obtain rfl : m = 0 := by omega
    obtain rfl : zt = [] := List.eq_nil_of_length_eq_zero HM.out
    go_enter Try.func67, Try.ntmps67
    go_wp2
    go_region_held3 (fun w' => w'.cell? ⟨b, off, none⟩ = some (.int .i64 (z : Nat)))
      (first | go_keep | exact c11)
      (first
        | (go_at_call 57
           refine (clone_dq ⟨some ⟨b, off, none⟩, 0, 0⟩ [] _ (Rd.nil _ _ _) rfl (by simp)).mono ?_
           rintro e w1 ⟨y, rfl, hy1, hy2, hy3, hE1⟩
           have c11 : w1.cell? ⟨b, off, none⟩ = some (.int .i64 (z : Nat)) := hE1.cell (by go_simp)))
    go_wp2
    go_ret3
    exact ⟨y, rfl, hy1, hy2, hy3, (Ext.refl w).drew.trans hE1⟩
  · have HI : Hid (Rd kInt w (.slice (some ⟨b, off + 1, none⟩) m (c - 1)) (zs zt)) := Lib.hid (by
      have h7 := HR.out.drop 1 m (c - 1) (by rw [zs_len, List.length_cons, HM.out]; omega) (by omega)
      exact h7)
    go_enter Try.func67, Try.ntmps67
    go_wp2
    go_region_held3 (fun w' => w'.cell? ⟨b, off, none⟩ = some (.int .i64 (z : Nat)))
      (first | go_keep | exact c11)
      (first
        | (go_at_call 57
           refine (clone_dq ⟨some ⟨b, off + 1, none⟩, m, c - 1⟩ zt _ (HI.out.ext (Ext.refl w).drew) HM.out.symm (by rw [HM.out]; omega)).mono ?_
           rintro e w1 ⟨y, rfl, hy1, hy2, hy3, hE1⟩
           have c11 : w1.cell? ⟨b, off, none⟩ = some (.int .i64 (z : Nat)) := hE1.cell (by go_simp)))
    go_wp2
    go_ret3
    exact ⟨y, rfl, hy1, hy2, hy3, (Ext.refl w).drew.trans hE1⟩
end Go.Proofs.Ytkpbanfpnilifaa

/- A step of the document's crew (ref05): the boxes, what is taken, and pushed. -/
namespace Go.Proofs.Ytkpbanfpnilifaa
open Go.BigFrame
open Go.RowKit Go.Proofs.Ytkpbanfpnilifaa.Plain

theorem block_lt {w : World} {x : Nat} {o : Obj} (h : w.heap[x]? = some o) : x < w.heap.size := by
  rcases Nat.lt_or_ge x w.heap.size with h' | h'
  · exact h'
  · rw [Array.getElem?_eq_none h'] at h; cases h
/-- deques of the call's own memory -/
structure DqC (B : Nat) (w : World) (m : Nat) (D : List (List Nat)) (e0 e : Nat) (L : List Hd) : Prop where
  row : Ow kRow B w (.slice (some ⟨e0, 0, none⟩) m e) L
  len : L.length = m
  dl : D.length = m
  els : ∀ j, j < m → (L.getD j hd0).n = (D.getD j []).length ∧ Ow kInt B w (L.getD j hd0).v (zs (D.getD j []))
  far : ∀ i j, i < m → j < m → i ≠ j → ∀ k, (L.getD i hd0).v.ownBlock = some k → (L.getD j hd0).v.ownBlock ≠ some k
theorem DqC.ext {B : Nat} {w W : World} {m : Nat} {D : List (List Nat)} {e0 e : Nat} {L : List Hd} (h : DqC B w m D e0 e L) (hE : Ext w W) : DqC B W m D e0 e L :=
  ⟨h.row.ext hE, h.len, h.dl, fun j hj => ⟨(h.els j hj).1, (h.els j hj).2.ext hE⟩, h.far⟩
/-- a box is no list -/
theorem DqC.box {B : Nat} {w : World} {m : Nat} {D : List (List Nat)} {e0 e : Nat} {L : List Hd} (h : DqC B w m D e0 e L) {x i : Nat} {cs : Array Value} {ty : TypeId} {r : Nat × Nat} (hx : w.heap[x]? = some (.cells cs ty r)) (h1 : kRow.e ≠ ty) (h2 : kInt.e ≠ ty) (u : Value) : DqC B (w.setCell ⟨x, i, none⟩ u) m D e0 e L :=
  ⟨h.row.setOther (p := ⟨x, i, none⟩) (h.row.notBox hx h1) u, h.len, h.dl, fun j hj => ⟨(h.els j hj).1, (h.els j hj).2.setOther (p := ⟨x, i, none⟩) ((h.els j hj).2.notBox hx h2) u⟩, h.far⟩
theorem getD_setL {α : Type} (xs : List α) (j k : Nat) (x d : α) (hk : k < xs.length) : (xs.set k x).getD j d = if j = k then x else xs.getD j d := by
  rw [List.getD_eq_getElem?_getD, List.getD_eq_getElem?_getD]
  by_cases h : j = k
  · subst h; rw [if_pos rfl, List.getElem?_set_self hk]; rfl
  · rw [if_neg h, List.getElem?_set_ne (fun e => h e.symm)]
/-- a head is stored: a new list, or one that grew -/
theorem DqC.put {B : Nat} {w : World} {m : Nat} {D : List (List Nat)} {e0 e : Nat} {L : List Hd} (h : DqC B w m D e0 e L) {F : Nat} (hF : F < m) {x : Hd} {xs : List Nat} (hx : Ow kInt B w x.v (zs xs)) (hn : x.n = xs.length) (hf : ∀ j, j < m → j ≠ F → ∀ k, (L.getD j hd0).v.ownBlock = some k → x.v.ownBlock ≠ some k) :
    DqC B (w.setCell ⟨e0, F, none⟩ x.v) m (D.set F xs) e0 e (L.set F x) := by
  have hl := h.len
  have hd := h.dl
  have hrow := Ow.set h.row (j := F) (i := 0) (x := x) (u := x.v) (by rw [hl]; exact hF) (by decide) rfl trivial
  rw [show F * kRow.n + 0 = F from by show F * 1 + 0 = F; omega] at hrow
  have key : ∀ {v : Value} {ys : List Int}, Ow kInt B w v ys → Ow kInt B (w.setCell ⟨e0, F, none⟩ x.v) v ys := fun ho => ho.setOther (p := ⟨e0, F, none⟩) (fun hk => Ow.far (by decide) ho h.row e0 hk rfl) _
  refine ⟨hrow, by simpa using hl, by simpa using hd, fun j hj => ?_, fun i j hi hj hij k hk => ?_⟩
  · rw [getD_setL _ _ _ _ _ (by omega), getD_setL _ _ _ _ _ (by omega)]
    by_cases e : j = F
    · rw [if_pos e, if_pos e]; exact ⟨hn, key hx⟩
    · rw [if_neg e, if_neg e]; exact ⟨(h.els j hj).1, key (h.els j hj).2⟩
  · rw [getD_setL _ _ _ _ _ (by omega)] at hk ⊢
    by_cases e1 : i = F
    · rw [if_pos e1] at hk
      rw [if_neg (by omega)]
      intro hk2
      exact hf j hj (by omega) k hk2 hk
    · rw [if_neg e1] at hk
      by_cases e2 : j = F
      · rw [if_pos e2]; exact hf i hi e1 k hk
      · rw [if_neg e2]; exact h.far i j hi hj hij k hk
/-- one that goes a step: the box V has its crew, the box Q the event -/
structure S5At (w0 w : World) (B V Q g m : Nat) (c : Cw) (ev : Ev) (A1 B1 : Option Addr) (e0 e a b : Nat) (L : List Hd) : Prop where
  box : w.heap[V]? = some (.cells #[.slice A1 c.ts.length a, .int .i64 g, .slice B1 c.dn.length b, .slice (some ⟨e0, 0, none⟩) m e, .bool c.over, .int .i64 c.st, .int .i64 c.id] 81 (0, 0))
  ebx : w.heap[Q]? = some (.cells #[.int .i64 ev.wk, .int .i64 ev.fr, .int .i64 ev.tk, .bool ev.pt] 104 (0, 0))
  dq : DqC B w m c.D e0 e L
  tsk : RdO kTask (fun x => x < B ∨ x = V ∨ x = Q ∨ x = e0 ∨ ∃ j, j < m ∧ (L.getD j hd0).v.ownBlock = some x) w (.slice A1 c.ts.length a) c.ts
  dns : RdO kBool (fun x => x < B ∨ x = V ∨ x = Q ∨ x = e0 ∨ ∃ j, j < m ∧ (L.getD j hd0).v.ownBlock = some x) w (.slice B1 c.dn.length b) c.dn
  ext : Ext w0 w
  bl : w0.heap.size ≤ B
  vl : B ≤ V
  ql : B ≤ Q
theorem S5At.ext' {w0 w : World} {B V Q g m : Nat} {c : Cw} {ev : Ev} {A1 B1 : Option Addr} {e0 e a b : Nat} {L : List Hd} (h : S5At w0 w B V Q g m c ev A1 B1 e0 e a b L) {W : World} (hE : Ext w W) : S5At w0 W B V Q g m c ev A1 B1 e0 e a b L :=
  ⟨block_keep h.box hE, block_keep h.ebx hE, h.dq.ext hE, h.tsk.ext hE, h.dns.ext hE, h.ext.trans hE, h.bl, h.vl, h.ql⟩
theorem S5At.begin {w0 w : World} {B g m : Nat} {c : Cw} {ev : Ev} {A1 B1 : Option Addr} {e0 e a b : Nat} {L : List Hd} (h : OwC B w m c A1 B1 e0 e a b L) (hE : Ext w0 w) (hB : w0.heap.size ≤ B) (hBw : B ≤ w.heap.size) (st : Nat) :
    S5At w0 ((w.alloc (.cells #[.slice A1 c.ts.length a, .int .i64 g, .slice B1 c.dn.length b, .slice (some ⟨e0, 0, none⟩) m e, .bool c.over, .int .i64 st, .int .i64 c.id] 81)).alloc (.cells #[.int .i64 ev.wk, .int .i64 ev.fr, .int .i64 ev.tk, .bool ev.pt] 104)) B w.heap.size (w.heap.size + 1) g m ⟨c.ts, c.dn, c.D, c.over, st, c.id⟩ ev A1 B1 e0 e a b L := by
  have hE2 : Ext w ((w.alloc (.cells #[.slice A1 c.ts.length a, .int .i64 g, .slice B1 c.dn.length b, .slice (some ⟨e0, 0, none⟩) m e, .bool c.over, .int .i64 st, .int .i64 c.id] 81)).alloc (.cells #[.int .i64 ev.wk, .int .i64 ev.fr, .int .i64 ev.tk, .bool ev.pt] 104)) := ((Ext.refl _).alloc _).alloc _
  have off : ∀ {α : Type} {K : Kd α} {A : Option Addr} {n c' : Nat} {xs : List α}, K.e ≠ kRow.e → K.e ≠ kInt.e → Ow K B w (.slice A n c') xs → RdO K (fun x => x < B ∨ x = w.heap.size ∨ x = w.heap.size + 1 ∨ x = e0 ∨ ∃ j, j < m ∧ (L.getD j hd0).v.ownBlock = some x) w (.slice A n c') xs := by
    intro α K A n c' xs h1 h2 ho
    refine ho.rd.off fun ad ha hs => ?_
    have hb : Value.ownBlock (.slice A n c') = some ad.block := by rw [ha]; rfl
    have hl := ho.lt ad.block hb
    rcases hs with hs | hs | hs | hs | ⟨j, hj, hs⟩
    · omega
    · omega
    · omega
    · exact Ow.far h1 ho h.row _ hb (by rw [hs]; rfl)
    · exact Ow.far h2 ho (h.els j hj).2 _ hb hs
  exact ⟨block_keep (heap_alloc_new w _) ((Ext.refl _).alloc _), heap_alloc2_new w _ _, ⟨h.row.ext hE2, h.len, h.dl, fun j hj => ⟨(h.els j hj).1, (h.els j hj).2.ext hE2⟩, h.far⟩, (off (by decide) (by decide) h.tsk).ext hE2, (off (by decide) (by decide) h.dns).ext hE2, hE.trans hE2, hB, hBw, by omega⟩
/-- where it may write, there is memory -/
theorem S5At.lt {w0 w : World} {B V Q g m : Nat} {c : Cw} {ev : Ev} {A1 B1 : Option Addr} {e0 e a b : Nat} {L : List Hd} (h : S5At w0 w B V Q g m c ev A1 B1 e0 e a b L) (hB : B ≤ w.heap.size) : ∀ x, (x < B ∨ x = V ∨ x = Q ∨ x = e0 ∨ ∃ j, j < m ∧ (L.getD j hd0).v.ownBlock = some x) → x < w.heap.size := by
  intro x hx
  rcases hx with hx | hx | hx | hx | ⟨j, hj, hx⟩
  · omega
  · rw [hx]; exact block_lt h.box
  · rw [hx]; exact block_lt h.ebx
  · rw [hx]; exact (h.dq.row.lt e0 rfl).2
  · exact ((h.dq.els j hj).2.lt x hx).2
/-- a task is taken -/
theorem S5At.take {w0 w : World} {B V Q g m : Nat} {c : Cw} {ev : Ev} {A1 B1 : Option Addr} {e0 e a b : Nat} {L : List Hd} (h : S5At w0 w B V Q g m c ev A1 B1 e0 e a b L) {W : World} (hE : Ext w W) (hB : B ≤ w.heap.size) {F : Nat} (hF : F < m) {x : Hd} {xs : List Nat} (hx : Ow kInt w.heap.size W x.v (zs xs)) (hn : x.n = xs.length) (f k : Int) :
    S5At w0 (((W.setCell ⟨e0, F, none⟩ (x.v)).setCell ⟨Q, 1, none⟩ (.int .i64 f)).setCell ⟨Q, 2, none⟩ (.int .i64 k)) B V Q g m ⟨c.ts, c.dn, c.D.set F xs, c.over, c.st, c.id⟩ ⟨ev.wk, f, k, ev.pt⟩ A1 B1 e0 e a b (L.set F x) := by
  have hlt := h.lt hB
  have h' := h.ext' hE
  have n1 : e0 ≠ V := fun hh => h'.dq.row.notBox h'.box (by decide) (by rw [hh]; rfl)
  have n2 : e0 ≠ Q := fun hh => h'.dq.row.notBox h'.ebx (by decide) (by rw [hh]; rfl)
  have n3 : Q ≠ V := fun hh => by have h1 := h'.box; have h2 := h'.ebx; rw [hh, h1] at h2; injection h2 with h2; injection h2 with _ h2; revert h2; decide
  have hp := h'.dq.put hF (hx.mono hB) hn (fun j hj hjF k hk hk2 => by
    have := ((h.dq.els j hj).2.lt k hk).2
    have := (hx.lt k hk2).1
    omega)
  have b1 : (W.setCell ⟨e0, F, none⟩ x.v).heap[V]? = _ := (Below.heap_setCell _ _ _ _ (fun hh => n1 hh.symm)).trans h'.box
  have b2 : (W.setCell ⟨e0, F, none⟩ x.v).heap[Q]? = _ := (Below.heap_setCell _ _ _ _ (fun hh => n2 hh.symm)).trans h'.ebx
  have hS : ∀ {α : Type} {K : Kd α} {v : Value} {ys : List α}, RdO K (fun x => x < B ∨ x = V ∨ x = Q ∨ x = e0 ∨ ∃ j, j < m ∧ (L.getD j hd0).v.ownBlock = some x) w v ys → RdO K (fun x' => x' < B ∨ x' = V ∨ x' = Q ∨ x' = e0 ∨ ∃ j, j < m ∧ ((L.set F x).getD j hd0).v.ownBlock = some x') (((W.setCell ⟨e0, F, none⟩ (x.v)).setCell ⟨Q, 1, none⟩ (.int .i64 f)).setCell ⟨Q, 2, none⟩ (.int .i64 k)) v ys := fun hr => by
    refine hr.later (((((Grew.of hE).setCell (p := ⟨e0, F, none⟩) ?_ _).setCell (p := ⟨Q, 1, none⟩) ?_ _).setCell (p := ⟨Q, 2, none⟩) ?_ _)) ?_
    · exact .inr (.inr (.inr (.inl rfl)))
    · exact .inr (.inr (.inl rfl))
    · exact .inr (.inr (.inl rfl))
    · intro y hy hs
      rcases hs with hs | hs | hs | hs | ⟨j, hj, hs⟩
      · exact .inl hs
      · exact .inr (.inl hs)
      · exact .inr (.inr (.inl hs))
      · exact .inr (.inr (.inr (.inl hs)))
      · rw [getD_setL _ _ _ _ _ (by rw [h.dq.len]; exact hF)] at hs
        by_cases ej : j = F
        · rw [if_pos ej] at hs
          have := (hx.lt y hs).1
          omega
        · rw [if_neg ej] at hs; exact .inr (.inr (.inr (.inr ⟨j, hj, hs⟩)))
  refine ⟨?_, ?_, ?_, hS h.tsk, hS h.dns, (((h.ext.trans hE).setCell (p := ⟨e0, F, none⟩) (Nat.le_trans h.bl (h.dq.row.lt e0 rfl).1) _).setCell (p := ⟨Q, 1, none⟩) (Nat.le_trans h.bl h.ql) _).setCell (p := ⟨Q, 2, none⟩) (Nat.le_trans h.bl h.ql) _, h.bl, h.vl, h.ql⟩
  · exact (Below.heap_setCell _ _ _ _ (fun hh => n3 hh.symm)).trans ((Below.heap_setCell _ _ _ _ (fun hh => n3 hh.symm)).trans b1)
  · exact (set_block (i := 2) (set_block (i := 1) b2 _) _).trans rfl
  · exact (hp.box b2 (by decide) (by decide) _).box (set_block (i := 1) b2 _) (by decide) (by decide) _
/-- the work is another one -/
theorem S5At.work {w0 w : World} {B V Q g m : Nat} {c : Cw} {ev : Ev} {A1 B1 : Option Addr} {e0 e a b : Nat} {L : List Hd} (h : S5At w0 w B V Q g m c ev A1 B1 e0 e a b L) {W : World} (hE : Ext w W) (hB : B ≤ w.heap.size) {ts : List Tk} {dn : List Bool} {A2 B2 : Option Addr} {a2 b2 : Nat} (ht : Rd kTask W (.slice A2 ts.length a2) ts) (hd : Rd kBool W (.slice B2 dn.length b2) dn) (hA : From w.heap.size A2) (hBB : From w.heap.size B2) :
    S5At w0 (((W.setCell ⟨V, 0, none⟩ (.slice A2 ts.length a2)).setCell ⟨V, 1, none⟩ (.int .i64 g)).setCell ⟨V, 2, none⟩ (.slice B2 dn.length b2)) B V Q g m ⟨ts, dn, c.D, c.over, c.st, c.id⟩ ev A2 B2 e0 e a2 b2 L := by
  have hlt := h.lt hB
  have h' := h.ext' hE
  have n1 : e0 ≠ V := fun hh => h'.dq.row.notBox h'.box (by decide) (by rw [hh]; rfl)
  have n3 : Q ≠ V := fun hh => by have h1 := h'.box; have h2 := h'.ebx; rw [hh, h1] at h2; injection h2 with h2; injection h2 with _ h2; revert h2; decide
  have b1 := h'.box
  have b2' := set_block (i := 0) b1 (.slice A2 ts.length a2)
  have b3 := set_block (i := 1) b2' (.int .i64 g)
  have b4 := set_block (i := 2) b3 (.slice B2 dn.length b2)
  refine ⟨b4.trans rfl, ?_, ((h'.dq.box b1 (by decide) (by decide) _).box b2' (by decide) (by decide) _).box b3 (by decide) (by decide) _, ?_, ?_, (((h.ext.trans hE).setCell (p := ⟨V, 0, none⟩) (Nat.le_trans h.bl h.vl) _).setCell (p := ⟨V, 1, none⟩) (Nat.le_trans h.bl h.vl) _).setCell (p := ⟨V, 2, none⟩) (Nat.le_trans h.bl h.vl) _, h.bl, h.vl, h.ql⟩
  · exact (Below.heap_setCell _ _ _ _ n3).trans ((Below.heap_setCell _ _ _ _ n3).trans ((Below.heap_setCell _ _ _ _ n3).trans h'.ebx))
  · exact (((ht.off (fun ad ha hs => by have := hA ad ha; have := hlt _ hs; omega)).setCell (p := ⟨V, 0, none⟩) (.inr (.inl rfl)) _).setCell (p := ⟨V, 1, none⟩) (.inr (.inl rfl)) _).setCell (p := ⟨V, 2, none⟩) (.inr (.inl rfl)) _
  · exact (((hd.off (fun ad ha hs => by have := hBB ad ha; have := hlt _ hs; omega)).setCell (p := ⟨V, 0, none⟩) (.inr (.inl rfl)) _).setCell (p := ⟨V, 1, none⟩) (.inr (.inl rfl)) _).setCell (p := ⟨V, 2, none⟩) (.inr (.inl rfl)) _
/-- a cell of the crew's box -/
theorem S5At.over {w0 w : World} {B V Q g m : Nat} {c : Cw} {ev : Ev} {A1 B1 : Option Addr} {e0 e a b : Nat} {L : List Hd} (h : S5At w0 w B V Q g m c ev A1 B1 e0 e a b L) (ov : Bool) : S5At w0 (w.setCell ⟨V, 4, none⟩ (.bool ov)) B V Q g m ⟨c.ts, c.dn, c.D, ov, c.st, c.id⟩ ev A1 B1 e0 e a b L := by
  have n3 : Q ≠ V := fun hh => by have h1 := h.box; have h2 := h.ebx; rw [hh, h1] at h2; injection h2 with h2; injection h2 with _ h2; revert h2; decide
  exact ⟨(set_block (i := 4) h.box _).trans rfl, (Below.heap_setCell _ _ _ _ n3).trans h.ebx, h.dq.box h.box (by decide) (by decide) _, h.tsk.setCell (p := ⟨V, 4, none⟩) (.inr (.inl rfl)) _, h.dns.setCell (p := ⟨V, 4, none⟩) (.inr (.inl rfl)) _, h.ext.setCell (p := ⟨V, 4, none⟩) (Nat.le_trans h.bl h.vl) _, h.bl, h.vl, h.ql⟩
theorem S5At.idle {w0 w : World} {B V Q g m : Nat} {c : Cw} {ev : Ev} {A1 B1 : Option Addr} {e0 e a b : Nat} {L : List Hd} (h : S5At w0 w B V Q g m c ev A1 B1 e0 e a b L) (i : Nat) : S5At w0 (w.setCell ⟨V, 6, none⟩ (.int .i64 i)) B V Q g m ⟨c.ts, c.dn, c.D, c.over, c.st, i⟩ ev A1 B1 e0 e a b L := by
  have n3 : Q ≠ V := fun hh => by have h1 := h.box; have h2 := h.ebx; rw [hh, h1] at h2; injection h2 with h2; injection h2 with _ h2; revert h2; decide
  exact ⟨(set_block (i := 6) h.box _).trans rfl, (Below.heap_setCell _ _ _ _ n3).trans h.ebx, h.dq.box h.box (by decide) (by decide) _, h.tsk.setCell (p := ⟨V, 6, none⟩) (.inr (.inl rfl)) _, h.dns.setCell (p := ⟨V, 6, none⟩) (.inr (.inl rfl)) _, h.ext.setCell (p := ⟨V, 6, none⟩) (Nat.le_trans h.bl h.vl) _, h.bl, h.vl, h.ql⟩
theorem S5At.parted {w0 w : World} {B V Q g m : Nat} {c : Cw} {ev : Ev} {A1 B1 : Option Addr} {e0 e a b : Nat} {L : List Hd} (h : S5At w0 w B V Q g m c ev A1 B1 e0 e a b L) (pt : Bool) : S5At w0 (w.setCell ⟨Q, 3, none⟩ (.bool pt)) B V Q g m c ⟨ev.wk, ev.fr, ev.tk, pt⟩ A1 B1 e0 e a b L := by
  have n3 : V ≠ Q := fun hh => by have h1 := h.box; have h2 := h.ebx; rw [← hh, h1] at h2; injection h2 with h2; injection h2 with _ h2; revert h2; decide
  exact ⟨(Below.heap_setCell _ _ _ _ n3).trans h.box, (set_block (i := 3) h.ebx _).trans rfl, h.dq.box h.ebx (by decide) (by decide) _, h.tsk.setCell (p := ⟨Q, 3, none⟩) (.inr (.inr (.inl rfl))) _, h.dns.setCell (p := ⟨Q, 3, none⟩) (.inr (.inr (.inl rfl))) _, h.ext.setCell (p := ⟨Q, 3, none⟩) (Nat.le_trans h.bl h.ql) _, h.bl, h.vl, h.ql⟩
theorem S5At.head {w0 w : World} {B V Q g m : Nat} {c : Cw} {ev : Ev} {A1 B1 : Option Addr} {e0 e a b : Nat} {L : List Hd} (h : S5At w0 w B V Q g m c ev A1 B1 e0 e a b L) {j : Nat} (hj : j < m) : w.cell? ⟨e0, j, none⟩ = some (L.getD j hd0).v ∧ ∀ o, w.frozen? ⟨e0, o, none⟩ = false := by
  obtain ⟨g', eg, _, _, h3, h4⟩ := Ow.pos h.dq.row (by rw [h.dq.len]; omega)
  cases eg
  have := h3 j (by rw [h.dq.len]; exact hj) 0 (L.getD j hd0).v rfl
  rw [show j * kRow.n + 0 = j from by show j * 1 + 0 = j; omega] at this
  exact ⟨this, h4⟩
/-- what is left is a crew -/
theorem S5At.crew {w0 w : World} {B V Q g m : Nat} {c : Cw} {ev : Ev} {A1 B1 : Option Addr} {e0 e a b : Nat} {L : List Hd} (h : S5At w0 w B V Q g m c ev A1 B1 e0 e a b L) : CrewO (fun x => x < B) w m c A1 B1 e0 0 a b := by
  refine ⟨h.tsk.mono (fun x _ hx => .inl hx), h.dns.mono (fun x _ hx => .inl hx), ⟨fun j => L.getD j hd0, h.dq.dl, fun j hj => ⟨?_, (h.dq.els j hj).1, ?_⟩⟩, fun hh => by have := (h.dq.row.lt e0 rfl).1; omega⟩
  · obtain ⟨g', eg, _, _, h3, _⟩ := Ow.pos h.dq.row (by rw [h.dq.len]; omega)
    cases eg
    have := h3 j (by rw [h.dq.len]; exact hj) 0 (L.getD j hd0).v rfl
    rw [show 0 + j = j * kRow.n + 0 from by show 0 + j = j * 1 + 0; omega]
    exact this
  · have h1 := (h.dq.els j hj).2
    exact h1.rd.off fun ad ha hs => by
      have := (h1.lt ad.block (by show (Value.ownBlock (.slice _ _ _)) = _; rw [ha]; rfl)).1
      omega
end Go.Proofs.Ytkpbanfpnilifaa

/- One that goes steps: what a store leaves of it. Written by wip/mk_cgo.py. -/
namespace Go.Proofs.Ytkpbanfpnilifaa
open Go.BigFrame
open Go.RowKit Go.Proofs.Ytkpbanfpnilifaa.Plain

section
variable {S : Nat → Prop} {w : World} {V e0 g m : Nat} {c : Cw} {ev : Ev} {A B : Option Addr} {a b e : Nat} {hs : Nat → Hd}
/-- steps -/
theorem GoAt.setSt (h : GoAt S w V e0 g m c ev A B a b e hs) (n : Nat) : GoAt S (w.setCell ⟨V, 5, none⟩ (.int .i64 n)) V e0 g m ⟨c.ts, c.dn, c.D, c.over, n, c.id⟩ ev A B a b e hs where
  sV := h.sV
  sE := h.sE
  sl := fun x hx => by rw [World.size_setCell]; exact h.sl x hx
  ne := h.ne
  v0 := by have := h.v0; go_simp
  v1 := by have := h.v1; go_simp
  v2 := by have := h.v2; go_simp
  v3 := by have := h.v3; go_simp
  v4 := by have := h.v4; go_simp
  v5 := by have := h.v5; go_simp
  v6 := by have := h.v6; go_simp
  v7 := by have := h.v7; go_simp
  v8 := by have := h.v8; go_simp
  v9 := by have := h.v9; go_simp
  v10 := by have := h.v10; go_simp
  fV := fun o => by rw [World.frozen?_setCell]; exact h.fV o
  fE := fun o => by rw [World.frozen?_setCell]; exact h.fE o
  me := h.me
  tsk := (h.tsk.setCell (p := ⟨V, 5, none⟩) h.sV _)
  dns := (h.dns.setCell (p := ⟨V, 5, none⟩) h.sV _)
  dl := h.dl
  hd := fun j hj => by have := h.hd j hj; have := h.ne; rw [World.cell?_setCell_other _ _ _ _ (fun e => by cases e; exact h.ne rfl)]; exact h.hd j hj
  hn := h.hn
  hr := fun j hj => ((h.hr j hj).setCell (p := ⟨V, 5, none⟩) h.sV _)
  hc := h.hc
/-- idle ones -/
theorem GoAt.setId (h : GoAt S w V e0 g m c ev A B a b e hs) (n : Nat) : GoAt S (w.setCell ⟨V, 6, none⟩ (.int .i64 n)) V e0 g m ⟨c.ts, c.dn, c.D, c.over, c.st, n⟩ ev A B a b e hs where
  sV := h.sV
  sE := h.sE
  sl := fun x hx => by rw [World.size_setCell]; exact h.sl x hx
  ne := h.ne
  v0 := by have := h.v0; go_simp
  v1 := by have := h.v1; go_simp
  v2 := by have := h.v2; go_simp
  v3 := by have := h.v3; go_simp
  v4 := by have := h.v4; go_simp
  v5 := by have := h.v5; go_simp
  v6 := by have := h.v6; go_simp
  v7 := by have := h.v7; go_simp
  v8 := by have := h.v8; go_simp
  v9 := by have := h.v9; go_simp
  v10 := by have := h.v10; go_simp
  fV := fun o => by rw [World.frozen?_setCell]; exact h.fV o
  fE := fun o => by rw [World.frozen?_setCell]; exact h.fE o
  me := h.me
  tsk := (h.tsk.setCell (p := ⟨V, 6, none⟩) h.sV _)
  dns := (h.dns.setCell (p := ⟨V, 6, none⟩) h.sV _)
  dl := h.dl
  hd := fun j hj => by have := h.hd j hj; have := h.ne; rw [World.cell?_setCell_other _ _ _ _ (fun e => by cases e; exact h.ne rfl)]; exact h.hd j hj
  hn := h.hn
  hr := fun j hj => ((h.hr j hj).setCell (p := ⟨V, 6, none⟩) h.sV _)
  hc := h.hc
/-- whether it is over -/
theorem GoAt.setOver (h : GoAt S w V e0 g m c ev A B a b e hs) (q : Bool) : GoAt S (w.setCell ⟨V, 4, none⟩ (.bool q)) V e0 g m ⟨c.ts, c.dn, c.D, q, c.st, c.id⟩ ev A B a b e hs where
  sV := h.sV
  sE := h.sE
  sl := fun x hx => by rw [World.size_setCell]; exact h.sl x hx
  ne := h.ne
  v0 := by have := h.v0; go_simp
  v1 := by have := h.v1; go_simp
  v2 := by have := h.v2; go_simp
  v3 := by have := h.v3; go_simp
  v4 := by have := h.v4; go_simp
  v5 := by have := h.v5; go_simp
  v6 := by have := h.v6; go_simp
  v7 := by have := h.v7; go_simp
  v8 := by have := h.v8; go_simp
  v9 := by have := h.v9; go_simp
  v10 := by have := h.v10; go_simp
  fV := fun o => by rw [World.frozen?_setCell]; exact h.fV o
  fE := fun o => by rw [World.frozen?_setCell]; exact h.fE o
  me := h.me
  tsk := (h.tsk.setCell (p := ⟨V, 4, none⟩) h.sV _)
  dns := (h.dns.setCell (p := ⟨V, 4, none⟩) h.sV _)
  dl := h.dl
  hd := fun j hj => by have := h.hd j hj; have := h.ne; rw [World.cell?_setCell_other _ _ _ _ (fun e => by cases e; exact h.ne rfl)]; exact h.hd j hj
  hn := h.hn
  hr := fun j hj => ((h.hr j hj).setCell (p := ⟨V, 4, none⟩) h.sV _)
  hc := h.hc
/-- the event -/
theorem GoAt.setEv (h : GoAt S w V e0 g m c ev A B a b e hs) (x : Ev) : GoAt S ((((w.setCell ⟨V, 7, none⟩ (.int .i64 x.wk)).setCell ⟨V, 8, none⟩ (.int .i64 x.fr)).setCell ⟨V, 9, none⟩ (.int .i64 x.tk)).setCell ⟨V, 10, none⟩ (.bool x.pt)) V e0 g m c x A B a b e hs where
  sV := h.sV
  sE := h.sE
  sl := fun x hx => by rw [World.size_setCell, World.size_setCell, World.size_setCell, World.size_setCell]; exact h.sl x hx
  ne := h.ne
  v0 := by have := h.v0; go_simp
  v1 := by have := h.v1; go_simp
  v2 := by have := h.v2; go_simp
  v3 := by have := h.v3; go_simp
  v4 := by have := h.v4; go_simp
  v5 := by have := h.v5; go_simp
  v6 := by have := h.v6; go_simp
  v7 := by have := h.v7; go_simp
  v8 := by have := h.v8; go_simp
  v9 := by have := h.v9; go_simp
  v10 := by have := h.v10; go_simp
  fV := fun o => by rw [World.frozen?_setCell, World.frozen?_setCell, World.frozen?_setCell, World.frozen?_setCell]; exact h.fV o
  fE := fun o => by rw [World.frozen?_setCell, World.frozen?_setCell, World.frozen?_setCell, World.frozen?_setCell]; exact h.fE o
  me := h.me
  tsk := ((((h.tsk.setCell (p := ⟨V, 7, none⟩) h.sV _).setCell (p := ⟨V, 8, none⟩) h.sV _).setCell (p := ⟨V, 9, none⟩) h.sV _).setCell (p := ⟨V, 10, none⟩) h.sV _)
  dns := ((((h.dns.setCell (p := ⟨V, 7, none⟩) h.sV _).setCell (p := ⟨V, 8, none⟩) h.sV _).setCell (p := ⟨V, 9, none⟩) h.sV _).setCell (p := ⟨V, 10, none⟩) h.sV _)
  dl := h.dl
  hd := fun j hj => by have := h.hd j hj; have := h.ne; rw [World.cell?_setCell_other _ _ _ _ (fun e => by cases e; exact h.ne rfl), World.cell?_setCell_other _ _ _ _ (fun e => by cases e; exact h.ne rfl), World.cell?_setCell_other _ _ _ _ (fun e => by cases e; exact h.ne rfl), World.cell?_setCell_other _ _ _ _ (fun e => by cases e; exact h.ne rfl)]; exact h.hd j hj
  hn := h.hn
  hr := fun j hj => (((((h.hr j hj).setCell (p := ⟨V, 7, none⟩) h.sV _).setCell (p := ⟨V, 8, none⟩) h.sV _).setCell (p := ⟨V, 9, none⟩) h.sV _).setCell (p := ⟨V, 10, none⟩) h.sV _)
  hc := h.hc
/-- its work -/
theorem GoAt.setWork (h : GoAt S w V e0 g m c ev A B a b e hs) {A' B' : Option Addr} {a' b' : Nat} {ts' : List Tk} {dn' : List Bool} (hT : RdO kTask S w (.slice A' ts'.length a') ts') (hD : RdO kBool S w (.slice B' dn'.length b') dn') : GoAt S (((w.setCell ⟨V, 0, none⟩ (.slice A' ts'.length a')).setCell ⟨V, 1, none⟩ (.int .i64 g)).setCell ⟨V, 2, none⟩ (.slice B' dn'.length b')) V e0 g m ⟨ts', dn', c.D, c.over, c.st, c.id⟩ ev A' B' a' b' e hs where
  sV := h.sV
  sE := h.sE
  sl := fun x hx => by rw [World.size_setCell, World.size_setCell, World.size_setCell]; exact h.sl x hx
  ne := h.ne
  v0 := by have := h.v0; go_simp
  v1 := by have := h.v1; go_simp
  v2 := by have := h.v2; go_simp
  v3 := by have := h.v3; go_simp
  v4 := by have := h.v4; go_simp
  v5 := by have := h.v5; go_simp
  v6 := by have := h.v6; go_simp
  v7 := by have := h.v7; go_simp
  v8 := by have := h.v8; go_simp
  v9 := by have := h.v9; go_simp
  v10 := by have := h.v10; go_simp
  fV := fun o => by rw [World.frozen?_setCell, World.frozen?_setCell, World.frozen?_setCell]; exact h.fV o
  fE := fun o => by rw [World.frozen?_setCell, World.frozen?_setCell, World.frozen?_setCell]; exact h.fE o
  me := h.me
  tsk := ((hT.setCell (p := ⟨V, 0, none⟩) h.sV _).setCell (p := ⟨V, 1, none⟩) h.sV _).setCell (p := ⟨V, 2, none⟩) h.sV _
  dns := ((hD.setCell (p := ⟨V, 0, none⟩) h.sV _).setCell (p := ⟨V, 1, none⟩) h.sV _).setCell (p := ⟨V, 2, none⟩) h.sV _
  dl := h.dl
  hd := fun j hj => by have := h.hd j hj; have := h.ne; rw [World.cell?_setCell_other _ _ _ _ (fun e => by cases e; exact h.ne rfl), World.cell?_setCell_other _ _ _ _ (fun e => by cases e; exact h.ne rfl), World.cell?_setCell_other _ _ _ _ (fun e => by cases e; exact h.ne rfl)]; exact h.hd j hj
  hn := h.hn
  hr := fun j hj => ((((h.hr j hj).setCell (p := ⟨V, 0, none⟩) h.sV _).setCell (p := ⟨V, 1, none⟩) h.sV _).setCell (p := ⟨V, 2, none⟩) h.sV _)
  hc := h.hc
/-- a deque's head -/
theorem GoAt.setHd (h : GoAt S w V e0 g m c ev A B a b e hs) (p : Nat) (hp : p < m) (x : Hd) (xs : List Nat) (hn : x.n = xs.length) (hc : x.n = 0 → x.c = 0) (hr : RdO kInt S w x.v (zs xs)) :
    GoAt S (w.setCell ⟨e0, p, none⟩ x.v) V e0 g m ⟨c.ts, c.dn, c.D.set p xs, c.over, c.st, c.id⟩ ev A B a b e (fun j => if j = p then x else hs j) where
  sV := h.sV
  sE := h.sE
  sl := fun y hy => by rw [World.size_setCell]; exact h.sl y hy
  ne := h.ne
  v0 := by rw [World.cell?_setCell_other _ _ _ _ (fun e => by cases e; exact h.ne rfl)]; exact h.v0
  v1 := by rw [World.cell?_setCell_other _ _ _ _ (fun e => by cases e; exact h.ne rfl)]; exact h.v1
  v2 := by rw [World.cell?_setCell_other _ _ _ _ (fun e => by cases e; exact h.ne rfl)]; exact h.v2
  v3 := by rw [World.cell?_setCell_other _ _ _ _ (fun e => by cases e; exact h.ne rfl)]; exact h.v3
  v4 := by rw [World.cell?_setCell_other _ _ _ _ (fun e => by cases e; exact h.ne rfl)]; exact h.v4
  v5 := by rw [World.cell?_setCell_other _ _ _ _ (fun e => by cases e; exact h.ne rfl)]; exact h.v5
  v6 := by rw [World.cell?_setCell_other _ _ _ _ (fun e => by cases e; exact h.ne rfl)]; exact h.v6
  v7 := by rw [World.cell?_setCell_other _ _ _ _ (fun e => by cases e; exact h.ne rfl)]; exact h.v7
  v8 := by rw [World.cell?_setCell_other _ _ _ _ (fun e => by cases e; exact h.ne rfl)]; exact h.v8
  v9 := by rw [World.cell?_setCell_other _ _ _ _ (fun e => by cases e; exact h.ne rfl)]; exact h.v9
  v10 := by rw [World.cell?_setCell_other _ _ _ _ (fun e => by cases e; exact h.ne rfl)]; exact h.v10
  fV := fun o => by rw [World.frozen?_setCell]; exact h.fV o
  fE := fun o => by rw [World.frozen?_setCell]; exact h.fE o
  me := h.me
  tsk := h.tsk.setCell (p := ⟨e0, p, none⟩) h.sE _
  dns := h.dns.setCell (p := ⟨e0, p, none⟩) h.sE _
  dl := by rw [List.length_set]; exact h.dl
  hd := fun j hj => by
    by_cases e : j = p
    · subst e
      rw [if_pos rfl]
      have := h.hd j hj
      go_simp
    · rw [if_neg e, World.cell?_setCell_other _ _ _ _ (fun e' => e (by cases e'; rfl))]
      exact h.hd j hj
  hn := fun j hj => by
    by_cases e : j = p
    · subst e
      rw [if_pos rfl, hn, List.getD_eq_getElem?_getD, List.getElem?_set_self (by rw [h.dl]; exact hj)]; rfl
    · rw [if_neg e, h.hn j hj, List.getD_eq_getElem?_getD, List.getD_eq_getElem?_getD, List.getElem?_set_ne (Ne.symm e)]
  hr := fun j hj => by
    by_cases e : j = p
    · subst e
      rw [if_pos rfl, List.getD_eq_getElem?_getD, List.getElem?_set_self (by rw [h.dl]; exact hj)]
      exact hr.setCell (p := ⟨e0, j, none⟩) h.sE _
    · have := (h.hr j hj).setCell (p := ⟨e0, p, none⟩) h.sE x.v
      rw [if_neg e, List.getD_eq_getElem?_getD, List.getElem?_set_ne (Ne.symm e), ← List.getD_eq_getElem?_getD]
      exact this
  hc := fun j hj => by
    by_cases e : j = p
    · subst e; rw [if_pos rfl]; exact hc
    · rw [if_neg e]; exact h.hc j hj
end
end Go.Proofs.Ytkpbanfpnilifaa

/- The methods of one that goes steps: source, idle, part, do. -/
namespace Go.Proofs.Ytkpbanfpnilifaa
open Go.BigFrame
open Go.RowKit Go.Proofs.Ytkpbanfpnilifaa.Plain

def srcI (D : List (List Nat)) (P Q : Nat) : Int := match srcN D P Q with
  | some F => F
  | none => -1
set_option maxHeartbeats 800000 in
set_option maxRecDepth 100000 in
theorem source_any {S : Nat → Prop} {V e0 g m : Nat} {c : Cw} {ev : Ev} {A B : Option Addr} {a b e : Nat} {hs : Nat → Hd} (P Q : Nat) (w : World) (h : GoAt S w V e0 g m c ev A B a b e hs) (hP : P < m) (hQ : Q < m) (m2 : m ≤ 8) :
    Calls Try.prog 60 #[.pointer (some ⟨V, 0, none⟩), .int .i64 P, .int .i64 Q] w fun ed w' => ed = .returned (.int .i64 (srcI c.D P Q)) ∧ w = w' := by
  have i0 : ∀ w, (Instr.index 112 (.agg #[.int .i64 (P : Int), .int .i64 (Q : Int)]) (.int .i64 0)).run Try.prog w = .ok (.int .i64 (P : Int)) w := fun _ => by kernel_rfl
  have i1 : ∀ w, (Instr.index 112 (.agg #[.int .i64 (P : Int), .int .i64 (Q : Int)]) (.int .i64 1)).run Try.prog w = .ok (.int .i64 (Q : Int)) w := fun _ => by kernel_rfl
  have v3 := h.v3
  have hm0 : (P : Int) < m := by omega
  have hm1 : (Q : Int) < m := by omega
  have hP0 : (0 : Int) ≤ P := by omega
  have hQ0 : (0 : Int) ≤ Q := by omega
  have hm8 : (m : Int) ≤ 8 := by omega
  have zP := h.hd P hP
  have zQ := h.hd Q hQ
  have nP := h.hn P hP
  have nQ := h.hn Q hQ
  unfold Hd.v at zP zQ
  obtain ⟨u1, hu1⟩ : ∃ x, (hs P).n = x := ⟨_, rfl⟩
  obtain ⟨u2, hu2⟩ : ∃ x, (hs Q).n = x := ⟨_, rfl⟩
  rw [hu1] at zP nP
  rw [hu2] at zQ nQ
  obtain ⟨r, hr⟩ : ∃ r, srcI c.D P Q = r := ⟨_, rfl⟩
  rw [hr]
  unfold srcI srcN at hr
  by_cases h1 : u1 = 0
  · have e1 : c.D.getD P [] = [] := List.eq_nil_of_length_eq_zero (by omega)
    have d1 : ¬ (0 : Int) < u1 := by omega
    by_cases h2 : u2 = 0
    · have e2 : c.D.getD Q [] = [] := List.eq_nil_of_length_eq_zero (by omega)
      have d2 : ¬ (0 : Int) < u2 := by omega
      rw [if_neg (by rw [e1]; simp), if_neg (by rw [e2]; simp)] at hr
      have HR : Hid (-1 = r) := Lib.hid hr
      subst h1 h2
      clear hr e1 e2 nP nQ h hu1 hu2
      go_enter Try.func60, Try.ntmps60
      go_wp2_with fail
      go_loop [12] (fun i => i = .int .i64 0 ∨ i = .int .i64 1 ∨ i = .int .i64 2) (fun i => 2 - (intOf i).toNat)
      case atStart => exact .inl rfl
      case round =>
        rcases hrel with rfl | rfl | rfl
        · go_wp2_with fail
          go_round
          case rel => exact .inr (.inl rfl)
          case measure => simp [intOf]
        · go_wp2_with fail
          go_round
          case rel => exact .inr (.inr rfl)
          case measure => simp [intOf]
        · go_wp2_with fail
          go_ret
          exact ⟨ret_int HR.out, rfl⟩
    · have e2 : c.D.getD Q [] ≠ [] := fun hh => h2 (by rw [nQ, hh]; rfl)
      have d2 : (0 : Int) < u2 := by omega
      rw [if_neg (by rw [e1]; simp), if_pos e2] at hr
      have HR : Hid ((Q : Int) = r) := Lib.hid hr
      subst h1
      clear hr e1 e2 nP nQ h hu1 hu2
      go_enter Try.func60, Try.ntmps60
      go_wp2_with fail
      go_loop [12] (fun i => i = .int .i64 0 ∨ i = .int .i64 1) (fun i => 2 - (intOf i).toNat)
      case atStart => exact .inl rfl
      case round =>
        rcases hrel with rfl | rfl
        · go_wp2_with fail
          go_round
          case rel => exact .inr rfl
          case measure => simp [intOf]
        · go_wp2_with fail
          go_ret
          exact ⟨ret_int HR.out, rfl⟩
  · have e1 : c.D.getD P [] ≠ [] := fun hh => h1 (by rw [nP, hh]; rfl)
    have d1 : (0 : Int) < u1 := by omega
    rw [if_pos e1] at hr
    have HR : Hid ((P : Int) = r) := Lib.hid hr
    clear hr e1 nP nQ h hu1 hu2
    go_enter Try.func60, Try.ntmps60
    go_wp2_with fail
    go_loop [12] (fun i => i = .int .i64 0) (fun i => 2 - (intOf i).toNat)
    case atStart => exact rfl
    case round =>
      obtain rfl := hrel
      go_wp2_with fail
      go_ret
      exact ⟨ret_int HR.out, rfl⟩

set_option maxHeartbeats 800000 in
set_option maxRecDepth 100000 in
theorem idle_any {S : Nat → Prop} {V e0 g m : Nat} {c : Cw} {ev : Ev} {A B : Option Addr} {a b e : Nat} {hs : Nat → Hd} (P : Nat) (w : World) (h : GoAt S w V e0 g m c ev A B a b e hs) (hst : c.st < 100000) (hid : c.id < 100000) :
    Calls Try.prog 61 #[.pointer (some ⟨V, 0, none⟩), .int .i64 P] w fun ed w' => ed = .returned (.tuple #[]) ∧ GoAt S w' V e0 g m ⟨c.ts, c.dn, c.D, c.over, c.st + 1, c.id + 1⟩ ⟨P, -1, -1, false⟩ A B a b e hs ∧ GrewG V e0 w w' := by
  have H := Lib.hid h
  obtain ⟨v5, v6, v7, v8, v9, v10, fV⟩ := And.intro h.v5 (And.intro h.v6 (And.intro h.v7 (And.intro h.v8 (And.intro h.v9 (And.intro h.v10 h.fV)))))
  have s1 : (c.st : Int) < 100000 := by omega
  have s2 : (0 : Int) ≤ c.st := by omega
  have s3 : (c.id : Int) < 100000 := by omega
  have s4 : (0 : Int) ≤ c.id := by omega
  have lV : V < w.heap.size := h.sl V h.sV
  clear h
  go_enter Try.func61, Try.ntmps61
  go_wp2_with fail
  go_end0
  refine ⟨rfl, ((H.out.setSt (c.st + 1)).setId (c.id + 1)).setEv ⟨P, -1, -1, false⟩, ?_⟩
  exact (((((((Grew.refl (fun x => x = V ∨ x = e0) w).setCell (p := ⟨V, 5, none⟩) (.inl rfl) _).setCell (p := ⟨V, 6, none⟩) (.inl rfl) _).setCell (p := ⟨V, 7, none⟩) (.inl rfl) _).setCell (p := ⟨V, 8, none⟩) (.inl rfl) _).setCell (p := ⟨V, 9, none⟩) (.inl rfl) _).setCell (p := ⟨V, 10, none⟩) (.inl rfl) _)

set_option maxHeartbeats 1600000 in
set_option maxRecDepth 100000 in
theorem part_go {S : Nat → Prop} {V e0 g m : Nat} {c : Cw} {ev : Ev} {A B : Option Addr} {a b e n : Nat} {hs : Nat → Hd} (k : Nat) (w : World) (h : GoAt S w V e0 g m c ev A B a b e hs) (hn : c.dn.length = n) (hr : wRight c.ts (g : Int) n = true) (hk : k < c.ts.length) (hgr : wGreat c.ts (g : Int) n k = true) (hw0 : (T c.ts k).wt = 0) (hl : c.ts.length ≤ 1998) (g2 : g ≤ 100) (n2 : n ≤ 1000) :
    Calls Try.prog 69 #[.pointer (some ⟨V, 0, none⟩), .int .i64 k] w fun ed w' => ∃ (A' B' : Option Addr) (a' b' H : Nat), ed = .returned (.tuple #[.slice (some ⟨H, 0, none⟩) 2 2, .int .i64 0]) ∧ GoAt S w' V e0 g m ⟨partedL c.ts k, c.dn, c.D, c.over, c.st, c.id⟩ ev A' B' a' b' e hs ∧
      Ow kInt w.heap.size w' (.slice (some ⟨H, 0, none⟩) 2 2) [((c.ts.length + 1 : Nat) : Int), (c.ts.length : Int)] ∧ GrewG V e0 w w' := by
  have H := Lib.hid h
  have v0 := h.v0
  have v1 := h.v1
  have v2 := h.v2
  have fV := h.fV
  have lV : V < w.heap.size := h.sl V h.sV
  have HPE : Hid (partErr c.ts (g : Int) n (k : Int) = 0) := Lib.hid (partErr_ok hr hk hgr hw0 hl)
  have HGI : Hid (in64 (g : Int)) := Lib.hid (in64_nat g (by omega))
  have HKI : Hid (in64 (k : Int)) := Lib.hid (in64_nat k (by omega))
  have HN := Lib.hid hn
  have l1 : c.ts.length ≤ 1048576 := by omega
  have l2 : n ≤ 1048576 := by omega
  clear h hn
  go_enter Try.func69, Try.ntmps69
  go_wp2_with fail
  refine (part_to _ _ _ _ c.ts.length c.dn.length (c.ts.length + 2) c.ts (partedL c.ts k) c.dn (g : Int) (k : Int) (c.ts.length : Int) ((c.ts.length : Int) + 1) _ H.out.tsk.rd H.out.dns.rd rfl rfl HGI.out HKI.out l1 (by rw [HN.out]; exact l2) (by rw [HN.out]; exact HPE.out) (by rw [Int.toNat_natCast]; rfl) (partedL_len c.ts k) rfl rfl).mono ?_
  rintro ed w1 ⟨A1, a1, B1, b1, rfl, hT, hD, hA, hB, hE⟩
  have H1 := Lib.hid (H.out.ext hE)
  have x0 := hE.cell v0
  have x1 := hE.cell v1
  have x2 := hE.cell v2
  have xf : ∀ o, w1.frozen? ⟨V, o, none⟩ = false := fun o => (Below.frozen hE (p := ⟨V, o, none⟩) lV).trans (fV o)
  have hz := hE.size
  have lV1 : V < w1.heap.size := by omega
  have HT1 : Hid (RdO kTask S w1 (.slice A1 (c.ts.length + 2) a1) (partedL c.ts k)) := Lib.hid (hT.offFrom hA H.out.sl)
  have HD1 : Hid (RdO kBool S w1 (.slice B1 c.dn.length b1) c.dn) := Lib.hid (hD.offFrom hB H.out.sl)
  have HE1 := Lib.hid hE
  clear hT hD hA hB hE v0 v1 v2 fV
  go_wp2_with fail
  go_ret2
  refine ⟨A1, B1, a1, b1, _, rfl, ?_, ?_, ?_⟩
  · have hT2 : RdO kTask S w1 (.slice A1 (partedL c.ts k).length a1) (partedL c.ts k) := by rw [partedL_len]; exact HT1.out
    have h3 := (H1.out.setWork hT2 HD1.out)
    rw [partedL_len] at h3
    have h4 := (h3.ext ((Ext.refl _).alloc (.cells #[.slice A1 (c.ts.length + 2) a1, .int .i64 g, .slice B1 c.dn.length b1] 78))).ext ((Ext.refl _).alloc (.cells #[.int .i64 ((c.ts.length : Int) + 1), .int .i64 (c.ts.length : Int)] 3))
    exact h4
  · exact Ow.lit (K := kInt) _ [((c.ts.length + 1 : Nat) : Int), (c.ts.length : Int)] _ rfl rfl (by simp) (by omega) (by simp [maxLen]) (by intro x hx; simp only [List.mem_cons, List.not_mem_nil, or_false] at hx; rcases hx with rfl | rfl <;> exact in64_nat _ (by omega))
  · exact ((((((Grew.of HE1.out).setCell (p := ⟨V, 0, none⟩) (.inl rfl) _).setCell (p := ⟨V, 1, none⟩) (.inl rfl) _).setCell (p := ⟨V, 2, none⟩) (.inl rfl) _).alloc _).alloc _)

set_option maxHeartbeats 1600000 in
set_option maxRecDepth 100000 in
theorem do_go {S : Nat → Prop} {V e0 g m : Nat} {c : Cw} {ev : Ev} {A B : Option Addr} {a b e n : Nat} {hs : Nat → Hd} (k : Nat) (w : World) (h : GoAt S w V e0 g m c ev A B a b e hs) (hn : c.dn.length = n) (hr : wRight c.ts (g : Int) n = true) (hk : k < c.ts.length) (hgr : wGreat c.ts (g : Int) n k = false) (hw0 : (T c.ts k).wt = 0) (_hlo : 0 ≤ (T c.ts k).lo) (hlh : (T c.ts k).lo ≤ (T c.ts k).hi) (hhn : (T c.ts k).hi ≤ n) (hdn : c.dn.getD (T c.ts k).lo.toNat false = false) (hov : c.over = false) (hl : c.ts.length ≤ 1998) (g2 : g ≤ 100) (n2 : n ≤ 1000) :
    Calls Try.prog 70 #[.pointer (some ⟨V, 0, none⟩), .int .i64 k] w fun ed w' => ∃ (A' B' : Option Addr) (a' b' : Nat), ed = .returned (.int .i64 0) ∧ GoAt S w' V e0 g m ⟨(climb (c.ts.length + 1) c.ts (T c.ts k).up).1, marked c.dn (T c.ts k).lo.toNat (T c.ts k).hi.toNat, c.D, c.over || (climb (c.ts.length + 1) c.ts (T c.ts k).up).2, c.st, c.id⟩ ev A' B' a' b' e hs ∧ GrewG V e0 w w' := by
  have H := Lib.hid h
  have v0 := h.v0
  have v1 := h.v1
  have v2 := h.v2
  have v4 := h.v4
  rw [hov] at v4
  have fV := h.fV
  have lV : V < w.heap.size := h.sl V h.sV
  have HOV := Lib.hid hov
  have HPE : Hid (doErr c.ts (g : Int) c.dn (k : Int) = 0) := Lib.hid (doErr_zero (by rw [hn]; exact hr) hk (by rw [hn]; exact hgr) hw0 hdn)
  have HGI : Hid (in64 (g : Int)) := Lib.hid (in64_nat g (by omega))
  have HKI : Hid (in64 (k : Int)) := Lib.hid (in64_nat k (by omega))
  obtain ⟨us, q, hcl⟩ : ∃ us q, climb (c.ts.length + 1) c.ts (T c.ts k).up = (us, q) := ⟨_, _, rfl⟩
  have hul : us.length = c.ts.length := by have := climb_len (c.ts.length + 1) c.ts (T c.ts k).up; rw [hcl] at this; exact this
  obtain ⟨dn', hmk⟩ : ∃ dn', marked c.dn (T c.ts k).lo.toNat (T c.ts k).hi.toNat = dn' := ⟨_, rfl⟩
  have hml : dn'.length = c.dn.length := by rw [← hmk]; exact marked_len _ _ _ (by omega) (by omega)
  have HCL := Lib.hid hcl
  have HMK := Lib.hid hmk
  have HUL := Lib.hid hul
  have HML := Lib.hid hml
  have HN := Lib.hid hn
  have l1 : c.ts.length ≤ 1048576 := by omega
  have l2 : n ≤ 1048576 := by omega
  rw [hcl, hmk]
  clear h hn hov hcl hmk hul hml hdn
  go_enter Try.func70, Try.ntmps70
  go_wp2_with fail
  refine (do_to _ _ _ _ c.ts.length c.dn.length c.ts us c.dn dn' (g : Int) (k : Int) q _ H.out.tsk.rd H.out.dns.rd rfl rfl HGI.out HKI.out l1 (by rw [HN.out]; exact l2) HPE.out (by rw [Int.toNat_natCast]; exact HCL.out) (by rw [Int.toNat_natCast]; exact HMK.out)).mono ?_
  rintro ed w1 ⟨A1, a1, B1, b1, rfl, hT, hD, hA, hB, hE⟩
  have H1 := Lib.hid (H.out.ext hE)
  have x0 := hE.cell v0
  have x1 := hE.cell v1
  have x2 := hE.cell v2
  have x4 := hE.cell v4
  have xf : ∀ o, w1.frozen? ⟨V, o, none⟩ = false := fun o => (Below.frozen hE (p := ⟨V, o, none⟩) lV).trans (fV o)
  have hz := hE.size
  have lV1 : V < w1.heap.size := by omega
  have HT1 : Hid (RdO kTask S w1 (.slice A1 us.length a1) us) := Lib.hid (by rw [HUL.out]; exact hT.offFrom hA H.out.sl)
  have HD1 : Hid (RdO kBool S w1 (.slice B1 dn'.length b1) dn') := Lib.hid (by rw [HML.out]; exact hD.offFrom hB H.out.sl)
  have HE1 := Lib.hid hE
  clear hT hD hA hB hE v0 v1 v2 v4 fV
  go_wp2_with fail
  go_ret
  refine ⟨A1, B1, a1, b1, rfl, ?_, ?_⟩
  · have h3 := (H1.out.setWork HT1.out HD1.out)
    rw [HUL.out, HML.out] at h3
    have h5 := (h3.setOver q).ext ((Ext.refl _).alloc (.cells #[.slice A1 c.ts.length a1, .int .i64 g, .slice B1 c.dn.length b1] 78))
    rw [HOV.out, Bool.false_or]
    exact h5
  · exact ((((((Grew.of HE1.out).setCell (p := ⟨V, 0, none⟩) (.inl rfl) _).setCell (p := ⟨V, 1, none⟩) (.inl rfl) _).setCell (p := ⟨V, 2, none⟩) (.inl rfl) _).setCell (p := ⟨V, 4, none⟩) (.inl rfl) _).alloc _)
end Go.Proofs.Ytkpbanfpnilifaa

/- One that goes steps goes at a task. -/
namespace Go.Proofs.Ytkpbanfpnilifaa
open Go.BigFrame
open Go.RowKit Go.Proofs.Ytkpbanfpnilifaa.Plain

/-- two numbers are appended to a list without room: new memory -/
theorem step_grow2 {ops : Array Oper} {o : Oper} {a : Act} {w : World} {K : Act → World → Prop} {Q : Exit → Act → World → Prop} {E : Prop} (hg : o.guard = none) (s x : Operand)
    (hop : o.op = Op.call { callee := Callee.builtin Builtin.append, args := #[s, x], argTypes := #[30, 30] }) (hty : o.type = 30) (y : Hd) (xs : List Nat) (i j : Nat) (H : Nat)
    (hs : a.eval s = y.v) (hn : y.n = xs.length) (hfull : y.c = y.n) (hr : Rd kInt w y.v (zs xs)) (hx : a.eval x = .slice (some ⟨H, 0, none⟩) 2 2) (ho : Rd kInt w (.slice (some ⟨H, 0, none⟩) 2 2) [(i : Int), (j : Int)]) (hl : xs.length ≤ 1000000)
    (hK : ∀ (z : Hd) (w' : World), z.n = (xs ++ [i, j]).length → (z.n = 0 → z.c = 0) → Ext w w' → (∀ S : Nat → Prop, (∀ x, S x → x < w.heap.size) → RdO kInt S w' z.v (zs (xs ++ [i, j]))) → K (a.put o.dst z.v) w') :
    if Region.wanted o (yielded ops a.tmps) = true then Oper.wp Try.prog o a w K Q else E := by
  obtain ⟨i0, hi, hz0, hz1, hz2⟩ := info_parts intInfo
  obtain ⟨A, n, c⟩ := y
  obtain rfl : n = xs.length := hn
  obtain rfl : c = xs.length := hfull
  have hr2 := ho.at_
  have hbd : ∀ u ∈ zs (xs ++ [i, j]), in64 u := by
    intro u hu
    rw [show zs (xs ++ [i, j]) = zs xs ++ [(i : Int), (j : Int)] by unfold zs; simp] at hu
    rcases List.mem_append.1 hu with h | h
    · exact hr.2.1 u h
    · exact ho.2.1 u h
  refine step_append_grows hg s x 30 hop 3 i0 (.int .i64 0) 1 8 Try.underlying30 hi hz0 hz1 hz2 rfl (by decide) A xs.length xs.length (kInt.flat (zs xs)) hs ?_ ?_ ?_ ⟨H, 0, none⟩ 2 2 (kInt.flat [(i : Int), (j : Int)]) hx ?_ hr2 ?_ (by omega) (by unfold maxLen; omega) (by omega) ?_
  · intro hA
    have h0 : xs.length = 0 := by
      rcases Nat.eq_zero_or_pos xs.length with h | h
      · exact h
      · obtain ⟨b, off, hh, _⟩ := hr.cells (by rw [zs_len]; exact h)
        rw [hA] at hh; cases hh
    exact ⟨h0, h0⟩
  · rw [kInt.flat_len, zs_len]; rfl
  · intro b hb
    subst hb
    exact hr.at_
  · rw [kInt.flat_len]; rfl
  · intro u hu; exact kInt.flat_mem hu
  · intro v' w' hown hgr
    have hO : Ow kInt w.heap.size w' v' (zs (xs ++ [i, j])) := by
      refine ⟨?_, hbd⟩
      rw [zs_len, List.length_append, show zs (xs ++ [i, j]) = zs xs ++ [(i : Int), (j : Int)] by unfold zs; simp, kInt.flat_app]
      exact hown
    obtain ⟨A', c', rfl, _⟩ := hO.slice
    rw [zs_len] at hO ⊢
    have hE : Ext w w' := (Ext.refl w).grown hgr (fun k hk => by cases hk)
    exact hK ⟨A', (xs ++ [i, j]).length, c'⟩ w' rfl (fun h => by simp at h) hE fun S hS => hO.rd.offFrom hO.from hS

/-- nothing is appended -/
theorem run_app_none (w : World) (y : Hd) (h : y.n ≤ y.c) : (Builtin.append_ #[30, 30] 30 #[y.v, .slice none 0 0]).run Try.prog w = .ok y.v w := by
  obtain ⟨i0, hi, hz0, hz1, hz2⟩ := info_parts intInfo
  obtain ⟨A, n, c⟩ := y
  have h' : n ≤ c := h
  cases A with
  | none => simp [Builtin.append_, run_underlying Try.underlying30, sizeOf, typeInfo, hi, Builtin.lenOf, Builtin.firstCells, storeCells, h']
  | some ad => simp [Builtin.append_, run_underlying Try.underlying30, sizeOf, typeInfo, hi, Builtin.lenOf, Builtin.firstCells, storeCells, h']
theorem step_none {ops : Array Oper} {o : Oper} {a : Act} {w : World} {K : Act → World → Prop} {Q : Exit → Act → World → Prop} {E : Prop} (hg : o.guard = none) (s x : Operand)
    (ho : o.op = Op.call { callee := Callee.builtin Builtin.append, args := #[s, x], argTypes := #[30, 30] }) (hty : o.type = 30) (y : Hd)
    (hs : a.eval s = y.v) (hn : y.n ≤ y.c) (hx : a.eval x = .slice none 0 0) (hK : K (a.put o.dst y.v) w) :
    if Region.wanted o (yielded ops a.tmps) = true then Oper.wp Try.prog o a w K Q else E := by
  have hw : Region.wanted o (yielded ops a.tmps) = true := by simp [Region.wanted, hg]
  rw [if_pos hw]
  unfold Oper.wp execOp
  simp only [ho, hty, resolve, invoke, builtin, Sem.run_bind, Sem.run_pure, Result.andThen_ok, List.map_toArray, List.map_cons, List.map_nil, hs, hx, run_app_none w y hn]
  exact hK

/-- behind the appending -/
def AppCut (S : Nat → Prop) (w6 : World) (e0 P : Nat) (ys : List Nat) (wx : World) : Prop :=
  ∃ (z : Hd) (w7 : World), z.n = ys.length ∧ (z.n = 0 → z.c = 0) ∧ Ext w6 w7 ∧ RdO kInt S w7 z.v (zs ys) ∧ wx = w7.setCell ⟨e0, P, none⟩ z.v
/-- behind the taking -/
def TakeCut (w : World) (D : List (List Nat)) (P F : Nat) (r k q : Value) (wx : World) : Prop :=
  ∃ y : Hd, r = y.v ∧ k = .int .i64 ((takeN D P F).1 : Nat) ∧ q = .int .i64 0 ∧ y.n = (takeN D P F).2.length ∧ (y.n = 0 → y.c = 0) ∧ (F = P → y.c = y.n) ∧ (∀ S : Nat → Prop, (∀ x, S x → x < w.heap.size) → RdO kInt S wx y.v (zs (takeN D P F).2)) ∧ Ext w wx
/-- what goAt, and step, leave -/
def GoSaid (S : Nat → Prop) (V e0 g m e : Nat) (r : Cw × Ev) (w : World) (ed : Ending) (w' : World) : Prop :=
  ∃ (A' B' : Option Addr) (a' b' : Nat) (hs' : Nat → Hd), ed = .returned (.int .i64 0) ∧ GoAt S w' V e0 g m r.1 r.2 A' B' a' b' e hs' ∧ GrewG V e0 w w'
theorem set_getD_same (D : List (List Nat)) (P : Nat) (hP : P < D.length) : D.set P (D.getD P []) = D := by
  rw [getDp hP]; exact List.set_getElem_self hP
set_option maxHeartbeats 6400000 in
set_option maxRecDepth 100000 in
theorem goAt_any {S : Nat → Prop} {V e0 g n m : Nat} {c : Cw} {ev : Ev} {A B : Option Addr} {a b e : Nat} {hs : Nat → Hd} {done : Nat} {G : List Nat} (P F : Nat) (w : World) (h : GoAt S w V e0 g m c ev A B a b e hs) (hI : CwI g n m c done G) (hP : P < m) (hF : F < m) (hne : c.D.getD F [] ≠ []) (hFP : F = P ∨ c.D.getD P [] = [])
    (n1 : 1 ≤ n) (n2 : n ≤ 900) (g1 : 1 ≤ g) (g2 : g ≤ 100) (m2 : m ≤ 8) (hst : c.st < 100000) :
    Calls Try.prog 62 #[.pointer (some ⟨V, 0, none⟩), .int .i64 P, .int .i64 F] w (GoSaid S V e0 g m e (goP g c P F) w) := by
  have H := Lib.hid h
  have HI := Lib.hid hI
  have HNE := Lib.hid hne
  have HFP := Lib.hid hFP
  have v3 := h.v3
  have zF := h.hd F hF
  have nF := h.hn F hF
  have HRF : Hid (Rd kInt w (hs F).v (zs (c.D.getD F []))) := Lib.hid (h.hr F hF).rd
  have HNF := Lib.hid nF
  have hfl : (c.D.getD F []).length ≤ 4000 := by
    have h1 := hI.few g1 n1
    have h2 := (CrI.fresh hI).2.2.2
    have h3 := (held_at c.D F (by rw [h.dl]; exact hF)).length_eq
    rw [List.length_append] at h3
    omega
  have hF0 : (0 : Int) ≤ F := by omega
  have hF1 : (F : Int) < m := by omega
  have hP0 : (0 : Int) ≤ P := by omega
  have hP1 : (P : Int) < m := by omega
  have m3 : (m : Int) ≤ 8 := by omega
  have lV : V < w.heap.size := h.sl V h.sV
  have lE : e0 < w.heap.size := h.sl e0 h.sE
  clear h hI hne hFP nF
  go_enter Try.func62, Try.ntmps62
  go_upto_if 15 with fail
  go_cut [7] (fun t wx => w = wx ∧ ((F = P ∧ t = .func (.func 66) #[] #[]) ∨ (F ≠ P ∧ t = .func (.func 67) #[] #[])))
  case first =>
    by_cases e : F = P
    · subst e
      go_wp2_with fail
      go_meet
      exact ⟨rfl, .inl ⟨trivial, rfl⟩⟩
    · have e1 : ¬ (F : Int) = P := by omega
      go_wp2_with fail
      go_meet
      exact ⟨rfl, .inr ⟨e, rfl⟩⟩
  case rest =>
  obtain ⟨rfl, htake⟩ := hcut
  go_upto_region 4 with fail
  go_cut [8, 9, 10] (fun r k q wx => TakeCut w c.D P F r k q wx)
  case first =>
    rcases htake with ⟨e, rfl⟩ | ⟨e, rfl⟩
    · have HTK : Hid (takeN c.D P F = ((c.D.getD F []).getLastD 0, (c.D.getD F []).dropLast)) := Lib.hid (by unfold takeN; rw [if_pos e])
      have HE := Lib.hid e
      clear e
      go_wp2_with fail
      refine (pop_go (hs F) (c.D.getD F []) _ HRF.out HNF.out hfl HNE.out).mono ?_
      rintro ed w1 ⟨y, rfl, y1, y2, y3, hE1⟩
      have HY := Lib.hid (And.intro y1 (And.intro y2 (And.intro y3 hE1)))
      clear y1 y2 y3 hE1
      go_wp2_with fail
      go_meet
      obtain ⟨y1, y2, y3, hE1⟩ := HY.out
      refine ⟨y, rfl, by rw [HTK.out]; simp, rfl, by rw [HTK.out]; exact y1, fun h0 => by rw [y2]; exact h0, fun _ => y2, by rw [HTK.out]; exact y3, hE1⟩
    · have HTK : Hid (takeN c.D P F = ((c.D.getD F []).headD 0, (c.D.getD F []).tail)) := Lib.hid (by unfold takeN; rw [if_neg e])
      have HE := Lib.hid e
      clear e
      go_wp2_with fail
      refine (steal_go (hs F) (c.D.getD F []) _ HRF.out HNF.out hfl HNE.out).mono ?_
      rintro ed w1 ⟨y, rfl, y1, y2, y3, hE1⟩
      have HY := Lib.hid (And.intro y1 (And.intro y2 (And.intro y3 hE1)))
      clear y1 y2 y3 hE1
      go_wp2_with fail
      go_meet
      obtain ⟨y1, y2, y3, hE1⟩ := HY.out
      refine ⟨y, rfl, by rw [HTK.out]; simp, rfl, by rw [HTK.out]; exact y1, y2, fun hh => absurd hh HE.out, by rw [HTK.out]; exact y3, hE1⟩
  case rest =>
  obtain ⟨y, rfl, rfl, rfl, y1, y2, y3, y4, hE1⟩ := hcut
  clear htake
  have hmem : (takeN c.D P F).1 ∈ held c.D := (take_held (P := P) (by rw [H.out.dl]; exact hF) HNE.out).mem_iff.2 List.mem_cons_self
  obtain ⟨k, hk⟩ : ∃ k, (takeN c.D P F).1 = k := ⟨_, rfl⟩
  obtain ⟨R, hR⟩ : ∃ R, (takeN c.D P F).2 = R := ⟨_, rfl⟩
  rw [hk] at hmem ⊢
  rw [hR] at y1 y4
  have hO := CrI.inv HI.out
  have hkl := hO.lt k hmem
  have hfew := HI.out.few g1 n1
  have HKM := Lib.hid hmem
  have HTK : Hid (takeN c.D P F = (k, R)) := Lib.hid (by rw [← hk, ← hR])
  have HY := Lib.hid (And.intro y1 (And.intro y2 (And.intro y3 y4)))
  have H1 := Lib.hid (H.out.ext hE1)
  have HE1 := Lib.hid hE1
  have hk1 : (k : Int) < c.ts.length := by omega
  have hk0 : (0 : Int) ≤ k := by omega
  obtain ⟨ta, to', hA, hct⟩ := Rd.tasks H1.out.tsk.rd (by omega : 0 < c.ts.length)
  obtain ⟨q0, q1, q2, q3⟩ := hct k hkl
  obtain ⟨⟨lo, hi', up, wt⟩, ht⟩ : ∃ t, c.ts.getD k ⟨0, 0, 0, 0⟩ = t := ⟨_, rfl⟩
  rw [ht] at q0 q1 q2 q3
  simp only at q0 q1 q2 q3
  have htT : T c.ts k = ⟨lo, hi', up, wt⟩ := ht
  have HT := Lib.hid htT
  have x0 := H1.out.v0
  have x1 := H1.out.v1
  have x2 := H1.out.v2
  have x3 := H1.out.v3
  have htask := hO.task k hkl
  rw [htT] at htask
  simp only at htask
  have HTB := Lib.hid htask
  have hsz := (hO.szpos k hmem).2.2
  rw [htT] at hsz
  simp only at hsz
  have hD0 : (hi' - lo : Int) = (sz c.ts k : Int) := hsz
  have HDI : Hid (in64 (hi' - lo)) := Lib.hid (by unfold in64; omega)
  have HGI : Hid (in64 (g : Int)) := Lib.hid (in64_nat g (by omega))
  subst hA
  clear hk hR y1 y2 y3 y4 hE1 hct ht htT hsz hmem zF v3
  have KS : Hid (∀ w', Ext wc w' → w'.cell? ⟨V, 0, none⟩ = some (.slice (some ⟨ta, to', none⟩) c.ts.length a) ∧ w'.cell? ⟨V, 1, none⟩ = some (.int .i64 g) ∧ w'.cell? ⟨V, 2, none⟩ = some (.slice B c.dn.length b) ∧ w'.cell? ⟨V, 3, none⟩ = some (.slice (some ⟨e0, 0, none⟩) m e) ∧ w'.cell? ⟨ta, to' + k * 4, none⟩ = some (.int .i64 lo) ∧ w'.cell? ⟨ta, to' + k * 4 + 1, none⟩ = some (.int .i64 hi') ∧ w'.cell? ⟨ta, to' + k * 4 + 2, none⟩ = some (.int .i64 up) ∧ w'.cell? ⟨ta, to' + k * 4 + 3, none⟩ = some (.int .i64 wt)) := Lib.hid fun w' hE => ⟨hE.cell x0, hE.cell x1, hE.cell x2, hE.cell x3, hE.cell q0, hE.cell q1, hE.cell q2, hE.cell q3⟩
  have HGR : Hid (∀ w', Ext wc w' → Calls Try.prog 68 #[.agg #[.slice (some ⟨ta, to', none⟩) c.ts.length a, .int .i64 g, .slice B c.dn.length b], .agg #[.int .i64 lo, .int .i64 hi', .int .i64 up, .int .i64 wt]] w' fun ed w'' => ed = .returned (.bool (decide ((g : Int) < hi' - lo))) ∧ Ext wc w'') := Lib.hid fun w' hE =>
    (cgreat_any _ _ _ _ _ _ lo hi' up wt g w' HDI.out HGI.out).mono fun ed w'' hh => ⟨hh.1, hE.trans hh.2⟩
  go_wp2_with fail
  refine wp_region_class (Ext wc) (by kernel_rfl) (by kernel_rfl) (Ext.refl _).drew ?_
  try simp only [List.append_eq, List.cons_append, List.nil_append]
  repeat (first
    | go_big_quiet_skip
    | (go_big_quiet_want
       first
       | (go_big_quiet_op; go_big_quiet_on)
       | (unfold Oper.quiet
          apply Exists.intro
          refine ⟨fun w' hC => ?_, ?_⟩
          · (obtain ⟨k1, k2, k3, k4, k5, k6, k7, k8⟩ := KS.out w' hC
             unfold Oper.quietAt
             go_simp
             first
             | exact rfl
             | (with_reducible exact HGR.out w' hC))
          go_simp
          go_big_quiet_on)
       | (go_big_quiet_op
          apply Exists.intro
          refine ⟨fun w' hC => ?_, ?_⟩
          · exact HGR.out w' hC
          go_big_quiet_on)))
  refine wpQuiet_nil ?_
  intro w4 hC4
  have hC4' := hC4
  have H4 := Lib.hid (H1.out.ext hC4)
  have HC4 := Lib.hid hC4
  have HDL : Hid (c.dn.length = n) := Lib.hid hO.dl
  have HWR : Hid (wRight c.ts (g : Int) n = true) := Lib.hid (hO.right g1 g2 n1 n2)
  have HKT := Lib.hid hO
  by_cases hs' : g < sz c.ts k
  · have hdd : decide ((g : Int) < hi' - lo) = true := decide_eq_true (by omega)
    have HGB : Hid (wGreat c.ts (g : Int) n k = true) := Lib.hid (by rw [hO.greatB g1 g2 n1 n2 k HKM.out]; exact decide_eq_true hs')
    have HGO : Hid (goP g c P F = (⟨partedL c.ts k, c.dn, (c.D.set F R).set P ((c.D.set F R).getD P [] ++ [c.ts.length + 1, c.ts.length]), c.over, c.st + 1, c.id⟩, ⟨P, F, k, true⟩)) := Lib.hid (by unfold goP; rw [HTK.out]; simp only; rw [if_pos hs'])
    clear hC4 hC4' x0 x1 x2 x3 q0 q1 q2 q3 hO htask
    go_wp2_with fail
    refine (part_go k _ H4.out HDL.out HWR.out hkl HGB.out (HKT.out.w0 k HKM.out) (by omega) g2 (by omega)).mono ?_
    rintro ed w5 ⟨A5, B5, a5, b5, Hb, rfl, H5, hO5, hW5⟩
    have hC4' := HC4.out
    have H5' := Lib.hid H5
    have v35 := H5.v3
    have hd5 := H5.hd F hF
    have hf5 := H5.fE
    have lE5 : e0 < w5.heap.size := H5.sl e0 H5.sE
    have HO5 := Lib.hid hO5
    have HW5 := Lib.hid hW5
    clear H5 hO5 hW5 hC4'
    go_wp2_with fail
    have H6 : Hid (GoAt S (w5.setCell ⟨e0, F, none⟩ y.v) V e0 g m ⟨partedL c.ts k, c.dn, c.D.set F R, c.over, c.st, c.id⟩ ev A5 B5 a5 b5 e (fun j => if j = F then y else hs j)) := Lib.hid (H5'.out.setHd F hF y R HY.out.1 HY.out.2.1 (((HY.out.2.2.2 S H.out.sl).ext HC4.out).grew (H.out.grewS HW5.out)))
    have HG6 : Hid (GrewG V e0 w5 (w5.setCell ⟨e0, F, none⟩ y.v)) := Lib.hid (Grew.setCell (p := ⟨e0, F, none⟩) (Grew.refl _ w5) (.inr rfl) _)
    have hx6 := H6.out.hd P hP
    have hn6 := H6.out.hn P hP
    have hr6 := H6.out.hr P hP
    have hc6 := H6.out.hc P hP
    have hv6 := H6.out.v3
    have hf6 := H6.out.fE
    have l6 := H6.out.sl
    have lE6 : e0 < (w5.setCell ⟨e0, F, none⟩ y.v).heap.size := H6.out.sl e0 H6.out.sE
    simp only at hx6 hn6 hr6 hc6
    obtain ⟨x, hx⟩ : ∃ x, (if P = F then y else hs P) = x := ⟨_, rfl⟩
    rw [hx] at hx6 hn6 hr6 hc6
    obtain ⟨xs, hxs⟩ : ∃ xs, (c.D.set F R).getD P [] = xs := ⟨_, rfl⟩
    rw [hxs] at hn6 hr6
    have hfull : x.c = x.n := by
      by_cases e : P = F
      · rw [← hx, if_pos e]; exact HY.out.2.2.1 e.symm
      · rcases HFP.out with h1 | h1
        · exact absurd h1.symm e
        · have h2 : x.n = 0 := by rw [hn6, ← hxs, List.getD_eq_getElem?_getD, List.getElem?_set_ne (Ne.symm e), ← List.getD_eq_getElem?_getD, h1]; rfl
          rw [h2]; exact hc6 h2
    have HXS := Lib.hid hxs
    have HX := Lib.hid (And.intro hn6 (And.intro hfull hr6))
    have HXL : Hid (xs.length ≤ 1000000) := Lib.hid (by
      have h1 := (CrI.fresh HI.out).2.2.2
      have h2 := held_set c.D F R (by rw [H.out.dl]; exact hF)
      have h3 := (held_at (c.D.set F R) P (by rw [List.length_set, H.out.dl]; exact hP)).length_eq
      have h4 := (take_held (P := P) (D := c.D) (F := F) (by rw [H.out.dl]; exact hF) HNE.out).length_eq
      rw [HTK.out] at h4
      simp only [List.length_cons, List.length_append] at h3 h4
      rw [HXS.out] at h3
      omega)
    clear hx hxs hn6 hr6 hc6 hfull hd5 v35 hf5
    generalize hw6 : w5.setCell ⟨e0, F, none⟩ y.v = w6 at *
    clear hw6
    have HO6 : Hid (Rd kInt w6 (.slice (some ⟨Hb, 0, none⟩) 2 2) [((c.ts.length + 1 : Nat) : Int), (c.ts.length : Int)]) := Lib.hid ((HO5.out.rd.off (S := S) (fun a ha hs => by cases ha; have h1 := HO5.out.lt Hb rfl; have h2 := H4.out.sl Hb hs; omega)) w6 (H.out.grewS HG6.out))
    have hHb : ∀ o, w6.frozen? ⟨e0, o, none⟩ = false := hf6
    clear hf6
    go_cut [] (fun wx => AppCut S w6 e0 P (xs ++ [c.ts.length + 1, c.ts.length]) wx)
    case first =>
      go_region_law (first
        | (refine step_grow2 (by rfl) (.tmp 82) (.tmp 83) (by rfl) (by rfl) x xs (c.ts.length + 1) c.ts.length Hb (by rfl) HX.out.1 HX.out.2.1 (HX.out.2.2.rd.ext (Ext.refl _).drew) (by rfl) (HO6.out.ext (Ext.refl _).drew) HXL.out ?_
           intro z w7 z1 z2 hE7 z3
           have ZZ := Lib.hid (And.intro z1 (And.intro z2 (And.intro hE7 z3)))
           have hv7 : w7.cell? ⟨V, 3, none⟩ = some (.slice (some ⟨e0, 0, none⟩) m e) := hE7.cell (by go_simp)
           have hx7 : w7.cell? ⟨e0, P, none⟩ = some x.v := hE7.cell (by go_simp)
           have hf7 : ∀ o, w7.frozen? ⟨e0, o, none⟩ = false := fun o => (Below.frozen hE7 (p := ⟨e0, o, none⟩) (by simp; omega)).trans (by have := hHb o; go_simp)
           have lE7 : e0 < w7.heap.size := by have := hE7.size; simp at this; omega
           clear z1 z2 hE7 z3))
      all_goals go_wp2_with fail
      all_goals go_meet
      all_goals exact ⟨z, w7, ZZ.out.1, ZZ.out.2.1, (Ext.refl w6).drew.trans ZZ.out.2.2.1, ZZ.out.2.2.2 S (fun s hs => by first | exact l6 s hs | (simp; exact l6 s hs)), rfl⟩
    case rest =>
    obtain ⟨z, w7, z1, z2, hE7, z3, rfl⟩ := hcut
    have H8 := ((H6.out.ext hE7).setHd P hP z (xs ++ [c.ts.length + 1, c.ts.length]) z1 z2 z3)
    have H8' := Lib.hid H8
    have hv8 := H8.v5
    have hv9 := And.intro H8.v7 (And.intro H8.v8 (And.intro H8.v9 (And.intro H8.v10 H8.fV)))
    obtain ⟨k7, k8, k9, k10, kf⟩ := hv9
    have HG8 : Hid (GrewG V e0 w (w7.setCell ⟨e0, P, none⟩ z.v)) := Lib.hid ((((((Grew.of HE1.out).ext HC4.out).trans HW5.out).trans HG6.out).ext hE7).setCell (p := ⟨e0, P, none⟩) (.inr rfl) _)
    have lV8 : V < (w7.setCell ⟨e0, P, none⟩ z.v).heap.size := H8.sl V H8.sV
    clear H8 z1 z2 hE7 z3
    generalize hw8 : w7.setCell ⟨e0, P, none⟩ z.v = w8 at *
    clear hw8 hx6 hv6 hHb lE6 l6
    have s1 : (c.st : Int) < 100000 := by omega
    have s2 : (0 : Int) ≤ c.st := by omega
    go_wp2_with fail
    go_ret
    rw [HGO.out]
    have h9 := (H8'.out.setSt (c.st + 1)).setEv ⟨P, F, k, true⟩
    simp only at h9
    rw [← HXS.out] at h9
    exact ⟨A5, B5, a5, b5, _, rfl, h9, ((((((HG8.out.setCell (p := ⟨V, 5, none⟩) (.inl rfl) _).setCell (p := ⟨V, 7, none⟩) (.inl rfl) _).setCell (p := ⟨V, 8, none⟩) (.inl rfl) _).setCell (p := ⟨V, 9, none⟩) (.inl rfl) _).setCell (p := ⟨V, 10, none⟩) (.inl rfl) _))⟩
  · have hdd : decide ((g : Int) < hi' - lo) = false := decide_eq_false (by omega)
    have HGB : Hid (wGreat c.ts (g : Int) n k = false) := Lib.hid (by rw [hO.greatB g1 g2 n1 n2 k HKM.out]; exact decide_eq_false hs')
    have HGO : Hid (goP g c P F = (⟨(climb (c.ts.length + 1) c.ts (T c.ts k).up).1, marked c.dn (T c.ts k).lo.toNat (T c.ts k).hi.toNat, c.D.set F R, c.over || (climb (c.ts.length + 1) c.ts (T c.ts k).up).2, c.st + 1, c.id⟩, ⟨P, F, k, false⟩)) := Lib.hid (by unfold goP; rw [HTK.out]; simp only; rw [if_neg hs'])
    have hcv := (hO.cov lo.toNat (by omega)).2 ⟨k, HKM.out, by rw [HT.out]; simp only; omega, by rw [HT.out]; simp only; omega⟩
    have hov : c.over = false := by
      rw [CrI.ov HI.out, decide_eq_false_iff_not]
      intro e; have := HKM.out; rw [e] at this; cases this
    have HCV := Lib.hid hcv
    have HOV := Lib.hid hov
    clear hcv hov hC4 hC4' x0 x1 x2 x3 q0 q1 q2 q3 hO htask
    go_wp2_with fail
    refine (do_go k _ H4.out HDL.out HWR.out hkl HGB.out (HKT.out.w0 k HKM.out) (by rw [HT.out]; exact HTB.out.1) (by rw [HT.out]; have := HTB.out.2.1; simp only; omega) (by rw [HT.out]; exact HTB.out.2.2.1) (by rw [HT.out]; exact HCV.out) HOV.out (by omega) g2 (by omega)).mono ?_
    rintro ed w5 ⟨A5, B5, a5, b5, rfl, H5, hW5⟩
    have hC4' := HC4.out
    have H5' := Lib.hid H5
    have v35 := H5.v3
    have hd5 := H5.hd F hF
    have hf5 := H5.fE
    have lE5 : e0 < w5.heap.size := H5.sl e0 H5.sE
    have HW5 := Lib.hid hW5
    clear H5 hW5 hC4'
    go_wp2_with fail
    have H6 : Hid (GoAt S (w5.setCell ⟨e0, F, none⟩ y.v) V e0 g m ⟨(climb (c.ts.length + 1) c.ts (T c.ts k).up).1, marked c.dn (T c.ts k).lo.toNat (T c.ts k).hi.toNat, c.D.set F R, c.over || (climb (c.ts.length + 1) c.ts (T c.ts k).up).2, c.st, c.id⟩ ev A5 B5 a5 b5 e (fun j => if j = F then y else hs j)) := Lib.hid (H5'.out.setHd F hF y R HY.out.1 HY.out.2.1 (((HY.out.2.2.2 S H.out.sl).ext HC4.out).grew (H.out.grewS HW5.out)))
    have HG6 : Hid (GrewG V e0 w5 (w5.setCell ⟨e0, F, none⟩ y.v)) := Lib.hid (Grew.setCell (p := ⟨e0, F, none⟩) (Grew.refl _ w5) (.inr rfl) _)
    have hx6 := H6.out.hd P hP
    have hn6 := H6.out.hn P hP
    have hr6 := H6.out.hr P hP
    have hc6 := H6.out.hc P hP
    have hv6 := H6.out.v3
    have hf6 := H6.out.fE
    have l6 := H6.out.sl
    have lE6 : e0 < (w5.setCell ⟨e0, F, none⟩ y.v).heap.size := H6.out.sl e0 H6.out.sE
    simp only at hx6 hn6 hr6 hc6
    obtain ⟨x, hx⟩ : ∃ x, (if P = F then y else hs P) = x := ⟨_, rfl⟩
    rw [hx] at hx6 hn6 hr6 hc6
    obtain ⟨xs, hxs⟩ : ∃ xs, (c.D.set F R).getD P [] = xs := ⟨_, rfl⟩
    rw [hxs] at hn6 hr6
    have hfull : x.c = x.n := by
      by_cases e : P = F
      · rw [← hx, if_pos e]; exact HY.out.2.2.1 e.symm
      · rcases HFP.out with h1 | h1
        · exact absurd h1.symm e
        · have h2 : x.n = 0 := by rw [hn6, ← hxs, List.getD_eq_getElem?_getD, List.getElem?_set_ne (Ne.symm e), ← List.getD_eq_getElem?_getD, h1]; rfl
          rw [h2]; exact hc6 h2
    have HXS := Lib.hid hxs
    have HX := Lib.hid (And.intro hn6 (And.intro hfull hr6))
    have HXL : Hid (xs.length ≤ 1000000) := Lib.hid (by
      have h1 := (CrI.fresh HI.out).2.2.2
      have h2 := held_set c.D F R (by rw [H.out.dl]; exact hF)
      have h3 := (held_at (c.D.set F R) P (by rw [List.length_set, H.out.dl]; exact hP)).length_eq
      have h4 := (take_held (P := P) (D := c.D) (F := F) (by rw [H.out.dl]; exact hF) HNE.out).length_eq
      rw [HTK.out] at h4
      simp only [List.length_cons, List.length_append] at h3 h4
      rw [HXS.out] at h3
      omega)
    clear hx hxs hn6 hr6 hc6 hfull hd5 v35 hf5
    generalize hw6 : w5.setCell ⟨e0, F, none⟩ y.v = w6 at *
    clear hw6
    have hHb : ∀ o, w6.frozen? ⟨e0, o, none⟩ = false := hf6
    clear hf6
    have hxv : x.n ≤ x.c := by rw [HX.out.2.1]; exact Nat.le_refl _
    have HXV := Lib.hid hxv
    clear hxv
    go_cut [] (fun wx => AppCut S w6 e0 P xs wx)
    case first =>
      go_region_law (first
        | (refine step_none (by rfl) (.tmp 82) (.tmp 83) (by rfl) (by rfl) x (by rfl) HXV.out (by rfl) ?_))
      all_goals go_wp2_with fail
      all_goals go_meet
      all_goals exact ⟨x, w6.drew, HX.out.1, fun h0 => by rw [HX.out.2.1]; exact h0, (Ext.refl w6).drew, HX.out.2.2.ext (Ext.refl w6).drew, rfl⟩
    case rest =>
    obtain ⟨z, w7, z1, z2, hE7, z3, rfl⟩ := hcut
    have H8 := ((H6.out.ext hE7).setHd P hP z xs z1 z2 z3)
    have H8' := Lib.hid H8
    have hv8 := H8.v5
    have hv9 := And.intro H8.v7 (And.intro H8.v8 (And.intro H8.v9 (And.intro H8.v10 H8.fV)))
    obtain ⟨k7, k8, k9, k10, kf⟩ := hv9
    have HG8 : Hid (GrewG V e0 w (w7.setCell ⟨e0, P, none⟩ z.v)) := Lib.hid ((((((Grew.of HE1.out).ext HC4.out).trans HW5.out).trans HG6.out).ext hE7).setCell (p := ⟨e0, P, none⟩) (.inr rfl) _)
    have lV8 : V < (w7.setCell ⟨e0, P, none⟩ z.v).heap.size := H8.sl V H8.sV
    clear H8 z1 z2 hE7 z3
    generalize hw8 : w7.setCell ⟨e0, P, none⟩ z.v = w8 at *
    clear hw8 hx6 hv6 hHb lE6 l6
    have s1 : (c.st : Int) < 100000 := by omega
    have s2 : (0 : Int) ≤ c.st := by omega
    go_wp2_with fail
    go_ret
    rw [HGO.out]
    have h9 := (H8'.out.setSt (c.st + 1)).setEv ⟨P, F, k, false⟩
    simp only at h9
    rw [← HXS.out, set_getD_same _ P (by rw [List.length_set, H.out.dl]; exact hP)] at h9
    exact ⟨A5, B5, a5, b5, _, rfl, h9, ((((((HG8.out.setCell (p := ⟨V, 5, none⟩) (.inl rfl) _).setCell (p := ⟨V, 7, none⟩) (.inl rfl) _).setCell (p := ⟨V, 8, none⟩) (.inl rfl) _).setCell (p := ⟨V, 9, none⟩) (.inl rfl) _).setCell (p := ⟨V, 10, none⟩) (.inl rfl) _))⟩
end Go.Proofs.Ytkpbanfpnilifaa
