/- Joined by wip/merge.py: CrGoAt, CrRight, CrCopy, CrStep, CrStp, CrRun, TBeginN, CrBegin, CrSame, CrAlive. -/
import Derived.Test.YtebbpkdhdilkcaaJ6
import Derived.Deep.RegionLawGrows
import Derived.Deep.RegionLaw
import Derived.Deep.RegionHeld3
import Derived.Deep.DeepCutAuto
import Derived.BigRegion
import Derived.Laws.StructEq
import Derived.Deep.QuietTactic
/- One that goes steps goes at a task. -/
namespace Go.Proofs.Ytebbpkdhdilkcaa
open Go.BigFrame
open Go.RowKit Go.Proofs.Ytebbpkdhdilkcaa.Plain

/-- two numbers are appended to a list without room: new memory -/
theorem step_grow2 {ops : Array Oper} {o : Oper} {a : Act} {w : World} {K : Act → World → Prop} {Q : Exit → Act → World → Prop} {E : Prop} (hg : o.guard = none) (s x : Operand)
    (hop : o.op = Op.call { callee := Callee.builtin Builtin.append, args := #[s, x], argTypes := #[55, 55] }) (hty : o.type = 55) (y : Hd) (xs : List Nat) (i j : Nat) (H : Nat)
    (hs : a.eval s = y.v) (hn : y.n = xs.length) (hfull : y.c = y.n) (hr : Rd kInt w y.v (zs xs)) (hx : a.eval x = .slice (some ⟨H, 0, none⟩) 2 2) (ho : Rd kInt w (.slice (some ⟨H, 0, none⟩) 2 2) [(i : Int), (j : Int)]) (hl : xs.length ≤ 1000000)
    (hK : ∀ (z : Hd) (w' : World), z.n = (xs ++ [i, j]).length → (z.n = 0 → z.c = 0) → Ext w w' → (∀ S : Nat → Prop, (∀ x, S x → x < w.heap.size) → RdO kInt S w' z.v (zs (xs ++ [i, j]))) → K (a.put o.dst z.v) w') :
    if Region.wanted o (yielded ops a.tmps) = true then Oper.wp Try.prog o a w K Q else E := by
  obtain ⟨i0, hi, hz0, hz1, hz2⟩ := info_parts intInfo
  obtain ⟨A, n, c⟩ := y
  obtain rfl : n = xs.length := hn
  obtain rfl : c = xs.length := hfull
  have hr2 := ho.at_
  have hbd : ∀ u ∈ zs (xs ++ [i, j]), in64 u := by
    intro u hu
    rw [show zs (xs ++ [i, j]) = zs xs ++ [(i : Int), (j : Int)] by unfold zs; simp] at hu
    rcases List.mem_append.1 hu with h | h
    · exact hr.2.1 u h
    · exact ho.2.1 u h
  refine step_append_grows hg s x 55 hop 3 i0 (.int .i64 0) 1 8 Try.underlying55 hi hz0 hz1 hz2 rfl (by decide) A xs.length xs.length (kInt.flat (zs xs)) hs ?_ ?_ ?_ ⟨H, 0, none⟩ 2 2 (kInt.flat [(i : Int), (j : Int)]) hx ?_ hr2 ?_ (by omega) (by unfold maxLen; omega) (by omega) ?_
  · intro hA
    have h0 : xs.length = 0 := by
      rcases Nat.eq_zero_or_pos xs.length with h | h
      · exact h
      · obtain ⟨b, off, hh, _⟩ := hr.cells (by rw [zs_len]; exact h)
        rw [hA] at hh; cases hh
    exact ⟨h0, h0⟩
  · rw [kInt.flat_len, zs_len]; rfl
  · intro b hb
    subst hb
    exact hr.at_
  · rw [kInt.flat_len]; rfl
  · intro u hu; exact kInt.flat_mem hu
  · intro v' w' hown hgr
    have hO : Ow kInt w.heap.size w' v' (zs (xs ++ [i, j])) := by
      refine ⟨?_, hbd⟩
      rw [zs_len, List.length_append, show zs (xs ++ [i, j]) = zs xs ++ [(i : Int), (j : Int)] by unfold zs; simp, kInt.flat_app]
      exact hown
    obtain ⟨A', c', rfl, _⟩ := hO.slice
    rw [zs_len] at hO ⊢
    have hE : Ext w w' := (Ext.refl w).grown hgr (fun k hk => by cases hk)
    exact hK ⟨A', (xs ++ [i, j]).length, c'⟩ w' rfl (fun h => by simp at h) hE fun S hS => hO.rd.offFrom hO.from hS

/-- nothing is appended -/
theorem run_app_none (w : World) (y : Hd) (h : y.n ≤ y.c) : (Builtin.append_ #[55, 55] 55 #[y.v, .slice none 0 0]).run Try.prog w = .ok y.v w := by
  obtain ⟨i0, hi, hz0, hz1, hz2⟩ := info_parts intInfo
  obtain ⟨A, n, c⟩ := y
  have h' : n ≤ c := h
  cases A with
  | none => simp [Builtin.append_, run_underlying Try.underlying55, sizeOf, typeInfo, hi, Builtin.lenOf, Builtin.firstCells, storeCells, h']
  | some ad => simp [Builtin.append_, run_underlying Try.underlying55, sizeOf, typeInfo, hi, Builtin.lenOf, Builtin.firstCells, storeCells, h']
theorem step_none {ops : Array Oper} {o : Oper} {a : Act} {w : World} {K : Act → World → Prop} {Q : Exit → Act → World → Prop} {E : Prop} (hg : o.guard = none) (s x : Operand)
    (ho : o.op = Op.call { callee := Callee.builtin Builtin.append, args := #[s, x], argTypes := #[55, 55] }) (hty : o.type = 55) (y : Hd)
    (hs : a.eval s = y.v) (hn : y.n ≤ y.c) (hx : a.eval x = .slice none 0 0) (hK : K (a.put o.dst y.v) w) :
    if Region.wanted o (yielded ops a.tmps) = true then Oper.wp Try.prog o a w K Q else E := by
  have hw : Region.wanted o (yielded ops a.tmps) = true := by simp [Region.wanted, hg]
  rw [if_pos hw]
  unfold Oper.wp execOp
  simp only [ho, hty, resolve, invoke, builtin, Sem.run_bind, Sem.run_pure, Result.andThen_ok, List.map_toArray, List.map_cons, List.map_nil, hs, hx, run_app_none w y hn]
  exact hK

/-- behind the appending -/
def AppCut (S : Nat → Prop) (w6 : World) (e0 P : Nat) (ys : List Nat) (wx : World) : Prop :=
  ∃ (z : Hd) (w7 : World), z.n = ys.length ∧ (z.n = 0 → z.c = 0) ∧ Ext w6 w7 ∧ RdO kInt S w7 z.v (zs ys) ∧ wx = w7.setCell ⟨e0, P, none⟩ z.v
/-- behind the taking -/
def TakeCut (w : World) (D : List (List Nat)) (P F : Nat) (r k q : Value) (wx : World) : Prop :=
  ∃ y : Hd, r = y.v ∧ k = .int .i64 ((takeN D P F).1 : Nat) ∧ q = .int .i64 0 ∧ y.n = (takeN D P F).2.length ∧ (y.n = 0 → y.c = 0) ∧ (F = P → y.c = y.n) ∧ (∀ S : Nat → Prop, (∀ x, S x → x < w.heap.size) → RdO kInt S wx y.v (zs (takeN D P F).2)) ∧ Ext w wx
/-- what goAt, and step, leave -/
def GoSaid (S : Nat → Prop) (V e0 g m e : Nat) (r : Cw × Ev) (w : World) (ed : Ending) (w' : World) : Prop :=
  ∃ (A' B' : Option Addr) (a' b' : Nat) (hs' : Nat → Hd), ed = .returned (.int .i64 0) ∧ GoAt S w' V e0 g m r.1 r.2 A' B' a' b' e hs' ∧ GrewG V e0 w w'
theorem set_getD_same (D : List (List Nat)) (P : Nat) (hP : P < D.length) : D.set P (D.getD P []) = D := by
  rw [getDp hP]; exact List.set_getElem_self hP
set_option maxHeartbeats 6400000 in
set_option maxRecDepth 100000 in
theorem goAt_any {S : Nat → Prop} {V e0 g n m : Nat} {c : Cw} {ev : Ev} {A B : Option Addr} {a b e : Nat} {hs : Nat → Hd} {done : Nat} {G : List Nat} (P F : Nat) (w : World) (h : GoAt S w V e0 g m c ev A B a b e hs) (hI : CwI g n m c done G) (hP : P < m) (hF : F < m) (hne : c.D.getD F [] ≠ []) (hFP : F = P ∨ c.D.getD P [] = [])
    (n1 : 1 ≤ n) (n2 : n ≤ 120) (g1 : 1 ≤ g) (g2 : g ≤ 100) (m2 : m ≤ 8) (hst : c.st < 100000) :
    Calls Try.prog 32 #[.pointer (some ⟨V, 0, none⟩), .int .i64 P, .int .i64 F] w (GoSaid S V e0 g m e (goP g c P F) w) := by
  have H := Lib.hid h
  have HI := Lib.hid hI
  have HNE := Lib.hid hne
  have HFP := Lib.hid hFP
  have v3 := h.v3
  have zF := h.hd F hF
  have nF := h.hn F hF
  have HRF : Hid (Rd kInt w (hs F).v (zs (c.D.getD F []))) := Lib.hid (h.hr F hF).rd
  have HNF := Lib.hid nF
  have hfl : (c.D.getD F []).length ≤ 4000 := by
    have h1 := hI.few g1 n1
    have h2 := (CrI.fresh hI).2.2.2
    have h3 := (held_at c.D F (by rw [h.dl]; exact hF)).length_eq
    rw [List.length_append] at h3
    omega
  have hF0 : (0 : Int) ≤ F := by omega
  have hF1 : (F : Int) < m := by omega
  have hP0 : (0 : Int) ≤ P := by omega
  have hP1 : (P : Int) < m := by omega
  have m3 : (m : Int) ≤ 8 := by omega
  have lV : V < w.heap.size := h.sl V h.sV
  have lE : e0 < w.heap.size := h.sl e0 h.sE
  clear h hI hne hFP nF
  go_enter Try.func32, Try.ntmps32
  go_upto_if 15 with fail
  go_cut [7] (fun t wx => w = wx ∧ ((F = P ∧ t = .func (.func 38) #[] #[]) ∨ (F ≠ P ∧ t = .func (.func 39) #[] #[])))
  case first =>
    by_cases e : F = P
    · subst e
      go_wp2_with fail
      go_meet
      exact ⟨rfl, .inl ⟨trivial, rfl⟩⟩
    · have e1 : ¬ (F : Int) = P := by omega
      go_wp2_with fail
      go_meet
      exact ⟨rfl, .inr ⟨e, rfl⟩⟩
  case rest =>
  obtain ⟨rfl, htake⟩ := hcut
  go_upto_region 4 with fail
  go_cut [8, 9, 10] (fun r k q wx => TakeCut w c.D P F r k q wx)
  case first =>
    rcases htake with ⟨e, rfl⟩ | ⟨e, rfl⟩
    · have HTK : Hid (takeN c.D P F = ((c.D.getD F []).getLastD 0, (c.D.getD F []).dropLast)) := Lib.hid (by unfold takeN; rw [if_pos e])
      have HE := Lib.hid e
      clear e
      go_wp2_with fail
      refine (pop_go (hs F) (c.D.getD F []) _ HRF.out HNF.out hfl HNE.out).mono ?_
      rintro ed w1 ⟨y, rfl, y1, y2, y3, hE1⟩
      have HY := Lib.hid (And.intro y1 (And.intro y2 (And.intro y3 hE1)))
      clear y1 y2 y3 hE1
      go_wp2_with fail
      go_meet
      obtain ⟨y1, y2, y3, hE1⟩ := HY.out
      refine ⟨y, rfl, by rw [HTK.out]; simp, rfl, by rw [HTK.out]; exact y1, fun h0 => by rw [y2]; exact h0, fun _ => y2, by rw [HTK.out]; exact y3, hE1⟩
    · have HTK : Hid (takeN c.D P F = ((c.D.getD F []).headD 0, (c.D.getD F []).tail)) := Lib.hid (by unfold takeN; rw [if_neg e])
      have HE := Lib.hid e
      clear e
      go_wp2_with fail
      refine (steal_go (hs F) (c.D.getD F []) _ HRF.out HNF.out hfl HNE.out).mono ?_
      rintro ed w1 ⟨y, rfl, y1, y2, y3, hE1⟩
      have HY := Lib.hid (And.intro y1 (And.intro y2 (And.intro y3 hE1)))
      clear y1 y2 y3 hE1
      go_wp2_with fail
      go_meet
      obtain ⟨y1, y2, y3, hE1⟩ := HY.out
      refine ⟨y, rfl, by rw [HTK.out]; simp, rfl, by rw [HTK.out]; exact y1, y2, fun hh => absurd hh HE.out, by rw [HTK.out]; exact y3, hE1⟩
  case rest =>
  obtain ⟨y, rfl, rfl, rfl, y1, y2, y3, y4, hE1⟩ := hcut
  clear htake
  have hmem : (takeN c.D P F).1 ∈ held c.D := (take_held (P := P) (by rw [H.out.dl]; exact hF) HNE.out).mem_iff.2 List.mem_cons_self
  obtain ⟨k, hk⟩ : ∃ k, (takeN c.D P F).1 = k := ⟨_, rfl⟩
  obtain ⟨R, hR⟩ : ∃ R, (takeN c.D P F).2 = R := ⟨_, rfl⟩
  rw [hk] at hmem ⊢
  rw [hR] at y1 y4
  have hO := CrI.inv HI.out
  have hkl := hO.lt k hmem
  have hfew := HI.out.few g1 n1
  have HKM := Lib.hid hmem
  have HTK : Hid (takeN c.D P F = (k, R)) := Lib.hid (by rw [← hk, ← hR])
  have HY := Lib.hid (And.intro y1 (And.intro y2 (And.intro y3 y4)))
  have H1 := Lib.hid (H.out.ext hE1)
  have HE1 := Lib.hid hE1
  have hk1 : (k : Int) < c.ts.length := by omega
  have hk0 : (0 : Int) ≤ k := by omega
  obtain ⟨ta, to', hA, hct⟩ := Rd.tasks H1.out.tsk.rd (by omega : 0 < c.ts.length)
  obtain ⟨q0, q1, q2, q3⟩ := hct k hkl
  obtain ⟨⟨lo, hi', up, wt⟩, ht⟩ : ∃ t, c.ts.getD k ⟨0, 0, 0, 0⟩ = t := ⟨_, rfl⟩
  rw [ht] at q0 q1 q2 q3
  simp only at q0 q1 q2 q3
  have htT : T c.ts k = ⟨lo, hi', up, wt⟩ := ht
  have HT := Lib.hid htT
  have x0 := H1.out.v0
  have x1 := H1.out.v1
  have x2 := H1.out.v2
  have x3 := H1.out.v3
  have htask := hO.task k hkl
  rw [htT] at htask
  simp only at htask
  have HTB := Lib.hid htask
  have hsz := (hO.szpos k hmem).2.2
  rw [htT] at hsz
  simp only at hsz
  have hD0 : (hi' - lo : Int) = (sz c.ts k : Int) := hsz
  have HDI : Hid (in64 (hi' - lo)) := Lib.hid (by unfold in64; omega)
  have HGI : Hid (in64 (g : Int)) := Lib.hid (in64_nat g (by omega))
  subst hA
  clear hk hR y1 y2 y3 y4 hE1 hct ht htT hsz hmem zF v3
  have KS : Hid (∀ w', Ext wc w' → w'.cell? ⟨V, 0, none⟩ = some (.slice (some ⟨ta, to', none⟩) c.ts.length a) ∧ w'.cell? ⟨V, 1, none⟩ = some (.int .i64 g) ∧ w'.cell? ⟨V, 2, none⟩ = some (.slice B c.dn.length b) ∧ w'.cell? ⟨V, 3, none⟩ = some (.slice (some ⟨e0, 0, none⟩) m e) ∧ w'.cell? ⟨ta, to' + k * 4, none⟩ = some (.int .i64 lo) ∧ w'.cell? ⟨ta, to' + k * 4 + 1, none⟩ = some (.int .i64 hi') ∧ w'.cell? ⟨ta, to' + k * 4 + 2, none⟩ = some (.int .i64 up) ∧ w'.cell? ⟨ta, to' + k * 4 + 3, none⟩ = some (.int .i64 wt)) := Lib.hid fun w' hE => ⟨hE.cell x0, hE.cell x1, hE.cell x2, hE.cell x3, hE.cell q0, hE.cell q1, hE.cell q2, hE.cell q3⟩
  have HGR : Hid (∀ w', Ext wc w' → Calls Try.prog 40 #[.agg #[.slice (some ⟨ta, to', none⟩) c.ts.length a, .int .i64 g, .slice B c.dn.length b], .agg #[.int .i64 lo, .int .i64 hi', .int .i64 up, .int .i64 wt]] w' fun ed w'' => ed = .returned (.bool (decide ((g : Int) < hi' - lo))) ∧ Ext wc w'') := Lib.hid fun w' hE =>
    (cgreat_any _ _ _ _ _ _ lo hi' up wt g w' HDI.out HGI.out).mono fun ed w'' hh => ⟨hh.1, hE.trans hh.2⟩
  go_wp2_with fail
  refine wp_region_class (Ext wc) (by kernel_rfl) (by kernel_rfl) (Ext.refl _).drew ?_
  try simp only [List.append_eq, List.cons_append, List.nil_append]
  repeat (first
    | go_big_quiet_skip
    | (go_big_quiet_want
       first
       | (go_big_quiet_op; go_big_quiet_on)
       | (unfold Oper.quiet
          apply Exists.intro
          refine ⟨fun w' hC => ?_, ?_⟩
          · (obtain ⟨k1, k2, k3, k4, k5, k6, k7, k8⟩ := KS.out w' hC
             unfold Oper.quietAt
             go_simp
             first
             | exact rfl
             | (with_reducible exact HGR.out w' hC))
          go_simp
          go_big_quiet_on)
       | (go_big_quiet_op
          apply Exists.intro
          refine ⟨fun w' hC => ?_, ?_⟩
          · exact HGR.out w' hC
          go_big_quiet_on)))
  refine wpQuiet_nil ?_
  intro w4 hC4
  have hC4' := hC4
  have H4 := Lib.hid (H1.out.ext hC4)
  have HC4 := Lib.hid hC4
  have HDL : Hid (c.dn.length = n) := Lib.hid hO.dl
  have HWR : Hid (wRight c.ts (g : Int) n = true) := Lib.hid (hO.right g1 g2 n1 n2)
  have HKT := Lib.hid hO
  by_cases hs' : g < sz c.ts k
  · have hdd : decide ((g : Int) < hi' - lo) = true := decide_eq_true (by omega)
    have HGB : Hid (wGreat c.ts (g : Int) n k = true) := Lib.hid (by rw [hO.greatB g1 g2 n1 n2 k HKM.out]; exact decide_eq_true hs')
    have HGO : Hid (goP g c P F = (⟨partedL c.ts k, c.dn, (c.D.set F R).set P ((c.D.set F R).getD P [] ++ [c.ts.length + 1, c.ts.length]), c.over, c.st + 1, c.id⟩, ⟨P, F, k, true⟩)) := Lib.hid (by unfold goP; rw [HTK.out]; simp only; rw [if_pos hs'])
    clear hC4 hC4' x0 x1 x2 x3 q0 q1 q2 q3 hO htask
    go_wp2_with fail
    refine (part_go k _ H4.out HDL.out HWR.out hkl HGB.out (HKT.out.w0 k HKM.out) (by omega) g2 (by omega)).mono ?_
    rintro ed w5 ⟨A5, B5, a5, b5, Hb, rfl, H5, hO5, hW5⟩
    have hC4' := HC4.out
    have H5' := Lib.hid H5
    have v35 := H5.v3
    have hd5 := H5.hd F hF
    have hf5 := H5.fE
    have lE5 : e0 < w5.heap.size := H5.sl e0 H5.sE
    have HO5 := Lib.hid hO5
    have HW5 := Lib.hid hW5
    clear H5 hO5 hW5 hC4'
    go_wp2_with fail
    have H6 : Hid (GoAt S (w5.setCell ⟨e0, F, none⟩ y.v) V e0 g m ⟨partedL c.ts k, c.dn, c.D.set F R, c.over, c.st, c.id⟩ ev A5 B5 a5 b5 e (fun j => if j = F then y else hs j)) := Lib.hid (H5'.out.setHd F hF y R HY.out.1 HY.out.2.1 (((HY.out.2.2.2 S H.out.sl).ext HC4.out).grew (H.out.grewS HW5.out)))
    have HG6 : Hid (GrewG V e0 w5 (w5.setCell ⟨e0, F, none⟩ y.v)) := Lib.hid (Grew.setCell (p := ⟨e0, F, none⟩) (Grew.refl _ w5) (.inr rfl) _)
    have hx6 := H6.out.hd P hP
    have hn6 := H6.out.hn P hP
    have hr6 := H6.out.hr P hP
    have hc6 := H6.out.hc P hP
    have hv6 := H6.out.v3
    have hf6 := H6.out.fE
    have l6 := H6.out.sl
    have lE6 : e0 < (w5.setCell ⟨e0, F, none⟩ y.v).heap.size := H6.out.sl e0 H6.out.sE
    simp only at hx6 hn6 hr6 hc6
    obtain ⟨x, hx⟩ : ∃ x, (if P = F then y else hs P) = x := ⟨_, rfl⟩
    rw [hx] at hx6 hn6 hr6 hc6
    obtain ⟨xs, hxs⟩ : ∃ xs, (c.D.set F R).getD P [] = xs := ⟨_, rfl⟩
    rw [hxs] at hn6 hr6
    have hfull : x.c = x.n := by
      by_cases e : P = F
      · rw [← hx, if_pos e]; exact HY.out.2.2.1 e.symm
      · rcases HFP.out with h1 | h1
        · exact absurd h1.symm e
        · have h2 : x.n = 0 := by rw [hn6, ← hxs, List.getD_eq_getElem?_getD, List.getElem?_set_ne (Ne.symm e), ← List.getD_eq_getElem?_getD, h1]; rfl
          rw [h2]; exact hc6 h2
    have HXS := Lib.hid hxs
    have HX := Lib.hid (And.intro hn6 (And.intro hfull hr6))
    have HXL : Hid (xs.length ≤ 1000000) := Lib.hid (by
      have h1 := (CrI.fresh HI.out).2.2.2
      have h2 := held_set c.D F R (by rw [H.out.dl]; exact hF)
      have h3 := (held_at (c.D.set F R) P (by rw [List.length_set, H.out.dl]; exact hP)).length_eq
      have h4 := (take_held (P := P) (D := c.D) (F := F) (by rw [H.out.dl]; exact hF) HNE.out).length_eq
      rw [HTK.out] at h4
      simp only [List.length_cons, List.length_append] at h3 h4
      rw [HXS.out] at h3
      omega)
    clear hx hxs hn6 hr6 hc6 hfull hd5 v35 hf5
    generalize hw6 : w5.setCell ⟨e0, F, none⟩ y.v = w6 at *
    clear hw6
    have HO6 : Hid (Rd kInt w6 (.slice (some ⟨Hb, 0, none⟩) 2 2) [((c.ts.length + 1 : Nat) : Int), (c.ts.length : Int)]) := Lib.hid ((HO5.out.rd.off (S := S) (fun a ha hs => by cases ha; have h1 := HO5.out.lt Hb rfl; have h2 := H4.out.sl Hb hs; omega)) w6 (H.out.grewS HG6.out))
    have hHb : ∀ o, w6.frozen? ⟨e0, o, none⟩ = false := hf6
    clear hf6
    go_cut [] (fun wx => AppCut S w6 e0 P (xs ++ [c.ts.length + 1, c.ts.length]) wx)
    case first =>
      go_region_law (first
        | (refine step_grow2 (by rfl) (.tmp 82) (.tmp 83) (by rfl) (by rfl) x xs (c.ts.length + 1) c.ts.length Hb (by rfl) HX.out.1 HX.out.2.1 (HX.out.2.2.rd.ext (Ext.refl _).drew) (by rfl) (HO6.out.ext (Ext.refl _).drew) HXL.out ?_
           intro z w7 z1 z2 hE7 z3
           have ZZ := Lib.hid (And.intro z1 (And.intro z2 (And.intro hE7 z3)))
           have hv7 : w7.cell? ⟨V, 3, none⟩ = some (.slice (some ⟨e0, 0, none⟩) m e) := hE7.cell (by go_simp)
           have hx7 : w7.cell? ⟨e0, P, none⟩ = some x.v := hE7.cell (by go_simp)
           have hf7 : ∀ o, w7.frozen? ⟨e0, o, none⟩ = false := fun o => (Below.frozen hE7 (p := ⟨e0, o, none⟩) (by simp; omega)).trans (by have := hHb o; go_simp)
           have lE7 : e0 < w7.heap.size := by have := hE7.size; simp at this; omega
           clear z1 z2 hE7 z3))
      all_goals go_wp2_with fail
      all_goals go_meet
      all_goals exact ⟨z, w7, ZZ.out.1, ZZ.out.2.1, (Ext.refl w6).drew.trans ZZ.out.2.2.1, ZZ.out.2.2.2 S (fun s hs => by first | exact l6 s hs | (simp; exact l6 s hs)), rfl⟩
    case rest =>
    obtain ⟨z, w7, z1, z2, hE7, z3, rfl⟩ := hcut
    have H8 := ((H6.out.ext hE7).setHd P hP z (xs ++ [c.ts.length + 1, c.ts.length]) z1 z2 z3)
    have H8' := Lib.hid H8
    have hv8 := H8.v5
    have hv9 := And.intro H8.v7 (And.intro H8.v8 (And.intro H8.v9 (And.intro H8.v10 H8.fV)))
    obtain ⟨k7, k8, k9, k10, kf⟩ := hv9
    have HG8 : Hid (GrewG V e0 w (w7.setCell ⟨e0, P, none⟩ z.v)) := Lib.hid ((((((Grew.of HE1.out).ext HC4.out).trans HW5.out).trans HG6.out).ext hE7).setCell (p := ⟨e0, P, none⟩) (.inr rfl) _)
    have lV8 : V < (w7.setCell ⟨e0, P, none⟩ z.v).heap.size := H8.sl V H8.sV
    clear H8 z1 z2 hE7 z3
    generalize hw8 : w7.setCell ⟨e0, P, none⟩ z.v = w8 at *
    clear hw8 hx6 hv6 hHb lE6 l6
    have s1 : (c.st : Int) < 100000 := by omega
    have s2 : (0 : Int) ≤ c.st := by omega
    go_wp2_with fail
    go_ret
    rw [HGO.out]
    have h9 := (H8'.out.setSt (c.st + 1)).setEv ⟨P, F, k, true⟩
    simp only at h9
    rw [← HXS.out] at h9
    exact ⟨A5, B5, a5, b5, _, rfl, h9, ((((((HG8.out.setCell (p := ⟨V, 5, none⟩) (.inl rfl) _).setCell (p := ⟨V, 7, none⟩) (.inl rfl) _).setCell (p := ⟨V, 8, none⟩) (.inl rfl) _).setCell (p := ⟨V, 9, none⟩) (.inl rfl) _).setCell (p := ⟨V, 10, none⟩) (.inl rfl) _))⟩
  · have hdd : decide ((g : Int) < hi' - lo) = false := decide_eq_false (by omega)
    have HGB : Hid (wGreat c.ts (g : Int) n k = false) := Lib.hid (by rw [hO.greatB g1 g2 n1 n2 k HKM.out]; exact decide_eq_false hs')
    have HGO : Hid (goP g c P F = (⟨(climb (c.ts.length + 1) c.ts (T c.ts k).up).1, marked c.dn (T c.ts k).lo.toNat (T c.ts k).hi.toNat, c.D.set F R, c.over || (climb (c.ts.length + 1) c.ts (T c.ts k).up).2, c.st + 1, c.id⟩, ⟨P, F, k, false⟩)) := Lib.hid (by unfold goP; rw [HTK.out]; simp only; rw [if_neg hs'])
    have hcv := (hO.cov lo.toNat (by omega)).2 ⟨k, HKM.out, by rw [HT.out]; simp only; omega, by rw [HT.out]; simp only; omega⟩
    have hov : c.over = false := by
      rw [CrI.ov HI.out, decide_eq_false_iff_not]
      intro e; have := HKM.out; rw [e] at this; cases this
    have HCV := Lib.hid hcv
    have HOV := Lib.hid hov
    clear hcv hov hC4 hC4' x0 x1 x2 x3 q0 q1 q2 q3 hO htask
    go_wp2_with fail
    refine (do_go k _ H4.out HDL.out HWR.out hkl HGB.out (HKT.out.w0 k HKM.out) (by rw [HT.out]; exact HTB.out.1) (by rw [HT.out]; have := HTB.out.2.1; simp only; omega) (by rw [HT.out]; exact HTB.out.2.2.1) (by rw [HT.out]; exact HCV.out) HOV.out (by omega) g2 (by omega)).mono ?_
    rintro ed w5 ⟨A5, B5, a5, b5, rfl, H5, hW5⟩
    have hC4' := HC4.out
    have H5' := Lib.hid H5
    have v35 := H5.v3
    have hd5 := H5.hd F hF
    have hf5 := H5.fE
    have lE5 : e0 < w5.heap.size := H5.sl e0 H5.sE
    have HW5 := Lib.hid hW5
    clear H5 hW5 hC4'
    go_wp2_with fail
    have H6 : Hid (GoAt S (w5.setCell ⟨e0, F, none⟩ y.v) V e0 g m ⟨(climb (c.ts.length + 1) c.ts (T c.ts k).up).1, marked c.dn (T c.ts k).lo.toNat (T c.ts k).hi.toNat, c.D.set F R, c.over || (climb (c.ts.length + 1) c.ts (T c.ts k).up).2, c.st, c.id⟩ ev A5 B5 a5 b5 e (fun j => if j = F then y else hs j)) := Lib.hid (H5'.out.setHd F hF y R HY.out.1 HY.out.2.1 (((HY.out.2.2.2 S H.out.sl).ext HC4.out).grew (H.out.grewS HW5.out)))
    have HG6 : Hid (GrewG V e0 w5 (w5.setCell ⟨e0, F, none⟩ y.v)) := Lib.hid (Grew.setCell (p := ⟨e0, F, none⟩) (Grew.refl _ w5) (.inr rfl) _)
    have hx6 := H6.out.hd P hP
    have hn6 := H6.out.hn P hP
    have hr6 := H6.out.hr P hP
    have hc6 := H6.out.hc P hP
    have hv6 := H6.out.v3
    have hf6 := H6.out.fE
    have l6 := H6.out.sl
    have lE6 : e0 < (w5.setCell ⟨e0, F, none⟩ y.v).heap.size := H6.out.sl e0 H6.out.sE
    simp only at hx6 hn6 hr6 hc6
    obtain ⟨x, hx⟩ : ∃ x, (if P = F then y else hs P) = x := ⟨_, rfl⟩
    rw [hx] at hx6 hn6 hr6 hc6
    obtain ⟨xs, hxs⟩ : ∃ xs, (c.D.set F R).getD P [] = xs := ⟨_, rfl⟩
    rw [hxs] at hn6 hr6
    have hfull : x.c = x.n := by
      by_cases e : P = F
      · rw [← hx, if_pos e]; exact HY.out.2.2.1 e.symm
      · rcases HFP.out with h1 | h1
        · exact absurd h1.symm e
        · have h2 : x.n = 0 := by rw [hn6, ← hxs, List.getD_eq_getElem?_getD, List.getElem?_set_ne (Ne.symm e), ← List.getD_eq_getElem?_getD, h1]; rfl
          rw [h2]; exact hc6 h2
    have HXS := Lib.hid hxs
    have HX := Lib.hid (And.intro hn6 (And.intro hfull hr6))
    have HXL : Hid (xs.length ≤ 1000000) := Lib.hid (by
      have h1 := (CrI.fresh HI.out).2.2.2
      have h2 := held_set c.D F R (by rw [H.out.dl]; exact hF)
      have h3 := (held_at (c.D.set F R) P (by rw [List.length_set, H.out.dl]; exact hP)).length_eq
      have h4 := (take_held (P := P) (D := c.D) (F := F) (by rw [H.out.dl]; exact hF) HNE.out).length_eq
      rw [HTK.out] at h4
      simp only [List.length_cons, List.length_append] at h3 h4
      rw [HXS.out] at h3
      omega)
    clear hx hxs hn6 hr6 hc6 hfull hd5 v35 hf5
    generalize hw6 : w5.setCell ⟨e0, F, none⟩ y.v = w6 at *
    clear hw6
    have hHb : ∀ o, w6.frozen? ⟨e0, o, none⟩ = false := hf6
    clear hf6
    have hxv : x.n ≤ x.c := by rw [HX.out.2.1]; exact Nat.le_refl _
    have HXV := Lib.hid hxv
    clear hxv
    go_cut [] (fun wx => AppCut S w6 e0 P xs wx)
    case first =>
      go_region_law (first
        | (refine step_none (by rfl) (.tmp 82) (.tmp 83) (by rfl) (by rfl) x (by rfl) HXV.out (by rfl) ?_))
      all_goals go_wp2_with fail
      all_goals go_meet
      all_goals exact ⟨x, w6.drew, HX.out.1, fun h0 => by rw [HX.out.2.1]; exact h0, (Ext.refl w6).drew, HX.out.2.2.ext (Ext.refl w6).drew, rfl⟩
    case rest =>
    obtain ⟨z, w7, z1, z2, hE7, z3, rfl⟩ := hcut
    have H8 := ((H6.out.ext hE7).setHd P hP z xs z1 z2 z3)
    have H8' := Lib.hid H8
    have hv8 := H8.v5
    have hv9 := And.intro H8.v7 (And.intro H8.v8 (And.intro H8.v9 (And.intro H8.v10 H8.fV)))
    obtain ⟨k7, k8, k9, k10, kf⟩ := hv9
    have HG8 : Hid (GrewG V e0 w (w7.setCell ⟨e0, P, none⟩ z.v)) := Lib.hid ((((((Grew.of HE1.out).ext HC4.out).trans HW5.out).trans HG6.out).ext hE7).setCell (p := ⟨e0, P, none⟩) (.inr rfl) _)
    have lV8 : V < (w7.setCell ⟨e0, P, none⟩ z.v).heap.size := H8.sl V H8.sV
    clear H8 z1 z2 hE7 z3
    generalize hw8 : w7.setCell ⟨e0, P, none⟩ z.v = w8 at *
    clear hw8 hx6 hv6 hHb lE6 l6
    have s1 : (c.st : Int) < 100000 := by omega
    have s2 : (0 : Int) ≤ c.st := by omega
    go_wp2_with fail
    go_ret
    rw [HGO.out]
    have h9 := (H8'.out.setSt (c.st + 1)).setEv ⟨P, F, k, false⟩
    simp only at h9
    rw [← HXS.out, set_getD_same _ P (by rw [List.length_set, H.out.dl]; exact hP)] at h9
    exact ⟨A5, B5, a5, b5, _, rfl, h9, ((((((HG8.out.setCell (p := ⟨V, 5, none⟩) (.inl rfl) _).setCell (p := ⟨V, 7, none⟩) (.inl rfl) _).setCell (p := ⟨V, 8, none⟩) (.inl rfl) _).setCell (p := ⟨V, 9, none⟩) (.inl rfl) _).setCell (p := ⟨V, 10, none⟩) (.inl rfl) _))⟩
end Go.Proofs.Ytebbpkdhdilkcaa

/- The program's Right of a crew, where it may be. -/
namespace Go.Proofs.Ytebbpkdhdilkcaa
open Go.BigFrame
open Go.RowKit Go.Proofs.Ytebbpkdhdilkcaa.Plain

/-- which of n are among these -/
def metL (n : Nat) (L : List Nat) : List Bool := (List.range n).map fun i => decide (i ∈ L)
theorem metL_len (n : Nat) (L : List Nat) : (metL n L).length = n := by unfold metL; simp
theorem metL_getD (n : Nat) (L : List Nat) (j : Nat) (hj : j < n) : (metL n L).getD j false = decide (j ∈ L) := by
  unfold metL
  rw [List.getD_eq_getElem?_getD, List.getElem?_map, List.getElem?_range hj]; rfl
theorem metL_nil (n : Nat) : metL n [] = List.replicate n false := by
  unfold metL
  apply List.ext_getElem?
  intro i
  rw [List.getElem?_map, List.getElem?_replicate]
  by_cases hi : i < n
  · rw [List.getElem?_range hi, if_pos hi]; rfl
  · rw [List.getElem?_eq_none (by simpa using hi), if_neg hi]; rfl
theorem metL_snoc (n : Nat) (L : List Nat) (k : Nat) (hk : k < n) : metL n (L ++ [k]) = (metL n L).set k true := by
  unfold metL
  apply List.ext_getElem?
  intro i
  by_cases hi : i < n
  · rw [List.getElem?_map, List.getElem?_range hi]
    by_cases e : i = k
    · subst e
      rw [List.getElem?_set_self (by simpa using hk)]; simp
    · rw [List.getElem?_set_ne (by omega), List.getElem?_map, List.getElem?_range hi]; simp [e]
  · rw [List.getElem?_eq_none (by simpa using hi), List.getElem?_eq_none (by simpa using hi)]

set_option maxHeartbeats 1600000 in
set_option maxRecDepth 100000 in
theorem holds_yes (A B : Option Addr) (eb eo a b e g n m : Nat) (c : Cw) (done : Nat) (G : List Nat) (w : World) (h : CrewAt w m c A B eb eo a b) (hI : CwI g n m c done G) (n1 : 1 ≤ n) (n2 : n ≤ 120) (g1 : 1 ≤ g) (g2 : g ≤ 100) (m2 : m ≤ 8) :
    Calls Try.prog 21 #[crewV A B eb eo a b e g m c] w fun ed w' => ed = .returned (.bool true) ∧ Ext w w' := by
  have HI := Lib.hid hI
  have HH := Lib.hid h
  have hfew := hI.few g1 n1
  have hts : (c.ts.length : Int) ≤ 240 := by omega
  have hO := CrI.inv hI
  have hgl : (held c.D).length ≤ c.ts.length := by have := (CrI.fresh hI).2.2.2; omega
  have HDN : Hid (c.dn.length = n) := Lib.hid hO.dl
  obtain ⟨N, hN⟩ : ∃ N, (held c.D).length = N := ⟨_, rfl⟩
  have hNl : N ≤ 240 := by omega
  have HN := Lib.hid hN
  obtain ⟨hs, hds⟩ := h.deq
  have HDS := Lib.hid hds
  obtain ⟨n0, hn0⟩ : ∃ n0, c.ts.length = n0 := ⟨_, rfl⟩
  have htl0 : 0 < n0 := by rw [← hn0]; exact hO.len
  obtain ⟨ta, to', rfl, hct⟩ := Rd.tasks h.tsk.rd (by omega : 0 < c.ts.length)
  rw [hn0] at hts hfew
  have HCT : Hid (∀ j, j < n0 → _) := Lib.hid (by rw [← hn0]; exact hct)
  have HTN := Lib.hid hn0
  obtain ⟨C, hmk, hmown⟩ := kBool.make false rfl trivial n0 (by omega)
  have HMK := Lib.hid hmown
  have hmk2 : ∀ w : World, (Instr.makeSlice 26 (.int .i64 n0) (.int .i64 n0)).run Try.prog w = .ok (.slice (some ⟨w.heap.size, 0, none⟩) n0 n0) (w.alloc (.cells C 4)) := hmk
  clear hmk
  clear h hI hO hgl hN hds hct hmown
  unfold crewV
  rw [hn0]
  clear hn0
  go_enter Try.func21, Try.ntmps21
  go_wp2_with fail
  refine (concat_all _ _ _ _ hs c.D _ (HDS.out.ext (((Ext.refl _).alloc _).alloc _)) m2 (by rw [HN.out]; omega)).mono ?_
  rintro ed w1 ⟨A1, c1, rfl, hown, hE⟩
  rw [HN.out]
  have HR1 := Lib.hid (rd_of_ints hown.ints)
  have HF1 : Hid (From (w.heap.size + 2) A1) := Lib.hid (hown.from.mono (by simp))
  have HM1 := Lib.hid ((HMK.out (w.alloc (.cells #[.slice (some ⟨ta, to', none⟩) n0 a, .int .i64 g, .slice B c.dn.length b, .slice (some ⟨eb, eo, none⟩) m e, .bool c.over, .int .i64 c.st, .int .i64 c.id] 31)) (w.heap.size + 1) (w.heap.size + 1) (by simp) (Nat.le_refl _)).ext hE)
  have HE1 := Lib.hid ((((Ext.refl w).alloc _).alloc _).trans hE)
  have x0 : w1.cell? ⟨w.heap.size, 0, none⟩ = some (.slice (some ⟨ta, to', none⟩) n0 a) := hE.cell (by go_simp)
  have x1 : w1.cell? ⟨w.heap.size, 1, none⟩ = some (.int .i64 g) := hE.cell (by go_simp)
  have x2 : w1.cell? ⟨w.heap.size, 2, none⟩ = some (.slice B c.dn.length b) := hE.cell (by go_simp)
  have HX : Hid (w1.cell? ⟨w.heap.size, 0, none⟩ = some (.slice (some ⟨ta, to', none⟩) n0 a) ∧ w1.cell? ⟨w.heap.size, 1, none⟩ = some (.int .i64 g) ∧ w1.cell? ⟨w.heap.size, 2, none⟩ = some (.slice B c.dn.length b)) := Lib.hid ⟨x0, x1, x2⟩
  have HZ := Lib.hid hE.size
  clear hown hE x0 x1 x2
  go_wp2_with fail
  go_loopw [15] (fun i wr => ∃ k : Nat, k ≤ N ∧ i = .int .i64 k ∧ Ow kBool (w.heap.size + 1) wr (.slice (some ⟨w.heap.size + 1, 0, none⟩) n0 n0) (metL n0 ((held c.D).take k)) ∧ Grew (fun b => b = w.heap.size + 1) w1 wr) (fun i _ => N - (intOf i).toNat)
  case atStart => exact ⟨0, Nat.zero_le _, rfl, by rw [List.take_zero, metL_nil]; exact HM1.out, Grew.refl _ _⟩
  case round =>
    obtain ⟨k, hk, rfl, hown, hG⟩ := hrel
    have HO := Lib.hid hown
    have HG := Lib.hid hG
    have hk0 : (0 : Int) ≤ k := by omega
    by_cases hlt : k < N
    · have hlt' : (k : Int) < N := by omega
      obtain ⟨i, hi⟩ : ∃ i, (held c.D).getD k 0 = i := ⟨_, rfl⟩
      have him : i ∈ held c.D := by
        rw [← hi, List.getD_eq_getElem?_getD, List.getElem?_eq_getElem (by rw [HN.out]; exact hlt)]
        exact List.getElem_mem _
      have hO := CrI.inv HI.out
      have hin : i < n0 := by rw [← HTN.out]; exact hO.lt i him
      have hnot : i ∉ (held c.D).take k := by
        intro hh
        have hnd := hO.nd
        rw [← List.take_append_drop k (held c.D), List.nodup_append] at hnd
        refine hnd.2.2 i hh i ?_ rfl
        have hd := List.drop_eq_getElem_cons (l := held c.D) (i := k) (by rw [HN.out]; exact hlt)
        rw [hd, ← hi, List.getD_eq_getElem?_getD, List.getElem?_eq_getElem (by rw [HN.out]; exact hlt)]
        exact List.mem_cons_self
      have hsucc : (held c.D).take (k + 1) = (held c.D).take k ++ [i] := by
        rw [List.take_succ_eq_append_getElem (by rw [HN.out]; exact hlt), ← hi, List.getD_eq_getElem?_getD, List.getElem?_eq_getElem (by rw [HN.out]; exact hlt)]; rfl
      have HS : Hid (metL n0 ((held c.D).take (k + 1)) = (metL n0 ((held c.D).take k)).set i true) := Lib.hid (by rw [hsucc]; exact metL_snoc n0 _ i hin)
      obtain ⟨b1, o1, rfl, hc1⟩ := HR1.out.cells (by rw [zs_len, HN.out]; omega)
      have hb1 := HF1.out _ rfl
      simp only at hb1
      have z0 := hc1 k (by rw [zs_len, HN.out]; exact hlt) 0 _ rfl
      have e0 : (zs (held c.D)).getD k kInt.d = ((i : Nat) : Int) := by rw [← hi]; exact zs_getD _ _
      have z1 : w1.cell? ⟨b1, o1 + k, none⟩ = some (.int .i64 i) := by
        rw [e0] at z0
        rw [show o1 + k = o1 + k * kInt.n + 0 from by show o1 + k = o1 + k * 1 + 0; omega]
        exact z0
      have zi := hG.cell z1 (by omega)
      obtain ⟨⟨lo, hi', up, wt⟩, ht⟩ : ∃ t, c.ts.getD i ⟨0, 0, 0, 0⟩ = t := ⟨_, rfl⟩
      have htT : T c.ts i = ⟨lo, hi', up, wt⟩ := ht
      have hw0 := hO.w0 i him
      rw [htT] at hw0
      simp only at hw0
      subst hw0
      have htask := hO.task i (hO.lt i him)
      rw [htT] at htask
      simp only at htask
      obtain ⟨t1, t2, t3, _, _, _, _⟩ := htask
      have hcov := (hO.cov lo.toNat (by omega)).2 ⟨i, him, by rw [htT]; simp only; omega, by rw [htT]; simp only; omega⟩
      obtain ⟨y0, y1, y2, y3⟩ := HCT.out i hin
      rw [ht] at y0 y1 y2 y3
      simp only at y0 y1 y2 y3
      have lta : ta < w.heap.size := World.block_lt_of_cell? _ _ y0
      have q0 := hG.cell (HE1.out.cell y0) (by omega)
      have q1 := hG.cell (HE1.out.cell y1) (by omega)
      have q2 := hG.cell (HE1.out.cell y2) (by omega)
      have q3 := hG.cell (HE1.out.cell y3) (by omega)
      have x0 := hG.cell HX.out.1 (by omega)
      have x1 := hG.cell HX.out.2.1 (by omega)
      have x2 := hG.cell HX.out.2.2 (by omega)
      obtain ⟨g', eg, _, _, h3, h4⟩ := Ow.pos hown (by rw [metL_len]; exact htl0)
      obtain rfl : g' = w.heap.size + 1 := by cases eg; rfl
      have zm : wr.cell? ⟨w.heap.size + 1, i, none⟩ = some (.bool false) := by
        have := h3 i (by rw [metL_len]; exact hin) 0 _ rfl
        rw [show (metL n0 ((held c.D).take k)).getD i kBool.d = false by rw [show kBool.d = false from rfl, metL_getD _ _ _ hin]; exact decide_eq_false hnot] at this
        rw [show i = i * kBool.n + 0 from by show i = i * 1 + 0; omega]
        exact this
      have HDR : Hid (Rd kBool wr (.slice B c.dn.length b) c.dn) := Lib.hid (HH.out.dns wr (Grew.of (hG.toExt HE1.out (fun b hb => by rw [hb]; omega))))
      have HFR := Lib.hid h4
      have hi0 : (0 : Int) ≤ i := by omega
      have hi1 : (i : Int) < n0 := by omega
      have hd1 : decide ((i : Int) < 0) = false := decide_eq_false (by omega)
      have hd2 : decide ((n0 : Int) ≤ (i : Int)) = false := decide_eq_false (by omega)
      have hd3 : decide (n0 ≤ i) = false := decide_eq_false (by omega)
      clear hown hG h3 h4 z0 z1 e0 hc1 hi ht htT him hO hnot hsucc y0 y1 y2 y3 eg
      have KS : Hid (∀ w', Ext wr w' → w'.cell? ⟨w.heap.size, 0, none⟩ = some (.slice (some ⟨ta, to', none⟩) n0 a) ∧ w'.cell? ⟨w.heap.size, 1, none⟩ = some (.int .i64 g) ∧ w'.cell? ⟨w.heap.size, 2, none⟩ = some (.slice B c.dn.length b) ∧ w'.cell? ⟨w.heap.size + 1, i, none⟩ = some (.bool false) ∧ w'.cell? ⟨ta, to' + i * 4, none⟩ = some (.int .i64 lo) ∧ w'.cell? ⟨ta, to' + i * 4 + 1, none⟩ = some (.int .i64 hi') ∧ w'.cell? ⟨ta, to' + i * 4 + 2, none⟩ = some (.int .i64 up) ∧ w'.cell? ⟨ta, to' + i * 4 + 3, none⟩ = some (.int .i64 0)) := Lib.hid fun w' hE => ⟨hE.cell x0, hE.cell x1, hE.cell x2, hE.cell zm, hE.cell q0, hE.cell q1, hE.cell q2, hE.cell q3⟩
      go_wp2_with fail
      have HOP : Hid (∀ w', Ext wr w' → Calls Try.prog 35 #[.agg #[.slice (some ⟨ta, to', none⟩) n0 a, .int .i64 g, .slice B c.dn.length b], .agg #[.int .i64 lo, .int .i64 hi', .int .i64 up, .int .i64 0]] w' fun ed w'' => ed = .returned (.bool true) ∧ Ext wr w'') := Lib.hid fun w' hE =>
        (copen_yes _ _ _ _ _ lo hi' up g c.dn w' (HDR.out.ext hE) t1 t2 (by rw [HDN.out]; omega) g1 g2 (by rw [HDN.out]; omega) hcov).mono fun ed w'' hh => ⟨hh.1, hE.trans hh.2⟩
      refine wp_region_class (Ext wr) (by kernel_rfl) (by kernel_rfl) (Ext.refl _).drew ?_
      try simp only [List.append_eq, List.cons_append, List.nil_append]
      repeat (first
        | go_big_quiet_skip
        | (go_big_quiet_want
           first
           | (go_big_quiet_op; go_big_quiet_on)
           | (unfold Oper.quiet
              apply Exists.intro
              refine ⟨fun w' hC => ?_, ?_⟩
              · (obtain ⟨k1, k2, k3, k4, k5, k6, k7, k8⟩ := KS.out w' hC
                 unfold Oper.quietAt
                 go_simp
                 first
                 | exact rfl
                 | (with_reducible exact HOP.out w' hC))
              go_simp
              go_big_quiet_on)
           | (go_big_quiet_op
              apply Exists.intro
              refine ⟨fun w' hC => ?_, ?_⟩
              · exact HOP.out w' hC
              go_big_quiet_on)))
      refine wpQuiet_nil ?_
      intro w4 hC4
      have y3 := fun o => (Below.frozen hC4 (p := ⟨w.heap.size + 1, o, none⟩) (by have := HZ.out; have := HG.out.size; simp at this ⊢; omega)).trans (HFR.out o)
      have l1 : w.heap.size + 1 < w4.heap.size := by have := HZ.out; have := HG.out.size; have := hC4.size; simp at *; omega
      have zm4 := hC4.cell zm
      have hset := (HO.out.ext hC4).set (j := i) (i := 0) (x := true) (u := .bool true) (by rw [metL_len]; exact hin) (by decide) rfl trivial
      rw [show i * kBool.n + 0 = i from by show i * 1 + 0 = i; omega, ← HS.out] at hset
      have HSET := Lib.hid hset
      clear hset
      go_wp2_with fail
      go_roundw
      case rel => exact ⟨k + 1, by omega, by go_num, HSET.out, (HG.out.ext hC4).setCell rfl _⟩
      case measure => simp [intOf]; omega
    · obtain rfl : k = N := by omega
      go_wp2_with fail
      go_ret
      exact ⟨rfl, hG.toExt HE1.out (fun b hb => by rw [hb]; omega)⟩

set_option maxHeartbeats 800000 in
set_option maxRecDepth 100000 in
/-- a crew that may be -/
theorem cright_yes (A B : Option Addr) (eb eo a b e g n m : Nat) (c : Cw) (done : Nat) (G : List Nat) (w : World) (h : CrewAt w m c A B eb eo a b) (hI : CwI g n m c done G) (n1 : 1 ≤ n) (n2 : n ≤ 120) (g1 : 1 ≤ g) (g2 : g ≤ 100) (m1 : 1 ≤ m) (m2 : m ≤ 8) (hst : c.st ≤ 100000) (hid : c.id ≤ 100000) :
    Calls Try.prog 9 #[crewV A B eb eo a b e g m c] w fun ed w' => ed = .returned (.bool true) ∧ Ext w w' := by
  have HI := Lib.hid hI
  have HH := Lib.hid h
  have HWR : Hid (wRight c.ts (g : Int) c.dn.length = true) := Lib.hid (by rw [(CrI.inv hI).dl]; exact (CrI.inv hI).right g1 g2 n1 n2)
  have HDL : Hid (c.dn.length = n) := Lib.hid (CrI.inv hI).dl
  have HGI : Hid (in64 (g : Int)) := Lib.hid (by unfold in64; omega)
  have s1 : (0 : Int) ≤ (c.st : Int) := by omega
  have s2 : (c.st : Int) ≤ 100000 := by omega
  have s3 : (0 : Int) ≤ (c.id : Int) := by omega
  have s4 : (c.id : Int) ≤ 100000 := by omega
  clear h hI
  go_enter Try.func9, Try.ntmps9
  go_wp2_with fail
  refine (right_to A B a b _ _ c.ts g true _ (HH.out.tsk.rd.ext ((Ext.refl _).alloc _)) rfl (by rw [HDL.out]; omega) HGI.out HWR.out).mono ?_
  rintro ed w1 ⟨rfl, hE⟩
  have x3 : w1.cell? ⟨w.heap.size, 3, none⟩ = some (.slice (some ⟨eb, eo, none⟩) m e) := hE.cell (by go_simp)
  have x5 : w1.cell? ⟨w.heap.size, 5, none⟩ = some (.int .i64 c.st) := hE.cell (by go_simp)
  have x6 : w1.cell? ⟨w.heap.size, 6, none⟩ = some (.int .i64 c.id) := hE.cell (by go_simp)
  have x0 : w1.cell? ⟨w.heap.size, 0, none⟩ = some (.slice A c.ts.length a) := hE.cell (by go_simp)
  have x1 : w1.cell? ⟨w.heap.size, 1, none⟩ = some (.int .i64 g) := hE.cell (by go_simp)
  have x2 : w1.cell? ⟨w.heap.size, 2, none⟩ = some (.slice B c.dn.length b) := hE.cell (by go_simp)
  have x4 : w1.cell? ⟨w.heap.size, 4, none⟩ = some (.bool c.over) := hE.cell (by go_simp)
  have HE1 := Lib.hid (((Ext.refl w).alloc _).trans hE)
  clear hE
  go_wp2_with (first | (go_at_call 15; refine (manned_yes _ _ m1 m2).mono ?_; rintro ed w2 ⟨rfl, rfl⟩) | (go_at_call 20; refine (counted_yes _ _ (by assumption) (by assumption)).mono ?_; rintro ed w2 ⟨rfl, rfl⟩))
  refine (holds_yes A B eb eo a b e g n m c _ _ _ (HH.out.ext HE1.out) HI.out n1 n2 g1 g2 m2).mono ?_
  rintro ed w3 ⟨rfl, hE3⟩
  go_wp2_with fail
  go_ret
  exact ⟨rfl, HE1.out.trans hE3⟩
end Go.Proofs.Ytebbpkdhdilkcaa

/- The program's copy of a crew: memory of its own. -/
namespace Go.Proofs.Ytebbpkdhdilkcaa
open Go.BigFrame
open Go.RowKit Go.Proofs.Ytebbpkdhdilkcaa.Plain

theorem Ow.off {α : Type} {K : Kd α} {S : Nat → Prop} {B n c : Nat} {w : World} {A : Option Addr} {xs : List α} (h : Ow K B w (.slice A n c) xs) (hS : ∀ x, S x → x < B ∨ w.heap.size ≤ x) : RdO K S w (.slice A n c) xs :=
  h.rd.off fun a ha hs => by
    subst ha
    have := h.lt a.block rfl
    have := hS _ hs
    omega
/-- while deques are cloned, one after the other -/
structure CopyAt (S : Nat → Prop) (w1 : World) (e0 m k : Nat) (D : List (List Nat)) (hs : Nat → Hd) (wr : World) : Prop where
  done : ∀ j, j < k → wr.cell? ⟨e0, j, none⟩ = some (hs j).v ∧ (hs j).n = (D.getD j []).length ∧ ((hs j).n = 0 → (hs j).c = 0) ∧ RdO kInt S wr (hs j).v (zs (D.getD j []))
  rest : ∀ j, k ≤ j → j < m → wr.cell? ⟨e0, j, none⟩ = some (.slice none 0 0)
  frz : ∀ o, wr.frozen? ⟨e0, o, none⟩ = false
  grew : Grew (fun b => b = e0) w1 wr
theorem CopyAt.next {S : Nat → Prop} {w1 wr w2 : World} {e0 m k : Nat} {D : List (List Nat)} {hs : Nat → Hd} (h : CopyAt S w1 e0 m k D hs wr) (sE : S e0) (lE : e0 < wr.heap.size) (hE : Ext wr w2) (x : Hd) (hn : x.n = (D.getD k []).length) (hc : x.n = 0 → x.c = 0) (hr : RdO kInt S w2 x.v (zs (D.getD k []))) (hk : k < m) :
    CopyAt S w1 e0 m (k + 1) D (fun j => if j = k then x else hs j) (w2.setCell ⟨e0, k, none⟩ x.v) := by
  have hold : w2.cell? ⟨e0, k, none⟩ = some (.slice none 0 0) := hE.cell (h.rest k (Nat.le_refl _) hk)
  have hfz : w2.frozen? ⟨e0, k, none⟩ = false := (Below.frozen hE (p := ⟨e0, k, none⟩) lE).trans (h.frz k)
  refine ⟨fun j hj => ?_, fun j hj hjm => ?_, fun o => ?_, (h.grew.ext hE).setCell rfl _⟩
  · by_cases e : j = k
    · subst e
      rw [if_pos rfl]
      exact ⟨by go_simp, hn, hc, hr.setCell sE _⟩
    · rw [if_neg e]
      obtain ⟨h1, h2, h3, h4⟩ := h.done j (by omega)
      refine ⟨?_, h2, h3, (h4.ext hE).setCell sE _⟩
      rw [World.cell?_setCell_other _ _ _ _ (fun e' => e (by cases e'; rfl))]
      exact hE.cell h1
  · rw [World.cell?_setCell_other _ _ _ _ (fun e' => by cases e'; omega)]
    exact hE.cell (h.rest j (by omega) hjm)
  · rw [World.frozen?_setCell]
    exact (Below.frozen hE (p := ⟨e0, o, none⟩) lE).trans (h.frz o)

set_option maxHeartbeats 1600000 in
set_option maxRecDepth 100000 in
theorem ccopy_any (A B : Option Addr) (eb eo a b e g m : Nat) (c : Cw) (w : World) (h : CrewAt w m c A B eb eo a b) (me : m ≤ e) (m1 : 1 ≤ m) (m2 : m ≤ 8) (lt : c.ts.length ≤ 1000000) (ln : c.dn.length ≤ 1000000) (lh : ∀ j, (c.D.getD j []).length ≤ 1000000) :
    Calls Try.prog 17 #[crewV A B eb eo a b e g m c] w fun ed w' => ∃ (A' B' : Option Addr) (e0 a' b' : Nat) (hs : Nat → Hd), ed = .returned (crewV A' B' e0 0 a' b' m g m c) ∧
      w.heap.size ≤ e0 ∧ e0 < w'.heap.size ∧ (∀ o, w'.frozen? ⟨e0, o, none⟩ = false) ∧
      RdO kTask (fun x => x < w.heap.size + 2 ∨ x = e0) w' (.slice A' c.ts.length a') c.ts ∧ RdO kBool (fun x => x < w.heap.size + 2 ∨ x = e0) w' (.slice B' c.dn.length b') c.dn ∧
      (∀ j, j < m → w'.cell? ⟨e0, j, none⟩ = some (hs j).v ∧ (hs j).n = (c.D.getD j []).length ∧ ((hs j).n = 0 → (hs j).c = 0) ∧ RdO kInt (fun x => x < w.heap.size + 2 ∨ x = e0) w' (hs j).v (zs (c.D.getD j []))) ∧ Ext w w' := by
  have HH := Lib.hid h
  have HLH := Lib.hid lh
  obtain ⟨hs0, hds⟩ := h.deq
  have HDS := Lib.hid hds
  have HDL : Hid (c.D.length = m) := Lib.hid hds.1
  have m3 : (m : Int) ≤ 8 := by omega
  have m4 : (1 : Int) ≤ m := by omega
  have m5 : (m : Int) ≤ e := by omega
  obtain ⟨C, hmk, hmown⟩ := kRow.make hd0 rfl trivial m (by omega)
  have HMK := Lib.hid hmown
  have hmk2 : ∀ w : World, (Instr.makeSlice 29 (.int .i64 m) (.int .i64 m)).run Try.prog w = .ok (.slice (some ⟨w.heap.size, 0, none⟩) m m) (w.alloc (.cells C 55)) := hmk
  clear hmk h hds hmown lh
  go_enter Try.func17, Try.ntmps17
  go_wp2_with fail
  refine (clone_t _ c.ts _ (HH.out.tsk.rd.ext (((Ext.refl _).alloc _).alloc _)) (by omega)).mono ?_
  rintro ed w1 ⟨A1, a1, rfl, hT1, hE1⟩
  have v0 : w1.cell? ⟨w.heap.size, 0, none⟩ = some (.slice A c.ts.length a) := Ext.cell hE1 (by go_simp)
  have v1 : w1.cell? ⟨w.heap.size, 1, none⟩ = some (.int .i64 g) := Ext.cell hE1 (by go_simp)
  have v2 : w1.cell? ⟨w.heap.size, 2, none⟩ = some (.slice B c.dn.length b) := Ext.cell hE1 (by go_simp)
  have v3 : w1.cell? ⟨w.heap.size, 3, none⟩ = some (.slice (some ⟨eb, eo, none⟩) m e) := Ext.cell hE1 (by go_simp)
  have v4 : w1.cell? ⟨w.heap.size, 4, none⟩ = some (.bool c.over) := Ext.cell hE1 (by go_simp)
  have v5 : w1.cell? ⟨w.heap.size, 5, none⟩ = some (.int .i64 c.st) := Ext.cell hE1 (by go_simp)
  have v6 : w1.cell? ⟨w.heap.size, 6, none⟩ = some (.int .i64 c.id) := Ext.cell hE1 (by go_simp)
  have vf : ∀ o, w1.frozen? ⟨w.heap.size, o, none⟩ = false := fun o => (Below.frozen hE1 (p := ⟨w.heap.size, o, none⟩) (by first | omega | (simp; omega) | simp)).trans (by go_simp)
  have r0 : w1.cell? ⟨w.heap.size + 1, 0, none⟩ = some (.slice none 0 0) := Ext.cell hE1 (by go_simp)
  have r1 : w1.cell? ⟨w.heap.size + 1, 1, none⟩ = some (.int .i64 0) := Ext.cell hE1 (by go_simp)
  have r2 : w1.cell? ⟨w.heap.size + 1, 2, none⟩ = some (.slice none 0 0) := Ext.cell hE1 (by go_simp)
  have r3 : w1.cell? ⟨w.heap.size + 1, 3, none⟩ = some (.slice none 0 0) := Ext.cell hE1 (by go_simp)
  have r4 : w1.cell? ⟨w.heap.size + 1, 4, none⟩ = some (.bool false) := Ext.cell hE1 (by go_simp)
  have r5 : w1.cell? ⟨w.heap.size + 1, 5, none⟩ = some (.int .i64 0) := Ext.cell hE1 (by go_simp)
  have r6 : w1.cell? ⟨w.heap.size + 1, 6, none⟩ = some (.int .i64 0) := Ext.cell hE1 (by go_simp)
  have rf : ∀ o, w1.frozen? ⟨w.heap.size + 1, o, none⟩ = false := fun o => (Below.frozen hE1 (p := ⟨w.heap.size + 1, o, none⟩) (by first | omega | (simp; omega) | simp)).trans (by go_simp)
  have hz1 := hE1.size
  simp at hz1
  have l1 : w.heap.size < w1.heap.size := by omega
  have l1' : w.heap.size + 1 < w1.heap.size := by omega
  have HT1 := Lib.hid hT1
  have HX1 := Lib.hid (((((Ext.refl w).alloc _).alloc _).trans hE1).setCell (p := ⟨w.heap.size, 0, none⟩) (Nat.le_refl _) (.slice A1 c.ts.length a1))
  clear hE1 hT1
  go_wp2_with fail
  refine (clone_b _ c.dn _ (HH.out.dns.rd.ext HX1.out) (by omega)).mono ?_
  rintro ed w2 ⟨B1, b1, rfl, hD1, hE2⟩
  have y0 : w2.cell? ⟨w.heap.size, 0, none⟩ = some (.slice A1 c.ts.length a1) := Ext.cell hE2 (by go_simp)
  have y1 : w2.cell? ⟨w.heap.size, 1, none⟩ = some (.int .i64 g) := Ext.cell hE2 (by go_simp)
  have y2 : w2.cell? ⟨w.heap.size, 2, none⟩ = some (.slice B c.dn.length b) := Ext.cell hE2 (by go_simp)
  have y3 : w2.cell? ⟨w.heap.size, 3, none⟩ = some (.slice (some ⟨eb, eo, none⟩) m e) := Ext.cell hE2 (by go_simp)
  have y4 : w2.cell? ⟨w.heap.size, 4, none⟩ = some (.bool c.over) := Ext.cell hE2 (by go_simp)
  have y5 : w2.cell? ⟨w.heap.size, 5, none⟩ = some (.int .i64 c.st) := Ext.cell hE2 (by go_simp)
  have y6 : w2.cell? ⟨w.heap.size, 6, none⟩ = some (.int .i64 c.id) := Ext.cell hE2 (by go_simp)
  have yf : ∀ o, w2.frozen? ⟨w.heap.size, o, none⟩ = false := fun o => (Below.frozen hE2 (p := ⟨w.heap.size, o, none⟩) (by first | omega | (simp; omega) | simp)).trans (by go_simp)
  have s0 : w2.cell? ⟨w.heap.size + 1, 0, none⟩ = some (.slice none 0 0) := Ext.cell hE2 (by go_simp)
  have s1 : w2.cell? ⟨w.heap.size + 1, 1, none⟩ = some (.int .i64 0) := Ext.cell hE2 (by go_simp)
  have s2 : w2.cell? ⟨w.heap.size + 1, 2, none⟩ = some (.slice none 0 0) := Ext.cell hE2 (by go_simp)
  have s3 : w2.cell? ⟨w.heap.size + 1, 3, none⟩ = some (.slice none 0 0) := Ext.cell hE2 (by go_simp)
  have s4 : w2.cell? ⟨w.heap.size + 1, 4, none⟩ = some (.bool false) := Ext.cell hE2 (by go_simp)
  have s5 : w2.cell? ⟨w.heap.size + 1, 5, none⟩ = some (.int .i64 0) := Ext.cell hE2 (by go_simp)
  have s6 : w2.cell? ⟨w.heap.size + 1, 6, none⟩ = some (.int .i64 0) := Ext.cell hE2 (by go_simp)
  have sf : ∀ o, w2.frozen? ⟨w.heap.size + 1, o, none⟩ = false := fun o => (Below.frozen hE2 (p := ⟨w.heap.size + 1, o, none⟩) (by first | omega | (simp; omega) | simp)).trans (by go_simp)
  have hz2 := hE2.size
  simp at hz2
  have l2 : w.heap.size < w2.heap.size := by omega
  have l2' : w.heap.size + 1 < w2.heap.size := by omega
  have HD1 := Lib.hid hD1
  have HT2 := Lib.hid ((HT1.out.setBelow (p := ⟨w.heap.size, 0, none⟩) (by simp; omega) (.slice A1 c.ts.length a1)).ext hE2)
  have HX2 := Lib.hid ((HX1.out.trans hE2).setCell (p := ⟨w.heap.size, 2, none⟩) (Nat.le_refl _) (.slice B1 c.dn.length b1))
  clear hE2 hD1 v0 v1 v2 v3 v4 v5 v6 vf r0 r1 r2 r3 r4 r5 r6 rf
  go_wp2_with fail
  obtain ⟨e0, he0⟩ : ∃ e0, w2.heap.size = e0 := ⟨_, rfl⟩
  have HT3 : Hid (RdO kTask (fun x => x < w.heap.size + 2 ∨ x = e0) ((w2.setCell ⟨w.heap.size, 2, none⟩ (.slice B1 c.dn.length b1)).alloc (.cells C 55)) (.slice A1 c.ts.length a1) c.ts) := Lib.hid (by
    refine RdO.ext (Ow.off (HT2.out.setBelow (p := ⟨w.heap.size, 2, none⟩) (by simp; omega) (.slice B1 c.dn.length b1)) (fun x hx => ?_)) ((Ext.refl _).alloc _)
    rcases hx with hx | hx
    · left; simp; omega
    · right; subst hx; rw [← he0, World.size_setCell]; exact Nat.le_refl _)
  have HD3 : Hid (RdO kBool (fun x => x < w.heap.size + 2 ∨ x = e0) ((w2.setCell ⟨w.heap.size, 2, none⟩ (.slice B1 c.dn.length b1)).alloc (.cells C 55)) (.slice B1 c.dn.length b1) c.dn) := Lib.hid (by
    refine RdO.ext (Ow.off (HD1.out.setBelow (p := ⟨w.heap.size, 2, none⟩) (by simp; omega) (.slice B1 c.dn.length b1)) (fun x hx => ?_)) ((Ext.refl _).alloc _)
    rcases hx with hx | hx
    · left; simp; omega
    · right; subst hx; rw [← he0, World.size_setCell]; exact Nat.le_refl _)
  have HX3 : Hid (Ext w ((w2.setCell ⟨w.heap.size, 2, none⟩ (.slice B1 c.dn.length b1)).alloc (.cells C 55))) := Lib.hid (HX2.out.alloc _)
  have HC3 : Hid (CopyAt (fun x => x < w.heap.size + 2 ∨ x = e0) ((w2.setCell ⟨w.heap.size, 2, none⟩ (.slice B1 c.dn.length b1)).alloc (.cells C 55)) e0 m 0 c.D (fun _ => hd0) ((w2.setCell ⟨w.heap.size, 2, none⟩ (.slice B1 c.dn.length b1)).alloc (.cells C 55))) := Lib.hid (by
    have hm := HMK.out (w2.setCell ⟨w.heap.size, 2, none⟩ (.slice B1 c.dn.length b1)) e0 e0 (by rw [World.size_setCell]; exact he0.symm) (Nat.le_refl _)
    obtain ⟨g', eg, _, _, h3, h4⟩ := Ow.pos hm (by rw [List.length_replicate]; exact m1)
    cases eg
    refine ⟨fun j hj => absurd hj (Nat.not_lt_zero _), fun j _ hj => ?_, h4, Grew.refl _ _⟩
    have := h3 j (by rw [List.length_replicate]; exact hj) 0 (.slice none 0 0) (by rw [List.getD_eq_getElem?_getD, List.getElem?_replicate, if_pos hj]; rfl)
    rw [show j = j * kRow.n + 0 from by show j = j * 1 + 0; omega]
    exact this)
  have le0 : w.heap.size + 1 < e0 := by omega
  have le00 : w.heap.size < e0 := by omega
  have HZ3 : Hid (e0 < ((w2.setCell ⟨w.heap.size, 2, none⟩ (.slice B1 c.dn.length b1)).alloc (.cells C 55)).heap.size) := Lib.hid (by simp; omega)
  have hEr : Ext ((w2.setCell ⟨w.heap.size, 2, none⟩ (.slice B1 c.dn.length b1)).alloc (.cells C 55)) ((w2.setCell ⟨w.heap.size, 2, none⟩ (.slice B1 c.dn.length b1)).alloc (.cells C 55)) := Ext.refl _
  rw [he0]
  have l3 : w.heap.size + 1 < ((w2.setCell ⟨w.heap.size, 2, none⟩ (.slice B1 c.dn.length b1)).alloc (.cells C 55)).heap.size := by simp; omega
  have q0 : ((w2.setCell ⟨w.heap.size, 2, none⟩ (.slice B1 c.dn.length b1)).alloc (.cells C 55)).cell? ⟨w.heap.size, 0, none⟩ = some (.slice A1 c.ts.length a1) := Ext.cell hEr (by go_simp)
  have q1 : ((w2.setCell ⟨w.heap.size, 2, none⟩ (.slice B1 c.dn.length b1)).alloc (.cells C 55)).cell? ⟨w.heap.size, 1, none⟩ = some (.int .i64 g) := Ext.cell hEr (by go_simp)
  have q2 : ((w2.setCell ⟨w.heap.size, 2, none⟩ (.slice B1 c.dn.length b1)).alloc (.cells C 55)).cell? ⟨w.heap.size, 2, none⟩ = some (.slice B1 c.dn.length b1) := Ext.cell hEr (by go_simp)
  have q3 : ((w2.setCell ⟨w.heap.size, 2, none⟩ (.slice B1 c.dn.length b1)).alloc (.cells C 55)).cell? ⟨w.heap.size, 3, none⟩ = some (.slice (some ⟨eb, eo, none⟩) m e) := Ext.cell hEr (by go_simp)
  have q4 : ((w2.setCell ⟨w.heap.size, 2, none⟩ (.slice B1 c.dn.length b1)).alloc (.cells C 55)).cell? ⟨w.heap.size, 4, none⟩ = some (.bool c.over) := Ext.cell hEr (by go_simp)
  have q5 : ((w2.setCell ⟨w.heap.size, 2, none⟩ (.slice B1 c.dn.length b1)).alloc (.cells C 55)).cell? ⟨w.heap.size, 5, none⟩ = some (.int .i64 c.st) := Ext.cell hEr (by go_simp)
  have q6 : ((w2.setCell ⟨w.heap.size, 2, none⟩ (.slice B1 c.dn.length b1)).alloc (.cells C 55)).cell? ⟨w.heap.size, 6, none⟩ = some (.int .i64 c.id) := Ext.cell hEr (by go_simp)
  have qf : ∀ o, ((w2.setCell ⟨w.heap.size, 2, none⟩ (.slice B1 c.dn.length b1)).alloc (.cells C 55)).frozen? ⟨w.heap.size, o, none⟩ = false := fun o => (Below.frozen hEr (p := ⟨w.heap.size, o, none⟩) (by first | omega | (simp; omega) | simp)).trans (by go_simp)
  have x0 : ((w2.setCell ⟨w.heap.size, 2, none⟩ (.slice B1 c.dn.length b1)).alloc (.cells C 55)).cell? ⟨w.heap.size + 1, 0, none⟩ = some (.slice none 0 0) := Ext.cell hEr (by go_simp)
  have x1 : ((w2.setCell ⟨w.heap.size, 2, none⟩ (.slice B1 c.dn.length b1)).alloc (.cells C 55)).cell? ⟨w.heap.size + 1, 1, none⟩ = some (.int .i64 0) := Ext.cell hEr (by go_simp)
  have x2 : ((w2.setCell ⟨w.heap.size, 2, none⟩ (.slice B1 c.dn.length b1)).alloc (.cells C 55)).cell? ⟨w.heap.size + 1, 2, none⟩ = some (.slice none 0 0) := Ext.cell hEr (by go_simp)
  have x3 : ((w2.setCell ⟨w.heap.size, 2, none⟩ (.slice B1 c.dn.length b1)).alloc (.cells C 55)).cell? ⟨w.heap.size + 1, 3, none⟩ = some (.slice none 0 0) := Ext.cell hEr (by go_simp)
  have x4 : ((w2.setCell ⟨w.heap.size, 2, none⟩ (.slice B1 c.dn.length b1)).alloc (.cells C 55)).cell? ⟨w.heap.size + 1, 4, none⟩ = some (.bool false) := Ext.cell hEr (by go_simp)
  have x5 : ((w2.setCell ⟨w.heap.size, 2, none⟩ (.slice B1 c.dn.length b1)).alloc (.cells C 55)).cell? ⟨w.heap.size + 1, 5, none⟩ = some (.int .i64 0) := Ext.cell hEr (by go_simp)
  have x6 : ((w2.setCell ⟨w.heap.size, 2, none⟩ (.slice B1 c.dn.length b1)).alloc (.cells C 55)).cell? ⟨w.heap.size + 1, 6, none⟩ = some (.int .i64 0) := Ext.cell hEr (by go_simp)
  have xf : ∀ o, ((w2.setCell ⟨w.heap.size, 2, none⟩ (.slice B1 c.dn.length b1)).alloc (.cells C 55)).frozen? ⟨w.heap.size + 1, o, none⟩ = false := fun o => (Below.frozen hEr (p := ⟨w.heap.size + 1, o, none⟩) (by first | omega | (simp; omega) | simp)).trans (by go_simp)
  clear hEr y0 y1 y2 y3 y4 y5 y6 yf s0 s1 s2 s3 s4 s5 s6 sf HT2 HD1 HX2 HT1 HX1 HMK hz1 hz2 l1 l1' l2 l2'
  generalize hw3 : (w2.setCell ⟨w.heap.size, 2, none⟩ (.slice B1 c.dn.length b1)).alloc (.cells C 55) = w3 at *
  clear hw3 he0 hmk2
  go_loopw [25] (fun i wr => ∃ (k : Nat) (hs : Nat → Hd), k ≤ m ∧ i = .int .i64 k ∧ CopyAt (fun x => x < w.heap.size + 2 ∨ x = e0) w3 e0 m k c.D hs wr) (fun i _ => m - (intOf i).toNat)
  case atStart => exact ⟨0, _, Nat.zero_le _, rfl, HC3.out⟩
  case round =>
    obtain ⟨k, hs, hk, rfl, hC⟩ := hrel
    have HC := Lib.hid hC
    have hk0 : (0 : Int) ≤ k := by omega
    have hG := hC.grew
    have hzr := hG.size
    have z3 := HZ3.out
    have ler : e0 < wr.heap.size := by omega
    by_cases hlt : k < m
    · have hlt' : (k : Int) < m := by omega
      obtain ⟨z0, zn, zr⟩ := HDS.out.2 k hlt
      have hXr := hG.toExt HX3.out (fun b hb => by rw [hb]; omega)
      have z := hXr.cell z0
      obtain ⟨xs, hxs⟩ : ∃ xs, c.D.getD k [] = xs := ⟨_, rfl⟩
      rw [hxs] at zn zr
      have HXS := Lib.hid hxs
      have HZR : Hid (Rd kInt wr (hs0 k).v (zs xs)) := Lib.hid (zr.rd.ext hXr)
      have HZN := Lib.hid zn
      have HXL : Hid (xs.length ≤ 1000000) := Lib.hid (by rw [← hxs]; exact HLH.out k)
      have hrest := hC.rest k (Nat.le_refl _) hlt
      clear hC hG zn zr hXr z0 hxs
      go_wp2_with fail
      refine (clone_dq (hs0 k) xs _ HZR.out HZN.out HXL.out).mono ?_
      rintro ed w4 ⟨x, rfl, hxn, hxc, hxr, hE4⟩
      have HN4 : Hid (CopyAt (fun x => x < w.heap.size + 2 ∨ x = e0) w3 e0 m (k + 1) c.D (fun j => if j = k then x else hs j) (w4.setCell ⟨e0, k, none⟩ x.v)) := Lib.hid (HC.out.next (.inr rfl) ler hE4 x (by rw [HXS.out]; exact hxn) hxc (by rw [HXS.out]; exact hxr _ (fun y hy => by rcases hy with hy | hy <;> omega)) hlt)
      have hr4 := hE4.cell hrest
      have hf4 := fun o => (Below.frozen hE4 (p := ⟨e0, o, none⟩) ler).trans (HC.out.frz o)
      have hz4 := hE4.size
      have ler4 : e0 < w4.heap.size := by omega
      clear hxn hxc hxr hE4 hrest
      go_wp2_with fail
      go_roundw
      case rel => exact ⟨k + 1, _, by omega, by go_num, HN4.out⟩
      case measure => simp [intOf]; omega
    · obtain rfl : k = m := by omega
      have p0 := hG.cell q0 (by omega)
      have p1 := hG.cell q1 (by omega)
      have p2 := hG.cell q2 (by omega)
      have p3 := hG.cell q3 (by omega)
      have p4 := hG.cell q4 (by omega)
      have p5 := hG.cell q5 (by omega)
      have p6 := hG.cell q6 (by omega)
      have pf := fun o => (hG.frozen (b := w.heap.size) (by omega) (by omega) o).trans (qf o)
      have zz0 := hG.cell x0 (by omega)
      have zz1 := hG.cell x1 (by omega)
      have zz2 := hG.cell x2 (by omega)
      have zz3 := hG.cell x3 (by omega)
      have zz4 := hG.cell x4 (by omega)
      have zz5 := hG.cell x5 (by omega)
      have zz6 := hG.cell x6 (by omega)
      have zzf := fun o => (hG.frozen (b := w.heap.size + 1) (by omega) (by omega) o).trans (xf o)
      have lv0 : w.heap.size < wr.heap.size := by omega
      have lv1 : w.heap.size + 1 < wr.heap.size := by omega
      have HXR : Hid (Ext w wr) := Lib.hid (hG.toExt HX3.out (fun b hb => by rw [hb]; omega))
      have HTR := Lib.hid (HT3.out.grew (hG.mono (T := fun x => x < w.heap.size + 2 ∨ x = e0) (fun b _ hb => .inr hb)))
      have HDR := Lib.hid (HD3.out.grew (hG.mono (T := fun x => x < w.heap.size + 2 ∨ x = e0) (fun b _ hb => .inr hb)))
      clear q0 q1 q2 q3 q4 q5 q6 qf x0 x1 x2 x3 x4 x5 x6 xf hG hC l3 z3 hzr
      go_upto_region 10 with fail
      have hEs : Ext (wr.setCell ⟨w.heap.size, 3, none⟩ (.slice (some ⟨e0, 0, none⟩) k k)) (wr.setCell ⟨w.heap.size, 3, none⟩ (.slice (some ⟨e0, 0, none⟩) k k)) := Ext.refl _
      have mm0 : (wr.setCell ⟨w.heap.size, 3, none⟩ (.slice (some ⟨e0, 0, none⟩) k k)).cell? ⟨w.heap.size, 0, none⟩ = some (.slice A1 c.ts.length a1) := Ext.cell hEs (by go_simp)
      have mm1 : (wr.setCell ⟨w.heap.size, 3, none⟩ (.slice (some ⟨e0, 0, none⟩) k k)).cell? ⟨w.heap.size, 1, none⟩ = some (.int .i64 g) := Ext.cell hEs (by go_simp)
      have mm2 : (wr.setCell ⟨w.heap.size, 3, none⟩ (.slice (some ⟨e0, 0, none⟩) k k)).cell? ⟨w.heap.size, 2, none⟩ = some (.slice B1 c.dn.length b1) := Ext.cell hEs (by go_simp)
      have mm3 : (wr.setCell ⟨w.heap.size, 3, none⟩ (.slice (some ⟨e0, 0, none⟩) k k)).cell? ⟨w.heap.size, 3, none⟩ = some (.slice (some ⟨e0, 0, none⟩) k k) := Ext.cell hEs (by go_simp)
      have mm4 : (wr.setCell ⟨w.heap.size, 3, none⟩ (.slice (some ⟨e0, 0, none⟩) k k)).cell? ⟨w.heap.size, 4, none⟩ = some (.bool c.over) := Ext.cell hEs (by go_simp)
      have mm5 : (wr.setCell ⟨w.heap.size, 3, none⟩ (.slice (some ⟨e0, 0, none⟩) k k)).cell? ⟨w.heap.size, 5, none⟩ = some (.int .i64 c.st) := Ext.cell hEs (by go_simp)
      have mm6 : (wr.setCell ⟨w.heap.size, 3, none⟩ (.slice (some ⟨e0, 0, none⟩) k k)).cell? ⟨w.heap.size, 6, none⟩ = some (.int .i64 c.id) := Ext.cell hEs (by go_simp)
      have mmf : ∀ o, (wr.setCell ⟨w.heap.size, 3, none⟩ (.slice (some ⟨e0, 0, none⟩) k k)).frozen? ⟨w.heap.size, o, none⟩ = false := fun o => (Below.frozen hEs (p := ⟨w.heap.size, o, none⟩) (by first | omega | (simp; omega) | simp)).trans (by go_simp)
      have nn0 : (wr.setCell ⟨w.heap.size, 3, none⟩ (.slice (some ⟨e0, 0, none⟩) k k)).cell? ⟨w.heap.size + 1, 0, none⟩ = some (.slice none 0 0) := Ext.cell hEs (by go_simp)
      have nn1 : (wr.setCell ⟨w.heap.size, 3, none⟩ (.slice (some ⟨e0, 0, none⟩) k k)).cell? ⟨w.heap.size + 1, 1, none⟩ = some (.int .i64 0) := Ext.cell hEs (by go_simp)
      have nn2 : (wr.setCell ⟨w.heap.size, 3, none⟩ (.slice (some ⟨e0, 0, none⟩) k k)).cell? ⟨w.heap.size + 1, 2, none⟩ = some (.slice none 0 0) := Ext.cell hEs (by go_simp)
      have nn3 : (wr.setCell ⟨w.heap.size, 3, none⟩ (.slice (some ⟨e0, 0, none⟩) k k)).cell? ⟨w.heap.size + 1, 3, none⟩ = some (.slice none 0 0) := Ext.cell hEs (by go_simp)
      have nn4 : (wr.setCell ⟨w.heap.size, 3, none⟩ (.slice (some ⟨e0, 0, none⟩) k k)).cell? ⟨w.heap.size + 1, 4, none⟩ = some (.bool false) := Ext.cell hEs (by go_simp)
      have nn5 : (wr.setCell ⟨w.heap.size, 3, none⟩ (.slice (some ⟨e0, 0, none⟩) k k)).cell? ⟨w.heap.size + 1, 5, none⟩ = some (.int .i64 0) := Ext.cell hEs (by go_simp)
      have nn6 : (wr.setCell ⟨w.heap.size, 3, none⟩ (.slice (some ⟨e0, 0, none⟩) k k)).cell? ⟨w.heap.size + 1, 6, none⟩ = some (.int .i64 0) := Ext.cell hEs (by go_simp)
      have nnf : ∀ o, (wr.setCell ⟨w.heap.size, 3, none⟩ (.slice (some ⟨e0, 0, none⟩) k k)).frozen? ⟨w.heap.size + 1, o, none⟩ = false := fun o => (Below.frozen hEs (p := ⟨w.heap.size + 1, o, none⟩) (by first | omega | (simp; omega) | simp)).trans (by go_simp)
      have HGW : Hid (Grew (fun x => x = w.heap.size) wr (wr.setCell ⟨w.heap.size, 3, none⟩ (.slice (some ⟨e0, 0, none⟩) k k))) := Lib.hid (Grew.setCell (S := fun x => x = w.heap.size) (p := ⟨w.heap.size, 3, none⟩) (Grew.refl _ _) rfl _)
      have HG7 : Hid (Grew (fun x => x < w.heap.size + 2 ∨ x = e0) wr (wr.setCell ⟨w.heap.size, 3, none⟩ (.slice (some ⟨e0, 0, none⟩) k k))) := Lib.hid (HGW.out.mono (fun x _ hx => .inl (by rw [hx]; omega)))
      have HXS : Hid (Ext w (wr.setCell ⟨w.heap.size, 3, none⟩ (.slice (some ⟨e0, 0, none⟩) k k))) := Lib.hid (HXR.out.setCell (p := ⟨w.heap.size, 3, none⟩) (Nat.le_refl _) _)
      have lv5 : w.heap.size + 1 < ((wr.setCell ⟨w.heap.size, 3, none⟩ (.slice (some ⟨e0, 0, none⟩) k k))).heap.size := by simp; omega
      have lv7 : e0 < ((wr.setCell ⟨w.heap.size, 3, none⟩ (.slice (some ⟨e0, 0, none⟩) k k))).heap.size := by simp; omega
      have lv6 : w.heap.size < ((wr.setCell ⟨w.heap.size, 3, none⟩ (.slice (some ⟨e0, 0, none⟩) k k))).heap.size := by simp; omega
      generalize hw5 : (wr.setCell ⟨w.heap.size, 3, none⟩ (.slice (some ⟨e0, 0, none⟩) k k)) = w5 at *
      clear hw5 hEs p0 p1 p2 p3 p4 p5 p6 pf zz0 zz1 zz2 zz3 zz4 zz5 zz6 zzf
      go_wp2_with fail
      refine bodyPost_ret (v := .agg #[.slice A1 c.ts.length a1, .int .i64 g, .slice B1 c.dn.length b1, .slice (some ⟨e0, 0, none⟩) k k, .bool c.over, .int .i64 c.st, .int .i64 c.id]) (by simp [results, Try.results17, go_sem]; go_simp) rfl ⟨A1, B1, e0, a1, b1, hs, rfl, ?_, ?_, ?_, ?_, ?_, ?_, ?_⟩
      · omega
      · simp; omega
      · exact fun o => by rw [World.frozen?_setCell, World.frozen?_setCell, World.frozen?_setCell, World.frozen?_setCell, World.frozen?_setCell, World.frozen?_setCell, World.frozen?_setCell]; exact (HGW.out.frozen ler (by omega) o).trans (HC.out.frz o)
      · exact HTR.out.grew (((((((HG7.out.setCell (p := ⟨w.heap.size + 1, 0, none⟩) (.inl (by simp)) _).setCell (p := ⟨w.heap.size + 1, 1, none⟩) (.inl (by simp)) _).setCell (p := ⟨w.heap.size + 1, 2, none⟩) (.inl (by simp)) _).setCell (p := ⟨w.heap.size + 1, 3, none⟩) (.inl (by simp)) _).setCell (p := ⟨w.heap.size + 1, 4, none⟩) (.inl (by simp)) _).setCell (p := ⟨w.heap.size + 1, 5, none⟩) (.inl (by simp)) _).setCell (p := ⟨w.heap.size + 1, 6, none⟩) (.inl (by simp)) _)
      · exact HDR.out.grew (((((((HG7.out.setCell (p := ⟨w.heap.size + 1, 0, none⟩) (.inl (by simp)) _).setCell (p := ⟨w.heap.size + 1, 1, none⟩) (.inl (by simp)) _).setCell (p := ⟨w.heap.size + 1, 2, none⟩) (.inl (by simp)) _).setCell (p := ⟨w.heap.size + 1, 3, none⟩) (.inl (by simp)) _).setCell (p := ⟨w.heap.size + 1, 4, none⟩) (.inl (by simp)) _).setCell (p := ⟨w.heap.size + 1, 5, none⟩) (.inl (by simp)) _).setCell (p := ⟨w.heap.size + 1, 6, none⟩) (.inl (by simp)) _)
      · intro j hj
        obtain ⟨h1, h2, h3, h4⟩ := HC.out.done j hj
        have hG7 := (((((((HG7.out.setCell (p := ⟨w.heap.size + 1, 0, none⟩) (.inl (by simp)) (.slice A1 c.ts.length a1)).setCell (p := ⟨w.heap.size + 1, 1, none⟩) (.inl (by simp)) (.int .i64 g)).setCell (p := ⟨w.heap.size + 1, 2, none⟩) (.inl (by simp)) (.slice B1 c.dn.length b1)).setCell (p := ⟨w.heap.size + 1, 3, none⟩) (.inl (by simp)) (.slice (some ⟨e0, 0, none⟩) k k)).setCell (p := ⟨w.heap.size + 1, 4, none⟩) (.inl (by simp)) (.bool c.over)).setCell (p := ⟨w.heap.size + 1, 5, none⟩) (.inl (by simp)) (.int .i64 c.st)).setCell (p := ⟨w.heap.size + 1, 6, none⟩) (.inl (by simp)) (.int .i64 c.id))
        refine ⟨?_, h2, h3, h4.grew hG7⟩
        exact Grew.cell (S := fun x => x = w.heap.size ∨ x = w.heap.size + 1) ((((((((HGW.out.mono (T := fun x => x = w.heap.size ∨ x = w.heap.size + 1) (fun _ _ hx => .inl hx)).setCell (p := ⟨w.heap.size + 1, 0, none⟩) (.inr rfl) _).setCell (p := ⟨w.heap.size + 1, 1, none⟩) (.inr rfl) _).setCell (p := ⟨w.heap.size + 1, 2, none⟩) (.inr rfl) _).setCell (p := ⟨w.heap.size + 1, 3, none⟩) (.inr rfl) _).setCell (p := ⟨w.heap.size + 1, 4, none⟩) (.inr rfl) _).setCell (p := ⟨w.heap.size + 1, 5, none⟩) (.inr rfl) _).setCell (p := ⟨w.heap.size + 1, 6, none⟩) (.inr rfl) _) h1 (by omega)
      · exact ((((((HXS.out.setCell (by simp) _).setCell (by simp) _).setCell (by simp) _).setCell (by simp) _).setCell (by simp) _).setCell (by simp) _).setCell (by simp) _
end Go.Proofs.Ytebbpkdhdilkcaa

/- One that goes steps: a step; the program's Step, Run. -/
namespace Go.Proofs.Ytebbpkdhdilkcaa
open Go.BigFrame
open Go.RowKit Go.Proofs.Ytebbpkdhdilkcaa.Plain

theorem srcI_none {D : List (List Nat)} {P Q : Nat} (h : srcN D P Q = none) : srcI D P Q = -1 := by unfold srcI; rw [h]
theorem srcI_some {D : List (List Nat)} {P Q F : Nat} (h : srcN D P Q = some F) : srcI D P Q = F := by unfold srcI; rw [h]
set_option maxHeartbeats 1600000 in
set_option maxRecDepth 100000 in
theorem gstep_any {S : Nat → Prop} {V e0 g n m : Nat} {c : Cw} {ev : Ev} {A B : Option Addr} {a b e : Nat} {hs : Nat → Hd} {done : Nat} {G : List Nat} (p q : Int) (w : World) (h : GoAt S w V e0 g m c ev A B a b e hs) (hI : CwI g n m c done G)
    (n1 : 1 ≤ n) (n2 : n ≤ 120) (g1 : 1 ≤ g) (g2 : g ≤ 100) (m1 : 1 ≤ m) (m2 : m ≤ 8) (hst : c.st < 100000) (hid : c.id < 100000) (hp : in64 p) (hq : in64 q) :
    Calls Try.prog 18 #[.pointer (some ⟨V, 0, none⟩), .int .i64 p, .int .i64 q] w (GoSaid S V e0 g m e (stepP g m c p q) w) := by
  have H := Lib.hid h
  have HI := Lib.hid hI
  have hP := cutN_lt m p m1
  have hQ := cutN_lt m q m1
  obtain ⟨P, hPe⟩ : ∃ P, cutN m p = P := ⟨_, rfl⟩
  obtain ⟨Q, hQe⟩ : ∃ Q, cutN m q = Q := ⟨_, rfl⟩
  rw [hPe] at hP
  rw [hQe] at hQ
  have HPE := Lib.hid (And.intro hPe hQe)
  have HPQ := Lib.hid (And.intro hp hq)
  obtain ⟨v0, v1, v2, v3, v4, v5, v6⟩ := And.intro h.v0 (And.intro h.v1 (And.intro h.v2 (And.intro h.v3 (And.intro h.v4 (And.intro h.v5 h.v6)))))
  have s1 : ¬ (c.st : Int) = 100000 := by omega
  have s2 : ¬ (c.id : Int) = 100000 := by omega
  have d1 : ((c.st : Int) == 100000) = false := by rw [beq_eq_false_iff_ne]; exact s1
  have d2 : ((c.id : Int) == 100000) = false := by rw [beq_eq_false_iff_ne]; exact s2
  have lV : V < w.heap.size := h.sl V h.sV
  clear h hI hPe hQe hp hq
  go_enter Try.func18, Try.ntmps18
  go_wp2_with fail
  refine (cright_yes A B e0 0 a b e g n m c _ _ w H.out.at_ HI.out n1 n2 g1 g2 m1 m2 (by omega) (by omega)).mono ?_
  rintro ed w1 ⟨rfl, hE1⟩
  have H1 := Lib.hid (H.out.ext hE1)
  have x3 := hE1.cell v3
  have x5 := hE1.cell v5
  have x6 := hE1.cell v6
  have HE1 := Lib.hid hE1
  clear hE1 v0 v1 v2 v3 v4 v5 v6
  go_wp2_with fail
  refine (ccut_any p m w1 HPQ.out.1 m1 m2).mono ?_
  rw [HPE.out.1]
  rintro ed w2 ⟨rfl, rfl⟩
  go_wp2_with fail
  refine (ccut_any q m w1 HPQ.out.2 m1 m2).mono ?_
  rw [HPE.out.2]
  rintro ed w2 ⟨rfl, rfl⟩
  go_wp2_with fail
  refine (source_any P Q w1 H1.out hP hQ m2).mono ?_
  cases hs' : srcN c.D P Q with
  | none =>
    rw [srcI_none hs']
    have HST : Hid (stepP g m c p q = (⟨c.ts, c.dn, c.D, c.over, c.st + 1, c.id + 1⟩, ⟨P, -1, -1, false⟩)) := Lib.hid (by unfold stepP; rw [HPE.out.1, HPE.out.2, hs'])
    clear hs'
    rintro ed w2 ⟨rfl, rfl⟩
    go_wp2_with fail
    refine (idle_any P w1 H1.out hst hid).mono ?_
    rintro ed w3 ⟨rfl, hG3, hW3⟩
    have HG3 := Lib.hid hG3
    have HW3 := Lib.hid hW3
    clear hG3 hW3
    go_wp2_with fail
    go_ret
    rw [HST.out]
    exact ⟨A, B, a, b, hs, rfl, HG3.out, (Grew.of HE1.out).trans HW3.out⟩
  | some F =>
    obtain ⟨hne, hor⟩ := srcN_some hs'
    have hF : F < m := by rcases hor with rfl | ⟨rfl, _⟩ <;> assumption
    have hFP : F = P ∨ c.D.getD P [] = [] := by rcases hor with h1 | ⟨_, _, h1⟩; exact .inl h1; exact .inr h1
    rw [srcI_some hs']
    have HST : Hid (stepP g m c p q = goP g c P F) := Lib.hid (by unfold stepP; rw [HPE.out.1, HPE.out.2, hs'])
    have HNE := Lib.hid hne
    have HFP := Lib.hid hFP
    have hF0 : ¬ (F : Int) < 0 := by omega
    clear hs' hne hor hFP
    rintro ed w2 ⟨rfl, rfl⟩
    go_wp2_with fail
    refine (goAt_any P F w1 H1.out HI.out hP hF HNE.out HFP.out n1 n2 g1 g2 m2 hst).mono ?_
    rintro ed w3 ⟨A3, B3, a3, b3, hs3, rfl, hG3, hW3⟩
    have HG3 := Lib.hid hG3
    have HW3 := Lib.hid hW3
    clear hG3 hW3
    go_wp2_with fail
    go_ret
    rw [HST.out]
    exact ⟨A3, B3, a3, b3, hs3, rfl, HG3.out, (Grew.of HE1.out).trans HW3.out⟩
end Go.Proofs.Ytebbpkdhdilkcaa

/- The program's Step of a crew. -/
namespace Go.Proofs.Ytebbpkdhdilkcaa
open Go.BigFrame
open Go.RowKit Go.Proofs.Ytebbpkdhdilkcaa.Plain

/-- a crew, and an event, in two boxes -/
structure Boxed (w : World) (R Q : Nat) (A B : Option Addr) (e0 a b e g m : Nat) (c : Cw) (ev : Ev) : Prop where
  v0 : w.cell? ⟨R, 0, none⟩ = some (.slice A c.ts.length a)
  v1 : w.cell? ⟨R, 1, none⟩ = some (.int .i64 g)
  v2 : w.cell? ⟨R, 2, none⟩ = some (.slice B c.dn.length b)
  v3 : w.cell? ⟨R, 3, none⟩ = some (.slice (some ⟨e0, 0, none⟩) m e)
  v4 : w.cell? ⟨R, 4, none⟩ = some (.bool c.over)
  v5 : w.cell? ⟨R, 5, none⟩ = some (.int .i64 c.st)
  v6 : w.cell? ⟨R, 6, none⟩ = some (.int .i64 c.id)
  u0 : w.cell? ⟨Q, 0, none⟩ = some (.int .i64 ev.wk)
  u1 : w.cell? ⟨Q, 1, none⟩ = some (.int .i64 ev.fr)
  u2 : w.cell? ⟨Q, 2, none⟩ = some (.int .i64 ev.tk)
  u3 : w.cell? ⟨Q, 3, none⟩ = some (.bool ev.pt)
/-- the stores of both, in either order -/
theorem Boxed.one {w : World} {R Q : Nat} {A B : Option Addr} {e0 a b e g m : Nat} {c : Cw} {ev : Ev} {p0 p1 p2 p3 p4 p5 p6 o0 o1 o2 o3 : Value} (h1 : ¬ R = Q) (h2 : ¬ Q = R) (r0 : w.cell? ⟨R, 0, none⟩ = some p0) (r1 : w.cell? ⟨R, 1, none⟩ = some p1) (r2 : w.cell? ⟨R, 2, none⟩ = some p2) (r3 : w.cell? ⟨R, 3, none⟩ = some p3) (r4 : w.cell? ⟨R, 4, none⟩ = some p4) (r5 : w.cell? ⟨R, 5, none⟩ = some p5) (r6 : w.cell? ⟨R, 6, none⟩ = some p6) (q0 : w.cell? ⟨Q, 0, none⟩ = some o0) (q1 : w.cell? ⟨Q, 1, none⟩ = some o1) (q2 : w.cell? ⟨Q, 2, none⟩ = some o2) (q3 : w.cell? ⟨Q, 3, none⟩ = some o3) : Boxed (((((((((((w.setCell ⟨R, 0, none⟩ (.slice A c.ts.length a)).setCell ⟨R, 1, none⟩ (.int .i64 g)).setCell ⟨R, 2, none⟩ (.slice B c.dn.length b)).setCell ⟨R, 3, none⟩ (.slice (some ⟨e0, 0, none⟩) m e)).setCell ⟨R, 4, none⟩ (.bool c.over)).setCell ⟨R, 5, none⟩ (.int .i64 c.st)).setCell ⟨R, 6, none⟩ (.int .i64 c.id)).setCell ⟨Q, 0, none⟩ (.int .i64 ev.wk)).setCell ⟨Q, 1, none⟩ (.int .i64 ev.fr)).setCell ⟨Q, 2, none⟩ (.int .i64 ev.tk)).setCell ⟨Q, 3, none⟩ (.bool ev.pt)) R Q A B e0 a b e g m c ev :=
  ⟨by go_simp, by go_simp, by go_simp, by go_simp, by go_simp, by go_simp, by go_simp, by go_simp, by go_simp, by go_simp, by go_simp⟩
theorem Boxed.two {w : World} {R Q : Nat} {A B : Option Addr} {e0 a b e g m : Nat} {c : Cw} {ev : Ev} {p0 p1 p2 p3 p4 p5 p6 o0 o1 o2 o3 : Value} (h1 : ¬ R = Q) (h2 : ¬ Q = R) (r0 : w.cell? ⟨R, 0, none⟩ = some p0) (r1 : w.cell? ⟨R, 1, none⟩ = some p1) (r2 : w.cell? ⟨R, 2, none⟩ = some p2) (r3 : w.cell? ⟨R, 3, none⟩ = some p3) (r4 : w.cell? ⟨R, 4, none⟩ = some p4) (r5 : w.cell? ⟨R, 5, none⟩ = some p5) (r6 : w.cell? ⟨R, 6, none⟩ = some p6) (q0 : w.cell? ⟨Q, 0, none⟩ = some o0) (q1 : w.cell? ⟨Q, 1, none⟩ = some o1) (q2 : w.cell? ⟨Q, 2, none⟩ = some o2) (q3 : w.cell? ⟨Q, 3, none⟩ = some o3) : Boxed (((((((((((w.setCell ⟨Q, 0, none⟩ (.int .i64 ev.wk)).setCell ⟨Q, 1, none⟩ (.int .i64 ev.fr)).setCell ⟨Q, 2, none⟩ (.int .i64 ev.tk)).setCell ⟨Q, 3, none⟩ (.bool ev.pt)).setCell ⟨R, 0, none⟩ (.slice A c.ts.length a)).setCell ⟨R, 1, none⟩ (.int .i64 g)).setCell ⟨R, 2, none⟩ (.slice B c.dn.length b)).setCell ⟨R, 3, none⟩ (.slice (some ⟨e0, 0, none⟩) m e)).setCell ⟨R, 4, none⟩ (.bool c.over)).setCell ⟨R, 5, none⟩ (.int .i64 c.st)).setCell ⟨R, 6, none⟩ (.int .i64 c.id)) R Q A B e0 a b e g m c ev :=
  ⟨by go_simp, by go_simp, by go_simp, by go_simp, by go_simp, by go_simp, by go_simp, by go_simp, by go_simp, by go_simp, by go_simp⟩
theorem Boxed.ext {w W : World} {R Q : Nat} {A B : Option Addr} {e0 a b e g m : Nat} {c : Cw} {ev : Ev} (h : Boxed w R Q A B e0 a b e g m c ev) (hE : Ext w W) : Boxed W R Q A B e0 a b e g m c ev :=
  ⟨hE.cell h.v0, hE.cell h.v1, hE.cell h.v2, hE.cell h.v3, hE.cell h.v4, hE.cell h.v5, hE.cell h.v6, hE.cell h.u0, hE.cell h.u1, hE.cell h.u2, hE.cell h.u3⟩
theorem Boxed.one' {w : World} {R Q : Nat} {A B : Option Addr} {e0 a b e g m : Nat} {c : Cw} {ev : Ev} {p0 p1 p2 p3 p4 p5 p6 o0 o1 o2 o3 : Value} (h1 : ¬ R = Q) (h2 : ¬ Q = R) (r0 : w.cell? ⟨R, 0, none⟩ = some p0) (r1 : w.cell? ⟨R, 1, none⟩ = some p1) (r2 : w.cell? ⟨R, 2, none⟩ = some p2) (r3 : w.cell? ⟨R, 3, none⟩ = some p3) (r4 : w.cell? ⟨R, 4, none⟩ = some p4) (r5 : w.cell? ⟨R, 5, none⟩ = some p5) (r6 : w.cell? ⟨R, 6, none⟩ = some p6) (q0 : w.cell? ⟨Q, 0, none⟩ = some o0) (q1 : w.cell? ⟨Q, 1, none⟩ = some o1) (q2 : w.cell? ⟨Q, 2, none⟩ = some o2) (q3 : w.cell? ⟨Q, 3, none⟩ = some o3) : Boxed (World.drew (((((((((((w.setCell ⟨R, 0, none⟩ (.slice A c.ts.length a)).setCell ⟨R, 1, none⟩ (.int .i64 g)).setCell ⟨R, 2, none⟩ (.slice B c.dn.length b)).setCell ⟨R, 3, none⟩ (.slice (some ⟨e0, 0, none⟩) m e)).setCell ⟨R, 4, none⟩ (.bool c.over)).setCell ⟨R, 5, none⟩ (.int .i64 c.st)).setCell ⟨R, 6, none⟩ (.int .i64 c.id)).setCell ⟨Q, 0, none⟩ (.int .i64 ev.wk)).setCell ⟨Q, 1, none⟩ (.int .i64 ev.fr)).setCell ⟨Q, 2, none⟩ (.int .i64 ev.tk)).setCell ⟨Q, 3, none⟩ (.bool ev.pt))) R Q A B e0 a b e g m c ev ∧ Grew (fun x => x = R ∨ x = Q) w (World.drew (((((((((((w.setCell ⟨R, 0, none⟩ (.slice A c.ts.length a)).setCell ⟨R, 1, none⟩ (.int .i64 g)).setCell ⟨R, 2, none⟩ (.slice B c.dn.length b)).setCell ⟨R, 3, none⟩ (.slice (some ⟨e0, 0, none⟩) m e)).setCell ⟨R, 4, none⟩ (.bool c.over)).setCell ⟨R, 5, none⟩ (.int .i64 c.st)).setCell ⟨R, 6, none⟩ (.int .i64 c.id)).setCell ⟨Q, 0, none⟩ (.int .i64 ev.wk)).setCell ⟨Q, 1, none⟩ (.int .i64 ev.fr)).setCell ⟨Q, 2, none⟩ (.int .i64 ev.tk)).setCell ⟨Q, 3, none⟩ (.bool ev.pt))) := by
  refine ⟨(Boxed.one h1 h2 r0 r1 r2 r3 r4 r5 r6 q0 q1 q2 q3).ext ((Ext.refl _).drew), ?_⟩
  refine Grew.drew ?_
  repeat (first | (with_reducible exact Grew.refl _ _) | refine Grew.setCell ?_ (.inl rfl) _ | refine Grew.setCell ?_ (.inr rfl) _)
theorem Boxed.two' {w : World} {R Q : Nat} {A B : Option Addr} {e0 a b e g m : Nat} {c : Cw} {ev : Ev} {p0 p1 p2 p3 p4 p5 p6 o0 o1 o2 o3 : Value} (h1 : ¬ R = Q) (h2 : ¬ Q = R) (r0 : w.cell? ⟨R, 0, none⟩ = some p0) (r1 : w.cell? ⟨R, 1, none⟩ = some p1) (r2 : w.cell? ⟨R, 2, none⟩ = some p2) (r3 : w.cell? ⟨R, 3, none⟩ = some p3) (r4 : w.cell? ⟨R, 4, none⟩ = some p4) (r5 : w.cell? ⟨R, 5, none⟩ = some p5) (r6 : w.cell? ⟨R, 6, none⟩ = some p6) (q0 : w.cell? ⟨Q, 0, none⟩ = some o0) (q1 : w.cell? ⟨Q, 1, none⟩ = some o1) (q2 : w.cell? ⟨Q, 2, none⟩ = some o2) (q3 : w.cell? ⟨Q, 3, none⟩ = some o3) : Boxed (World.drew (((((((((((w.setCell ⟨Q, 0, none⟩ (.int .i64 ev.wk)).setCell ⟨Q, 1, none⟩ (.int .i64 ev.fr)).setCell ⟨Q, 2, none⟩ (.int .i64 ev.tk)).setCell ⟨Q, 3, none⟩ (.bool ev.pt)).setCell ⟨R, 0, none⟩ (.slice A c.ts.length a)).setCell ⟨R, 1, none⟩ (.int .i64 g)).setCell ⟨R, 2, none⟩ (.slice B c.dn.length b)).setCell ⟨R, 3, none⟩ (.slice (some ⟨e0, 0, none⟩) m e)).setCell ⟨R, 4, none⟩ (.bool c.over)).setCell ⟨R, 5, none⟩ (.int .i64 c.st)).setCell ⟨R, 6, none⟩ (.int .i64 c.id))) R Q A B e0 a b e g m c ev ∧ Grew (fun x => x = R ∨ x = Q) w (World.drew (((((((((((w.setCell ⟨Q, 0, none⟩ (.int .i64 ev.wk)).setCell ⟨Q, 1, none⟩ (.int .i64 ev.fr)).setCell ⟨Q, 2, none⟩ (.int .i64 ev.tk)).setCell ⟨Q, 3, none⟩ (.bool ev.pt)).setCell ⟨R, 0, none⟩ (.slice A c.ts.length a)).setCell ⟨R, 1, none⟩ (.int .i64 g)).setCell ⟨R, 2, none⟩ (.slice B c.dn.length b)).setCell ⟨R, 3, none⟩ (.slice (some ⟨e0, 0, none⟩) m e)).setCell ⟨R, 4, none⟩ (.bool c.over)).setCell ⟨R, 5, none⟩ (.int .i64 c.st)).setCell ⟨R, 6, none⟩ (.int .i64 c.id))) := by
  refine ⟨(Boxed.two h1 h2 r0 r1 r2 r3 r4 r5 r6 q0 q1 q2 q3).ext ((Ext.refl _).drew), ?_⟩
  refine Grew.drew ?_
  repeat (first | (with_reducible exact Grew.refl _ _) | refine Grew.setCell ?_ (.inl rfl) _ | refine Grew.setCell ?_ (.inr rfl) _)
/-- what Step leaves -/
def StepSaid (g m : Nat) (r : Cw × Ev) (w : World) (ed : Ending) (w' : World) : Prop :=
  ∃ (A B : Option Addr) (e0 a b : Nat), ed = .returned (.tuple #[crewV A B e0 0 a b m g m r.1, evV r.2, .int .i64 0]) ∧ CrewO (fun x => x < w.heap.size) w' m r.1 A B e0 0 a b ∧ Ext w w'

set_option maxHeartbeats 600000 in
set_option maxRecDepth 100000 in
theorem cstep_any (A B : Option Addr) (eb eo a b e g n m : Nat) (c : Cw) (done : Nat) (G : List Nat) (p q : Int) (w : World) (h : CrewAt w m c A B eb eo a b) (me : m ≤ e) (hI : CwI g n m c done G)
    (n1 : 1 ≤ n) (n2 : n ≤ 120) (g1 : 1 ≤ g) (g2 : g ≤ 100) (m1 : 1 ≤ m) (m2 : m ≤ 8) (hst : c.st < 100000) (hid : c.id < 100000) (hp : in64 p) (hq : in64 q) :
    Calls Try.prog 8 #[crewV A B eb eo a b e g m c, .int .i64 p, .int .i64 q] w (StepSaid g m (stepP g m c p q) w) := by
  have H := Lib.hid h
  have HI := Lib.hid hI
  have HPQ := Lib.hid (And.intro hp hq)
  have hfew := hI.few g1 n1
  have HLT : Hid (c.ts.length ≤ 1000000) := Lib.hid (by omega)
  have HLN : Hid (c.dn.length ≤ 1000000) := Lib.hid (by rw [(CrI.inv hI).dl]; omega)
  have HLH : Hid (∀ j, (c.D.getD j []).length ≤ 1000000) := Lib.hid (by
    intro j
    have h2 := (CrI.fresh hI).2.2.2
    by_cases hj : j < c.D.length
    · have h3 := (held_at c.D j hj).length_eq
      rw [List.length_append] at h3
      omega
    · rw [List.getD_eq_getElem?_getD, List.getElem?_eq_none (by omega)]; simp)
  obtain ⟨r, hr⟩ : ∃ r, stepP g m c p q = r := ⟨_, rfl⟩
  have HR := Lib.hid hr
  rw [hr]
  clear h hI hr hp hq hfew
  go_enter Try.func8, Try.ntmps8
  go_wp2_with fail
  refine (ccopy_any A B eb eo a b e g m c _ (H.out.ext ((((Ext.refl _).alloc _).alloc _).alloc _)) me m1 m2 HLT.out HLN.out HLH.out).mono ?_
  rintro ed w4 ⟨A1, B1, e0, a1, b1, hs, rfl, z1, z2, z3, z4, z5, z6, hE4⟩
  have r0 : w4.cell? ⟨w.heap.size + 1, 0, none⟩ = some (.slice none 0 0) := Ext.cell hE4 (by go_simp)
  have r1 : w4.cell? ⟨w.heap.size + 1, 1, none⟩ = some (.int .i64 0) := Ext.cell hE4 (by go_simp)
  have r2 : w4.cell? ⟨w.heap.size + 1, 2, none⟩ = some (.slice none 0 0) := Ext.cell hE4 (by go_simp)
  have r3 : w4.cell? ⟨w.heap.size + 1, 3, none⟩ = some (.slice none 0 0) := Ext.cell hE4 (by go_simp)
  have r4 : w4.cell? ⟨w.heap.size + 1, 4, none⟩ = some (.bool false) := Ext.cell hE4 (by go_simp)
  have r5 : w4.cell? ⟨w.heap.size + 1, 5, none⟩ = some (.int .i64 0) := Ext.cell hE4 (by go_simp)
  have r6 : w4.cell? ⟨w.heap.size + 1, 6, none⟩ = some (.int .i64 0) := Ext.cell hE4 (by go_simp)
  have rf : ∀ o, w4.frozen? ⟨w.heap.size + 1, o, none⟩ = false := fun o => (Below.frozen hE4 (p := ⟨w.heap.size + 1, o, none⟩) (by first | omega | (simp; omega) | simp)).trans (by go_simp)
  have s0 : w4.cell? ⟨w.heap.size + 1 + 1, 0, none⟩ = some (.int .i64 0) := Ext.cell hE4 (by go_simp)
  have s1 : w4.cell? ⟨w.heap.size + 1 + 1, 1, none⟩ = some (.int .i64 0) := Ext.cell hE4 (by go_simp)
  have s2 : w4.cell? ⟨w.heap.size + 1 + 1, 2, none⟩ = some (.int .i64 0) := Ext.cell hE4 (by go_simp)
  have s3 : w4.cell? ⟨w.heap.size + 1 + 1, 3, none⟩ = some (.bool false) := Ext.cell hE4 (by go_simp)
  have sf : ∀ o, w4.frozen? ⟨w.heap.size + 1 + 1, o, none⟩ = false := fun o => (Below.frozen hE4 (p := ⟨w.heap.size + 1 + 1, o, none⟩) (by first | omega | (simp; omega) | simp)).trans (by go_simp)
  simp only [World.size_alloc] at z1 z4 z5 z6
  have hz4 := hE4.size
  simp at hz4
  have HX4 := Lib.hid (((((Ext.refl w).alloc _).alloc _).alloc _).trans hE4)
  have HZ := Lib.hid (And.intro z3 (And.intro z4 (And.intro z5 z6)))
  clear z3 z4 z5 z6 hE4
  have l1 : w.heap.size + 1 < w4.heap.size := by omega
  have l2 : w.heap.size + 1 + 1 < w4.heap.size := by omega
  have l3 : w.heap.size + 1 < w4.heap.size + 1 := by omega
  have l4 : w.heap.size + 1 + 1 < w4.heap.size + 1 := by omega
  go_wp2_with fail
  obtain ⟨V, hV⟩ : ∃ V, w4.heap.size = V := ⟨_, rfl⟩
  have HGO : Hid (GoAt (fun x => x < w.heap.size + 5 ∨ x = e0 ∨ x = V) (w4.alloc (.cells #[.slice A1 c.ts.length a1, .int .i64 g, .slice B1 c.dn.length b1, .slice (some ⟨e0, 0, none⟩) m m, .bool c.over, .int .i64 c.st, .int .i64 c.id, .int .i64 0, .int .i64 0, .int .i64 0, .bool false] 58)) V e0 g m c ev0 A1 B1 a1 b1 m hs) := Lib.hid (by
    subst hV
    obtain ⟨z3, z4, z5, z6⟩ := HZ.out
    have hla : Grew (fun x => x < w.heap.size + 5 ∨ x = e0) w4 (w4.alloc (.cells #[.slice A1 c.ts.length a1, .int .i64 g, .slice B1 c.dn.length b1, .slice (some ⟨e0, 0, none⟩) m m, .bool c.over, .int .i64 c.st, .int .i64 c.id, .int .i64 0, .int .i64 0, .int .i64 0, .bool false] 58)) := (Grew.refl _ _).alloc _
    have hS : ∀ x, x < w4.heap.size → (x < w.heap.size + 5 ∨ x = e0 ∨ x = w4.heap.size) → (x < w.heap.size + 5 ∨ x = e0) := fun x hx hh => by omega
    have hEa : Ext w4 (w4.alloc (.cells #[.slice A1 c.ts.length a1, .int .i64 g, .slice B1 c.dn.length b1, .slice (some ⟨e0, 0, none⟩) m m, .bool c.over, .int .i64 c.st, .int .i64 c.id, .int .i64 0, .int .i64 0, .int .i64 0, .bool false] 58)) := (Ext.refl w4).alloc _
    refine ⟨.inr (.inr rfl), .inr (.inl rfl), fun x hx => by simp; omega, by omega, by go_simp, by go_simp, by go_simp, by go_simp, by go_simp, by go_simp, by go_simp, by unfold ev0; go_simp, by unfold ev0; go_simp, by unfold ev0; go_simp, by unfold ev0; go_simp, fun o => by go_simp, fun o => (Below.frozen hEa (p := ⟨e0, o, none⟩) z2).trans (z3 o), Nat.le_refl _, z4.later hla hS, z5.later hla hS, ?_, fun j hj => hEa.cell (z6 j hj).1, fun j hj => (z6 j hj).2.1, fun j hj => (z6 j hj).2.2.2.later hla hS, fun j hj => (z6 j hj).2.2.1⟩
    obtain ⟨hs0, hds⟩ := H.out.deq
    exact hds.1)
  have hEa : Ext w4 (w4.alloc (.cells #[.slice A1 c.ts.length a1, .int .i64 g, .slice B1 c.dn.length b1, .slice (some ⟨e0, 0, none⟩) m m, .bool c.over, .int .i64 c.st, .int .i64 c.id, .int .i64 0, .int .i64 0, .int .i64 0, .bool false] 58)) := (Ext.refl w4).alloc _
  have r0' := hEa.cell r0
  have r1' := hEa.cell r1
  have r2' := hEa.cell r2
  have r3' := hEa.cell r3
  have r4' := hEa.cell r4
  have r5' := hEa.cell r5
  have r6' := hEa.cell r6
  have s0' := hEa.cell s0
  have s1' := hEa.cell s1
  have s2' := hEa.cell s2
  have s3' := hEa.cell s3
  have rf' : ∀ o, (w4.alloc (.cells #[.slice A1 c.ts.length a1, .int .i64 g, .slice B1 c.dn.length b1, .slice (some ⟨e0, 0, none⟩) m m, .bool c.over, .int .i64 c.st, .int .i64 c.id, .int .i64 0, .int .i64 0, .int .i64 0, .bool false] 58)).frozen? ⟨w.heap.size + 1, o, none⟩ = false := fun o => (Below.frozen hEa (p := ⟨w.heap.size + 1, o, none⟩) l1).trans (rf o)
  have sf' : ∀ o, (w4.alloc (.cells #[.slice A1 c.ts.length a1, .int .i64 g, .slice B1 c.dn.length b1, .slice (some ⟨e0, 0, none⟩) m m, .bool c.over, .int .i64 c.st, .int .i64 c.id, .int .i64 0, .int .i64 0, .int .i64 0, .bool false] 58)).frozen? ⟨w.heap.size + 1 + 1, o, none⟩ = false := fun o => (Below.frozen hEa (p := ⟨w.heap.size + 1 + 1, o, none⟩) l2).trans (sf o)
  have HX5 := Lib.hid (HX4.out.trans hEa)
  have l5 : w.heap.size + 1 + 1 < (w4.alloc (.cells #[.slice A1 c.ts.length a1, .int .i64 g, .slice B1 c.dn.length b1, .slice (some ⟨e0, 0, none⟩) m m, .bool c.over, .int .i64 c.st, .int .i64 c.id, .int .i64 0, .int .i64 0, .int .i64 0, .bool false] 58)).heap.size := by simp; omega
  rw [hV]
  clear r0 r1 r2 r3 r4 r5 r6 rf s0 s1 s2 s3 sf hEa l3 l4
  generalize hw5 : w4.alloc (.cells #[.slice A1 c.ts.length a1, .int .i64 g, .slice B1 c.dn.length b1, .slice (some ⟨e0, 0, none⟩) m m, .bool c.over, .int .i64 c.st, .int .i64 c.id, .int .i64 0, .int .i64 0, .int .i64 0, .bool false] 58) = w5 at *
  clear hw5
  refine (gstep_any p q w5 HGO.out HI.out n1 n2 g1 g2 m1 m2 hst hid HPQ.out.1 HPQ.out.2).mono ?_
  rw [HR.out]
  rintro ed w6 ⟨A6, B6, a6, b6, hs6, rfl, hG6, hW6⟩
  have HG6 := Lib.hid hG6
  have HW6 := Lib.hid hW6
  have nV : ¬ (w.heap.size + 1 = V ∨ w.heap.size + 1 = e0) := by omega
  have nQ : ¬ (w.heap.size + 1 + 1 = V ∨ w.heap.size + 1 + 1 = e0) := by omega
  have y0 := hW6.cell r0' nV
  have y1 := hW6.cell r1' nV
  have y2 := hW6.cell r2' nV
  have y3 := hW6.cell r3' nV
  have y4 := hW6.cell r4' nV
  have y5 := hW6.cell r5' nV
  have y6 := hW6.cell r6' nV
  have x0 := hW6.cell s0' nQ
  have x1 := hW6.cell s1' nQ
  have x2 := hW6.cell s2' nQ
  have x3 := hW6.cell s3' nQ
  have yf := fun o => (hW6.frozen (by omega) nV o).trans (rf' o)
  have xf := fun o => (hW6.frozen l5 nQ o).trans (sf' o)
  have v0 := hG6.v0
  have v1 := hG6.v1
  have v2 := hG6.v2
  have v3 := hG6.v3
  have v4 := hG6.v4
  have v5 := hG6.v5
  have v6 := hG6.v6
  have v7 := hG6.v7
  have v8 := hG6.v8
  have v9 := hG6.v9
  have v10 := hG6.v10
  have l6 : w.heap.size + 1 + 1 < w6.heap.size := by have := hW6.size; omega
  have l7 : w.heap.size + 1 < w6.heap.size := by omega
  have l8 : V < w6.heap.size := hG6.sl V hG6.sV
  have HNE := Lib.hid (And.intro nV nQ)
  have nV1 : ¬ w.heap.size + 1 = V := by omega
  have nV2 : ¬ w.heap.size + 1 + 1 = V := by omega
  have nV3 : ¬ V = w.heap.size + 1 := by omega
  have nV4 : ¬ V = w.heap.size + 1 + 1 := by omega
  have hV2 : w.heap.size ≤ V := by omega
  clear hG6 hW6 nV nQ r0' r1' r2' r3' r4' r5' r6' rf' s0' s1' s2' s3' sf' hV l1 l2 l5
  go_upto_region 3 with fail
  go_cut [8] (fun z wx => z = .int .i64 0 ∧ Boxed wx (w.heap.size + 1) (w.heap.size + 1 + 1) A6 B6 e0 a6 b6 m g m r.1 r.2 ∧ Grew (fun x => x = w.heap.size + 1 ∨ x = w.heap.size + 1 + 1) w6 wx)
  case first =>
    go_region
    all_goals go_wp2_with fail
    all_goals go_meet
    all_goals first
      | (with_reducible exact ⟨rfl, Boxed.one' (by omega) (by omega) y0 y1 y2 y3 y4 y5 y6 x0 x1 x2 x3⟩)
      | (with_reducible exact ⟨rfl, Boxed.two' (by omega) (by omega) y0 y1 y2 y3 y4 y5 y6 x0 x1 x2 x3⟩)
  case rest =>
  obtain ⟨rfl, hB, hG7⟩ := hcut
  obtain ⟨k0, k1, k2, k3, k4, k5, k6, j0, j1, j2, j3⟩ := hB
  have HG7 := Lib.hid hG7
  clear hG7 y0 y1 y2 y3 y4 y5 y6 x0 x1 x2 x3 yf xf v0 v1 v2 v3 v4 v5 v6 v7 v8 v9 v10 l6 l7 l8
  go_wp2_with fail
  refine bodyPost_ret (v := .tuple #[crewV A6 B6 e0 0 a6 b6 m g m r.1, evV r.2, .int .i64 0]) (by simp [results, Try.results8, go_sem, k0, k1, k2, k3, k4, k5, k6, j0, j1, j2, j3]) rfl ⟨A6, B6, e0, a6, b6, rfl, ?_, ?_⟩
  · refine (HG6.out.crew (T := fun x => x < w.heap.size + 3) (fun x hx => .inl (by omega)) (by omega)).later m1 (hG := HG7.out.mono (fun x _ hx => by rcases hx with rfl | rfl <;> omega)) (fun x _ hx => by omega)
  · exact HG7.out.toExt (HW6.out.toExt HX5.out (fun b hb => by rcases hb with rfl | rfl <;> omega)) (fun b hb => by rcases hb with rfl | rfl <;> omega)
end Go.Proofs.Ytebbpkdhdilkcaa

/- The program's Run of a crew. -/
namespace Go.Proofs.Ytebbpkdhdilkcaa
open Go.BigFrame
open Go.RowKit Go.Proofs.Ytebbpkdhdilkcaa.Plain

/-- events -/
def kEv : Kd Ev where
  t := 46
  e := 36
  n := 4
  cells := fun x => [.int .i64 x.wk, .int .i64 x.fr, .int .i64 x.tk, .bool x.pt]
  ok := fun x => in64 x.wk ∧ in64 x.fr ∧ in64 x.tk
  d := ev0
  z := .agg #[.int .i64 0, .int .i64 0, .int .i64 0, .bool false]
  bytes := 32
  ht := Try.underlying46
  info := by kernel_rfl
  hzs := rfl
  pos := by decide
  small := by decide
  len := fun _ => rfl
  one := fun a u hu => by simp at hu; rcases hu with rfl | rfl | rfl | rfl <;> rfl
theorem Plain.CwI.evOk {g n m : Nat} {c : Cw} {done : Nat} {G : List Nat} (h : CwI g n m c done G) (hg : 1 ≤ g) (hn : 1 ≤ n) (n2 : n ≤ 120) (hm : 1 ≤ m) (m2 : m ≤ 8) (p q : Int) : kEv.ok (stepP g m c p q).2 := by
  have hc := cutN_lt m p hm
  have hf := h.few hg hn
  show in64 (stepP g m c p q).2.wk ∧ in64 (stepP g m c p q).2.fr ∧ in64 (stepP g m c p q).2.tk
  rcases h.step hg hm p q with ⟨he, _⟩ | ⟨k, F, hF, _, _, he, _, _, _, hk, _⟩ | ⟨k, F, hF, _, _, he, _, _, _, hk, _⟩
  · rw [he]; exact ⟨by unfold in64; simp only; omega, by unfold in64; simp only; omega, by unfold in64; simp only; omega⟩
  · rw [he]; exact ⟨by unfold in64; simp only; omega, by unfold in64; simp only; omega, by unfold in64; simp only; omega⟩
  · rw [he]; exact ⟨by unfold in64; simp only; omega, by unfold in64; simp only; omega, by unfold in64; simp only; omega⟩
/-- .. behind a run -/
theorem Plain.CwI.run {g n m : Nat} (hg : 1 ≤ g) (hm : 1 ≤ m) : ∀ (l : List (Int × Int)) (c : Cw), (∃ done G, CwI g n m c done G) → ∃ done G, CwI g n m (runP g m c l).1 done G
  | [], _, h => h
  | x :: l, c, ⟨_, _, h⟩ => Plain.CwI.run hg hm l _ (h.stepD hg hm x.1 x.2)
theorem runP_st (g m : Nat) : ∀ (l : List (Int × Int)) (c : Cw), (runP g m c l).1.st = c.st + l.length ∧ (runP g m c l).1.id ≤ c.id + l.length
  | [], _ => ⟨rfl, Nat.le_refl _⟩
  | x :: l, c => by
    obtain ⟨h1, h2⟩ := runP_st g m l (stepP g m c x.1 x.2).1
    obtain ⟨h3, _, h4⟩ := stepP_st g m c x.1 x.2
    simp only [runP, List.length_cons]
    omega
theorem runP_take (g m : Nat) (c : Cw) (l : List (Int × Int)) (k : Nat) (hk : k < l.length) : runP g m c (l.take (k + 1)) = ((stepP g m (runP g m c (l.take k)).1 (l.getD k (0, 0)).1 (l.getD k (0, 0)).2).1, (runP g m c (l.take k)).2 ++ [(stepP g m (runP g m c (l.take k)).1 (l.getD k (0, 0)).1 (l.getD k (0, 0)).2).2]) := by
  rw [List.take_succ_eq_append_getElem hk, runP_snoc, List.getD_eq_getElem?_getD, List.getElem?_eq_getElem hk]; rfl

theorem GoAt.later {S T : Nat → Prop} {w W : World} {V e0 g m : Nat} {c : Cw} {ev : Ev} {A B : Option Addr} {a b e : Nat} {hs : Nat → Hd} (h : GoAt S w V e0 g m c ev A B a b e hs) (hG : Grew S w W) (hV : W.heap[V]? = w.heap[V]?) (hE : W.heap[e0]? = w.heap[e0]?) (tV : T V) (tE : T e0) (tl : ∀ x, T x → x < W.heap.size) (hT : ∀ x, x < w.heap.size → T x → S x) : GoAt T W V e0 g m c ev A B a b e hs := by
  have cV : ∀ o, W.cell? ⟨V, o, none⟩ = w.cell? ⟨V, o, none⟩ := fun o => by simp only [World.cell?, hV]
  have cE : ∀ o, W.cell? ⟨e0, o, none⟩ = w.cell? ⟨e0, o, none⟩ := fun o => by simp only [World.cell?, hE]
  have fV : ∀ o, W.frozen? ⟨V, o, none⟩ = w.frozen? ⟨V, o, none⟩ := fun o => by simp only [World.frozen?, hV]
  have fE : ∀ o, W.frozen? ⟨e0, o, none⟩ = w.frozen? ⟨e0, o, none⟩ := fun o => by simp only [World.frozen?, hE]
  exact ⟨tV, tE, tl, h.ne, (cV 0).trans h.v0, (cV 1).trans h.v1, (cV 2).trans h.v2, (cV 3).trans h.v3, (cV 4).trans h.v4, (cV 5).trans h.v5, (cV 6).trans h.v6, (cV 7).trans h.v7, (cV 8).trans h.v8, (cV 9).trans h.v9, (cV 10).trans h.v10,
    fun o => (fV o).trans (h.fV o), fun o => (fE o).trans (h.fE o), h.me, h.tsk.later hG hT, h.dns.later hG hT, h.dl, fun j hj => (cE j).trans (h.hd j hj), h.hn, fun j hj => (h.hr j hj).later hG hT, h.hc⟩

theorem Ow.grew {α : Type} {K : Kd α} {S : Nat → Prop} {B : Nat} {w W : World} {v : Value} {xs : List α} (h : Ow K B w v xs) (hG : Grew S w W) (hS : ∀ k, v.ownBlock = some k → ¬ S k) : Ow K B W v xs := by
  obtain ⟨⟨h1, h2⟩, hb⟩ := h
  refine ⟨⟨h1, ?_⟩, hb⟩
  rcases h2 with h2 | ⟨g, cap, cur, hv, hg, hh, hr⟩
  · exact .inl h2
  · have hlt : g < w.heap.size := by
      rcases Nat.lt_or_ge g w.heap.size with hlt | hge
      · exact hlt
      · rw [Array.getElem?_eq_none hge] at hh; cases hh
    exact .inr ⟨g, cap, cur, hv, hg, (hG.block g hlt (hS g (by rw [hv]; rfl))).trans hh, hr⟩
/-- what Run leaves -/
def RunSaid (g m : Nat) (r : Cw × List Ev) (w : World) (ed : Ending) (w' : World) : Prop :=
  ∃ (A B L : Option Addr) (e0 a b l : Nat), ed = .returned (.tuple #[crewV A B e0 0 a b m g m r.1, .slice L r.2.length l, .int .i64 0]) ∧ CrewAt w' m r.1 A B e0 0 a b ∧ Rd kEv w' (.slice L r.2.length l) r.2 ∧ Ext w w'
/-- what stands, pick by pick -/
structure RunAt (w0 : World) (V e0 g n m : Nat) (c0 : Cw) (picks : List (Int × Int)) (k : Nat) (v : Value) (wr : World) : Prop where
  go : ∃ (ev : Ev) (A B : Option Addr) (a b : Nat) (hs : Nat → Hd), GoAt (fun x => x < w0.heap.size + 2 ∨ x = e0 ∨ x = V ∨ v.ownBlock = some x) wr V e0 g m (runP g m c0 (picks.take k)).1 ev A B a b m hs
  own : Ow kEv (V + 1) wr v (runP g m c0 (picks.take k)).2
  ext : Ext w0 wr
  res : wr.cell? ⟨w0.heap.size + 1, 0, none⟩ = some (.slice none 0 0) ∧ wr.cell? ⟨w0.heap.size + 1, 1, none⟩ = some (.int .i64 0) ∧ wr.cell? ⟨w0.heap.size + 1, 2, none⟩ = some (.slice none 0 0) ∧ wr.cell? ⟨w0.heap.size + 1, 3, none⟩ = some (.slice none 0 0) ∧ wr.cell? ⟨w0.heap.size + 1, 4, none⟩ = some (.bool false) ∧ wr.cell? ⟨w0.heap.size + 1, 5, none⟩ = some (.int .i64 0) ∧ wr.cell? ⟨w0.heap.size + 1, 6, none⟩ = some (.int .i64 0) ∧ ∀ o, wr.frozen? ⟨w0.heap.size + 1, o, none⟩ = false
  lt : w0.heap.size + 2 ≤ e0 ∧ e0 < V

set_option maxHeartbeats 1600000 in
set_option maxRecDepth 100000 in
theorem crun_any (A B Ap : Option Addr) (eb eo a b e g n m cp : Nat) (c : Cw) (done : Nat) (G : List Nat) (picks : List (Int × Int)) (w : World) (h : CrewAt w m c A B eb eo a b) (me : m ≤ e) (hI : CwI g n m c done G) (hp : Rd kPk w (.slice Ap picks.length cp) picks)
    (n1 : 1 ≤ n) (n2 : n ≤ 120) (g1 : 1 ≤ g) (g2 : g ≤ 100) (m1 : 1 ≤ m) (m2 : m ≤ 8) (hst : c.st + picks.length ≤ 100000) (hid : c.id + picks.length ≤ 100000) :
    Calls Try.prog 12 #[crewV A B eb eo a b e g m c, .slice Ap picks.length cp] w (RunSaid g m (runP g m c picks) w) := by
  have H := Lib.hid h
  have HI := Lib.hid hI
  have HP := Lib.hid hp
  have hfew := hI.few g1 n1
  have HLT : Hid (c.ts.length ≤ 1000000) := Lib.hid (by omega)
  have HLN : Hid (c.dn.length ≤ 1000000) := Lib.hid (by rw [(CrI.inv hI).dl]; omega)
  have HLH : Hid (∀ j, (c.D.getD j []).length ≤ 1000000) := Lib.hid (by
    intro j
    have h2 := (CrI.fresh hI).2.2.2
    by_cases hj : j < c.D.length
    · have h3 := (held_at c.D j hj).length_eq
      rw [List.length_append] at h3
      omega
    · rw [List.getD_eq_getElem?_getD, List.getElem?_eq_none (by omega)]; simp)
  have hpl : (picks.length : Int) ≤ 100000 := by omega
  clear h hI hp hfew
  go_enter Try.func12, Try.ntmps12
  go_wp2_with fail
  refine (ccopy_any A B eb eo a b e g m c _ (H.out.ext (((Ext.refl _).alloc _).alloc _)) me m1 m2 HLT.out HLN.out HLH.out).mono ?_
  rintro ed w4 ⟨A1, B1, e0, a1, b1, hs, rfl, z1, z2, z3, z4, z5, z6, hE4⟩
  have r0 : w4.cell? ⟨w.heap.size + 1, 0, none⟩ = some (.slice none 0 0) := Ext.cell hE4 (by go_simp)
  have r1 : w4.cell? ⟨w.heap.size + 1, 1, none⟩ = some (.int .i64 0) := Ext.cell hE4 (by go_simp)
  have r2 : w4.cell? ⟨w.heap.size + 1, 2, none⟩ = some (.slice none 0 0) := Ext.cell hE4 (by go_simp)
  have r3 : w4.cell? ⟨w.heap.size + 1, 3, none⟩ = some (.slice none 0 0) := Ext.cell hE4 (by go_simp)
  have r4 : w4.cell? ⟨w.heap.size + 1, 4, none⟩ = some (.bool false) := Ext.cell hE4 (by go_simp)
  have r5 : w4.cell? ⟨w.heap.size + 1, 5, none⟩ = some (.int .i64 0) := Ext.cell hE4 (by go_simp)
  have r6 : w4.cell? ⟨w.heap.size + 1, 6, none⟩ = some (.int .i64 0) := Ext.cell hE4 (by go_simp)
  have rf : ∀ o, w4.frozen? ⟨w.heap.size + 1, o, none⟩ = false := fun o => (Below.frozen hE4 (p := ⟨w.heap.size + 1, o, none⟩) (by first | omega | (simp; omega) | simp)).trans (by go_simp)
  simp only [World.size_alloc] at z1 z4 z5 z6
  have hz4 := hE4.size
  simp at hz4
  have HX4 := Lib.hid ((((Ext.refl w).alloc _).alloc _).trans hE4)
  have HZ := Lib.hid (And.intro z3 (And.intro z4 (And.intro z5 z6)))
  clear z3 z4 z5 z6 hE4
  have l1 : w.heap.size + 1 < w4.heap.size := by omega
  have l3 : w.heap.size + 1 < w4.heap.size + 1 := by omega
  go_wp2_with fail
  obtain ⟨V, hV⟩ : ∃ V, w4.heap.size = V := ⟨_, rfl⟩
  have HR0 : Hid (RunAt w V e0 g n m c picks 0 (.slice none 0 0) (w4.alloc (.cells #[.slice A1 c.ts.length a1, .int .i64 g, .slice B1 c.dn.length b1, .slice (some ⟨e0, 0, none⟩) m m, .bool c.over, .int .i64 c.st, .int .i64 c.id, .int .i64 0, .int .i64 0, .int .i64 0, .bool false] 58))) := Lib.hid (by
    subst hV
    obtain ⟨z3, z4, z5, z6⟩ := HZ.out
    have hla : Grew (fun x => x < w.heap.size + 1 + 1 + 2 ∨ x = e0) w4 (w4.alloc (.cells #[.slice A1 c.ts.length a1, .int .i64 g, .slice B1 c.dn.length b1, .slice (some ⟨e0, 0, none⟩) m m, .bool c.over, .int .i64 c.st, .int .i64 c.id, .int .i64 0, .int .i64 0, .int .i64 0, .bool false] 58)) := (Grew.refl _ _).alloc _
    have hS : ∀ x, x < w4.heap.size → (x < w.heap.size + 2 ∨ x = e0 ∨ x = w4.heap.size ∨ (Value.slice none 0 0).ownBlock = some x) → (x < w.heap.size + 1 + 1 + 2 ∨ x = e0) := fun x hx hh => by
      rcases hh with hh | hh | hh | hh
      · left; omega
      · right; exact hh
      · omega
      · cases hh
    have hEa : Ext w4 (w4.alloc (.cells #[.slice A1 c.ts.length a1, .int .i64 g, .slice B1 c.dn.length b1, .slice (some ⟨e0, 0, none⟩) m m, .bool c.over, .int .i64 c.st, .int .i64 c.id, .int .i64 0, .int .i64 0, .int .i64 0, .bool false] 58)) := (Ext.refl w4).alloc _
    obtain ⟨hs0, hds⟩ := H.out.deq
    refine ⟨⟨ev0, A1, B1, a1, b1, hs, ?_⟩, Ow.nil _ _, HX4.out.trans hEa, ⟨hEa.cell r0, hEa.cell r1, hEa.cell r2, hEa.cell r3, hEa.cell r4, hEa.cell r5, hEa.cell r6, fun o => (Below.frozen hEa (p := ⟨w.heap.size + 1, o, none⟩) l1).trans (rf o)⟩, by omega, by omega⟩
    change GoAt _ _ _ _ g m c ev0 A1 B1 a1 b1 m hs
    refine ⟨.inr (.inr (.inl rfl)), .inr (.inl rfl), fun x hx => ?_, by omega, by go_simp, by go_simp, by go_simp, by go_simp, by go_simp, by go_simp, by go_simp, by unfold ev0; go_simp, by unfold ev0; go_simp, by unfold ev0; go_simp, by unfold ev0; go_simp, fun o => by go_simp, fun o => (Below.frozen hEa (p := ⟨e0, o, none⟩) z2).trans (z3 o), Nat.le_refl _, z4.later hla hS, z5.later hla hS, hds.1, fun j hj => hEa.cell (z6 j hj).1, fun j hj => (z6 j hj).2.1, fun j hj => (z6 j hj).2.2.2.later hla hS, fun j hj => (z6 j hj).2.2.1⟩
    rcases hx with hh | hh | hh | hh
    · simp; omega
    · simp; omega
    · simp; omega
    · cases hh)
  rw [hV]
  clear r0 r1 r2 r3 r4 r5 r6 rf l1 l3 hz4 z1 z2 HX4 HZ
  generalize hw5 : w4.alloc (.cells #[.slice A1 c.ts.length a1, .int .i64 g, .slice B1 c.dn.length b1, .slice (some ⟨e0, 0, none⟩) m m, .bool c.over, .int .i64 c.st, .int .i64 c.id, .int .i64 0, .int .i64 0, .int .i64 0, .bool false] 58) = w5 at *
  clear hw5 hV
  go_loopw [8, 17] (fun v i wr => ∃ k : Nat, k ≤ picks.length ∧ i = .int .i64 k ∧ RunAt w V e0 g n m c picks k v wr) (fun _ i _ => picks.length - (intOf i).toNat)
  case atStart => exact ⟨0, Nat.zero_le _, rfl, HR0.out⟩
  case round =>
    obtain ⟨k, hk, rfl, hAt⟩ := hrel
    have HAT := Lib.hid hAt
    obtain ⟨⟨ev, A2, B2, a2, b2, hs2, hgo⟩, hown, hX, hres, hlt2⟩ := hAt
    have HGO := Lib.hid hgo
    have HOW := Lib.hid hown
    have HX := Lib.hid hX
    obtain ⟨x0, x1, x2, x3, x4, x5, x6, xf⟩ := hres
    obtain ⟨lt1, lt2⟩ := hlt2
    have hk0 : (0 : Int) ≤ k := by omega
    have hrun := runP_st g m (picks.take k) c
    have htl : (picks.take k).length = k := by rw [List.length_take]; omega
    rw [htl] at hrun
    have HIK := Lib.hid (Plain.CwI.run g1 m1 (picks.take k) c ⟨_, _, HI.out⟩)
    have hrl : (runP g m c (picks.take k)).2.length = k := by rw [runP_len, htl]
    have lR : w.heap.size + 1 < wr.heap.size := World.block_lt_of_cell? _ _ x0
    have lV : V < wr.heap.size := hgo.sl V hgo.sV
    by_cases hlt : k < picks.length
    · have hlt' : (k : Int) < picks.length := by omega
      have hsucc := runP_take g m c picks k hlt
      obtain ⟨bp, op, rfl, hcp⟩ := Rd.picks (HP.out.ext hX) (by omega)
      obtain ⟨q0, q1⟩ := hcp k hlt
      have hok := HP.out.okAt k hlt
      obtain ⟨⟨p, q⟩, hpq⟩ : ∃ x, picks.getD k (0, 0) = x := ⟨_, rfl⟩
      rw [hpq] at q0 q1 hsucc
      have hok2 : in64 p ∧ in64 q := by have e0 : picks.getD k kPk.d = (p, q) := hpq; rw [e0] at hok; exact hok
      simp only at q0 q1 hsucc
      obtain ⟨ck, hck⟩ : ∃ ck, runP g m c (picks.take k) = ck := ⟨_, rfl⟩
      rw [hck] at hgo hown hsucc hrun hrl
      have HCK := Lib.hid hck
      have HG2 := Lib.hid hgo
      have HO2 := Lib.hid hown
      have HOK := Lib.hid hok2
      have HSU := Lib.hid hsucc
      obtain ⟨dk, Gk, hIk⟩ := HIK.out
      rw [hck] at hIk
      have HI2 := Lib.hid hIk
      have HEV := Lib.hid (hIk.evOk g1 n1 n2 m1 m2 p q)
      have hs1 : ck.1.st < 100000 := by omega
      have hs2' : ck.1.id < 100000 := by omega
      have hrl2 : ck.2.length ≤ 100000 := by omega
      clear hgo hown hcp hok hok2 hpq hsucc hck hIk hX htl hrun hrl HIK
      go_wp2_with fail
      refine (gstep_any p q _ (HG2.out.ext ((Ext.refl _).alloc _)) HI2.out n1 n2 g1 g2 m1 m2 hs1 hs2' HOK.out.1 HOK.out.2).mono ?_
      rintro ed w6 ⟨A6, B6, a6, b6, hs6, rfl, hG6, hW6⟩
      have hWr : Grew (fun x => x = V ∨ x = e0) wr w6 := ((Grew.refl _ wr).alloc _).trans hW6
      obtain ⟨ev', hev'⟩ : ∃ x, (stepP g m ck.1 p q).2 = x := ⟨_, rfl⟩
      obtain ⟨c', hc'⟩ : ∃ x, (stepP g m ck.1 p q).1 = x := ⟨_, rfl⟩
      rw [hev', hc'] at hG6
      have HEQ := Lib.hid (And.intro hev' hc')
      have hown6 := HO2.out.grew hWr (fun k hk => by have := (HO2.out.lt k hk).1; omega)
      have HO6 := Lib.hid hown6
      have v7 := hG6.v7
      have v8 := hG6.v8
      have v9 := hG6.v9
      have v10 := hG6.v10
      have l6 : V < w6.heap.size := hG6.sl V hG6.sV
      have HG6 := Lib.hid hG6
      have HWR := Lib.hid hWr
      have hokE : kEv.ok ev' := by rw [← hev']; exact HEV.out
      have HY : Hid (Rd kEv (w6.alloc (.cells #[.int .i64 ev'.wk, .int .i64 ev'.fr, .int .i64 ev'.tk, .bool ev'.pt] 36)) (.slice (some ⟨w6.heap.size, 0, none⟩) 1 1) [ev']) := Lib.hid (Ow.rd (K := kEv) (B := 0) (Ow.lit (K := kEv) (p := w6.heap.size) (n := 1) w6 [ev'] #[.int .i64 ev'.wk, .int .i64 ev'.fr, .int .i64 ev'.tk, .bool ev'.pt] rfl rfl rfl (Nat.zero_le _) (by simp [maxLen]) (by intro x hx; simp only [List.mem_singleton] at hx; subst hx; exact hokE)))
      have HLL : Hid (ck.2.length + [ev'].length ≤ 1048576) := Lib.hid (by simp; omega)
      clear hev' hc' hown6 hG6 hWr hW6 hokE x0 x1 x2 x3 x4 x5 x6 xf q0 q1
      go_wp2_with (at_builtin; refine kEv.wpList_app (by rfl) (.tmp 32) (.tmp 35) (by rfl) (by rfl) (V + 1) _ ck.2 (by rfl) (HO6.out.ext ((Ext.refl _).alloc _)) _ [ev'] (by rfl) HY.out HLL.out (by simp; omega) ?_; intro v' w8 hown8 hgrow8 hat8)
      have H8 := Lib.hid (And.intro hown8 (And.intro hgrow8 hat8))
      clear hown8 hgrow8 hat8
      go_roundw
      case rel =>
        refine ⟨k + 1, by omega, by go_num, ?_⟩
        obtain ⟨hown8, hgrow8, hat8⟩ := H8.out
        have hvge : ∀ x, u8.ownBlock = some x → V + 1 ≤ x ∧ x < wr.heap.size := fun x hx => HO2.out.lt x hx
        have hz8 := hgrow8.size
        have hz6 := HWR.out.size
        simp only [World.size_alloc] at hz8
        have hr : runP g m c (picks.take (k + 1)) = (c', ck.2 ++ [ev']) := by rw [HSU.out, HEQ.out.1, HEQ.out.2]
        obtain ⟨y0, y1, y2, y3, y4, y5, y6, yf⟩ := HAT.out.res
        have hnR : ¬ (w.heap.size + 1 = V ∨ w.heap.size + 1 = e0) := by omega
        have hstep : ∀ (o : Nat) (u : Value), wr.cell? ⟨w.heap.size + 1, o, none⟩ = some u → w8.cell? ⟨w.heap.size + 1, o, none⟩ = some u := fun o u hu =>
          hgrow8.cell (Ext.cell ((Ext.refl w6).alloc _) (HWR.out.cell hu hnR)) (fun e => by have := hvge _ e.symm; simp only at this; omega)
        refine ⟨⟨ev', A6, B6, a6, b6, hs6, ?_⟩, by rw [hr]; exact hown8, ?_, ⟨hstep 0 _ y0, hstep 1 _ y1, hstep 2 _ y2, hstep 3 _ y3, hstep 4 _ y4, hstep 5 _ y5, hstep 6 _ y6, fun o => ?_⟩, lt1, lt2⟩
        · rw [hr]
          refine (HG6.out.ext ((Ext.refl _).alloc (.cells #[.int .i64 ev'.wk, .int .i64 ev'.fr, .int .i64 ev'.tk, .bool ev'.pt] 36))).later (T := fun x => x < w.heap.size + 2 ∨ x = e0 ∨ x = V ∨ v'.ownBlock = some x) ⟨hgrow8.os, hgrow8.tape, hgrow8.output, hgrow8.size, fun b hb hS => hgrow8.block b hb (fun e => hS (.inr (.inr (.inr e.symm))))⟩ (hgrow8.block V (by simp; omega) (fun e => by have := hvge _ e.symm; omega)) (hgrow8.block e0 (by simp; omega) (fun e => by have := hvge _ e.symm; omega)) (.inr (.inr (.inl rfl))) (.inr (.inl rfl)) (fun x hx => ?_) (fun x hx hh => ?_)
          · rcases hx with hh | hh | hh | hh
            · omega
            · omega
            · omega
            · exact (hown8.lt x hh).2
          · rcases hh with hh | hh | hh | hh
            · exact .inl hh
            · exact .inr (.inl hh)
            · exact .inr (.inr (.inl hh))
            · rcases hat8 with h9 | h9
              · exact .inr (.inr (.inr (h9 ▸ hh)))
              · rw [h9] at hh
                cases hh
                simp at hx
        · exact ((HWR.out.toExt HX.out (fun b hb => by rcases hb with rfl | rfl <;> omega)).alloc _).grown hgrow8 (fun x hx => by have := hvge x hx; omega)
        · have h9 : w8.frozen? ⟨w.heap.size + 1, o, none⟩ = (w6.alloc (.cells #[.int .i64 ev'.wk, .int .i64 ev'.fr, .int .i64 ev'.tk, .bool ev'.pt] 36)).frozen? ⟨w.heap.size + 1, o, none⟩ := World.frozen?_of_block (hgrow8.block (w.heap.size + 1) (by simp; omega) (fun e => by have := hvge _ e.symm; omega))
          rw [h9]
          exact (Below.frozen ((Ext.refl w6).alloc _) (p := ⟨w.heap.size + 1, o, none⟩) (by simp only; omega)).trans ((HWR.out.frozen lR hnR o).trans (yf o))
      case measure => simp [intOf]; omega
    · obtain rfl : k = picks.length := by omega
      have hr : runP g m c (picks.take picks.length) = runP g m c picks := by rw [List.take_length]
      rw [hr] at hgo hown hrl
      obtain ⟨r, hrr⟩ : ∃ r, runP g m c picks = r := ⟨_, rfl⟩
      rw [hrr] at hgo hown hrl
      have HRR := Lib.hid hrr
      have hvge : ∀ x, u8.ownBlock = some x → V + 1 ≤ x ∧ x < wr.heap.size := fun x hx => hown.lt x hx
      obtain ⟨L, cl, hv, hcl⟩ := hown.slice
      rw [hrl] at hv
      subst hv
      have HGO := Lib.hid hgo
      have HOW := Lib.hid hown
      have HRL := Lib.hid hrl
      have HVG := Lib.hid hvge
      obtain ⟨v0, v1, v2, v3, v4, v5, v6⟩ := And.intro hgo.v0 (And.intro hgo.v1 (And.intro hgo.v2 (And.intro hgo.v3 (And.intro hgo.v4 (And.intro hgo.v5 hgo.v6)))))
      have HG7 : Hid (∀ u0 u1 u2 u3 u4 u5 u6 : Value, Grew (fun x => x = w.heap.size + 1) wr (((((((wr.setCell ⟨w.heap.size + 1, 0, none⟩ u0).setCell ⟨w.heap.size + 1, 1, none⟩ u1).setCell ⟨w.heap.size + 1, 2, none⟩ u2).setCell ⟨w.heap.size + 1, 3, none⟩ u3).setCell ⟨w.heap.size + 1, 4, none⟩ u4).setCell ⟨w.heap.size + 1, 5, none⟩ u5).setCell ⟨w.heap.size + 1, 6, none⟩ u6)) := Lib.hid (fun u0 u1 u2 u3 u4 u5 u6 => ((((((Grew.setCell (S := fun x => x = w.heap.size + 1) (p := ⟨w.heap.size + 1, 0, none⟩) (Grew.refl _ _) rfl _).setCell (p := ⟨w.heap.size + 1, 1, none⟩) rfl _).setCell (p := ⟨w.heap.size + 1, 2, none⟩) rfl _).setCell (p := ⟨w.heap.size + 1, 3, none⟩) rfl _).setCell (p := ⟨w.heap.size + 1, 4, none⟩) rfl _).setCell (p := ⟨w.heap.size + 1, 5, none⟩) rfl _).setCell (p := ⟨w.heap.size + 1, 6, none⟩) rfl _)
      have nV1 : ¬ V = w.heap.size + 1 := by omega
      have nV2 : ¬ w.heap.size + 1 = V := by omega
      clear hgo hown hX htl hrun hrl hr hrr hcl hvge
      go_wp2_with fail
      refine bodyPost_ret (v := .tuple #[crewV A2 B2 e0 0 a2 b2 m g m r.1, .slice L picks.length cl, .int .i64 0]) (by simp [results, Try.results12, go_sem]; go_simp) rfl ?_
      have hG7 := HG7.out (.slice A2 r.1.ts.length a2) (.int .i64 g) (.slice B2 r.1.dn.length b2) (.slice (some ⟨e0, 0, none⟩) m m) (.bool r.1.over) (.int .i64 r.1.st) (.int .i64 r.1.id)
      rw [HRR.out]
      refine ⟨A2, B2, L, e0, a2, b2, cl, by rw [HRL.out], ?_, ?_, ?_⟩
      · exact ((HGO.out.crew (T := fun x => x = w.heap.size + 1) (fun x hx => .inl (by omega)) (by omega)).grew hG7).at_ m1
      · rw [HRL.out]
        exact (HOW.out.rd.off (S := fun x => x = w.heap.size + 1) (fun a ha hs => by subst ha; have := HVG.out a.block rfl; omega)) _ hG7
      · exact hG7.toExt HX.out (fun b hb => by rw [hb]; omega)
end Go.Proofs.Ytebbpkdhdilkcaa

/- The program's Begin of work, in new memory. -/
namespace Go.Proofs.Ytebbpkdhdilkcaa
open Go.RowKit Go.Proofs.Ytebbpkdhdilkcaa.Plain

def BeginNew (w : World) (n g : Int) (e : Ending) (w' : World) : Prop :=
  ∃ A c B d, e = .returned (.tuple #[.agg #[.slice A 1 c, .int .i64 g, .slice B n.toNat d], .int .i64 0]) ∧
    Rd kTask w' (.slice A 1 c) [⟨0, n, -1, 0⟩] ∧ Rd kBool w' (.slice B n.toNat d) (List.replicate n.toNat false) ∧ From w.heap.size A ∧ From w.heap.size B ∧ Ext w w'
set_option maxHeartbeats 800000 in
set_option maxRecDepth 100000 in
theorem pbegin_new (n g : Int) (w : World) (hn : in64 n) (hg : in64 g) (hc : cOk n g = true) :
    Calls Try.prog 16 #[.int .i64 n, .int .i64 g] w (BeginNew w n g) := by
  have HN := Lib.hid hn
  have HG := Lib.hid hg
  have HC := Lib.hid hc
  obtain ⟨a1, a2, a3, a4⟩ : 1 ≤ n ∧ n ≤ 1000 ∧ 1 ≤ g ∧ g ≤ 100 := by unfold cOk at hc; simp only [Bool.and_eq_true, decide_eq_true_eq] at hc; omega
  obtain ⟨N, rfl⟩ : ∃ N : Nat, n = N := ⟨n.toNat, by omega⟩
  clear hc hn hg
  obtain ⟨C, hmk, hown⟩ := kBool.make false rfl trivial N (by omega)
  have hmk' : ∀ w : World, (Instr.makeSlice 26 (.int .i64 N) (.int .i64 N)).run Try.prog w = .ok (.slice (some ⟨w.heap.size, 0, none⟩) N N) (w.alloc (.cells C 4)) := hmk
  have HO := Lib.hid hown
  clear hmk hown
  go_enter Try.func16, Try.ntmps16
  go_wp2_with fail
  refine (sized_any _ _ _ HN.out HG.out).mono ?_
  rintro e w1 ⟨he, rfl⟩
  rw [HC.out] at he
  subst he
  go_wp2_with fail
  go_region
  all_goals (try go_wp2)
  · refine bodyPost_ret (v := .tuple #[.agg #[.slice (some ⟨w.heap.size + 1 + 1, 0, none⟩) 1 1, .int .i64 g, .slice (some ⟨w.heap.size + 1 + 1 + 1, 0, none⟩) N N], .int .i64 0]) (by simp [results, Try.results16, go_sem]) rfl ⟨_, 1, _, N, rfl, ?_, ?_, fun a ha => by cases ha; simp only; omega, fun a ha => by cases ha; simp only; omega, ?_⟩
    · exact (Ow.lit (K := kTask) (B := 0) (p := w.heap.size + 1 + 1) _ [⟨0, N, -1, 0⟩] #[.int .i64 0, .int .i64 N, .int .i64 (-1), .int .i64 0] rfl rfl (by simp) (Nat.zero_le _) (by simp [maxLen]) (by intro x hx; simp only [List.mem_singleton] at hx; subst hx; exact tk_ok (by unfold in64; omega) (by unfold in64; omega) (by unfold in64; omega) (by unfold in64; omega))).rd.ext ((Ext.refl _).alloc _).drew
    · exact (HO.out _ 0 (w.heap.size + 1 + 1 + 1) (by simp) (Nat.zero_le _)).rd.ext (Ext.refl _).drew
    · exact (((((Ext.refl w).alloc _).alloc _).alloc _).alloc _).drew
  · refine bodyPost_ret (v := .tuple #[.agg #[.slice (some ⟨w.heap.size + 1 + 1 + 1, 0, none⟩) 1 1, .int .i64 g, .slice (some ⟨w.heap.size + 1 + 1, 0, none⟩) N N], .int .i64 0]) (by simp [results, Try.results16, go_sem]) rfl ⟨_, 1, _, N, rfl, ?_, ?_, fun a ha => by cases ha; simp only; omega, fun a ha => by cases ha; simp only; omega, ?_⟩
    · exact (Ow.lit (K := kTask) (B := 0) (p := w.heap.size + 1 + 1 + 1) _ [⟨0, N, -1, 0⟩] #[.int .i64 0, .int .i64 N, .int .i64 (-1), .int .i64 0] rfl rfl (by simp) (Nat.zero_le _) (by simp [maxLen]) (by intro x hx; simp only [List.mem_singleton] at hx; subst hx; exact tk_ok (by unfold in64; omega) (by unfold in64; omega) (by unfold in64; omega) (by unfold in64; omega))).rd.ext (Ext.refl _).drew
    · exact (HO.out _ 0 (w.heap.size + 1 + 1) (by simp) (Nat.zero_le _)).rd.ext ((Ext.refl _).alloc _).drew
    · exact (((((Ext.refl w).alloc _).alloc _).alloc _).alloc _).drew
end Go.Proofs.Ytebbpkdhdilkcaa

/- The program's Begin of a crew. -/
namespace Go.Proofs.Ytebbpkdhdilkcaa
open Go.BigFrame
open Go.RowKit Go.Proofs.Ytebbpkdhdilkcaa.Plain

/-- but for two blocks -/
abbrev GrewTwo (w : World) (X Y : Nat) (W : World) : Prop := Grew (fun x => x = X ∨ x = Y) w W
def CBeginSaid (n g m : Nat) (w : World) (ed : Ending) (w' : World) : Prop :=
  ∃ (A B : Option Addr) (e0 a b : Nat), ed = .returned (.tuple #[crewV A B e0 0 a b m g m (beginC n m), .int .i64 0]) ∧ CrewAt w' m (beginC n m) A B e0 0 a b ∧ Ext w w'
set_option maxRecDepth 100000 in
theorem manned_no (m : Int) (w : World) (m1 : 8 < m) :
    Calls Try.prog 15 #[.int .i64 m] w fun e w' => e = .returned (.bool false) ∧ w = w' := by
  have m2 : ¬ m ≤ 8 := by omega
  have m3 : 1 ≤ m := by omega
  have m4 : decide (m ≤ 8) = false := decide_eq_false m2
  go_enter Try.func15, Try.ntmps15
  go_wp2
  go_ret
  exact ⟨rfl, rfl⟩
set_option maxHeartbeats 400000 in
set_option maxRecDepth 100000 in
/-- too many workers -/
theorem cbegin_no (n g m : Int) (w : World) (m1 : 8 < m) :
    Calls Try.prog 7 #[.int .i64 n, .int .i64 g, .int .i64 m] w fun ed w' => ∃ v, ed = .returned (.tuple #[v, .int .i64 1]) ∧ v = .agg #[.slice none 0 0, .int .i64 0, .slice none 0 0, .slice none 0 0, .bool false, .int .i64 0, .int .i64 0] ∧ Ext w w' := by
  go_enter Try.func7, Try.ntmps7
  go_wp2_with ((go_at_call 15; refine (manned_no m _ m1).mono ?_; rintro ed w1 ⟨rfl, rfl⟩))
  exact bodyPost_ret (v := .tuple #[.agg #[.slice none 0 0, .int .i64 0, .slice none 0 0, .slice none 0 0, .bool false, .int .i64 0, .int .i64 0], .int .i64 1]) (by simp [results, Try.results7, go_sem]) rfl ⟨_, rfl, rfl, by repeat (first | exact Ext.refl _ | refine Ext.alloc ?_ _ | refine Ext.setCell ?_ (Nat.le_refl _) _)⟩
set_option maxHeartbeats 800000 in
set_option maxRecDepth 100000 in
theorem cbegin_any (n g m : Nat) (w : World) (n1 : 1 ≤ n) (n2 : n ≤ 1000) (g1 : 1 ≤ g) (g2 : g ≤ 100) (m1 : 1 ≤ m) (m2 : m ≤ 8) :
    Calls Try.prog 7 #[.int .i64 n, .int .i64 g, .int .i64 m] w (CBeginSaid n g m w) := by
  have HCK : Hid (cOk (n : Int) (g : Int) = true) := Lib.hid (by unfold cOk; simp; omega)
  have HNI : Hid (in64 (n : Int)) := Lib.hid (in64_nat n (by omega))
  have HGI : Hid (in64 (g : Int)) := Lib.hid (in64_nat g (by omega))
  have m3 : (1 : Int) ≤ m := by omega
  have m4 : (m : Int) ≤ 8 := by omega
  have m5 : (0 : Int) < m := by omega
  have m6 : 0 < m := by omega
  obtain ⟨C, hmk, hmown⟩ := kRow.make hd0 rfl trivial m (by omega)
  have HMK := Lib.hid hmown
  have hmk2 : ∀ w : World, (Instr.makeSlice 29 (.int .i64 m) (.int .i64 m)).run Try.prog w = .ok (.slice (some ⟨w.heap.size, 0, none⟩) m m) (w.alloc (.cells C 55)) := hmk
  clear hmk hmown
  go_enter Try.func7, Try.ntmps7
  go_wp2_with ((go_at_call 15; refine (manned_yes m _ m1 m2).mono ?_; rintro ed w1 ⟨rfl, rfl⟩))
  refine (pbegin_new (n : Int) (g : Int) _ HNI.out HGI.out HCK.out).mono ?_
  rintro ed w2 ⟨A1, a1, B1, b1, rfl, hT, hD, hA, hB, hE⟩
  rw [Int.toNat_natCast] at hD ⊢
  have HAB : Hid ((∀ a, A1 = some a → w.heap.size + 1 ≤ a.block ∧ a.block < w2.heap.size) ∧ (∀ a, B1 = some a → w.heap.size + 1 ≤ a.block ∧ a.block < w2.heap.size)) := Lib.hid ⟨fun a ha => ⟨by have := hA a ha; simpa using this, Rd.lt hT (by simp) a ha⟩, fun a ha => ⟨by have := hB a ha; simpa using this, Rd.lt hD (by simp; omega) a ha⟩⟩
  clear hA hB
  have r0 : w2.cell? ⟨w.heap.size, 0, none⟩ = some (.slice none 0 0) := Ext.cell hE (by go_simp)
  have r1 : w2.cell? ⟨w.heap.size, 1, none⟩ = some (.int .i64 0) := Ext.cell hE (by go_simp)
  have r2 : w2.cell? ⟨w.heap.size, 2, none⟩ = some (.slice none 0 0) := Ext.cell hE (by go_simp)
  have r3 : w2.cell? ⟨w.heap.size, 3, none⟩ = some (.slice none 0 0) := Ext.cell hE (by go_simp)
  have r4 : w2.cell? ⟨w.heap.size, 4, none⟩ = some (.bool false) := Ext.cell hE (by go_simp)
  have r5 : w2.cell? ⟨w.heap.size, 5, none⟩ = some (.int .i64 0) := Ext.cell hE (by go_simp)
  have r6 : w2.cell? ⟨w.heap.size, 6, none⟩ = some (.int .i64 0) := Ext.cell hE (by go_simp)
  have rf : ∀ o, w2.frozen? ⟨w.heap.size, o, none⟩ = false := fun o => (Below.frozen hE (p := ⟨w.heap.size, o, none⟩) (by first | omega | (simp; omega) | simp)).trans (by go_simp)
  have HT := Lib.hid hT
  have HD := Lib.hid hD
  have hz := hE.size
  simp at hz
  have l2 : w.heap.size < w2.heap.size := by omega
  have l3 : w.heap.size < w2.heap.size + 1 := by omega
  have HX2 := Lib.hid (((Ext.refl w).alloc _).trans hE)
  clear hT hD hE
  go_upto_region 7 with fail
  have hEb : Ext (w2.alloc (.cells #[.slice A1 1 a1, .int .i64 g, .slice B1 n b1] 28)) ((w2.alloc (.cells #[.slice A1 1 a1, .int .i64 g, .slice B1 n b1] 28)).alloc (.cells C 55)) := (Ext.refl _).alloc _
  have hEa : Ext w2 ((w2.alloc (.cells #[.slice A1 1 a1, .int .i64 g, .slice B1 n b1] 28)).alloc (.cells C 55)) := ((Ext.refl w2).alloc _).alloc _
  have s0 : ((w2.alloc (.cells #[.slice A1 1 a1, .int .i64 g, .slice B1 n b1] 28)).alloc (.cells C 55)).cell? ⟨w.heap.size, 0, none⟩ = some (.slice none 0 0) := Ext.cell hEa (by go_simp)
  have s1 : ((w2.alloc (.cells #[.slice A1 1 a1, .int .i64 g, .slice B1 n b1] 28)).alloc (.cells C 55)).cell? ⟨w.heap.size, 1, none⟩ = some (.int .i64 0) := Ext.cell hEa (by go_simp)
  have s2 : ((w2.alloc (.cells #[.slice A1 1 a1, .int .i64 g, .slice B1 n b1] 28)).alloc (.cells C 55)).cell? ⟨w.heap.size, 2, none⟩ = some (.slice none 0 0) := Ext.cell hEa (by go_simp)
  have s3 : ((w2.alloc (.cells #[.slice A1 1 a1, .int .i64 g, .slice B1 n b1] 28)).alloc (.cells C 55)).cell? ⟨w.heap.size, 3, none⟩ = some (.slice none 0 0) := Ext.cell hEa (by go_simp)
  have s4 : ((w2.alloc (.cells #[.slice A1 1 a1, .int .i64 g, .slice B1 n b1] 28)).alloc (.cells C 55)).cell? ⟨w.heap.size, 4, none⟩ = some (.bool false) := Ext.cell hEa (by go_simp)
  have s5 : ((w2.alloc (.cells #[.slice A1 1 a1, .int .i64 g, .slice B1 n b1] 28)).alloc (.cells C 55)).cell? ⟨w.heap.size, 5, none⟩ = some (.int .i64 0) := Ext.cell hEa (by go_simp)
  have s6 : ((w2.alloc (.cells #[.slice A1 1 a1, .int .i64 g, .slice B1 n b1] 28)).alloc (.cells C 55)).cell? ⟨w.heap.size, 6, none⟩ = some (.int .i64 0) := Ext.cell hEa (by go_simp)
  have sf : ∀ o, ((w2.alloc (.cells #[.slice A1 1 a1, .int .i64 g, .slice B1 n b1] 28)).alloc (.cells C 55)).frozen? ⟨w.heap.size, o, none⟩ = false := fun o => (Below.frozen hEa (p := ⟨w.heap.size, o, none⟩) (by first | omega | (simp; omega) | simp)).trans (by go_simp)
  have y0 : ((w2.alloc (.cells #[.slice A1 1 a1, .int .i64 g, .slice B1 n b1] 28)).alloc (.cells C 55)).cell? ⟨w2.heap.size, 0, none⟩ = some (.slice A1 1 a1) := Ext.cell hEb (by go_simp)
  have y1 : ((w2.alloc (.cells #[.slice A1 1 a1, .int .i64 g, .slice B1 n b1] 28)).alloc (.cells C 55)).cell? ⟨w2.heap.size, 1, none⟩ = some (.int .i64 g) := Ext.cell hEb (by go_simp)
  have y2 : ((w2.alloc (.cells #[.slice A1 1 a1, .int .i64 g, .slice B1 n b1] 28)).alloc (.cells C 55)).cell? ⟨w2.heap.size, 2, none⟩ = some (.slice B1 n b1) := Ext.cell hEb (by go_simp)
  have yf : ∀ o, ((w2.alloc (.cells #[.slice A1 1 a1, .int .i64 g, .slice B1 n b1] 28)).alloc (.cells C 55)).frozen? ⟨w2.heap.size, o, none⟩ = false := fun o => (Below.frozen hEb (p := ⟨w2.heap.size, o, none⟩) (by first | omega | (simp; omega) | simp)).trans (by go_simp)
  have hm := HMK.out (w2.alloc (.cells #[.slice A1 1 a1, .int .i64 g, .slice B1 n b1] 28)) (w2.heap.size + 1) (w2.heap.size + 1) (by simp) (Nat.le_refl _)
  obtain ⟨g', eg, _, _, h3, hdf⟩ := Ow.pos hm (by rw [List.length_replicate]; omega)
  obtain rfl : g' = w2.heap.size + 1 := by cases eg; rfl
  have hd : ∀ j, j < m → (((w2.alloc (.cells #[.slice A1 1 a1, .int .i64 g, .slice B1 n b1] 28)).alloc (.cells C 55))).cell? ⟨w2.heap.size + 1, j, none⟩ = some (.slice none 0 0) := fun j hj => by
    have := h3 j (by rw [List.length_replicate]; exact hj) 0 (.slice none 0 0) (by rw [List.getD_eq_getElem?_getD, List.getElem?_replicate, if_pos hj]; rfl)
    rw [show j = j * kRow.n + 0 from by show j = j * 1 + 0; omega]
    exact this
  have hd0 := hd 0 (by omega)
  have hdf2 : ∀ o, (((w2.alloc (.cells #[.slice A1 1 a1, .int .i64 g, .slice B1 n b1] 28)).alloc (.cells C 55))).frozen? ⟨w2.heap.size + 1, o, none⟩ = false := hdf
  clear hdf
  have HDD := Lib.hid hd
  have HX3 := Lib.hid (HX2.out.trans hEa)
  have HT3 := Lib.hid (HT.out.ext hEa)
  have HD3 := Lib.hid (HD.out.ext hEa)
  have l4 : w2.heap.size + 1 < (((w2.alloc (.cells #[.slice A1 1 a1, .int .i64 g, .slice B1 n b1] 28)).alloc (.cells C 55))).heap.size := by simp
  have l5 : w2.heap.size < (((w2.alloc (.cells #[.slice A1 1 a1, .int .i64 g, .slice B1 n b1] 28)).alloc (.cells C 55))).heap.size := by simp; omega
  have l6 : w.heap.size < (((w2.alloc (.cells #[.slice A1 1 a1, .int .i64 g, .slice B1 n b1] 28)).alloc (.cells C 55))).heap.size := by simp; omega
  have HZ3 : Hid ((((w2.alloc (.cells #[.slice A1 1 a1, .int .i64 g, .slice B1 n b1] 28)).alloc (.cells C 55))).heap.size = w2.heap.size + 2) := Lib.hid (by simp)
  clear hEa hEb hm h3 eg hd r0 r1 r2 r3 r4 r5 r6 rf hmk2
  generalize hw3 : ((w2.alloc (.cells #[.slice A1 1 a1, .int .i64 g, .slice B1 n b1] 28)).alloc (.cells C 55)) = w3 at *
  clear hw3
  have HG3 : Hid (∀ u0 u1 u2 u3 u4 u5 u6 : Value, GrewTwo w3 (w2.heap.size + 1) w.heap.size ((((((((w3.setCell ⟨w2.heap.size + 1, 0, none⟩ (.slice (some ⟨w3.heap.size, 0, none⟩) 1 1)).setCell ⟨w.heap.size, 0, none⟩ u0).setCell ⟨w.heap.size, 1, none⟩ u1).setCell ⟨w.heap.size, 2, none⟩ u2).setCell ⟨w.heap.size, 3, none⟩ u3).setCell ⟨w.heap.size, 4, none⟩ u4).setCell ⟨w.heap.size, 5, none⟩ u5).setCell ⟨w.heap.size, 6, none⟩ u6)) := Lib.hid (fun u0 u1 u2 u3 u4 u5 u6 => (((((((Grew.setCell (S := fun x => x = w2.heap.size + 1 ∨ x = w.heap.size) (p := ⟨w2.heap.size + 1, 0, none⟩) (Grew.refl _ w3) (.inl rfl) (.slice (some ⟨w3.heap.size, 0, none⟩) 1 1)).setCell (p := ⟨w.heap.size, 0, none⟩) (.inr rfl) _).setCell (p := ⟨w.heap.size, 1, none⟩) (.inr rfl) _).setCell (p := ⟨w.heap.size, 2, none⟩) (.inr rfl) _).setCell (p := ⟨w.heap.size, 3, none⟩) (.inr rfl) _).setCell (p := ⟨w.heap.size, 4, none⟩) (.inr rfl) _).setCell (p := ⟨w.heap.size, 5, none⟩) (.inr rfl) _).setCell (p := ⟨w.heap.size, 6, none⟩) (.inr rfl) _)
  go_wp2_with fail
  refine bodyPost_ret (v := .tuple #[.agg #[.slice A1 1 a1, .int .i64 g, .slice B1 n b1, .slice (some ⟨w2.heap.size + 1, 0, none⟩) m m, .bool false, .int .i64 0, .int .i64 0], .int .i64 0]) (by simp [results, Try.results7, go_sem]; go_simp) rfl ?_
  have hG := HG3.out (.slice A1 1 a1) (.int .i64 g) (.slice B1 n b1) (.slice (some ⟨w2.heap.size + 1, 0, none⟩) m m) (.bool false) (.int .i64 0) (.int .i64 0)
  refine ⟨A1, B1, w2.heap.size + 1, a1, b1, by simp [beginC], ?_, ?_⟩
  · have hGa := hG.alloc (.cells #[.int .i64 0] 3)
    refine ⟨?_, ?_, ⟨fun j => if j = 0 then ⟨some ⟨w3.heap.size, 0, none⟩, 1, 1⟩ else (⟨none, 0, 0⟩ : Hd), by simp [beginC]; omega, fun j hj => ?_⟩, fun hf => hf⟩
    · have h1 := (Rd.off (S := fun x => x = w2.heap.size + 1 ∨ x = w.heap.size) HT3.out (fun a ha hs => by have := HAB.out.1 a ha; omega)).grew hGa
      exact h1.mono (fun _ _ hf => hf.elim)
    · have h1 := (Rd.off (S := fun x => x = w2.heap.size + 1 ∨ x = w.heap.size) HD3.out (fun a ha hs => by have := HAB.out.2 a ha; omega)).grew hGa
      have e : (beginC n m).dn.length = n := by simp [beginC]
      rw [e]
      exact h1.mono (fun _ _ hf => hf.elim)
    · by_cases e : j = 0
      · subst e
        dsimp only
        rw [if_pos rfl]
        refine ⟨by simp only [Nat.zero_add]; go_simp, rfl, ?_⟩
        refine Rd.off (Ow.rd (K := kInt) (B := 0) (Ow.lit (K := kInt) (p := w3.heap.size) (n := 1) _ [0] #[.int .i64 0] rfl rfl ?_ (Nat.zero_le _) (by simp [maxLen]) ?_)) (fun _ _ hf => hf.elim)
        · simp
        · intro x hx; simp only [List.mem_singleton] at hx; subst hx; exact in64_nat 0 (by omega)
      · dsimp only
        rw [if_neg e]
        have e2 : (beginC n m).D.getD j [] = [] := by
          unfold beginC
          obtain ⟨k, rfl⟩ : ∃ k, j = k + 1 := ⟨j - 1, by omega⟩
          simp only [List.getD_cons_succ]
          rw [List.getD_eq_getElem?_getD, List.getElem?_replicate]; split <;> rfl
        rw [e2]
        refine ⟨?_, rfl, RdO.nil _ _ _ _⟩
        rw [Nat.zero_add]
        have h1 := HDD.out j hj
        have n1 : ¬ w2.heap.size + 1 = w.heap.size := by omega
        have h2 : (w3.setCell ⟨w2.heap.size + 1, 0, none⟩ (.slice (some ⟨w3.heap.size, 0, none⟩) 1 1)).cell? ⟨w2.heap.size + 1, j, none⟩ = some (.slice none 0 0) := by
          rw [World.cell?_setCell_other _ _ _ _ (fun e' => e (by cases e'; rfl))]; exact h1
        refine Ext.cell ((Ext.refl _).alloc _) ?_
        refine Grew.cell (S := fun x => x = w.heap.size) (w := w3.setCell ⟨w2.heap.size + 1, 0, none⟩ (.slice (some ⟨w3.heap.size, 0, none⟩) 1 1)) ?_ h2 (by omega)
        exact ((((((Grew.setCell (S := fun x => x = w.heap.size) (p := ⟨w.heap.size, 0, none⟩) (Grew.refl _ _) rfl _).setCell (p := ⟨w.heap.size, 1, none⟩) rfl _).setCell (p := ⟨w.heap.size, 2, none⟩) rfl _).setCell (p := ⟨w.heap.size, 3, none⟩) rfl _).setCell (p := ⟨w.heap.size, 4, none⟩) rfl _).setCell (p := ⟨w.heap.size, 5, none⟩) rfl _).setCell (p := ⟨w.heap.size, 6, none⟩) rfl _
  · exact (hG.toExt HX3.out (fun b hb => by rcases hb with rfl | rfl <;> omega)).alloc _
end Go.Proofs.Ytebbpkdhdilkcaa

/- The program's Same of a crew, of one and the same. -/
namespace Go.Proofs.Ytebbpkdhdilkcaa
open Go.BigFrame
open Go.RowKit Go.Proofs.Ytebbpkdhdilkcaa.Plain

set_option maxHeartbeats 800000 in
set_option maxRecDepth 100000 in
theorem eqself_t (A : Option Addr) (c : Nat) (xs : List Tk) (w : World) (h : Rd kTask w (.slice A xs.length c) xs) :
    Calls Try.prog 36 #[.slice A xs.length c, .slice A xs.length c] w fun e w' => e = .returned (.bool true) ∧ Ext w w' := by
  have H := Lib.hid h
  have hm := h.len
  clear h
  go_enter Try.func36, Try.ntmps36
  go_wp2
  go_loopw [13] (fun i wr => ∃ k : Nat, k ≤ xs.length ∧ i = .int .i64 k ∧ Ext w wr) (fun i _ => xs.length - (intOf i).toNat)
  case atStart => exact ⟨0, Nat.zero_le _, rfl, Ext.refl _⟩
  case round =>
    obtain ⟨k, hk, rfl, hE⟩ := hrel
    have hk0 : (0 : Int) ≤ k := by omega
    by_cases hlt : k < xs.length
    · have hlt' : (k : Int) < xs.length := by omega
      obtain ⟨b, off, rfl, hcc⟩ := Rd.tasks H.out (by omega)
      obtain ⟨p0, p1, p2, p3⟩ := hcc k hlt
      obtain ⟨⟨l0, l1, l2, l3⟩, ht⟩ : ∃ t, xs.getD k ⟨0, 0, 0, 0⟩ = t := ⟨_, rfl⟩
      rw [ht] at p0 p1 p2 p3
      simp only at p0 p1 p2 p3
      replace p0 := hE.cell p0
      replace p1 := hE.cell p1
      replace p2 := hE.cell p2
      replace p3 := hE.cell p3
      clear hcc ht
      go_wp2_with fail
      go_quiet (fail)
      go_wp2_with fail
      go_roundw
      case rel => exact ⟨k + 1, by omega, by go_num, hE.drewN _⟩
      case measure => simp [intOf]; omega
    · go_wp2_with fail
      go_ret
      exact ⟨rfl, hE⟩
set_option maxHeartbeats 800000 in
set_option maxRecDepth 100000 in
theorem eqself_b (A : Option Addr) (c : Nat) (xs : List Bool) (w : World) (h : Rd kBool w (.slice A xs.length c) xs) :
    Calls Try.prog 37 #[.slice A xs.length c, .slice A xs.length c] w fun e w' => e = .returned (.bool true) ∧ Ext w w' := by
  have H := Lib.hid h
  have hm := h.len
  clear h
  go_enter Try.func37, Try.ntmps37
  go_wp2
  go_loopw [13] (fun i wr => ∃ k : Nat, k ≤ xs.length ∧ i = .int .i64 k ∧ Ext w wr) (fun i _ => xs.length - (intOf i).toNat)
  case atStart => exact ⟨0, Nat.zero_le _, rfl, Ext.refl _⟩
  case round =>
    obtain ⟨k, hk, rfl, hE⟩ := hrel
    have hk0 : (0 : Int) ≤ k := by omega
    by_cases hlt : k < xs.length
    · have hlt' : (k : Int) < xs.length := by omega
      obtain ⟨b, off, rfl, hcc⟩ := Rd.bools H.out (by omega)
      have p0 := hE.cell (hcc k hlt)
      obtain ⟨t, ht⟩ : ∃ t, xs.getD k false = t := ⟨_, rfl⟩
      rw [ht] at p0
      clear hcc ht
      go_wp2_with fail
      go_quiet (fail)
      go_wp2_with fail
      go_roundw
      case rel => exact ⟨k + 1, by omega, by go_num, hE.drewN _⟩
      case measure => simp [intOf]; omega
    · go_wp2_with fail
      go_ret
      exact ⟨rfl, hE⟩
set_option maxHeartbeats 800000 in
set_option maxRecDepth 100000 in
theorem eqself_i (A : Option Addr) (n c : Nat) (xs : List Int) (w : World) (h : Rd kInt w (.slice A n c) xs) (hn : n = xs.length) :
    Calls Try.prog 24 #[.slice A n c, .slice A n c] w fun e w' => e = .returned (.bool true) ∧ Ext w w' := by
  subst hn
  have H := Lib.hid h
  have hm := h.len
  clear h
  go_enter Try.func24, Try.ntmps24
  go_wp2
  go_loopw [13] (fun i wr => ∃ k : Nat, k ≤ xs.length ∧ i = .int .i64 k ∧ Ext w wr) (fun i _ => xs.length - (intOf i).toNat)
  case atStart => exact ⟨0, Nat.zero_le _, rfl, Ext.refl _⟩
  case round =>
    obtain ⟨k, hk, rfl, hE⟩ := hrel
    have hk0 : (0 : Int) ≤ k := by omega
    by_cases hlt : k < xs.length
    · have hlt' : (k : Int) < xs.length := by omega
      obtain ⟨b, off, rfl, hcc⟩ := H.out.cells (by omega)
      have z := hcc k hlt 0 _ rfl
      obtain ⟨t, ht⟩ : ∃ t, xs.getD k kInt.d = t := ⟨_, rfl⟩
      rw [ht] at z
      have p0 : wr.cell? ⟨b, off + k, none⟩ = some (.int .i64 t) := hE.cell (by rw [show off + k = off + k * kInt.n + 0 from by show off + k = off + k * 1 + 0; omega]; exact z)
      clear hcc ht z
      go_wp2_with fail
      go_quiet (fail)
      go_wp2_with fail
      go_roundw
      case rel => exact ⟨k + 1, by omega, by go_num, hE.drewN _⟩
      case measure => simp [intOf]; omega
    · go_wp2_with fail
      go_ret
      exact ⟨rfl, hE⟩
set_option maxHeartbeats 800000 in
set_option maxRecDepth 100000 in
theorem eqfunc_self (b off m e : Nat) (hs : Nat → Hd) (D : List (List Nat)) (w : World) (h : Hds (fun _ => False) w b off m hs D) (hm : m ≤ 8) :
    Calls Try.prog 23 #[.slice (some ⟨b, off, none⟩) m e, .slice (some ⟨b, off, none⟩) m e, .func (.func 24) #[] #[]] w fun ed w' => ed = .returned (.bool true) ∧ Ext w w' := by
  have H := Lib.hid h
  have hm' : (m : Int) ≤ 8 := by omega
  clear h
  go_enter Try.func23, Try.ntmps23
  go_wp2
  go_loopw [17] (fun i wr => ∃ k : Nat, k ≤ m ∧ i = .int .i64 k ∧ Ext w wr) (fun i _ => m - (intOf i).toNat)
  case atStart => exact ⟨0, Nat.zero_le _, rfl, Ext.refl _⟩
  case round =>
    obtain ⟨k, hk, rfl, hE⟩ := hrel
    have hk0 : (0 : Int) ≤ k := by omega
    by_cases hlt : k < m
    · have hlt' : (k : Int) < m := by omega
      obtain ⟨z, zn, zr⟩ := H.out.2 k hlt
      have z' := hE.cell z
      have HR := Lib.hid (zr.rd.ext hE)
      have HN : Hid ((hs k).n = (zs (D.getD k [])).length) := Lib.hid (by rw [zs_len]; exact zn)
      clear z zn zr
      go_wp2_with fail
      refine (eqself_i _ _ _ _ _ HR.out HN.out).mono ?_
      rintro ed w1 ⟨rfl, hE1⟩
      go_wp2_with fail
      go_roundw
      case rel => exact ⟨k + 1, by omega, by go_num, hE.trans hE1⟩
      case measure => simp [intOf]; omega
    · go_wp2_with fail
      go_ret
      exact ⟨rfl, hE⟩
set_option maxHeartbeats 800000 in
set_option maxRecDepth 100000 in
theorem samework_self (A B : Option Addr) (a b : Nat) (g : Int) (ts : List Tk) (dn : List Bool) (w : World) (h1 : Rd kTask w (.slice A ts.length a) ts) (h2 : Rd kBool w (.slice B dn.length b) dn) :
    Calls Try.prog 22 #[.agg #[.slice A ts.length a, .int .i64 g, .slice B dn.length b], .agg #[.slice A ts.length a, .int .i64 g, .slice B dn.length b]] w fun ed w' => ed = .returned (.bool true) ∧ Ext w w' := by
  have H1 := Lib.hid h1
  have H2 := Lib.hid h2
  clear h1 h2
  go_enter Try.func22, Try.ntmps22
  go_wp2_with fail
  refine (eqself_t A a ts _ (H1.out.ext (((Ext.refl _).alloc _).alloc _))).mono ?_
  rintro ed w1 ⟨rfl, hE⟩
  have x0 : w1.cell? ⟨w.heap.size, 0, none⟩ = some (.slice A ts.length a) := Ext.cell hE (by go_simp)
  have x1 : w1.cell? ⟨w.heap.size, 1, none⟩ = some (.int .i64 g) := Ext.cell hE (by go_simp)
  have x2 : w1.cell? ⟨w.heap.size, 2, none⟩ = some (.slice B dn.length b) := Ext.cell hE (by go_simp)
  have xf : ∀ o, w1.frozen? ⟨w.heap.size, o, none⟩ = false := fun o => (Below.frozen hE (p := ⟨w.heap.size, o, none⟩) (by first | omega | (simp; omega) | simp)).trans (by go_simp)
  have y0 : w1.cell? ⟨w.heap.size + 1, 0, none⟩ = some (.slice A ts.length a) := Ext.cell hE (by go_simp)
  have y1 : w1.cell? ⟨w.heap.size + 1, 1, none⟩ = some (.int .i64 g) := Ext.cell hE (by go_simp)
  have y2 : w1.cell? ⟨w.heap.size + 1, 2, none⟩ = some (.slice B dn.length b) := Ext.cell hE (by go_simp)
  have yf : ∀ o, w1.frozen? ⟨w.heap.size + 1, o, none⟩ = false := fun o => (Below.frozen hE (p := ⟨w.heap.size + 1, o, none⟩) (by first | omega | (simp; omega) | simp)).trans (by go_simp)
  have HE := Lib.hid ((((Ext.refl w).alloc _).alloc _).trans hE)
  clear hE
  go_wp2_with fail
  refine (eqself_b B b dn _ (H2.out.ext HE.out)).mono ?_
  rintro ed w2 ⟨rfl, hE2⟩
  go_wp2_with fail
  go_ret
  exact ⟨rfl, HE.out.trans hE2⟩
set_option maxHeartbeats 1600000 in
set_option maxRecDepth 100000 in
theorem csame_self (A B : Option Addr) (eb eo a b e g m : Nat) (c : Cw) (w : World) (h : CrewAt w m c A B eb eo a b) (hm : m ≤ 8) :
    Calls Try.prog 14 #[crewV A B eb eo a b e g m c, crewV A B eb eo a b e g m c] w fun ed w' => ed = .returned (.bool true) ∧ Ext w w' := by
  have H := Lib.hid h
  obtain ⟨hs, hds⟩ := h.deq
  have HDS := Lib.hid hds
  clear h hds
  go_enter Try.func14, Try.ntmps14
  go_wp2_with fail
  refine (samework_self A B a b g c.ts c.dn _ (H.out.tsk.rd.ext (((Ext.refl _).alloc _).alloc _)) (H.out.dns.rd.ext (((Ext.refl _).alloc _).alloc _))).mono ?_
  rintro ed w1 ⟨rfl, hE⟩
  have x0 : w1.cell? ⟨w.heap.size, 0, none⟩ = some (.slice A c.ts.length a) := Ext.cell hE (by go_simp)
  have x1 : w1.cell? ⟨w.heap.size, 1, none⟩ = some (.int .i64 g) := Ext.cell hE (by go_simp)
  have x2 : w1.cell? ⟨w.heap.size, 2, none⟩ = some (.slice B c.dn.length b) := Ext.cell hE (by go_simp)
  have x3 : w1.cell? ⟨w.heap.size, 3, none⟩ = some (.slice (some ⟨eb, eo, none⟩) m e) := Ext.cell hE (by go_simp)
  have x4 : w1.cell? ⟨w.heap.size, 4, none⟩ = some (.bool c.over) := Ext.cell hE (by go_simp)
  have x5 : w1.cell? ⟨w.heap.size, 5, none⟩ = some (.int .i64 c.st) := Ext.cell hE (by go_simp)
  have x6 : w1.cell? ⟨w.heap.size, 6, none⟩ = some (.int .i64 c.id) := Ext.cell hE (by go_simp)
  have xf : ∀ o, w1.frozen? ⟨w.heap.size, o, none⟩ = false := fun o => (Below.frozen hE (p := ⟨w.heap.size, o, none⟩) (by first | omega | (simp; omega) | simp)).trans (by go_simp)
  have y0 : w1.cell? ⟨w.heap.size + 1, 0, none⟩ = some (.slice A c.ts.length a) := Ext.cell hE (by go_simp)
  have y1 : w1.cell? ⟨w.heap.size + 1, 1, none⟩ = some (.int .i64 g) := Ext.cell hE (by go_simp)
  have y2 : w1.cell? ⟨w.heap.size + 1, 2, none⟩ = some (.slice B c.dn.length b) := Ext.cell hE (by go_simp)
  have y3 : w1.cell? ⟨w.heap.size + 1, 3, none⟩ = some (.slice (some ⟨eb, eo, none⟩) m e) := Ext.cell hE (by go_simp)
  have y4 : w1.cell? ⟨w.heap.size + 1, 4, none⟩ = some (.bool c.over) := Ext.cell hE (by go_simp)
  have y5 : w1.cell? ⟨w.heap.size + 1, 5, none⟩ = some (.int .i64 c.st) := Ext.cell hE (by go_simp)
  have y6 : w1.cell? ⟨w.heap.size + 1, 6, none⟩ = some (.int .i64 c.id) := Ext.cell hE (by go_simp)
  have yf : ∀ o, w1.frozen? ⟨w.heap.size + 1, o, none⟩ = false := fun o => (Below.frozen hE (p := ⟨w.heap.size + 1, o, none⟩) (by first | omega | (simp; omega) | simp)).trans (by go_simp)
  have HE := Lib.hid ((((Ext.refl w).alloc _).alloc _).trans hE)
  clear hE
  go_wp2_with fail
  refine (eqfunc_self eb eo m e hs c.D _ (HDS.out.ext HE.out) hm).mono ?_
  rintro ed w2 ⟨rfl, hE2⟩
  have x4' := hE2.cell x4
  have y4' := hE2.cell y4
  have x5' := hE2.cell x5
  have y5' := hE2.cell y5
  have x6' := hE2.cell x6
  have y6' := hE2.cell y6
  have HE2 := Lib.hid (HE.out.trans hE2)
  clear hE2 x0 x1 x2 x3 x4 x5 x6 xf y0 y1 y2 y3 y4 y5 y6 yf
  cases hov : c.over with
  | true =>
    rw [hov] at x4' y4'
    go_wp2_with fail
    go_ret
    exact ⟨rfl, HE2.out⟩
  | false =>
    rw [hov] at x4' y4'
    go_wp2_with fail
    go_ret
    exact ⟨rfl, HE2.out⟩
end Go.Proofs.Ytebbpkdhdilkcaa

/- The fixed fact of the crew's statements: calls with answers named. Written by wip/mk_calive.py. -/
namespace Go.Proofs.Ytebbpkdhdilkcaa
open Go.BigFrame
open Go.RowKit Go.Proofs.Ytebbpkdhdilkcaa.Plain

/-- a crew, as a value, its numbers named -/
abbrev crewN (A B : Option Addr) (eb eo a b e m nt nd : Nat) (g : Int) (ov : Bool) (st id : Int) : Value :=
  .agg #[.slice A nt a, .int .i64 g, .slice B nd b, .slice (some ⟨eb, eo, none⟩) m e, .bool ov, .int .i64 st, .int .i64 id]
def StepTo (A0 : Unit) (m nt nd : Nat) (g : Int) (ov : Bool) (st id wk fr tk : Int) (pt : Bool) (c : Cw) (w : World) (ed : Ending) (w' : World) : Prop :=
  ∃ (A B : Option Addr) (e0 a b : Nat), ed = .returned (.tuple #[crewN A B e0 0 a b m m nt nd g ov st id, .agg #[.int .i64 wk, .int .i64 fr, .int .i64 tk, .bool pt], .int .i64 0]) ∧ CrewO (fun x => x < w.heap.size) w' m c A B e0 0 a b ∧ Ext w w'
theorem cstep_to (A B : Option Addr) (eb eo a b e g n m nt nd nt' nd' : Nat) (gi : Int) (ov ov' : Bool) (st id st' id' wk fr tk : Int) (pt : Bool) (c c' : Cw) (done : Nat) (G : List Nat) (p q : Int) (w : World) (h : CrewAt w m c A B eb eo a b) (me : m ≤ e) (hI : CwI g n m c done G)
    (n1 : 1 ≤ n) (n2 : n ≤ 120) (g1 : 1 ≤ g) (g2 : g ≤ 100) (m1 : 1 ≤ m) (m2 : m ≤ 8) (hst : c.st < 100000) (hid : c.id < 100000) (hp : in64 p) (hq : in64 q)
    (e1 : c.ts.length = nt) (e2 : c.dn.length = nd) (e3 : (g : Int) = gi) (e4 : c.over = ov) (e5 : (c.st : Int) = st) (e6 : (c.id : Int) = id) (he : stepP g m c p q = (c', ⟨wk, fr, tk, pt⟩))
    (f1 : c'.ts.length = nt') (f2 : c'.dn.length = nd') (f4 : c'.over = ov') (f5 : (c'.st : Int) = st') (f6 : (c'.id : Int) = id') :
    Calls Try.prog 8 #[crewN A B eb eo a b e m nt nd gi ov st id, .int .i64 p, .int .i64 q] w (StepTo () m nt' nd' gi ov' st' id' wk fr tk pt c' w) := by
  subst e1 e2 e3 e4 e5 e6 f1 f2 f4 f5 f6
  refine (cstep_any A B eb eo a b e g n m c done G p q w h me hI n1 n2 g1 g2 m1 m2 hst hid hp hq).mono fun ed w' hh => ?_
  rw [he] at hh
  exact hh
def BeginTo (m nt nd : Nat) (g : Int) (c : Cw) (w : World) (ed : Ending) (w' : World) : Prop :=
  ∃ (A B : Option Addr) (e0 a b : Nat), ed = .returned (.tuple #[crewN A B e0 0 a b m m nt nd g false 0 0, .int .i64 0]) ∧ CrewAt w' m c A B e0 0 a b ∧ Ext w w'
theorem cbegin_to (n g m : Nat) (ni gi mi : Int) (w : World) (n1 : 1 ≤ n) (n2 : n ≤ 1000) (g1 : 1 ≤ g) (g2 : g ≤ 100) (m1 : 1 ≤ m) (m2 : m ≤ 8) (e1 : (n : Int) = ni) (e2 : (g : Int) = gi) (e3 : (m : Int) = mi) :
    Calls Try.prog 7 #[.int .i64 ni, .int .i64 gi, .int .i64 mi] w (BeginTo m 1 n gi (beginC n m) w) := by
  subst e1 e2 e3
  refine (cbegin_any n g m w n1 n2 g1 g2 m1 m2).mono fun ed w' hh => ?_
  obtain ⟨A, B, e0, a, b, h1, h2, h3⟩ := hh
  exact ⟨A, B, e0, a, b, by rw [h1]; simp [beginC], h2, h3⟩
def RunTo (m nt nd k : Nat) (g : Int) (ov : Bool) (st id : Int) (c : Cw) (evs : List Ev) (w : World) (ed : Ending) (w' : World) : Prop :=
  ∃ (A B L : Option Addr) (e0 a b l : Nat), ed = .returned (.tuple #[crewN A B e0 0 a b m m nt nd g ov st id, .slice L k l, .int .i64 0]) ∧ CrewAt w' m c A B e0 0 a b ∧ Rd kEv w' (.slice L k l) evs ∧ Ext w w'
theorem crun_to (A B Ap : Option Addr) (eb eo a b e g n m cp np nt nd nt' nd' : Nat) (gi : Int) (ov ov' : Bool) (st id st' id' : Int) (c c' : Cw) (evs : List Ev) (done : Nat) (G : List Nat) (picks : List (Int × Int)) (w : World) (h : CrewAt w m c A B eb eo a b) (me : m ≤ e) (hI : CwI g n m c done G) (hp : Rd kPk w (.slice Ap np cp) picks) (hnp : picks.length = np)
    (n1 : 1 ≤ n) (n2 : n ≤ 120) (g1 : 1 ≤ g) (g2 : g ≤ 100) (m1 : 1 ≤ m) (m2 : m ≤ 8) (hst : c.st + picks.length ≤ 100000) (hid : c.id + picks.length ≤ 100000)
    (e1 : c.ts.length = nt) (e2 : c.dn.length = nd) (e3 : (g : Int) = gi) (e4 : c.over = ov) (e5 : (c.st : Int) = st) (e6 : (c.id : Int) = id) (he : runP g m c picks = (c', evs))
    (f1 : c'.ts.length = nt') (f2 : c'.dn.length = nd') (f4 : c'.over = ov') (f5 : (c'.st : Int) = st') (f6 : (c'.id : Int) = id') :
    Calls Try.prog 12 #[crewN A B eb eo a b e m nt nd gi ov st id, .slice Ap np cp] w (RunTo m nt' nd' np gi ov' st' id' c' evs w) := by
  subst e1 e2 e3 e4 e5 e6 f1 f2 f4 f5 f6 hnp
  refine (crun_any A B Ap eb eo a b e g n m cp c done G picks w h me hI hp n1 n2 g1 g2 m1 m2 hst hid).mono fun ed w' hh => ?_
  have hl := runP_len g m picks c
  rw [he] at hh hl
  obtain ⟨A, B, L, e0, a, b, l, h1, h2, h3, h4⟩ := hh
  rw [hl] at h1 h3
  exact ⟨A, B, L, e0, a, b, l, h1, h2, h3, h4⟩
theorem CrewO.set7 {S : Nat → Prop} {w : World} {m : Nat} {c : Cw} {A B : Option Addr} {eb eo a b V : Nat} (h : CrewO S w m c A B eb eo a b) (hV : S V) (u0 u1 u2 u3 u4 u5 u6 : Value) : CrewO S (((((((w.setCell ⟨V, 0, none⟩ u0).setCell ⟨V, 1, none⟩ u1).setCell ⟨V, 2, none⟩ u2).setCell ⟨V, 3, none⟩ u3).setCell ⟨V, 4, none⟩ u4).setCell ⟨V, 5, none⟩ u5).setCell ⟨V, 6, none⟩ u6) m c A B eb eo a b :=
  (((((((h.setCell (p := ⟨V, 0, none⟩) hV u0).setCell (p := ⟨V, 1, none⟩) hV u1).setCell (p := ⟨V, 2, none⟩) hV u2).setCell (p := ⟨V, 3, none⟩) hV u3).setCell (p := ⟨V, 4, none⟩) hV u4).setCell (p := ⟨V, 5, none⟩) hV u5).setCell (p := ⟨V, 6, none⟩) hV u6)
theorem Ext.set7 {w W : World} {V : Nat} (h : Ext w W) (hV : w.heap.size ≤ V) (u0 u1 u2 u3 u4 u5 u6 : Value) : Ext w (((((((W.setCell ⟨V, 0, none⟩ u0).setCell ⟨V, 1, none⟩ u1).setCell ⟨V, 2, none⟩ u2).setCell ⟨V, 3, none⟩ u3).setCell ⟨V, 4, none⟩ u4).setCell ⟨V, 5, none⟩ u5).setCell ⟨V, 6, none⟩ u6) :=
  (((((((h.setCell (p := ⟨V, 0, none⟩) hV u0).setCell (p := ⟨V, 1, none⟩) hV u1).setCell (p := ⟨V, 2, none⟩) hV u2).setCell (p := ⟨V, 3, none⟩) hV u3).setCell (p := ⟨V, 4, none⟩) hV u4).setCell (p := ⟨V, 5, none⟩) hV u5).setCell (p := ⟨V, 6, none⟩) hV u6)
set_option maxHeartbeats 6400000 in
set_option maxRecDepth 100000 in
theorem calive_any (w : World) : Calls Try.prog 6 #[] w fun ed w' => ed = .returned (.bool true) ∧ Ext w w' := by
  go_enter Try.func6, Try.ntmps6
  go_wp2_with fail
  refine (cbegin_to 4 1 2 4 1 2 w (by decide) (by decide) (by decide) (by decide) (by decide) (by decide) rfl rfl rfl).mono ?_
  rintro ed w1 ⟨A1, B1, e1, a1, b1, rfl, hC, hE⟩
  have HI0 : Hid (CwI 1 4 2 (⟨[⟨0, 4, -1, 0⟩], [false, false, false, false], [[0], []], false, 0, 0⟩ : Cw) 0 []) := Lib.hid (CwI.begin 1 4 2 (by decide) (by decide))
  have he0 : stepP 1 2 (⟨[⟨0, 4, -1, 0⟩], [false, false, false, false], [[0], []], false, 0, 0⟩ : Cw) 0 1 = ((⟨[⟨0, 4, -1, 2⟩, ⟨0, 2, 0, 0⟩, ⟨2, 4, 0, 0⟩], [false, false, false, false], [[2, 1], []], false, 1, 0⟩ : Cw), ⟨0, 0, 0, true⟩) := by decide +kernel
  have HI1 : Hid (∃ d G, CwI 1 4 2 (⟨[⟨0, 4, -1, 2⟩, ⟨0, 2, 0, 0⟩, ⟨2, 4, 0, 0⟩], [false, false, false, false], [[2, 1], []], false, 1, 0⟩ : Cw) d G) := Lib.hid (by
    have h9 := HI0.out
    obtain ⟨d, G, h⟩ := h9.stepD (by decide) (by decide) 0 1
    rw [he0] at h
    exact ⟨d, G, h⟩)
  have HS0 := Lib.hid he0
  clear he0
  have he1 : stepP 1 2 (⟨[⟨0, 4, -1, 2⟩, ⟨0, 2, 0, 0⟩, ⟨2, 4, 0, 0⟩], [false, false, false, false], [[2, 1], []], false, 1, 0⟩ : Cw) 1 0 = ((⟨[⟨0, 4, -1, 2⟩, ⟨0, 2, 0, 0⟩, ⟨2, 4, 0, 2⟩, ⟨2, 3, 2, 0⟩, ⟨3, 4, 2, 0⟩], [false, false, false, false], [[1], [4, 3]], false, 2, 0⟩ : Cw), ⟨1, 0, 2, true⟩) := by decide +kernel
  have HI2 : Hid (∃ d G, CwI 1 4 2 (⟨[⟨0, 4, -1, 2⟩, ⟨0, 2, 0, 0⟩, ⟨2, 4, 0, 2⟩, ⟨2, 3, 2, 0⟩, ⟨3, 4, 2, 0⟩], [false, false, false, false], [[1], [4, 3]], false, 2, 0⟩ : Cw) d G) := Lib.hid (by
    obtain ⟨_, _, h9⟩ := HI1.out
    obtain ⟨d, G, h⟩ := h9.stepD (by decide) (by decide) 1 0
    rw [he1] at h
    exact ⟨d, G, h⟩)
  have HS1 := Lib.hid he1
  clear he1
  have he2 : stepP 1 2 (⟨[⟨0, 4, -1, 2⟩, ⟨0, 2, 0, 0⟩, ⟨2, 4, 0, 2⟩, ⟨2, 3, 2, 0⟩, ⟨3, 4, 2, 0⟩], [false, false, false, false], [[1], [4, 3]], false, 2, 0⟩ : Cw) 3 1 = ((⟨[⟨0, 4, -1, 2⟩, ⟨0, 2, 0, 0⟩, ⟨2, 4, 0, 1⟩, ⟨2, 3, 2, 0⟩, ⟨3, 4, 2, 0⟩], [false, false, true, false], [[1], [4]], false, 3, 0⟩ : Cw), ⟨1, 1, 3, false⟩) := by decide +kernel
  have HI3 : Hid (∃ d G, CwI 1 4 2 (⟨[⟨0, 4, -1, 2⟩, ⟨0, 2, 0, 0⟩, ⟨2, 4, 0, 1⟩, ⟨2, 3, 2, 0⟩, ⟨3, 4, 2, 0⟩], [false, false, true, false], [[1], [4]], false, 3, 0⟩ : Cw) d G) := Lib.hid (by
    obtain ⟨_, _, h9⟩ := HI2.out
    obtain ⟨d, G, h⟩ := h9.stepD (by decide) (by decide) 3 1
    rw [he2] at h
    exact ⟨d, G, h⟩)
  have HS2 := Lib.hid he2
  clear he2
  have hr : runP 1 2 (⟨[⟨0, 4, -1, 2⟩, ⟨0, 2, 0, 0⟩, ⟨2, 4, 0, 1⟩, ⟨2, 3, 2, 0⟩, ⟨3, 4, 2, 0⟩], [false, false, true, false], [[1], [4]], false, 3, 0⟩ : Cw) [(0, 0), (0, 0), (0, 0), (1, 0), (1, 1)] = ((⟨[⟨0, 4, -1, 0⟩, ⟨0, 2, 0, 0⟩, ⟨2, 4, 0, 0⟩, ⟨2, 3, 2, 0⟩, ⟨3, 4, 2, 0⟩, ⟨0, 1, 1, 0⟩, ⟨1, 2, 1, 0⟩], [true, true, true, true], [[], []], true, 8, 1⟩ : Cw), [⟨0, 0, 1, true⟩, ⟨0, 0, 5, false⟩, ⟨0, 0, 6, false⟩, ⟨1, 1, 4, false⟩, ⟨1, -1, -1, false⟩]) := by decide +kernel
  have HI4 : Hid (∃ d G, CwI 1 4 2 (⟨[⟨0, 4, -1, 0⟩, ⟨0, 2, 0, 0⟩, ⟨2, 4, 0, 0⟩, ⟨2, 3, 2, 0⟩, ⟨3, 4, 2, 0⟩, ⟨0, 1, 1, 0⟩, ⟨1, 2, 1, 0⟩], [true, true, true, true], [[], []], true, 8, 1⟩ : Cw) d G) := Lib.hid (by
    have h := Plain.CwI.run (g := 1) (n := 4) (m := 2) (by decide) (by decide) [(0, 0), (0, 0), (0, 0), (1, 0), (1, 1)] (⟨[⟨0, 4, -1, 2⟩, ⟨0, 2, 0, 0⟩, ⟨2, 4, 0, 1⟩, ⟨2, 3, 2, 0⟩, ⟨3, 4, 2, 0⟩], [false, false, true, false], [[1], [4]], false, 3, 0⟩ : Cw) HI3.out
    rw [hr] at h
    exact h)
  have HR := Lib.hid hr
  clear hr
  have HE1 := Lib.hid hE
  have HZ1 := hE.size
  have HC1 := Lib.hid (hC.ext ((Ext.refl w1).alloc (.cells #[.slice A1 1 a1, .int .i64 1, .slice B1 4 b1, .slice (some ⟨e1, 0, none⟩) 2 2, .bool false, .int .i64 0, .int .i64 0] 31)))
  have HX1 := Lib.hid (hE.alloc (.cells #[.slice A1 1 a1, .int .i64 1, .slice B1 4 b1, .slice (some ⟨e1, 0, none⟩) 2 2, .bool false, .int .i64 0, .int .i64 0] 31))
  clear hC hE
  go_wp2_with fail
  obtain ⟨d9, G9, hI9⟩ : ∃ d G, CwI 1 4 2 (⟨[⟨0, 4, -1, 0⟩], [false, false, false, false], [[0], []], false, 0, 0⟩ : Cw) d G := ⟨_, _, HI0.out⟩
  have HI9 := Lib.hid hI9
  clear hI9
  refine (cstep_to A1 B1 e1 0 a1 b1 2 1 4 2 1 4 3 4 1 false false 0 0 1 0 0 0 0 true (⟨[⟨0, 4, -1, 0⟩], [false, false, false, false], [[0], []], false, 0, 0⟩ : Cw) (⟨[⟨0, 4, -1, 2⟩, ⟨0, 2, 0, 0⟩, ⟨2, 4, 0, 0⟩], [false, false, false, false], [[2, 1], []], false, 1, 0⟩ : Cw) d9 G9 0 1 _ (HC1.out.at_ (by decide)) (by decide) HI9.out (by decide) (by decide) (by decide) (by decide) (by decide) (by decide) (by decide) (by decide) (by unfold in64; omega) (by unfold in64; omega) rfl rfl rfl rfl rfl rfl HS0.out rfl rfl rfl rfl rfl).mono ?_
  rintro ed w2 ⟨A2, B2, e2, a2, b2, rfl, hC, hE⟩
  have v2_0 : w2.cell? ⟨w1.heap.size, 0, none⟩ = some (.slice A1 1 a1) := Ext.cell hE (by go_simp)
  have v2_1 : w2.cell? ⟨w1.heap.size, 1, none⟩ = some (.int .i64 1) := Ext.cell hE (by go_simp)
  have v2_2 : w2.cell? ⟨w1.heap.size, 2, none⟩ = some (.slice B1 4 b1) := Ext.cell hE (by go_simp)
  have v2_3 : w2.cell? ⟨w1.heap.size, 3, none⟩ = some (.slice (some ⟨e1, 0, none⟩) 2 2) := Ext.cell hE (by go_simp)
  have v2_4 : w2.cell? ⟨w1.heap.size, 4, none⟩ = some (.bool false) := Ext.cell hE (by go_simp)
  have v2_5 : w2.cell? ⟨w1.heap.size, 5, none⟩ = some (.int .i64 0) := Ext.cell hE (by go_simp)
  have v2_6 : w2.cell? ⟨w1.heap.size, 6, none⟩ = some (.int .i64 0) := Ext.cell hE (by go_simp)
  have v2_f : ∀ o, w2.frozen? ⟨w1.heap.size, o, none⟩ = false := fun o => (Below.frozen hE (p := ⟨w1.heap.size, o, none⟩) (by first | omega | (simp; omega) | simp)).trans (by go_simp)
  have hz2 := hE.size
  simp at hz2
  have l2 : w1.heap.size < w2.heap.size := by omega
  have n1_2 : ¬ w1.heap.size = w2.heap.size := by omega
  have m1_2 : ¬ w2.heap.size = w1.heap.size := by omega
  have HC2 := Lib.hid (((hC.mono (T := fun x => x = w1.heap.size) (by decide) (fun x _ hx => by rw [hx]; simp; try omega)).set7 rfl (.slice A2 3 a2) (.int .i64 1) (.slice B2 4 b2) (.slice (some ⟨e2, 0, none⟩) 2 2) (.bool false) (.int .i64 1) (.int .i64 0)).ext ((Ext.refl _).alloc (.cells #[.int .i64 0, .int .i64 0, .int .i64 0, .bool true] 36)))
  have HX2 := Lib.hid (((HX1.out.trans hE).set7 HZ1 (.slice A2 3 a2) (.int .i64 1) (.slice B2 4 b2) (.slice (some ⟨e2, 0, none⟩) 2 2) (.bool false) (.int .i64 1) (.int .i64 0)).alloc (.cells #[.int .i64 0, .int .i64 0, .int .i64 0, .bool true] 36))
  clear hC hE HC1 HX1 HI9
  go_wp2_with fail
  obtain ⟨d9, G9, hI9⟩ := HI1.out
  have HI9 := Lib.hid hI9
  clear hI9
  refine (cstep_to A2 B2 e2 0 a2 b2 2 1 4 2 3 4 5 4 1 false false 1 0 2 0 1 0 2 true (⟨[⟨0, 4, -1, 2⟩, ⟨0, 2, 0, 0⟩, ⟨2, 4, 0, 0⟩], [false, false, false, false], [[2, 1], []], false, 1, 0⟩ : Cw) (⟨[⟨0, 4, -1, 2⟩, ⟨0, 2, 0, 0⟩, ⟨2, 4, 0, 2⟩, ⟨2, 3, 2, 0⟩, ⟨3, 4, 2, 0⟩], [false, false, false, false], [[1], [4, 3]], false, 2, 0⟩ : Cw) d9 G9 1 0 _ (HC2.out.at_ (by decide)) (by decide) HI9.out (by decide) (by decide) (by decide) (by decide) (by decide) (by decide) (by decide) (by decide) (by unfold in64; omega) (by unfold in64; omega) rfl rfl rfl rfl rfl rfl HS1.out rfl rfl rfl rfl rfl).mono ?_
  rintro ed w3 ⟨A3, B3, e3, a3, b3, rfl, hC, hE⟩
  have v3_0 : w3.cell? ⟨w1.heap.size, 0, none⟩ = some (.slice A2 3 a2) := Ext.cell hE (by go_simp)
  have v3_1 : w3.cell? ⟨w1.heap.size, 1, none⟩ = some (.int .i64 1) := Ext.cell hE (by go_simp)
  have v3_2 : w3.cell? ⟨w1.heap.size, 2, none⟩ = some (.slice B2 4 b2) := Ext.cell hE (by go_simp)
  have v3_3 : w3.cell? ⟨w1.heap.size, 3, none⟩ = some (.slice (some ⟨e2, 0, none⟩) 2 2) := Ext.cell hE (by go_simp)
  have v3_4 : w3.cell? ⟨w1.heap.size, 4, none⟩ = some (.bool false) := Ext.cell hE (by go_simp)
  have v3_5 : w3.cell? ⟨w1.heap.size, 5, none⟩ = some (.int .i64 1) := Ext.cell hE (by go_simp)
  have v3_6 : w3.cell? ⟨w1.heap.size, 6, none⟩ = some (.int .i64 0) := Ext.cell hE (by go_simp)
  have v3_f : ∀ o, w3.frozen? ⟨w1.heap.size, o, none⟩ = false := fun o => (Below.frozen hE (p := ⟨w1.heap.size, o, none⟩) (by first | omega | (simp; omega) | simp)).trans (by go_simp)
  have x03_0 : w3.cell? ⟨w2.heap.size, 0, none⟩ = some (.int .i64 0) := Ext.cell hE (by go_simp)
  have x03_1 : w3.cell? ⟨w2.heap.size, 1, none⟩ = some (.int .i64 0) := Ext.cell hE (by go_simp)
  have x03_2 : w3.cell? ⟨w2.heap.size, 2, none⟩ = some (.int .i64 0) := Ext.cell hE (by go_simp)
  have x03_3 : w3.cell? ⟨w2.heap.size, 3, none⟩ = some (.bool true) := Ext.cell hE (by go_simp)
  have x03_f : ∀ o, w3.frozen? ⟨w2.heap.size, o, none⟩ = false := fun o => (Below.frozen hE (p := ⟨w2.heap.size, o, none⟩) (by first | omega | (simp; omega) | simp)).trans (by go_simp)
  have hz3 := hE.size
  simp at hz3
  have l3 : w1.heap.size < w3.heap.size := by omega
  have l2_3 : w2.heap.size < w3.heap.size := by omega
  have n2_3 : ¬ w2.heap.size = w3.heap.size := by omega
  have m2_3 : ¬ w3.heap.size = w2.heap.size := by omega
  have n1_3 : ¬ w1.heap.size = w3.heap.size := by omega
  have m1_3 : ¬ w3.heap.size = w1.heap.size := by omega
  have HC3 := Lib.hid (((hC.mono (T := fun x => x = w1.heap.size) (by decide) (fun x _ hx => by rw [hx]; simp; try omega)).set7 rfl (.slice A3 5 a3) (.int .i64 1) (.slice B3 4 b3) (.slice (some ⟨e3, 0, none⟩) 2 2) (.bool false) (.int .i64 2) (.int .i64 0)).ext ((Ext.refl _).alloc (.cells #[.int .i64 1, .int .i64 0, .int .i64 2, .bool true] 36)))
  have HX3 := Lib.hid (((HX2.out.trans hE).set7 HZ1 (.slice A3 5 a3) (.int .i64 1) (.slice B3 4 b3) (.slice (some ⟨e3, 0, none⟩) 2 2) (.bool false) (.int .i64 2) (.int .i64 0)).alloc (.cells #[.int .i64 1, .int .i64 0, .int .i64 2, .bool true] 36))
  clear hC hE HC2 HX2 HI9 v2_0 v2_1 v2_2 v2_3 v2_4 v2_5 v2_6 v2_f
  go_wp2_with fail
  obtain ⟨d9, G9, hI9⟩ := HI2.out
  have HI9 := Lib.hid hI9
  clear hI9
  refine (cstep_to A3 B3 e3 0 a3 b3 2 1 4 2 5 4 5 4 1 false false 2 0 3 0 1 1 3 false (⟨[⟨0, 4, -1, 2⟩, ⟨0, 2, 0, 0⟩, ⟨2, 4, 0, 2⟩, ⟨2, 3, 2, 0⟩, ⟨3, 4, 2, 0⟩], [false, false, false, false], [[1], [4, 3]], false, 2, 0⟩ : Cw) (⟨[⟨0, 4, -1, 2⟩, ⟨0, 2, 0, 0⟩, ⟨2, 4, 0, 1⟩, ⟨2, 3, 2, 0⟩, ⟨3, 4, 2, 0⟩], [false, false, true, false], [[1], [4]], false, 3, 0⟩ : Cw) d9 G9 3 1 _ (HC3.out.at_ (by decide)) (by decide) HI9.out (by decide) (by decide) (by decide) (by decide) (by decide) (by decide) (by decide) (by decide) (by unfold in64; omega) (by unfold in64; omega) rfl rfl rfl rfl rfl rfl HS2.out rfl rfl rfl rfl rfl).mono ?_
  rintro ed w4 ⟨A4, B4, e4, a4, b4, rfl, hC, hE⟩
  have v4_0 : w4.cell? ⟨w1.heap.size, 0, none⟩ = some (.slice A3 5 a3) := Ext.cell hE (by go_simp)
  have v4_1 : w4.cell? ⟨w1.heap.size, 1, none⟩ = some (.int .i64 1) := Ext.cell hE (by go_simp)
  have v4_2 : w4.cell? ⟨w1.heap.size, 2, none⟩ = some (.slice B3 4 b3) := Ext.cell hE (by go_simp)
  have v4_3 : w4.cell? ⟨w1.heap.size, 3, none⟩ = some (.slice (some ⟨e3, 0, none⟩) 2 2) := Ext.cell hE (by go_simp)
  have v4_4 : w4.cell? ⟨w1.heap.size, 4, none⟩ = some (.bool false) := Ext.cell hE (by go_simp)
  have v4_5 : w4.cell? ⟨w1.heap.size, 5, none⟩ = some (.int .i64 2) := Ext.cell hE (by go_simp)
  have v4_6 : w4.cell? ⟨w1.heap.size, 6, none⟩ = some (.int .i64 0) := Ext.cell hE (by go_simp)
  have v4_f : ∀ o, w4.frozen? ⟨w1.heap.size, o, none⟩ = false := fun o => (Below.frozen hE (p := ⟨w1.heap.size, o, none⟩) (by first | omega | (simp; omega) | simp)).trans (by go_simp)
  have x04_0 : w4.cell? ⟨w2.heap.size, 0, none⟩ = some (.int .i64 0) := Ext.cell hE (by go_simp)
  have x04_1 : w4.cell? ⟨w2.heap.size, 1, none⟩ = some (.int .i64 0) := Ext.cell hE (by go_simp)
  have x04_2 : w4.cell? ⟨w2.heap.size, 2, none⟩ = some (.int .i64 0) := Ext.cell hE (by go_simp)
  have x04_3 : w4.cell? ⟨w2.heap.size, 3, none⟩ = some (.bool true) := Ext.cell hE (by go_simp)
  have x04_f : ∀ o, w4.frozen? ⟨w2.heap.size, o, none⟩ = false := fun o => (Below.frozen hE (p := ⟨w2.heap.size, o, none⟩) (by first | omega | (simp; omega) | simp)).trans (by go_simp)
  have x14_0 : w4.cell? ⟨w3.heap.size, 0, none⟩ = some (.int .i64 1) := Ext.cell hE (by go_simp)
  have x14_1 : w4.cell? ⟨w3.heap.size, 1, none⟩ = some (.int .i64 0) := Ext.cell hE (by go_simp)
  have x14_2 : w4.cell? ⟨w3.heap.size, 2, none⟩ = some (.int .i64 2) := Ext.cell hE (by go_simp)
  have x14_3 : w4.cell? ⟨w3.heap.size, 3, none⟩ = some (.bool true) := Ext.cell hE (by go_simp)
  have x14_f : ∀ o, w4.frozen? ⟨w3.heap.size, o, none⟩ = false := fun o => (Below.frozen hE (p := ⟨w3.heap.size, o, none⟩) (by first | omega | (simp; omega) | simp)).trans (by go_simp)
  have hz4 := hE.size
  simp at hz4
  have l4 : w1.heap.size < w4.heap.size := by omega
  have l2_4 : w2.heap.size < w4.heap.size := by omega
  have n2_4 : ¬ w2.heap.size = w4.heap.size := by omega
  have m2_4 : ¬ w4.heap.size = w2.heap.size := by omega
  have l3_4 : w3.heap.size < w4.heap.size := by omega
  have n3_4 : ¬ w3.heap.size = w4.heap.size := by omega
  have m3_4 : ¬ w4.heap.size = w3.heap.size := by omega
  have n1_4 : ¬ w1.heap.size = w4.heap.size := by omega
  have m1_4 : ¬ w4.heap.size = w1.heap.size := by omega
  have HC4 := Lib.hid (((hC.mono (T := fun x => x = w1.heap.size) (by decide) (fun x _ hx => by rw [hx]; simp; try omega)).set7 rfl (.slice A4 5 a4) (.int .i64 1) (.slice B4 4 b4) (.slice (some ⟨e4, 0, none⟩) 2 2) (.bool false) (.int .i64 3) (.int .i64 0)).ext ((Ext.refl _).alloc (.cells #[.int .i64 1, .int .i64 1, .int .i64 3, .bool false] 36)))
  have HX4 := Lib.hid (((HX3.out.trans hE).set7 HZ1 (.slice A4 5 a4) (.int .i64 1) (.slice B4 4 b4) (.slice (some ⟨e4, 0, none⟩) 2 2) (.bool false) (.int .i64 3) (.int .i64 0)).alloc (.cells #[.int .i64 1, .int .i64 1, .int .i64 3, .bool false] 36))
  clear hC hE HC3 HX3 HI9 v3_0 v3_1 v3_2 v3_3 v3_4 v3_5 v3_6 v3_f x03_0 x03_1 x03_2 x03_3 x03_f
  go_wp2_with fail
  refine (cbegin_no 4 1 9 _ (by decide)).mono ?_
  rintro ed w5 ⟨_, rfl, rfl, hE⟩
  have v5_0 : w5.cell? ⟨w1.heap.size, 0, none⟩ = some (.slice A4 5 a4) := Ext.cell hE (by go_simp)
  have v5_1 : w5.cell? ⟨w1.heap.size, 1, none⟩ = some (.int .i64 1) := Ext.cell hE (by go_simp)
  have v5_2 : w5.cell? ⟨w1.heap.size, 2, none⟩ = some (.slice B4 4 b4) := Ext.cell hE (by go_simp)
  have v5_3 : w5.cell? ⟨w1.heap.size, 3, none⟩ = some (.slice (some ⟨e4, 0, none⟩) 2 2) := Ext.cell hE (by go_simp)
  have v5_4 : w5.cell? ⟨w1.heap.size, 4, none⟩ = some (.bool false) := Ext.cell hE (by go_simp)
  have v5_5 : w5.cell? ⟨w1.heap.size, 5, none⟩ = some (.int .i64 3) := Ext.cell hE (by go_simp)
  have v5_6 : w5.cell? ⟨w1.heap.size, 6, none⟩ = some (.int .i64 0) := Ext.cell hE (by go_simp)
  have v5_f : ∀ o, w5.frozen? ⟨w1.heap.size, o, none⟩ = false := fun o => (Below.frozen hE (p := ⟨w1.heap.size, o, none⟩) (by first | omega | (simp; omega) | simp)).trans (by go_simp)
  have x05_0 : w5.cell? ⟨w2.heap.size, 0, none⟩ = some (.int .i64 0) := Ext.cell hE (by go_simp)
  have x05_1 : w5.cell? ⟨w2.heap.size, 1, none⟩ = some (.int .i64 0) := Ext.cell hE (by go_simp)
  have x05_2 : w5.cell? ⟨w2.heap.size, 2, none⟩ = some (.int .i64 0) := Ext.cell hE (by go_simp)
  have x05_3 : w5.cell? ⟨w2.heap.size, 3, none⟩ = some (.bool true) := Ext.cell hE (by go_simp)
  have x05_f : ∀ o, w5.frozen? ⟨w2.heap.size, o, none⟩ = false := fun o => (Below.frozen hE (p := ⟨w2.heap.size, o, none⟩) (by first | omega | (simp; omega) | simp)).trans (by go_simp)
  have x15_0 : w5.cell? ⟨w3.heap.size, 0, none⟩ = some (.int .i64 1) := Ext.cell hE (by go_simp)
  have x15_1 : w5.cell? ⟨w3.heap.size, 1, none⟩ = some (.int .i64 0) := Ext.cell hE (by go_simp)
  have x15_2 : w5.cell? ⟨w3.heap.size, 2, none⟩ = some (.int .i64 2) := Ext.cell hE (by go_simp)
  have x15_3 : w5.cell? ⟨w3.heap.size, 3, none⟩ = some (.bool true) := Ext.cell hE (by go_simp)
  have x15_f : ∀ o, w5.frozen? ⟨w3.heap.size, o, none⟩ = false := fun o => (Below.frozen hE (p := ⟨w3.heap.size, o, none⟩) (by first | omega | (simp; omega) | simp)).trans (by go_simp)
  have x25_0 : w5.cell? ⟨w4.heap.size, 0, none⟩ = some (.int .i64 1) := Ext.cell hE (by go_simp)
  have x25_1 : w5.cell? ⟨w4.heap.size, 1, none⟩ = some (.int .i64 1) := Ext.cell hE (by go_simp)
  have x25_2 : w5.cell? ⟨w4.heap.size, 2, none⟩ = some (.int .i64 3) := Ext.cell hE (by go_simp)
  have x25_3 : w5.cell? ⟨w4.heap.size, 3, none⟩ = some (.bool false) := Ext.cell hE (by go_simp)
  have x25_f : ∀ o, w5.frozen? ⟨w4.heap.size, o, none⟩ = false := fun o => (Below.frozen hE (p := ⟨w4.heap.size, o, none⟩) (by first | omega | (simp; omega) | simp)).trans (by go_simp)
  have hz5 := hE.size
  simp at hz5
  have l5 : w1.heap.size < w5.heap.size := by omega
  have l2_5 : w2.heap.size < w5.heap.size := by omega
  have l3_5 : w3.heap.size < w5.heap.size := by omega
  have l4_5 : w4.heap.size < w5.heap.size := by omega
  have HC5 := Lib.hid (((HC4.out.ext hE).ext ((Ext.refl _).alloc (.cells #[.slice none 0 0, .int .i64 0, .slice none 0 0, .slice none 0 0, .bool false, .int .i64 0, .int .i64 0] 31))).ext ((Ext.refl _).alloc (.cells #[.int .i64 0, .int .i64 0, .int .i64 0, .int .i64 0, .int .i64 0, .int .i64 0, .int .i64 1, .int .i64 0, .int .i64 1, .int .i64 1] 39)))
  have HX5 := Lib.hid (((HX4.out.trans hE).alloc (.cells #[.slice none 0 0, .int .i64 0, .slice none 0 0, .slice none 0 0, .bool false, .int .i64 0, .int .i64 0] 31)).alloc (.cells #[.int .i64 0, .int .i64 0, .int .i64 0, .int .i64 0, .int .i64 0, .int .i64 0, .int .i64 1, .int .i64 0, .int .i64 1, .int .i64 1] 39))
  have HP5 : Hid (Rd kPk ((w5.alloc (.cells #[.slice none 0 0, .int .i64 0, .slice none 0 0, .slice none 0 0, .bool false, .int .i64 0, .int .i64 0] 31)).alloc (.cells #[.int .i64 0, .int .i64 0, .int .i64 0, .int .i64 0, .int .i64 0, .int .i64 0, .int .i64 1, .int .i64 0, .int .i64 1, .int .i64 1] 39)) (.slice (some ⟨w5.heap.size + 1, 0, none⟩) 5 5) [(0, 0), (0, 0), (0, 0), (1, 0), (1, 1)]) := Lib.hid (Ow.rd (K := kPk) (B := 0) (Ow.lit (K := kPk) (p := w5.heap.size + 1) (n := 5) _ [(0, 0), (0, 0), (0, 0), (1, 0), (1, 1)] #[.int .i64 0, .int .i64 0, .int .i64 0, .int .i64 0, .int .i64 0, .int .i64 0, .int .i64 1, .int .i64 0, .int .i64 1, .int .i64 1] rfl rfl (by simp) (Nat.zero_le _) (by simp [maxLen]) (by intro x hx; simp at hx; rcases hx with rfl | rfl | rfl <;> exact ⟨by unfold in64; decide, by unfold in64; decide⟩)))
  clear hE HC4 HX4 v4_0 v4_1 v4_2 v4_3 v4_4 v4_5 v4_6 v4_f x04_0 x04_1 x04_2 x04_3 x04_f x14_0 x14_1 x14_2 x14_3 x14_f
  go_wp2_with fail
  obtain ⟨d9, G9, hI9⟩ := HI3.out
  have HI9 := Lib.hid hI9
  clear hI9
  refine (crun_to A4 B4 _ e4 0 a4 b4 2 1 4 2 5 5 5 4 7 4 1 false true 3 0 8 1 (⟨[⟨0, 4, -1, 2⟩, ⟨0, 2, 0, 0⟩, ⟨2, 4, 0, 1⟩, ⟨2, 3, 2, 0⟩, ⟨3, 4, 2, 0⟩], [false, false, true, false], [[1], [4]], false, 3, 0⟩ : Cw) (⟨[⟨0, 4, -1, 0⟩, ⟨0, 2, 0, 0⟩, ⟨2, 4, 0, 0⟩, ⟨2, 3, 2, 0⟩, ⟨3, 4, 2, 0⟩, ⟨0, 1, 1, 0⟩, ⟨1, 2, 1, 0⟩], [true, true, true, true], [[], []], true, 8, 1⟩ : Cw) [⟨0, 0, 1, true⟩, ⟨0, 0, 5, false⟩, ⟨0, 0, 6, false⟩, ⟨1, 1, 4, false⟩, ⟨1, -1, -1, false⟩] d9 G9 [(0, 0), (0, 0), (0, 0), (1, 0), (1, 1)] _ (HC5.out.at_ (by decide)) (by decide) HI9.out HP5.out rfl (by decide) (by decide) (by decide) (by decide) (by decide) (by decide) (by decide) (by decide) rfl rfl rfl rfl rfl rfl HR.out rfl rfl rfl rfl rfl).mono ?_
  rintro ed w6 ⟨A6, B6, L6, e6, a6, b6, l6, rfl, hC, hL, hE⟩
  have x06_0 : w6.cell? ⟨w2.heap.size, 0, none⟩ = some (.int .i64 0) := Ext.cell hE (by go_simp)
  have x06_1 : w6.cell? ⟨w2.heap.size, 1, none⟩ = some (.int .i64 0) := Ext.cell hE (by go_simp)
  have x06_2 : w6.cell? ⟨w2.heap.size, 2, none⟩ = some (.int .i64 0) := Ext.cell hE (by go_simp)
  have x06_3 : w6.cell? ⟨w2.heap.size, 3, none⟩ = some (.bool true) := Ext.cell hE (by go_simp)
  have x06_f : ∀ o, w6.frozen? ⟨w2.heap.size, o, none⟩ = false := fun o => (Below.frozen hE (p := ⟨w2.heap.size, o, none⟩) (by first | omega | (simp; omega) | simp)).trans (by go_simp)
  have x16_0 : w6.cell? ⟨w3.heap.size, 0, none⟩ = some (.int .i64 1) := Ext.cell hE (by go_simp)
  have x16_1 : w6.cell? ⟨w3.heap.size, 1, none⟩ = some (.int .i64 0) := Ext.cell hE (by go_simp)
  have x16_2 : w6.cell? ⟨w3.heap.size, 2, none⟩ = some (.int .i64 2) := Ext.cell hE (by go_simp)
  have x16_3 : w6.cell? ⟨w3.heap.size, 3, none⟩ = some (.bool true) := Ext.cell hE (by go_simp)
  have x16_f : ∀ o, w6.frozen? ⟨w3.heap.size, o, none⟩ = false := fun o => (Below.frozen hE (p := ⟨w3.heap.size, o, none⟩) (by first | omega | (simp; omega) | simp)).trans (by go_simp)
  have x26_0 : w6.cell? ⟨w4.heap.size, 0, none⟩ = some (.int .i64 1) := Ext.cell hE (by go_simp)
  have x26_1 : w6.cell? ⟨w4.heap.size, 1, none⟩ = some (.int .i64 1) := Ext.cell hE (by go_simp)
  have x26_2 : w6.cell? ⟨w4.heap.size, 2, none⟩ = some (.int .i64 3) := Ext.cell hE (by go_simp)
  have x26_3 : w6.cell? ⟨w4.heap.size, 3, none⟩ = some (.bool false) := Ext.cell hE (by go_simp)
  have x26_f : ∀ o, w6.frozen? ⟨w4.heap.size, o, none⟩ = false := fun o => (Below.frozen hE (p := ⟨w4.heap.size, o, none⟩) (by first | omega | (simp; omega) | simp)).trans (by go_simp)
  have hz6 := hE.size
  simp at hz6
  have l2_6 : w2.heap.size < w6.heap.size := by omega
  have l3_6 : w3.heap.size < w6.heap.size := by omega
  have l4_6 : w4.heap.size < w6.heap.size := by omega
  have HC6 := Lib.hid (hC.ext ((Ext.refl _).alloc (.cells #[.slice A6 7 a6, .int .i64 1, .slice B6 4 b6, .slice (some ⟨e6, 0, none⟩) 2 2, .bool true, .int .i64 8, .int .i64 1] 31)))
  have HX6 := Lib.hid ((HX5.out.trans hE).alloc (.cells #[.slice A6 7 a6, .int .i64 1, .slice B6 4 b6, .slice (some ⟨e6, 0, none⟩) 2 2, .bool true, .int .i64 8, .int .i64 1] 31))
  clear hC hL hE HC5 HX5 HP5 HI9 v5_0 v5_1 v5_2 v5_3 v5_4 v5_5 v5_6 v5_f x05_0 x05_f x15_0 x15_f x25_0 x25_f x05_1 x05_2 x05_3 x15_1 x15_2 x15_3 x25_1 x25_2 x25_3
  go_wp2_with fail
  obtain ⟨hs6, hd6⟩ := HC6.out.deq
  refine (cheld_any A6 B6 e6 0 a6 b6 2 1 2 (⟨[⟨0, 4, -1, 0⟩, ⟨0, 2, 0, 0⟩, ⟨2, 4, 0, 0⟩, ⟨2, 3, 2, 0⟩, ⟨3, 4, 2, 0⟩, ⟨0, 1, 1, 0⟩, ⟨1, 2, 1, 0⟩], [true, true, true, true], [[], []], true, 8, 1⟩ : Cw) hs6 _ hd6 (by decide) (by decide)).mono ?_
  rintro ed w7 ⟨rfl, hE⟩
  have y7_0 : w7.cell? ⟨w6.heap.size, 0, none⟩ = some (.slice A6 7 a6) := Ext.cell hE (by go_simp)
  have y7_1 : w7.cell? ⟨w6.heap.size, 1, none⟩ = some (.int .i64 1) := Ext.cell hE (by go_simp)
  have y7_2 : w7.cell? ⟨w6.heap.size, 2, none⟩ = some (.slice B6 4 b6) := Ext.cell hE (by go_simp)
  have y7_3 : w7.cell? ⟨w6.heap.size, 3, none⟩ = some (.slice (some ⟨e6, 0, none⟩) 2 2) := Ext.cell hE (by go_simp)
  have y7_4 : w7.cell? ⟨w6.heap.size, 4, none⟩ = some (.bool true) := Ext.cell hE (by go_simp)
  have y7_5 : w7.cell? ⟨w6.heap.size, 5, none⟩ = some (.int .i64 8) := Ext.cell hE (by go_simp)
  have y7_6 : w7.cell? ⟨w6.heap.size, 6, none⟩ = some (.int .i64 1) := Ext.cell hE (by go_simp)
  have y7_f : ∀ o, w7.frozen? ⟨w6.heap.size, o, none⟩ = false := fun o => (Below.frozen hE (p := ⟨w6.heap.size, o, none⟩) (by first | omega | (simp; omega) | simp)).trans (by go_simp)
  have HC7 := Lib.hid (HC6.out.ext hE)
  have HX7 := Lib.hid (HX6.out.trans hE)
  have hz7 := hE.size
  simp at hz7
  clear hE hd6 HC6 HX6
  go_wp2_with fail
  obtain ⟨d9, G9, hI9⟩ := HI4.out
  refine (cright_yes A6 B6 e6 0 a6 b6 2 1 4 2 (⟨[⟨0, 4, -1, 0⟩, ⟨0, 2, 0, 0⟩, ⟨2, 4, 0, 0⟩, ⟨2, 3, 2, 0⟩, ⟨3, 4, 2, 0⟩, ⟨0, 1, 1, 0⟩, ⟨1, 2, 1, 0⟩], [true, true, true, true], [[], []], true, 8, 1⟩ : Cw) d9 G9 _ HC7.out hI9 (by decide) (by decide) (by decide) (by decide) (by decide) (by decide) (by decide) (by decide)).mono ?_
  rintro ed w8 ⟨rfl, hE⟩
  have y8_0 : w8.cell? ⟨w6.heap.size, 0, none⟩ = some (.slice A6 7 a6) := Ext.cell hE (by go_simp)
  have y8_1 : w8.cell? ⟨w6.heap.size, 1, none⟩ = some (.int .i64 1) := Ext.cell hE (by go_simp)
  have y8_2 : w8.cell? ⟨w6.heap.size, 2, none⟩ = some (.slice B6 4 b6) := Ext.cell hE (by go_simp)
  have y8_3 : w8.cell? ⟨w6.heap.size, 3, none⟩ = some (.slice (some ⟨e6, 0, none⟩) 2 2) := Ext.cell hE (by go_simp)
  have y8_4 : w8.cell? ⟨w6.heap.size, 4, none⟩ = some (.bool true) := Ext.cell hE (by go_simp)
  have y8_5 : w8.cell? ⟨w6.heap.size, 5, none⟩ = some (.int .i64 8) := Ext.cell hE (by go_simp)
  have y8_6 : w8.cell? ⟨w6.heap.size, 6, none⟩ = some (.int .i64 1) := Ext.cell hE (by go_simp)
  have y8_f : ∀ o, w8.frozen? ⟨w6.heap.size, o, none⟩ = false := fun o => (Below.frozen hE (p := ⟨w6.heap.size, o, none⟩) (by first | omega | (simp; omega) | simp)).trans (by go_simp)
  have HC8 := Lib.hid (HC7.out.ext hE)
  have HX8 := Lib.hid (HX7.out.trans hE)
  clear hE hI9 HC7 HX7
  go_wp2_with fail
  refine (csame_self A6 B6 e6 0 a6 b6 2 1 2 (⟨[⟨0, 4, -1, 0⟩, ⟨0, 2, 0, 0⟩, ⟨2, 4, 0, 0⟩, ⟨2, 3, 2, 0⟩, ⟨3, 4, 2, 0⟩, ⟨0, 1, 1, 0⟩, ⟨1, 2, 1, 0⟩], [true, true, true, true], [[], []], true, 8, 1⟩ : Cw) _ HC8.out (by decide)).mono ?_
  rintro ed w9 ⟨rfl, hE⟩
  have HX9 := Lib.hid (HX8.out.trans hE)
  clear hE
  go_wp2_with fail
  go_ret
  exact ⟨rfl, HX9.out⟩
end Go.Proofs.Ytebbpkdhdilkcaa
