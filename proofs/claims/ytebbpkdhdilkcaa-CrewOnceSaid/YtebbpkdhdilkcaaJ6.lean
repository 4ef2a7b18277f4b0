/- Joined by wip/merge.py: CrSmall, CrGoer, DPlain, DBase, CrLib, Deque, CrDeq. -/
import Derived.Test.YtebbpkdhdilkcaaJ5
import Derived.IntWalk
import Derived.Lib.AppendZeros
import Derived.Deep.QuietTactic
import Derived.BigQuiet
import Derived.Deep.RegionHeld3
/- The program's small words of a crew: cut, manned, counted, great, open. -/
namespace Go.Proofs.Ytebbpkdhdilkcaa
open Go.BigFrame
open Go.RowKit Go.Proofs.Ytebbpkdhdilkcaa.Plain

set_option maxRecDepth 100000 in
theorem ccut_any (p : Int) (m : Nat) (w : World) (hp : in64 p) (m1 : 1 ≤ m) (m2 : m ≤ 8) :
    Calls Try.prog 29 #[.int .i64 p, .int .i64 m] w fun e w' => e = .returned (.int .i64 (cutN m p)) ∧ w = w' := by
  obtain ⟨h1, h2⟩ := tmod_cut m p m1
  have hm0 : (1 : Int) ≤ m := by omega
  have hm8 : (m : Int) ≤ 8 := by omega
  have h3 := Int.tmod_lt_of_pos p (by omega : (0 : Int) < m)
  have h4 := cutN_lt m p m1
  obtain ⟨hp1, hp2⟩ := hp
  obtain ⟨r, hr⟩ : ∃ r, p.tmod m = r := ⟨_, rfl⟩
  rw [hr] at h1 h2 h3
  have hr0 : -8 ≤ r := by
    rcases Int.lt_or_le r 0 with h | h
    · have := h2 h; omega
    · omega
  have HR := Lib.hid hr
  clear hr
  rcases Int.lt_or_le r 0 with h | h
  · have HQ : Hid (r + m = (cutN m p : Int)) := Lib.hid (h2 h)
    clear h1 h2
    go_enter Try.func29, Try.ntmps29
    go_wp2
    all_goals (try rw [HR.out] at *)
    all_goals first | (exfalso; omega) | skip
    all_goals go_ret
    all_goals exact ⟨ret_int (by first | exact HQ.out | (rw [← HQ.out]; exact IntWalk.i64_in _ (by omega)) | (rw [HR.out]; exact HQ.out) | (rw [IntWalk.wrap64_in _ (by omega)]; exact HQ.out) | (have := HQ.out; have := HR.out; omega)), rfl⟩
  · have HQ : Hid (r = (cutN m p : Int)) := Lib.hid (h1 h)
    clear h1 h2
    go_enter Try.func29, Try.ntmps29
    go_wp2
    all_goals (try rw [HR.out] at *)
    all_goals first | (exfalso; omega) | skip
    all_goals go_ret
    all_goals exact ⟨ret_int (by first | exact HQ.out | (rw [HR.out]; exact HQ.out) | (have := HQ.out; have := HR.out; omega)), rfl⟩
set_option maxRecDepth 100000 in
theorem manned_yes (m : Nat) (w : World) (m1 : 1 ≤ m) (m2 : m ≤ 8) :
    Calls Try.prog 15 #[.int .i64 m] w fun e w' => e = .returned (.bool true) ∧ w = w' := by
  have hm0 : (1 : Int) ≤ m := by omega
  have hm8 : (m : Int) ≤ 8 := by omega
  go_enter Try.func15, Try.ntmps15
  go_wp2
  go_ret
  exact ⟨rfl, rfl⟩
set_option maxRecDepth 100000 in
theorem counted_yes (m : Int) (w : World) (m1 : 0 ≤ m) (m2 : m ≤ 100000) :
    Calls Try.prog 20 #[.int .i64 m] w fun e w' => e = .returned (.bool true) ∧ w = w' := by
  go_enter Try.func20, Try.ntmps20
  go_wp2
  go_ret
  exact ⟨rfl, rfl⟩
set_option maxRecDepth 100000 in
theorem cgreat_any (A B : Option Addr) (m n a b : Nat) (lo hi up wt g : Int) (w : World) (hd : in64 (hi - lo)) (hg : in64 g) :
    Calls Try.prog 40 #[.agg #[.slice A m a, .int .i64 g, .slice B n b], .agg #[.int .i64 lo, .int .i64 hi, .int .i64 up, .int .i64 wt]] w fun e w' => e = .returned (.bool (decide (g < hi - lo))) ∧ Ext w w' := by
  obtain ⟨h1, h2⟩ := hd
  go_enter Try.func40, Try.ntmps40
  go_wp2
  go_ret
  exact ⟨ret_bool (by first | rfl | simp), ((Ext.refl w).alloc _).alloc _⟩
set_option maxHeartbeats 800000 in
set_option maxRecDepth 100000 in
theorem copen_yes (A B : Option Addr) (m a b : Nat) (lo hi up : Int) (g : Nat) (dn : List Bool) (w : World) (h : Rd kBool w (.slice B dn.length b) dn) (hlo : 0 ≤ lo) (hlh : lo < hi) (hhn : hi ≤ dn.length) (hg1 : 1 ≤ g) (hg : g ≤ 100) (hdn : dn.length ≤ 1000) (hd : dn.getD lo.toNat false = false) :
    Calls Try.prog 35 #[.agg #[.slice A m a, .int .i64 g, .slice B dn.length b], .agg #[.int .i64 lo, .int .i64 hi, .int .i64 up, .int .i64 0]] w fun e w' => e = .returned (.bool true) ∧ Ext w w' := by
  have H := Lib.hid h
  have hl1 : 0 < dn.length := by omega
  obtain ⟨bd, od, rfl, hcd⟩ := Rd.bools H.out hl1
  obtain ⟨l, rfl⟩ : ∃ l : Nat, lo = l := ⟨lo.toNat, by omega⟩
  rw [Int.toNat_natCast] at hd
  have z := hcd l (by omega)
  rw [hd] at z
  have HG : Hid (in64 (g : Int)) := Lib.hid (by unfold in64; omega)
  have HD : Hid (in64 (hi - l)) := Lib.hid (by unfold in64; omega)
  have hl2 : (l : Int) < dn.length := by omega
  have lbd : bd < w.heap.size := World.block_lt_of_cell? _ _ z
  clear h hcd hd
  go_enter Try.func35, Try.ntmps35
  cases hgr : decide ((g : Int) < hi - l) with
  | true =>
    go_wp2_with ((go_at_call 40; refine (cgreat_any _ _ _ _ _ _ _ _ _ _ _ _ HD.out HG.out).mono ?_; rw [hgr]; rintro e w1 ⟨rfl, hE⟩))
    go_ret
    exact ⟨rfl, (((Ext.refl w).alloc _).alloc _).trans hE⟩
  | false =>
    go_wp2_with ((go_at_call 40; refine (cgreat_any _ _ _ _ _ _ _ _ _ _ _ _ HD.out HG.out).mono ?_; rw [hgr]; rintro e w1 ⟨rfl, hE⟩; have z1 := hE.cell (a := ⟨bd, od + l, none⟩) (v := .bool false) (by go_simp); have x2 := hE.cell (a := ⟨w.heap.size, 2, none⟩) (v := .slice (some ⟨bd, od, none⟩) dn.length b) (by go_simp); have x3 := hE.cell (a := ⟨w.heap.size + 1, 0, none⟩) (v := .int .i64 l) (by go_simp)))
    go_ret
    exact ⟨rfl, (((Ext.refl w).alloc _).alloc _).trans hE⟩
end Go.Proofs.Ytebbpkdhdilkcaa

/- The methods of one that goes steps: source, idle, part, do. -/
namespace Go.Proofs.Ytebbpkdhdilkcaa
open Go.BigFrame
open Go.RowKit Go.Proofs.Ytebbpkdhdilkcaa.Plain

def srcI (D : List (List Nat)) (P Q : Nat) : Int := match srcN D P Q with
  | some F => F
  | none => -1
set_option maxHeartbeats 800000 in
set_option maxRecDepth 100000 in
theorem source_any {S : Nat → Prop} {V e0 g m : Nat} {c : Cw} {ev : Ev} {A B : Option Addr} {a b e : Nat} {hs : Nat → Hd} (P Q : Nat) (w : World) (h : GoAt S w V e0 g m c ev A B a b e hs) (hP : P < m) (hQ : Q < m) (m2 : m ≤ 8) :
    Calls Try.prog 30 #[.pointer (some ⟨V, 0, none⟩), .int .i64 P, .int .i64 Q] w fun ed w' => ed = .returned (.int .i64 (srcI c.D P Q)) ∧ w = w' := by
  have i0 : ∀ w, (Instr.index 39 (.agg #[.int .i64 (P : Int), .int .i64 (Q : Int)]) (.int .i64 0)).run Try.prog w = .ok (.int .i64 (P : Int)) w := fun _ => by kernel_rfl
  have i1 : ∀ w, (Instr.index 39 (.agg #[.int .i64 (P : Int), .int .i64 (Q : Int)]) (.int .i64 1)).run Try.prog w = .ok (.int .i64 (Q : Int)) w := fun _ => by kernel_rfl
  have v3 := h.v3
  have hm0 : (P : Int) < m := by omega
  have hm1 : (Q : Int) < m := by omega
  have hP0 : (0 : Int) ≤ P := by omega
  have hQ0 : (0 : Int) ≤ Q := by omega
  have hm8 : (m : Int) ≤ 8 := by omega
  have zP := h.hd P hP
  have zQ := h.hd Q hQ
  have nP := h.hn P hP
  have nQ := h.hn Q hQ
  unfold Hd.v at zP zQ
  obtain ⟨u1, hu1⟩ : ∃ x, (hs P).n = x := ⟨_, rfl⟩
  obtain ⟨u2, hu2⟩ : ∃ x, (hs Q).n = x := ⟨_, rfl⟩
  rw [hu1] at zP nP
  rw [hu2] at zQ nQ
  obtain ⟨r, hr⟩ : ∃ r, srcI c.D P Q = r := ⟨_, rfl⟩
  rw [hr]
  unfold srcI srcN at hr
  by_cases h1 : u1 = 0
  · have e1 : c.D.getD P [] = [] := List.eq_nil_of_length_eq_zero (by omega)
    have d1 : ¬ (0 : Int) < u1 := by omega
    by_cases h2 : u2 = 0
    · have e2 : c.D.getD Q [] = [] := List.eq_nil_of_length_eq_zero (by omega)
      have d2 : ¬ (0 : Int) < u2 := by omega
      rw [if_neg (by rw [e1]; simp), if_neg (by rw [e2]; simp)] at hr
      have HR : Hid (-1 = r) := Lib.hid hr
      subst h1 h2
      clear hr e1 e2 nP nQ h hu1 hu2
      go_enter Try.func30, Try.ntmps30
      go_wp2_with fail
      go_loop [12] (fun i => i = .int .i64 0 ∨ i = .int .i64 1 ∨ i = .int .i64 2) (fun i => 2 - (intOf i).toNat)
      case atStart => exact .inl rfl
      case round =>
        rcases hrel with rfl | rfl | rfl
        · go_wp2_with fail
          go_round
          case rel => exact .inr (.inl rfl)
          case measure => simp [intOf]
        · go_wp2_with fail
          go_round
          case rel => exact .inr (.inr rfl)
          case measure => simp [intOf]
        · go_wp2_with fail
          go_ret
          exact ⟨ret_int HR.out, rfl⟩
    · have e2 : c.D.getD Q [] ≠ [] := fun hh => h2 (by rw [nQ, hh]; rfl)
      have d2 : (0 : Int) < u2 := by omega
      rw [if_neg (by rw [e1]; simp), if_pos e2] at hr
      have HR : Hid ((Q : Int) = r) := Lib.hid hr
      subst h1
      clear hr e1 e2 nP nQ h hu1 hu2
      go_enter Try.func30, Try.ntmps30
      go_wp2_with fail
      go_loop [12] (fun i => i = .int .i64 0 ∨ i = .int .i64 1) (fun i => 2 - (intOf i).toNat)
      case atStart => exact .inl rfl
      case round =>
        rcases hrel with rfl | rfl
        · go_wp2_with fail
          go_round
          case rel => exact .inr rfl
          case measure => simp [intOf]
        · go_wp2_with fail
          go_ret
          exact ⟨ret_int HR.out, rfl⟩
  · have e1 : c.D.getD P [] ≠ [] := fun hh => h1 (by rw [nP, hh]; rfl)
    have d1 : (0 : Int) < u1 := by omega
    rw [if_pos e1] at hr
    have HR : Hid ((P : Int) = r) := Lib.hid hr
    clear hr e1 nP nQ h hu1 hu2
    go_enter Try.func30, Try.ntmps30
    go_wp2_with fail
    go_loop [12] (fun i => i = .int .i64 0) (fun i => 2 - (intOf i).toNat)
    case atStart => exact rfl
    case round =>
      obtain rfl := hrel
      go_wp2_with fail
      go_ret
      exact ⟨ret_int HR.out, rfl⟩

set_option maxHeartbeats 800000 in
set_option maxRecDepth 100000 in
theorem idle_any {S : Nat → Prop} {V e0 g m : Nat} {c : Cw} {ev : Ev} {A B : Option Addr} {a b e : Nat} {hs : Nat → Hd} (P : Nat) (w : World) (h : GoAt S w V e0 g m c ev A B a b e hs) (hst : c.st < 100000) (hid : c.id < 100000) :
    Calls Try.prog 31 #[.pointer (some ⟨V, 0, none⟩), .int .i64 P] w fun ed w' => ed = .returned (.tuple #[]) ∧ GoAt S w' V e0 g m ⟨c.ts, c.dn, c.D, c.over, c.st + 1, c.id + 1⟩ ⟨P, -1, -1, false⟩ A B a b e hs ∧ GrewG V e0 w w' := by
  have H := Lib.hid h
  obtain ⟨v5, v6, v7, v8, v9, v10, fV⟩ := And.intro h.v5 (And.intro h.v6 (And.intro h.v7 (And.intro h.v8 (And.intro h.v9 (And.intro h.v10 h.fV)))))
  have s1 : (c.st : Int) < 100000 := by omega
  have s2 : (0 : Int) ≤ c.st := by omega
  have s3 : (c.id : Int) < 100000 := by omega
  have s4 : (0 : Int) ≤ c.id := by omega
  have lV : V < w.heap.size := h.sl V h.sV
  clear h
  go_enter Try.func31, Try.ntmps31
  go_wp2_with fail
  go_end0
  refine ⟨rfl, ((H.out.setSt (c.st + 1)).setId (c.id + 1)).setEv ⟨P, -1, -1, false⟩, ?_⟩
  exact (((((((Grew.refl (fun x => x = V ∨ x = e0) w).setCell (p := ⟨V, 5, none⟩) (.inl rfl) _).setCell (p := ⟨V, 6, none⟩) (.inl rfl) _).setCell (p := ⟨V, 7, none⟩) (.inl rfl) _).setCell (p := ⟨V, 8, none⟩) (.inl rfl) _).setCell (p := ⟨V, 9, none⟩) (.inl rfl) _).setCell (p := ⟨V, 10, none⟩) (.inl rfl) _)

set_option maxHeartbeats 1600000 in
set_option maxRecDepth 100000 in
theorem part_go {S : Nat → Prop} {V e0 g m : Nat} {c : Cw} {ev : Ev} {A B : Option Addr} {a b e n : Nat} {hs : Nat → Hd} (k : Nat) (w : World) (h : GoAt S w V e0 g m c ev A B a b e hs) (hn : c.dn.length = n) (hr : wRight c.ts (g : Int) n = true) (hk : k < c.ts.length) (hgr : wGreat c.ts (g : Int) n k = true) (hw0 : (T c.ts k).wt = 0) (hl : c.ts.length ≤ 1998) (g2 : g ≤ 100) (n2 : n ≤ 1000) :
    Calls Try.prog 41 #[.pointer (some ⟨V, 0, none⟩), .int .i64 k] w fun ed w' => ∃ (A' B' : Option Addr) (a' b' H : Nat), ed = .returned (.tuple #[.slice (some ⟨H, 0, none⟩) 2 2, .int .i64 0]) ∧ GoAt S w' V e0 g m ⟨partedL c.ts k, c.dn, c.D, c.over, c.st, c.id⟩ ev A' B' a' b' e hs ∧
      Ow kInt w.heap.size w' (.slice (some ⟨H, 0, none⟩) 2 2) [((c.ts.length + 1 : Nat) : Int), (c.ts.length : Int)] ∧ GrewG V e0 w w' := by
  have H := Lib.hid h
  have v0 := h.v0
  have v1 := h.v1
  have v2 := h.v2
  have fV := h.fV
  have lV : V < w.heap.size := h.sl V h.sV
  have HPE : Hid (partErr c.ts (g : Int) n (k : Int) = 0) := Lib.hid (partErr_ok hr hk hgr hw0 hl)
  have HGI : Hid (in64 (g : Int)) := Lib.hid (in64_nat g (by omega))
  have HKI : Hid (in64 (k : Int)) := Lib.hid (in64_nat k (by omega))
  have HN := Lib.hid hn
  have l1 : c.ts.length ≤ 1048576 := by omega
  have l2 : n ≤ 1048576 := by omega
  clear h hn
  go_enter Try.func41, Try.ntmps41
  go_wp2_with fail
  refine (part_to _ _ _ _ c.ts.length c.dn.length (c.ts.length + 2) c.ts (partedL c.ts k) c.dn (g : Int) (k : Int) (c.ts.length : Int) ((c.ts.length : Int) + 1) _ H.out.tsk.rd H.out.dns.rd rfl rfl HGI.out HKI.out l1 (by rw [HN.out]; exact l2) (by rw [HN.out]; exact HPE.out) (by rw [Int.toNat_natCast]; rfl) (partedL_len c.ts k) rfl rfl).mono ?_
  rintro ed w1 ⟨A1, a1, B1, b1, rfl, hT, hD, hA, hB, hE⟩
  have H1 := Lib.hid (H.out.ext hE)
  have x0 := hE.cell v0
  have x1 := hE.cell v1
  have x2 := hE.cell v2
  have xf : ∀ o, w1.frozen? ⟨V, o, none⟩ = false := fun o => (Below.frozen hE (p := ⟨V, o, none⟩) lV).trans (fV o)
  have hz := hE.size
  have lV1 : V < w1.heap.size := by omega
  have HT1 : Hid (RdO kTask S w1 (.slice A1 (c.ts.length + 2) a1) (partedL c.ts k)) := Lib.hid (hT.offFrom hA H.out.sl)
  have HD1 : Hid (RdO kBool S w1 (.slice B1 c.dn.length b1) c.dn) := Lib.hid (hD.offFrom hB H.out.sl)
  have HE1 := Lib.hid hE
  clear hT hD hA hB hE v0 v1 v2 fV
  go_wp2_with fail
  go_ret2
  refine ⟨A1, B1, a1, b1, _, rfl, ?_, ?_, ?_⟩
  · have hT2 : RdO kTask S w1 (.slice A1 (partedL c.ts k).length a1) (partedL c.ts k) := by rw [partedL_len]; exact HT1.out
    have h3 := (H1.out.setWork hT2 HD1.out)
    rw [partedL_len] at h3
    have h4 := (h3.ext ((Ext.refl _).alloc (.cells #[.slice A1 (c.ts.length + 2) a1, .int .i64 g, .slice B1 c.dn.length b1] 28))).ext ((Ext.refl _).alloc (.cells #[.int .i64 ((c.ts.length : Int) + 1), .int .i64 (c.ts.length : Int)] 3))
    exact h4
  · exact Ow.lit (K := kInt) _ [((c.ts.length + 1 : Nat) : Int), (c.ts.length : Int)] _ rfl rfl (by simp) (by omega) (by simp [maxLen]) (by intro x hx; simp only [List.mem_cons, List.not_mem_nil, or_false] at hx; rcases hx with rfl | rfl <;> exact in64_nat _ (by omega))
  · exact ((((((Grew.of HE1.out).setCell (p := ⟨V, 0, none⟩) (.inl rfl) _).setCell (p := ⟨V, 1, none⟩) (.inl rfl) _).setCell (p := ⟨V, 2, none⟩) (.inl rfl) _).alloc _).alloc _)

set_option maxHeartbeats 1600000 in
set_option maxRecDepth 100000 in
theorem do_go {S : Nat → Prop} {V e0 g m : Nat} {c : Cw} {ev : Ev} {A B : Option Addr} {a b e n : Nat} {hs : Nat → Hd} (k : Nat) (w : World) (h : GoAt S w V e0 g m c ev A B a b e hs) (hn : c.dn.length = n) (hr : wRight c.ts (g : Int) n = true) (hk : k < c.ts.length) (hgr : wGreat c.ts (g : Int) n k = false) (hw0 : (T c.ts k).wt = 0) (hlo : 0 ≤ (T c.ts k).lo) (hlh : (T c.ts k).lo ≤ (T c.ts k).hi) (hhn : (T c.ts k).hi ≤ n) (hdn : c.dn.getD (T c.ts k).lo.toNat false = false) (hov : c.over = false) (hl : c.ts.length ≤ 1998) (g2 : g ≤ 100) (n2 : n ≤ 1000) :
    Calls Try.prog 42 #[.pointer (some ⟨V, 0, none⟩), .int .i64 k] w fun ed w' => ∃ (A' B' : Option Addr) (a' b' : Nat), ed = .returned (.int .i64 0) ∧ GoAt S w' V e0 g m ⟨(climb (c.ts.length + 1) c.ts (T c.ts k).up).1, marked c.dn (T c.ts k).lo.toNat (T c.ts k).hi.toNat, c.D, c.over || (climb (c.ts.length + 1) c.ts (T c.ts k).up).2, c.st, c.id⟩ ev A' B' a' b' e hs ∧ GrewG V e0 w w' := by
  have H := Lib.hid h
  have v0 := h.v0
  have v1 := h.v1
  have v2 := h.v2
  have v4 := h.v4
  rw [hov] at v4
  have fV := h.fV
  have lV : V < w.heap.size := h.sl V h.sV
  have HOV := Lib.hid hov
  have HPE : Hid (doErr c.ts (g : Int) c.dn (k : Int) = 0) := Lib.hid (doErr_zero (by rw [hn]; exact hr) hk (by rw [hn]; exact hgr) hw0 hdn)
  have HGI : Hid (in64 (g : Int)) := Lib.hid (in64_nat g (by omega))
  have HKI : Hid (in64 (k : Int)) := Lib.hid (in64_nat k (by omega))
  obtain ⟨us, q, hcl⟩ : ∃ us q, climb (c.ts.length + 1) c.ts (T c.ts k).up = (us, q) := ⟨_, _, rfl⟩
  have hul : us.length = c.ts.length := by have := climb_len (c.ts.length + 1) c.ts (T c.ts k).up; rw [hcl] at this; exact this
  obtain ⟨dn', hmk⟩ : ∃ dn', marked c.dn (T c.ts k).lo.toNat (T c.ts k).hi.toNat = dn' := ⟨_, rfl⟩
  have hml : dn'.length = c.dn.length := by rw [← hmk]; exact marked_len _ _ _ (by omega) (by omega)
  have HCL := Lib.hid hcl
  have HMK := Lib.hid hmk
  have HUL := Lib.hid hul
  have HML := Lib.hid hml
  have HN := Lib.hid hn
  have l1 : c.ts.length ≤ 1048576 := by omega
  have l2 : n ≤ 1048576 := by omega
  rw [hcl, hmk]
  clear h hn hov hcl hmk hul hml hdn
  go_enter Try.func42, Try.ntmps42
  go_wp2_with fail
  refine (do_to _ _ _ _ c.ts.length c.dn.length c.ts us c.dn dn' (g : Int) (k : Int) q _ H.out.tsk.rd H.out.dns.rd rfl rfl HGI.out HKI.out l1 (by rw [HN.out]; exact l2) HPE.out (by rw [Int.toNat_natCast]; exact HCL.out) (by rw [Int.toNat_natCast]; exact HMK.out)).mono ?_
  rintro ed w1 ⟨A1, a1, B1, b1, rfl, hT, hD, hA, hB, hE⟩
  have H1 := Lib.hid (H.out.ext hE)
  have x0 := hE.cell v0
  have x1 := hE.cell v1
  have x2 := hE.cell v2
  have x4 := hE.cell v4
  have xf : ∀ o, w1.frozen? ⟨V, o, none⟩ = false := fun o => (Below.frozen hE (p := ⟨V, o, none⟩) lV).trans (fV o)
  have hz := hE.size
  have lV1 : V < w1.heap.size := by omega
  have HT1 : Hid (RdO kTask S w1 (.slice A1 us.length a1) us) := Lib.hid (by rw [HUL.out]; exact hT.offFrom hA H.out.sl)
  have HD1 : Hid (RdO kBool S w1 (.slice B1 dn'.length b1) dn') := Lib.hid (by rw [HML.out]; exact hD.offFrom hB H.out.sl)
  have HE1 := Lib.hid hE
  clear hT hD hA hB hE v0 v1 v2 v4 fV
  go_wp2_with fail
  go_ret
  refine ⟨A1, B1, a1, b1, rfl, ?_, ?_⟩
  · have h3 := (H1.out.setWork HT1.out HD1.out)
    rw [HUL.out, HML.out] at h3
    have h5 := (h3.setOver q).ext ((Ext.refl _).alloc (.cells #[.slice A1 c.ts.length a1, .int .i64 g, .slice B1 c.dn.length b1] 28))
    rw [HOV.out, Bool.false_or]
    exact h5
  · exact ((((((Grew.of HE1.out).setCell (p := ⟨V, 0, none⟩) (.inl rfl) _).setCell (p := ⟨V, 1, none⟩) (.inl rfl) _).setCell (p := ⟨V, 2, none⟩) (.inl rfl) _).setCell (p := ⟨V, 4, none⟩) (.inl rfl) _).alloc _)
end Go.Proofs.Ytebbpkdhdilkcaa

/- Plain words of a deque: no program in it. -/
namespace Go.Proofs.Ytebbpkdhdilkcaa.Plain

/-- for how many more there is room -/
def roomN (n : Nat) : Nat := 1000 - n
def pushE (l : List Int) : Int := if 1000 ≤ l.length then 2 else 0
def pushL (l : List Int) (n : Int) : List Int := if 1000 ≤ l.length then l else l ++ [n]
def popE (l : List Int) : Int := if l.length = 0 then 4 else 0
def popL (l : List Int) : List Int := l.take (l.length - 1)
def stealL (l : List Int) : List Int := l.drop 1
def topD (l : List Int) : Int := l.getD 0 0
def lookB (l : List Int) : Bool := decide (0 < l.length)
def moveN (from_ to_ : List Int) (most : Int) : Nat := min (min most.toNat from_.length) (roomN to_.length)
def moveF (from_ to_ : List Int) (most : Int) : List Int := from_.drop (moveN from_ to_ most)
def moveT (from_ to_ : List Int) (most : Int) : List Int := to_ ++ from_.take (moveN from_ to_ most)

theorem getD_lt (l : List Int) (j : Nat) (h : j < l.length) : l.getD j 0 = l[j] := by
  rw [List.getD_eq_getElem?_getD, List.getElem?_eq_getElem h]; rfl
theorem getD_drop (l : List Int) (k j : Nat) : (l.drop k).getD j 0 = l.getD (k + j) 0 := by
  simp [List.getD_eq_getElem?_getD, List.getElem?_drop]
theorem getD_take (l : List Int) (k j : Nat) (h : j < k) : (l.take k).getD j 0 = l.getD j 0 := by
  simp [List.getD_eq_getElem?_getD, List.getElem?_take_of_lt h]
theorem popL_len (l : List Int) : (popL l).length = l.length - 1 := by unfold popL; rw [List.length_take]; omega
theorem stealL_len (l : List Int) : (stealL l).length = l.length - 1 := by unfold stealL; rw [List.length_drop]
theorem pushL_len_le (l : List Int) (n : Int) : (pushL l n).length ≤ l.length + 1 := by unfold pushL; split <;> simp
theorem moveN_from (f t : List Int) (m : Int) : moveN f t m ≤ f.length := by unfold moveN; omega
theorem moveF_len (f t : List Int) (m : Int) : (moveF f t m).length = f.length - moveN f t m := by unfold moveF; rw [List.length_drop]
theorem moveT_len (f t : List Int) (m : Int) : (moveT f t m).length = t.length + moveN f t m := by
  unfold moveT; rw [List.length_append, List.length_take]; have := moveN_from f t m; omega
theorem moveN_end (f t : List Int) (m : Int) (k : Nat) (hk : k ≤ moveN f t m) (h : m ≤ k ∨ f.length ≤ k ∨ 1000 ≤ t.length + k) : moveN f t m = k := by
  unfold moveN roomN at *
  rcases h with h | h | h <;> omega
theorem moveN_more (f t : List Int) (m : Int) (k : Nat) (h1 : (k : Int) < m) (h2 : k < f.length) (h3 : t.length + k < 1000) : k + 1 ≤ moveN f t m := by
  unfold moveN roomN
  omega
theorem drop_steal (f : List Int) (k : Nat) : stealL (f.drop k) = f.drop (k + 1) := by unfold stealL; rw [List.drop_drop]
theorem drop_top (f : List Int) (k : Nat) : topD (f.drop k) = f.getD k 0 := by unfold topD; rw [getD_drop]; rfl
theorem push_more (f t : List Int) (k : Nat) (h : k < f.length) (h3 : t.length + k < 1000) : pushL (t ++ f.take k) (f.getD k 0) = t ++ f.take (k + 1) := by
  unfold pushL
  rw [if_neg (by rw [List.length_append, List.length_take]; omega), List.append_assoc, take_snoc f k h]
theorem pushE_more (f t : List Int) (k : Nat) (h : k ≤ f.length) (h3 : t.length + k < 1000) : pushE (t ++ f.take k) = 0 := by
  unfold pushE
  rw [if_neg (by rw [List.length_append, List.length_take]; omega)]
theorem pushE_full (f t : List Int) (k : Nat) (h : k ≤ f.length) (h3 : 1000 ≤ t.length + k) : pushE (t ++ f.take k) = 2 := by
  unfold pushE
  rw [if_pos (by rw [List.length_append, List.length_take]; omega)]
theorem popE_more (f : List Int) (k : Nat) (h : k < f.length) : popE (f.drop k) = 0 := by
  unfold popE
  rw [if_neg (by rw [List.length_drop]; omega)]
theorem popE_end (f : List Int) (k : Nat) (h : f.length ≤ k) : popE (f.drop k) = 4 := by
  unfold popE
  rw [if_pos (by rw [List.length_drop]; omega)]
theorem push_small (l : List Int) (n : Int) (h : l.length < 1000) : pushL l n = l ++ [n] ∧ pushE l = 0 := by
  unfold pushL pushE; rw [if_neg (by omega), if_neg (by omega)]; exact ⟨rfl, rfl⟩
theorem pop_snoc (l : List Int) (n : Int) : popL (l ++ [n]) = l ∧ popE (l ++ [n]) = 0 ∧ lookB (l ++ [n]) = true ∧ lastD (l ++ [n]) = n := by
  refine ⟨by unfold popL; simp, by unfold popE; simp, by unfold lookB; simp, ?_⟩
  unfold lastD
  rw [List.getD_eq_getElem?_getD]
  simp
theorem popE_pos (l : List Int) (h : 0 < l.length) : popE l = 0 ∧ lookB l = true := by
  unfold popE lookB; rw [if_neg (by omega)]; exact ⟨rfl, by simpa using h⟩
theorem top_steal (l : List Int) (h : 0 < l.length) : [topD l] ++ stealL l = l := by
  cases l with
  | nil => simp at h
  | cons a l => rfl
end Go.Proofs.Ytebbpkdhdilkcaa.Plain

/- The library's Grow and Concat at lists of integers; room of a deque. -/
namespace Go.Proofs.Ytebbpkdhdilkcaa
open Go.RowKit Go.Proofs.Ytebbpkdhdilkcaa.Plain

/-- a part of a list, from its beginning -/
theorem Ints.take {w : World} {A : Option Addr} {n c : Nat} {xs : List Int} (h : Ints w (.slice A n c) xs) (k c' : Nat) (hk : k ≤ xs.length) (hc : k ≤ c') : Ints w (.slice A k c') (xs.take k) := by
  obtain ⟨h1, h2, A', cap, hv, hcap, h3⟩ := h
  cases hv
  have hl : (xs.take k).length = k := by rw [List.length_take]; omega
  refine ⟨by rw [hl]; omega, fun n hn => h2 n (List.mem_of_mem_take hn), A, c', by rw [hl], by omega, fun hp => ?_⟩
  rw [hl] at hp
  obtain ⟨b, off, rfl, hcc⟩ := h3 (by omega)
  refine ⟨b, off, rfl, fun j hj => ?_⟩
  rw [hl] at hj
  rw [hcc j (by omega), getD_take _ _ _ hj]
/-- a part of a list, from a place on to its end -/
theorem Ints.drop {w : World} {b off n c : Nat} {xs : List Int} (h : Ints w (.slice (some ⟨b, off, none⟩) n c) xs) (k m c' : Nat) (hm : m = xs.length - k) (hc : m ≤ c') : Ints w (.slice (some ⟨b, off + k, none⟩) m c') (xs.drop k) := by
  obtain ⟨h1, h2, A', cap, hv, hcap, h3⟩ := h
  cases hv
  have hl : (xs.drop k).length = m := by rw [List.length_drop]; omega
  refine ⟨by rw [hl]; omega, fun n hn => h2 n (List.mem_of_mem_drop hn), _, c', by rw [hl], by omega, fun hp => ?_⟩
  obtain ⟨b', off', he, hcc⟩ := h3 (by omega)
  cases he
  refine ⟨b, off + k, rfl, fun j hj => ?_⟩
  rw [hl] at hj
  rw [Nat.add_assoc, hcc (k + j) (by omega), getD_drop]

theorem add_at (b off j : Nat) : (⟨b, off, none⟩ : Addr).add j = ⟨b, off + j, none⟩ := by
  by_cases h0 : j = 0
  · subst h0; rfl
  · simp [Addr.add, h0]
/-- .. as the walk writes it, where the address is open -/
theorem Ints.dropAdd {w : World} {ad : Addr} {n c : Nat} {xs : List Int} (h : Ints w (.slice (some ad) n c) xs) (k m c' : Nat) (hm : m = xs.length - k) (hc : m ≤ c') : Ints w (.slice (some (ad.add k)) m c') (xs.drop k) := by
  by_cases h0 : xs.drop k = []
  · have : m = 0 := by have := congrArg List.length h0; rw [List.length_drop] at this; simp at this; omega
    subst this
    rw [h0]
    exact Ints.nil _ _ _
  · have hl : 0 < xs.length := by
      cases xs with
      | nil => simp at h0
      | cons a l => simp
    obtain ⟨b, off, he, _⟩ := h.cells hl
    cases he
    rw [add_at]
    exact h.drop k m c' hm hc
theorem run_zeros (w : World) (n : Nat) (h0 : 0 < n) (hn : n ≤ 1048576) :
    (Builtin.append_ #[55, 3] 55 #[.slice none 0 0, .int .i64 n]).run Try.prog w =
      .ok (.slice (some ⟨w.heap.size, 0, none⟩) n (grownCap w n 0 3)) (w.drew.alloc (.cells (Builtin.zeroCells #[.int .i64 0] n ++ Builtin.zeroCells #[.int .i64 0] (grownCap w n 0 3 - n)) 3)) := by
  obtain ⟨i0, hi, hz0, hz1, hz2⟩ := info_parts intInfo
  exact Lib.run_append_nil_zeros w 55 3 55 3 i0 (.int .i64 0) .i64 .i64 Try.underlying55 Try.underlying3 hi hz0 n h0 (by omega) (by omega) (by rw [hz2]; omega)

theorem wpList_zeros {ops : Array Oper} {rest : List Oper} {o : Oper} {a : Act} {w : World} {Q : Exit → Act → World → Prop} (hgd : o.guard = none) (s x : Operand)
    (ho : o.op = .call { callee := .builtin .append, args := #[s, x], argTypes := #[55, 3] }) (hty : o.type = 55) (n : Nat) (hs : a.eval s = .slice none 0 0) (hx : a.eval x = .int .i64 n) (h0 : 0 < n) (hn : n ≤ 1048576)
    (h : ∀ (cap : Nat) (cur : Array Value), (n : Int) ≤ cap → cap ≤ maxLen → cur.size = cap → wpList Try.prog ops Q rest (a.put o.dst (.slice (some ⟨w.heap.size, 0, none⟩) n cap)) (w.drew.alloc (.cells cur 3))) : wpList Try.prog ops Q (o :: rest) a w :=
  wpList_plain hgd fun K hK => by
    unfold Oper.wp execOp
    simp only [ho, hty, resolve, invoke, builtin, Sem.run_bind, Sem.run_pure, Result.andThen_ok, List.map_toArray, List.map_cons, List.map_nil, hs, hx, run_zeros w n h0 hn]
    have hge := grownCap_ge w n 0 3
    refine hK _ _ (h _ _ (by omega) (grownCap_le_maxLen w n 0 3 (by unfold maxLen; omega)) ?_)
    simp only [Array.size_append, size_zeroCells]
    simp
    omega

/-- room is made: an empty list of the call's own -/
theorem grow_nil (n : Nat) (w : World) (hn : n ≤ 1048576) :
    Calls Try.prog 43 #[.slice none 0 0, .int .i64 n] w fun e w' => ∃ v, e = .returned v ∧ Own w.heap.size w' v [] ∧ Ext w w' := by
  by_cases h0 : 0 < n
  · have h0' : (0 : Int) < n := by omega
    go_enter Try.func43, Try.ntmps43
    go_wp2_with (at_builtin; refine wpList_zeros rfl _ _ rfl rfl n rfl rfl h0 hn ?_; intro cap cur hc1 hc2 hc3)
    go_ret
    exact ⟨_, rfl, Own.made w.drew _ _ (Nat.le_refl _) hc2 hc3, (Ext.refl w).drew.alloc _⟩
  · obtain rfl : n = 0 := by omega
    go_enter Try.func43, Try.ntmps43
    go_wp2
    go_ret
    exact ⟨_, rfl, Own.nil _ _, Ext.refl _⟩

/-- two lists, one behind the other -/
theorem concat_any (b o : Nat) (u v : Value) (xs ys : List Int) (w : World) (c0 : w.cell? ⟨b, o, none⟩ = some u) (c1 : w.cell? ⟨b, o + 1, none⟩ = some v) (h : Ints w u xs) (h' : Ints w v ys) (hl : xs.length + ys.length ≤ 1048576) :
    Calls Try.prog 34 #[.slice (some ⟨b, o, none⟩) 2 2] w fun e w' => ∃ v', e = .returned v' ∧ Own w.heap.size w' v' (xs ++ ys) ∧ Ext w w' := by
  obtain ⟨A, cA, rfl⟩ : ∃ A cA, u = .slice A xs.length cA := by obtain ⟨_, _, A, cA, rfl, _, _⟩ := h; exact ⟨A, cA, rfl⟩
  obtain ⟨B, cB, rfl⟩ : ∃ B cB, v = .slice B ys.length cB := by obtain ⟨_, _, A, cA, rfl, _, _⟩ := h'; exact ⟨A, cA, rfl⟩
  have HX := Lib.hid h
  have HY := Lib.hid h'
  clear h h'
  go_enter Try.func34, Try.ntmps34
  go_wp2
  go_loop [3, 11] (fun s i => (i = .int .i64 0 ∧ s = .int .i64 0) ∨ (i = .int .i64 1 ∧ s = .int .i64 xs.length) ∨ (i = .int .i64 2 ∧ s = .int .i64 (xs.length + ys.length : Nat))) (fun _ i => 2 - (intOf i).toNat)
  case atStart => exact .inl ⟨rfl, rfl⟩
  case round =>
    rcases hrel with ⟨rfl, rfl⟩ | ⟨rfl, rfl⟩ | ⟨rfl, rfl⟩
    · go_wp2
      go_round
      case rel => exact .inr (.inl ⟨by go_num, by go_num⟩)
      case measure => simp [intOf]
    · go_wp2
      go_round
      case rel => exact .inr (.inr ⟨by go_num, by go_num⟩)
      case measure => simp [intOf]
    · go_wp2_with fail
      refine (grow_nil _ _ hl).mono ?_
      rintro e w1 ⟨z, rfl, hown, hE⟩
      have HO := Lib.hid hown
      have HE := Lib.hid hE
      clear hown hE
      go_wp2
      go_loopw [6, 27] (fun v i wr => ((i = .int .i64 0 ∧ Own w.heap.size wr v []) ∨ (i = .int .i64 1 ∧ Own w.heap.size wr v xs) ∨ (i = .int .i64 2 ∧ Own w.heap.size wr v (xs ++ ys))) ∧ Ext w wr) (fun _ i _ => 2 - (intOf i).toNat)
      case atStart => exact ⟨.inl ⟨rfl, HO.out⟩, HE.out⟩
      case round =>
        obtain ⟨hr, hX⟩ := hrel
        have d0 := hX.cell c0
        have d1 := hX.cell c1
        have hz := hX.size
        rcases hr with ⟨rfl, hown⟩ | ⟨rfl, hown⟩ | ⟨rfl, hown⟩
        · go_wp2_with (at_builtin; refine wpList_app rfl _ _ rfl rfl w.heap.size _ [] rfl hown _ xs rfl (HX.out.ext hX) (by simp; omega) hz ?_; intro v' w2 hown2 hgrow2 hat2)
          go_roundw
          case rel => exact ⟨.inr (.inl ⟨by go_num, by simpa using hown2⟩), hX.grown hgrow2 (fun k hk => (hown.lt k hk).1)⟩
          case measure => simp [intOf]
        · go_wp2_with (at_builtin; refine wpList_app rfl _ _ rfl rfl w.heap.size _ xs rfl hown _ ys rfl (HY.out.ext hX) hl hz ?_; intro v' w2 hown2 hgrow2 hat2)
          go_roundw
          case rel => exact ⟨.inr (.inr ⟨by go_num, hown2⟩), hX.grown hgrow2 (fun k hk => (hown.lt k hk).1)⟩
          case measure => simp [intOf]
        · go_wp2
          go_ret
          exact ⟨_, rfl, hown, hX⟩
end Go.Proofs.Ytebbpkdhdilkcaa

/- The library at a crew's deques: Concat of all of them, Clone of one (an empty one has no room); how many tasks all deques hold. -/
namespace Go.Proofs.Ytebbpkdhdilkcaa
open Go.BigFrame
open Go.RowKit Go.Proofs.Ytebbpkdhdilkcaa.Plain

theorem zs_app (a b : List Nat) : zs (a ++ b) = zs a ++ zs b := by unfold zs; simp
/-- of the first deques -/
def upTo (D : List (List Nat)) (k : Nat) : List Nat := (D.take k).flatten
theorem upTo_succ (D : List (List Nat)) (k : Nat) (hk : k < D.length) : upTo D (k + 1) = upTo D k ++ D.getD k [] := by
  unfold upTo
  rw [List.take_succ_eq_append_getElem hk, List.flatten_append, getDp hk]; simp
theorem upTo_all (D : List (List Nat)) : upTo D D.length = held D := by unfold upTo held; rw [List.take_length]
theorem upTo_le (D : List (List Nat)) (k : Nat) : (upTo D k).length ≤ (held D).length := by
  have h : held D = upTo D k ++ (D.drop k).flatten := by unfold held upTo; rw [← List.flatten_append, List.take_append_drop]
  rw [h, List.length_append]; omega

set_option maxHeartbeats 800000 in
set_option maxRecDepth 100000 in
theorem concat_all (b off m e : Nat) (hs : Nat → Hd) (D : List (List Nat)) (w : World) (h : Hds (fun _ => False) w b off m hs D) (hm : m ≤ 8) (hl : (held D).length ≤ 1000000) :
    Calls Try.prog 34 #[.slice (some ⟨b, off, none⟩) m e] w fun ed w' => ∃ A c, ed = .returned (.slice A (held D).length c) ∧ Own w.heap.size w' (.slice A (held D).length c) (zs (held D)) ∧ Ext w w' := by
  have H := Lib.hid h
  have HDL : Hid (D.length = m) := Lib.hid h.1
  have hm' : (m : Int) ≤ 8 := by omega
  obtain ⟨N, hN⟩ : ∃ N, (held D).length = N := ⟨_, rfl⟩
  rw [hN] at hl ⊢
  have HN := Lib.hid hN
  clear h hN
  go_enter Try.func34, Try.ntmps34
  go_wp2_with fail
  go_loop [3, 11] (fun s i => ∃ k : Nat, k ≤ m ∧ i = .int .i64 k ∧ s = .int .i64 ((upTo D k).length : Nat)) (fun _ i => m - (intOf i).toNat)
  case atStart => exact ⟨0, Nat.zero_le _, rfl, rfl⟩
  case round =>
    obtain ⟨k, hk, rfl, rfl⟩ := hrel
    have hk0 : (0 : Int) ≤ k := by omega
    by_cases hlt : k < m
    · have hlt' : (k : Int) < m := by omega
      obtain ⟨z, zn, _⟩ := H.out.2 k hlt
      obtain ⟨u1, hu1⟩ : ∃ x, (upTo D k).length = x := ⟨_, rfl⟩
      obtain ⟨u2, hu2⟩ : ∃ x, (hs k).n = x := ⟨_, rfl⟩
      have hsucc : (upTo D (k + 1)).length = u1 + u2 := by rw [upTo_succ D k (by rw [HDL.out]; exact hlt), List.length_append, hu1, ← hu2, zn]
      have hb := upTo_le D (k + 1)
      rw [hsucc, HN.out] at hb
      have hb1 : (u1 : Int) ≤ 1000000 := by omega
      have hb2 : (u2 : Int) ≤ 1000000 := by omega
      have HS := Lib.hid hsucc
      unfold Hd.v at z
      rw [hu2] at z
      rw [hu1]
      clear hsucc hb zn hu1 hu2
      go_wp2_with fail
      go_round
      case rel => exact ⟨k + 1, by omega, by go_num, by rw [HS.out]; go_num⟩
      case measure => simp [intOf]; omega
    · obtain rfl : k = m := by omega
      have hu : (upTo D k).length = N := by rw [← HDL.out, upTo_all D, HN.out]
      rw [hu]
      clear hu
      go_wp2_with fail
      refine (grow_nil _ _ (by omega)).mono ?_
      rintro ed w1 ⟨z, rfl, hown, hE⟩
      have HO := Lib.hid hown
      have HE := Lib.hid hE
      clear hown hE
      go_wp2
      go_loopw [6, 27] (fun v i wr => ∃ j : Nat, j ≤ k ∧ i = .int .i64 j ∧ Own w.heap.size wr v (zs (upTo D j)) ∧ Ext w wr) (fun _ i _ => k - (intOf i).toNat)
      case atStart => exact ⟨0, Nat.zero_le _, rfl, by first | exact HO.out | (unfold upTo; simpa [zs] using HO.out), HE.out⟩
      case round =>
        obtain ⟨j, hj, rfl, hown, hX⟩ := hrel
        have hj0 : (0 : Int) ≤ j := by omega
        by_cases hlt2 : j < k
        · have hlt3 : (j : Int) < k := by omega
          obtain ⟨z, zn, zr⟩ := H.out.2 j hlt2
          have z' := hX.cell z
          have hz := hX.size
          have HZ : Hid (Ints wr (hs j).v (zs (D.getD j []))) := Lib.hid (ints_of_rd (zr.rd.ext hX))
          have hsucc : zs (upTo D (j + 1)) = zs (upTo D j) ++ zs (D.getD j []) := by rw [upTo_succ D j (by rw [HDL.out]; exact hlt2), zs_app]
          have hb := upTo_le D (j + 1)
          have HB : Hid ((zs (upTo D j)).length + (zs (D.getD j [])).length ≤ 1048576) := Lib.hid (by rw [← List.length_append, ← hsucc, zs_len]; have := HN.out; omega)
          have HS := Lib.hid hsucc
          clear hsucc hb zn zr z
          go_wp2_with (at_builtin; refine wpList_app rfl _ _ rfl rfl w.heap.size _ (zs (upTo D j)) rfl hown _ (zs (D.getD j [])) rfl HZ.out HB.out hz ?_; intro v' w2 hown2 hgrow2 hat2)
          go_roundw
          case rel => exact ⟨j + 1, by omega, by go_num, by rw [HS.out]; exact hown2, hX.grown hgrow2 (fun k hk => (hown.lt k hk).1)⟩
          case measure => simp [intOf]; omega
        · obtain rfl : j = k := by omega
          have hu : upTo D j = held D := by rw [← HDL.out]; exact upTo_all D
          rw [hu] at hown
          clear hu
          go_wp2
          go_ret
          obtain ⟨A, c, rfl, _⟩ := hown.shape
          rw [zs_len, HN.out] at hown ⊢
          exact ⟨A, c, rfl, hown, hX⟩

theorem run_app0 (w : World) (g : Nat) (ad : Addr) (c : Nat) : (Builtin.append_ #[55, 55] 55 #[.slice (some ⟨g, 0, none⟩) 0 0, .slice (some ad) 0 c]).run Try.prog w = .ok (.slice (some ⟨g, 0, none⟩) 0 0) w := by
  obtain ⟨i0, hi, hz0, hz1, hz2⟩ := info_parts intInfo
  simp [Builtin.append_, run_underlying Try.underlying55, sizeOf, typeInfo, hi, Builtin.lenOf, Builtin.firstCells, storeCells, loadCells, loadCellsFrom]
theorem wpList_app0 {ops : Array Oper} {rest : List Oper} {o : Oper} {a : Act} {w : World} {Q : Exit → Act → World → Prop} (hgd : o.guard = none) (s x : Operand)
    (ho : o.op = .call { callee := .builtin .append, args := #[s, x], argTypes := #[55, 55] }) (hty : o.type = 55) (g : Nat) (ad : Addr) (c : Nat) (hs : a.eval s = .slice (some ⟨g, 0, none⟩) 0 0) (hx : a.eval x = .slice (some ad) 0 c)
    (h : wpList Try.prog ops Q rest (a.put o.dst (.slice (some ⟨g, 0, none⟩) 0 0)) w) : wpList Try.prog ops Q (o :: rest) a w :=
  wpList_plain hgd fun K hK => by
    unfold Oper.wp execOp
    simp only [ho, hty, resolve, invoke, builtin, Sem.run_bind, Sem.run_pure, Result.andThen_ok, List.map_toArray, List.map_cons, List.map_nil, hs, hx, run_app0]
    exact hK _ _ h
/-- an empty list is cloned: no room -/
theorem clone_empty (A : Option Addr) (c : Nat) (w : World) :
    Calls Try.prog 28 #[.slice A 0 c] w fun e w' => ∃ A, e = .returned (.slice A 0 0) ∧ Ext w w' := by
  have hnil := fun (w : World) (a : Option Addr) (n c : Nat) => Lib.run_eql_slice_nil w 55 3 a n c 0 0 Try.underlying55
  cases A with
  | none =>
    go_enter Try.func28, Try.ntmps28
    go_wp2
    go_ret
    exact ⟨_, rfl, Ext.refl _⟩
  | some ad =>
    go_enter Try.func28, Try.ntmps28
    go_wp2_with (at_builtin; refine wpList_app0 rfl _ _ rfl rfl _ ad c rfl rfl ?_)
    go_ret
    exact ⟨_, rfl, (Ext.refl _).alloc _⟩
/-- a deque is cloned: an empty one has no room then -/
theorem clone_dq (h : Hd) (xs : List Nat) (w : World) (hr : Rd kInt w h.v (zs xs)) (hn : h.n = xs.length) (hl : xs.length ≤ 1000000) :
    Calls Try.prog 28 #[h.v] w fun e w' => ∃ k : Hd, e = .returned k.v ∧ k.n = xs.length ∧ (k.n = 0 → k.c = 0) ∧ (∀ S : Nat → Prop, (∀ x, S x → x < w.heap.size) → RdO kInt S w' k.v (zs xs)) ∧ Ext w w' := by
  by_cases h0 : xs.length = 0
  · obtain rfl : xs = [] := List.eq_nil_of_length_eq_zero h0
    obtain ⟨A, n, c⟩ := h
    obtain rfl : n = 0 := hn
    exact (clone_empty A c w).mono fun e w' ⟨A, he, hE⟩ => ⟨⟨A, 0, 0⟩, he, rfl, fun _ => rfl, fun S _ => RdO.nil S w' A 0, hE⟩
  · refine (clone_any h.v (zs xs) w (ints_of_rd hr) (by rw [zs_len]; omega)).mono ?_
    rintro e w' ⟨A, c, he, ho, hE⟩
    rw [zs_len] at he ho
    exact ⟨⟨A, xs.length, c⟩, he, rfl, fun hh => absurd hh h0, fun S hS => (rd_of_ints ho.ints).offFrom ho.from hS, hE⟩
set_option maxHeartbeats 800000 in
set_option maxRecDepth 100000 in
theorem cheld_any (A B : Option Addr) (eb eo a b e g m : Nat) (c : Cw) (hs : Nat → Hd) (w : World) (h : Hds (fun _ => False) w eb eo m hs c.D) (hm : m ≤ 8) (hl : (held c.D).length ≤ 1000000) :
    Calls Try.prog 11 #[crewV A B eb eo a b e g m c] w fun ed w' => ed = .returned (.int .i64 (held c.D).length) ∧ Ext w w' := by
  have H := Lib.hid h
  have HDL : Hid (c.D.length = m) := Lib.hid h.1
  have hm' : (m : Int) ≤ 8 := by omega
  obtain ⟨N, hN⟩ : ∃ N, (held c.D).length = N := ⟨_, rfl⟩
  rw [hN] at hl ⊢
  have HN := Lib.hid hN
  clear h hN
  go_enter Try.func11, Try.ntmps11
  go_wp2_with fail
  go_loopw [3, 9] (fun s i wr => ∃ k : Nat, k ≤ m ∧ i = .int .i64 k ∧ s = .int .i64 ((upTo c.D k).length : Nat) ∧ Ext w wr) (fun _ i _ => m - (intOf i).toNat)
  case atStart => exact ⟨0, Nat.zero_le _, rfl, rfl, (Ext.refl _).alloc _⟩
  case round =>
    obtain ⟨k, hk, rfl, rfl, hX⟩ := hrel
    have hk0 : (0 : Int) ≤ k := by omega
    by_cases hlt : k < m
    · have hlt' : (k : Int) < m := by omega
      obtain ⟨z0, zn, _⟩ := H.out.2 k hlt
      have z := hX.cell z0
      obtain ⟨u1, hu1⟩ : ∃ x, (upTo c.D k).length = x := ⟨_, rfl⟩
      obtain ⟨u2, hu2⟩ : ∃ x, (hs k).n = x := ⟨_, rfl⟩
      have hsucc : (upTo c.D (k + 1)).length = u1 + u2 := by rw [upTo_succ c.D k (by rw [HDL.out]; exact hlt), List.length_append, hu1, ← hu2, zn]
      have hb := upTo_le c.D (k + 1)
      rw [hsucc, HN.out] at hb
      have hb1 : (u1 : Int) ≤ 1000000 := by omega
      have hb2 : (u2 : Int) ≤ 1000000 := by omega
      have HS := Lib.hid hsucc
      unfold Hd.v at z
      rw [hu2] at z
      rw [hu1]
      clear hsucc hb zn hu1 hu2 z0
      go_wp2_with fail
      go_roundw
      case rel => exact ⟨k + 1, by omega, by go_num, by rw [HS.out]; go_num, hX⟩
      case measure => simp [intOf]; omega
    · obtain rfl : k = m := by omega
      have hu : (upTo c.D k).length = N := by rw [← HDL.out, upTo_all c.D, HN.out]
      rw [hu]
      clear hu
      go_wp2_with fail
      go_ret
      exact ⟨rfl, hX⟩
end Go.Proofs.Ytebbpkdhdilkcaa

/- The deque's functions. -/
namespace Go.Proofs.Ytebbpkdhdilkcaa
open Go.RowKit Go.Proofs.Ytebbpkdhdilkcaa.Plain

theorem Ints.slice {w : World} {v : Value} {xs : List Int} (h : Ints w v xs) : ∃ A c, v = .slice A xs.length c ∧ xs.length ≤ c := by
  obtain ⟨_, _, A, c, rfl, hc, _⟩ := h
  exact ⟨A, c, rfl, hc⟩
/-- a part of a list, as the walk writes it -/
theorem Ints.drop' {w : World} {b off n c : Nat} {xs : List Int} (h : Ints w (.slice (some ⟨b, off, none⟩) n c) xs) (k m c' : Nat) (hm : m = xs.length - k) (hc' : m ≤ c') (hc : xs.length ≤ c) (hk : k ≤ xs.length) :
    Ints w (.slice (if c = k then some ⟨b, off, none⟩ else some ⟨b, off + k, none⟩) m c') (xs.drop k) := by
  by_cases hck : c = k
  · rw [if_pos hck]
    have hx : xs.drop k = [] := List.eq_nil_of_length_eq_zero (by rw [List.length_drop]; omega)
    rw [hx, show m = 0 by omega]
    exact Ints.nil _ _ _
  · rw [if_neg hck]
    exact h.drop k m c' hm hc'
theorem Own.slice {B : Nat} {w : World} {v : Value} {xs : List Int} (h : Own B w v xs) : ∃ A c, v = .slice A xs.length c := by
  obtain ⟨A, c, rfl, _⟩ := h.shape
  exact ⟨A, c, rfl⟩

theorem popX_lt (l : List Int) (h : 0 < l.length) : lastD l = l.getD (l.length - 1) 0 := rfl

set_option maxHeartbeats 400000 in
set_option maxRecDepth 100000 in
theorem pop_far (A : Option Addr) (c : Nat) (l : List Int) (w : World) (h : Ints w (.slice A l.length c) l) (hl : l.length ≤ 4000) :
    Calls Try.prog 38 #[.slice A l.length c] w fun e w' => ∃ A c, e = .returned (.tuple #[.slice A (popL l).length c, .int .i64 (lastD l), .int .i64 (popE l)]) ∧ Ints w' (.slice A (popL l).length c) (popL l) ∧ Ext w w' ∧ From w.heap.size A := by
  have H := Lib.hid h
  clear h
  by_cases h0 : l.length = 0
  · obtain rfl : l = [] := List.eq_nil_of_length_eq_zero h0
    go_enter Try.func38, Try.ntmps38
    go_wp2_with (go_at_call 28; refine (clone_any _ _ _ H.out (by simp)).mono ?_; rintro e w1 ⟨A1, c1, rfl, ho, hE⟩)
    go_ret3
    exact ⟨_, _, rfl, ho.ints, hE, ho.from⟩
  · have h1 : 0 < l.length := by omega
    have e1 : Hid (popE l = 0) := Lib.hid (by unfold popE; rw [if_neg h0])
    have e2 : Hid ((popL l).length = l.length - 1) := Lib.hid (popL_len l)
    have e3 : Hid (lastD l = l.getD (l.length - 1) 0) := Lib.hid rfl
    clear h0
    go_enter Try.func38, Try.ntmps38
    go_wp2_with fail
    refine (clone_any _ _ _ H.out (by omega)).mono ?_
    rintro e w1 ⟨A1, c1, rfl, ho, hE⟩
    obtain ⟨_, _, hsh, hdd⟩ := ho.shape
    have hdd1 : (l.length : Int) - 1 ≤ (c1 : Int) := by cases hsh; omega
    have hdd2 : (l.length : Int) ≤ (c1 : Int) := by cases hsh; omega
    clear hdd hsh
    obtain ⟨g, rfl, hgB, hgw, hgc, hgf, hgs⟩ := ho.pos h1
    have kf := hgc (l.length - 1) (by omega)
    rw [← e3.out] at kf
    have HO := Lib.hid ho
    have HE := Lib.hid hE
    clear hgc hgs hgf ho hE
    go_wp2_with fail
    go_quiet (fail)
    go_wp2
    go_ret3
    rw [e1.out, e2.out]
    exact ⟨_, _, rfl, (HO.out.ints.take (l.length - 1) (l.length - 1) (by omega) (by omega)).ext ((Ext.refl _).drewN _), HE.out.drewN _, HO.out.from⟩
theorem pop_any (A : Option Addr) (c : Nat) (l : List Int) (w : World) (h : Ints w (.slice A l.length c) l) (hl : l.length ≤ 4000) :
    Calls Try.prog 38 #[.slice A l.length c] w fun e w' => ∃ A c, e = .returned (.tuple #[.slice A (popL l).length c, .int .i64 (lastD l), .int .i64 (popE l)]) ∧ Ints w' (.slice A (popL l).length c) (popL l) ∧ Ext w w' :=
  (pop_far A c l w h hl).mono fun e w' ⟨A, c, he, hi, hE, _⟩ => ⟨A, c, he, hi, hE⟩

set_option maxHeartbeats 400000 in
set_option maxRecDepth 100000 in
theorem steal_far (A : Option Addr) (c : Nat) (l : List Int) (w : World) (h : Ints w (.slice A l.length c) l) (hl : l.length ≤ 4000) :
    Calls Try.prog 39 #[.slice A l.length c] w fun e w' => ∃ A c, e = .returned (.tuple #[.slice A (stealL l).length c, .int .i64 (topD l), .int .i64 (popE l)]) ∧ Ints w' (.slice A (stealL l).length c) (stealL l) ∧ Ext w w' ∧ From w.heap.size A := by
  have H := Lib.hid h
  have hm := h.2.2
  clear h
  by_cases h0 : l.length = 0
  · obtain rfl : l = [] := List.eq_nil_of_length_eq_zero h0
    clear hm
    go_enter Try.func39, Try.ntmps39
    go_wp2
    go_ret3
    exact ⟨_, _, rfl, Ints.nil _ _ _, Ext.refl _, From.none _⟩
  · have h1 : 0 < l.length := by omega
    have h2 : ((l.length : Int) == 0) = false := by rw [beq_eq_false_iff_ne]; omega
    have e1 : Hid (popE l = 0) := Lib.hid (by unfold popE; rw [if_neg h0])
    have e2 : Hid ((stealL l).length = l.length - 1) := Lib.hid (stealL_len l)
    have e3 : Hid (topD l = l.getD 0 0) := Lib.hid rfl
    clear h0 hm
    have hcap : l.length ≤ c := by obtain ⟨_, _, A', c', he, hc', _⟩ := H.out; cases he; exact hc'
    obtain ⟨b, off, rfl, hcc⟩ := H.out.cells h1
    have k0 : w.cell? ⟨b, off, none⟩ = some (.int .i64 (l.getD 0 0)) := hcc 0 h1
    rw [← e3.out] at k0
    have hb := World.block_lt_of_cell? _ _ k0
    simp at hb
    clear hcc
    have hc4 : (1 : Int) ≤ l.length := by omega
    have hc6 : (l.length : Int) ≤ c := by omega
    have e5 := Lib.hid (stealL_len l)
    by_cases hc1 : c = 1
    · have hl1 : Hid (l.length - 1 = 0) := Lib.hid (by omega)
      have e6 : Hid (stealL l = []) := Lib.hid (List.eq_nil_of_length_eq_zero (by rw [stealL_len]; omega))
      go_enter Try.func39, Try.ntmps39
      go_wp2
      go_region_held3 (fun w' => w'.cell? ⟨b, off, none⟩ = some (.int .i64 (topD l)))
        (first | go_keep | exact c11)
        (first
          | (go_at_call 28
             rw [hl1.out]
             refine (clone_any _ [] _ (Ints.nil _ _ _) (by simp)).mono ?_
             rintro e w1 ⟨A1, c1, rfl, ho1, hE1⟩
             have c11 : w1.cell? ⟨b, off, none⟩ = some (.int .i64 (topD l)) := hE1.cell (by go_simp)))
      go_wp2
      go_ret3
      rw [e1.out, e6.out]
      exact ⟨_, _, rfl, ho1.ints, (Ext.refl w).drew.trans hE1, ho1.from⟩
    · have HI := Lib.hid (H.out.drop 1 (l.length - 1) (c - 1) rfl (by omega))
      go_enter Try.func39, Try.ntmps39
      go_wp2
      go_region_held3 (fun w' => w'.cell? ⟨b, off, none⟩ = some (.int .i64 (topD l)))
        (first | go_keep | exact c11)
        (first
          | (go_at_call 28
             have hcl := clone_any _ (stealL l) _ (HI.out.ext (Ext.refl w).drew) (by rw [e5.out]; omega)
             rw [e5.out] at hcl
             refine hcl.mono ?_
             clear hcl
             rintro e w1 ⟨A1, c1, rfl, ho1, hE1⟩
             have c11 : w1.cell? ⟨b, off, none⟩ = some (.int .i64 (topD l)) := hE1.cell (by go_simp)))
      go_wp2
      go_ret3
      rw [e1.out, e2.out]
      exact ⟨_, _, rfl, ho1.ints, (Ext.refl w).drew.trans hE1, ho1.from⟩

theorem steal_any (A : Option Addr) (c : Nat) (l : List Int) (w : World) (h : Ints w (.slice A l.length c) l) (hl : l.length ≤ 4000) :
    Calls Try.prog 39 #[.slice A l.length c] w fun e w' => ∃ A c, e = .returned (.tuple #[.slice A (stealL l).length c, .int .i64 (topD l), .int .i64 (popE l)]) ∧ Ints w' (.slice A (stealL l).length c) (stealL l) ∧ Ext w w' :=
  (steal_far A c l w h hl).mono fun e w' ⟨A, c, he, hi, hE, _⟩ => ⟨A, c, he, hi, hE⟩

end Go.Proofs.Ytebbpkdhdilkcaa

/- Pop and Steal of a crew's deque: what is left, and its room. -/
namespace Go.Proofs.Ytebbpkdhdilkcaa
open Go.BigFrame
open Go.RowKit Go.Proofs.Ytebbpkdhdilkcaa.Plain

theorem pop_zs (xs : List Nat) (h : xs ≠ []) : popL (zs xs) = zs xs.dropLast ∧ lastD (zs xs) = ((xs.getLastD 0 : Nat) : Int) ∧ popE (zs xs) = 0 := by
  have e := getLastD_snoc xs h
  obtain ⟨ys, y, hy⟩ : ∃ ys y, xs = ys ++ [y] := ⟨_, _, e⟩
  subst hy
  have e1 : (ys ++ [y]).dropLast = ys := List.dropLast_concat
  have e2 : (ys ++ [y]).getLastD 0 = y := by rw [List.getLastD_eq_getLast?, List.getLast?_concat]; rfl
  rw [e1, e2]
  have e3 : zs (ys ++ [y]) = zs ys ++ [(y : Int)] := by unfold zs; simp
  rw [e3]
  refine ⟨?_, ?_, ?_⟩
  · unfold popL; simp
  · unfold lastD; simp
  · unfold popE; simp
theorem steal_zs (xs : List Nat) (h : xs ≠ []) : stealL (zs xs) = zs xs.tail ∧ topD (zs xs) = ((xs.headD 0 : Nat) : Int) ∧ popE (zs xs) = 0 := by
  cases xs with
  | nil => exact absurd rfl h
  | cons y l =>
    refine ⟨?_, ?_, ?_⟩
    · unfold stealL zs; simp
    · unfold topD zs; simp
    · unfold popE zs; simp

set_option maxHeartbeats 400000 in
set_option maxRecDepth 100000 in
theorem pop_go (x : Hd) (xs : List Nat) (w : World) (hr : Rd kInt w x.v (zs xs)) (hn : x.n = xs.length) (hl : xs.length ≤ 4000) (h0 : xs ≠ []) :
    Calls Try.prog 38 #[x.v] w fun e w' => ∃ y : Hd, e = .returned (.tuple #[y.v, .int .i64 (xs.getLastD 0 : Nat), .int .i64 0]) ∧ y.n = xs.dropLast.length ∧ y.c = y.n ∧ (∀ S : Nat → Prop, (∀ x, S x → x < w.heap.size) → RdO kInt S w' y.v (zs xs.dropLast)) ∧ Ext w w' := by
  obtain ⟨p1, p2, p3⟩ := pop_zs xs h0
  obtain ⟨A, n, c⟩ := x
  obtain rfl : n = xs.length := hn
  obtain ⟨l, hl'⟩ : ∃ l, zs xs = l := ⟨_, rfl⟩
  have hlen : l.length = xs.length := by rw [← hl', zs_len]
  rw [hl'] at hr p1 p2 p3
  have H : Hid (Ints w (.slice A l.length c) l) := Lib.hid (by rw [hlen]; exact ints_of_rd hr)
  have h1 : 0 < l.length := by rw [hlen]; exact List.length_pos_iff.2 h0
  have e2 : Hid ((popL l).length = l.length - 1) := Lib.hid (popL_len l)
  have e3 : Hid (lastD l = l.getD (l.length - 1) 0) := Lib.hid rfl
  have P1 := Lib.hid p1
  have P2 := Lib.hid p2
  have HL := Lib.hid hlen
  have hb : l.length ≤ 4000 := by omega
  unfold Hd.v
  simp only
  rw [← hlen]
  clear hr p1 p2 p3 hl' hlen hl h0
  go_enter Try.func38, Try.ntmps38
  go_wp2_with fail
  refine (clone_any _ _ _ H.out (by omega)).mono ?_
  rintro e w1 ⟨A1, c1, rfl, ho, hE⟩
  obtain ⟨_, _, hsh, hdd⟩ := ho.shape
  have hdd1 : (l.length : Int) - 1 ≤ (c1 : Int) := by cases hsh; omega
  have hdd2 : (l.length : Int) ≤ (c1 : Int) := by cases hsh; omega
  clear hdd hsh
  obtain ⟨g, rfl, hgB, hgw, hgc, hgf, hgs⟩ := ho.pos h1
  have kf := hgc (l.length - 1) (by omega)
  rw [← e3.out] at kf
  have HO := Lib.hid ho
  have HE := Lib.hid hE
  clear hgc hgs hgf ho hE
  go_wp2_with fail
  go_quiet (fail)
  go_wp2
  go_ret3
  rw [P2.out]
  refine ⟨⟨some ⟨g, 0, none⟩, l.length - 1, l.length - 1⟩, rfl, ?_, rfl, fun S hS => ?_, HE.out.drewN _⟩
  · show l.length - 1 = _
    rw [List.length_dropLast, HL.out]
  · rw [← P1.out]
    exact Rd.offFrom (B := w.heap.size) (rd_of_ints (Ints.ext (HO.out.ints.take (l.length - 1) (l.length - 1) (by omega) (by omega)) ((Ext.refl _).drewN _))) HO.out.from hS
set_option maxHeartbeats 800000 in
set_option maxRecDepth 100000 in
theorem steal_go (x : Hd) (xs : List Nat) (w : World) (hr : Rd kInt w x.v (zs xs)) (hn : x.n = xs.length) (hl : xs.length ≤ 4000) (h0 : xs ≠ []) :
    Calls Try.prog 39 #[x.v] w fun e w' => ∃ y : Hd, e = .returned (.tuple #[y.v, .int .i64 (xs.headD 0 : Nat), .int .i64 0]) ∧ y.n = xs.tail.length ∧ (y.n = 0 → y.c = 0) ∧ (∀ S : Nat → Prop, (∀ x, S x → x < w.heap.size) → RdO kInt S w' y.v (zs xs.tail)) ∧ Ext w w' := by
  obtain ⟨A, n, c⟩ := x
  obtain rfl : n = xs.length := hn
  obtain ⟨z, zt, rfl⟩ : ∃ z zt, xs = z :: zt := ⟨_, _, head_tail xs h0⟩
  have H := Lib.hid hr
  have hcap : (z :: zt).length ≤ c := by obtain ⟨_, _, h1, h2⟩ := hr.slice; rw [zs_len] at h1 h2; cases h1; exact h2
  obtain ⟨b, off, rfl, hcc⟩ := hr.cells (by rw [zs_len]; simp)
  have k0 : w.cell? ⟨b, off, none⟩ = some (.int .i64 (z : Nat)) := by
    have := hcc 0 (by rw [zs_len]; simp) 0 _ rfl
    simpa [kInt, zs] using this
  have hb := World.block_lt_of_cell? _ _ k0
  simp at hb
  obtain ⟨m, hm⟩ : ∃ m, zt.length = m := ⟨_, rfl⟩
  have hm1 : (z :: zt).length = m + 1 := by rw [List.length_cons, hm]
  have HM := Lib.hid hm
  unfold Hd.v
  simp only [List.headD_cons, List.tail_cons]
  rw [hm1] at hcap hr hl ⊢
  have HR := Lib.hid hr
  have hc5 : ((m : Int) + 1 == 0) = false := by rw [beq_eq_false_iff_ne]; omega
  have hc4 : (1 : Int) ≤ (m : Int) + 1 := by omega
  have hc6 : (m : Int) + 1 ≤ c := by omega
  clear hcc hr hm hm1 h0 H
  by_cases hc1 : c = 1
  · subst hc1
    obtain rfl : m = 0 := by omega
    obtain rfl : zt = [] := List.eq_nil_of_length_eq_zero HM.out
    go_enter Try.func39, Try.ntmps39
    go_wp2
    go_region_held3 (fun w' => w'.cell? ⟨b, off, none⟩ = some (.int .i64 (z : Nat)))
      (first | go_keep | exact c11)
      (first
        | (go_at_call 28
           refine (clone_dq ⟨some ⟨b, off, none⟩, 0, 0⟩ [] _ (Rd.nil _ _ _) rfl (by simp)).mono ?_
           rintro e w1 ⟨y, rfl, hy1, hy2, hy3, hE1⟩
           have c11 : w1.cell? ⟨b, off, none⟩ = some (.int .i64 (z : Nat)) := hE1.cell (by go_simp)))
    go_wp2
    go_ret3
    exact ⟨y, rfl, hy1, hy2, hy3, (Ext.refl w).drew.trans hE1⟩
  · have HI : Hid (Rd kInt w (.slice (some ⟨b, off + 1, none⟩) m (c - 1)) (zs zt)) := Lib.hid (by
      have h7 := HR.out.drop 1 m (c - 1) (by rw [zs_len, List.length_cons, HM.out]; omega) (by omega)
      exact h7)
    go_enter Try.func39, Try.ntmps39
    go_wp2
    go_region_held3 (fun w' => w'.cell? ⟨b, off, none⟩ = some (.int .i64 (z : Nat)))
      (first | go_keep | exact c11)
      (first
        | (go_at_call 28
           refine (clone_dq ⟨some ⟨b, off + 1, none⟩, m, c - 1⟩ zt _ (HI.out.ext (Ext.refl w).drew) HM.out.symm (by rw [HM.out]; omega)).mono ?_
           rintro e w1 ⟨y, rfl, hy1, hy2, hy3, hE1⟩
           have c11 : w1.cell? ⟨b, off, none⟩ = some (.int .i64 (z : Nat)) := hE1.cell (by go_simp)))
    go_wp2
    go_ret3
    exact ⟨y, rfl, hy1, hy2, hy3, (Ext.refl w).drew.trans hE1⟩
end Go.Proofs.Ytebbpkdhdilkcaa
