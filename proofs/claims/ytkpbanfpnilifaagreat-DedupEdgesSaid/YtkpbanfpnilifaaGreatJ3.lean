/- Joined by wip/merge.py: R5B, CrRight, R5C, Deque, DMove, DTo, DRef, CrDeq, R5D, CrGo, CrGoer, CrGoAt, CrCopy, CrStep, CrStp. -/
import Derived.Test.YtkpbanfpnilifaaGreatJ2
import Derived.Deep.DeepCutAuto
import Derived.BigQuiet
import Derived.Deep.QuietTactic
import Derived.Deep.RegionHeld3
import Derived.Laws.Cover1
import Derived.Deep.RegionWith
import Derived.Deep.RegionLawGrows
import Derived.Deep.RegionLaw
import Derived.BigRegion
set_option linter.unusedVariables false
set_option linter.unusedSimpArgs false
set_option linter.unnecessarySimpa false
/- The document's copy of a crew (ref05): memory of its own. -/
namespace Go.Proofs.YtkpbanfpnilifaaGreat
open Go.BigFrame
open Go.RowKit Go.Proofs.YtkpbanfpnilifaaGreat.Plain

/-- a crew of the call's own memory: no list shares a block with another one -/
structure OwC (B : Nat) (w : World) (m : Nat) (c : Cw) (A A' : Option Addr) (e0 e a b : Nat) (L : List Hd) : Prop where
  tsk : Ow kTask B w (.slice A c.ts.length a) c.ts
  dns : Ow kBool B w (.slice A' c.dn.length b) c.dn
  row : Ow kRow B w (.slice (some ⟨e0, 0, none⟩) m e) L
  len : L.length = m
  dl : c.D.length = m
  els : ∀ j, j < m → (L.getD j hd0).n = (c.D.getD j []).length ∧ Ow kInt B w (L.getD j hd0).v (zs (c.D.getD j []))
  far : ∀ i j, i < m → j < m → i ≠ j → ∀ k, (L.getD i hd0).v.ownBlock = some k → (L.getD j hd0).v.ownBlock ≠ some k
theorem OwC.ext {B : Nat} {w W : World} {m : Nat} {c : Cw} {A A' : Option Addr} {e0 e a b : Nat} {L : List Hd} (h : OwC B w m c A A' e0 e a b L) (hE : Ext w W) : OwC B W m c A A' e0 e a b L :=
  ⟨h.tsk.ext hE, h.dns.ext hE, h.row.ext hE, h.len, h.dl, fun j hj => ⟨(h.els j hj).1, (h.els j hj).2.ext hE⟩, h.far⟩
/-- work of the call's own memory, as a value -/
def WorkOwn (B : Nat) (w : World) (v : Value) (ts : List Tk) (g : Int) (dn : List Bool) : Prop :=
  ∃ A c B' d, v = .agg #[.slice A ts.length c, .int .i64 g, .slice B' dn.length d] ∧ Ow kTask B w (.slice A ts.length c) ts ∧ Ow kBool B w (.slice B' dn.length d) dn
theorem WorkOwn.ext {B : Nat} {w W : World} {v : Value} {ts : List Tk} {g : Int} {dn : List Bool} (h : WorkOwn B w v ts g dn) (hE : Ext w W) : WorkOwn B W v ts g dn := by
  obtain ⟨A, c, B', d, h1, h2, h3⟩ := h
  exact ⟨A, c, B', d, h1, h2.ext hE, h3.ext hE⟩
/-- .. in a crew without deques -/
def CrewOwn0 (B : Nat) (w : World) (v : Value) (g : Int) (c : Cw) : Prop :=
  ∃ A a B' b, v = .agg #[.slice A c.ts.length a, .int .i64 g, .slice B' c.dn.length b, .slice none 0 0, .bool c.over, .int .i64 c.st, .int .i64 c.id] ∧ Ow kTask B w (.slice A c.ts.length a) c.ts ∧ Ow kBool B w (.slice B' c.dn.length b) c.dn
theorem CrewOwn0.ext {B : Nat} {w W : World} {v : Value} {g : Int} {c : Cw} (h : CrewOwn0 B w v g c) (hE : Ext w W) : CrewOwn0 B W v g c := by
  obtain ⟨A, a, B', d, h1, h2, h3⟩ := h
  exact ⟨A, a, B', d, h1, h2.ext hE, h3.ext hE⟩
/-- a new box -/
def BoxNew (B : Nat) (w : World) (v : Value) (cs : Array Value) (ty : TypeId) : Prop := ∃ x, v = .pointer (some ⟨x, 0, none⟩) ∧ B ≤ x ∧ w.heap[x]? = some (.cells cs ty (0, 0))
theorem BoxNew.ext {B : Nat} {w W : World} {v : Value} {cs : Array Value} {ty : TypeId} (h : BoxNew B w v cs ty) (hE : Ext w W) : BoxNew B W v cs ty := by
  obtain ⟨x, h1, h2, h3⟩ := h
  exact ⟨x, h1, h2, block_keep h3 hE⟩
theorem BoxNew.made (w : World) {B : Nat} (hB : B ≤ w.heap.size) (cs : Array Value) (ty : TypeId) : BoxNew B (w.alloc (.cells cs ty)) (.pointer (some ⟨w.heap.size, 0, none⟩)) cs ty := ⟨w.heap.size, rfl, hB, heap_alloc_new w _⟩
/-- lists lie in blocks of their own type alone -/
theorem Ow.notBox {α : Type} {K : Kd α} {B x : Nat} {w : World} {v : Value} {xs : List α} {cs : Array Value} {ty : TypeId} {r : Nat × Nat} (h : Ow K B w v xs) (hx : w.heap[x]? = some (.cells cs ty r)) (ht : K.e ≠ ty) : v.ownBlock ≠ some x := by
  obtain ⟨⟨h1, h2⟩, _⟩ := h
  rcases h2 with h2 | ⟨g, cap, cur, hv, hg, hh, hr⟩
  · rw [h2.1]; simp [Value.ownBlock]
  · rw [hv]
    simp only [Value.ownBlock, ne_eq, Option.some.injEq]
    intro e
    subst e
    rw [hh] at hx
    cases hx
    exact ht rfl

def R5C (w0 : World) (P : Nat) (A B : Option Addr) (eb eo a b e g m : Nat) (c : Cw) : Nat → World → List Value → Value → Prop
  | 0, w, ds, v => v = .pointer (some ⟨P, 0, none⟩)
  | 1, w, ds, v => v = .agg #[.slice A c.ts.length a, .int .i64 g, .slice B c.dn.length b]
  | 2, w, ds, v => WorkOwn w0.heap.size w v c.ts g c.dn
  | 3, w, ds, v => v = .pointer (some ⟨P, 4, none⟩)
  | 4, w, ds, v => v = .bool c.over
  | 5, w, ds, v => v = .pointer (some ⟨P, 5, none⟩)
  | 6, w, ds, v => v = .int .i64 c.st
  | 7, w, ds, v => v = .pointer (some ⟨P, 6, none⟩)
  | 8, w, ds, v => v = .int .i64 c.id
  | 9, w, ds, v => CrewOwn0 w0.heap.size w v g c
  | 10, w, ds, v => BoxNew w0.heap.size w v #[.slice none 0 0, .int .i64 0, .slice none 0 0, .slice none 0 0, .bool false, .int .i64 0, .int .i64 0] 81
  | _, _, _, _ => True
theorem R5C_ext (w0 : World) (P : Nat) (A B : Option Addr) (eb eo a b e g m : Nat) (c : Cw) : ∀ i w w' ds v, R5C w0 P A B eb eo a b e g m c i w ds v → Ext w w' → R5C w0 P A B eb eo a b e g m c i w' ds v
  | 0, _, _, _, _, h, _ => h
  | 1, _, _, _, _, h, _ => h
  | 2, _, _, _, _, h, hE => h.ext hE
  | 3, _, _, _, _, h, _ => h
  | 4, _, _, _, _, h, _ => h
  | 5, _, _, _, _, h, _ => h
  | 6, _, _, _, _, h, _ => h
  | 7, _, _, _, _, h, _ => h
  | 8, _, _, _, _, h, _ => h
  | 9, _, _, _, _, h, hE => h.ext hE
  | 10, _, _, _, _, h, hE => h.ext hE
  | _ + 11, _, _, _, _, _, _ => trivial
section
variable (w0 : World) (P : Nat) (A B : Option Addr) (eb eo a b e g m : Nat) (c : Cw) (w : World) (ds : List Value) (v : Value)
theorem R5C_i0 (h : v = .pointer (some ⟨P, 0, none⟩)) : R5C w0 P A B eb eo a b e g m c 0 w ds v := h
theorem R5C_e0 (h : R5C w0 P A B eb eo a b e g m c 0 w ds v) : v = .pointer (some ⟨P, 0, none⟩) := h
theorem R5C_i1 (h : v = .agg #[.slice A c.ts.length a, .int .i64 g, .slice B c.dn.length b]) : R5C w0 P A B eb eo a b e g m c 1 w ds v := h
theorem R5C_e1 (h : R5C w0 P A B eb eo a b e g m c 1 w ds v) : v = .agg #[.slice A c.ts.length a, .int .i64 g, .slice B c.dn.length b] := h
theorem R5C_i2 (h : WorkOwn w0.heap.size w v c.ts g c.dn) : R5C w0 P A B eb eo a b e g m c 2 w ds v := h
theorem R5C_e2 (h : R5C w0 P A B eb eo a b e g m c 2 w ds v) : WorkOwn w0.heap.size w v c.ts g c.dn := h
theorem R5C_i3 (h : v = .pointer (some ⟨P, 4, none⟩)) : R5C w0 P A B eb eo a b e g m c 3 w ds v := h
theorem R5C_e3 (h : R5C w0 P A B eb eo a b e g m c 3 w ds v) : v = .pointer (some ⟨P, 4, none⟩) := h
theorem R5C_i4 (h : v = .bool c.over) : R5C w0 P A B eb eo a b e g m c 4 w ds v := h
theorem R5C_e4 (h : R5C w0 P A B eb eo a b e g m c 4 w ds v) : v = .bool c.over := h
theorem R5C_i5 (h : v = .pointer (some ⟨P, 5, none⟩)) : R5C w0 P A B eb eo a b e g m c 5 w ds v := h
theorem R5C_e5 (h : R5C w0 P A B eb eo a b e g m c 5 w ds v) : v = .pointer (some ⟨P, 5, none⟩) := h
theorem R5C_i6 (h : v = .int .i64 c.st) : R5C w0 P A B eb eo a b e g m c 6 w ds v := h
theorem R5C_e6 (h : R5C w0 P A B eb eo a b e g m c 6 w ds v) : v = .int .i64 c.st := h
theorem R5C_i7 (h : v = .pointer (some ⟨P, 6, none⟩)) : R5C w0 P A B eb eo a b e g m c 7 w ds v := h
theorem R5C_e7 (h : R5C w0 P A B eb eo a b e g m c 7 w ds v) : v = .pointer (some ⟨P, 6, none⟩) := h
theorem R5C_i8 (h : v = .int .i64 c.id) : R5C w0 P A B eb eo a b e g m c 8 w ds v := h
theorem R5C_e8 (h : R5C w0 P A B eb eo a b e g m c 8 w ds v) : v = .int .i64 c.id := h
theorem R5C_i9 (h : CrewOwn0 w0.heap.size w v g c) : R5C w0 P A B eb eo a b e g m c 9 w ds v := h
theorem R5C_e9 (h : R5C w0 P A B eb eo a b e g m c 9 w ds v) : CrewOwn0 w0.heap.size w v g c := h
theorem R5C_i10 (h : BoxNew w0.heap.size w v #[.slice none 0 0, .int .i64 0, .slice none 0 0, .slice none 0 0, .bool false, .int .i64 0, .int .i64 0] 81) : R5C w0 P A B eb eo a b e g m c 10 w ds v := h
theorem R5C_e10 (h : R5C w0 P A B eb eo a b e g m c 10 w ds v) : BoxNew w0.heap.size w v #[.slice none 0 0, .int .i64 0, .slice none 0 0, .slice none 0 0, .bool false, .int .i64 0, .int .i64 0] 81 := h
end

def R5L (w0 : World) (row : Option Nat) (P V : Nat) (Ar A : Option Addr) (er eb eo e m k nh ch B : Nat) (L : List Hd) (D : List Nat) : Nat → World → List Value → Value → Prop
  | 0, w, ds, v => v = .pointer (some ⟨V, 3, none⟩)
  | 1, w, ds, v => v = .slice Ar k er
  | 2, w, ds, v => NewAt kInt w0.heap.size w v
  | 3, w, ds, v => v = .pointer (some ⟨P, 3, none⟩)
  | 4, w, ds, v => v = .slice (some ⟨eb, eo, none⟩) m e
  | 5, w, ds, v => v = .int .i64 k
  | 6, w, ds, v => v = .pointer (some ⟨eb, eo + k, none⟩)
  | 7, w, ds, v => v = .slice A nh ch
  | 8, w, ds, v => OwAt kInt w0.heap.size w v (zs D)
  | 9, w, ds, v => ∃ x, ds.getD 0 undef = x.v ∧ OneAt kRow w0.heap.size w v x
  | 10, w, ds, v => ∃ x : Hd, ds.getD 2 undef = x.v ∧ AppAt kRow B w v (L ++ [x]) (.slice Ar k er) w0.heap.size
  | _, _, _, _ => True
theorem R5L_ext (w0 : World) (row : Option Nat) (P V : Nat) (Ar A : Option Addr) (er eb eo e m k nh ch B : Nat) (L : List Hd) (D : List Nat) : ∀ i w w' ds v, R5L w0 row P V Ar A er eb eo e m k nh ch B L D i w ds v → Ext w w' → R5L w0 row P V Ar A er eb eo e m k nh ch B L D i w' ds v
  | 0, _, _, _, _, h, _ => h
  | 1, _, _, _, _, h, _ => h
  | 2, _, _, _, _, h, hE => NewAt.ext h hE
  | 3, _, _, _, _, h, _ => h
  | 4, _, _, _, _, h, _ => h
  | 5, _, _, _, _, h, _ => h
  | 6, _, _, _, _, h, _ => h
  | 7, _, _, _, _, h, _ => h
  | 8, _, _, _, _, h, hE => OwAt.ext h hE
  | 9, _, _, _, _, h, hE => (by obtain ⟨x, h1, h2⟩ := h; exact ⟨x, h1, OneAt.ext h2 hE⟩)
  | 10, _, _, _, _, h, hE => (by obtain ⟨x, h1, h2⟩ := h; exact ⟨x, h1, h2.ext hE⟩)
  | _ + 11, _, _, _, _, _, _ => trivial
theorem R5L_sw (w0 : World) (row : Option Nat) (P V : Nat) (Ar A : Option Addr) (er eb eo e m k nh ch B : Nat) (L : List Hd) (D : List Nat) (hrow : ∀ b, row = some b → b < w0.heap.size) : ∀ i w w' ds v, i ≠ 10 → R5L w0 row P V Ar A er eb eo e m k nh ch B L D i w ds v → Wr row w w' → R5L w0 row P V Ar A er eb eo e m k nh ch B L D i w' ds v
  | 0, _, _, _, _, _, h, _ => h
  | 1, _, _, _, _, _, h, _ => h
  | 2, _, _, _, _, _, h, hE => NewAt.sw h hE hrow
  | 3, _, _, _, _, _, h, _ => h
  | 4, _, _, _, _, _, h, _ => h
  | 5, _, _, _, _, _, h, _ => h
  | 6, _, _, _, _, _, h, _ => h
  | 7, _, _, _, _, _, h, _ => h
  | 8, _, _, _, _, _, h, hE => OwAt.sw h hE hrow
  | 9, _, _, _, _, _, h, hE => (by obtain ⟨x, h1, h2⟩ := h; exact ⟨x, h1, OneAt.sw h2 hE hrow⟩)
  | 10, _, _, _, _, hq, _, _ => absurd rfl hq
  | _ + 11, _, _, _, _, _, _, _ => trivial
section
variable (w0 : World) (row : Option Nat) (P V : Nat) (Ar A : Option Addr) (er eb eo e m k nh ch B : Nat) (L : List Hd) (D : List Nat) (w : World) (ds : List Value) (v : Value)
theorem R5L_i0 (h : v = .pointer (some ⟨V, 3, none⟩)) : R5L w0 row P V Ar A er eb eo e m k nh ch B L D 0 w ds v := h
theorem R5L_e0 (h : R5L w0 row P V Ar A er eb eo e m k nh ch B L D 0 w ds v) : v = .pointer (some ⟨V, 3, none⟩) := h
theorem R5L_i1 (h : v = .slice Ar k er) : R5L w0 row P V Ar A er eb eo e m k nh ch B L D 1 w ds v := h
theorem R5L_e1 (h : R5L w0 row P V Ar A er eb eo e m k nh ch B L D 1 w ds v) : v = .slice Ar k er := h
theorem R5L_i2 (h : NewAt kInt w0.heap.size w v) : R5L w0 row P V Ar A er eb eo e m k nh ch B L D 2 w ds v := h
theorem R5L_e2 (h : R5L w0 row P V Ar A er eb eo e m k nh ch B L D 2 w ds v) : NewAt kInt w0.heap.size w v := h
theorem R5L_i3 (h : v = .pointer (some ⟨P, 3, none⟩)) : R5L w0 row P V Ar A er eb eo e m k nh ch B L D 3 w ds v := h
theorem R5L_e3 (h : R5L w0 row P V Ar A er eb eo e m k nh ch B L D 3 w ds v) : v = .pointer (some ⟨P, 3, none⟩) := h
theorem R5L_i4 (h : v = .slice (some ⟨eb, eo, none⟩) m e) : R5L w0 row P V Ar A er eb eo e m k nh ch B L D 4 w ds v := h
theorem R5L_e4 (h : R5L w0 row P V Ar A er eb eo e m k nh ch B L D 4 w ds v) : v = .slice (some ⟨eb, eo, none⟩) m e := h
theorem R5L_i5 (h : v = .int .i64 k) : R5L w0 row P V Ar A er eb eo e m k nh ch B L D 5 w ds v := h
theorem R5L_e5 (h : R5L w0 row P V Ar A er eb eo e m k nh ch B L D 5 w ds v) : v = .int .i64 k := h
theorem R5L_i6 (h : v = .pointer (some ⟨eb, eo + k, none⟩)) : R5L w0 row P V Ar A er eb eo e m k nh ch B L D 6 w ds v := h
theorem R5L_e6 (h : R5L w0 row P V Ar A er eb eo e m k nh ch B L D 6 w ds v) : v = .pointer (some ⟨eb, eo + k, none⟩) := h
theorem R5L_i7 (h : v = .slice A nh ch) : R5L w0 row P V Ar A er eb eo e m k nh ch B L D 7 w ds v := h
theorem R5L_e7 (h : R5L w0 row P V Ar A er eb eo e m k nh ch B L D 7 w ds v) : v = .slice A nh ch := h
theorem R5L_i8 (h : OwAt kInt w0.heap.size w v (zs D)) : R5L w0 row P V Ar A er eb eo e m k nh ch B L D 8 w ds v := h
theorem R5L_e8 (h : R5L w0 row P V Ar A er eb eo e m k nh ch B L D 8 w ds v) : OwAt kInt w0.heap.size w v (zs D) := h
theorem R5L_i9 (h : ∃ x, ds.getD 0 undef = x.v ∧ OneAt kRow w0.heap.size w v x) : R5L w0 row P V Ar A er eb eo e m k nh ch B L D 9 w ds v := h
theorem R5L_e9 (h : R5L w0 row P V Ar A er eb eo e m k nh ch B L D 9 w ds v) : ∃ x, ds.getD 0 undef = x.v ∧ OneAt kRow w0.heap.size w v x := h
theorem R5L_i10 (h : ∃ x : Hd, ds.getD 2 undef = x.v ∧ AppAt kRow B w v (L ++ [x]) (.slice Ar k er) w0.heap.size) : R5L w0 row P V Ar A er eb eo e m k nh ch B L D 10 w ds v := h
theorem R5L_e10 (h : R5L w0 row P V Ar A er eb eo e m k nh ch B L D 10 w ds v) : ∃ x : Hd, ds.getD 2 undef = x.v ∧ AppAt kRow B w v (L ++ [x]) (.slice Ar k er) w0.heap.size := h
end

/-- while a crew is copied -/
structure R5At (w0 wr : World) (V k g : Nat) (c : Cw) (A1 B1 : Option Addr) (a1 b1 : Nat) (L : List Hd) (Ar : Option Addr) (er : Nat) : Prop where
  box : wr.heap[V]? = some (.cells #[.slice A1 c.ts.length a1, .int .i64 g, .slice B1 c.dn.length b1, .slice Ar k er, .bool c.over, .int .i64 c.st, .int .i64 c.id] 81 (0, 0))
  tsk : Ow kTask w0.heap.size wr (.slice A1 c.ts.length a1) c.ts
  dns : Ow kBool w0.heap.size wr (.slice B1 c.dn.length b1) c.dn
  row : Ow kRow w0.heap.size wr (.slice Ar k er) L
  len : L.length = k
  els : ∀ j, j < k → (L.getD j hd0).n = (c.D.getD j []).length ∧ Ow kInt w0.heap.size wr (L.getD j hd0).v (zs (c.D.getD j []))
  far : ∀ i j, i < k → j < k → i ≠ j → ∀ b, (L.getD i hd0).v.ownBlock = some b → (L.getD j hd0).v.ownBlock ≠ some b
  ext : Ext w0 wr
  vl : w0.heap.size ≤ V
theorem Ow.zsN {B : Nat} {w : World} {A : Option Addr} {n c : Nat} {xs : List Nat} (h : Ow kInt B w (.slice A n c) (zs xs)) : n = xs.length := by
  obtain ⟨A', c', h, _⟩ := h.slice
  cases h
  exact zs_len xs
theorem R5At.next {w0 wr w5 : World} {V k g : Nat} {c : Cw} {A1 B1 : Option Addr} {a1 b1 : Nat} {L : List Hd} {Ar : Option Addr} {er : Nat} (h : R5At w0 wr V k g c A1 B1 a1 b1 L Ar er) (hG : Wr (Value.ownBlock (.slice Ar k er)) wr w5) {x : Hd} (hx : Ow kInt wr.heap.size w5 x.v (zs (c.D.getD k []))) {v : Value} (hA : AppAt kRow w0.heap.size w5 v (L ++ [x]) (.slice Ar k er) wr.heap.size) :
    ∃ Ar' er', v = .slice Ar' (k + 1) er' ∧ R5At w0 (w5.setCell ⟨V, 3, none⟩ v) V (k + 1) g c A1 B1 a1 b1 (L ++ [x]) Ar' er' := by
  obtain ⟨hv, _⟩ := hA
  obtain ⟨Ar', er', rfl, _⟩ := hv.slice
  have hl : (L ++ [x]).length = k + 1 := by simp [h.len]
  rw [hl] at hv ⊢
  refine ⟨Ar', er', rfl, ?_⟩
  have nV : ¬ (Value.ownBlock (.slice Ar k er)) = some V := h.row.notBox h.box (by decide)
  have hb5 := block_wr h.box hG nV
  have far1 : ∀ {α : Type} {K : Kd α} {v : Value} {xs : List α}, K.e ≠ kRow.e → Ow K w0.heap.size wr v xs → ∀ k', v.ownBlock = some k' → ¬ (Value.ownBlock (.slice Ar k er)) = some k' := fun hne ho k' hk' => Ow.far hne ho h.row k' hk'
  have sto : ∀ {α : Type} {K : Kd α} {v : Value} {xs : List α} (u : Value), K.e ≠ 81 → Ow K w0.heap.size w5 v xs → Ow K w0.heap.size (w5.setCell ⟨V, 3, none⟩ u) v xs := fun u hne ho => ho.setOther (p := ⟨V, 3, none⟩) (ho.notBox hb5 hne) u
  refine ⟨(set_block (i := 3) hb5 _).trans rfl, sto _ (by decide) (h.tsk.wr hG (far1 (by decide) h.tsk)), sto _ (by decide) (h.dns.wr hG (far1 (by decide) h.dns)), sto _ (by decide) hv, hl, fun j hj => ?_, fun i j hi hj hij b hb => ?_, ?_, h.vl⟩
  · by_cases e : j = k
    · subst e
      have e1 : (L ++ [x]).getD j hd0 = x := by rw [List.getD_eq_getElem?_getD, List.getElem?_append_right (by rw [h.len]; exact Nat.le_refl _)]; simp [h.len]
      rw [e1]
      exact ⟨Ow.zsN hx, sto _ (by decide) (hx.mono h.ext.size)⟩
    · have e1 : (L ++ [x]).getD j hd0 = L.getD j hd0 := by rw [List.getD_eq_getElem?_getD, List.getElem?_append_left (by rw [h.len]; omega), List.getD_eq_getElem?_getD]
      rw [e1]
      obtain ⟨h1, h2⟩ := h.els j (by omega)
      exact ⟨h1, sto _ (by decide) (h2.wr hG (far1 (by decide) h2))⟩
  · have e0 : ∀ j, j < k → (L ++ [x]).getD j hd0 = L.getD j hd0 := fun j hj => by rw [List.getD_eq_getElem?_getD, List.getElem?_append_left (by rw [h.len]; omega), List.getD_eq_getElem?_getD]
    have e1 : (L ++ [x]).getD k hd0 = x := by rw [List.getD_eq_getElem?_getD, List.getElem?_append_right (by rw [h.len]; exact Nat.le_refl _)]; simp [h.len]
    by_cases ei : i = k
    · subst ei
      have hj' : j < i := by omega
      rw [e1] at hb
      rw [e0 j hj']
      intro hj2
      have := (hx.lt b hb).1
      have := ((h.els j hj').2.lt b hj2).2
      omega
    · have hi' : i < k := by omega
      rw [e0 i hi'] at hb
      by_cases ej : j = k
      · subst ej
        rw [e1]
        intro hj2
        have := (hx.lt b hj2).1
        have := ((h.els i hi').2.lt b hb).2
        omega
      · rw [e0 j (by omega)]
        exact h.far i j hi' (by omega) hij b hb
  · exact (Wr.toExt hG h.ext (fun b hb => (h.row.lt b hb).1)).setCell (p := ⟨V, 3, none⟩) h.vl _

set_option maxHeartbeats 3200000 in
set_option maxRecDepth 100000 in
theorem r5copy_any (A B : Option Addr) (eb eo a b e g m : Nat) (c : Cw) (w : World) (h : CrewAt w m c A B eb eo a b) (me : m ≤ e) (m1 : 1 ≤ m) (m2 : m ≤ 8) (lt : c.ts.length ≤ 4000) (ln : c.dn.length ≤ 4000) (lh : ∀ j, (c.D.getD j []).length ≤ 1000000) :
    Calls Tryz.prog 72 #[crewV A B eb eo a b e g m c] w fun ed w' => ∃ (A1 B1 : Option Addr) (e0 a1 b1 e1 : Nat) (L : List Hd), ed = .returned (crewV A1 B1 e0 0 a1 b1 e1 g m c) ∧
      OwC w.heap.size w' m c A1 B1 e0 e1 a1 b1 L ∧ Ext w w' := by
  have HLH := Lib.hid lh
  obtain ⟨hs0, hds⟩ := h.deq
  have HDL : Hid (c.D.length = m) := Lib.hid hds.1
  have m3 : (m : Int) ≤ 8 := by omega
  have m4 : (1 : Int) ≤ m := by omega
  have m5 : (m : Int) ≤ e := by omega
  have E0 : Ext w ((w.alloc (.cells #[.slice A c.ts.length a, .int .i64 g, .slice B c.dn.length b, .slice (some ⟨eb, eo, none⟩) m e, .bool c.over, .int .i64 c.st, .int .i64 c.id] 81)).alloc (.cells #[.slice none 0 0, .int .i64 0, .slice none 0 0, .slice none 0 0, .bool false, .int .i64 0, .int .i64 0] 81)) := ((Ext.refl w).alloc _).alloc _
  have HT := Lib.hid (h.tsk.rd.ext E0)
  have HD := Lib.hid (h.dns.rd.ext E0)
  have HDS := Lib.hid (hds.ext E0)
  have X := Lib.hid E0
  clear h hds lh E0
  go_enter Tryz.func72, Tryz.ntmps72
  go_wp2_with fail
  have q0 : ((w.alloc (.cells #[.slice A c.ts.length a, .int .i64 g, .slice B c.dn.length b, .slice (some ⟨eb, eo, none⟩) m e, .bool c.over, .int .i64 c.st, .int .i64 c.id] 81)).alloc (.cells #[.slice none 0 0, .int .i64 0, .slice none 0 0, .slice none 0 0, .bool false, .int .i64 0, .int .i64 0] 81)).cell? ⟨w.heap.size, 0, none⟩ = some (.slice A c.ts.length a) := by go_simp
  have q1 : ((w.alloc (.cells #[.slice A c.ts.length a, .int .i64 g, .slice B c.dn.length b, .slice (some ⟨eb, eo, none⟩) m e, .bool c.over, .int .i64 c.st, .int .i64 c.id] 81)).alloc (.cells #[.slice none 0 0, .int .i64 0, .slice none 0 0, .slice none 0 0, .bool false, .int .i64 0, .int .i64 0] 81)).cell? ⟨w.heap.size, 1, none⟩ = some (.int .i64 g) := by go_simp
  have q2 : ((w.alloc (.cells #[.slice A c.ts.length a, .int .i64 g, .slice B c.dn.length b, .slice (some ⟨eb, eo, none⟩) m e, .bool c.over, .int .i64 c.st, .int .i64 c.id] 81)).alloc (.cells #[.slice none 0 0, .int .i64 0, .slice none 0 0, .slice none 0 0, .bool false, .int .i64 0, .int .i64 0] 81)).cell? ⟨w.heap.size, 2, none⟩ = some (.slice B c.dn.length b) := by go_simp
  have q3 : ((w.alloc (.cells #[.slice A c.ts.length a, .int .i64 g, .slice B c.dn.length b, .slice (some ⟨eb, eo, none⟩) m e, .bool c.over, .int .i64 c.st, .int .i64 c.id] 81)).alloc (.cells #[.slice none 0 0, .int .i64 0, .slice none 0 0, .slice none 0 0, .bool false, .int .i64 0, .int .i64 0] 81)).cell? ⟨w.heap.size, 3, none⟩ = some (.slice (some ⟨eb, eo, none⟩) m e) := by go_simp
  have q4 : ((w.alloc (.cells #[.slice A c.ts.length a, .int .i64 g, .slice B c.dn.length b, .slice (some ⟨eb, eo, none⟩) m e, .bool c.over, .int .i64 c.st, .int .i64 c.id] 81)).alloc (.cells #[.slice none 0 0, .int .i64 0, .slice none 0 0, .slice none 0 0, .bool false, .int .i64 0, .int .i64 0] 81)).cell? ⟨w.heap.size, 4, none⟩ = some (.bool c.over) := by go_simp
  have q5 : ((w.alloc (.cells #[.slice A c.ts.length a, .int .i64 g, .slice B c.dn.length b, .slice (some ⟨eb, eo, none⟩) m e, .bool c.over, .int .i64 c.st, .int .i64 c.id] 81)).alloc (.cells #[.slice none 0 0, .int .i64 0, .slice none 0 0, .slice none 0 0, .bool false, .int .i64 0, .int .i64 0] 81)).cell? ⟨w.heap.size, 5, none⟩ = some (.int .i64 c.st) := by go_simp
  have q6 : ((w.alloc (.cells #[.slice A c.ts.length a, .int .i64 g, .slice B c.dn.length b, .slice (some ⟨eb, eo, none⟩) m e, .bool c.over, .int .i64 c.st, .int .i64 c.id] 81)).alloc (.cells #[.slice none 0 0, .int .i64 0, .slice none 0 0, .slice none 0 0, .bool false, .int .i64 0, .int .i64 0] 81)).cell? ⟨w.heap.size, 6, none⟩ = some (.int .i64 c.id) := by go_simp
  have r0 : ((w.alloc (.cells #[.slice A c.ts.length a, .int .i64 g, .slice B c.dn.length b, .slice (some ⟨eb, eo, none⟩) m e, .bool c.over, .int .i64 c.st, .int .i64 c.id] 81)).alloc (.cells #[.slice none 0 0, .int .i64 0, .slice none 0 0, .slice none 0 0, .bool false, .int .i64 0, .int .i64 0] 81)).heap[w.heap.size + 1]? = some (.cells #[.slice none 0 0, .int .i64 0, .slice none 0 0, .slice none 0 0, .bool false, .int .i64 0, .int .i64 0] 81 (0, 0)) := heap_alloc2_new w _ _
  have hz : ((w.alloc (.cells #[.slice A c.ts.length a, .int .i64 g, .slice B c.dn.length b, .slice (some ⟨eb, eo, none⟩) m e, .bool c.over, .int .i64 c.st, .int .i64 c.id] 81)).alloc (.cells #[.slice none 0 0, .int .i64 0, .slice none 0 0, .slice none 0 0, .bool false, .int .i64 0, .int .i64 0] 81)).heap.size = w.heap.size + 2 := by simp
  generalize ((w.alloc (.cells #[.slice A c.ts.length a, .int .i64 g, .slice B c.dn.length b, .slice (some ⟨eb, eo, none⟩) m e, .bool c.over, .int .i64 c.st, .int .i64 c.id] 81)).alloc (.cells #[.slice none 0 0, .int .i64 0, .slice none 0 0, .slice none 0 0, .bool false, .int .i64 0, .int .i64 0] 81)) = w0 at *
  obtain ⟨P, hP⟩ : ∃ P, w.heap.size = P := ⟨_, rfl⟩
  have HZ := Lib.hid hz
  have HP := Lib.hid hP
  rw [hP] at q0 q1 q2 q3 q4 q5 q6 r0 ⊢
  clear hz hP
  refine Mono.wp_region_mono 11 (R5C w0 P A B eb eo a b e g m c) (by kernel_rfl) (by kernel_rfl) (R5C_ext w0 P A B eb eo a b e g m c) ?_ ?_
  · intro i o hi ho vals w5 hE hcl
    have hi' : i = 0 ∨ i = 1 ∨ i = 2 ∨ i = 3 ∨ i = 4 ∨ i = 5 ∨ i = 6 ∨ i = 7 ∨ i = 8 ∨ i = 9 ∨ i = 10 := by omega
    rcases hi' with rfl | rfl | rfl | rfl | rfl | rfl | rfl | rfl | rfl | rfl | rfl
    · simp only [List.getElem?_cons_succ, List.getElem?_cons_zero, Option.some.injEq] at ho
      subst ho
      rw [if_pos (Mono.wanted_none rfl)]
      clear hcl
      refine Mono.yields_same (.pointer (some ⟨P, 0, none⟩)) w5 ?_ ⟨Ext.refl _, R5C_i0 _ _ _ _ _ _ _ _ _ _ _ _ _ _ _ rfl⟩
      simp only [Mono.all, List.take, Act.put]
      go_simp
    · simp only [List.getElem?_cons_succ, List.getElem?_cons_zero, Option.some.injEq] at ho
      subst ho
      rw [if_pos (Mono.wanted_none rfl)]
      have h1 : vals 0 = .pointer (some ⟨P, 0, none⟩) := (R5C_e0 _ _ _ _ _ _ _ _ _ _ _ _ _ _ _ (hcl 0 (by kernel_rfl)))
      have k0 := hE.cell q0
      have k1 := hE.cell q1
      have k2 := hE.cell q2
      clear hcl
      refine Mono.yields_same (.agg #[.slice A c.ts.length a, .int .i64 g, .slice B c.dn.length b]) w5 ?_ ⟨Ext.refl _, R5C_i1 _ _ _ _ _ _ _ _ _ _ _ _ _ _ _ rfl⟩
      simp only [Mono.all, List.take, Act.put]
      go_simp
    · simp only [List.getElem?_cons_succ, List.getElem?_cons_zero, Option.some.injEq] at ho
      subst ho
      rw [if_pos (Mono.wanted_none rfl)]
      have h1 : vals 1 = .agg #[.slice A c.ts.length a, .int .i64 g, .slice B c.dn.length b] := (R5C_e1 _ _ _ _ _ _ _ _ _ _ _ _ _ _ _ (hcl 1 (by kernel_rfl)))
      clear hcl
      refine Mono.yields_call 83 #[.agg #[.slice A c.ts.length a, .int .i64 g, .slice B c.dn.length b]] w5 ?_ ((rcopy_any A B a b c.ts g c.dn w5 (HT.out.ext hE) (HD.out.ext hE) lt ln).mono ?_)
      · simp only [Mono.all, List.take, Act.put]
        go_simp
      · rintro ed w6 ⟨A1, c1, B1, d1, rfl, o1, o2, hE6⟩
        exact ⟨_, rfl, hE6, R5C_i2 _ _ _ _ _ _ _ _ _ _ _ _ _ _ _ ⟨A1, c1, B1, d1, rfl, o1.mono hE.size, o2.mono hE.size⟩⟩
    · simp only [List.getElem?_cons_succ, List.getElem?_cons_zero, Option.some.injEq] at ho
      subst ho
      rw [if_pos (Mono.wanted_none rfl)]
      clear hcl
      refine Mono.yields_same (.pointer (some ⟨P, 4, none⟩)) w5 ?_ ⟨Ext.refl _, R5C_i3 _ _ _ _ _ _ _ _ _ _ _ _ _ _ _ rfl⟩
      simp only [Mono.all, List.take, Act.put]
      go_simp
    · simp only [List.getElem?_cons_succ, List.getElem?_cons_zero, Option.some.injEq] at ho
      subst ho
      rw [if_pos (Mono.wanted_none rfl)]
      have h1 : vals 3 = .pointer (some ⟨P, 4, none⟩) := R5C_e3 _ _ _ _ _ _ _ _ _ _ _ _ _ _ _ (hcl 3 (by kernel_rfl))
      have k1 := hE.cell q4
      clear hcl
      refine Mono.yields_same (.bool c.over) w5 ?_ ⟨Ext.refl _, R5C_i4 _ _ _ _ _ _ _ _ _ _ _ _ _ _ _ rfl⟩
      simp only [Mono.all, List.take, Act.put]
      go_simp
    · simp only [List.getElem?_cons_succ, List.getElem?_cons_zero, Option.some.injEq] at ho
      subst ho
      rw [if_pos (Mono.wanted_none rfl)]
      clear hcl
      refine Mono.yields_same (.pointer (some ⟨P, 5, none⟩)) w5 ?_ ⟨Ext.refl _, R5C_i5 _ _ _ _ _ _ _ _ _ _ _ _ _ _ _ rfl⟩
      simp only [Mono.all, List.take, Act.put]
      go_simp
    · simp only [List.getElem?_cons_succ, List.getElem?_cons_zero, Option.some.injEq] at ho
      subst ho
      rw [if_pos (Mono.wanted_none rfl)]
      have h1 : vals 5 = .pointer (some ⟨P, 5, none⟩) := R5C_e5 _ _ _ _ _ _ _ _ _ _ _ _ _ _ _ (hcl 5 (by kernel_rfl))
      have k1 := hE.cell q5
      clear hcl
      refine Mono.yields_same (.int .i64 c.st) w5 ?_ ⟨Ext.refl _, R5C_i6 _ _ _ _ _ _ _ _ _ _ _ _ _ _ _ rfl⟩
      simp only [Mono.all, List.take, Act.put]
      go_simp
    · simp only [List.getElem?_cons_succ, List.getElem?_cons_zero, Option.some.injEq] at ho
      subst ho
      rw [if_pos (Mono.wanted_none rfl)]
      clear hcl
      refine Mono.yields_same (.pointer (some ⟨P, 6, none⟩)) w5 ?_ ⟨Ext.refl _, R5C_i7 _ _ _ _ _ _ _ _ _ _ _ _ _ _ _ rfl⟩
      simp only [Mono.all, List.take, Act.put]
      go_simp
    · simp only [List.getElem?_cons_succ, List.getElem?_cons_zero, Option.some.injEq] at ho
      subst ho
      rw [if_pos (Mono.wanted_none rfl)]
      have h1 : vals 7 = .pointer (some ⟨P, 6, none⟩) := R5C_e7 _ _ _ _ _ _ _ _ _ _ _ _ _ _ _ (hcl 7 (by kernel_rfl))
      have k1 := hE.cell q6
      clear hcl
      refine Mono.yields_same (.int .i64 c.id) w5 ?_ ⟨Ext.refl _, R5C_i8 _ _ _ _ _ _ _ _ _ _ _ _ _ _ _ rfl⟩
      simp only [Mono.all, List.take, Act.put]
      go_simp
    · simp only [List.getElem?_cons_succ, List.getElem?_cons_zero, Option.some.injEq] at ho
      subst ho
      rw [if_pos (Mono.wanted_none rfl)]
      obtain ⟨A1, c1, B1, d1, h2, o1, o2⟩ : WorkOwn w0.heap.size w5 (vals 2) c.ts g c.dn := (R5C_e2 _ _ _ _ _ _ _ _ _ _ _ _ _ _ _ (hcl 2 (by kernel_rfl)))
      have h4 : vals 4 = .bool c.over := (R5C_e4 _ _ _ _ _ _ _ _ _ _ _ _ _ _ _ (hcl 4 (by kernel_rfl)))
      have h6 : vals 6 = .int .i64 c.st := (R5C_e6 _ _ _ _ _ _ _ _ _ _ _ _ _ _ _ (hcl 6 (by kernel_rfl)))
      have h8 : vals 8 = .int .i64 c.id := (R5C_e8 _ _ _ _ _ _ _ _ _ _ _ _ _ _ _ (hcl 8 (by kernel_rfl)))
      clear hcl
      refine Mono.yields_same (.agg #[.slice A1 c.ts.length c1, .int .i64 g, .slice B1 c.dn.length d1, .slice none 0 0, .bool c.over, .int .i64 c.st, .int .i64 c.id]) w5 ?_ ⟨Ext.refl _, R5C_i9 _ _ _ _ _ _ _ _ _ _ _ _ _ _ _ ⟨A1, c1, B1, d1, rfl, o1, o2⟩⟩
      simp only [Mono.all, List.take, Act.put]
      go_simp
    · simp only [List.getElem?_cons_succ, List.getElem?_cons_zero, Option.some.injEq] at ho
      subst ho
      rw [if_pos (Mono.wanted_none rfl)]
      clear hcl
      refine Mono.yields_same (.pointer (some ⟨w5.heap.size, 0, none⟩)) (w5.alloc (.cells #[.slice none 0 0, .int .i64 0, .slice none 0 0, .slice none 0 0, .bool false, .int .i64 0, .int .i64 0] 81)) ?_ ⟨(Ext.refl _).alloc _, R5C_i10 _ _ _ _ _ _ _ _ _ _ _ _ _ _ _ (BoxNew.made w5 hE.size _ _)⟩
      simp only [Mono.all, List.take, Act.put]
      go_simp
  · intro vals w5 hE hv
    have e4 := R5C_e4 _ _ _ _ _ _ _ _ _ _ _ _ _ _ _ (hv 4 (by omega))
    have e6 := R5C_e6 _ _ _ _ _ _ _ _ _ _ _ _ _ _ _ (hv 6 (by omega))
    have e8 := R5C_e8 _ _ _ _ _ _ _ _ _ _ _ _ _ _ _ (hv 8 (by omega))
    obtain ⟨A1, a1, B1, b1, e9, o1, o2⟩ := (R5C_e9 _ _ _ _ _ _ _ _ _ _ _ _ _ _ _ (hv 9 (by omega)))
    obtain ⟨V, e10, hV, hx⟩ := (R5C_e10 _ _ _ _ _ _ _ _ _ _ _ _ _ _ _ (hv 10 (by omega)))
    have k10 := fun o => frozen_of_row w5 V o _ _ hx
    have y0 : w5.cell? ⟨V, 0, none⟩ = some (.slice none 0 0) := (cell_of_row w5 V 0 _ _ _ hx).trans rfl
    have y1 : w5.cell? ⟨V, 1, none⟩ = some (.int .i64 0) := (cell_of_row w5 V 1 _ _ _ hx).trans rfl
    have y2 : w5.cell? ⟨V, 2, none⟩ = some (.slice none 0 0) := (cell_of_row w5 V 2 _ _ _ hx).trans rfl
    have y3 : w5.cell? ⟨V, 3, none⟩ = some (.slice none 0 0) := (cell_of_row w5 V 3 _ _ _ hx).trans rfl
    have y4 : w5.cell? ⟨V, 4, none⟩ = some (.bool false) := (cell_of_row w5 V 4 _ _ _ hx).trans rfl
    have y5 : w5.cell? ⟨V, 5, none⟩ = some (.int .i64 0) := (cell_of_row w5 V 5 _ _ _ hx).trans rfl
    have y6 : w5.cell? ⟨V, 6, none⟩ = some (.int .i64 0) := (cell_of_row w5 V 6 _ _ _ hx).trans rfl
    clear hv
    simp only [Mono.all, List.take, List.drop, Act.put]
    rw [e9, e10]
    go_wp2_with fail
    have hbx : (((((((w5.setCell ⟨V, 0, none⟩ (.slice A1 c.ts.length a1)).setCell ⟨V, 1, none⟩ (.int .i64 g)).setCell ⟨V, 2, none⟩ (.slice B1 c.dn.length b1)).setCell ⟨V, 3, none⟩ (.slice none 0 0)).setCell ⟨V, 4, none⟩ (.bool c.over)).setCell ⟨V, 5, none⟩ (.int .i64 c.st)).setCell ⟨V, 6, none⟩ (.int .i64 c.id)).heap[V]? = some (.cells #[.slice A1 c.ts.length a1, .int .i64 g, .slice B1 c.dn.length b1, .slice none 0 0, .bool c.over, .int .i64 c.st, .int .i64 c.id] 81 (0, 0)) := (set_block (i := 6) (set_block (i := 5) (set_block (i := 4) (set_block (i := 3) (set_block (i := 2) (set_block (i := 1) (set_block (i := 0) hx _) _) _) _) _) _) _).trans rfl
    have nT := o1.notBox hx (by decide)
    have nD := o2.notBox hx (by decide)
    have hT7 : Ow kTask w0.heap.size (((((((w5.setCell ⟨V, 0, none⟩ (.slice A1 c.ts.length a1)).setCell ⟨V, 1, none⟩ (.int .i64 g)).setCell ⟨V, 2, none⟩ (.slice B1 c.dn.length b1)).setCell ⟨V, 3, none⟩ (.slice none 0 0)).setCell ⟨V, 4, none⟩ (.bool c.over)).setCell ⟨V, 5, none⟩ (.int .i64 c.st)).setCell ⟨V, 6, none⟩ (.int .i64 c.id)) (.slice A1 c.ts.length a1) c.ts := (((((((o1.setOther (p := ⟨V, 0, none⟩) nT _).setOther (p := ⟨V, 1, none⟩) nT _).setOther (p := ⟨V, 2, none⟩) nT _).setOther (p := ⟨V, 3, none⟩) nT _).setOther (p := ⟨V, 4, none⟩) nT _).setOther (p := ⟨V, 5, none⟩) nT _).setOther (p := ⟨V, 6, none⟩) nT _)
    have hD7 : Ow kBool w0.heap.size (((((((w5.setCell ⟨V, 0, none⟩ (.slice A1 c.ts.length a1)).setCell ⟨V, 1, none⟩ (.int .i64 g)).setCell ⟨V, 2, none⟩ (.slice B1 c.dn.length b1)).setCell ⟨V, 3, none⟩ (.slice none 0 0)).setCell ⟨V, 4, none⟩ (.bool c.over)).setCell ⟨V, 5, none⟩ (.int .i64 c.st)).setCell ⟨V, 6, none⟩ (.int .i64 c.id)) (.slice B1 c.dn.length b1) c.dn := (((((((o2.setOther (p := ⟨V, 0, none⟩) nD _).setOther (p := ⟨V, 1, none⟩) nD _).setOther (p := ⟨V, 2, none⟩) nD _).setOther (p := ⟨V, 3, none⟩) nD _).setOther (p := ⟨V, 4, none⟩) nD _).setOther (p := ⟨V, 5, none⟩) nD _).setOther (p := ⟨V, 6, none⟩) nD _)
    have hE7 : Ext w0 (((((((w5.setCell ⟨V, 0, none⟩ (.slice A1 c.ts.length a1)).setCell ⟨V, 1, none⟩ (.int .i64 g)).setCell ⟨V, 2, none⟩ (.slice B1 c.dn.length b1)).setCell ⟨V, 3, none⟩ (.slice none 0 0)).setCell ⟨V, 4, none⟩ (.bool c.over)).setCell ⟨V, 5, none⟩ (.int .i64 c.st)).setCell ⟨V, 6, none⟩ (.int .i64 c.id)) := (((((((hE.setCell (p := ⟨V, 0, none⟩) hV _).setCell (p := ⟨V, 1, none⟩) hV _).setCell (p := ⟨V, 2, none⟩) hV _).setCell (p := ⟨V, 3, none⟩) hV _).setCell (p := ⟨V, 4, none⟩) hV _).setCell (p := ⟨V, 5, none⟩) hV _).setCell (p := ⟨V, 6, none⟩) hV _)
    generalize (((((((w5.setCell ⟨V, 0, none⟩ (.slice A1 c.ts.length a1)).setCell ⟨V, 1, none⟩ (.int .i64 g)).setCell ⟨V, 2, none⟩ (.slice B1 c.dn.length b1)).setCell ⟨V, 3, none⟩ (.slice none 0 0)).setCell ⟨V, 4, none⟩ (.bool c.over)).setCell ⟨V, 5, none⟩ (.int .i64 c.st)).setCell ⟨V, 6, none⟩ (.int .i64 c.id)) = w7 at *
    have H7 : Hid (R5At w0 w7 V 0 g c A1 B1 a1 b1 [] none 0) := Lib.hid ⟨hbx, hT7, hD7, Ow.nil _ _, rfl, fun j hj => absurd hj (Nat.not_lt_zero _), fun i j hi => absurd hi (Nat.not_lt_zero _), hE7, hV⟩
    clear hbx nT nD hT7 hD7 hE7 o1 o2 k10 y0 y1 y2 y3 y4 y5 y6 hx hE e9 e10 e4 e6 e8
    go_loopw [4] (fun i wr => ∃ (k : Nat) (L : List Hd) (Ar : Option Addr) (er : Nat), k ≤ m ∧ i = .int .i64 k ∧ R5At w0 wr V k g c A1 B1 a1 b1 L Ar er) (fun i _ => m - (intOf i).toNat)
    case atStart => exact ⟨0, [], none, 0, Nat.zero_le _, rfl, H7.out⟩
    case round =>
      obtain ⟨k, L, Ar, er, hk, rfl, hR⟩ := hrel
      have HR := Lib.hid hR
      have hk0 : (0 : Int) ≤ k := by omega
      have q3' := hR.ext.cell q3
      by_cases hlt : k < m
      · have hlt' : (k : Int) < m := by omega
        obtain ⟨z0, zn, zr⟩ := HDS.out.2 k hlt
        have qh := hR.ext.cell z0
        obtain ⟨⟨Ah, nh, ch⟩, hh⟩ : ∃ x, hs0 k = x := ⟨_, rfl⟩
        rw [hh] at zn zr qh
        unfold Hd.v at qh zr
        simp only at qh zn zr
        have HZR : Hid (RdO kInt (fun _ => False) w0 (.slice Ah nh ch) (zs (c.D.getD k []))) := Lib.hid zr
        have qv : wr.cell? ⟨V, 3, none⟩ = some (.slice Ar k er) := (cell_of_row wr V 3 _ _ _ hR.box).trans rfl
        obtain ⟨row, hrw⟩ : ∃ row, Value.ownBlock (.slice Ar k er) = row := ⟨_, rfl⟩
        have nV : ¬ row = some V := by rw [← hrw]; exact hR.row.notBox hR.box (by decide)
        have nP : ¬ row = some P := by
          intro e'
          have h1 := (hR.row.lt P (hrw.trans e')).1
          have h2 := HZ.out
          have h3 := HP.out
          omega
        have nE : ¬ row = some eb := by
          intro e'
          have h1 := (hR.row.lt eb (hrw.trans e')).1
          have h2 := HDS.out.lt m1
          omega
        have hrow : ∀ b, row = some b → b < wr.heap.size := fun b e' => (hR.row.lt b (hrw.trans e')).2
        have HRX : Hid (∀ w5, Wr row wr w5 → Ext w0 w5) := Lib.hid (fun w5 hE => Wr.toExt hE hR.ext (fun b hb => (hR.row.lt b (hrw.trans hb)).1))
        have HRW := Lib.hid hR.row
        have HLL : Hid (L.length + 1 ≤ 1048576) := Lib.hid (by rw [hR.len]; omega)
        have HBS := Lib.hid hR.ext.size
        have HXL : Hid ((c.D.getD k []).length ≤ 1000000) := Lib.hid (HLH.out k)
        obtain ⟨D, hD⟩ : ∃ D, c.D.getD k [] = D := ⟨_, rfl⟩
        rw [hD] at zn zr HZR HXL
        have HDD := Lib.hid hD
        obtain ⟨B, hB⟩ : ∃ B, w0.heap.size = B := ⟨_, rfl⟩
        rw [hB] at HRW HBS
        have HB := Lib.hid hB
        clear hR z0 zn zr hh hD hB
        go_wp2_with fail
        refine MonoW.wp_region_write 11 10 (Wr row) (R5L wr row P V Ar Ah er eb eo e m k nh ch B L D) (by kernel_rfl) (by kernel_rfl) (Wr.of row) (Wr.tr row) (R5L_ext wr row P V Ar Ah er eb eo e m k nh ch B L D) (R5L_sw wr row P V Ar Ah er eb eo e m k nh ch B L D hrow) ?_ ?_
        · intro i o hi ho vals w5 hE hQ hcl
          have hi' : i = 0 ∨ i = 1 ∨ i = 2 ∨ i = 3 ∨ i = 4 ∨ i = 5 ∨ i = 6 ∨ i = 7 ∨ i = 8 ∨ i = 9 ∨ i = 10 := by omega
          rcases hi' with rfl | rfl | rfl | rfl | rfl | rfl | rfl | rfl | rfl | rfl | rfl
          · simp only [List.getElem?_cons_succ, List.getElem?_cons_zero, Option.some.injEq] at ho
            subst ho
            rw [if_pos (Mono.wanted_none rfl)]
            clear hcl
            refine Mono.yields_same (.pointer (some ⟨V, 3, none⟩)) w5 ?_ ⟨MonoW.Out.of (Wr.of row) (Ext.refl _), R5L_i0 _ _ _ _ _ _ _ _ _ _ _ _ _ _ _ _ _ _ _ _ rfl⟩
            simp only [Mono.all, List.take, Act.put]
            go_simp
          · simp only [List.getElem?_cons_succ, List.getElem?_cons_zero, Option.some.injEq] at ho
            subst ho
            rw [if_pos (Mono.wanted_none rfl)]
            have h1 : vals 0 = .pointer (some ⟨V, 3, none⟩) := R5L_e0 _ _ _ _ _ _ _ _ _ _ _ _ _ _ _ _ _ _ _ _ (hcl 0 (by kernel_rfl))
            have k1 := hE.cell qv nV
            clear hcl
            refine Mono.yields_same (.slice Ar k er) w5 ?_ ⟨MonoW.Out.of (Wr.of row) (Ext.refl _), R5L_i1 _ _ _ _ _ _ _ _ _ _ _ _ _ _ _ _ _ _ _ _ rfl⟩
            simp only [Mono.all, List.take, Act.put]
            go_simp
          · simp only [List.getElem?_cons_succ, List.getElem?_cons_zero, Option.some.injEq] at ho
            subst ho
            rw [if_pos (Mono.wanted_none rfl)]
            clear hcl
            refine Mono.yields_same (.slice (some ⟨w5.heap.size, 0, none⟩) 0 0) (w5.alloc (.cells #[] kInt.e)) ?_ ⟨MonoW.Out.of (Wr.of row) ((Ext.refl _).alloc _), R5L_i2 _ _ _ _ _ _ _ _ _ _ _ _ _ _ _ _ _ _ _ _ (NewAt.made w5 hE.size)⟩
            simp only [Mono.all, List.take, Act.put, kInt]
            go_simp
          · simp only [List.getElem?_cons_succ, List.getElem?_cons_zero, Option.some.injEq] at ho
            subst ho
            rw [if_pos (Mono.wanted_none rfl)]
            clear hcl
            refine Mono.yields_same (.pointer (some ⟨P, 3, none⟩)) w5 ?_ ⟨MonoW.Out.of (Wr.of row) (Ext.refl _), R5L_i3 _ _ _ _ _ _ _ _ _ _ _ _ _ _ _ _ _ _ _ _ rfl⟩
            simp only [Mono.all, List.take, Act.put]
            go_simp
          · simp only [List.getElem?_cons_succ, List.getElem?_cons_zero, Option.some.injEq] at ho
            subst ho
            rw [if_pos (Mono.wanted_none rfl)]
            have h1 : vals 3 = .pointer (some ⟨P, 3, none⟩) := R5L_e3 _ _ _ _ _ _ _ _ _ _ _ _ _ _ _ _ _ _ _ _ (hcl 3 (by kernel_rfl))
            have k1 := hE.cell q3' nP
            clear hcl
            refine Mono.yields_same (.slice (some ⟨eb, eo, none⟩) m e) w5 ?_ ⟨MonoW.Out.of (Wr.of row) (Ext.refl _), R5L_i4 _ _ _ _ _ _ _ _ _ _ _ _ _ _ _ _ _ _ _ _ rfl⟩
            simp only [Mono.all, List.take, Act.put]
            go_simp
          · simp only [List.getElem?_cons_succ, List.getElem?_cons_zero, Option.some.injEq] at ho
            subst ho
            rw [if_pos (Mono.wanted_none rfl)]
            clear hcl
            refine Mono.yields_same (.int .i64 k) w5 ?_ ⟨MonoW.Out.of (Wr.of row) (Ext.refl _), R5L_i5 _ _ _ _ _ _ _ _ _ _ _ _ _ _ _ _ _ _ _ _ rfl⟩
            simp only [Mono.all, List.take, Act.put]
            go_simp
          · simp only [List.getElem?_cons_succ, List.getElem?_cons_zero, Option.some.injEq] at ho
            subst ho
            rw [if_pos (Mono.wanted_none rfl)]
            have h4 : vals 4 = .slice (some ⟨eb, eo, none⟩) m e := R5L_e4 _ _ _ _ _ _ _ _ _ _ _ _ _ _ _ _ _ _ _ _ (hcl 4 (by kernel_rfl))
            have h5 : vals 5 = .int .i64 k := R5L_e5 _ _ _ _ _ _ _ _ _ _ _ _ _ _ _ _ _ _ _ _ (hcl 5 (by kernel_rfl))
            clear hcl
            refine Mono.yields_same (.pointer (some ⟨eb, eo + k, none⟩)) w5 ?_ ⟨MonoW.Out.of (Wr.of row) (Ext.refl _), R5L_i6 _ _ _ _ _ _ _ _ _ _ _ _ _ _ _ _ _ _ _ _ rfl⟩
            simp only [Mono.all, List.take, Act.put]
            go_simp
          · simp only [List.getElem?_cons_succ, List.getElem?_cons_zero, Option.some.injEq] at ho
            subst ho
            rw [if_pos (Mono.wanted_none rfl)]
            have h1 : vals 6 = .pointer (some ⟨eb, eo + k, none⟩) := R5L_e6 _ _ _ _ _ _ _ _ _ _ _ _ _ _ _ _ _ _ _ _ (hcl 6 (by kernel_rfl))
            have k1 := hE.cell qh nE
            clear hcl
            refine Mono.yields_same (.slice Ah nh ch) w5 ?_ ⟨MonoW.Out.of (Wr.of row) (Ext.refl _), R5L_i7 _ _ _ _ _ _ _ _ _ _ _ _ _ _ _ _ _ _ _ _ rfl⟩
            simp only [Mono.all, List.take, Act.put]
            go_simp
          · simp only [List.getElem?_cons_succ, List.getElem?_cons_zero, Option.some.injEq] at ho
            subst ho
            rw [if_pos (Mono.wanted_none rfl)]
            have h0 : NewAt kInt wr.heap.size w5 (vals 2) := R5L_e2 _ _ _ _ _ _ _ _ _ _ _ _ _ _ _ _ _ _ _ _ (hcl 2 (by kernel_rfl))
            have h2 : vals 7 = .slice Ah nh ch := R5L_e7 _ _ _ _ _ _ _ _ _ _ _ _ _ _ _ _ _ _ _ _ (hcl 7 (by kernel_rfl))
            obtain ⟨v', w', hr, hX, hO, hb⟩ := Kd.app_new kInt h0 ((HZR.out.ext (HRX.out _ hE)).rd) (by rw [zs_len]; have := HXL.out; omega) hE.size
            exact Kd.yields_app kInt (v := vals 2) (y := .slice Ah nh ch) (.tmp 24) (.tmp 29) rfl rfl (by kernel_rfl) (by rw [← h2]; kernel_rfl) hr ⟨MonoW.Out.of (Wr.of row) (hX), R5L_i8 _ _ _ _ _ _ _ _ _ _ _ _ _ _ _ _ _ _ _ _ hO⟩
          · simp only [List.getElem?_cons_succ, List.getElem?_cons_zero, Option.some.injEq] at ho
            subst ho
            rw [if_pos (Mono.wanted_none rfl)]
            obtain ⟨A8, c9, h8, _⟩ : OwAt kInt wr.heap.size w5 (vals 8) (zs D) := (R5L_e8 _ _ _ _ _ _ _ _ _ _ _ _ _ _ _ _ _ _ _ _ (hcl 8 (by kernel_rfl)))
            clear hcl
            refine Mono.yields_same (.slice (some ⟨w5.heap.size, 0, none⟩) 1 1) (w5.alloc (.cells #[.slice A8 (zs D).length c9] kRow.e)) ?_ ⟨MonoW.Out.of (Wr.of row) ((Ext.refl _).alloc _), R5L_i9 _ _ _ _ _ _ _ _ _ _ _ _ _ _ _ _ _ _ _ _ ⟨⟨A8, (zs D).length, c9⟩, by first | rfl | assumption | kernel_rfl, OneAt.made kRow w5 hE.size _ _ rfl trivial⟩⟩
            simp only [Mono.all, List.take, Act.put, kRow]
            go_simp
          · simp only [List.getElem?_cons_succ, List.getElem?_cons_zero, Option.some.injEq] at ho
            subst ho
            rw [if_pos (Mono.wanted_none rfl)]
            obtain ⟨x, hx, p, h9, o9⟩ : ∃ x : Hd, _ ∧ OneAt kRow wr.heap.size w5 (vals 9) x := (R5L_e9 _ _ _ _ _ _ _ _ _ _ _ _ _ _ _ _ _ _ _ _ (hcl 9 (by kernel_rfl)))
            have h1 : vals 1 = .slice Ar k er := (R5L_e1 _ _ _ _ _ _ _ _ _ _ _ _ _ _ _ _ _ _ _ _ (hcl 1 (by kernel_rfl)))
            have hX := hQ rfl
            clear hcl
            refine Kd.yields_grow kRow (B := B) (n := wr.heap.size) (q := 10) (.tmp 23) (.tmp 31) (v := .slice Ar k er) (y := .slice (some ⟨p, 0, none⟩) 1 1) (xs := L) (ys := [x]) (HRW.out.ext hX) o9.rd HLL.out (Nat.le_trans HBS.out hX.size) hX.size rfl rfl (by rw [← h1]; kernel_rfl) (by rw [← h9]; kernel_rfl) ?_
            intro v' w' hA hO
            exact ⟨by rw [← hrw]; exact hO, R5L_i10 _ _ _ _ _ _ _ _ _ _ _ _ _ _ _ _ _ _ _ _ ⟨x, by first | exact hx | kernel_rfl, hA⟩⟩
        · intro vals w5 hE hv
          have e1 := R5L_e1 _ _ _ _ _ _ _ _ _ _ _ _ _ _ _ _ _ _ _ _ (hv 1 (by omega))
          have e4 := R5L_e4 _ _ _ _ _ _ _ _ _ _ _ _ _ _ _ _ _ _ _ _ (hv 4 (by omega))
          have e7 := R5L_e7 _ _ _ _ _ _ _ _ _ _ _ _ _ _ _ _ _ _ _ _ (hv 7 (by omega))
          obtain ⟨A8, c8, e8, ho8⟩ := R5L_e8 _ _ _ _ _ _ _ _ _ _ _ _ _ _ _ _ _ _ _ _ (hv 8 (by omega))
          obtain ⟨x, hx, hA⟩ := (R5L_e10 _ _ _ _ _ _ _ _ _ _ _ _ _ _ _ _ _ _ _ _ (hv 10 (by omega)))
          have hx8 : vals 8 = x.v := Eq.trans (by kernel_rfl) hx
          have ho8' : Ow kInt wr.heap.size w5 x.v (zs (c.D.getD k [])) := by rw [HDD.out, ← hx8, e8]; exact ho8
          obtain ⟨Ar', er', e10, hN⟩ := R5At.next HR.out (by rw [hrw]; exact hE) ho8' (by rw [HB.out]; exact hA)
          rw [e10] at hN
          have HN := Lib.hid hN
          have hb5 := block_wr HR.out.box hE nV
          have y3 : w5.cell? ⟨V, 3, none⟩ = some (.slice Ar k er) := (cell_of_row w5 V 3 _ _ _ hb5).trans rfl
          have yf := fun o => frozen_of_row w5 V o _ _ hb5
          clear hv hN hb5 hA hx hx8 ho8' ho8
          simp only [Mono.all, List.take, List.drop, Act.put]
          rw [e10]
          go_wp2_with fail
          go_roundw
          case rel => exact ⟨k + 1, L ++ [x], Ar', er', by omega, by go_num, HN.out⟩
          case measure => simp [intOf]; omega
      · obtain rfl : k = m := by omega
        have hb1 := block_keep r0 hR.ext
        have x0 : wr.cell? ⟨P + 1, 0, none⟩ = some (.slice none 0 0) := (cell_of_row wr (P + 1) 0 _ _ _ hb1).trans rfl
        have x1 : wr.cell? ⟨P + 1, 1, none⟩ = some (.int .i64 0) := (cell_of_row wr (P + 1) 1 _ _ _ hb1).trans rfl
        have x2 : wr.cell? ⟨P + 1, 2, none⟩ = some (.slice none 0 0) := (cell_of_row wr (P + 1) 2 _ _ _ hb1).trans rfl
        have x3 : wr.cell? ⟨P + 1, 3, none⟩ = some (.slice none 0 0) := (cell_of_row wr (P + 1) 3 _ _ _ hb1).trans rfl
        have x4 : wr.cell? ⟨P + 1, 4, none⟩ = some (.bool false) := (cell_of_row wr (P + 1) 4 _ _ _ hb1).trans rfl
        have x5 : wr.cell? ⟨P + 1, 5, none⟩ = some (.int .i64 0) := (cell_of_row wr (P + 1) 5 _ _ _ hb1).trans rfl
        have x6 : wr.cell? ⟨P + 1, 6, none⟩ = some (.int .i64 0) := (cell_of_row wr (P + 1) 6 _ _ _ hb1).trans rfl
        have xf := fun o => frozen_of_row wr (P + 1) o _ _ hb1
        have v0 : wr.cell? ⟨V, 0, none⟩ = some (.slice A1 c.ts.length a1) := (cell_of_row wr V 0 _ _ _ hR.box).trans rfl
        have v1 : wr.cell? ⟨V, 1, none⟩ = some (.int .i64 g) := (cell_of_row wr V 1 _ _ _ hR.box).trans rfl
        have v2 : wr.cell? ⟨V, 2, none⟩ = some (.slice B1 c.dn.length b1) := (cell_of_row wr V 2 _ _ _ hR.box).trans rfl
        have v3 : wr.cell? ⟨V, 3, none⟩ = some (.slice Ar k er) := (cell_of_row wr V 3 _ _ _ hR.box).trans rfl
        have v4 : wr.cell? ⟨V, 4, none⟩ = some (.bool c.over) := (cell_of_row wr V 4 _ _ _ hR.box).trans rfl
        have v5 : wr.cell? ⟨V, 5, none⟩ = some (.int .i64 c.st) := (cell_of_row wr V 5 _ _ _ hR.box).trans rfl
        have v6 : wr.cell? ⟨V, 6, none⟩ = some (.int .i64 c.id) := (cell_of_row wr V 6 _ _ _ hR.box).trans rfl
        obtain ⟨e0, he0, _⟩ := Ow.pos hR.row (by rw [hR.len]; omega)
        subst he0
        clear hR hb1
        go_wp2_with fail
        have hz := HZ.out
        have hp := HP.out
        refine bodyPost_ret (v := .agg #[.slice A1 c.ts.length a1, .int .i64 g, .slice B1 c.dn.length b1, .slice (some ⟨e0, 0, none⟩) k er, .bool c.over, .int .i64 c.st, .int .i64 c.id]) (by simp [results, Tryz.results72, go_sem]; go_simp) rfl ⟨A1, B1, e0, a1, b1, er, L, rfl, ?_, ?_⟩
        · have hR := HR.out
          have sto : ∀ {α : Type} {K : Kd α} {v : Value} {xs : List α}, Ow K w0.heap.size wr v xs → Ow K w.heap.size (((((((wr.setCell ⟨P + 1, 0, none⟩ (.slice A1 c.ts.length a1)).setCell ⟨P + 1, 1, none⟩ (.int .i64 g)).setCell ⟨P + 1, 2, none⟩ (.slice B1 c.dn.length b1)).setCell ⟨P + 1, 3, none⟩ (.slice (some ⟨e0, 0, none⟩) k er)).setCell ⟨P + 1, 4, none⟩ (.bool c.over)).setCell ⟨P + 1, 5, none⟩ (.int .i64 c.st)).setCell ⟨P + 1, 6, none⟩ (.int .i64 c.id)) v xs := fun ho => (((((((ho.setBelow (p := ⟨P + 1, 0, none⟩) (by show P + 1 < _; omega) _).setBelow (p := ⟨P + 1, 1, none⟩) (by show P + 1 < _; omega) _).setBelow (p := ⟨P + 1, 2, none⟩) (by show P + 1 < _; omega) _).setBelow (p := ⟨P + 1, 3, none⟩) (by show P + 1 < _; omega) _).setBelow (p := ⟨P + 1, 4, none⟩) (by show P + 1 < _; omega) _).setBelow (p := ⟨P + 1, 5, none⟩) (by show P + 1 < _; omega) _).setBelow (p := ⟨P + 1, 6, none⟩) (by show P + 1 < _; omega) _).mono (by omega)
          exact ⟨sto hR.tsk, sto hR.dns, sto hR.row, hR.len, HDL.out, fun j hj => ⟨(hR.els j hj).1, sto (hR.els j hj).2⟩, hR.far⟩
        · exact ((((((((X.out.trans HR.out.ext).setCell (p := ⟨P + 1, 0, none⟩) (by show _ ≤ P + 1; omega) _).setCell (p := ⟨P + 1, 1, none⟩) (by show _ ≤ P + 1; omega) _).setCell (p := ⟨P + 1, 2, none⟩) (by show _ ≤ P + 1; omega) _).setCell (p := ⟨P + 1, 3, none⟩) (by show _ ≤ P + 1; omega) _).setCell (p := ⟨P + 1, 4, none⟩) (by show _ ≤ P + 1; omega) _).setCell (p := ⟨P + 1, 5, none⟩) (by show _ ≤ P + 1; omega) _).setCell (p := ⟨P + 1, 6, none⟩) (by show _ ≤ P + 1; omega) _)
end Go.Proofs.YtkpbanfpnilifaaGreat

/- The program's Right of a crew, where it may be. -/
namespace Go.Proofs.YtkpbanfpnilifaaGreat
open Go.BigFrame
open Go.RowKit Go.Proofs.YtkpbanfpnilifaaGreat.Plain

/-- which of n are among these -/
def metL (n : Nat) (L : List Nat) : List Bool := (List.range n).map fun i => decide (i ∈ L)
theorem metL_len (n : Nat) (L : List Nat) : (metL n L).length = n := by unfold metL; simp
theorem metL_getD (n : Nat) (L : List Nat) (j : Nat) (hj : j < n) : (metL n L).getD j false = decide (j ∈ L) := by
  unfold metL
  rw [List.getD_eq_getElem?_getD, List.getElem?_map, List.getElem?_range hj]; rfl
theorem metL_nil (n : Nat) : metL n [] = List.replicate n false := by
  unfold metL
  apply List.ext_getElem?
  intro i
  rw [List.getElem?_map, List.getElem?_replicate]
  by_cases hi : i < n
  · rw [List.getElem?_range hi, if_pos hi]; rfl
  · rw [List.getElem?_eq_none (by simpa using hi), if_neg hi]; rfl
theorem metL_snoc (n : Nat) (L : List Nat) (k : Nat) (hk : k < n) : metL n (L ++ [k]) = (metL n L).set k true := by
  unfold metL
  apply List.ext_getElem?
  intro i
  by_cases hi : i < n
  · rw [List.getElem?_map, List.getElem?_range hi]
    by_cases e : i = k
    · subst e
      rw [List.getElem?_set_self (by simpa using hk)]; simp
    · rw [List.getElem?_set_ne (by omega), List.getElem?_map, List.getElem?_range hi]; simp [e]
  · rw [List.getElem?_eq_none (by simpa using hi), List.getElem?_eq_none (by simpa using hi)]

set_option maxHeartbeats 1600000 in
set_option maxRecDepth 100000 in
theorem holds_yes (A B : Option Addr) (eb eo a b e g n m : Nat) (c : Cw) (done : Nat) (G : List Nat) (w : World) (h : CrewAt w m c A B eb eo a b) (hI : CwI g n m c done G) (n1 : 1 ≤ n) (n2 : n ≤ 900) (g1 : 1 ≤ g) (g2 : g ≤ 100) (m2 : m ≤ 8) :
    Calls Tryz.prog 98 #[crewV A B eb eo a b e g m c] w fun ed w' => ed = .returned (.bool true) ∧ Ext w w' := by
  have HI := Lib.hid hI
  have HH := Lib.hid h
  have hfew := hI.few g1 n1
  have hts : (c.ts.length : Int) ≤ 1800 := by omega
  have hO := CrI.inv hI
  have hgl : (held c.D).length ≤ c.ts.length := by have := (CrI.fresh hI).2.2.2; omega
  have HDN : Hid (c.dn.length = n) := Lib.hid hO.dl
  obtain ⟨N, hN⟩ : ∃ N, (held c.D).length = N := ⟨_, rfl⟩
  have hNl : N ≤ 1800 := by omega
  have HN := Lib.hid hN
  obtain ⟨hs, hds⟩ := h.deq
  have HDS := Lib.hid hds
  obtain ⟨n0, hn0⟩ : ∃ n0, c.ts.length = n0 := ⟨_, rfl⟩
  have htl0 : 0 < n0 := by rw [← hn0]; exact hO.len
  obtain ⟨ta, to', rfl, hct⟩ := Rd.tasks h.tsk.rd (by omega : 0 < c.ts.length)
  rw [hn0] at hts hfew
  have HCT : Hid (∀ j, j < n0 → _) := Lib.hid (by rw [← hn0]; exact hct)
  have HTN := Lib.hid hn0
  obtain ⟨C, hmk, hmown⟩ := kBool.make false rfl trivial n0 (by omega)
  have HMK := Lib.hid hmown
  have hmk2 : ∀ w : World, (Instr.makeSlice 55 (.int .i64 n0) (.int .i64 n0)).run Tryz.prog w = .ok (.slice (some ⟨w.heap.size, 0, none⟩) n0 n0) (w.alloc (.cells C 4)) := hmk
  clear hmk
  clear h hI hO hgl hN hds hct hmown
  unfold crewV
  rw [hn0]
  clear hn0
  go_enter Tryz.func98, Tryz.ntmps98
  go_wp2_with fail
  refine (concat_all _ _ _ _ hs c.D _ (HDS.out.ext (((Ext.refl _).alloc _).alloc _)) m2 (by rw [HN.out]; omega)).mono ?_
  rintro ed w1 ⟨A1, c1, rfl, hown, hE⟩
  rw [HN.out]
  have HR1 := Lib.hid (rd_of_ints hown.ints)
  have HF1 : Hid (From (w.heap.size + 2) A1) := Lib.hid (hown.from.mono (by simp))
  have HM1 := Lib.hid ((HMK.out (w.alloc (.cells #[.slice (some ⟨ta, to', none⟩) n0 a, .int .i64 g, .slice B c.dn.length b, .slice (some ⟨eb, eo, none⟩) m e, .bool c.over, .int .i64 c.st, .int .i64 c.id] 81)) (w.heap.size + 1) (w.heap.size + 1) (by simp) (Nat.le_refl _)).ext hE)
  have HE1 := Lib.hid ((((Ext.refl w).alloc _).alloc _).trans hE)
  have x0 : w1.cell? ⟨w.heap.size, 0, none⟩ = some (.slice (some ⟨ta, to', none⟩) n0 a) := hE.cell (by go_simp)
  have x1 : w1.cell? ⟨w.heap.size, 1, none⟩ = some (.int .i64 g) := hE.cell (by go_simp)
  have x2 : w1.cell? ⟨w.heap.size, 2, none⟩ = some (.slice B c.dn.length b) := hE.cell (by go_simp)
  have HX : Hid (w1.cell? ⟨w.heap.size, 0, none⟩ = some (.slice (some ⟨ta, to', none⟩) n0 a) ∧ w1.cell? ⟨w.heap.size, 1, none⟩ = some (.int .i64 g) ∧ w1.cell? ⟨w.heap.size, 2, none⟩ = some (.slice B c.dn.length b)) := Lib.hid ⟨x0, x1, x2⟩
  have HZ := Lib.hid hE.size
  clear hown hE x0 x1 x2
  go_wp2_with fail
  go_loopw [15] (fun i wr => ∃ k : Nat, k ≤ N ∧ i = .int .i64 k ∧ Ow kBool (w.heap.size + 1) wr (.slice (some ⟨w.heap.size + 1, 0, none⟩) n0 n0) (metL n0 ((held c.D).take k)) ∧ Grew (fun b => b = w.heap.size + 1) w1 wr) (fun i _ => N - (intOf i).toNat)
  case atStart => exact ⟨0, Nat.zero_le _, rfl, by rw [List.take_zero, metL_nil]; exact HM1.out, Grew.refl _ _⟩
  case round =>
    obtain ⟨k, hk, rfl, hown, hG⟩ := hrel
    have HO := Lib.hid hown
    have HG := Lib.hid hG
    have hk0 : (0 : Int) ≤ k := by omega
    by_cases hlt : k < N
    · have hlt' : (k : Int) < N := by omega
      obtain ⟨i, hi⟩ : ∃ i, (held c.D).getD k 0 = i := ⟨_, rfl⟩
      have him : i ∈ held c.D := by
        rw [← hi, List.getD_eq_getElem?_getD, List.getElem?_eq_getElem (by rw [HN.out]; exact hlt)]
        exact List.getElem_mem _
      have hO := CrI.inv HI.out
      have hin : i < n0 := by rw [← HTN.out]; exact hO.lt i him
      have hnot : i ∉ (held c.D).take k := by
        intro hh
        have hnd := hO.nd
        rw [← List.take_append_drop k (held c.D), List.nodup_append] at hnd
        refine hnd.2.2 i hh i ?_ rfl
        have hd := List.drop_eq_getElem_cons (l := held c.D) (i := k) (by rw [HN.out]; exact hlt)
        rw [hd, ← hi, List.getD_eq_getElem?_getD, List.getElem?_eq_getElem (by rw [HN.out]; exact hlt)]
        exact List.mem_cons_self
      have hsucc : (held c.D).take (k + 1) = (held c.D).take k ++ [i] := by
        rw [List.take_succ_eq_append_getElem (by rw [HN.out]; exact hlt), ← hi, List.getD_eq_getElem?_getD, List.getElem?_eq_getElem (by rw [HN.out]; exact hlt)]; rfl
      have HS : Hid (metL n0 ((held c.D).take (k + 1)) = (metL n0 ((held c.D).take k)).set i true) := Lib.hid (by rw [hsucc]; exact metL_snoc n0 _ i hin)
      obtain ⟨b1, o1, rfl, hc1⟩ := HR1.out.cells (by rw [zs_len, HN.out]; omega)
      have hb1 := HF1.out _ rfl
      simp only at hb1
      have z0 := hc1 k (by rw [zs_len, HN.out]; exact hlt) 0 _ rfl
      have e0 : (zs (held c.D)).getD k kInt.d = ((i : Nat) : Int) := by rw [← hi]; exact zs_getD _ _
      have z1 : w1.cell? ⟨b1, o1 + k, none⟩ = some (.int .i64 i) := by
        rw [e0] at z0
        rw [show o1 + k = o1 + k * kInt.n + 0 from by show o1 + k = o1 + k * 1 + 0; omega]
        exact z0
      have zi := hG.cell z1 (by omega)
      obtain ⟨⟨lo, hi', up, wt⟩, ht⟩ : ∃ t, c.ts.getD i ⟨0, 0, 0, 0⟩ = t := ⟨_, rfl⟩
      have htT : T c.ts i = ⟨lo, hi', up, wt⟩ := ht
      have hw0 := hO.w0 i him
      rw [htT] at hw0
      simp only at hw0
      subst hw0
      have htask := hO.task i (hO.lt i him)
      rw [htT] at htask
      simp only at htask
      obtain ⟨t1, t2, t3, _, _, _, _⟩ := htask
      have hcov := (hO.cov lo.toNat (by omega)).2 ⟨i, him, by rw [htT]; simp only; omega, by rw [htT]; simp only; omega⟩
      obtain ⟨y0, y1, y2, y3⟩ := HCT.out i hin
      rw [ht] at y0 y1 y2 y3
      simp only at y0 y1 y2 y3
      have lta : ta < w.heap.size := World.block_lt_of_cell? _ _ y0
      have q0 := hG.cell (HE1.out.cell y0) (by omega)
      have q1 := hG.cell (HE1.out.cell y1) (by omega)
      have q2 := hG.cell (HE1.out.cell y2) (by omega)
      have q3 := hG.cell (HE1.out.cell y3) (by omega)
      have x0 := hG.cell HX.out.1 (by omega)
      have x1 := hG.cell HX.out.2.1 (by omega)
      have x2 := hG.cell HX.out.2.2 (by omega)
      obtain ⟨g', eg, _, _, h3, h4⟩ := Ow.pos hown (by rw [metL_len]; exact htl0)
      obtain rfl : g' = w.heap.size + 1 := by cases eg; rfl
      have zm : wr.cell? ⟨w.heap.size + 1, i, none⟩ = some (.bool false) := by
        have := h3 i (by rw [metL_len]; exact hin) 0 _ rfl
        rw [show (metL n0 ((held c.D).take k)).getD i kBool.d = false by rw [show kBool.d = false from rfl, metL_getD _ _ _ hin]; exact decide_eq_false hnot] at this
        rw [show i = i * kBool.n + 0 from by show i = i * 1 + 0; omega]
        exact this
      have HDR : Hid (Rd kBool wr (.slice B c.dn.length b) c.dn) := Lib.hid (HH.out.dns wr (Grew.of (hG.toExt HE1.out (fun b hb => by rw [hb]; omega))))
      have HFR := Lib.hid h4
      have hi0 : (0 : Int) ≤ i := by omega
      have hi1 : (i : Int) < n0 := by omega
      have hd1 : decide ((i : Int) < 0) = false := decide_eq_false (by omega)
      have hd2 : decide ((n0 : Int) ≤ (i : Int)) = false := decide_eq_false (by omega)
      have hd3 : decide (n0 ≤ i) = false := decide_eq_false (by omega)
      clear hown hG h3 h4 z0 z1 e0 hc1 hi ht htT him hO hnot hsucc y0 y1 y2 y3 eg
      have KS : Hid (∀ w', Ext wr w' → w'.cell? ⟨w.heap.size, 0, none⟩ = some (.slice (some ⟨ta, to', none⟩) n0 a) ∧ w'.cell? ⟨w.heap.size, 1, none⟩ = some (.int .i64 g) ∧ w'.cell? ⟨w.heap.size, 2, none⟩ = some (.slice B c.dn.length b) ∧ w'.cell? ⟨w.heap.size + 1, i, none⟩ = some (.bool false) ∧ w'.cell? ⟨ta, to' + i * 4, none⟩ = some (.int .i64 lo) ∧ w'.cell? ⟨ta, to' + i * 4 + 1, none⟩ = some (.int .i64 hi') ∧ w'.cell? ⟨ta, to' + i * 4 + 2, none⟩ = some (.int .i64 up) ∧ w'.cell? ⟨ta, to' + i * 4 + 3, none⟩ = some (.int .i64 0)) := Lib.hid fun w' hE => ⟨hE.cell x0, hE.cell x1, hE.cell x2, hE.cell zm, hE.cell q0, hE.cell q1, hE.cell q2, hE.cell q3⟩
      go_wp2_with fail
      have HOP : Hid (∀ w', Ext wr w' → Calls Tryz.prog 106 #[.agg #[.slice (some ⟨ta, to', none⟩) n0 a, .int .i64 g, .slice B c.dn.length b], .agg #[.int .i64 lo, .int .i64 hi', .int .i64 up, .int .i64 0]] w' fun ed w'' => ed = .returned (.bool true) ∧ Ext wr w'') := Lib.hid fun w' hE =>
        (copen_yes _ _ _ _ _ lo hi' up g c.dn w' (HDR.out.ext hE) t1 t2 (by rw [HDN.out]; omega) g1 g2 (by rw [HDN.out]; omega) hcov).mono fun ed w'' hh => ⟨hh.1, hE.trans hh.2⟩
      refine wp_region_class (Ext wr) (by kernel_rfl) (by kernel_rfl) (Ext.refl _).drew ?_
      try simp only [List.append_eq, List.cons_append, List.nil_append]
      repeat (first
        | go_big_quiet_skip
        | (go_big_quiet_want
           first
           | (go_big_quiet_op; go_big_quiet_on)
           | (unfold Oper.quiet
              apply Exists.intro
              refine ⟨fun w' hC => ?_, ?_⟩
              · (obtain ⟨k1, k2, k3, k4, k5, k6, k7, k8⟩ := KS.out w' hC
                 unfold Oper.quietAt
                 go_simp
                 first
                 | exact rfl
                 | (with_reducible exact HOP.out w' hC))
              go_simp
              go_big_quiet_on)
           | (go_big_quiet_op
              apply Exists.intro
              refine ⟨fun w' hC => ?_, ?_⟩
              · exact HOP.out w' hC
              go_big_quiet_on)))
      refine wpQuiet_nil ?_
      intro w4 hC4
      have y3 := fun o => (Below.frozen hC4 (p := ⟨w.heap.size + 1, o, none⟩) (by have := HZ.out; have := HG.out.size; simp at this ⊢; omega)).trans (HFR.out o)
      have l1 : w.heap.size + 1 < w4.heap.size := by have := HZ.out; have := HG.out.size; have := hC4.size; simp at *; omega
      have zm4 := hC4.cell zm
      have hset := (HO.out.ext hC4).set (j := i) (i := 0) (x := true) (u := .bool true) (by rw [metL_len]; exact hin) (by decide) rfl trivial
      rw [show i * kBool.n + 0 = i from by show i * 1 + 0 = i; omega, ← HS.out] at hset
      have HSET := Lib.hid hset
      clear hset
      go_wp2_with fail
      go_roundw
      case rel => exact ⟨k + 1, by omega, by go_num, HSET.out, (HG.out.ext hC4).setCell rfl _⟩
      case measure => simp [intOf]; omega
    · obtain rfl : k = N := by omega
      go_wp2_with fail
      go_ret
      exact ⟨rfl, hG.toExt HE1.out (fun b hb => by rw [hb]; omega)⟩

set_option maxHeartbeats 800000 in
set_option maxRecDepth 100000 in
/-- a crew that may be -/
theorem cright_yes (A B : Option Addr) (eb eo a b e g n m : Nat) (c : Cw) (done : Nat) (G : List Nat) (w : World) (h : CrewAt w m c A B eb eo a b) (hI : CwI g n m c done G) (n1 : 1 ≤ n) (n2 : n ≤ 900) (g1 : 1 ≤ g) (g2 : g ≤ 100) (m1 : 1 ≤ m) (m2 : m ≤ 8) (hst : c.st ≤ 100000) (hid : c.id ≤ 100000) :
    Calls Tryz.prog 91 #[crewV A B eb eo a b e g m c] w fun ed w' => ed = .returned (.bool true) ∧ Ext w w' := by
  have HI := Lib.hid hI
  have HH := Lib.hid h
  have HWR : Hid (wRight c.ts (g : Int) c.dn.length = true) := Lib.hid (by rw [(CrI.inv hI).dl]; exact (CrI.inv hI).right g1 g2 n1 n2)
  have HDL : Hid (c.dn.length = n) := Lib.hid (CrI.inv hI).dl
  have HGI : Hid (in64 (g : Int)) := Lib.hid (by unfold in64; omega)
  have s1 : (0 : Int) ≤ (c.st : Int) := by omega
  have s2 : (c.st : Int) ≤ 100000 := by omega
  have s3 : (0 : Int) ≤ (c.id : Int) := by omega
  have s4 : (c.id : Int) ≤ 100000 := by omega
  clear h hI
  go_enter Tryz.func91, Tryz.ntmps91
  go_wp2_with fail
  refine (right_to A B a b _ _ c.ts g true _ (HH.out.tsk.rd.ext ((Ext.refl _).alloc _)) rfl (by rw [HDL.out]; omega) HGI.out HWR.out).mono ?_
  rintro ed w1 ⟨rfl, hE⟩
  have x3 : w1.cell? ⟨w.heap.size, 3, none⟩ = some (.slice (some ⟨eb, eo, none⟩) m e) := hE.cell (by go_simp)
  have x5 : w1.cell? ⟨w.heap.size, 5, none⟩ = some (.int .i64 c.st) := hE.cell (by go_simp)
  have x6 : w1.cell? ⟨w.heap.size, 6, none⟩ = some (.int .i64 c.id) := hE.cell (by go_simp)
  have x0 : w1.cell? ⟨w.heap.size, 0, none⟩ = some (.slice A c.ts.length a) := hE.cell (by go_simp)
  have x1 : w1.cell? ⟨w.heap.size, 1, none⟩ = some (.int .i64 g) := hE.cell (by go_simp)
  have x2 : w1.cell? ⟨w.heap.size, 2, none⟩ = some (.slice B c.dn.length b) := hE.cell (by go_simp)
  have x4 : w1.cell? ⟨w.heap.size, 4, none⟩ = some (.bool c.over) := hE.cell (by go_simp)
  have HE1 := Lib.hid (((Ext.refl w).alloc _).trans hE)
  clear hE
  go_wp2_with (first | (go_at_call 65; refine (manned_yes _ _ m1 m2).mono ?_; rintro ed w2 ⟨rfl, rfl⟩) | (go_at_call 97; refine (counted_yes _ _ (by assumption) (by assumption)).mono ?_; rintro ed w2 ⟨rfl, rfl⟩))
  refine (holds_yes A B eb eo a b e g n m c _ _ _ (HH.out.ext HE1.out) HI.out n1 n2 g1 g2 m2).mono ?_
  rintro ed w3 ⟨rfl, hE3⟩
  go_wp2_with fail
  go_ret
  exact ⟨rfl, HE1.out.trans hE3⟩
end Go.Proofs.YtkpbanfpnilifaaGreat

/- The document's Right of a crew (ref05), where it may be. -/
namespace Go.Proofs.YtkpbanfpnilifaaGreat
open Go.BigFrame
open Go.RowKit Go.Proofs.YtkpbanfpnilifaaGreat.Plain

theorem held_split (D : List (List Nat)) (j k : Nat) (hj : j < D.length) (hk : k < (D.getD j []).length) : ∃ R, held D = (upTo D j ++ (D.getD j []).take k) ++ (D.getD j []).getD k 0 :: R := by
  have h1 : held D = upTo D (j + 1) ++ (D.drop (j + 1)).flatten := by unfold held upTo; rw [← List.flatten_append, List.take_append_drop]
  have h2 : D.getD j [] = (D.getD j []).take k ++ (D.getD j []).getD k 0 :: (D.getD j []).drop (k + 1) := by
    have h3 := List.drop_eq_getElem_cons (l := D.getD j []) (i := k) hk
    have h4 : (D.getD j []).getD k 0 = (D.getD j [])[k] := by rw [List.getD_eq_getElem?_getD, List.getElem?_eq_getElem hk]; rfl
    rw [h4, ← h3, List.take_append_drop]
  refine ⟨(D.getD j []).drop (k + 1) ++ (D.drop (j + 1)).flatten, ?_⟩
  rw [h1, upTo_succ D j hj]
  conv => lhs; rw [h2]
  simp [List.append_assoc]

set_option maxHeartbeats 3200000 in
set_option maxRecDepth 100000 in
theorem rright5_yes (A B : Option Addr) (eb eo a b e g n m : Nat) (c : Cw) (done : Nat) (G : List Nat) (w : World) (h : CrewAt w m c A B eb eo a b) (hI : CwI g n m c done G) (n1 : 1 ≤ n) (n2 : n ≤ 900) (g1 : 1 ≤ g) (g2 : g ≤ 100) (m1 : 1 ≤ m) (m2 : m ≤ 8) (hst : c.st ≤ 100000) (hid : c.id ≤ 100000) :
    Calls Tryz.prog 70 #[crewV A B eb eo a b e g m c] w fun ed w' => ed = .returned (.bool true) ∧ Ext w w' := by
  have HI := Lib.hid hI
  have HH := Lib.hid h
  have hfew := hI.few g1 n1
  have hts : (c.ts.length : Int) ≤ 1800 := by omega
  have hO := CrI.inv hI
  have HWR : Hid (wRight c.ts (g : Int) c.dn.length = true) := Lib.hid (by rw [hO.dl]; exact hO.right g1 g2 n1 n2)
  have HDN : Hid (c.dn.length = n) := Lib.hid hO.dl
  have HGI : Hid (in64 (g : Int)) := Lib.hid (by unfold in64; omega)
  have s1 : (0 : Int) ≤ (c.st : Int) := by omega
  have s2 : (c.st : Int) ≤ 100000 := by omega
  have s3 : (0 : Int) ≤ (c.id : Int) := by omega
  have s4 : (c.id : Int) ≤ 100000 := by omega
  have s5 : (1 : Int) ≤ m := by omega
  have s6 : (m : Int) ≤ 8 := by omega
  obtain ⟨hs, hds⟩ := h.deq
  have HDS := Lib.hid hds
  have HDL : Hid (c.D.length = m) := Lib.hid hds.1
  obtain ⟨n0, hn0⟩ : ∃ n0, c.ts.length = n0 := ⟨_, rfl⟩
  have htl0 : 0 < n0 := by rw [← hn0]; exact hO.len
  obtain ⟨ta, to', hA, hct⟩ := Rd.tasks h.tsk.rd (by omega : 0 < c.ts.length)
  subst hA
  rw [hn0] at hts hfew
  have HCT : Hid (∀ j, j < n0 → _) := Lib.hid (by rw [← hn0]; exact hct)
  have HTN := Lib.hid hn0
  obtain ⟨C, hmk, hmown⟩ := kBool.make false rfl trivial n0 (by omega)
  have HMK := Lib.hid hmown
  have hmk2 : ∀ w : World, (Instr.makeSlice 55 (.int .i64 n0) (.int .i64 n0)).run Tryz.prog w = .ok (.slice (some ⟨w.heap.size, 0, none⟩) n0 n0) (w.alloc (.cells C 4)) := hmk
  clear hmk
  clear h hI hO hds hct hmown
  unfold crewV
  rw [hn0]
  go_enter Tryz.func70, Tryz.ntmps70
  go_wp2_with fail
  have hrr := rright_any (some ⟨ta, to', none⟩) B a b c.dn.length c.ts (g : Int) (w.alloc (.cells #[.slice (some ⟨ta, to', none⟩) n0 a, .int .i64 g, .slice B c.dn.length b, .slice (some ⟨eb, eo, none⟩) m e, .bool c.over, .int .i64 c.st, .int .i64 c.id] 81)) (HH.out.tsk.rd.ext ((Ext.refl _).alloc _)) (by rw [HDN.out]; omega) HGI.out
  rw [hn0, HWR.out] at hrr
  clear hn0
  refine hrr.mono ?_
  clear hrr
  rintro ed w1 ⟨rfl, hE⟩
  have x0 : w1.cell? ⟨w.heap.size, 0, none⟩ = some (.slice (some ⟨ta, to', none⟩) n0 a) := Ext.cell hE (by go_simp)
  have x1 : w1.cell? ⟨w.heap.size, 1, none⟩ = some (.int .i64 g) := Ext.cell hE (by go_simp)
  have x2 : w1.cell? ⟨w.heap.size, 2, none⟩ = some (.slice B c.dn.length b) := Ext.cell hE (by go_simp)
  have x3 : w1.cell? ⟨w.heap.size, 3, none⟩ = some (.slice (some ⟨eb, eo, none⟩) m e) := Ext.cell hE (by go_simp)
  have x4 : w1.cell? ⟨w.heap.size, 4, none⟩ = some (.bool c.over) := Ext.cell hE (by go_simp)
  have x5 : w1.cell? ⟨w.heap.size, 5, none⟩ = some (.int .i64 c.st) := Ext.cell hE (by go_simp)
  have x6 : w1.cell? ⟨w.heap.size, 6, none⟩ = some (.int .i64 c.id) := Ext.cell hE (by go_simp)
  have xf : ∀ o, w1.frozen? ⟨w.heap.size, o, none⟩ = false := fun o => (Below.frozen hE (p := ⟨w.heap.size, o, none⟩) (by first | omega | (simp; omega) | simp)).trans (by go_simp)
  have HE1 := Lib.hid (((Ext.refl w).alloc _).trans hE)
  have hz1 := hE.size
  simp at hz1
  clear hE
  go_wp2_with fail
  have hown1 := HMK.out w1 w1.heap.size w1.heap.size rfl (Nat.le_refl _)
  have hE2 : Ext w1 (w1.alloc (.cells C 4)) := (Ext.refl _).alloc _
  obtain ⟨M, hM⟩ : ∃ M, w1.heap.size = M := ⟨_, rfl⟩
  have hz2 : (w1.alloc (.cells C 4)).heap.size = M + 1 := by simp [hM]
  have hown2 : Ow kBool M (w1.alloc (.cells C 4)) (.slice (some ⟨M, 0, none⟩) n0 n0) (List.replicate n0 false) := by rw [← hM]; exact hown1
  rw [hM]
  generalize hw2 : w1.alloc (.cells C 4) = w2 at *
  clear hw2 hown1
  have HO2 := Lib.hid hown2
  have HZ2 := Lib.hid hz2
  have HX2 : Hid (Ext w w2) := Lib.hid (HE1.out.trans hE2)
  have lM : w.heap.size < M := by omega
  have y0 := hE2.cell x0
  have y1 := hE2.cell x1
  have y2 := hE2.cell x2
  have y3 := hE2.cell x3
  clear hown2 hz2 hE2 x0 x1 x2 x3 x4 x5 x6 xf hz1 hM HMK hmk2
  go_loopw [5] (fun i wr => ∃ j : Nat, j ≤ m ∧ i = .int .i64 j ∧ Ow kBool M wr (.slice (some ⟨M, 0, none⟩) n0 n0) (metL n0 (upTo c.D j)) ∧ Grew (fun b => b = M) w2 wr) (fun i _ => m - (intOf i).toNat)
  case atStart => exact ⟨0, Nat.zero_le _, rfl, by rw [show upTo c.D 0 = [] from rfl, metL_nil]; exact HO2.out, Grew.refl _ _⟩
  case round =>
    obtain ⟨j, hj, rfl, hown, hG⟩ := hrel
    have HO := Lib.hid hown
    have HG := Lib.hid hG
    clear hown hG
    have hj0 : (0 : Int) ≤ j := by omega
    by_cases hlt : j < m
    · have hlt' : (j : Int) < m := by omega
      obtain ⟨z0, zn, zr⟩ := HDS.out.2 j hlt
      obtain ⟨⟨Ah, nh, ch⟩, hh⟩ : ∃ x, hs j = x := ⟨_, rfl⟩
      rw [hh] at zn zr z0
      unfold Hd.v at z0 zr
      simp only at z0 zn zr
      have leb : eb < w.heap.size := HDS.out.lt m1
      have HZ0 := Lib.hid z0
      obtain ⟨D, hD⟩ : ∃ D, c.D.getD j [] = D := ⟨_, rfl⟩
      rw [hD] at zn zr
      have HDD := Lib.hid hD
      have HZR := Lib.hid zr
      have HZN := Lib.hid zn
      have hnh : nh ≤ 1800 := by
        have h1 := held_at c.D j (by rw [HDL.out]; exact hlt)
        have h2 := h1.length_eq
        rw [List.length_append, hD, ← zn] at h2
        have h3 := (CrI.fresh HI.out).2.2.2
        have := HTN.out
        omega
      have hnh' : (nh : Int) ≤ 1800 := by omega
      clear z0 zn zr hh hD
      go_wp2_with fail
      go_loopw [6] (fun i wr => ∃ k : Nat, k ≤ nh ∧ i = .int .i64 k ∧ Ow kBool M wr (.slice (some ⟨M, 0, none⟩) n0 n0) (metL n0 (upTo c.D j ++ D.take k)) ∧ Grew (fun b => b = M) w2 wr) (fun i _ => nh - (intOf i).toNat)
      case atStart => exact ⟨0, Nat.zero_le _, rfl, by rw [List.take_zero, List.append_nil]; exact HO.out, HG.out⟩
      case round =>
        obtain ⟨k, hk, rfl, hown, hG⟩ := hrel
        have HO := Lib.hid hown
        have HG := Lib.hid hG
        have hk0 : (0 : Int) ≤ k := by omega
        have hEb : ∀ b, b < w.heap.size → ¬ b = M := fun b hb => by omega
        have q0 := hG.cell y0 (by omega)
        have q1 := hG.cell y1 (by omega)
        have q2 := hG.cell y2 (by omega)
        have q3 := hG.cell y3 (by omega)
        have qh := hG.cell (HX2.out.cell HZ0.out) (by omega)
        by_cases hlk : k < nh
        · have hlk' : (k : Int) < nh := by omega
          obtain ⟨i, hi⟩ : ∃ i, D.getD k 0 = i := ⟨_, rfl⟩
          have hlkD : k < D.length := by rw [← HZN.out]; exact hlk
          obtain ⟨R, hsp⟩ := held_split c.D j k (by rw [HDL.out]; exact hlt) (by rw [HDD.out]; exact hlkD)
          rw [HDD.out, hi] at hsp
          have hO := CrI.inv HI.out
          have him : i ∈ held c.D := by rw [hsp]; simp
          have hin : i < n0 := by rw [← HTN.out]; exact hO.lt i him
          have hnot : i ∉ upTo c.D j ++ D.take k := by
            intro hh
            have hnd := hO.nd
            rw [hsp, List.nodup_append] at hnd
            exact hnd.2.2 i hh i (by simp) rfl
          have hsucc : upTo c.D j ++ D.take (k + 1) = (upTo c.D j ++ D.take k) ++ [i] := by
            rw [List.take_succ_eq_append_getElem hlkD, ← hi, List.getD_eq_getElem?_getD, List.getElem?_eq_getElem hlkD, List.append_assoc]; rfl
          have HS : Hid (metL n0 (upTo c.D j ++ D.take (k + 1)) = (metL n0 (upTo c.D j ++ D.take k)).set i true) := Lib.hid (by rw [hsucc]; exact metL_snoc n0 _ i hin)
          obtain ⟨b1, o1, hA1, hc1⟩ := HZR.out.rd.cells (by rw [zs_len]; omega)
          subst hA1
          have z0 := hc1 k (by rw [zs_len]; exact hlkD) 0 _ rfl
          have e0 : (zs D).getD k kInt.d = ((i : Nat) : Int) := by rw [← hi]; exact zs_getD _ _
          have z1 : w.cell? ⟨b1, o1 + k, none⟩ = some (.int .i64 i) := by
            rw [e0] at z0
            rw [show o1 + k = o1 + k * kInt.n + 0 from by show o1 + k = o1 + k * 1 + 0; omega]
            exact z0
          have zi := hG.cell (HX2.out.cell z1) (hEb b1 (World.block_lt_of_cell? _ _ z1))
          obtain ⟨⟨lo, hi', up, wt⟩, ht⟩ : ∃ t, c.ts.getD i ⟨0, 0, 0, 0⟩ = t := ⟨_, rfl⟩
          have htT : T c.ts i = ⟨lo, hi', up, wt⟩ := ht
          have hw0 := hO.w0 i him
          rw [htT] at hw0
          simp only at hw0
          subst hw0
          have htask := hO.task i (hO.lt i him)
          rw [htT] at htask
          simp only at htask
          obtain ⟨t1, t2, t3, _, _, _, _⟩ := htask
          have hcov := (hO.cov lo.toNat (by omega)).2 ⟨i, him, by rw [htT]; simp only; omega, by rw [htT]; simp only; omega⟩
          obtain ⟨p0, p1, p2, p3⟩ := HCT.out i hin
          rw [ht] at p0 p1 p2 p3
          simp only at p0 p1 p2 p3
          have lta := hEb ta (World.block_lt_of_cell? _ _ p0)
          have r0 := hG.cell (HX2.out.cell p0) lta
          have r1 := hG.cell (HX2.out.cell p1) lta
          have r2 := hG.cell (HX2.out.cell p2) lta
          have r3 := hG.cell (HX2.out.cell p3) lta
          obtain ⟨g', eg, _, _, h3, h4⟩ := Ow.pos hown (by rw [metL_len]; exact htl0)
          obtain rfl : g' = M := by cases eg; rfl
          have zm : wr.cell? ⟨g', i, none⟩ = some (.bool false) := by
            have := h3 i (by rw [metL_len]; exact hin) 0 _ rfl
            rw [show (metL n0 (upTo c.D j ++ D.take k)).getD i kBool.d = false by rw [show kBool.d = false from rfl, metL_getD _ _ _ hin]; exact decide_eq_false hnot] at this
            rw [show i = i * kBool.n + 0 from by show i = i * 1 + 0; omega]
            exact this
          have HFR := Lib.hid h4
          have hdl := HDN.out
          obtain ⟨bd, od, hB1, hcd⟩ := Rd.bools HH.out.dns.rd (by omega : 0 < c.dn.length)
          subst hB1
          obtain ⟨l, hl⟩ : ∃ l : Nat, lo = l := ⟨lo.toNat, by omega⟩
          subst hl
          rw [Int.toNat_natCast] at hcov
          have zd := hcd l (by omega)
          rw [hcov] at zd
          have zd' := hG.cell (HX2.out.cell zd) (hEb bd (World.block_lt_of_cell? _ _ zd))
          have HTS : Hid (Rd kTask wr (.slice (some ⟨ta, to', none⟩) c.ts.length a) c.ts) := Lib.hid (HH.out.tsk wr (Grew.of (hG.toExt HX2.out (fun b hb => by rw [hb]; omega))))
          have HNL : Hid (c.dn.length ≤ 9223372036854775807) := Lib.hid (by omega)
          have hl2 : (l : Int) < c.dn.length := by omega
          have hl3 : decide ((c.dn.length : Int) ≤ (l : Int)) = false := decide_eq_false (by omega)
          have hl4 : decide (c.dn.length ≤ l) = false := decide_eq_false (by omega)
          have hi0 : (0 : Int) ≤ i := by omega
          have hi1 : (i : Int) < n0 := by omega
          have hd1 : decide ((i : Int) < 0) = false := decide_eq_false (by omega)
          have hd2 : decide ((n0 : Int) ≤ (i : Int)) = false := decide_eq_false (by omega)
          have hd3 : decide (n0 ≤ i) = false := decide_eq_false (by omega)
          have HI64 : Hid (-9223372036854775808 ≤ (i : Int) ∧ (i : Int) ≤ 9223372036854775807) := Lib.hid ⟨by omega, by omega⟩
          clear hown hG h3 h4 z0 z1 e0 hc1 hi ht htT him hO hnot hsucc p0 p1 p2 p3 eg hsp hcd zd hcov hdl hEb lta
          have KS : Hid (∀ w', Ext wr w' → w'.cell? ⟨w.heap.size, 0, none⟩ = some (.slice (some ⟨ta, to', none⟩) n0 a) ∧ w'.cell? ⟨w.heap.size, 1, none⟩ = some (.int .i64 g) ∧ w'.cell? ⟨w.heap.size, 2, none⟩ = some (.slice (some ⟨bd, od, none⟩) c.dn.length b) ∧ w'.cell? ⟨g', i, none⟩ = some (.bool false) ∧ w'.cell? ⟨ta, to' + i * 4, none⟩ = some (.int .i64 l) ∧ w'.cell? ⟨ta, to' + i * 4 + 1, none⟩ = some (.int .i64 hi') ∧ w'.cell? ⟨ta, to' + i * 4 + 2, none⟩ = some (.int .i64 up) ∧ w'.cell? ⟨ta, to' + i * 4 + 3, none⟩ = some (.int .i64 0) ∧ w'.cell? ⟨bd, od + l, none⟩ = some (.bool false)) := Lib.hid fun w' hE => ⟨hE.cell q0, hE.cell q1, hE.cell q2, hE.cell zm, hE.cell r0, hE.cell r1, hE.cell r2, hE.cell r3, hE.cell zd'⟩
          go_wp2_with fail
          obtain ⟨gr, hgr⟩ : ∃ gr, wGreat c.ts (g : Int) c.dn.length (i : Int) = gr := ⟨_, rfl⟩
          have HOP : Hid (∀ w', Ext wr w' → Calls Tryz.prog 75 #[.agg #[.slice (some ⟨ta, to', none⟩) n0 a, .int .i64 g, .slice (some ⟨bd, od, none⟩) c.dn.length b], .int .i64 i] w' fun ed w'' => ed = .returned (.bool gr) ∧ Ext wr w'') := Lib.hid fun w' hE => by
            have hc := rgreat_any (some ⟨ta, to', none⟩) (some ⟨bd, od, none⟩) a b c.dn.length c.ts (g : Int) (i : Int) w' (HTS.out.ext hE) HNL.out HGI.out HI64.out
            rw [HTN.out, hgr] at hc
            exact hc.mono fun ed w'' hh => ⟨hh.1, hE.trans hh.2⟩
          clear hgr
          have hM1 : g' < wr.heap.size := by have := HZ2.out; have := HG.out.size; omega
          have fin : ∀ w4, Ext wr w4 → Hid (Ow kBool g' (w4.setCell ⟨g', i, none⟩ (.bool true)) (.slice (some ⟨g', 0, none⟩) n0 n0) (metL n0 (upTo c.D j ++ D.take (k + 1))) ∧ Grew (fun b => b = g') w2 (w4.setCell ⟨g', i, none⟩ (.bool true))) := fun w4 hC4 => Lib.hid (by
            have hset := (HO.out.ext hC4).set (j := i) (i := 0) (x := true) (u := .bool true) (by rw [metL_len]; exact hin) (by decide) rfl trivial
            rw [show i * kBool.n + 0 = i from by show i * 1 + 0 = i; omega, ← HS.out] at hset
            exact ⟨hset, (HG.out.ext hC4).setCell rfl _⟩)
          have fro : ∀ w4, Ext wr w4 → ∀ o, w4.frozen? ⟨g', o, none⟩ = false := fun w4 hC4 o => (Below.frozen hC4 (p := ⟨g', o, none⟩) hM1).trans (HFR.out o)
          have FIN := Lib.hid fin
          have FRO := Lib.hid fro
          clear fin fro
          cases gr with
          | true =>
            refine wp_region_class (Ext wr) (by kernel_rfl) (by kernel_rfl) (Ext.refl _).drew ?_
            try simp only [List.append_eq, List.cons_append, List.nil_append]
            repeat (first
              | go_big_quiet_skip
              | (go_big_quiet_want
                 first
                 | (go_big_quiet_op; go_big_quiet_on)
                 | (unfold Oper.quiet
                    apply Exists.intro
                    refine ⟨fun w' hC => ?_, ?_⟩
                    · (obtain ⟨k1, k2, k3, k4, k5, k6, k7, k8, k9⟩ := KS.out w' hC
                       unfold Oper.quietAt
                       go_simp
                       first
                       | exact rfl
                       | (with_reducible exact HOP.out w' hC))
                    go_simp
                    go_big_quiet_on)
                 | (go_big_quiet_op
                    apply Exists.intro
                    refine ⟨fun w' hC => ?_, ?_⟩
                    · exact HOP.out w' hC
                    go_big_quiet_on)))
            refine wpQuiet_nil ?_
            intro w4 hC4
            have hfr := FRO.out w4 hC4
            have hFN := FIN.out w4 hC4
            have l1 : g' < w4.heap.size := by have := hC4.size; omega
            have zm4 := hC4.cell zm
            go_wp2_with fail
            go_roundw
            case rel => exact ⟨k + 1, by omega, by go_num, hFN.out.1, hFN.out.2⟩
            case measure => simp [intOf]; omega
          | false =>
            refine wp_region_class (Ext wr) (by kernel_rfl) (by kernel_rfl) (Ext.refl _).drew ?_
            try simp only [List.append_eq, List.cons_append, List.nil_append]
            repeat (first
              | go_big_quiet_skip
              | (go_big_quiet_want
                 first
                 | (go_big_quiet_op; go_big_quiet_on)
                 | (unfold Oper.quiet
                    apply Exists.intro
                    refine ⟨fun w' hC => ?_, ?_⟩
                    · (obtain ⟨k1, k2, k3, k4, k5, k6, k7, k8, k9⟩ := KS.out w' hC
                       unfold Oper.quietAt
                       go_simp
                       first
                       | exact rfl
                       | (with_reducible exact HOP.out w' hC))
                    go_simp
                    go_big_quiet_on)
                 | (go_big_quiet_op
                    apply Exists.intro
                    refine ⟨fun w' hC => ?_, ?_⟩
                    · exact HOP.out w' hC
                    go_big_quiet_on)))
            refine wpQuiet_nil ?_
            intro w4 hC4
            have hfr := FRO.out w4 hC4
            have hFN := FIN.out w4 hC4
            have l1 : g' < w4.heap.size := by have := hC4.size; omega
            have zm4 := hC4.cell zm
            go_wp2_with fail
            go_roundw
            case rel => exact ⟨k + 1, by omega, by go_num, hFN.out.1, hFN.out.2⟩
            case measure => simp [intOf]; omega
        · obtain rfl : k = nh := by omega
          go_wp2_with fail
          go_roundw
          case rel => exact ⟨j + 1, by omega, by go_num, by rw [upTo_succ _ _ (by rw [HDL.out]; exact hlt), HDD.out]; rw [List.take_of_length_le (by rw [HZN.out]; exact Nat.le_refl _)] at hown; exact hown, hG⟩
          case measure => simp [intOf]; omega
    · obtain rfl : j = m := by omega
      go_wp2_with fail
      go_ret
      exact ⟨rfl, HG.out.toExt HX2.out (fun b hb => by rw [hb]; omega)⟩
end Go.Proofs.YtkpbanfpnilifaaGreat

/- The deque's functions. -/
namespace Go.Proofs.YtkpbanfpnilifaaGreat
open Go.RowKit Go.Proofs.YtkpbanfpnilifaaGreat.Plain

theorem Ints.slice {w : World} {v : Value} {xs : List Int} (h : Ints w v xs) : ∃ A c, v = .slice A xs.length c ∧ xs.length ≤ c := by
  obtain ⟨_, _, A, c, rfl, hc, _⟩ := h
  exact ⟨A, c, rfl, hc⟩
theorem Own.slice {B : Nat} {w : World} {v : Value} {xs : List Int} (h : Own B w v xs) : ∃ A c, v = .slice A xs.length c := by
  obtain ⟨A, c, rfl, _⟩ := h.shape
  exact ⟨A, c, rfl⟩

end Go.Proofs.YtkpbanfpnilifaaGreat

/- The deque's Move. -/
namespace Go.Proofs.YtkpbanfpnilifaaGreat
open Go.RowKit Go.Proofs.YtkpbanfpnilifaaGreat.Plain

end Go.Proofs.YtkpbanfpnilifaaGreat

/- The deque's functions, with their answers named; and the document's. -/
namespace Go.Proofs.YtkpbanfpnilifaaGreat
open Go.RowKit Go.Proofs.YtkpbanfpnilifaaGreat.Plain

/-- a literal of integers, in a block of its own -/
theorem Ints.lit (w : World) (xs : List Int) (n : Nat) (hn : xs.length = n) (hm : xs.length ≤ maxLen) (hb : ∀ x ∈ xs, -9223372036854775808 ≤ x ∧ x ≤ 9223372036854775807) :
    Ints (w.alloc (.cells (xs.map (Value.int .i64)).toArray 3)) (.slice (some ⟨w.heap.size, 0, none⟩) n n) xs := by
  subst hn
  exact (Own.lit w xs (Nat.le_refl _) hm hb).ints
end Go.Proofs.YtkpbanfpnilifaaGreat

/- The document's deque. -/
namespace Go.Proofs.YtkpbanfpnilifaaGreat
open Go.RowKit Go.Proofs.YtkpbanfpnilifaaGreat.Plain

set_option maxHeartbeats 400000 in
set_option maxRecDepth 100000 in
theorem rpop_any (A : Option Addr) (c : Nat) (l : List Int) (w : World) (h : Ints w (.slice A l.length c) l) (hl : l.length ≤ 4000) :
    Calls Tryz.prog 73 #[.slice A l.length c] w fun e w' => ∃ A c, e = .returned (.tuple #[.slice A (popL l).length c, .int .i64 (lastD l), .int .i64 (popE l)]) ∧ Ints w' (.slice A (popL l).length c) (popL l) ∧ Ext w w' := by
  have H := Lib.hid h
  by_cases h0 : l.length = 0
  · obtain rfl : l = [] := List.eq_nil_of_length_eq_zero h0
    clear h
    go_enter Tryz.func73, Tryz.ntmps73
    go_wp2
    go_ret3
    exact ⟨_, _, rfl, H.out, Ext.refl _⟩
  · have h1 : 0 < l.length := by omega
    have h2 : ((l.length : Int) == 0) = false := by rw [beq_eq_false_iff_ne]; omega
    have e1 : Hid (popE l = 0) := Lib.hid (by unfold popE; rw [if_neg h0])
    have e2 : Hid ((popL l).length = l.length - 1) := Lib.hid (popL_len l)
    have e4 : Hid (lastD l = l.getD (l.length - 1) 0) := Lib.hid rfl
    have hc4 : (1 : Int) ≤ l.length := by omega
    have hcap : l.length ≤ c := by obtain ⟨_, _, A', c', he, hc', _⟩ := h; cases he; exact hc'
    have hc6 : (l.length : Int) - 1 ≤ c := by omega
    have hc7 : (l.length : Int) - 1 < l.length := by omega
    have hc8 : (0 : Int) ≤ (l.length : Int) - 1 := by omega
    clear h h0
    obtain ⟨b, off, rfl, hcc⟩ := H.out.cells h1
    have k1 := hcc (l.length - 1) (by omega)
    rw [← e4.out] at k1
    clear hcc
    have HI := Lib.hid (H.out.take (l.length - 1) c (by omega) (by omega))
    go_enter Tryz.func73, Tryz.ntmps73
    go_wp2
    go_region_held3 (fun w' => w'.cell? ⟨b, off + (l.length - 1), none⟩ = some (.int .i64 (lastD l)))
      (first | go_keep | exact c11)
      (first
        | (refine step_app (by rfl) (.tmp 13) (.tmp 16) (by rfl) (by rfl) w.heap.size _ [] (by rfl) ((Own.made w #[] 0 (Nat.le_refl _) (by simp) rfl).ext (Ext.refl _).drew) _ (l.take (l.length - 1)) (by rfl) (HI.out.ext ((Ext.refl w).alloc _).drew) (by rw [List.length_take]; simp; omega) (by simp) ?_
           intro v1 w1 hown1 hgrow1 hat1
           have hE1 := ((Ext.refl w).alloc _).drew.grown hgrow1 (fun k hk => by cases hk; exact Nat.le_refl _)
           have c11 : w1.cell? ⟨b, off + (l.length - 1), none⟩ = some (.int .i64 (lastD l)) := hE1.cell k1))
    go_wp2
    simp only [List.nil_append] at hown1
    obtain ⟨A2, c2, rfl⟩ := hown1.slice
    go_ret3
    rw [e1.out]
    exact ⟨_, _, rfl, hown1.ints, hE1⟩

set_option maxHeartbeats 400000 in
set_option maxRecDepth 100000 in
theorem rsteal_any (A : Option Addr) (c : Nat) (l : List Int) (w : World) (h : Ints w (.slice A l.length c) l) (hl : l.length ≤ 4000) :
    Calls Tryz.prog 74 #[.slice A l.length c] w fun e w' => ∃ A c, e = .returned (.tuple #[.slice A (stealL l).length c, .int .i64 (topD l), .int .i64 (popE l)]) ∧ Ints w' (.slice A (stealL l).length c) (stealL l) ∧ Ext w w' := by
  have H := Lib.hid h
  by_cases h0 : l.length = 0
  · obtain rfl : l = [] := List.eq_nil_of_length_eq_zero h0
    clear h
    go_enter Tryz.func74, Tryz.ntmps74
    go_wp2
    go_ret3
    exact ⟨_, _, rfl, H.out, Ext.refl _⟩
  · have h1 : 0 < l.length := by omega
    have h2 : ((l.length : Int) == 0) = false := by rw [beq_eq_false_iff_ne]; omega
    have e1 : Hid (popE l = 0) := Lib.hid (by unfold popE; rw [if_neg h0])
    have e3 : Hid (topD l = l.getD 0 0) := Lib.hid rfl
    have hcap : l.length ≤ c := by obtain ⟨_, _, A', c', he, hc', _⟩ := h; cases he; exact hc'
    clear h h0
    obtain ⟨b, off, rfl, hcc⟩ := H.out.cells h1
    have k0 : w.cell? ⟨b, off, none⟩ = some (.int .i64 (l.getD 0 0)) := hcc 0 h1
    rw [← e3.out] at k0
    clear hcc
    have hc4 : (1 : Int) ≤ l.length := by omega
    have hc6 : (l.length : Int) ≤ c := by omega
    by_cases hc1 : c = 1
    · subst hc1
      have HI : Hid (Ints w (.slice (some ⟨b, off, none⟩) 0 0) (l.drop 1)) := Lib.hid (by
        rw [show l.drop 1 = [] from List.eq_nil_of_length_eq_zero (by rw [List.length_drop]; omega)]
        exact Ints.nil _ _ _)
      go_enter Tryz.func74, Tryz.ntmps74
      go_wp2
      go_region_held3 (fun w' => w'.cell? ⟨b, off, none⟩ = some (.int .i64 (topD l)))
        (first | go_keep | exact c11)
        (first
          | (refine step_app (by rfl) (.tmp 9) (.tmp 11) (by rfl) (by rfl) w.heap.size _ [] (by rfl) ((Own.made w #[] 0 (Nat.le_refl _) (by simp) rfl).ext (Ext.refl _).drew) _ (l.drop 1) (by rfl) (HI.out.ext ((Ext.refl w).alloc _).drew) (by rw [List.length_drop]; simp; omega) (by simp) ?_
             intro v1 w1 hown1 hgrow1 hat1
             have hE1 := ((Ext.refl w).alloc _).drew.grown hgrow1 (fun k hk => by cases hk; exact Nat.le_refl _)
             have c11 : w1.cell? ⟨b, off, none⟩ = some (.int .i64 (topD l)) := hE1.cell k0))
      go_wp2
      simp only [List.nil_append] at hown1
      obtain ⟨A2, c2, rfl⟩ := hown1.slice
      go_ret3
      rw [e1.out]
      exact ⟨_, _, rfl, hown1.ints, hE1⟩
    · have HI := Lib.hid (H.out.drop 1 (l.length - 1) (c - 1) rfl (by omega))
      go_enter Tryz.func74, Tryz.ntmps74
      go_wp2
      go_region_held3 (fun w' => w'.cell? ⟨b, off, none⟩ = some (.int .i64 (topD l)))
        (first | go_keep | exact c11)
        (first
          | (refine step_app (by rfl) (.tmp 9) (.tmp 11) (by rfl) (by rfl) w.heap.size _ [] (by rfl) ((Own.made w #[] 0 (Nat.le_refl _) (by simp) rfl).ext (Ext.refl _).drew) _ (l.drop 1) (by rfl) (HI.out.ext ((Ext.refl w).alloc _).drew) (by rw [List.length_drop]; simp; omega) (by simp) ?_
             intro v1 w1 hown1 hgrow1 hat1
             have hE1 := ((Ext.refl w).alloc _).drew.grown hgrow1 (fun k hk => by cases hk; exact Nat.le_refl _)
             have c11 : w1.cell? ⟨b, off, none⟩ = some (.int .i64 (topD l)) := hE1.cell k0))
      go_wp2
      simp only [List.nil_append] at hown1
      obtain ⟨A2, c2, rfl⟩ := hown1.slice
      go_ret3
      rw [e1.out]
      exact ⟨_, _, rfl, hown1.ints, hE1⟩

end Go.Proofs.YtkpbanfpnilifaaGreat

/- Pop and Steal of a crew's deque: what is left, and its room. -/
namespace Go.Proofs.YtkpbanfpnilifaaGreat
open Go.BigFrame
open Go.RowKit Go.Proofs.YtkpbanfpnilifaaGreat.Plain

theorem pop_zs (xs : List Nat) (h : xs ≠ []) : popL (zs xs) = zs xs.dropLast ∧ lastD (zs xs) = ((xs.getLastD 0 : Nat) : Int) ∧ popE (zs xs) = 0 := by
  have e := getLastD_snoc xs h
  obtain ⟨ys, y, hy⟩ : ∃ ys y, xs = ys ++ [y] := ⟨_, _, e⟩
  subst hy
  have e1 : (ys ++ [y]).dropLast = ys := List.dropLast_concat
  have e2 : (ys ++ [y]).getLastD 0 = y := by rw [List.getLastD_eq_getLast?, List.getLast?_concat]; rfl
  rw [e1, e2]
  have e3 : zs (ys ++ [y]) = zs ys ++ [(y : Int)] := by unfold zs; simp
  rw [e3]
  refine ⟨?_, ?_, ?_⟩
  · unfold popL; simp
  · unfold lastD; simp
  · unfold popE; simp
theorem steal_zs (xs : List Nat) (h : xs ≠ []) : stealL (zs xs) = zs xs.tail ∧ topD (zs xs) = ((xs.headD 0 : Nat) : Int) ∧ popE (zs xs) = 0 := by
  cases xs with
  | nil => exact absurd rfl h
  | cons y l =>
    refine ⟨?_, ?_, ?_⟩
    · unfold stealL zs; simp
    · unfold topD zs; simp
    · unfold popE zs; simp

set_option maxHeartbeats 400000 in
set_option maxRecDepth 100000 in
theorem pop_go (x : Hd) (xs : List Nat) (w : World) (hr : Rd kInt w x.v (zs xs)) (hn : x.n = xs.length) (hl : xs.length ≤ 4000) (h0 : xs ≠ []) :
    Calls Tryz.prog 99 #[x.v] w fun e w' => ∃ y : Hd, e = .returned (.tuple #[y.v, .int .i64 (xs.getLastD 0 : Nat), .int .i64 0]) ∧ y.n = xs.dropLast.length ∧ y.c = y.n ∧ (∀ S : Nat → Prop, (∀ x, S x → x < w.heap.size) → RdO kInt S w' y.v (zs xs.dropLast)) ∧ Ext w w' := by
  obtain ⟨p1, p2, p3⟩ := pop_zs xs h0
  obtain ⟨A, n, c⟩ := x
  obtain rfl : n = xs.length := hn
  obtain ⟨l, hl'⟩ : ∃ l, zs xs = l := ⟨_, rfl⟩
  have hlen : l.length = xs.length := by rw [← hl', zs_len]
  rw [hl'] at hr p1 p2 p3
  have H : Hid (Ints w (.slice A l.length c) l) := Lib.hid (by rw [hlen]; exact ints_of_rd hr)
  have h1 : 0 < l.length := by rw [hlen]; exact List.length_pos_iff.2 h0
  have e2 : Hid ((popL l).length = l.length - 1) := Lib.hid (popL_len l)
  have e3 : Hid (lastD l = l.getD (l.length - 1) 0) := Lib.hid rfl
  have P1 := Lib.hid p1
  have P2 := Lib.hid p2
  have HL := Lib.hid hlen
  have hb : l.length ≤ 4000 := by omega
  unfold Hd.v
  simp only
  rw [← hlen]
  clear hr p1 p2 p3 hl' hlen hl h0
  go_enter Tryz.func99, Tryz.ntmps99
  go_wp2_with fail
  refine (clone_any _ _ _ H.out (by omega)).mono ?_
  rintro e w1 ⟨A1, c1, rfl, ho, hE⟩
  obtain ⟨_, _, hsh, hdd⟩ := ho.shape
  have hdd1 : (l.length : Int) - 1 ≤ (c1 : Int) := by cases hsh; omega
  have hdd2 : (l.length : Int) ≤ (c1 : Int) := by cases hsh; omega
  clear hdd hsh
  obtain ⟨g, rfl, hgB, hgw, hgc, hgf, hgs⟩ := ho.pos h1
  have kf := hgc (l.length - 1) (by omega)
  rw [← e3.out] at kf
  have HO := Lib.hid ho
  have HE := Lib.hid hE
  clear hgc hgs hgf ho hE
  go_wp2_with fail
  go_quiet (fail)
  go_wp2
  go_ret3
  rw [P2.out]
  refine ⟨⟨some ⟨g, 0, none⟩, l.length - 1, l.length - 1⟩, rfl, ?_, rfl, fun S hS => ?_, HE.out.drewN _⟩
  · show l.length - 1 = _
    rw [List.length_dropLast, HL.out]
  · rw [← P1.out]
    exact Rd.offFrom (B := w.heap.size) (rd_of_ints (Ints.ext (HO.out.ints.take (l.length - 1) (l.length - 1) (by omega) (by omega)) ((Ext.refl _).drewN _))) HO.out.from hS
set_option maxHeartbeats 800000 in
set_option maxRecDepth 100000 in
theorem steal_go (x : Hd) (xs : List Nat) (w : World) (hr : Rd kInt w x.v (zs xs)) (hn : x.n = xs.length) (hl : xs.length ≤ 4000) (h0 : xs ≠ []) :
    Calls Tryz.prog 100 #[x.v] w fun e w' => ∃ y : Hd, e = .returned (.tuple #[y.v, .int .i64 (xs.headD 0 : Nat), .int .i64 0]) ∧ y.n = xs.tail.length ∧ (y.n = 0 → y.c = 0) ∧ (∀ S : Nat → Prop, (∀ x, S x → x < w.heap.size) → RdO kInt S w' y.v (zs xs.tail)) ∧ Ext w w' := by
  obtain ⟨A, n, c⟩ := x
  obtain rfl : n = xs.length := hn
  obtain ⟨z, zt, rfl⟩ : ∃ z zt, xs = z :: zt := ⟨_, _, head_tail xs h0⟩
  have H := Lib.hid hr
  have hcap : (z :: zt).length ≤ c := by obtain ⟨_, _, h1, h2⟩ := hr.slice; rw [zs_len] at h1 h2; cases h1; exact h2
  obtain ⟨b, off, rfl, hcc⟩ := hr.cells (by rw [zs_len]; simp)
  have k0 : w.cell? ⟨b, off, none⟩ = some (.int .i64 (z : Nat)) := by
    have := hcc 0 (by rw [zs_len]; simp) 0 _ rfl
    simpa [kInt, zs] using this
  have hb := World.block_lt_of_cell? _ _ k0
  simp at hb
  obtain ⟨m, hm⟩ : ∃ m, zt.length = m := ⟨_, rfl⟩
  have hm1 : (z :: zt).length = m + 1 := by rw [List.length_cons, hm]
  have HM := Lib.hid hm
  unfold Hd.v
  simp only [List.headD_cons, List.tail_cons]
  rw [hm1] at hcap hr hl ⊢
  have HR := Lib.hid hr
  have hc5 : ((m : Int) + 1 == 0) = false := by rw [beq_eq_false_iff_ne]; omega
  have hc4 : (1 : Int) ≤ (m : Int) + 1 := by omega
  have hc6 : (m : Int) + 1 ≤ c := by omega
  clear hcc hr hm hm1 h0 H
  by_cases hc1 : c = 1
  · subst hc1
    obtain rfl : m = 0 := by omega
    obtain rfl : zt = [] := List.eq_nil_of_length_eq_zero HM.out
    go_enter Tryz.func100, Tryz.ntmps100
    go_wp2
    go_region_held3 (fun w' => w'.cell? ⟨b, off, none⟩ = some (.int .i64 (z : Nat)))
      (first | go_keep | exact c11)
      (first
        | (go_at_call 90
           refine (clone_dq ⟨some ⟨b, off, none⟩, 0, 0⟩ [] _ (Rd.nil _ _ _) rfl (by simp)).mono ?_
           rintro e w1 ⟨y, rfl, hy1, hy2, hy3, hE1⟩
           have c11 : w1.cell? ⟨b, off, none⟩ = some (.int .i64 (z : Nat)) := hE1.cell (by go_simp)))
    go_wp2
    go_ret3
    exact ⟨y, rfl, hy1, hy2, hy3, (Ext.refl w).drew.trans hE1⟩
  · have HI : Hid (Rd kInt w (.slice (some ⟨b, off + 1, none⟩) m (c - 1)) (zs zt)) := Lib.hid (by
      have h7 := HR.out.drop 1 m (c - 1) (by rw [zs_len, List.length_cons, HM.out]; omega) (by omega)
      exact h7)
    go_enter Tryz.func100, Tryz.ntmps100
    go_wp2
    go_region_held3 (fun w' => w'.cell? ⟨b, off, none⟩ = some (.int .i64 (z : Nat)))
      (first | go_keep | exact c11)
      (first
        | (go_at_call 90
           refine (clone_dq ⟨some ⟨b, off + 1, none⟩, m, c - 1⟩ zt _ (HI.out.ext (Ext.refl w).drew) HM.out.symm (by rw [HM.out]; omega)).mono ?_
           rintro e w1 ⟨y, rfl, hy1, hy2, hy3, hE1⟩
           have c11 : w1.cell? ⟨b, off, none⟩ = some (.int .i64 (z : Nat)) := hE1.cell (by go_simp)))
    go_wp2
    go_ret3
    exact ⟨y, rfl, hy1, hy2, hy3, (Ext.refl w).drew.trans hE1⟩
end Go.Proofs.YtkpbanfpnilifaaGreat

/- A step of the document's crew (ref05): the boxes, what is taken, and pushed. -/
namespace Go.Proofs.YtkpbanfpnilifaaGreat
open Go.BigFrame
open Go.RowKit Go.Proofs.YtkpbanfpnilifaaGreat.Plain

theorem ow_of_own {B : Nat} {w : World} {v : Value} {xs : List Int} (h : Own B w v xs) : Ow kInt B w v xs := by
  obtain ⟨h1, h2⟩ := h
  have e : ∀ ys : List Int, kInt.flat ys = ys.map (Value.int .i64) := by
    intro ys
    induction ys with
    | nil => rfl
    | cons x r ih =>
      show Value.int .i64 x :: kInt.flat r = _
      rw [ih]; rfl
  exact ⟨by rw [e]; exact h1, h2⟩
set_option maxHeartbeats 400000 in
set_option maxRecDepth 100000 in
theorem rpop_own (A : Option Addr) (c : Nat) (l : List Int) (w : World) (h : Ints w (.slice A l.length c) l) (hl : l.length ≤ 4000) (hne : 0 < l.length) :
    Calls Tryz.prog 73 #[.slice A l.length c] w fun e w' => ∃ A c, e = .returned (.tuple #[.slice A (popL l).length c, .int .i64 (lastD l), .int .i64 (popE l)]) ∧ Own w.heap.size w' (.slice A (popL l).length c) (popL l) ∧ Ext w w' := by
  have H := Lib.hid h
  by_cases h0 : l.length = 0
  · omega
  · have h1 : 0 < l.length := by omega
    have h2 : ((l.length : Int) == 0) = false := by rw [beq_eq_false_iff_ne]; omega
    have e1 : Hid (popE l = 0) := Lib.hid (by unfold popE; rw [if_neg h0])
    have e2 : Hid ((popL l).length = l.length - 1) := Lib.hid (popL_len l)
    have e4 : Hid (lastD l = l.getD (l.length - 1) 0) := Lib.hid rfl
    have hc4 : (1 : Int) ≤ l.length := by omega
    have hcap : l.length ≤ c := by obtain ⟨_, _, A', c', he, hc', _⟩ := h; cases he; exact hc'
    have hc6 : (l.length : Int) - 1 ≤ c := by omega
    have hc7 : (l.length : Int) - 1 < l.length := by omega
    have hc8 : (0 : Int) ≤ (l.length : Int) - 1 := by omega
    clear h h0
    obtain ⟨b, off, rfl, hcc⟩ := H.out.cells h1
    have k1 := hcc (l.length - 1) (by omega)
    rw [← e4.out] at k1
    clear hcc
    have HI := Lib.hid (H.out.take (l.length - 1) c (by omega) (by omega))
    go_enter Tryz.func73, Tryz.ntmps73
    go_wp2
    go_region_held3 (fun w' => w'.cell? ⟨b, off + (l.length - 1), none⟩ = some (.int .i64 (lastD l)))
      (first | go_keep | exact c11)
      (first
        | (refine step_app (by rfl) (.tmp 13) (.tmp 16) (by rfl) (by rfl) w.heap.size _ [] (by rfl) ((Own.made w #[] 0 (Nat.le_refl _) (by simp) rfl).ext (Ext.refl _).drew) _ (l.take (l.length - 1)) (by rfl) (HI.out.ext ((Ext.refl w).alloc _).drew) (by rw [List.length_take]; simp; omega) (by simp) ?_
           intro v1 w1 hown1 hgrow1 hat1
           have hE1 := ((Ext.refl w).alloc _).drew.grown hgrow1 (fun k hk => by cases hk; exact Nat.le_refl _)
           have c11 : w1.cell? ⟨b, off + (l.length - 1), none⟩ = some (.int .i64 (lastD l)) := hE1.cell k1))
    go_wp2
    simp only [List.nil_append] at hown1
    obtain ⟨A2, c2, rfl⟩ := hown1.slice
    go_ret3
    rw [e1.out]
    exact ⟨_, _, rfl, hown1, hE1⟩

set_option maxHeartbeats 400000 in
set_option maxRecDepth 100000 in
theorem rsteal_own (A : Option Addr) (c : Nat) (l : List Int) (w : World) (h : Ints w (.slice A l.length c) l) (hl : l.length ≤ 4000) (hne : 0 < l.length) :
    Calls Tryz.prog 74 #[.slice A l.length c] w fun e w' => ∃ A c, e = .returned (.tuple #[.slice A (stealL l).length c, .int .i64 (topD l), .int .i64 (popE l)]) ∧ Own w.heap.size w' (.slice A (stealL l).length c) (stealL l) ∧ Ext w w' := by
  have H := Lib.hid h
  by_cases h0 : l.length = 0
  · omega
  · have h1 : 0 < l.length := by omega
    have h2 : ((l.length : Int) == 0) = false := by rw [beq_eq_false_iff_ne]; omega
    have e1 : Hid (popE l = 0) := Lib.hid (by unfold popE; rw [if_neg h0])
    have e3 : Hid (topD l = l.getD 0 0) := Lib.hid rfl
    have hcap : l.length ≤ c := by obtain ⟨_, _, A', c', he, hc', _⟩ := h; cases he; exact hc'
    clear h h0
    obtain ⟨b, off, rfl, hcc⟩ := H.out.cells h1
    have k0 : w.cell? ⟨b, off, none⟩ = some (.int .i64 (l.getD 0 0)) := hcc 0 h1
    rw [← e3.out] at k0
    clear hcc
    have hc4 : (1 : Int) ≤ l.length := by omega
    have hc6 : (l.length : Int) ≤ c := by omega
    by_cases hc1 : c = 1
    · subst hc1
      have HI : Hid (Ints w (.slice (some ⟨b, off, none⟩) 0 0) (l.drop 1)) := Lib.hid (by
        rw [show l.drop 1 = [] from List.eq_nil_of_length_eq_zero (by rw [List.length_drop]; omega)]
        exact Ints.nil _ _ _)
      go_enter Tryz.func74, Tryz.ntmps74
      go_wp2
      go_region_held3 (fun w' => w'.cell? ⟨b, off, none⟩ = some (.int .i64 (topD l)))
        (first | go_keep | exact c11)
        (first
          | (refine step_app (by rfl) (.tmp 9) (.tmp 11) (by rfl) (by rfl) w.heap.size _ [] (by rfl) ((Own.made w #[] 0 (Nat.le_refl _) (by simp) rfl).ext (Ext.refl _).drew) _ (l.drop 1) (by rfl) (HI.out.ext ((Ext.refl w).alloc _).drew) (by rw [List.length_drop]; simp; omega) (by simp) ?_
             intro v1 w1 hown1 hgrow1 hat1
             have hE1 := ((Ext.refl w).alloc _).drew.grown hgrow1 (fun k hk => by cases hk; exact Nat.le_refl _)
             have c11 : w1.cell? ⟨b, off, none⟩ = some (.int .i64 (topD l)) := hE1.cell k0))
      go_wp2
      simp only [List.nil_append] at hown1
      obtain ⟨A2, c2, rfl⟩ := hown1.slice
      go_ret3
      rw [e1.out]
      exact ⟨_, _, rfl, hown1, hE1⟩
    · have HI := Lib.hid (H.out.drop 1 (l.length - 1) (c - 1) rfl (by omega))
      go_enter Tryz.func74, Tryz.ntmps74
      go_wp2
      go_region_held3 (fun w' => w'.cell? ⟨b, off, none⟩ = some (.int .i64 (topD l)))
        (first | go_keep | exact c11)
        (first
          | (refine step_app (by rfl) (.tmp 9) (.tmp 11) (by rfl) (by rfl) w.heap.size _ [] (by rfl) ((Own.made w #[] 0 (Nat.le_refl _) (by simp) rfl).ext (Ext.refl _).drew) _ (l.drop 1) (by rfl) (HI.out.ext ((Ext.refl w).alloc _).drew) (by rw [List.length_drop]; simp; omega) (by simp) ?_
             intro v1 w1 hown1 hgrow1 hat1
             have hE1 := ((Ext.refl w).alloc _).drew.grown hgrow1 (fun k hk => by cases hk; exact Nat.le_refl _)
             have c11 : w1.cell? ⟨b, off, none⟩ = some (.int .i64 (topD l)) := hE1.cell k0))
      go_wp2
      simp only [List.nil_append] at hown1
      obtain ⟨A2, c2, rfl⟩ := hown1.slice
      go_ret3
      rw [e1.out]
      exact ⟨_, _, rfl, hown1, hE1⟩


theorem block_lt {w : World} {x : Nat} {o : Obj} (h : w.heap[x]? = some o) : x < w.heap.size := by
  rcases Nat.lt_or_ge x w.heap.size with h' | h'
  · exact h'
  · rw [Array.getElem?_eq_none h'] at h; cases h
/-- deques of the call's own memory -/
structure DqC (B : Nat) (w : World) (m : Nat) (D : List (List Nat)) (e0 e : Nat) (L : List Hd) : Prop where
  row : Ow kRow B w (.slice (some ⟨e0, 0, none⟩) m e) L
  len : L.length = m
  dl : D.length = m
  els : ∀ j, j < m → (L.getD j hd0).n = (D.getD j []).length ∧ Ow kInt B w (L.getD j hd0).v (zs (D.getD j []))
  far : ∀ i j, i < m → j < m → i ≠ j → ∀ k, (L.getD i hd0).v.ownBlock = some k → (L.getD j hd0).v.ownBlock ≠ some k
theorem DqC.ext {B : Nat} {w W : World} {m : Nat} {D : List (List Nat)} {e0 e : Nat} {L : List Hd} (h : DqC B w m D e0 e L) (hE : Ext w W) : DqC B W m D e0 e L :=
  ⟨h.row.ext hE, h.len, h.dl, fun j hj => ⟨(h.els j hj).1, (h.els j hj).2.ext hE⟩, h.far⟩
/-- a box is no list -/
theorem DqC.box {B : Nat} {w : World} {m : Nat} {D : List (List Nat)} {e0 e : Nat} {L : List Hd} (h : DqC B w m D e0 e L) {x i : Nat} {cs : Array Value} {ty : TypeId} {r : Nat × Nat} (hx : w.heap[x]? = some (.cells cs ty r)) (h1 : kRow.e ≠ ty) (h2 : kInt.e ≠ ty) (u : Value) : DqC B (w.setCell ⟨x, i, none⟩ u) m D e0 e L :=
  ⟨h.row.setOther (p := ⟨x, i, none⟩) (h.row.notBox hx h1) u, h.len, h.dl, fun j hj => ⟨(h.els j hj).1, (h.els j hj).2.setOther (p := ⟨x, i, none⟩) ((h.els j hj).2.notBox hx h2) u⟩, h.far⟩
theorem getD_setL {α : Type} (xs : List α) (j k : Nat) (x d : α) (hk : k < xs.length) : (xs.set k x).getD j d = if j = k then x else xs.getD j d := by
  rw [List.getD_eq_getElem?_getD, List.getD_eq_getElem?_getD]
  by_cases h : j = k
  · subst h; rw [if_pos rfl, List.getElem?_set_self hk]; rfl
  · rw [if_neg h, List.getElem?_set_ne (fun e => h e.symm)]
/-- a head is stored: a new list, or one that grew -/
theorem DqC.put {B : Nat} {w : World} {m : Nat} {D : List (List Nat)} {e0 e : Nat} {L : List Hd} (h : DqC B w m D e0 e L) {F : Nat} (hF : F < m) {x : Hd} {xs : List Nat} (hx : Ow kInt B w x.v (zs xs)) (hn : x.n = xs.length) (hf : ∀ j, j < m → j ≠ F → ∀ k, (L.getD j hd0).v.ownBlock = some k → x.v.ownBlock ≠ some k) :
    DqC B (w.setCell ⟨e0, F, none⟩ x.v) m (D.set F xs) e0 e (L.set F x) := by
  have hl := h.len
  have hd := h.dl
  have hrow := Ow.set h.row (j := F) (i := 0) (x := x) (u := x.v) (by rw [hl]; exact hF) (by decide) rfl trivial
  rw [show F * kRow.n + 0 = F from by show F * 1 + 0 = F; omega] at hrow
  have key : ∀ {v : Value} {ys : List Int}, Ow kInt B w v ys → Ow kInt B (w.setCell ⟨e0, F, none⟩ x.v) v ys := fun ho => ho.setOther (p := ⟨e0, F, none⟩) (fun hk => Ow.far (by decide) ho h.row e0 hk rfl) _
  refine ⟨hrow, by simpa using hl, by simpa using hd, fun j hj => ?_, fun i j hi hj hij k hk => ?_⟩
  · rw [getD_setL _ _ _ _ _ (by omega), getD_setL _ _ _ _ _ (by omega)]
    by_cases e : j = F
    · rw [if_pos e, if_pos e]; exact ⟨hn, key hx⟩
    · rw [if_neg e, if_neg e]; exact ⟨(h.els j hj).1, key (h.els j hj).2⟩
  · rw [getD_setL _ _ _ _ _ (by omega)] at hk ⊢
    by_cases e1 : i = F
    · rw [if_pos e1] at hk
      rw [if_neg (by omega)]
      intro hk2
      exact hf j hj (by omega) k hk2 hk
    · rw [if_neg e1] at hk
      by_cases e2 : j = F
      · rw [if_pos e2]; exact hf i hi e1 k hk
      · rw [if_neg e2]; exact h.far i j hi hj hij k hk
/-- one that goes a step: the box V has its crew, the box Q the event -/
structure S5At (w0 w : World) (B V Q g m : Nat) (c : Cw) (ev : Ev) (A1 B1 : Option Addr) (e0 e a b : Nat) (L : List Hd) : Prop where
  box : w.heap[V]? = some (.cells #[.slice A1 c.ts.length a, .int .i64 g, .slice B1 c.dn.length b, .slice (some ⟨e0, 0, none⟩) m e, .bool c.over, .int .i64 c.st, .int .i64 c.id] 81 (0, 0))
  ebx : w.heap[Q]? = some (.cells #[.int .i64 ev.wk, .int .i64 ev.fr, .int .i64 ev.tk, .bool ev.pt] 106 (0, 0))
  dq : DqC B w m c.D e0 e L
  tsk : RdO kTask (fun x => x < B ∨ x = V ∨ x = Q ∨ x = e0 ∨ ∃ j, j < m ∧ (L.getD j hd0).v.ownBlock = some x) w (.slice A1 c.ts.length a) c.ts
  dns : RdO kBool (fun x => x < B ∨ x = V ∨ x = Q ∨ x = e0 ∨ ∃ j, j < m ∧ (L.getD j hd0).v.ownBlock = some x) w (.slice B1 c.dn.length b) c.dn
  ext : Ext w0 w
  bl : w0.heap.size ≤ B
  vl : B ≤ V
  ql : B ≤ Q
theorem S5At.ext' {w0 w : World} {B V Q g m : Nat} {c : Cw} {ev : Ev} {A1 B1 : Option Addr} {e0 e a b : Nat} {L : List Hd} (h : S5At w0 w B V Q g m c ev A1 B1 e0 e a b L) {W : World} (hE : Ext w W) : S5At w0 W B V Q g m c ev A1 B1 e0 e a b L :=
  ⟨block_keep h.box hE, block_keep h.ebx hE, h.dq.ext hE, h.tsk.ext hE, h.dns.ext hE, h.ext.trans hE, h.bl, h.vl, h.ql⟩
theorem S5At.begin {w0 w : World} {B g m : Nat} {c : Cw} {ev : Ev} {A1 B1 : Option Addr} {e0 e a b : Nat} {L : List Hd} (h : OwC B w m c A1 B1 e0 e a b L) (hE : Ext w0 w) (hB : w0.heap.size ≤ B) (hBw : B ≤ w.heap.size) (st : Nat) :
    S5At w0 ((w.alloc (.cells #[.slice A1 c.ts.length a, .int .i64 g, .slice B1 c.dn.length b, .slice (some ⟨e0, 0, none⟩) m e, .bool c.over, .int .i64 st, .int .i64 c.id] 81)).alloc (.cells #[.int .i64 ev.wk, .int .i64 ev.fr, .int .i64 ev.tk, .bool ev.pt] 106)) B w.heap.size (w.heap.size + 1) g m ⟨c.ts, c.dn, c.D, c.over, st, c.id⟩ ev A1 B1 e0 e a b L := by
  have hE2 : Ext w ((w.alloc (.cells #[.slice A1 c.ts.length a, .int .i64 g, .slice B1 c.dn.length b, .slice (some ⟨e0, 0, none⟩) m e, .bool c.over, .int .i64 st, .int .i64 c.id] 81)).alloc (.cells #[.int .i64 ev.wk, .int .i64 ev.fr, .int .i64 ev.tk, .bool ev.pt] 106)) := ((Ext.refl _).alloc _).alloc _
  have off : ∀ {α : Type} {K : Kd α} {A : Option Addr} {n c' : Nat} {xs : List α}, K.e ≠ kRow.e → K.e ≠ kInt.e → Ow K B w (.slice A n c') xs → RdO K (fun x => x < B ∨ x = w.heap.size ∨ x = w.heap.size + 1 ∨ x = e0 ∨ ∃ j, j < m ∧ (L.getD j hd0).v.ownBlock = some x) w (.slice A n c') xs := by
    intro α K A n c' xs h1 h2 ho
    refine ho.rd.off fun ad ha hs => ?_
    have hb : Value.ownBlock (.slice A n c') = some ad.block := by rw [ha]; rfl
    have hl := ho.lt ad.block hb
    rcases hs with hs | hs | hs | hs | ⟨j, hj, hs⟩
    · omega
    · omega
    · omega
    · exact Ow.far h1 ho h.row _ hb (by rw [hs]; rfl)
    · exact Ow.far h2 ho (h.els j hj).2 _ hb hs
  exact ⟨block_keep (heap_alloc_new w _) ((Ext.refl _).alloc _), heap_alloc2_new w _ _, ⟨h.row.ext hE2, h.len, h.dl, fun j hj => ⟨(h.els j hj).1, (h.els j hj).2.ext hE2⟩, h.far⟩, (off (by decide) (by decide) h.tsk).ext hE2, (off (by decide) (by decide) h.dns).ext hE2, hE.trans hE2, hB, hBw, by omega⟩
/-- where it may write, there is memory -/
theorem S5At.lt {w0 w : World} {B V Q g m : Nat} {c : Cw} {ev : Ev} {A1 B1 : Option Addr} {e0 e a b : Nat} {L : List Hd} (h : S5At w0 w B V Q g m c ev A1 B1 e0 e a b L) (hB : B ≤ w.heap.size) : ∀ x, (x < B ∨ x = V ∨ x = Q ∨ x = e0 ∨ ∃ j, j < m ∧ (L.getD j hd0).v.ownBlock = some x) → x < w.heap.size := by
  intro x hx
  rcases hx with hx | hx | hx | hx | ⟨j, hj, hx⟩
  · omega
  · rw [hx]; exact block_lt h.box
  · rw [hx]; exact block_lt h.ebx
  · rw [hx]; exact (h.dq.row.lt e0 rfl).2
  · exact ((h.dq.els j hj).2.lt x hx).2
/-- a task is taken -/
theorem S5At.take {w0 w : World} {B V Q g m : Nat} {c : Cw} {ev : Ev} {A1 B1 : Option Addr} {e0 e a b : Nat} {L : List Hd} (h : S5At w0 w B V Q g m c ev A1 B1 e0 e a b L) {W : World} (hE : Ext w W) (hB : B ≤ w.heap.size) {F : Nat} (hF : F < m) {x : Hd} {xs : List Nat} (hx : Ow kInt w.heap.size W x.v (zs xs)) (hn : x.n = xs.length) (f k : Int) :
    S5At w0 (((W.setCell ⟨e0, F, none⟩ (x.v)).setCell ⟨Q, 1, none⟩ (.int .i64 f)).setCell ⟨Q, 2, none⟩ (.int .i64 k)) B V Q g m ⟨c.ts, c.dn, c.D.set F xs, c.over, c.st, c.id⟩ ⟨ev.wk, f, k, ev.pt⟩ A1 B1 e0 e a b (L.set F x) := by
  have hlt := h.lt hB
  have h' := h.ext' hE
  have n1 : e0 ≠ V := fun hh => h'.dq.row.notBox h'.box (by decide) (by rw [hh]; rfl)
  have n2 : e0 ≠ Q := fun hh => h'.dq.row.notBox h'.ebx (by decide) (by rw [hh]; rfl)
  have n3 : Q ≠ V := fun hh => by have h1 := h'.box; have h2 := h'.ebx; rw [hh, h1] at h2; injection h2 with h2; injection h2 with _ h2; revert h2; decide
  have hp := h'.dq.put hF (hx.mono hB) hn (fun j hj hjF k hk hk2 => by
    have := ((h.dq.els j hj).2.lt k hk).2
    have := (hx.lt k hk2).1
    omega)
  have b1 : (W.setCell ⟨e0, F, none⟩ x.v).heap[V]? = _ := (Below.heap_setCell _ _ _ _ (fun hh => n1 hh.symm)).trans h'.box
  have b2 : (W.setCell ⟨e0, F, none⟩ x.v).heap[Q]? = _ := (Below.heap_setCell _ _ _ _ (fun hh => n2 hh.symm)).trans h'.ebx
  have hS : ∀ {α : Type} {K : Kd α} {v : Value} {ys : List α}, RdO K (fun x => x < B ∨ x = V ∨ x = Q ∨ x = e0 ∨ ∃ j, j < m ∧ (L.getD j hd0).v.ownBlock = some x) w v ys → RdO K (fun x' => x' < B ∨ x' = V ∨ x' = Q ∨ x' = e0 ∨ ∃ j, j < m ∧ ((L.set F x).getD j hd0).v.ownBlock = some x') (((W.setCell ⟨e0, F, none⟩ (x.v)).setCell ⟨Q, 1, none⟩ (.int .i64 f)).setCell ⟨Q, 2, none⟩ (.int .i64 k)) v ys := fun hr => by
    refine hr.later (((((Grew.of hE).setCell (p := ⟨e0, F, none⟩) ?_ _).setCell (p := ⟨Q, 1, none⟩) ?_ _).setCell (p := ⟨Q, 2, none⟩) ?_ _)) ?_
    · exact .inr (.inr (.inr (.inl rfl)))
    · exact .inr (.inr (.inl rfl))
    · exact .inr (.inr (.inl rfl))
    · intro y hy hs
      rcases hs with hs | hs | hs | hs | ⟨j, hj, hs⟩
      · exact .inl hs
      · exact .inr (.inl hs)
      · exact .inr (.inr (.inl hs))
      · exact .inr (.inr (.inr (.inl hs)))
      · rw [getD_setL _ _ _ _ _ (by rw [h.dq.len]; exact hF)] at hs
        by_cases ej : j = F
        · rw [if_pos ej] at hs
          have := (hx.lt y hs).1
          omega
        · rw [if_neg ej] at hs; exact .inr (.inr (.inr (.inr ⟨j, hj, hs⟩)))
  refine ⟨?_, ?_, ?_, hS h.tsk, hS h.dns, (((h.ext.trans hE).setCell (p := ⟨e0, F, none⟩) (Nat.le_trans h.bl (h.dq.row.lt e0 rfl).1) _).setCell (p := ⟨Q, 1, none⟩) (Nat.le_trans h.bl h.ql) _).setCell (p := ⟨Q, 2, none⟩) (Nat.le_trans h.bl h.ql) _, h.bl, h.vl, h.ql⟩
  · exact (Below.heap_setCell _ _ _ _ (fun hh => n3 hh.symm)).trans ((Below.heap_setCell _ _ _ _ (fun hh => n3 hh.symm)).trans b1)
  · exact (set_block (i := 2) (set_block (i := 1) b2 _) _).trans rfl
  · exact (hp.box b2 (by decide) (by decide) _).box (set_block (i := 1) b2 _) (by decide) (by decide) _
/-- the work is another one -/
theorem S5At.work {w0 w : World} {B V Q g m : Nat} {c : Cw} {ev : Ev} {A1 B1 : Option Addr} {e0 e a b : Nat} {L : List Hd} (h : S5At w0 w B V Q g m c ev A1 B1 e0 e a b L) {W : World} (hE : Ext w W) (hB : B ≤ w.heap.size) {ts : List Tk} {dn : List Bool} {A2 B2 : Option Addr} {a2 b2 : Nat} (ht : Rd kTask W (.slice A2 ts.length a2) ts) (hd : Rd kBool W (.slice B2 dn.length b2) dn) (hA : From w.heap.size A2) (hBB : From w.heap.size B2) :
    S5At w0 (((W.setCell ⟨V, 0, none⟩ (.slice A2 ts.length a2)).setCell ⟨V, 1, none⟩ (.int .i64 g)).setCell ⟨V, 2, none⟩ (.slice B2 dn.length b2)) B V Q g m ⟨ts, dn, c.D, c.over, c.st, c.id⟩ ev A2 B2 e0 e a2 b2 L := by
  have hlt := h.lt hB
  have h' := h.ext' hE
  have n1 : e0 ≠ V := fun hh => h'.dq.row.notBox h'.box (by decide) (by rw [hh]; rfl)
  have n3 : Q ≠ V := fun hh => by have h1 := h'.box; have h2 := h'.ebx; rw [hh, h1] at h2; injection h2 with h2; injection h2 with _ h2; revert h2; decide
  have b1 := h'.box
  have b2' := set_block (i := 0) b1 (.slice A2 ts.length a2)
  have b3 := set_block (i := 1) b2' (.int .i64 g)
  have b4 := set_block (i := 2) b3 (.slice B2 dn.length b2)
  refine ⟨b4.trans rfl, ?_, ((h'.dq.box b1 (by decide) (by decide) _).box b2' (by decide) (by decide) _).box b3 (by decide) (by decide) _, ?_, ?_, (((h.ext.trans hE).setCell (p := ⟨V, 0, none⟩) (Nat.le_trans h.bl h.vl) _).setCell (p := ⟨V, 1, none⟩) (Nat.le_trans h.bl h.vl) _).setCell (p := ⟨V, 2, none⟩) (Nat.le_trans h.bl h.vl) _, h.bl, h.vl, h.ql⟩
  · exact (Below.heap_setCell _ _ _ _ n3).trans ((Below.heap_setCell _ _ _ _ n3).trans ((Below.heap_setCell _ _ _ _ n3).trans h'.ebx))
  · exact (((ht.off (fun ad ha hs => by have := hA ad ha; have := hlt _ hs; omega)).setCell (p := ⟨V, 0, none⟩) (.inr (.inl rfl)) _).setCell (p := ⟨V, 1, none⟩) (.inr (.inl rfl)) _).setCell (p := ⟨V, 2, none⟩) (.inr (.inl rfl)) _
  · exact (((hd.off (fun ad ha hs => by have := hBB ad ha; have := hlt _ hs; omega)).setCell (p := ⟨V, 0, none⟩) (.inr (.inl rfl)) _).setCell (p := ⟨V, 1, none⟩) (.inr (.inl rfl)) _).setCell (p := ⟨V, 2, none⟩) (.inr (.inl rfl)) _
/-- a cell of the crew's box -/
theorem S5At.over {w0 w : World} {B V Q g m : Nat} {c : Cw} {ev : Ev} {A1 B1 : Option Addr} {e0 e a b : Nat} {L : List Hd} (h : S5At w0 w B V Q g m c ev A1 B1 e0 e a b L) (ov : Bool) : S5At w0 (w.setCell ⟨V, 4, none⟩ (.bool ov)) B V Q g m ⟨c.ts, c.dn, c.D, ov, c.st, c.id⟩ ev A1 B1 e0 e a b L := by
  have n3 : Q ≠ V := fun hh => by have h1 := h.box; have h2 := h.ebx; rw [hh, h1] at h2; injection h2 with h2; injection h2 with _ h2; revert h2; decide
  exact ⟨(set_block (i := 4) h.box _).trans rfl, (Below.heap_setCell _ _ _ _ n3).trans h.ebx, h.dq.box h.box (by decide) (by decide) _, h.tsk.setCell (p := ⟨V, 4, none⟩) (.inr (.inl rfl)) _, h.dns.setCell (p := ⟨V, 4, none⟩) (.inr (.inl rfl)) _, h.ext.setCell (p := ⟨V, 4, none⟩) (Nat.le_trans h.bl h.vl) _, h.bl, h.vl, h.ql⟩
theorem S5At.idle {w0 w : World} {B V Q g m : Nat} {c : Cw} {ev : Ev} {A1 B1 : Option Addr} {e0 e a b : Nat} {L : List Hd} (h : S5At w0 w B V Q g m c ev A1 B1 e0 e a b L) (i : Nat) : S5At w0 (w.setCell ⟨V, 6, none⟩ (.int .i64 i)) B V Q g m ⟨c.ts, c.dn, c.D, c.over, c.st, i⟩ ev A1 B1 e0 e a b L := by
  have n3 : Q ≠ V := fun hh => by have h1 := h.box; have h2 := h.ebx; rw [hh, h1] at h2; injection h2 with h2; injection h2 with _ h2; revert h2; decide
  exact ⟨(set_block (i := 6) h.box _).trans rfl, (Below.heap_setCell _ _ _ _ n3).trans h.ebx, h.dq.box h.box (by decide) (by decide) _, h.tsk.setCell (p := ⟨V, 6, none⟩) (.inr (.inl rfl)) _, h.dns.setCell (p := ⟨V, 6, none⟩) (.inr (.inl rfl)) _, h.ext.setCell (p := ⟨V, 6, none⟩) (Nat.le_trans h.bl h.vl) _, h.bl, h.vl, h.ql⟩
theorem S5At.parted {w0 w : World} {B V Q g m : Nat} {c : Cw} {ev : Ev} {A1 B1 : Option Addr} {e0 e a b : Nat} {L : List Hd} (h : S5At w0 w B V Q g m c ev A1 B1 e0 e a b L) (pt : Bool) : S5At w0 (w.setCell ⟨Q, 3, none⟩ (.bool pt)) B V Q g m c ⟨ev.wk, ev.fr, ev.tk, pt⟩ A1 B1 e0 e a b L := by
  have n3 : V ≠ Q := fun hh => by have h1 := h.box; have h2 := h.ebx; rw [← hh, h1] at h2; injection h2 with h2; injection h2 with _ h2; revert h2; decide
  exact ⟨(Below.heap_setCell _ _ _ _ n3).trans h.box, (set_block (i := 3) h.ebx _).trans rfl, h.dq.box h.ebx (by decide) (by decide) _, h.tsk.setCell (p := ⟨Q, 3, none⟩) (.inr (.inr (.inl rfl))) _, h.dns.setCell (p := ⟨Q, 3, none⟩) (.inr (.inr (.inl rfl))) _, h.ext.setCell (p := ⟨Q, 3, none⟩) (Nat.le_trans h.bl h.ql) _, h.bl, h.vl, h.ql⟩
/-- a deque grew, maybe where it was -/
theorem S5At.push {w0 w : World} {B V Q g m : Nat} {c : Cw} {ev : Ev} {A1 B1 : Option Addr} {e0 e a b : Nat} {L : List Hd} (h : S5At w0 w B V Q g m c ev A1 B1 e0 e a b L) (hB : B ≤ w.heap.size) {P : Nat} (hP : P < m) {W : World} (hG : Wr (L.getD P hd0).v.ownBlock w W) {v : Value} {xs : List Nat} (hA : AppAt kInt B W v (zs xs) (L.getD P hd0).v w.heap.size) :
    ∃ x : Hd, v = x.v ∧ S5At w0 (W.setCell ⟨e0, P, none⟩ v) B V Q g m ⟨c.ts, c.dn, c.D.set P xs, c.over, c.st, c.id⟩ ev A1 B1 e0 e a b (L.set P x) := by
  have hlt := h.lt hB
  obtain ⟨hv, hor⟩ := hA
  obtain ⟨A', c', hsl, _⟩ := hv.slice
  refine ⟨⟨A', xs.length, c'⟩, by rw [hsl, zs_len], ?_⟩
  rw [zs_len] at hsl
  subst hsl
  obtain ⟨x, hx⟩ : ∃ x : Hd, (⟨A', xs.length, c'⟩ : Hd) = x := ⟨_, rfl⟩
  have hxv : Value.slice A' xs.length c' = x.v := by rw [← hx]
  rw [hx]
  rw [hxv] at hv hor ⊢
  have hxn : x.n = xs.length := by rw [← hx]
  have hLP := (h.dq.els P hP).2
  have nb : ∀ {y : Nat} {cs : Array Value} {ty : TypeId} {r : Nat × Nat}, w.heap[y]? = some (.cells cs ty r) → kInt.e ≠ ty → ¬ (L.getD P hd0).v.ownBlock = some y := fun hy hne => hLP.notBox hy hne
  have hb1 := block_wr h.box hG (nb h.box (by decide))
  have hb2 := block_wr h.ebx hG (nb h.ebx (by decide))
  have hrow := h.dq.row.wr hG (fun k hk => by cases hk; exact fun hh => Ow.far (by decide) hLP h.dq.row e0 hh rfl)
  have n1 : V ≠ e0 := fun hh => h.dq.row.notBox h.box (by decide) (by rw [← hh]; rfl)
  have n2 : Q ≠ e0 := fun hh => h.dq.row.notBox h.ebx (by decide) (by rw [← hh]; rfl)
  have hold : ∀ j, j < m → j ≠ P → Ow kInt B W (L.getD j hd0).v (zs (c.D.getD j [])) := fun j hj hjP => (h.dq.els j hj).2.wr hG (fun k hk hk2 => h.dq.far j P hj hP hjP k hk hk2)
  have hlenD := h.dq.dl
  have hlenL := h.dq.len
  have hnew : ∀ j, j < m → j ≠ P → ∀ k, (L.getD j hd0).v.ownBlock = some k → x.v.ownBlock ≠ some k := fun j hj hjP k hk hk2 => by
    rcases hor with ho | ⟨p, ho, hp⟩
    · rw [ho] at hk2; exact h.dq.far j P hj hP hjP k hk hk2
    · rw [ho] at hk2; cases hk2
      have := ((h.dq.els j hj).2.lt k hk).2
      omega
  have hS : ∀ {α : Type} {K : Kd α} {v : Value} {ys : List α} (u : Value), RdO K (fun x => x < B ∨ x = V ∨ x = Q ∨ x = e0 ∨ ∃ j, j < m ∧ (L.getD j hd0).v.ownBlock = some x) w v ys → RdO K (fun x' => x' < B ∨ x' = V ∨ x' = Q ∨ x' = e0 ∨ ∃ j, j < m ∧ ((L.set P x).getD j hd0).v.ownBlock = some x') (W.setCell ⟨e0, P, none⟩ u) v ys := fun u hr => by
    refine hr.later ((hG.mono (T := (fun x => x < B ∨ x = V ∨ x = Q ∨ x = e0 ∨ ∃ j, j < m ∧ (L.getD j hd0).v.ownBlock = some x)) (fun y _ hy => .inr (.inr (.inr (.inr ⟨P, hP, hy⟩))))).setCell (p := ⟨e0, P, none⟩) (.inr (.inr (.inr (.inl rfl)))) u) ?_
    intro y hy hs
    rcases hs with hs | hs | hs | hs | ⟨j, hj, hs⟩
    · exact .inl hs
    · exact .inr (.inl hs)
    · exact .inr (.inr (.inl hs))
    · exact .inr (.inr (.inr (.inl hs)))
    · rw [getD_setL _ _ _ _ _ (by rw [hlenL]; exact hP)] at hs
      by_cases ej : j = P
      · rw [if_pos ej] at hs
        rcases hor with ho | ⟨p, ho, hp⟩
        · rw [ho] at hs; exact .inr (.inr (.inr (.inr ⟨P, hP, hs⟩)))
        · rw [ho] at hs; cases hs; omega
      · rw [if_neg ej] at hs; exact .inr (.inr (.inr (.inr ⟨j, hj, hs⟩)))
  -- the deques, as they are ahead of the store
  have key : ∀ {v : Value} {ys : List Int}, Ow kInt B W v ys → Ow kInt B (W.setCell ⟨e0, P, none⟩ x.v) v ys := fun ho => ho.setOther (p := ⟨e0, P, none⟩) (fun hk => Ow.far (by decide) ho hrow e0 hk rfl) _
  have hrow2 := Ow.set hrow (j := P) (i := 0) (x := x) (u := x.v) (by rw [hlenL]; exact hP) (by decide) rfl trivial
  rw [show P * kRow.n + 0 = P from by show P * 1 + 0 = P; omega] at hrow2
  refine ⟨(Below.heap_setCell _ _ _ _ n1).trans hb1, (Below.heap_setCell _ _ _ _ n2).trans hb2, ⟨hrow2, by simpa using hlenL, by simpa using hlenD, fun j hj => ?_, fun i j hi hj hij k hk => ?_⟩, hS _ h.tsk, hS _ h.dns, ?_, h.bl, h.vl, h.ql⟩
  · rw [getD_setL _ _ _ _ _ (by omega), getD_setL _ _ _ _ _ (by omega)]
    by_cases e' : j = P
    · rw [if_pos e', if_pos e']; exact ⟨hxn, key hv⟩
    · rw [if_neg e', if_neg e']; exact ⟨(h.dq.els j hj).1, key (hold j hj e')⟩
  · rw [getD_setL _ _ _ _ _ (by omega)] at hk ⊢
    by_cases e1 : i = P
    · rw [if_pos e1] at hk
      rw [if_neg (by omega)]
      intro hk2
      exact hnew j hj (by omega) k hk2 hk
    · rw [if_neg e1] at hk
      by_cases e2 : j = P
      · rw [if_pos e2]; exact hnew i hi e1 k hk
      · rw [if_neg e2]; exact h.dq.far i j hi hj hij k hk
  · exact (Wr.toExt hG h.ext (fun y hy => Nat.le_trans h.bl (hLP.lt y hy).1)).setCell (p := ⟨e0, P, none⟩) (Nat.le_trans h.bl (h.dq.row.lt e0 rfl).1) _
theorem S5At.head {w0 w : World} {B V Q g m : Nat} {c : Cw} {ev : Ev} {A1 B1 : Option Addr} {e0 e a b : Nat} {L : List Hd} (h : S5At w0 w B V Q g m c ev A1 B1 e0 e a b L) {j : Nat} (hj : j < m) : w.cell? ⟨e0, j, none⟩ = some (L.getD j hd0).v ∧ ∀ o, w.frozen? ⟨e0, o, none⟩ = false := by
  obtain ⟨g', eg, _, _, h3, h4⟩ := Ow.pos h.dq.row (by rw [h.dq.len]; omega)
  cases eg
  have := h3 j (by rw [h.dq.len]; exact hj) 0 (L.getD j hd0).v rfl
  rw [show j * kRow.n + 0 = j from by show j * 1 + 0 = j; omega] at this
  exact ⟨this, h4⟩
/-- what is left is a crew -/
theorem S5At.crew {w0 w : World} {B V Q g m : Nat} {c : Cw} {ev : Ev} {A1 B1 : Option Addr} {e0 e a b : Nat} {L : List Hd} (h : S5At w0 w B V Q g m c ev A1 B1 e0 e a b L) : CrewO (fun x => x < B) w m c A1 B1 e0 0 a b := by
  refine ⟨h.tsk.mono (fun x _ hx => .inl hx), h.dns.mono (fun x _ hx => .inl hx), ⟨fun j => L.getD j hd0, h.dq.dl, fun j hj => ⟨?_, (h.dq.els j hj).1, ?_⟩⟩, fun hh => by have := (h.dq.row.lt e0 rfl).1; omega⟩
  · obtain ⟨g', eg, _, _, h3, _⟩ := Ow.pos h.dq.row (by rw [h.dq.len]; omega)
    cases eg
    have := h3 j (by rw [h.dq.len]; exact hj) 0 (L.getD j hd0).v rfl
    rw [show 0 + j = j * kRow.n + 0 from by show 0 + j = j * 1 + 0; omega]
    exact this
  · have h1 := (h.dq.els j hj).2
    exact h1.rd.off fun ad ha hs => by
      have := (h1.lt ad.block (by show (Value.ownBlock (.slice _ _ _)) = _; rw [ha]; rfl)).1
      omega
end Go.Proofs.YtkpbanfpnilifaaGreat

/- One that goes steps: what a store leaves of it. Written by wip/mk_cgo.py. -/
namespace Go.Proofs.YtkpbanfpnilifaaGreat
open Go.BigFrame
open Go.RowKit Go.Proofs.YtkpbanfpnilifaaGreat.Plain

section
variable {S : Nat → Prop} {w : World} {V e0 g m : Nat} {c : Cw} {ev : Ev} {A B : Option Addr} {a b e : Nat} {hs : Nat → Hd}
/-- steps -/
theorem GoAt.setSt (h : GoAt S w V e0 g m c ev A B a b e hs) (n : Nat) : GoAt S (w.setCell ⟨V, 5, none⟩ (.int .i64 n)) V e0 g m ⟨c.ts, c.dn, c.D, c.over, n, c.id⟩ ev A B a b e hs where
  sV := h.sV
  sE := h.sE
  sl := fun x hx => by rw [World.size_setCell]; exact h.sl x hx
  ne := h.ne
  v0 := by have := h.v0; go_simp
  v1 := by have := h.v1; go_simp
  v2 := by have := h.v2; go_simp
  v3 := by have := h.v3; go_simp
  v4 := by have := h.v4; go_simp
  v5 := by have := h.v5; go_simp
  v6 := by have := h.v6; go_simp
  v7 := by have := h.v7; go_simp
  v8 := by have := h.v8; go_simp
  v9 := by have := h.v9; go_simp
  v10 := by have := h.v10; go_simp
  fV := fun o => by rw [World.frozen?_setCell]; exact h.fV o
  fE := fun o => by rw [World.frozen?_setCell]; exact h.fE o
  me := h.me
  tsk := (h.tsk.setCell (p := ⟨V, 5, none⟩) h.sV _)
  dns := (h.dns.setCell (p := ⟨V, 5, none⟩) h.sV _)
  dl := h.dl
  hd := fun j hj => by have := h.hd j hj; have := h.ne; rw [World.cell?_setCell_other _ _ _ _ (fun e => by cases e; exact h.ne rfl)]; exact h.hd j hj
  hn := h.hn
  hr := fun j hj => ((h.hr j hj).setCell (p := ⟨V, 5, none⟩) h.sV _)
  hc := h.hc
/-- idle ones -/
theorem GoAt.setId (h : GoAt S w V e0 g m c ev A B a b e hs) (n : Nat) : GoAt S (w.setCell ⟨V, 6, none⟩ (.int .i64 n)) V e0 g m ⟨c.ts, c.dn, c.D, c.over, c.st, n⟩ ev A B a b e hs where
  sV := h.sV
  sE := h.sE
  sl := fun x hx => by rw [World.size_setCell]; exact h.sl x hx
  ne := h.ne
  v0 := by have := h.v0; go_simp
  v1 := by have := h.v1; go_simp
  v2 := by have := h.v2; go_simp
  v3 := by have := h.v3; go_simp
  v4 := by have := h.v4; go_simp
  v5 := by have := h.v5; go_simp
  v6 := by have := h.v6; go_simp
  v7 := by have := h.v7; go_simp
  v8 := by have := h.v8; go_simp
  v9 := by have := h.v9; go_simp
  v10 := by have := h.v10; go_simp
  fV := fun o => by rw [World.frozen?_setCell]; exact h.fV o
  fE := fun o => by rw [World.frozen?_setCell]; exact h.fE o
  me := h.me
  tsk := (h.tsk.setCell (p := ⟨V, 6, none⟩) h.sV _)
  dns := (h.dns.setCell (p := ⟨V, 6, none⟩) h.sV _)
  dl := h.dl
  hd := fun j hj => by have := h.hd j hj; have := h.ne; rw [World.cell?_setCell_other _ _ _ _ (fun e => by cases e; exact h.ne rfl)]; exact h.hd j hj
  hn := h.hn
  hr := fun j hj => ((h.hr j hj).setCell (p := ⟨V, 6, none⟩) h.sV _)
  hc := h.hc
/-- whether it is over -/
theorem GoAt.setOver (h : GoAt S w V e0 g m c ev A B a b e hs) (q : Bool) : GoAt S (w.setCell ⟨V, 4, none⟩ (.bool q)) V e0 g m ⟨c.ts, c.dn, c.D, q, c.st, c.id⟩ ev A B a b e hs where
  sV := h.sV
  sE := h.sE
  sl := fun x hx => by rw [World.size_setCell]; exact h.sl x hx
  ne := h.ne
  v0 := by have := h.v0; go_simp
  v1 := by have := h.v1; go_simp
  v2 := by have := h.v2; go_simp
  v3 := by have := h.v3; go_simp
  v4 := by have := h.v4; go_simp
  v5 := by have := h.v5; go_simp
  v6 := by have := h.v6; go_simp
  v7 := by have := h.v7; go_simp
  v8 := by have := h.v8; go_simp
  v9 := by have := h.v9; go_simp
  v10 := by have := h.v10; go_simp
  fV := fun o => by rw [World.frozen?_setCell]; exact h.fV o
  fE := fun o => by rw [World.frozen?_setCell]; exact h.fE o
  me := h.me
  tsk := (h.tsk.setCell (p := ⟨V, 4, none⟩) h.sV _)
  dns := (h.dns.setCell (p := ⟨V, 4, none⟩) h.sV _)
  dl := h.dl
  hd := fun j hj => by have := h.hd j hj; have := h.ne; rw [World.cell?_setCell_other _ _ _ _ (fun e => by cases e; exact h.ne rfl)]; exact h.hd j hj
  hn := h.hn
  hr := fun j hj => ((h.hr j hj).setCell (p := ⟨V, 4, none⟩) h.sV _)
  hc := h.hc
/-- the event -/
theorem GoAt.setEv (h : GoAt S w V e0 g m c ev A B a b e hs) (x : Ev) : GoAt S ((((w.setCell ⟨V, 7, none⟩ (.int .i64 x.wk)).setCell ⟨V, 8, none⟩ (.int .i64 x.fr)).setCell ⟨V, 9, none⟩ (.int .i64 x.tk)).setCell ⟨V, 10, none⟩ (.bool x.pt)) V e0 g m c x A B a b e hs where
  sV := h.sV
  sE := h.sE
  sl := fun x hx => by rw [World.size_setCell, World.size_setCell, World.size_setCell, World.size_setCell]; exact h.sl x hx
  ne := h.ne
  v0 := by have := h.v0; go_simp
  v1 := by have := h.v1; go_simp
  v2 := by have := h.v2; go_simp
  v3 := by have := h.v3; go_simp
  v4 := by have := h.v4; go_simp
  v5 := by have := h.v5; go_simp
  v6 := by have := h.v6; go_simp
  v7 := by have := h.v7; go_simp
  v8 := by have := h.v8; go_simp
  v9 := by have := h.v9; go_simp
  v10 := by have := h.v10; go_simp
  fV := fun o => by rw [World.frozen?_setCell, World.frozen?_setCell, World.frozen?_setCell, World.frozen?_setCell]; exact h.fV o
  fE := fun o => by rw [World.frozen?_setCell, World.frozen?_setCell, World.frozen?_setCell, World.frozen?_setCell]; exact h.fE o
  me := h.me
  tsk := ((((h.tsk.setCell (p := ⟨V, 7, none⟩) h.sV _).setCell (p := ⟨V, 8, none⟩) h.sV _).setCell (p := ⟨V, 9, none⟩) h.sV _).setCell (p := ⟨V, 10, none⟩) h.sV _)
  dns := ((((h.dns.setCell (p := ⟨V, 7, none⟩) h.sV _).setCell (p := ⟨V, 8, none⟩) h.sV _).setCell (p := ⟨V, 9, none⟩) h.sV _).setCell (p := ⟨V, 10, none⟩) h.sV _)
  dl := h.dl
  hd := fun j hj => by have := h.hd j hj; have := h.ne; rw [World.cell?_setCell_other _ _ _ _ (fun e => by cases e; exact h.ne rfl), World.cell?_setCell_other _ _ _ _ (fun e => by cases e; exact h.ne rfl), World.cell?_setCell_other _ _ _ _ (fun e => by cases e; exact h.ne rfl), World.cell?_setCell_other _ _ _ _ (fun e => by cases e; exact h.ne rfl)]; exact h.hd j hj
  hn := h.hn
  hr := fun j hj => (((((h.hr j hj).setCell (p := ⟨V, 7, none⟩) h.sV _).setCell (p := ⟨V, 8, none⟩) h.sV _).setCell (p := ⟨V, 9, none⟩) h.sV _).setCell (p := ⟨V, 10, none⟩) h.sV _)
  hc := h.hc
/-- its work -/
theorem GoAt.setWork (h : GoAt S w V e0 g m c ev A B a b e hs) {A' B' : Option Addr} {a' b' : Nat} {ts' : List Tk} {dn' : List Bool} (hT : RdO kTask S w (.slice A' ts'.length a') ts') (hD : RdO kBool S w (.slice B' dn'.length b') dn') : GoAt S (((w.setCell ⟨V, 0, none⟩ (.slice A' ts'.length a')).setCell ⟨V, 1, none⟩ (.int .i64 g)).setCell ⟨V, 2, none⟩ (.slice B' dn'.length b')) V e0 g m ⟨ts', dn', c.D, c.over, c.st, c.id⟩ ev A' B' a' b' e hs where
  sV := h.sV
  sE := h.sE
  sl := fun x hx => by rw [World.size_setCell, World.size_setCell, World.size_setCell]; exact h.sl x hx
  ne := h.ne
  v0 := by have := h.v0; go_simp
  v1 := by have := h.v1; go_simp
  v2 := by have := h.v2; go_simp
  v3 := by have := h.v3; go_simp
  v4 := by have := h.v4; go_simp
  v5 := by have := h.v5; go_simp
  v6 := by have := h.v6; go_simp
  v7 := by have := h.v7; go_simp
  v8 := by have := h.v8; go_simp
  v9 := by have := h.v9; go_simp
  v10 := by have := h.v10; go_simp
  fV := fun o => by rw [World.frozen?_setCell, World.frozen?_setCell, World.frozen?_setCell]; exact h.fV o
  fE := fun o => by rw [World.frozen?_setCell, World.frozen?_setCell, World.frozen?_setCell]; exact h.fE o
  me := h.me
  tsk := ((hT.setCell (p := ⟨V, 0, none⟩) h.sV _).setCell (p := ⟨V, 1, none⟩) h.sV _).setCell (p := ⟨V, 2, none⟩) h.sV _
  dns := ((hD.setCell (p := ⟨V, 0, none⟩) h.sV _).setCell (p := ⟨V, 1, none⟩) h.sV _).setCell (p := ⟨V, 2, none⟩) h.sV _
  dl := h.dl
  hd := fun j hj => by have := h.hd j hj; have := h.ne; rw [World.cell?_setCell_other _ _ _ _ (fun e => by cases e; exact h.ne rfl), World.cell?_setCell_other _ _ _ _ (fun e => by cases e; exact h.ne rfl), World.cell?_setCell_other _ _ _ _ (fun e => by cases e; exact h.ne rfl)]; exact h.hd j hj
  hn := h.hn
  hr := fun j hj => ((((h.hr j hj).setCell (p := ⟨V, 0, none⟩) h.sV _).setCell (p := ⟨V, 1, none⟩) h.sV _).setCell (p := ⟨V, 2, none⟩) h.sV _)
  hc := h.hc
/-- a deque's head -/
theorem GoAt.setHd (h : GoAt S w V e0 g m c ev A B a b e hs) (p : Nat) (hp : p < m) (x : Hd) (xs : List Nat) (hn : x.n = xs.length) (hc : x.n = 0 → x.c = 0) (hr : RdO kInt S w x.v (zs xs)) :
    GoAt S (w.setCell ⟨e0, p, none⟩ x.v) V e0 g m ⟨c.ts, c.dn, c.D.set p xs, c.over, c.st, c.id⟩ ev A B a b e (fun j => if j = p then x else hs j) where
  sV := h.sV
  sE := h.sE
  sl := fun y hy => by rw [World.size_setCell]; exact h.sl y hy
  ne := h.ne
  v0 := by rw [World.cell?_setCell_other _ _ _ _ (fun e => by cases e; exact h.ne rfl)]; exact h.v0
  v1 := by rw [World.cell?_setCell_other _ _ _ _ (fun e => by cases e; exact h.ne rfl)]; exact h.v1
  v2 := by rw [World.cell?_setCell_other _ _ _ _ (fun e => by cases e; exact h.ne rfl)]; exact h.v2
  v3 := by rw [World.cell?_setCell_other _ _ _ _ (fun e => by cases e; exact h.ne rfl)]; exact h.v3
  v4 := by rw [World.cell?_setCell_other _ _ _ _ (fun e => by cases e; exact h.ne rfl)]; exact h.v4
  v5 := by rw [World.cell?_setCell_other _ _ _ _ (fun e => by cases e; exact h.ne rfl)]; exact h.v5
  v6 := by rw [World.cell?_setCell_other _ _ _ _ (fun e => by cases e; exact h.ne rfl)]; exact h.v6
  v7 := by rw [World.cell?_setCell_other _ _ _ _ (fun e => by cases e; exact h.ne rfl)]; exact h.v7
  v8 := by rw [World.cell?_setCell_other _ _ _ _ (fun e => by cases e; exact h.ne rfl)]; exact h.v8
  v9 := by rw [World.cell?_setCell_other _ _ _ _ (fun e => by cases e; exact h.ne rfl)]; exact h.v9
  v10 := by rw [World.cell?_setCell_other _ _ _ _ (fun e => by cases e; exact h.ne rfl)]; exact h.v10
  fV := fun o => by rw [World.frozen?_setCell]; exact h.fV o
  fE := fun o => by rw [World.frozen?_setCell]; exact h.fE o
  me := h.me
  tsk := h.tsk.setCell (p := ⟨e0, p, none⟩) h.sE _
  dns := h.dns.setCell (p := ⟨e0, p, none⟩) h.sE _
  dl := by rw [List.length_set]; exact h.dl
  hd := fun j hj => by
    by_cases e : j = p
    · subst e
      rw [if_pos rfl]
      have := h.hd j hj
      go_simp
    · rw [if_neg e, World.cell?_setCell_other _ _ _ _ (fun e' => e (by cases e'; rfl))]
      exact h.hd j hj
  hn := fun j hj => by
    by_cases e : j = p
    · subst e
      rw [if_pos rfl, hn, List.getD_eq_getElem?_getD, List.getElem?_set_self (by rw [h.dl]; exact hj)]; rfl
    · rw [if_neg e, h.hn j hj, List.getD_eq_getElem?_getD, List.getD_eq_getElem?_getD, List.getElem?_set_ne (Ne.symm e)]
  hr := fun j hj => by
    by_cases e : j = p
    · subst e
      rw [if_pos rfl, List.getD_eq_getElem?_getD, List.getElem?_set_self (by rw [h.dl]; exact hj)]
      exact hr.setCell (p := ⟨e0, j, none⟩) h.sE _
    · have := (h.hr j hj).setCell (p := ⟨e0, p, none⟩) h.sE x.v
      rw [if_neg e, List.getD_eq_getElem?_getD, List.getElem?_set_ne (Ne.symm e), ← List.getD_eq_getElem?_getD]
      exact this
  hc := fun j hj => by
    by_cases e : j = p
    · subst e; rw [if_pos rfl]; exact hc
    · rw [if_neg e]; exact h.hc j hj
end
end Go.Proofs.YtkpbanfpnilifaaGreat

/- The methods of one that goes steps: source, idle, part, do. -/
namespace Go.Proofs.YtkpbanfpnilifaaGreat
open Go.BigFrame
open Go.RowKit Go.Proofs.YtkpbanfpnilifaaGreat.Plain

def srcI (D : List (List Nat)) (P Q : Nat) : Int := match srcN D P Q with
  | some F => F
  | none => -1
set_option maxHeartbeats 800000 in
set_option maxRecDepth 100000 in
theorem source_any {S : Nat → Prop} {V e0 g m : Nat} {c : Cw} {ev : Ev} {A B : Option Addr} {a b e : Nat} {hs : Nat → Hd} (P Q : Nat) (w : World) (h : GoAt S w V e0 g m c ev A B a b e hs) (hP : P < m) (hQ : Q < m) (m2 : m ≤ 8) :
    Calls Tryz.prog 93 #[.pointer (some ⟨V, 0, none⟩), .int .i64 P, .int .i64 Q] w fun ed w' => ed = .returned (.int .i64 (srcI c.D P Q)) ∧ w = w' := by
  have i0 : ∀ w, (Instr.index 112 (.agg #[.int .i64 (P : Int), .int .i64 (Q : Int)]) (.int .i64 0)).run Tryz.prog w = .ok (.int .i64 (P : Int)) w := fun _ => by kernel_rfl
  have i1 : ∀ w, (Instr.index 112 (.agg #[.int .i64 (P : Int), .int .i64 (Q : Int)]) (.int .i64 1)).run Tryz.prog w = .ok (.int .i64 (Q : Int)) w := fun _ => by kernel_rfl
  have v3 := h.v3
  have hm0 : (P : Int) < m := by omega
  have hm1 : (Q : Int) < m := by omega
  have hP0 : (0 : Int) ≤ P := by omega
  have hQ0 : (0 : Int) ≤ Q := by omega
  have hm8 : (m : Int) ≤ 8 := by omega
  have zP := h.hd P hP
  have zQ := h.hd Q hQ
  have nP := h.hn P hP
  have nQ := h.hn Q hQ
  unfold Hd.v at zP zQ
  obtain ⟨u1, hu1⟩ : ∃ x, (hs P).n = x := ⟨_, rfl⟩
  obtain ⟨u2, hu2⟩ : ∃ x, (hs Q).n = x := ⟨_, rfl⟩
  rw [hu1] at zP nP
  rw [hu2] at zQ nQ
  obtain ⟨r, hr⟩ : ∃ r, srcI c.D P Q = r := ⟨_, rfl⟩
  rw [hr]
  unfold srcI srcN at hr
  by_cases h1 : u1 = 0
  · have e1 : c.D.getD P [] = [] := List.eq_nil_of_length_eq_zero (by omega)
    have d1 : ¬ (0 : Int) < u1 := by omega
    by_cases h2 : u2 = 0
    · have e2 : c.D.getD Q [] = [] := List.eq_nil_of_length_eq_zero (by omega)
      have d2 : ¬ (0 : Int) < u2 := by omega
      rw [if_neg (by rw [e1]; simp), if_neg (by rw [e2]; simp)] at hr
      have HR : Hid (-1 = r) := Lib.hid hr
      subst h1 h2
      clear hr e1 e2 nP nQ h hu1 hu2
      go_enter Tryz.func93, Tryz.ntmps93
      go_wp2_with fail
      go_loop [12] (fun i => i = .int .i64 0 ∨ i = .int .i64 1 ∨ i = .int .i64 2) (fun i => 2 - (intOf i).toNat)
      case atStart => exact .inl rfl
      case round =>
        rcases hrel with rfl | rfl | rfl
        · go_wp2_with fail
          go_round
          case rel => exact .inr (.inl rfl)
          case measure => simp [intOf]
        · go_wp2_with fail
          go_round
          case rel => exact .inr (.inr rfl)
          case measure => simp [intOf]
        · go_wp2_with fail
          go_ret
          exact ⟨ret_int HR.out, rfl⟩
    · have e2 : c.D.getD Q [] ≠ [] := fun hh => h2 (by rw [nQ, hh]; rfl)
      have d2 : (0 : Int) < u2 := by omega
      rw [if_neg (by rw [e1]; simp), if_pos e2] at hr
      have HR : Hid ((Q : Int) = r) := Lib.hid hr
      subst h1
      clear hr e1 e2 nP nQ h hu1 hu2
      go_enter Tryz.func93, Tryz.ntmps93
      go_wp2_with fail
      go_loop [12] (fun i => i = .int .i64 0 ∨ i = .int .i64 1) (fun i => 2 - (intOf i).toNat)
      case atStart => exact .inl rfl
      case round =>
        rcases hrel with rfl | rfl
        · go_wp2_with fail
          go_round
          case rel => exact .inr rfl
          case measure => simp [intOf]
        · go_wp2_with fail
          go_ret
          exact ⟨ret_int HR.out, rfl⟩
  · have e1 : c.D.getD P [] ≠ [] := fun hh => h1 (by rw [nP, hh]; rfl)
    have d1 : (0 : Int) < u1 := by omega
    rw [if_pos e1] at hr
    have HR : Hid ((P : Int) = r) := Lib.hid hr
    clear hr e1 nP nQ h hu1 hu2
    go_enter Tryz.func93, Tryz.ntmps93
    go_wp2_with fail
    go_loop [12] (fun i => i = .int .i64 0) (fun i => 2 - (intOf i).toNat)
    case atStart => exact rfl
    case round =>
      obtain rfl := hrel
      go_wp2_with fail
      go_ret
      exact ⟨ret_int HR.out, rfl⟩

set_option maxHeartbeats 800000 in
set_option maxRecDepth 100000 in
theorem idle_any {S : Nat → Prop} {V e0 g m : Nat} {c : Cw} {ev : Ev} {A B : Option Addr} {a b e : Nat} {hs : Nat → Hd} (P : Nat) (w : World) (h : GoAt S w V e0 g m c ev A B a b e hs) (hst : c.st < 100000) (hid : c.id < 100000) :
    Calls Tryz.prog 94 #[.pointer (some ⟨V, 0, none⟩), .int .i64 P] w fun ed w' => ed = .returned (.tuple #[]) ∧ GoAt S w' V e0 g m ⟨c.ts, c.dn, c.D, c.over, c.st + 1, c.id + 1⟩ ⟨P, -1, -1, false⟩ A B a b e hs ∧ GrewG V e0 w w' := by
  have H := Lib.hid h
  obtain ⟨v5, v6, v7, v8, v9, v10, fV⟩ := And.intro h.v5 (And.intro h.v6 (And.intro h.v7 (And.intro h.v8 (And.intro h.v9 (And.intro h.v10 h.fV)))))
  have s1 : (c.st : Int) < 100000 := by omega
  have s2 : (0 : Int) ≤ c.st := by omega
  have s3 : (c.id : Int) < 100000 := by omega
  have s4 : (0 : Int) ≤ c.id := by omega
  have lV : V < w.heap.size := h.sl V h.sV
  clear h
  go_enter Tryz.func94, Tryz.ntmps94
  go_wp2_with fail
  go_end0
  refine ⟨rfl, ((H.out.setSt (c.st + 1)).setId (c.id + 1)).setEv ⟨P, -1, -1, false⟩, ?_⟩
  exact (((((((Grew.refl (fun x => x = V ∨ x = e0) w).setCell (p := ⟨V, 5, none⟩) (.inl rfl) _).setCell (p := ⟨V, 6, none⟩) (.inl rfl) _).setCell (p := ⟨V, 7, none⟩) (.inl rfl) _).setCell (p := ⟨V, 8, none⟩) (.inl rfl) _).setCell (p := ⟨V, 9, none⟩) (.inl rfl) _).setCell (p := ⟨V, 10, none⟩) (.inl rfl) _)

set_option maxHeartbeats 1600000 in
set_option maxRecDepth 100000 in
theorem part_go {S : Nat → Prop} {V e0 g m : Nat} {c : Cw} {ev : Ev} {A B : Option Addr} {a b e n : Nat} {hs : Nat → Hd} (k : Nat) (w : World) (h : GoAt S w V e0 g m c ev A B a b e hs) (hn : c.dn.length = n) (hr : wRight c.ts (g : Int) n = true) (hk : k < c.ts.length) (hgr : wGreat c.ts (g : Int) n k = true) (hw0 : (T c.ts k).wt = 0) (hl : c.ts.length ≤ 1998) (g2 : g ≤ 100) (n2 : n ≤ 1000) :
    Calls Tryz.prog 102 #[.pointer (some ⟨V, 0, none⟩), .int .i64 k] w fun ed w' => ∃ (A' B' : Option Addr) (a' b' H : Nat), ed = .returned (.tuple #[.slice (some ⟨H, 0, none⟩) 2 2, .int .i64 0]) ∧ GoAt S w' V e0 g m ⟨partedL c.ts k, c.dn, c.D, c.over, c.st, c.id⟩ ev A' B' a' b' e hs ∧
      Ow kInt w.heap.size w' (.slice (some ⟨H, 0, none⟩) 2 2) [((c.ts.length + 1 : Nat) : Int), (c.ts.length : Int)] ∧ GrewG V e0 w w' := by
  have H := Lib.hid h
  have v0 := h.v0
  have v1 := h.v1
  have v2 := h.v2
  have fV := h.fV
  have lV : V < w.heap.size := h.sl V h.sV
  have HPE : Hid (partErr c.ts (g : Int) n (k : Int) = 0) := Lib.hid (partErr_ok hr hk hgr hw0 hl)
  have HGI : Hid (in64 (g : Int)) := Lib.hid (in64_nat g (by omega))
  have HKI : Hid (in64 (k : Int)) := Lib.hid (in64_nat k (by omega))
  have HN := Lib.hid hn
  have l1 : c.ts.length ≤ 1048576 := by omega
  have l2 : n ≤ 1048576 := by omega
  clear h hn
  go_enter Tryz.func102, Tryz.ntmps102
  go_wp2_with fail
  refine (part_to _ _ _ _ c.ts.length c.dn.length (c.ts.length + 2) c.ts (partedL c.ts k) c.dn (g : Int) (k : Int) (c.ts.length : Int) ((c.ts.length : Int) + 1) _ H.out.tsk.rd H.out.dns.rd rfl rfl HGI.out HKI.out l1 (by rw [HN.out]; exact l2) (by rw [HN.out]; exact HPE.out) (by rw [Int.toNat_natCast]; rfl) (partedL_len c.ts k) rfl rfl).mono ?_
  rintro ed w1 ⟨A1, a1, B1, b1, rfl, hT, hD, hA, hB, hE⟩
  have H1 := Lib.hid (H.out.ext hE)
  have x0 := hE.cell v0
  have x1 := hE.cell v1
  have x2 := hE.cell v2
  have xf : ∀ o, w1.frozen? ⟨V, o, none⟩ = false := fun o => (Below.frozen hE (p := ⟨V, o, none⟩) lV).trans (fV o)
  have hz := hE.size
  have lV1 : V < w1.heap.size := by omega
  have HT1 : Hid (RdO kTask S w1 (.slice A1 (c.ts.length + 2) a1) (partedL c.ts k)) := Lib.hid (hT.offFrom hA H.out.sl)
  have HD1 : Hid (RdO kBool S w1 (.slice B1 c.dn.length b1) c.dn) := Lib.hid (hD.offFrom hB H.out.sl)
  have HE1 := Lib.hid hE
  clear hT hD hA hB hE v0 v1 v2 fV
  go_wp2_with fail
  go_ret2
  refine ⟨A1, B1, a1, b1, _, rfl, ?_, ?_, ?_⟩
  · have hT2 : RdO kTask S w1 (.slice A1 (partedL c.ts k).length a1) (partedL c.ts k) := by rw [partedL_len]; exact HT1.out
    have h3 := (H1.out.setWork hT2 HD1.out)
    rw [partedL_len] at h3
    have h4 := (h3.ext ((Ext.refl _).alloc (.cells #[.slice A1 (c.ts.length + 2) a1, .int .i64 g, .slice B1 c.dn.length b1] 78))).ext ((Ext.refl _).alloc (.cells #[.int .i64 ((c.ts.length : Int) + 1), .int .i64 (c.ts.length : Int)] 3))
    exact h4
  · exact Ow.lit (K := kInt) _ [((c.ts.length + 1 : Nat) : Int), (c.ts.length : Int)] _ rfl rfl (by simp) (by omega) (by simp [maxLen]) (by intro x hx; simp only [List.mem_cons, List.not_mem_nil, or_false] at hx; rcases hx with rfl | rfl <;> exact in64_nat _ (by omega))
  · exact ((((((Grew.of HE1.out).setCell (p := ⟨V, 0, none⟩) (.inl rfl) _).setCell (p := ⟨V, 1, none⟩) (.inl rfl) _).setCell (p := ⟨V, 2, none⟩) (.inl rfl) _).alloc _).alloc _)

set_option maxHeartbeats 1600000 in
set_option maxRecDepth 100000 in
theorem do_go {S : Nat → Prop} {V e0 g m : Nat} {c : Cw} {ev : Ev} {A B : Option Addr} {a b e n : Nat} {hs : Nat → Hd} (k : Nat) (w : World) (h : GoAt S w V e0 g m c ev A B a b e hs) (hn : c.dn.length = n) (hr : wRight c.ts (g : Int) n = true) (hk : k < c.ts.length) (hgr : wGreat c.ts (g : Int) n k = false) (hw0 : (T c.ts k).wt = 0) (_hlo : 0 ≤ (T c.ts k).lo) (hlh : (T c.ts k).lo ≤ (T c.ts k).hi) (hhn : (T c.ts k).hi ≤ n) (hdn : c.dn.getD (T c.ts k).lo.toNat false = false) (hov : c.over = false) (hl : c.ts.length ≤ 1998) (g2 : g ≤ 100) (n2 : n ≤ 1000) :
    Calls Tryz.prog 103 #[.pointer (some ⟨V, 0, none⟩), .int .i64 k] w fun ed w' => ∃ (A' B' : Option Addr) (a' b' : Nat), ed = .returned (.int .i64 0) ∧ GoAt S w' V e0 g m ⟨(climb (c.ts.length + 1) c.ts (T c.ts k).up).1, marked c.dn (T c.ts k).lo.toNat (T c.ts k).hi.toNat, c.D, c.over || (climb (c.ts.length + 1) c.ts (T c.ts k).up).2, c.st, c.id⟩ ev A' B' a' b' e hs ∧ GrewG V e0 w w' := by
  have H := Lib.hid h
  have v0 := h.v0
  have v1 := h.v1
  have v2 := h.v2
  have v4 := h.v4
  rw [hov] at v4
  have fV := h.fV
  have lV : V < w.heap.size := h.sl V h.sV
  have HOV := Lib.hid hov
  have HPE : Hid (doErr c.ts (g : Int) c.dn (k : Int) = 0) := Lib.hid (doErr_zero (by rw [hn]; exact hr) hk (by rw [hn]; exact hgr) hw0 hdn)
  have HGI : Hid (in64 (g : Int)) := Lib.hid (in64_nat g (by omega))
  have HKI : Hid (in64 (k : Int)) := Lib.hid (in64_nat k (by omega))
  obtain ⟨us, q, hcl⟩ : ∃ us q, climb (c.ts.length + 1) c.ts (T c.ts k).up = (us, q) := ⟨_, _, rfl⟩
  have hul : us.length = c.ts.length := by have := climb_len (c.ts.length + 1) c.ts (T c.ts k).up; rw [hcl] at this; exact this
  obtain ⟨dn', hmk⟩ : ∃ dn', marked c.dn (T c.ts k).lo.toNat (T c.ts k).hi.toNat = dn' := ⟨_, rfl⟩
  have hml : dn'.length = c.dn.length := by rw [← hmk]; exact marked_len _ _ _ (by omega) (by omega)
  have HCL := Lib.hid hcl
  have HMK := Lib.hid hmk
  have HUL := Lib.hid hul
  have HML := Lib.hid hml
  have HN := Lib.hid hn
  have l1 : c.ts.length ≤ 1048576 := by omega
  have l2 : n ≤ 1048576 := by omega
  rw [hcl, hmk]
  clear h hn hov hcl hmk hul hml hdn
  go_enter Tryz.func103, Tryz.ntmps103
  go_wp2_with fail
  refine (do_to _ _ _ _ c.ts.length c.dn.length c.ts us c.dn dn' (g : Int) (k : Int) q _ H.out.tsk.rd H.out.dns.rd rfl rfl HGI.out HKI.out l1 (by rw [HN.out]; exact l2) HPE.out (by rw [Int.toNat_natCast]; exact HCL.out) (by rw [Int.toNat_natCast]; exact HMK.out)).mono ?_
  rintro ed w1 ⟨A1, a1, B1, b1, rfl, hT, hD, hA, hB, hE⟩
  have H1 := Lib.hid (H.out.ext hE)
  have x0 := hE.cell v0
  have x1 := hE.cell v1
  have x2 := hE.cell v2
  have x4 := hE.cell v4
  have xf : ∀ o, w1.frozen? ⟨V, o, none⟩ = false := fun o => (Below.frozen hE (p := ⟨V, o, none⟩) lV).trans (fV o)
  have hz := hE.size
  have lV1 : V < w1.heap.size := by omega
  have HT1 : Hid (RdO kTask S w1 (.slice A1 us.length a1) us) := Lib.hid (by rw [HUL.out]; exact hT.offFrom hA H.out.sl)
  have HD1 : Hid (RdO kBool S w1 (.slice B1 dn'.length b1) dn') := Lib.hid (by rw [HML.out]; exact hD.offFrom hB H.out.sl)
  have HE1 := Lib.hid hE
  clear hT hD hA hB hE v0 v1 v2 v4 fV
  go_wp2_with fail
  go_ret
  refine ⟨A1, B1, a1, b1, rfl, ?_, ?_⟩
  · have h3 := (H1.out.setWork HT1.out HD1.out)
    rw [HUL.out, HML.out] at h3
    have h5 := (h3.setOver q).ext ((Ext.refl _).alloc (.cells #[.slice A1 c.ts.length a1, .int .i64 g, .slice B1 c.dn.length b1] 78))
    rw [HOV.out, Bool.false_or]
    exact h5
  · exact ((((((Grew.of HE1.out).setCell (p := ⟨V, 0, none⟩) (.inl rfl) _).setCell (p := ⟨V, 1, none⟩) (.inl rfl) _).setCell (p := ⟨V, 2, none⟩) (.inl rfl) _).setCell (p := ⟨V, 4, none⟩) (.inl rfl) _).alloc _)
end Go.Proofs.YtkpbanfpnilifaaGreat

/- One that goes steps goes at a task. -/
namespace Go.Proofs.YtkpbanfpnilifaaGreat
open Go.BigFrame
open Go.RowKit Go.Proofs.YtkpbanfpnilifaaGreat.Plain

/-- two numbers are appended to a list without room: new memory -/
theorem step_grow2 {ops : Array Oper} {o : Oper} {a : Act} {w : World} {K : Act → World → Prop} {Q : Exit → Act → World → Prop} {E : Prop} (hg : o.guard = none) (s x : Operand)
    (hop : o.op = Op.call { callee := Callee.builtin Builtin.append, args := #[s, x], argTypes := #[29, 29] }) (hty : o.type = 29) (y : Hd) (xs : List Nat) (i j : Nat) (H : Nat)
    (hs : a.eval s = y.v) (hn : y.n = xs.length) (hfull : y.c = y.n) (hr : Rd kInt w y.v (zs xs)) (hx : a.eval x = .slice (some ⟨H, 0, none⟩) 2 2) (ho : Rd kInt w (.slice (some ⟨H, 0, none⟩) 2 2) [(i : Int), (j : Int)]) (hl : xs.length ≤ 1000000)
    (hK : ∀ (z : Hd) (w' : World), z.n = (xs ++ [i, j]).length → (z.n = 0 → z.c = 0) → Ext w w' → (∀ S : Nat → Prop, (∀ x, S x → x < w.heap.size) → RdO kInt S w' z.v (zs (xs ++ [i, j]))) → K (a.put o.dst z.v) w') :
    if Region.wanted o (yielded ops a.tmps) = true then Oper.wp Tryz.prog o a w K Q else E := by
  obtain ⟨i0, hi, hz0, hz1, hz2⟩ := info_parts intInfo
  obtain ⟨A, n, c⟩ := y
  obtain rfl : n = xs.length := hn
  obtain rfl : c = xs.length := hfull
  have hr2 := ho.at_
  have hbd : ∀ u ∈ zs (xs ++ [i, j]), in64 u := by
    intro u hu
    rw [show zs (xs ++ [i, j]) = zs xs ++ [(i : Int), (j : Int)] by unfold zs; simp] at hu
    rcases List.mem_append.1 hu with h | h
    · exact hr.2.1 u h
    · exact ho.2.1 u h
  refine step_append_grows hg s x 29 hop 3 i0 (.int .i64 0) 1 8 Tryz.underlying29 hi hz0 hz1 hz2 rfl (by decide) A xs.length xs.length (kInt.flat (zs xs)) hs ?_ ?_ ?_ ⟨H, 0, none⟩ 2 2 (kInt.flat [(i : Int), (j : Int)]) hx ?_ hr2 ?_ (by omega) (by unfold maxLen; omega) (by omega) ?_
  · intro hA
    have h0 : xs.length = 0 := by
      rcases Nat.eq_zero_or_pos xs.length with h | h
      · exact h
      · obtain ⟨b, off, hh, _⟩ := hr.cells (by rw [zs_len]; exact h)
        rw [hA] at hh; cases hh
    exact ⟨h0, h0⟩
  · rw [kInt.flat_len, zs_len]; rfl
  · intro b hb
    subst hb
    exact hr.at_
  · rw [kInt.flat_len]; rfl
  · intro u hu; exact kInt.flat_mem hu
  · intro v' w' hown hgr
    have hO : Ow kInt w.heap.size w' v' (zs (xs ++ [i, j])) := by
      refine ⟨?_, hbd⟩
      rw [zs_len, List.length_append, show zs (xs ++ [i, j]) = zs xs ++ [(i : Int), (j : Int)] by unfold zs; simp, kInt.flat_app]
      exact hown
    obtain ⟨A', c', rfl, _⟩ := hO.slice
    rw [zs_len] at hO ⊢
    have hE : Ext w w' := (Ext.refl w).grown hgr (fun k hk => by cases hk)
    exact hK ⟨A', (xs ++ [i, j]).length, c'⟩ w' rfl (fun h => by simp at h) hE fun S hS => hO.rd.offFrom hO.from hS

/-- nothing is appended -/
theorem run_app_none (w : World) (y : Hd) (h : y.n ≤ y.c) : (Builtin.append_ #[29, 29] 29 #[y.v, .slice none 0 0]).run Tryz.prog w = .ok y.v w := by
  obtain ⟨i0, hi, hz0, hz1, hz2⟩ := info_parts intInfo
  obtain ⟨A, n, c⟩ := y
  have h' : n ≤ c := h
  cases A with
  | none => simp [Builtin.append_, run_underlying Tryz.underlying29, sizeOf, typeInfo, hi, Builtin.lenOf, Builtin.firstCells, storeCells, h']
  | some ad => simp [Builtin.append_, run_underlying Tryz.underlying29, sizeOf, typeInfo, hi, Builtin.lenOf, Builtin.firstCells, storeCells, h']
theorem step_none {ops : Array Oper} {o : Oper} {a : Act} {w : World} {K : Act → World → Prop} {Q : Exit → Act → World → Prop} {E : Prop} (hg : o.guard = none) (s x : Operand)
    (ho : o.op = Op.call { callee := Callee.builtin Builtin.append, args := #[s, x], argTypes := #[29, 29] }) (hty : o.type = 29) (y : Hd)
    (hs : a.eval s = y.v) (hn : y.n ≤ y.c) (hx : a.eval x = .slice none 0 0) (hK : K (a.put o.dst y.v) w) :
    if Region.wanted o (yielded ops a.tmps) = true then Oper.wp Tryz.prog o a w K Q else E := by
  have hw : Region.wanted o (yielded ops a.tmps) = true := by simp [Region.wanted, hg]
  rw [if_pos hw]
  unfold Oper.wp execOp
  simp only [ho, hty, resolve, invoke, builtin, Sem.run_bind, Sem.run_pure, Result.andThen_ok, List.map_toArray, List.map_cons, List.map_nil, hs, hx, run_app_none w y hn]
  exact hK

/-- behind the appending -/
def AppCut (S : Nat → Prop) (w6 : World) (e0 P : Nat) (ys : List Nat) (wx : World) : Prop :=
  ∃ (z : Hd) (w7 : World), z.n = ys.length ∧ (z.n = 0 → z.c = 0) ∧ Ext w6 w7 ∧ RdO kInt S w7 z.v (zs ys) ∧ wx = w7.setCell ⟨e0, P, none⟩ z.v
/-- behind the taking -/
def TakeCut (w : World) (D : List (List Nat)) (P F : Nat) (r k q : Value) (wx : World) : Prop :=
  ∃ y : Hd, r = y.v ∧ k = .int .i64 ((takeN D P F).1 : Nat) ∧ q = .int .i64 0 ∧ y.n = (takeN D P F).2.length ∧ (y.n = 0 → y.c = 0) ∧ (F = P → y.c = y.n) ∧ (∀ S : Nat → Prop, (∀ x, S x → x < w.heap.size) → RdO kInt S wx y.v (zs (takeN D P F).2)) ∧ Ext w wx
/-- what goAt, and step, leave -/
def GoSaid (S : Nat → Prop) (V e0 g m e : Nat) (r : Cw × Ev) (w : World) (ed : Ending) (w' : World) : Prop :=
  ∃ (A' B' : Option Addr) (a' b' : Nat) (hs' : Nat → Hd), ed = .returned (.int .i64 0) ∧ GoAt S w' V e0 g m r.1 r.2 A' B' a' b' e hs' ∧ GrewG V e0 w w'
theorem set_getD_same (D : List (List Nat)) (P : Nat) (hP : P < D.length) : D.set P (D.getD P []) = D := by
  rw [getDp hP]; exact List.set_getElem_self hP
set_option maxHeartbeats 6400000 in
set_option maxRecDepth 100000 in
theorem goAt_any {S : Nat → Prop} {V e0 g n m : Nat} {c : Cw} {ev : Ev} {A B : Option Addr} {a b e : Nat} {hs : Nat → Hd} {done : Nat} {G : List Nat} (P F : Nat) (w : World) (h : GoAt S w V e0 g m c ev A B a b e hs) (hI : CwI g n m c done G) (hP : P < m) (hF : F < m) (hne : c.D.getD F [] ≠ []) (hFP : F = P ∨ c.D.getD P [] = [])
    (n1 : 1 ≤ n) (n2 : n ≤ 900) (g1 : 1 ≤ g) (g2 : g ≤ 100) (m2 : m ≤ 8) (hst : c.st < 100000) :
    Calls Tryz.prog 95 #[.pointer (some ⟨V, 0, none⟩), .int .i64 P, .int .i64 F] w (GoSaid S V e0 g m e (goP g c P F) w) := by
  have H := Lib.hid h
  have HI := Lib.hid hI
  have HNE := Lib.hid hne
  have HFP := Lib.hid hFP
  have v3 := h.v3
  have zF := h.hd F hF
  have nF := h.hn F hF
  have HRF : Hid (Rd kInt w (hs F).v (zs (c.D.getD F []))) := Lib.hid (h.hr F hF).rd
  have HNF := Lib.hid nF
  have hfl : (c.D.getD F []).length ≤ 4000 := by
    have h1 := hI.few g1 n1
    have h2 := (CrI.fresh hI).2.2.2
    have h3 := (held_at c.D F (by rw [h.dl]; exact hF)).length_eq
    rw [List.length_append] at h3
    omega
  have hF0 : (0 : Int) ≤ F := by omega
  have hF1 : (F : Int) < m := by omega
  have hP0 : (0 : Int) ≤ P := by omega
  have hP1 : (P : Int) < m := by omega
  have m3 : (m : Int) ≤ 8 := by omega
  have lV : V < w.heap.size := h.sl V h.sV
  have lE : e0 < w.heap.size := h.sl e0 h.sE
  clear h hI hne hFP nF
  go_enter Tryz.func95, Tryz.ntmps95
  go_upto_if 15 with fail
  go_cut [7] (fun t wx => w = wx ∧ ((F = P ∧ t = .func (.func 99) #[] #[]) ∨ (F ≠ P ∧ t = .func (.func 100) #[] #[])))
  case first =>
    by_cases e : F = P
    · subst e
      go_wp2_with fail
      go_meet
      exact ⟨rfl, .inl ⟨trivial, rfl⟩⟩
    · have e1 : ¬ (F : Int) = P := by omega
      go_wp2_with fail
      go_meet
      exact ⟨rfl, .inr ⟨e, rfl⟩⟩
  case rest =>
  obtain ⟨rfl, htake⟩ := hcut
  go_upto_region 4 with fail
  go_cut [8, 9, 10] (fun r k q wx => TakeCut w c.D P F r k q wx)
  case first =>
    rcases htake with ⟨e, rfl⟩ | ⟨e, rfl⟩
    · have HTK : Hid (takeN c.D P F = ((c.D.getD F []).getLastD 0, (c.D.getD F []).dropLast)) := Lib.hid (by unfold takeN; rw [if_pos e])
      have HE := Lib.hid e
      clear e
      go_wp2_with fail
      refine (pop_go (hs F) (c.D.getD F []) _ HRF.out HNF.out hfl HNE.out).mono ?_
      rintro ed w1 ⟨y, rfl, y1, y2, y3, hE1⟩
      have HY := Lib.hid (And.intro y1 (And.intro y2 (And.intro y3 hE1)))
      clear y1 y2 y3 hE1
      go_wp2_with fail
      go_meet
      obtain ⟨y1, y2, y3, hE1⟩ := HY.out
      refine ⟨y, rfl, by rw [HTK.out]; simp, rfl, by rw [HTK.out]; exact y1, fun h0 => by rw [y2]; exact h0, fun _ => y2, by rw [HTK.out]; exact y3, hE1⟩
    · have HTK : Hid (takeN c.D P F = ((c.D.getD F []).headD 0, (c.D.getD F []).tail)) := Lib.hid (by unfold takeN; rw [if_neg e])
      have HE := Lib.hid e
      clear e
      go_wp2_with fail
      refine (steal_go (hs F) (c.D.getD F []) _ HRF.out HNF.out hfl HNE.out).mono ?_
      rintro ed w1 ⟨y, rfl, y1, y2, y3, hE1⟩
      have HY := Lib.hid (And.intro y1 (And.intro y2 (And.intro y3 hE1)))
      clear y1 y2 y3 hE1
      go_wp2_with fail
      go_meet
      obtain ⟨y1, y2, y3, hE1⟩ := HY.out
      refine ⟨y, rfl, by rw [HTK.out]; simp, rfl, by rw [HTK.out]; exact y1, y2, fun hh => absurd hh HE.out, by rw [HTK.out]; exact y3, hE1⟩
  case rest =>
  obtain ⟨y, rfl, rfl, rfl, y1, y2, y3, y4, hE1⟩ := hcut
  clear htake
  have hmem : (takeN c.D P F).1 ∈ held c.D := (take_held (P := P) (by rw [H.out.dl]; exact hF) HNE.out).mem_iff.2 List.mem_cons_self
  obtain ⟨k, hk⟩ : ∃ k, (takeN c.D P F).1 = k := ⟨_, rfl⟩
  obtain ⟨R, hR⟩ : ∃ R, (takeN c.D P F).2 = R := ⟨_, rfl⟩
  rw [hk] at hmem ⊢
  rw [hR] at y1 y4
  have hO := CrI.inv HI.out
  have hkl := hO.lt k hmem
  have hfew := HI.out.few g1 n1
  have HKM := Lib.hid hmem
  have HTK : Hid (takeN c.D P F = (k, R)) := Lib.hid (by rw [← hk, ← hR])
  have HY := Lib.hid (And.intro y1 (And.intro y2 (And.intro y3 y4)))
  have H1 := Lib.hid (H.out.ext hE1)
  have HE1 := Lib.hid hE1
  have hk1 : (k : Int) < c.ts.length := by omega
  have hk0 : (0 : Int) ≤ k := by omega
  obtain ⟨ta, to', hA, hct⟩ := Rd.tasks H1.out.tsk.rd (by omega : 0 < c.ts.length)
  obtain ⟨q0, q1, q2, q3⟩ := hct k hkl
  obtain ⟨⟨lo, hi', up, wt⟩, ht⟩ : ∃ t, c.ts.getD k ⟨0, 0, 0, 0⟩ = t := ⟨_, rfl⟩
  rw [ht] at q0 q1 q2 q3
  simp only at q0 q1 q2 q3
  have htT : T c.ts k = ⟨lo, hi', up, wt⟩ := ht
  have HT := Lib.hid htT
  have x0 := H1.out.v0
  have x1 := H1.out.v1
  have x2 := H1.out.v2
  have x3 := H1.out.v3
  have htask := hO.task k hkl
  rw [htT] at htask
  simp only at htask
  have HTB := Lib.hid htask
  have hsz := (hO.szpos k hmem).2.2
  rw [htT] at hsz
  simp only at hsz
  have hD0 : (hi' - lo : Int) = (sz c.ts k : Int) := hsz
  have HDI : Hid (in64 (hi' - lo)) := Lib.hid (by unfold in64; omega)
  have HGI : Hid (in64 (g : Int)) := Lib.hid (in64_nat g (by omega))
  subst hA
  clear hk hR y1 y2 y3 y4 hE1 hct ht htT hsz hmem zF v3
  have KS : Hid (∀ w', Ext wc w' → w'.cell? ⟨V, 0, none⟩ = some (.slice (some ⟨ta, to', none⟩) c.ts.length a) ∧ w'.cell? ⟨V, 1, none⟩ = some (.int .i64 g) ∧ w'.cell? ⟨V, 2, none⟩ = some (.slice B c.dn.length b) ∧ w'.cell? ⟨V, 3, none⟩ = some (.slice (some ⟨e0, 0, none⟩) m e) ∧ w'.cell? ⟨ta, to' + k * 4, none⟩ = some (.int .i64 lo) ∧ w'.cell? ⟨ta, to' + k * 4 + 1, none⟩ = some (.int .i64 hi') ∧ w'.cell? ⟨ta, to' + k * 4 + 2, none⟩ = some (.int .i64 up) ∧ w'.cell? ⟨ta, to' + k * 4 + 3, none⟩ = some (.int .i64 wt)) := Lib.hid fun w' hE => ⟨hE.cell x0, hE.cell x1, hE.cell x2, hE.cell x3, hE.cell q0, hE.cell q1, hE.cell q2, hE.cell q3⟩
  have HGR : Hid (∀ w', Ext wc w' → Calls Tryz.prog 101 #[.agg #[.slice (some ⟨ta, to', none⟩) c.ts.length a, .int .i64 g, .slice B c.dn.length b], .agg #[.int .i64 lo, .int .i64 hi', .int .i64 up, .int .i64 wt]] w' fun ed w'' => ed = .returned (.bool (decide ((g : Int) < hi' - lo))) ∧ Ext wc w'') := Lib.hid fun w' hE =>
    (cgreat_any _ _ _ _ _ _ lo hi' up wt g w' HDI.out HGI.out).mono fun ed w'' hh => ⟨hh.1, hE.trans hh.2⟩
  go_wp2_with fail
  refine wp_region_class (Ext wc) (by kernel_rfl) (by kernel_rfl) (Ext.refl _).drew ?_
  try simp only [List.append_eq, List.cons_append, List.nil_append]
  repeat (first
    | go_big_quiet_skip
    | (go_big_quiet_want
       first
       | (go_big_quiet_op; go_big_quiet_on)
       | (unfold Oper.quiet
          apply Exists.intro
          refine ⟨fun w' hC => ?_, ?_⟩
          · (obtain ⟨k1, k2, k3, k4, k5, k6, k7, k8⟩ := KS.out w' hC
             unfold Oper.quietAt
             go_simp
             first
             | exact rfl
             | (with_reducible exact HGR.out w' hC))
          go_simp
          go_big_quiet_on)
       | (go_big_quiet_op
          apply Exists.intro
          refine ⟨fun w' hC => ?_, ?_⟩
          · exact HGR.out w' hC
          go_big_quiet_on)))
  refine wpQuiet_nil ?_
  intro w4 hC4
  have hC4' := hC4
  have H4 := Lib.hid (H1.out.ext hC4)
  have HC4 := Lib.hid hC4
  have HDL : Hid (c.dn.length = n) := Lib.hid hO.dl
  have HWR : Hid (wRight c.ts (g : Int) n = true) := Lib.hid (hO.right g1 g2 n1 n2)
  have HKT := Lib.hid hO
  by_cases hs' : g < sz c.ts k
  · have hdd : decide ((g : Int) < hi' - lo) = true := decide_eq_true (by omega)
    have HGB : Hid (wGreat c.ts (g : Int) n k = true) := Lib.hid (by rw [hO.greatB g1 g2 n1 n2 k HKM.out]; exact decide_eq_true hs')
    have HGO : Hid (goP g c P F = (⟨partedL c.ts k, c.dn, (c.D.set F R).set P ((c.D.set F R).getD P [] ++ [c.ts.length + 1, c.ts.length]), c.over, c.st + 1, c.id⟩, ⟨P, F, k, true⟩)) := Lib.hid (by unfold goP; rw [HTK.out]; simp only; rw [if_pos hs'])
    clear hC4 hC4' x0 x1 x2 x3 q0 q1 q2 q3 hO htask
    go_wp2_with fail
    refine (part_go k _ H4.out HDL.out HWR.out hkl HGB.out (HKT.out.w0 k HKM.out) (by omega) g2 (by omega)).mono ?_
    rintro ed w5 ⟨A5, B5, a5, b5, Hb, rfl, H5, hO5, hW5⟩
    have hC4' := HC4.out
    have H5' := Lib.hid H5
    have v35 := H5.v3
    have hd5 := H5.hd F hF
    have hf5 := H5.fE
    have lE5 : e0 < w5.heap.size := H5.sl e0 H5.sE
    have HO5 := Lib.hid hO5
    have HW5 := Lib.hid hW5
    clear H5 hO5 hW5 hC4'
    go_wp2_with fail
    have H6 : Hid (GoAt S (w5.setCell ⟨e0, F, none⟩ y.v) V e0 g m ⟨partedL c.ts k, c.dn, c.D.set F R, c.over, c.st, c.id⟩ ev A5 B5 a5 b5 e (fun j => if j = F then y else hs j)) := Lib.hid (H5'.out.setHd F hF y R HY.out.1 HY.out.2.1 (((HY.out.2.2.2 S H.out.sl).ext HC4.out).grew (H.out.grewS HW5.out)))
    have HG6 : Hid (GrewG V e0 w5 (w5.setCell ⟨e0, F, none⟩ y.v)) := Lib.hid (Grew.setCell (p := ⟨e0, F, none⟩) (Grew.refl _ w5) (.inr rfl) _)
    have hx6 := H6.out.hd P hP
    have hn6 := H6.out.hn P hP
    have hr6 := H6.out.hr P hP
    have hc6 := H6.out.hc P hP
    have hv6 := H6.out.v3
    have hf6 := H6.out.fE
    have l6 := H6.out.sl
    have lE6 : e0 < (w5.setCell ⟨e0, F, none⟩ y.v).heap.size := H6.out.sl e0 H6.out.sE
    simp only at hx6 hn6 hr6 hc6
    obtain ⟨x, hx⟩ : ∃ x, (if P = F then y else hs P) = x := ⟨_, rfl⟩
    rw [hx] at hx6 hn6 hr6 hc6
    obtain ⟨xs, hxs⟩ : ∃ xs, (c.D.set F R).getD P [] = xs := ⟨_, rfl⟩
    rw [hxs] at hn6 hr6
    have hfull : x.c = x.n := by
      by_cases e : P = F
      · rw [← hx, if_pos e]; exact HY.out.2.2.1 e.symm
      · rcases HFP.out with h1 | h1
        · exact absurd h1.symm e
        · have h2 : x.n = 0 := by rw [hn6, ← hxs, List.getD_eq_getElem?_getD, List.getElem?_set_ne (Ne.symm e), ← List.getD_eq_getElem?_getD, h1]; rfl
          rw [h2]; exact hc6 h2
    have HXS := Lib.hid hxs
    have HX := Lib.hid (And.intro hn6 (And.intro hfull hr6))
    have HXL : Hid (xs.length ≤ 1000000) := Lib.hid (by
      have h1 := (CrI.fresh HI.out).2.2.2
      have h2 := held_set c.D F R (by rw [H.out.dl]; exact hF)
      have h3 := (held_at (c.D.set F R) P (by rw [List.length_set, H.out.dl]; exact hP)).length_eq
      have h4 := (take_held (P := P) (D := c.D) (F := F) (by rw [H.out.dl]; exact hF) HNE.out).length_eq
      rw [HTK.out] at h4
      simp only [List.length_cons, List.length_append] at h3 h4
      rw [HXS.out] at h3
      omega)
    clear hx hxs hn6 hr6 hc6 hfull hd5 v35 hf5
    generalize hw6 : w5.setCell ⟨e0, F, none⟩ y.v = w6 at *
    clear hw6
    have HO6 : Hid (Rd kInt w6 (.slice (some ⟨Hb, 0, none⟩) 2 2) [((c.ts.length + 1 : Nat) : Int), (c.ts.length : Int)]) := Lib.hid ((HO5.out.rd.off (S := S) (fun a ha hs => by cases ha; have h1 := HO5.out.lt Hb rfl; have h2 := H4.out.sl Hb hs; omega)) w6 (H.out.grewS HG6.out))
    have hHb : ∀ o, w6.frozen? ⟨e0, o, none⟩ = false := hf6
    clear hf6
    go_cut [] (fun wx => AppCut S w6 e0 P (xs ++ [c.ts.length + 1, c.ts.length]) wx)
    case first =>
      go_region_law (first
        | (refine step_grow2 (by rfl) (.tmp 82) (.tmp 83) (by rfl) (by rfl) x xs (c.ts.length + 1) c.ts.length Hb (by rfl) HX.out.1 HX.out.2.1 (HX.out.2.2.rd.ext (Ext.refl _).drew) (by rfl) (HO6.out.ext (Ext.refl _).drew) HXL.out ?_
           intro z w7 z1 z2 hE7 z3
           have ZZ := Lib.hid (And.intro z1 (And.intro z2 (And.intro hE7 z3)))
           have hv7 : w7.cell? ⟨V, 3, none⟩ = some (.slice (some ⟨e0, 0, none⟩) m e) := hE7.cell (by go_simp)
           have hx7 : w7.cell? ⟨e0, P, none⟩ = some x.v := hE7.cell (by go_simp)
           have hf7 : ∀ o, w7.frozen? ⟨e0, o, none⟩ = false := fun o => (Below.frozen hE7 (p := ⟨e0, o, none⟩) (by simp; omega)).trans (by have := hHb o; go_simp)
           have lE7 : e0 < w7.heap.size := by have := hE7.size; simp at this; omega
           clear z1 z2 hE7 z3))
      all_goals go_wp2_with fail
      all_goals go_meet
      all_goals exact ⟨z, w7, ZZ.out.1, ZZ.out.2.1, (Ext.refl w6).drew.trans ZZ.out.2.2.1, ZZ.out.2.2.2 S (fun s hs => by first | exact l6 s hs | (simp; exact l6 s hs)), rfl⟩
    case rest =>
    obtain ⟨z, w7, z1, z2, hE7, z3, rfl⟩ := hcut
    have H8 := ((H6.out.ext hE7).setHd P hP z (xs ++ [c.ts.length + 1, c.ts.length]) z1 z2 z3)
    have H8' := Lib.hid H8
    have hv8 := H8.v5
    have hv9 := And.intro H8.v7 (And.intro H8.v8 (And.intro H8.v9 (And.intro H8.v10 H8.fV)))
    obtain ⟨k7, k8, k9, k10, kf⟩ := hv9
    have HG8 : Hid (GrewG V e0 w (w7.setCell ⟨e0, P, none⟩ z.v)) := Lib.hid ((((((Grew.of HE1.out).ext HC4.out).trans HW5.out).trans HG6.out).ext hE7).setCell (p := ⟨e0, P, none⟩) (.inr rfl) _)
    have lV8 : V < (w7.setCell ⟨e0, P, none⟩ z.v).heap.size := H8.sl V H8.sV
    clear H8 z1 z2 hE7 z3
    generalize hw8 : w7.setCell ⟨e0, P, none⟩ z.v = w8 at *
    clear hw8 hx6 hv6 hHb lE6 l6
    have s1 : (c.st : Int) < 100000 := by omega
    have s2 : (0 : Int) ≤ c.st := by omega
    go_wp2_with fail
    go_ret
    rw [HGO.out]
    have h9 := (H8'.out.setSt (c.st + 1)).setEv ⟨P, F, k, true⟩
    simp only at h9
    rw [← HXS.out] at h9
    exact ⟨A5, B5, a5, b5, _, rfl, h9, ((((((HG8.out.setCell (p := ⟨V, 5, none⟩) (.inl rfl) _).setCell (p := ⟨V, 7, none⟩) (.inl rfl) _).setCell (p := ⟨V, 8, none⟩) (.inl rfl) _).setCell (p := ⟨V, 9, none⟩) (.inl rfl) _).setCell (p := ⟨V, 10, none⟩) (.inl rfl) _))⟩
  · have hdd : decide ((g : Int) < hi' - lo) = false := decide_eq_false (by omega)
    have HGB : Hid (wGreat c.ts (g : Int) n k = false) := Lib.hid (by rw [hO.greatB g1 g2 n1 n2 k HKM.out]; exact decide_eq_false hs')
    have HGO : Hid (goP g c P F = (⟨(climb (c.ts.length + 1) c.ts (T c.ts k).up).1, marked c.dn (T c.ts k).lo.toNat (T c.ts k).hi.toNat, c.D.set F R, c.over || (climb (c.ts.length + 1) c.ts (T c.ts k).up).2, c.st + 1, c.id⟩, ⟨P, F, k, false⟩)) := Lib.hid (by unfold goP; rw [HTK.out]; simp only; rw [if_neg hs'])
    have hcv := (hO.cov lo.toNat (by omega)).2 ⟨k, HKM.out, by rw [HT.out]; simp only; omega, by rw [HT.out]; simp only; omega⟩
    have hov : c.over = false := by
      rw [CrI.ov HI.out, decide_eq_false_iff_not]
      intro e; have := HKM.out; rw [e] at this; cases this
    have HCV := Lib.hid hcv
    have HOV := Lib.hid hov
    clear hcv hov hC4 hC4' x0 x1 x2 x3 q0 q1 q2 q3 hO htask
    go_wp2_with fail
    refine (do_go k _ H4.out HDL.out HWR.out hkl HGB.out (HKT.out.w0 k HKM.out) (by rw [HT.out]; exact HTB.out.1) (by rw [HT.out]; have := HTB.out.2.1; simp only; omega) (by rw [HT.out]; exact HTB.out.2.2.1) (by rw [HT.out]; exact HCV.out) HOV.out (by omega) g2 (by omega)).mono ?_
    rintro ed w5 ⟨A5, B5, a5, b5, rfl, H5, hW5⟩
    have hC4' := HC4.out
    have H5' := Lib.hid H5
    have v35 := H5.v3
    have hd5 := H5.hd F hF
    have hf5 := H5.fE
    have lE5 : e0 < w5.heap.size := H5.sl e0 H5.sE
    have HW5 := Lib.hid hW5
    clear H5 hW5 hC4'
    go_wp2_with fail
    have H6 : Hid (GoAt S (w5.setCell ⟨e0, F, none⟩ y.v) V e0 g m ⟨(climb (c.ts.length + 1) c.ts (T c.ts k).up).1, marked c.dn (T c.ts k).lo.toNat (T c.ts k).hi.toNat, c.D.set F R, c.over || (climb (c.ts.length + 1) c.ts (T c.ts k).up).2, c.st, c.id⟩ ev A5 B5 a5 b5 e (fun j => if j = F then y else hs j)) := Lib.hid (H5'.out.setHd F hF y R HY.out.1 HY.out.2.1 (((HY.out.2.2.2 S H.out.sl).ext HC4.out).grew (H.out.grewS HW5.out)))
    have HG6 : Hid (GrewG V e0 w5 (w5.setCell ⟨e0, F, none⟩ y.v)) := Lib.hid (Grew.setCell (p := ⟨e0, F, none⟩) (Grew.refl _ w5) (.inr rfl) _)
    have hx6 := H6.out.hd P hP
    have hn6 := H6.out.hn P hP
    have hr6 := H6.out.hr P hP
    have hc6 := H6.out.hc P hP
    have hv6 := H6.out.v3
    have hf6 := H6.out.fE
    have l6 := H6.out.sl
    have lE6 : e0 < (w5.setCell ⟨e0, F, none⟩ y.v).heap.size := H6.out.sl e0 H6.out.sE
    simp only at hx6 hn6 hr6 hc6
    obtain ⟨x, hx⟩ : ∃ x, (if P = F then y else hs P) = x := ⟨_, rfl⟩
    rw [hx] at hx6 hn6 hr6 hc6
    obtain ⟨xs, hxs⟩ : ∃ xs, (c.D.set F R).getD P [] = xs := ⟨_, rfl⟩
    rw [hxs] at hn6 hr6
    have hfull : x.c = x.n := by
      by_cases e : P = F
      · rw [← hx, if_pos e]; exact HY.out.2.2.1 e.symm
      · rcases HFP.out with h1 | h1
        · exact absurd h1.symm e
        · have h2 : x.n = 0 := by rw [hn6, ← hxs, List.getD_eq_getElem?_getD, List.getElem?_set_ne (Ne.symm e), ← List.getD_eq_getElem?_getD, h1]; rfl
          rw [h2]; exact hc6 h2
    have HXS := Lib.hid hxs
    have HX := Lib.hid (And.intro hn6 (And.intro hfull hr6))
    have HXL : Hid (xs.length ≤ 1000000) := Lib.hid (by
      have h1 := (CrI.fresh HI.out).2.2.2
      have h2 := held_set c.D F R (by rw [H.out.dl]; exact hF)
      have h3 := (held_at (c.D.set F R) P (by rw [List.length_set, H.out.dl]; exact hP)).length_eq
      have h4 := (take_held (P := P) (D := c.D) (F := F) (by rw [H.out.dl]; exact hF) HNE.out).length_eq
      rw [HTK.out] at h4
      simp only [List.length_cons, List.length_append] at h3 h4
      rw [HXS.out] at h3
      omega)
    clear hx hxs hn6 hr6 hc6 hfull hd5 v35 hf5
    generalize hw6 : w5.setCell ⟨e0, F, none⟩ y.v = w6 at *
    clear hw6
    have hHb : ∀ o, w6.frozen? ⟨e0, o, none⟩ = false := hf6
    clear hf6
    have hxv : x.n ≤ x.c := by rw [HX.out.2.1]; exact Nat.le_refl _
    have HXV := Lib.hid hxv
    clear hxv
    go_cut [] (fun wx => AppCut S w6 e0 P xs wx)
    case first =>
      go_region_law (first
        | (refine step_none (by rfl) (.tmp 82) (.tmp 83) (by rfl) (by rfl) x (by rfl) HXV.out (by rfl) ?_))
      all_goals go_wp2_with fail
      all_goals go_meet
      all_goals exact ⟨x, w6.drew, HX.out.1, fun h0 => by rw [HX.out.2.1]; exact h0, (Ext.refl w6).drew, HX.out.2.2.ext (Ext.refl w6).drew, rfl⟩
    case rest =>
    obtain ⟨z, w7, z1, z2, hE7, z3, rfl⟩ := hcut
    have H8 := ((H6.out.ext hE7).setHd P hP z xs z1 z2 z3)
    have H8' := Lib.hid H8
    have hv8 := H8.v5
    have hv9 := And.intro H8.v7 (And.intro H8.v8 (And.intro H8.v9 (And.intro H8.v10 H8.fV)))
    obtain ⟨k7, k8, k9, k10, kf⟩ := hv9
    have HG8 : Hid (GrewG V e0 w (w7.setCell ⟨e0, P, none⟩ z.v)) := Lib.hid ((((((Grew.of HE1.out).ext HC4.out).trans HW5.out).trans HG6.out).ext hE7).setCell (p := ⟨e0, P, none⟩) (.inr rfl) _)
    have lV8 : V < (w7.setCell ⟨e0, P, none⟩ z.v).heap.size := H8.sl V H8.sV
    clear H8 z1 z2 hE7 z3
    generalize hw8 : w7.setCell ⟨e0, P, none⟩ z.v = w8 at *
    clear hw8 hx6 hv6 hHb lE6 l6
    have s1 : (c.st : Int) < 100000 := by omega
    have s2 : (0 : Int) ≤ c.st := by omega
    go_wp2_with fail
    go_ret
    rw [HGO.out]
    have h9 := (H8'.out.setSt (c.st + 1)).setEv ⟨P, F, k, false⟩
    simp only at h9
    rw [← HXS.out, set_getD_same _ P (by rw [List.length_set, H.out.dl]; exact hP)] at h9
    exact ⟨A5, B5, a5, b5, _, rfl, h9, ((((((HG8.out.setCell (p := ⟨V, 5, none⟩) (.inl rfl) _).setCell (p := ⟨V, 7, none⟩) (.inl rfl) _).setCell (p := ⟨V, 8, none⟩) (.inl rfl) _).setCell (p := ⟨V, 9, none⟩) (.inl rfl) _).setCell (p := ⟨V, 10, none⟩) (.inl rfl) _))⟩
end Go.Proofs.YtkpbanfpnilifaaGreat

/- The program's copy of a crew: memory of its own. -/
namespace Go.Proofs.YtkpbanfpnilifaaGreat
open Go.BigFrame
open Go.RowKit Go.Proofs.YtkpbanfpnilifaaGreat.Plain

theorem Ow.off {α : Type} {K : Kd α} {S : Nat → Prop} {B n c : Nat} {w : World} {A : Option Addr} {xs : List α} (h : Ow K B w (.slice A n c) xs) (hS : ∀ x, S x → x < B ∨ w.heap.size ≤ x) : RdO K S w (.slice A n c) xs :=
  h.rd.off fun a ha hs => by
    subst ha
    have := h.lt a.block rfl
    have := hS _ hs
    omega
/-- while deques are cloned, one after the other -/
structure CopyAt (S : Nat → Prop) (w1 : World) (e0 m k : Nat) (D : List (List Nat)) (hs : Nat → Hd) (wr : World) : Prop where
  done : ∀ j, j < k → wr.cell? ⟨e0, j, none⟩ = some (hs j).v ∧ (hs j).n = (D.getD j []).length ∧ ((hs j).n = 0 → (hs j).c = 0) ∧ RdO kInt S wr (hs j).v (zs (D.getD j []))
  rest : ∀ j, k ≤ j → j < m → wr.cell? ⟨e0, j, none⟩ = some (.slice none 0 0)
  frz : ∀ o, wr.frozen? ⟨e0, o, none⟩ = false
  grew : Grew (fun b => b = e0) w1 wr
theorem CopyAt.next {S : Nat → Prop} {w1 wr w2 : World} {e0 m k : Nat} {D : List (List Nat)} {hs : Nat → Hd} (h : CopyAt S w1 e0 m k D hs wr) (sE : S e0) (lE : e0 < wr.heap.size) (hE : Ext wr w2) (x : Hd) (hn : x.n = (D.getD k []).length) (hc : x.n = 0 → x.c = 0) (hr : RdO kInt S w2 x.v (zs (D.getD k []))) (hk : k < m) :
    CopyAt S w1 e0 m (k + 1) D (fun j => if j = k then x else hs j) (w2.setCell ⟨e0, k, none⟩ x.v) := by
  have hold : w2.cell? ⟨e0, k, none⟩ = some (.slice none 0 0) := hE.cell (h.rest k (Nat.le_refl _) hk)
  have hfz : w2.frozen? ⟨e0, k, none⟩ = false := (Below.frozen hE (p := ⟨e0, k, none⟩) lE).trans (h.frz k)
  refine ⟨fun j hj => ?_, fun j hj hjm => ?_, fun o => ?_, (h.grew.ext hE).setCell rfl _⟩
  · by_cases e : j = k
    · subst e
      rw [if_pos rfl]
      exact ⟨by go_simp, hn, hc, hr.setCell sE _⟩
    · rw [if_neg e]
      obtain ⟨h1, h2, h3, h4⟩ := h.done j (by omega)
      refine ⟨?_, h2, h3, (h4.ext hE).setCell sE _⟩
      rw [World.cell?_setCell_other _ _ _ _ (fun e' => e (by cases e'; rfl))]
      exact hE.cell h1
  · rw [World.cell?_setCell_other _ _ _ _ (fun e' => by cases e'; omega)]
    exact hE.cell (h.rest j (by omega) hjm)
  · rw [World.frozen?_setCell]
    exact (Below.frozen hE (p := ⟨e0, o, none⟩) lE).trans (h.frz o)

set_option maxHeartbeats 1600000 in
set_option maxRecDepth 100000 in
theorem ccopy_any (A B : Option Addr) (eb eo a b e g m : Nat) (c : Cw) (w : World) (h : CrewAt w m c A B eb eo a b) (me : m ≤ e) (m1 : 1 ≤ m) (m2 : m ≤ 8) (lt : c.ts.length ≤ 1000000) (ln : c.dn.length ≤ 1000000) (lh : ∀ j, (c.D.getD j []).length ≤ 1000000) :
    Calls Tryz.prog 85 #[crewV A B eb eo a b e g m c] w fun ed w' => ∃ (A' B' : Option Addr) (e0 a' b' : Nat) (hs : Nat → Hd), ed = .returned (crewV A' B' e0 0 a' b' m g m c) ∧
      w.heap.size ≤ e0 ∧ e0 < w'.heap.size ∧ (∀ o, w'.frozen? ⟨e0, o, none⟩ = false) ∧
      RdO kTask (fun x => x < w.heap.size + 2 ∨ x = e0) w' (.slice A' c.ts.length a') c.ts ∧ RdO kBool (fun x => x < w.heap.size + 2 ∨ x = e0) w' (.slice B' c.dn.length b') c.dn ∧
      (∀ j, j < m → w'.cell? ⟨e0, j, none⟩ = some (hs j).v ∧ (hs j).n = (c.D.getD j []).length ∧ ((hs j).n = 0 → (hs j).c = 0) ∧ RdO kInt (fun x => x < w.heap.size + 2 ∨ x = e0) w' (hs j).v (zs (c.D.getD j []))) ∧ Ext w w' := by
  have HH := Lib.hid h
  have HLH := Lib.hid lh
  obtain ⟨hs0, hds⟩ := h.deq
  have HDS := Lib.hid hds
  have HDL : Hid (c.D.length = m) := Lib.hid hds.1
  have m3 : (m : Int) ≤ 8 := by omega
  have m4 : (1 : Int) ≤ m := by omega
  have m5 : (m : Int) ≤ e := by omega
  obtain ⟨C, hmk, hmown⟩ := kRow.make hd0 rfl trivial m (by omega)
  have HMK := Lib.hid hmown
  have hmk2 : ∀ w : World, (Instr.makeSlice 79 (.int .i64 m) (.int .i64 m)).run Tryz.prog w = .ok (.slice (some ⟨w.heap.size, 0, none⟩) m m) (w.alloc (.cells C 29)) := hmk
  clear hmk h hds hmown lh
  go_enter Tryz.func85, Tryz.ntmps85
  go_wp2_with fail
  refine (clone_t _ c.ts _ (HH.out.tsk.rd.ext (((Ext.refl _).alloc _).alloc _)) (by omega)).mono ?_
  rintro ed w1 ⟨A1, a1, rfl, hT1, hE1⟩
  have v0 : w1.cell? ⟨w.heap.size, 0, none⟩ = some (.slice A c.ts.length a) := Ext.cell hE1 (by go_simp)
  have v1 : w1.cell? ⟨w.heap.size, 1, none⟩ = some (.int .i64 g) := Ext.cell hE1 (by go_simp)
  have v2 : w1.cell? ⟨w.heap.size, 2, none⟩ = some (.slice B c.dn.length b) := Ext.cell hE1 (by go_simp)
  have v3 : w1.cell? ⟨w.heap.size, 3, none⟩ = some (.slice (some ⟨eb, eo, none⟩) m e) := Ext.cell hE1 (by go_simp)
  have v4 : w1.cell? ⟨w.heap.size, 4, none⟩ = some (.bool c.over) := Ext.cell hE1 (by go_simp)
  have v5 : w1.cell? ⟨w.heap.size, 5, none⟩ = some (.int .i64 c.st) := Ext.cell hE1 (by go_simp)
  have v6 : w1.cell? ⟨w.heap.size, 6, none⟩ = some (.int .i64 c.id) := Ext.cell hE1 (by go_simp)
  have vf : ∀ o, w1.frozen? ⟨w.heap.size, o, none⟩ = false := fun o => (Below.frozen hE1 (p := ⟨w.heap.size, o, none⟩) (by first | omega | (simp; omega) | simp)).trans (by go_simp)
  have r0 : w1.cell? ⟨w.heap.size + 1, 0, none⟩ = some (.slice none 0 0) := Ext.cell hE1 (by go_simp)
  have r1 : w1.cell? ⟨w.heap.size + 1, 1, none⟩ = some (.int .i64 0) := Ext.cell hE1 (by go_simp)
  have r2 : w1.cell? ⟨w.heap.size + 1, 2, none⟩ = some (.slice none 0 0) := Ext.cell hE1 (by go_simp)
  have r3 : w1.cell? ⟨w.heap.size + 1, 3, none⟩ = some (.slice none 0 0) := Ext.cell hE1 (by go_simp)
  have r4 : w1.cell? ⟨w.heap.size + 1, 4, none⟩ = some (.bool false) := Ext.cell hE1 (by go_simp)
  have r5 : w1.cell? ⟨w.heap.size + 1, 5, none⟩ = some (.int .i64 0) := Ext.cell hE1 (by go_simp)
  have r6 : w1.cell? ⟨w.heap.size + 1, 6, none⟩ = some (.int .i64 0) := Ext.cell hE1 (by go_simp)
  have rf : ∀ o, w1.frozen? ⟨w.heap.size + 1, o, none⟩ = false := fun o => (Below.frozen hE1 (p := ⟨w.heap.size + 1, o, none⟩) (by first | omega | (simp; omega) | simp)).trans (by go_simp)
  have hz1 := hE1.size
  simp at hz1
  have l1 : w.heap.size < w1.heap.size := by omega
  have l1' : w.heap.size + 1 < w1.heap.size := by omega
  have HT1 := Lib.hid hT1
  have HX1 := Lib.hid (((((Ext.refl w).alloc _).alloc _).trans hE1).setCell (p := ⟨w.heap.size, 0, none⟩) (Nat.le_refl _) (.slice A1 c.ts.length a1))
  clear hE1 hT1
  go_wp2_with fail
  refine (clone_b _ c.dn _ (HH.out.dns.rd.ext HX1.out) (by omega)).mono ?_
  rintro ed w2 ⟨B1, b1, rfl, hD1, hE2⟩
  have y0 : w2.cell? ⟨w.heap.size, 0, none⟩ = some (.slice A1 c.ts.length a1) := Ext.cell hE2 (by go_simp)
  have y1 : w2.cell? ⟨w.heap.size, 1, none⟩ = some (.int .i64 g) := Ext.cell hE2 (by go_simp)
  have y2 : w2.cell? ⟨w.heap.size, 2, none⟩ = some (.slice B c.dn.length b) := Ext.cell hE2 (by go_simp)
  have y3 : w2.cell? ⟨w.heap.size, 3, none⟩ = some (.slice (some ⟨eb, eo, none⟩) m e) := Ext.cell hE2 (by go_simp)
  have y4 : w2.cell? ⟨w.heap.size, 4, none⟩ = some (.bool c.over) := Ext.cell hE2 (by go_simp)
  have y5 : w2.cell? ⟨w.heap.size, 5, none⟩ = some (.int .i64 c.st) := Ext.cell hE2 (by go_simp)
  have y6 : w2.cell? ⟨w.heap.size, 6, none⟩ = some (.int .i64 c.id) := Ext.cell hE2 (by go_simp)
  have yf : ∀ o, w2.frozen? ⟨w.heap.size, o, none⟩ = false := fun o => (Below.frozen hE2 (p := ⟨w.heap.size, o, none⟩) (by first | omega | (simp; omega) | simp)).trans (by go_simp)
  have s0 : w2.cell? ⟨w.heap.size + 1, 0, none⟩ = some (.slice none 0 0) := Ext.cell hE2 (by go_simp)
  have s1 : w2.cell? ⟨w.heap.size + 1, 1, none⟩ = some (.int .i64 0) := Ext.cell hE2 (by go_simp)
  have s2 : w2.cell? ⟨w.heap.size + 1, 2, none⟩ = some (.slice none 0 0) := Ext.cell hE2 (by go_simp)
  have s3 : w2.cell? ⟨w.heap.size + 1, 3, none⟩ = some (.slice none 0 0) := Ext.cell hE2 (by go_simp)
  have s4 : w2.cell? ⟨w.heap.size + 1, 4, none⟩ = some (.bool false) := Ext.cell hE2 (by go_simp)
  have s5 : w2.cell? ⟨w.heap.size + 1, 5, none⟩ = some (.int .i64 0) := Ext.cell hE2 (by go_simp)
  have s6 : w2.cell? ⟨w.heap.size + 1, 6, none⟩ = some (.int .i64 0) := Ext.cell hE2 (by go_simp)
  have sf : ∀ o, w2.frozen? ⟨w.heap.size + 1, o, none⟩ = false := fun o => (Below.frozen hE2 (p := ⟨w.heap.size + 1, o, none⟩) (by first | omega | (simp; omega) | simp)).trans (by go_simp)
  have hz2 := hE2.size
  simp at hz2
  have l2 : w.heap.size < w2.heap.size := by omega
  have l2' : w.heap.size + 1 < w2.heap.size := by omega
  have HD1 := Lib.hid hD1
  have HT2 := Lib.hid ((HT1.out.setBelow (p := ⟨w.heap.size, 0, none⟩) (by simp; omega) (.slice A1 c.ts.length a1)).ext hE2)
  have HX2 := Lib.hid ((HX1.out.trans hE2).setCell (p := ⟨w.heap.size, 2, none⟩) (Nat.le_refl _) (.slice B1 c.dn.length b1))
  clear hE2 hD1 v0 v1 v2 v3 v4 v5 v6 vf r0 r1 r2 r3 r4 r5 r6 rf
  go_wp2_with fail
  obtain ⟨e0, he0⟩ : ∃ e0, w2.heap.size = e0 := ⟨_, rfl⟩
  have HT3 : Hid (RdO kTask (fun x => x < w.heap.size + 2 ∨ x = e0) ((w2.setCell ⟨w.heap.size, 2, none⟩ (.slice B1 c.dn.length b1)).alloc (.cells C 29)) (.slice A1 c.ts.length a1) c.ts) := Lib.hid (by
    refine RdO.ext (Ow.off (HT2.out.setBelow (p := ⟨w.heap.size, 2, none⟩) (by simp; omega) (.slice B1 c.dn.length b1)) (fun x hx => ?_)) ((Ext.refl _).alloc _)
    rcases hx with hx | hx
    · left; simp; omega
    · right; subst hx; rw [← he0, World.size_setCell]; exact Nat.le_refl _)
  have HD3 : Hid (RdO kBool (fun x => x < w.heap.size + 2 ∨ x = e0) ((w2.setCell ⟨w.heap.size, 2, none⟩ (.slice B1 c.dn.length b1)).alloc (.cells C 29)) (.slice B1 c.dn.length b1) c.dn) := Lib.hid (by
    refine RdO.ext (Ow.off (HD1.out.setBelow (p := ⟨w.heap.size, 2, none⟩) (by simp; omega) (.slice B1 c.dn.length b1)) (fun x hx => ?_)) ((Ext.refl _).alloc _)
    rcases hx with hx | hx
    · left; simp; omega
    · right; subst hx; rw [← he0, World.size_setCell]; exact Nat.le_refl _)
  have HX3 : Hid (Ext w ((w2.setCell ⟨w.heap.size, 2, none⟩ (.slice B1 c.dn.length b1)).alloc (.cells C 29))) := Lib.hid (HX2.out.alloc _)
  have HC3 : Hid (CopyAt (fun x => x < w.heap.size + 2 ∨ x = e0) ((w2.setCell ⟨w.heap.size, 2, none⟩ (.slice B1 c.dn.length b1)).alloc (.cells C 29)) e0 m 0 c.D (fun _ => hd0) ((w2.setCell ⟨w.heap.size, 2, none⟩ (.slice B1 c.dn.length b1)).alloc (.cells C 29))) := Lib.hid (by
    have hm := HMK.out (w2.setCell ⟨w.heap.size, 2, none⟩ (.slice B1 c.dn.length b1)) e0 e0 (by rw [World.size_setCell]; exact he0.symm) (Nat.le_refl _)
    obtain ⟨g', eg, _, _, h3, h4⟩ := Ow.pos hm (by rw [List.length_replicate]; exact m1)
    cases eg
    refine ⟨fun j hj => absurd hj (Nat.not_lt_zero _), fun j _ hj => ?_, h4, Grew.refl _ _⟩
    have := h3 j (by rw [List.length_replicate]; exact hj) 0 (.slice none 0 0) (by rw [List.getD_eq_getElem?_getD, List.getElem?_replicate, if_pos hj]; rfl)
    rw [show j = j * kRow.n + 0 from by show j = j * 1 + 0; omega]
    exact this)
  have le0 : w.heap.size + 1 < e0 := by omega
  have le00 : w.heap.size < e0 := by omega
  have HZ3 : Hid (e0 < ((w2.setCell ⟨w.heap.size, 2, none⟩ (.slice B1 c.dn.length b1)).alloc (.cells C 29)).heap.size) := Lib.hid (by simp; omega)
  have hEr : Ext ((w2.setCell ⟨w.heap.size, 2, none⟩ (.slice B1 c.dn.length b1)).alloc (.cells C 29)) ((w2.setCell ⟨w.heap.size, 2, none⟩ (.slice B1 c.dn.length b1)).alloc (.cells C 29)) := Ext.refl _
  rw [he0]
  have l3 : w.heap.size + 1 < ((w2.setCell ⟨w.heap.size, 2, none⟩ (.slice B1 c.dn.length b1)).alloc (.cells C 29)).heap.size := by simp; omega
  have q0 : ((w2.setCell ⟨w.heap.size, 2, none⟩ (.slice B1 c.dn.length b1)).alloc (.cells C 29)).cell? ⟨w.heap.size, 0, none⟩ = some (.slice A1 c.ts.length a1) := Ext.cell hEr (by go_simp)
  have q1 : ((w2.setCell ⟨w.heap.size, 2, none⟩ (.slice B1 c.dn.length b1)).alloc (.cells C 29)).cell? ⟨w.heap.size, 1, none⟩ = some (.int .i64 g) := Ext.cell hEr (by go_simp)
  have q2 : ((w2.setCell ⟨w.heap.size, 2, none⟩ (.slice B1 c.dn.length b1)).alloc (.cells C 29)).cell? ⟨w.heap.size, 2, none⟩ = some (.slice B1 c.dn.length b1) := Ext.cell hEr (by go_simp)
  have q3 : ((w2.setCell ⟨w.heap.size, 2, none⟩ (.slice B1 c.dn.length b1)).alloc (.cells C 29)).cell? ⟨w.heap.size, 3, none⟩ = some (.slice (some ⟨eb, eo, none⟩) m e) := Ext.cell hEr (by go_simp)
  have q4 : ((w2.setCell ⟨w.heap.size, 2, none⟩ (.slice B1 c.dn.length b1)).alloc (.cells C 29)).cell? ⟨w.heap.size, 4, none⟩ = some (.bool c.over) := Ext.cell hEr (by go_simp)
  have q5 : ((w2.setCell ⟨w.heap.size, 2, none⟩ (.slice B1 c.dn.length b1)).alloc (.cells C 29)).cell? ⟨w.heap.size, 5, none⟩ = some (.int .i64 c.st) := Ext.cell hEr (by go_simp)
  have q6 : ((w2.setCell ⟨w.heap.size, 2, none⟩ (.slice B1 c.dn.length b1)).alloc (.cells C 29)).cell? ⟨w.heap.size, 6, none⟩ = some (.int .i64 c.id) := Ext.cell hEr (by go_simp)
  have qf : ∀ o, ((w2.setCell ⟨w.heap.size, 2, none⟩ (.slice B1 c.dn.length b1)).alloc (.cells C 29)).frozen? ⟨w.heap.size, o, none⟩ = false := fun o => (Below.frozen hEr (p := ⟨w.heap.size, o, none⟩) (by first | omega | (simp; omega) | simp)).trans (by go_simp)
  have x0 : ((w2.setCell ⟨w.heap.size, 2, none⟩ (.slice B1 c.dn.length b1)).alloc (.cells C 29)).cell? ⟨w.heap.size + 1, 0, none⟩ = some (.slice none 0 0) := Ext.cell hEr (by go_simp)
  have x1 : ((w2.setCell ⟨w.heap.size, 2, none⟩ (.slice B1 c.dn.length b1)).alloc (.cells C 29)).cell? ⟨w.heap.size + 1, 1, none⟩ = some (.int .i64 0) := Ext.cell hEr (by go_simp)
  have x2 : ((w2.setCell ⟨w.heap.size, 2, none⟩ (.slice B1 c.dn.length b1)).alloc (.cells C 29)).cell? ⟨w.heap.size + 1, 2, none⟩ = some (.slice none 0 0) := Ext.cell hEr (by go_simp)
  have x3 : ((w2.setCell ⟨w.heap.size, 2, none⟩ (.slice B1 c.dn.length b1)).alloc (.cells C 29)).cell? ⟨w.heap.size + 1, 3, none⟩ = some (.slice none 0 0) := Ext.cell hEr (by go_simp)
  have x4 : ((w2.setCell ⟨w.heap.size, 2, none⟩ (.slice B1 c.dn.length b1)).alloc (.cells C 29)).cell? ⟨w.heap.size + 1, 4, none⟩ = some (.bool false) := Ext.cell hEr (by go_simp)
  have x5 : ((w2.setCell ⟨w.heap.size, 2, none⟩ (.slice B1 c.dn.length b1)).alloc (.cells C 29)).cell? ⟨w.heap.size + 1, 5, none⟩ = some (.int .i64 0) := Ext.cell hEr (by go_simp)
  have x6 : ((w2.setCell ⟨w.heap.size, 2, none⟩ (.slice B1 c.dn.length b1)).alloc (.cells C 29)).cell? ⟨w.heap.size + 1, 6, none⟩ = some (.int .i64 0) := Ext.cell hEr (by go_simp)
  have xf : ∀ o, ((w2.setCell ⟨w.heap.size, 2, none⟩ (.slice B1 c.dn.length b1)).alloc (.cells C 29)).frozen? ⟨w.heap.size + 1, o, none⟩ = false := fun o => (Below.frozen hEr (p := ⟨w.heap.size + 1, o, none⟩) (by first | omega | (simp; omega) | simp)).trans (by go_simp)
  clear hEr y0 y1 y2 y3 y4 y5 y6 yf s0 s1 s2 s3 s4 s5 s6 sf HT2 HD1 HX2 HT1 HX1 HMK hz1 hz2 l1 l1' l2 l2'
  generalize hw3 : (w2.setCell ⟨w.heap.size, 2, none⟩ (.slice B1 c.dn.length b1)).alloc (.cells C 29) = w3 at *
  clear hw3 he0 hmk2
  go_loopw [25] (fun i wr => ∃ (k : Nat) (hs : Nat → Hd), k ≤ m ∧ i = .int .i64 k ∧ CopyAt (fun x => x < w.heap.size + 2 ∨ x = e0) w3 e0 m k c.D hs wr) (fun i _ => m - (intOf i).toNat)
  case atStart => exact ⟨0, _, Nat.zero_le _, rfl, HC3.out⟩
  case round =>
    obtain ⟨k, hs, hk, rfl, hC⟩ := hrel
    have HC := Lib.hid hC
    have hk0 : (0 : Int) ≤ k := by omega
    have hG := hC.grew
    have hzr := hG.size
    have z3 := HZ3.out
    have ler : e0 < wr.heap.size := by omega
    by_cases hlt : k < m
    · have hlt' : (k : Int) < m := by omega
      obtain ⟨z0, zn, zr⟩ := HDS.out.2 k hlt
      have hXr := hG.toExt HX3.out (fun b hb => by rw [hb]; omega)
      have z := hXr.cell z0
      obtain ⟨xs, hxs⟩ : ∃ xs, c.D.getD k [] = xs := ⟨_, rfl⟩
      rw [hxs] at zn zr
      have HXS := Lib.hid hxs
      have HZR : Hid (Rd kInt wr (hs0 k).v (zs xs)) := Lib.hid (zr.rd.ext hXr)
      have HZN := Lib.hid zn
      have HXL : Hid (xs.length ≤ 1000000) := Lib.hid (by rw [← hxs]; exact HLH.out k)
      have hrest := hC.rest k (Nat.le_refl _) hlt
      clear hC hG zn zr hXr z0 hxs
      go_wp2_with fail
      refine (clone_dq (hs0 k) xs _ HZR.out HZN.out HXL.out).mono ?_
      rintro ed w4 ⟨x, rfl, hxn, hxc, hxr, hE4⟩
      have HN4 : Hid (CopyAt (fun x => x < w.heap.size + 2 ∨ x = e0) w3 e0 m (k + 1) c.D (fun j => if j = k then x else hs j) (w4.setCell ⟨e0, k, none⟩ x.v)) := Lib.hid (HC.out.next (.inr rfl) ler hE4 x (by rw [HXS.out]; exact hxn) hxc (by rw [HXS.out]; exact hxr _ (fun y hy => by rcases hy with hy | hy <;> omega)) hlt)
      have hr4 := hE4.cell hrest
      have hf4 := fun o => (Below.frozen hE4 (p := ⟨e0, o, none⟩) ler).trans (HC.out.frz o)
      have hz4 := hE4.size
      have ler4 : e0 < w4.heap.size := by omega
      clear hxn hxc hxr hE4 hrest
      go_wp2_with fail
      go_roundw
      case rel => exact ⟨k + 1, _, by omega, by go_num, HN4.out⟩
      case measure => simp [intOf]; omega
    · obtain rfl : k = m := by omega
      have p0 := hG.cell q0 (by omega)
      have p1 := hG.cell q1 (by omega)
      have p2 := hG.cell q2 (by omega)
      have p3 := hG.cell q3 (by omega)
      have p4 := hG.cell q4 (by omega)
      have p5 := hG.cell q5 (by omega)
      have p6 := hG.cell q6 (by omega)
      have pf := fun o => (hG.frozen (b := w.heap.size) (by omega) (by omega) o).trans (qf o)
      have zz0 := hG.cell x0 (by omega)
      have zz1 := hG.cell x1 (by omega)
      have zz2 := hG.cell x2 (by omega)
      have zz3 := hG.cell x3 (by omega)
      have zz4 := hG.cell x4 (by omega)
      have zz5 := hG.cell x5 (by omega)
      have zz6 := hG.cell x6 (by omega)
      have zzf := fun o => (hG.frozen (b := w.heap.size + 1) (by omega) (by omega) o).trans (xf o)
      have lv0 : w.heap.size < wr.heap.size := by omega
      have lv1 : w.heap.size + 1 < wr.heap.size := by omega
      have HXR : Hid (Ext w wr) := Lib.hid (hG.toExt HX3.out (fun b hb => by rw [hb]; omega))
      have HTR := Lib.hid (HT3.out.grew (hG.mono (T := fun x => x < w.heap.size + 2 ∨ x = e0) (fun b _ hb => .inr hb)))
      have HDR := Lib.hid (HD3.out.grew (hG.mono (T := fun x => x < w.heap.size + 2 ∨ x = e0) (fun b _ hb => .inr hb)))
      clear q0 q1 q2 q3 q4 q5 q6 qf x0 x1 x2 x3 x4 x5 x6 xf hG hC l3 z3 hzr
      go_upto_region 10 with fail
      have hEs : Ext (wr.setCell ⟨w.heap.size, 3, none⟩ (.slice (some ⟨e0, 0, none⟩) k k)) (wr.setCell ⟨w.heap.size, 3, none⟩ (.slice (some ⟨e0, 0, none⟩) k k)) := Ext.refl _
      have mm0 : (wr.setCell ⟨w.heap.size, 3, none⟩ (.slice (some ⟨e0, 0, none⟩) k k)).cell? ⟨w.heap.size, 0, none⟩ = some (.slice A1 c.ts.length a1) := Ext.cell hEs (by go_simp)
      have mm1 : (wr.setCell ⟨w.heap.size, 3, none⟩ (.slice (some ⟨e0, 0, none⟩) k k)).cell? ⟨w.heap.size, 1, none⟩ = some (.int .i64 g) := Ext.cell hEs (by go_simp)
      have mm2 : (wr.setCell ⟨w.heap.size, 3, none⟩ (.slice (some ⟨e0, 0, none⟩) k k)).cell? ⟨w.heap.size, 2, none⟩ = some (.slice B1 c.dn.length b1) := Ext.cell hEs (by go_simp)
      have mm3 : (wr.setCell ⟨w.heap.size, 3, none⟩ (.slice (some ⟨e0, 0, none⟩) k k)).cell? ⟨w.heap.size, 3, none⟩ = some (.slice (some ⟨e0, 0, none⟩) k k) := Ext.cell hEs (by go_simp)
      have mm4 : (wr.setCell ⟨w.heap.size, 3, none⟩ (.slice (some ⟨e0, 0, none⟩) k k)).cell? ⟨w.heap.size, 4, none⟩ = some (.bool c.over) := Ext.cell hEs (by go_simp)
      have mm5 : (wr.setCell ⟨w.heap.size, 3, none⟩ (.slice (some ⟨e0, 0, none⟩) k k)).cell? ⟨w.heap.size, 5, none⟩ = some (.int .i64 c.st) := Ext.cell hEs (by go_simp)
      have mm6 : (wr.setCell ⟨w.heap.size, 3, none⟩ (.slice (some ⟨e0, 0, none⟩) k k)).cell? ⟨w.heap.size, 6, none⟩ = some (.int .i64 c.id) := Ext.cell hEs (by go_simp)
      have mmf : ∀ o, (wr.setCell ⟨w.heap.size, 3, none⟩ (.slice (some ⟨e0, 0, none⟩) k k)).frozen? ⟨w.heap.size, o, none⟩ = false := fun o => (Below.frozen hEs (p := ⟨w.heap.size, o, none⟩) (by first | omega | (simp; omega) | simp)).trans (by go_simp)
      have nn0 : (wr.setCell ⟨w.heap.size, 3, none⟩ (.slice (some ⟨e0, 0, none⟩) k k)).cell? ⟨w.heap.size + 1, 0, none⟩ = some (.slice none 0 0) := Ext.cell hEs (by go_simp)
      have nn1 : (wr.setCell ⟨w.heap.size, 3, none⟩ (.slice (some ⟨e0, 0, none⟩) k k)).cell? ⟨w.heap.size + 1, 1, none⟩ = some (.int .i64 0) := Ext.cell hEs (by go_simp)
      have nn2 : (wr.setCell ⟨w.heap.size, 3, none⟩ (.slice (some ⟨e0, 0, none⟩) k k)).cell? ⟨w.heap.size + 1, 2, none⟩ = some (.slice none 0 0) := Ext.cell hEs (by go_simp)
      have nn3 : (wr.setCell ⟨w.heap.size, 3, none⟩ (.slice (some ⟨e0, 0, none⟩) k k)).cell? ⟨w.heap.size + 1, 3, none⟩ = some (.slice none 0 0) := Ext.cell hEs (by go_simp)
      have nn4 : (wr.setCell ⟨w.heap.size, 3, none⟩ (.slice (some ⟨e0, 0, none⟩) k k)).cell? ⟨w.heap.size + 1, 4, none⟩ = some (.bool false) := Ext.cell hEs (by go_simp)
      have nn5 : (wr.setCell ⟨w.heap.size, 3, none⟩ (.slice (some ⟨e0, 0, none⟩) k k)).cell? ⟨w.heap.size + 1, 5, none⟩ = some (.int .i64 0) := Ext.cell hEs (by go_simp)
      have nn6 : (wr.setCell ⟨w.heap.size, 3, none⟩ (.slice (some ⟨e0, 0, none⟩) k k)).cell? ⟨w.heap.size + 1, 6, none⟩ = some (.int .i64 0) := Ext.cell hEs (by go_simp)
      have nnf : ∀ o, (wr.setCell ⟨w.heap.size, 3, none⟩ (.slice (some ⟨e0, 0, none⟩) k k)).frozen? ⟨w.heap.size + 1, o, none⟩ = false := fun o => (Below.frozen hEs (p := ⟨w.heap.size + 1, o, none⟩) (by first | omega | (simp; omega) | simp)).trans (by go_simp)
      have HGW : Hid (Grew (fun x => x = w.heap.size) wr (wr.setCell ⟨w.heap.size, 3, none⟩ (.slice (some ⟨e0, 0, none⟩) k k))) := Lib.hid (Grew.setCell (S := fun x => x = w.heap.size) (p := ⟨w.heap.size, 3, none⟩) (Grew.refl _ _) rfl _)
      have HG7 : Hid (Grew (fun x => x < w.heap.size + 2 ∨ x = e0) wr (wr.setCell ⟨w.heap.size, 3, none⟩ (.slice (some ⟨e0, 0, none⟩) k k))) := Lib.hid (HGW.out.mono (fun x _ hx => .inl (by rw [hx]; omega)))
      have HXS : Hid (Ext w (wr.setCell ⟨w.heap.size, 3, none⟩ (.slice (some ⟨e0, 0, none⟩) k k))) := Lib.hid (HXR.out.setCell (p := ⟨w.heap.size, 3, none⟩) (Nat.le_refl _) _)
      have lv5 : w.heap.size + 1 < ((wr.setCell ⟨w.heap.size, 3, none⟩ (.slice (some ⟨e0, 0, none⟩) k k))).heap.size := by simp; omega
      have lv7 : e0 < ((wr.setCell ⟨w.heap.size, 3, none⟩ (.slice (some ⟨e0, 0, none⟩) k k))).heap.size := by simp; omega
      have lv6 : w.heap.size < ((wr.setCell ⟨w.heap.size, 3, none⟩ (.slice (some ⟨e0, 0, none⟩) k k))).heap.size := by simp; omega
      generalize hw5 : (wr.setCell ⟨w.heap.size, 3, none⟩ (.slice (some ⟨e0, 0, none⟩) k k)) = w5 at *
      clear hw5 hEs p0 p1 p2 p3 p4 p5 p6 pf zz0 zz1 zz2 zz3 zz4 zz5 zz6 zzf
      go_wp2_with fail
      refine bodyPost_ret (v := .agg #[.slice A1 c.ts.length a1, .int .i64 g, .slice B1 c.dn.length b1, .slice (some ⟨e0, 0, none⟩) k k, .bool c.over, .int .i64 c.st, .int .i64 c.id]) (by simp [results, Tryz.results85, go_sem]; go_simp) rfl ⟨A1, B1, e0, a1, b1, hs, rfl, ?_, ?_, ?_, ?_, ?_, ?_, ?_⟩
      · omega
      · simp; omega
      · exact fun o => by rw [World.frozen?_setCell, World.frozen?_setCell, World.frozen?_setCell, World.frozen?_setCell, World.frozen?_setCell, World.frozen?_setCell, World.frozen?_setCell]; exact (HGW.out.frozen ler (by omega) o).trans (HC.out.frz o)
      · exact HTR.out.grew (((((((HG7.out.setCell (p := ⟨w.heap.size + 1, 0, none⟩) (.inl (by simp)) _).setCell (p := ⟨w.heap.size + 1, 1, none⟩) (.inl (by simp)) _).setCell (p := ⟨w.heap.size + 1, 2, none⟩) (.inl (by simp)) _).setCell (p := ⟨w.heap.size + 1, 3, none⟩) (.inl (by simp)) _).setCell (p := ⟨w.heap.size + 1, 4, none⟩) (.inl (by simp)) _).setCell (p := ⟨w.heap.size + 1, 5, none⟩) (.inl (by simp)) _).setCell (p := ⟨w.heap.size + 1, 6, none⟩) (.inl (by simp)) _)
      · exact HDR.out.grew (((((((HG7.out.setCell (p := ⟨w.heap.size + 1, 0, none⟩) (.inl (by simp)) _).setCell (p := ⟨w.heap.size + 1, 1, none⟩) (.inl (by simp)) _).setCell (p := ⟨w.heap.size + 1, 2, none⟩) (.inl (by simp)) _).setCell (p := ⟨w.heap.size + 1, 3, none⟩) (.inl (by simp)) _).setCell (p := ⟨w.heap.size + 1, 4, none⟩) (.inl (by simp)) _).setCell (p := ⟨w.heap.size + 1, 5, none⟩) (.inl (by simp)) _).setCell (p := ⟨w.heap.size + 1, 6, none⟩) (.inl (by simp)) _)
      · intro j hj
        obtain ⟨h1, h2, h3, h4⟩ := HC.out.done j hj
        have hG7 := (((((((HG7.out.setCell (p := ⟨w.heap.size + 1, 0, none⟩) (.inl (by simp)) (.slice A1 c.ts.length a1)).setCell (p := ⟨w.heap.size + 1, 1, none⟩) (.inl (by simp)) (.int .i64 g)).setCell (p := ⟨w.heap.size + 1, 2, none⟩) (.inl (by simp)) (.slice B1 c.dn.length b1)).setCell (p := ⟨w.heap.size + 1, 3, none⟩) (.inl (by simp)) (.slice (some ⟨e0, 0, none⟩) k k)).setCell (p := ⟨w.heap.size + 1, 4, none⟩) (.inl (by simp)) (.bool c.over)).setCell (p := ⟨w.heap.size + 1, 5, none⟩) (.inl (by simp)) (.int .i64 c.st)).setCell (p := ⟨w.heap.size + 1, 6, none⟩) (.inl (by simp)) (.int .i64 c.id))
        refine ⟨?_, h2, h3, h4.grew hG7⟩
        exact Grew.cell (S := fun x => x = w.heap.size ∨ x = w.heap.size + 1) ((((((((HGW.out.mono (T := fun x => x = w.heap.size ∨ x = w.heap.size + 1) (fun _ _ hx => .inl hx)).setCell (p := ⟨w.heap.size + 1, 0, none⟩) (.inr rfl) _).setCell (p := ⟨w.heap.size + 1, 1, none⟩) (.inr rfl) _).setCell (p := ⟨w.heap.size + 1, 2, none⟩) (.inr rfl) _).setCell (p := ⟨w.heap.size + 1, 3, none⟩) (.inr rfl) _).setCell (p := ⟨w.heap.size + 1, 4, none⟩) (.inr rfl) _).setCell (p := ⟨w.heap.size + 1, 5, none⟩) (.inr rfl) _).setCell (p := ⟨w.heap.size + 1, 6, none⟩) (.inr rfl) _) h1 (by omega)
      · exact ((((((HXS.out.setCell (by simp) _).setCell (by simp) _).setCell (by simp) _).setCell (by simp) _).setCell (by simp) _).setCell (by simp) _).setCell (by simp) _
end Go.Proofs.YtkpbanfpnilifaaGreat

/- One that goes steps: a step; the program's Step, Run. -/
namespace Go.Proofs.YtkpbanfpnilifaaGreat
open Go.BigFrame
open Go.RowKit Go.Proofs.YtkpbanfpnilifaaGreat.Plain

theorem srcI_none {D : List (List Nat)} {P Q : Nat} (h : srcN D P Q = none) : srcI D P Q = -1 := by unfold srcI; rw [h]
theorem srcI_some {D : List (List Nat)} {P Q F : Nat} (h : srcN D P Q = some F) : srcI D P Q = F := by unfold srcI; rw [h]
set_option maxHeartbeats 1600000 in
set_option maxRecDepth 100000 in
theorem gstep_any {S : Nat → Prop} {V e0 g n m : Nat} {c : Cw} {ev : Ev} {A B : Option Addr} {a b e : Nat} {hs : Nat → Hd} {done : Nat} {G : List Nat} (p q : Int) (w : World) (h : GoAt S w V e0 g m c ev A B a b e hs) (hI : CwI g n m c done G)
    (n1 : 1 ≤ n) (n2 : n ≤ 900) (g1 : 1 ≤ g) (g2 : g ≤ 100) (m1 : 1 ≤ m) (m2 : m ≤ 8) (hst : c.st < 100000) (hid : c.id < 100000) (hp : in64 p) (hq : in64 q) :
    Calls Tryz.prog 86 #[.pointer (some ⟨V, 0, none⟩), .int .i64 p, .int .i64 q] w (GoSaid S V e0 g m e (stepP g m c p q) w) := by
  have H := Lib.hid h
  have HI := Lib.hid hI
  have hP := cutN_lt m p m1
  have hQ := cutN_lt m q m1
  obtain ⟨P, hPe⟩ : ∃ P, cutN m p = P := ⟨_, rfl⟩
  obtain ⟨Q, hQe⟩ : ∃ Q, cutN m q = Q := ⟨_, rfl⟩
  rw [hPe] at hP
  rw [hQe] at hQ
  have HPE := Lib.hid (And.intro hPe hQe)
  have HPQ := Lib.hid (And.intro hp hq)
  obtain ⟨v0, v1, v2, v3, v4, v5, v6⟩ := And.intro h.v0 (And.intro h.v1 (And.intro h.v2 (And.intro h.v3 (And.intro h.v4 (And.intro h.v5 h.v6)))))
  have s1 : ¬ (c.st : Int) = 100000 := by omega
  have s2 : ¬ (c.id : Int) = 100000 := by omega
  have d1 : ((c.st : Int) == 100000) = false := by rw [beq_eq_false_iff_ne]; exact s1
  have d2 : ((c.id : Int) == 100000) = false := by rw [beq_eq_false_iff_ne]; exact s2
  have lV : V < w.heap.size := h.sl V h.sV
  clear h hI hPe hQe hp hq
  go_enter Tryz.func86, Tryz.ntmps86
  go_wp2_with fail
  refine (cright_yes A B e0 0 a b e g n m c _ _ w H.out.at_ HI.out n1 n2 g1 g2 m1 m2 (by omega) (by omega)).mono ?_
  rintro ed w1 ⟨rfl, hE1⟩
  have H1 := Lib.hid (H.out.ext hE1)
  have x3 := hE1.cell v3
  have x5 := hE1.cell v5
  have x6 := hE1.cell v6
  have HE1 := Lib.hid hE1
  clear hE1 v0 v1 v2 v3 v4 v5 v6
  go_wp2_with fail
  refine (ccut_any p m w1 HPQ.out.1 m1 m2).mono ?_
  rw [HPE.out.1]
  rintro ed w2 ⟨rfl, rfl⟩
  go_wp2_with fail
  refine (ccut_any q m w1 HPQ.out.2 m1 m2).mono ?_
  rw [HPE.out.2]
  rintro ed w2 ⟨rfl, rfl⟩
  go_wp2_with fail
  refine (source_any P Q w1 H1.out hP hQ m2).mono ?_
  cases hs' : srcN c.D P Q with
  | none =>
    rw [srcI_none hs']
    have HST : Hid (stepP g m c p q = (⟨c.ts, c.dn, c.D, c.over, c.st + 1, c.id + 1⟩, ⟨P, -1, -1, false⟩)) := Lib.hid (by unfold stepP; rw [HPE.out.1, HPE.out.2, hs'])
    clear hs'
    rintro ed w2 ⟨rfl, rfl⟩
    go_wp2_with fail
    refine (idle_any P w1 H1.out hst hid).mono ?_
    rintro ed w3 ⟨rfl, hG3, hW3⟩
    have HG3 := Lib.hid hG3
    have HW3 := Lib.hid hW3
    clear hG3 hW3
    go_wp2_with fail
    go_ret
    rw [HST.out]
    exact ⟨A, B, a, b, hs, rfl, HG3.out, (Grew.of HE1.out).trans HW3.out⟩
  | some F =>
    obtain ⟨hne, hor⟩ := srcN_some hs'
    have hF : F < m := by rcases hor with rfl | ⟨rfl, _⟩ <;> assumption
    have hFP : F = P ∨ c.D.getD P [] = [] := by rcases hor with h1 | ⟨_, _, h1⟩; exact .inl h1; exact .inr h1
    rw [srcI_some hs']
    have HST : Hid (stepP g m c p q = goP g c P F) := Lib.hid (by unfold stepP; rw [HPE.out.1, HPE.out.2, hs'])
    have HNE := Lib.hid hne
    have HFP := Lib.hid hFP
    have hF0 : ¬ (F : Int) < 0 := by omega
    clear hs' hne hor hFP
    rintro ed w2 ⟨rfl, rfl⟩
    go_wp2_with fail
    refine (goAt_any P F w1 H1.out HI.out hP hF HNE.out HFP.out n1 n2 g1 g2 m2 hst).mono ?_
    rintro ed w3 ⟨A3, B3, a3, b3, hs3, rfl, hG3, hW3⟩
    have HG3 := Lib.hid hG3
    have HW3 := Lib.hid hW3
    clear hG3 hW3
    go_wp2_with fail
    go_ret
    rw [HST.out]
    exact ⟨A3, B3, a3, b3, hs3, rfl, HG3.out, (Grew.of HE1.out).trans HW3.out⟩
end Go.Proofs.YtkpbanfpnilifaaGreat

/- The program's Step of a crew. -/
namespace Go.Proofs.YtkpbanfpnilifaaGreat
open Go.BigFrame
open Go.RowKit Go.Proofs.YtkpbanfpnilifaaGreat.Plain

/-- a crew, and an event, in two boxes -/
structure Boxed (w : World) (R Q : Nat) (A B : Option Addr) (e0 a b e g m : Nat) (c : Cw) (ev : Ev) : Prop where
  v0 : w.cell? ⟨R, 0, none⟩ = some (.slice A c.ts.length a)
  v1 : w.cell? ⟨R, 1, none⟩ = some (.int .i64 g)
  v2 : w.cell? ⟨R, 2, none⟩ = some (.slice B c.dn.length b)
  v3 : w.cell? ⟨R, 3, none⟩ = some (.slice (some ⟨e0, 0, none⟩) m e)
  v4 : w.cell? ⟨R, 4, none⟩ = some (.bool c.over)
  v5 : w.cell? ⟨R, 5, none⟩ = some (.int .i64 c.st)
  v6 : w.cell? ⟨R, 6, none⟩ = some (.int .i64 c.id)
  u0 : w.cell? ⟨Q, 0, none⟩ = some (.int .i64 ev.wk)
  u1 : w.cell? ⟨Q, 1, none⟩ = some (.int .i64 ev.fr)
  u2 : w.cell? ⟨Q, 2, none⟩ = some (.int .i64 ev.tk)
  u3 : w.cell? ⟨Q, 3, none⟩ = some (.bool ev.pt)
/-- the stores of both, in either order -/
theorem Boxed.one {w : World} {R Q : Nat} {A B : Option Addr} {e0 a b e g m : Nat} {c : Cw} {ev : Ev} {p0 p1 p2 p3 p4 p5 p6 o0 o1 o2 o3 : Value} (_h1 : ¬ R = Q) (h2 : ¬ Q = R) (r0 : w.cell? ⟨R, 0, none⟩ = some p0) (r1 : w.cell? ⟨R, 1, none⟩ = some p1) (r2 : w.cell? ⟨R, 2, none⟩ = some p2) (r3 : w.cell? ⟨R, 3, none⟩ = some p3) (r4 : w.cell? ⟨R, 4, none⟩ = some p4) (r5 : w.cell? ⟨R, 5, none⟩ = some p5) (r6 : w.cell? ⟨R, 6, none⟩ = some p6) (q0 : w.cell? ⟨Q, 0, none⟩ = some o0) (q1 : w.cell? ⟨Q, 1, none⟩ = some o1) (q2 : w.cell? ⟨Q, 2, none⟩ = some o2) (q3 : w.cell? ⟨Q, 3, none⟩ = some o3) : Boxed (((((((((((w.setCell ⟨R, 0, none⟩ (.slice A c.ts.length a)).setCell ⟨R, 1, none⟩ (.int .i64 g)).setCell ⟨R, 2, none⟩ (.slice B c.dn.length b)).setCell ⟨R, 3, none⟩ (.slice (some ⟨e0, 0, none⟩) m e)).setCell ⟨R, 4, none⟩ (.bool c.over)).setCell ⟨R, 5, none⟩ (.int .i64 c.st)).setCell ⟨R, 6, none⟩ (.int .i64 c.id)).setCell ⟨Q, 0, none⟩ (.int .i64 ev.wk)).setCell ⟨Q, 1, none⟩ (.int .i64 ev.fr)).setCell ⟨Q, 2, none⟩ (.int .i64 ev.tk)).setCell ⟨Q, 3, none⟩ (.bool ev.pt)) R Q A B e0 a b e g m c ev :=
  ⟨by go_simp, by go_simp, by go_simp, by go_simp, by go_simp, by go_simp, by go_simp, by go_simp, by go_simp, by go_simp, by go_simp⟩
theorem Boxed.two {w : World} {R Q : Nat} {A B : Option Addr} {e0 a b e g m : Nat} {c : Cw} {ev : Ev} {p0 p1 p2 p3 p4 p5 p6 o0 o1 o2 o3 : Value} (_h1 : ¬ R = Q) (h2 : ¬ Q = R) (r0 : w.cell? ⟨R, 0, none⟩ = some p0) (r1 : w.cell? ⟨R, 1, none⟩ = some p1) (r2 : w.cell? ⟨R, 2, none⟩ = some p2) (r3 : w.cell? ⟨R, 3, none⟩ = some p3) (r4 : w.cell? ⟨R, 4, none⟩ = some p4) (r5 : w.cell? ⟨R, 5, none⟩ = some p5) (r6 : w.cell? ⟨R, 6, none⟩ = some p6) (q0 : w.cell? ⟨Q, 0, none⟩ = some o0) (q1 : w.cell? ⟨Q, 1, none⟩ = some o1) (q2 : w.cell? ⟨Q, 2, none⟩ = some o2) (q3 : w.cell? ⟨Q, 3, none⟩ = some o3) : Boxed (((((((((((w.setCell ⟨Q, 0, none⟩ (.int .i64 ev.wk)).setCell ⟨Q, 1, none⟩ (.int .i64 ev.fr)).setCell ⟨Q, 2, none⟩ (.int .i64 ev.tk)).setCell ⟨Q, 3, none⟩ (.bool ev.pt)).setCell ⟨R, 0, none⟩ (.slice A c.ts.length a)).setCell ⟨R, 1, none⟩ (.int .i64 g)).setCell ⟨R, 2, none⟩ (.slice B c.dn.length b)).setCell ⟨R, 3, none⟩ (.slice (some ⟨e0, 0, none⟩) m e)).setCell ⟨R, 4, none⟩ (.bool c.over)).setCell ⟨R, 5, none⟩ (.int .i64 c.st)).setCell ⟨R, 6, none⟩ (.int .i64 c.id)) R Q A B e0 a b e g m c ev :=
  ⟨by go_simp, by go_simp, by go_simp, by go_simp, by go_simp, by go_simp, by go_simp, by go_simp, by go_simp, by go_simp, by go_simp⟩
theorem Boxed.ext {w W : World} {R Q : Nat} {A B : Option Addr} {e0 a b e g m : Nat} {c : Cw} {ev : Ev} (h : Boxed w R Q A B e0 a b e g m c ev) (hE : Ext w W) : Boxed W R Q A B e0 a b e g m c ev :=
  ⟨hE.cell h.v0, hE.cell h.v1, hE.cell h.v2, hE.cell h.v3, hE.cell h.v4, hE.cell h.v5, hE.cell h.v6, hE.cell h.u0, hE.cell h.u1, hE.cell h.u2, hE.cell h.u3⟩
theorem Boxed.one' {w : World} {R Q : Nat} {A B : Option Addr} {e0 a b e g m : Nat} {c : Cw} {ev : Ev} {p0 p1 p2 p3 p4 p5 p6 o0 o1 o2 o3 : Value} (h1 : ¬ R = Q) (h2 : ¬ Q = R) (r0 : w.cell? ⟨R, 0, none⟩ = some p0) (r1 : w.cell? ⟨R, 1, none⟩ = some p1) (r2 : w.cell? ⟨R, 2, none⟩ = some p2) (r3 : w.cell? ⟨R, 3, none⟩ = some p3) (r4 : w.cell? ⟨R, 4, none⟩ = some p4) (r5 : w.cell? ⟨R, 5, none⟩ = some p5) (r6 : w.cell? ⟨R, 6, none⟩ = some p6) (q0 : w.cell? ⟨Q, 0, none⟩ = some o0) (q1 : w.cell? ⟨Q, 1, none⟩ = some o1) (q2 : w.cell? ⟨Q, 2, none⟩ = some o2) (q3 : w.cell? ⟨Q, 3, none⟩ = some o3) : Boxed (World.drew (((((((((((w.setCell ⟨R, 0, none⟩ (.slice A c.ts.length a)).setCell ⟨R, 1, none⟩ (.int .i64 g)).setCell ⟨R, 2, none⟩ (.slice B c.dn.length b)).setCell ⟨R, 3, none⟩ (.slice (some ⟨e0, 0, none⟩) m e)).setCell ⟨R, 4, none⟩ (.bool c.over)).setCell ⟨R, 5, none⟩ (.int .i64 c.st)).setCell ⟨R, 6, none⟩ (.int .i64 c.id)).setCell ⟨Q, 0, none⟩ (.int .i64 ev.wk)).setCell ⟨Q, 1, none⟩ (.int .i64 ev.fr)).setCell ⟨Q, 2, none⟩ (.int .i64 ev.tk)).setCell ⟨Q, 3, none⟩ (.bool ev.pt))) R Q A B e0 a b e g m c ev ∧ Grew (fun x => x = R ∨ x = Q) w (World.drew (((((((((((w.setCell ⟨R, 0, none⟩ (.slice A c.ts.length a)).setCell ⟨R, 1, none⟩ (.int .i64 g)).setCell ⟨R, 2, none⟩ (.slice B c.dn.length b)).setCell ⟨R, 3, none⟩ (.slice (some ⟨e0, 0, none⟩) m e)).setCell ⟨R, 4, none⟩ (.bool c.over)).setCell ⟨R, 5, none⟩ (.int .i64 c.st)).setCell ⟨R, 6, none⟩ (.int .i64 c.id)).setCell ⟨Q, 0, none⟩ (.int .i64 ev.wk)).setCell ⟨Q, 1, none⟩ (.int .i64 ev.fr)).setCell ⟨Q, 2, none⟩ (.int .i64 ev.tk)).setCell ⟨Q, 3, none⟩ (.bool ev.pt))) := by
  refine ⟨(Boxed.one h1 h2 r0 r1 r2 r3 r4 r5 r6 q0 q1 q2 q3).ext ((Ext.refl _).drew), ?_⟩
  refine Grew.drew ?_
  repeat (first | (with_reducible exact Grew.refl _ _) | refine Grew.setCell ?_ (.inl rfl) _ | refine Grew.setCell ?_ (.inr rfl) _)
theorem Boxed.two' {w : World} {R Q : Nat} {A B : Option Addr} {e0 a b e g m : Nat} {c : Cw} {ev : Ev} {p0 p1 p2 p3 p4 p5 p6 o0 o1 o2 o3 : Value} (h1 : ¬ R = Q) (h2 : ¬ Q = R) (r0 : w.cell? ⟨R, 0, none⟩ = some p0) (r1 : w.cell? ⟨R, 1, none⟩ = some p1) (r2 : w.cell? ⟨R, 2, none⟩ = some p2) (r3 : w.cell? ⟨R, 3, none⟩ = some p3) (r4 : w.cell? ⟨R, 4, none⟩ = some p4) (r5 : w.cell? ⟨R, 5, none⟩ = some p5) (r6 : w.cell? ⟨R, 6, none⟩ = some p6) (q0 : w.cell? ⟨Q, 0, none⟩ = some o0) (q1 : w.cell? ⟨Q, 1, none⟩ = some o1) (q2 : w.cell? ⟨Q, 2, none⟩ = some o2) (q3 : w.cell? ⟨Q, 3, none⟩ = some o3) : Boxed (World.drew (((((((((((w.setCell ⟨Q, 0, none⟩ (.int .i64 ev.wk)).setCell ⟨Q, 1, none⟩ (.int .i64 ev.fr)).setCell ⟨Q, 2, none⟩ (.int .i64 ev.tk)).setCell ⟨Q, 3, none⟩ (.bool ev.pt)).setCell ⟨R, 0, none⟩ (.slice A c.ts.length a)).setCell ⟨R, 1, none⟩ (.int .i64 g)).setCell ⟨R, 2, none⟩ (.slice B c.dn.length b)).setCell ⟨R, 3, none⟩ (.slice (some ⟨e0, 0, none⟩) m e)).setCell ⟨R, 4, none⟩ (.bool c.over)).setCell ⟨R, 5, none⟩ (.int .i64 c.st)).setCell ⟨R, 6, none⟩ (.int .i64 c.id))) R Q A B e0 a b e g m c ev ∧ Grew (fun x => x = R ∨ x = Q) w (World.drew (((((((((((w.setCell ⟨Q, 0, none⟩ (.int .i64 ev.wk)).setCell ⟨Q, 1, none⟩ (.int .i64 ev.fr)).setCell ⟨Q, 2, none⟩ (.int .i64 ev.tk)).setCell ⟨Q, 3, none⟩ (.bool ev.pt)).setCell ⟨R, 0, none⟩ (.slice A c.ts.length a)).setCell ⟨R, 1, none⟩ (.int .i64 g)).setCell ⟨R, 2, none⟩ (.slice B c.dn.length b)).setCell ⟨R, 3, none⟩ (.slice (some ⟨e0, 0, none⟩) m e)).setCell ⟨R, 4, none⟩ (.bool c.over)).setCell ⟨R, 5, none⟩ (.int .i64 c.st)).setCell ⟨R, 6, none⟩ (.int .i64 c.id))) := by
  refine ⟨(Boxed.two h1 h2 r0 r1 r2 r3 r4 r5 r6 q0 q1 q2 q3).ext ((Ext.refl _).drew), ?_⟩
  refine Grew.drew ?_
  repeat (first | (with_reducible exact Grew.refl _ _) | refine Grew.setCell ?_ (.inl rfl) _ | refine Grew.setCell ?_ (.inr rfl) _)
/-- what Step leaves -/
def StepSaid (g m : Nat) (r : Cw × Ev) (w : World) (ed : Ending) (w' : World) : Prop :=
  ∃ (A B : Option Addr) (e0 a b : Nat), ed = .returned (.tuple #[crewV A B e0 0 a b m g m r.1, evV r.2, .int .i64 0]) ∧ CrewO (fun x => x < w.heap.size) w' m r.1 A B e0 0 a b ∧ Ext w w'

set_option maxHeartbeats 600000 in
set_option maxRecDepth 100000 in
theorem cstep_any (A B : Option Addr) (eb eo a b e g n m : Nat) (c : Cw) (done : Nat) (G : List Nat) (p q : Int) (w : World) (h : CrewAt w m c A B eb eo a b) (me : m ≤ e) (hI : CwI g n m c done G)
    (n1 : 1 ≤ n) (n2 : n ≤ 900) (g1 : 1 ≤ g) (g2 : g ≤ 100) (m1 : 1 ≤ m) (m2 : m ≤ 8) (hst : c.st < 100000) (hid : c.id < 100000) (hp : in64 p) (hq : in64 q) :
    Calls Tryz.prog 80 #[crewV A B eb eo a b e g m c, .int .i64 p, .int .i64 q] w (StepSaid g m (stepP g m c p q) w) := by
  have H := Lib.hid h
  have HI := Lib.hid hI
  have HPQ := Lib.hid (And.intro hp hq)
  have hfew := hI.few g1 n1
  have HLT : Hid (c.ts.length ≤ 1000000) := Lib.hid (by omega)
  have HLN : Hid (c.dn.length ≤ 1000000) := Lib.hid (by rw [(CrI.inv hI).dl]; omega)
  have HLH : Hid (∀ j, (c.D.getD j []).length ≤ 1000000) := Lib.hid (by
    intro j
    have h2 := (CrI.fresh hI).2.2.2
    by_cases hj : j < c.D.length
    · have h3 := (held_at c.D j hj).length_eq
      rw [List.length_append] at h3
      omega
    · rw [List.getD_eq_getElem?_getD, List.getElem?_eq_none (by omega)]; simp)
  obtain ⟨r, hr⟩ : ∃ r, stepP g m c p q = r := ⟨_, rfl⟩
  have HR := Lib.hid hr
  rw [hr]
  clear h hI hr hp hq hfew
  go_enter Tryz.func80, Tryz.ntmps80
  go_wp2_with fail
  refine (ccopy_any A B eb eo a b e g m c _ (H.out.ext ((((Ext.refl _).alloc _).alloc _).alloc _)) me m1 m2 HLT.out HLN.out HLH.out).mono ?_
  rintro ed w4 ⟨A1, B1, e0, a1, b1, hs, rfl, z1, z2, z3, z4, z5, z6, hE4⟩
  have r0 : w4.cell? ⟨w.heap.size + 1, 0, none⟩ = some (.slice none 0 0) := Ext.cell hE4 (by go_simp)
  have r1 : w4.cell? ⟨w.heap.size + 1, 1, none⟩ = some (.int .i64 0) := Ext.cell hE4 (by go_simp)
  have r2 : w4.cell? ⟨w.heap.size + 1, 2, none⟩ = some (.slice none 0 0) := Ext.cell hE4 (by go_simp)
  have r3 : w4.cell? ⟨w.heap.size + 1, 3, none⟩ = some (.slice none 0 0) := Ext.cell hE4 (by go_simp)
  have r4 : w4.cell? ⟨w.heap.size + 1, 4, none⟩ = some (.bool false) := Ext.cell hE4 (by go_simp)
  have r5 : w4.cell? ⟨w.heap.size + 1, 5, none⟩ = some (.int .i64 0) := Ext.cell hE4 (by go_simp)
  have r6 : w4.cell? ⟨w.heap.size + 1, 6, none⟩ = some (.int .i64 0) := Ext.cell hE4 (by go_simp)
  have rf : ∀ o, w4.frozen? ⟨w.heap.size + 1, o, none⟩ = false := fun o => (Below.frozen hE4 (p := ⟨w.heap.size + 1, o, none⟩) (by first | omega | (simp; omega) | simp)).trans (by go_simp)
  have s0 : w4.cell? ⟨w.heap.size + 1 + 1, 0, none⟩ = some (.int .i64 0) := Ext.cell hE4 (by go_simp)
  have s1 : w4.cell? ⟨w.heap.size + 1 + 1, 1, none⟩ = some (.int .i64 0) := Ext.cell hE4 (by go_simp)
  have s2 : w4.cell? ⟨w.heap.size + 1 + 1, 2, none⟩ = some (.int .i64 0) := Ext.cell hE4 (by go_simp)
  have s3 : w4.cell? ⟨w.heap.size + 1 + 1, 3, none⟩ = some (.bool false) := Ext.cell hE4 (by go_simp)
  have sf : ∀ o, w4.frozen? ⟨w.heap.size + 1 + 1, o, none⟩ = false := fun o => (Below.frozen hE4 (p := ⟨w.heap.size + 1 + 1, o, none⟩) (by first | omega | (simp; omega) | simp)).trans (by go_simp)
  simp only [World.size_alloc] at z1 z4 z5 z6
  have hz4 := hE4.size
  simp at hz4
  have HX4 := Lib.hid (((((Ext.refl w).alloc _).alloc _).alloc _).trans hE4)
  have HZ := Lib.hid (And.intro z3 (And.intro z4 (And.intro z5 z6)))
  clear z3 z4 z5 z6 hE4
  have l1 : w.heap.size + 1 < w4.heap.size := by omega
  have l2 : w.heap.size + 1 + 1 < w4.heap.size := by omega
  have l3 : w.heap.size + 1 < w4.heap.size + 1 := by omega
  have l4 : w.heap.size + 1 + 1 < w4.heap.size + 1 := by omega
  go_wp2_with fail
  obtain ⟨V, hV⟩ : ∃ V, w4.heap.size = V := ⟨_, rfl⟩
  have HGO : Hid (GoAt (fun x => x < w.heap.size + 5 ∨ x = e0 ∨ x = V) (w4.alloc (.cells #[.slice A1 c.ts.length a1, .int .i64 g, .slice B1 c.dn.length b1, .slice (some ⟨e0, 0, none⟩) m m, .bool c.over, .int .i64 c.st, .int .i64 c.id, .int .i64 0, .int .i64 0, .int .i64 0, .bool false] 132)) V e0 g m c ev0 A1 B1 a1 b1 m hs) := Lib.hid (by
    subst hV
    obtain ⟨z3, z4, z5, z6⟩ := HZ.out
    have hla : Grew (fun x => x < w.heap.size + 5 ∨ x = e0) w4 (w4.alloc (.cells #[.slice A1 c.ts.length a1, .int .i64 g, .slice B1 c.dn.length b1, .slice (some ⟨e0, 0, none⟩) m m, .bool c.over, .int .i64 c.st, .int .i64 c.id, .int .i64 0, .int .i64 0, .int .i64 0, .bool false] 132)) := (Grew.refl _ _).alloc _
    have hS : ∀ x, x < w4.heap.size → (x < w.heap.size + 5 ∨ x = e0 ∨ x = w4.heap.size) → (x < w.heap.size + 5 ∨ x = e0) := fun x hx hh => by omega
    have hEa : Ext w4 (w4.alloc (.cells #[.slice A1 c.ts.length a1, .int .i64 g, .slice B1 c.dn.length b1, .slice (some ⟨e0, 0, none⟩) m m, .bool c.over, .int .i64 c.st, .int .i64 c.id, .int .i64 0, .int .i64 0, .int .i64 0, .bool false] 132)) := (Ext.refl w4).alloc _
    refine ⟨.inr (.inr rfl), .inr (.inl rfl), fun x hx => by simp; omega, by omega, by go_simp, by go_simp, by go_simp, by go_simp, by go_simp, by go_simp, by go_simp, by unfold ev0; go_simp, by unfold ev0; go_simp, by unfold ev0; go_simp, by unfold ev0; go_simp, fun o => by go_simp, fun o => (Below.frozen hEa (p := ⟨e0, o, none⟩) z2).trans (z3 o), Nat.le_refl _, z4.later hla hS, z5.later hla hS, ?_, fun j hj => hEa.cell (z6 j hj).1, fun j hj => (z6 j hj).2.1, fun j hj => (z6 j hj).2.2.2.later hla hS, fun j hj => (z6 j hj).2.2.1⟩
    obtain ⟨hs0, hds⟩ := H.out.deq
    exact hds.1)
  have hEa : Ext w4 (w4.alloc (.cells #[.slice A1 c.ts.length a1, .int .i64 g, .slice B1 c.dn.length b1, .slice (some ⟨e0, 0, none⟩) m m, .bool c.over, .int .i64 c.st, .int .i64 c.id, .int .i64 0, .int .i64 0, .int .i64 0, .bool false] 132)) := (Ext.refl w4).alloc _
  have r0' := hEa.cell r0
  have r1' := hEa.cell r1
  have r2' := hEa.cell r2
  have r3' := hEa.cell r3
  have r4' := hEa.cell r4
  have r5' := hEa.cell r5
  have r6' := hEa.cell r6
  have s0' := hEa.cell s0
  have s1' := hEa.cell s1
  have s2' := hEa.cell s2
  have s3' := hEa.cell s3
  have rf' : ∀ o, (w4.alloc (.cells #[.slice A1 c.ts.length a1, .int .i64 g, .slice B1 c.dn.length b1, .slice (some ⟨e0, 0, none⟩) m m, .bool c.over, .int .i64 c.st, .int .i64 c.id, .int .i64 0, .int .i64 0, .int .i64 0, .bool false] 132)).frozen? ⟨w.heap.size + 1, o, none⟩ = false := fun o => (Below.frozen hEa (p := ⟨w.heap.size + 1, o, none⟩) l1).trans (rf o)
  have sf' : ∀ o, (w4.alloc (.cells #[.slice A1 c.ts.length a1, .int .i64 g, .slice B1 c.dn.length b1, .slice (some ⟨e0, 0, none⟩) m m, .bool c.over, .int .i64 c.st, .int .i64 c.id, .int .i64 0, .int .i64 0, .int .i64 0, .bool false] 132)).frozen? ⟨w.heap.size + 1 + 1, o, none⟩ = false := fun o => (Below.frozen hEa (p := ⟨w.heap.size + 1 + 1, o, none⟩) l2).trans (sf o)
  have HX5 := Lib.hid (HX4.out.trans hEa)
  have l5 : w.heap.size + 1 + 1 < (w4.alloc (.cells #[.slice A1 c.ts.length a1, .int .i64 g, .slice B1 c.dn.length b1, .slice (some ⟨e0, 0, none⟩) m m, .bool c.over, .int .i64 c.st, .int .i64 c.id, .int .i64 0, .int .i64 0, .int .i64 0, .bool false] 132)).heap.size := by simp; omega
  rw [hV]
  clear r0 r1 r2 r3 r4 r5 r6 rf s0 s1 s2 s3 sf hEa l3 l4
  generalize hw5 : w4.alloc (.cells #[.slice A1 c.ts.length a1, .int .i64 g, .slice B1 c.dn.length b1, .slice (some ⟨e0, 0, none⟩) m m, .bool c.over, .int .i64 c.st, .int .i64 c.id, .int .i64 0, .int .i64 0, .int .i64 0, .bool false] 132) = w5 at *
  clear hw5
  refine (gstep_any p q w5 HGO.out HI.out n1 n2 g1 g2 m1 m2 hst hid HPQ.out.1 HPQ.out.2).mono ?_
  rw [HR.out]
  rintro ed w6 ⟨A6, B6, a6, b6, hs6, rfl, hG6, hW6⟩
  have HG6 := Lib.hid hG6
  have HW6 := Lib.hid hW6
  have nV : ¬ (w.heap.size + 1 = V ∨ w.heap.size + 1 = e0) := by omega
  have nQ : ¬ (w.heap.size + 1 + 1 = V ∨ w.heap.size + 1 + 1 = e0) := by omega
  have y0 := hW6.cell r0' nV
  have y1 := hW6.cell r1' nV
  have y2 := hW6.cell r2' nV
  have y3 := hW6.cell r3' nV
  have y4 := hW6.cell r4' nV
  have y5 := hW6.cell r5' nV
  have y6 := hW6.cell r6' nV
  have x0 := hW6.cell s0' nQ
  have x1 := hW6.cell s1' nQ
  have x2 := hW6.cell s2' nQ
  have x3 := hW6.cell s3' nQ
  have yf := fun o => (hW6.frozen (by omega) nV o).trans (rf' o)
  have xf := fun o => (hW6.frozen l5 nQ o).trans (sf' o)
  have v0 := hG6.v0
  have v1 := hG6.v1
  have v2 := hG6.v2
  have v3 := hG6.v3
  have v4 := hG6.v4
  have v5 := hG6.v5
  have v6 := hG6.v6
  have v7 := hG6.v7
  have v8 := hG6.v8
  have v9 := hG6.v9
  have v10 := hG6.v10
  have l6 : w.heap.size + 1 + 1 < w6.heap.size := by have := hW6.size; omega
  have l7 : w.heap.size + 1 < w6.heap.size := by omega
  have l8 : V < w6.heap.size := hG6.sl V hG6.sV
  have HNE := Lib.hid (And.intro nV nQ)
  have nV1 : ¬ w.heap.size + 1 = V := by omega
  have nV2 : ¬ w.heap.size + 1 + 1 = V := by omega
  have nV3 : ¬ V = w.heap.size + 1 := by omega
  have nV4 : ¬ V = w.heap.size + 1 + 1 := by omega
  have hV2 : w.heap.size ≤ V := by omega
  clear hG6 hW6 nV nQ r0' r1' r2' r3' r4' r5' r6' rf' s0' s1' s2' s3' sf' hV l1 l2 l5
  go_upto_region 3 with fail
  go_cut [8] (fun z wx => z = .int .i64 0 ∧ Boxed wx (w.heap.size + 1) (w.heap.size + 1 + 1) A6 B6 e0 a6 b6 m g m r.1 r.2 ∧ Grew (fun x => x = w.heap.size + 1 ∨ x = w.heap.size + 1 + 1) w6 wx)
  case first =>
    go_region
    all_goals go_wp2_with fail
    all_goals go_meet
    all_goals first
      | (with_reducible exact ⟨rfl, Boxed.one' (by omega) (by omega) y0 y1 y2 y3 y4 y5 y6 x0 x1 x2 x3⟩)
      | (with_reducible exact ⟨rfl, Boxed.two' (by omega) (by omega) y0 y1 y2 y3 y4 y5 y6 x0 x1 x2 x3⟩)
  case rest =>
  obtain ⟨rfl, hB, hG7⟩ := hcut
  obtain ⟨k0, k1, k2, k3, k4, k5, k6, j0, j1, j2, j3⟩ := hB
  have HG7 := Lib.hid hG7
  clear hG7 y0 y1 y2 y3 y4 y5 y6 x0 x1 x2 x3 yf xf v0 v1 v2 v3 v4 v5 v6 v7 v8 v9 v10 l6 l7 l8
  go_wp2_with fail
  refine bodyPost_ret (v := .tuple #[crewV A6 B6 e0 0 a6 b6 m g m r.1, evV r.2, .int .i64 0]) (by simp [results, Tryz.results80, go_sem, k0, k1, k2, k3, k4, k5, k6, j0, j1, j2, j3]) rfl ⟨A6, B6, e0, a6, b6, rfl, ?_, ?_⟩
  · refine (HG6.out.crew (T := fun x => x < w.heap.size + 3) (fun x hx => .inl (by omega)) (by omega)).later m1 (hG := HG7.out.mono (fun x _ hx => by rcases hx with rfl | rfl <;> omega)) (fun x _ hx => by omega)
  · exact HG7.out.toExt (HW6.out.toExt HX5.out (fun b hb => by rcases hb with rfl | rfl <;> omega)) (fun b hb => by rcases hb with rfl | rfl <;> omega)
end Go.Proofs.YtkpbanfpnilifaaGreat
