/- Joined by wip/merge.py: Num, QsA, QsI, QsH, QsT, QsR, QsM, QsC, QsX, QsL, QsP. -/
import Derived.Test.YtofiokegdgdacaaJ1
import Derived.Deep.RegionLaw
import Derived.Sort.LotA
import Derived.Deep.QuietTactic
import Derived.BigQuiet
import Derived.Deep.CutBlock
import Derived.Laws.Closers25b
import Derived.Laws.Bits64b
set_option linter.unusedVariables false
set_option linter.unusedSimpArgs false
set_option linter.unnecessarySimpa false
/- Numbers, words, bools as lists (no program's own function but the document's Ints, Words). -/
namespace Go.Proofs.Ytofiokegdgdacaa
open Go.BigFrame
open Go.RowKit Go.Proofs.Ytofiokegdgdacaa.Plain

/-- numbers of tasks, as they lie -/
def zs (O : List Nat) : List Int := O.map fun k : Nat => (k : Int)
theorem zs_len (O : List Nat) : (zs O).length = O.length := by unfold zs; simp
theorem zs_getD (O : List Nat) (j : Nat) : (zs O).getD j 0 = ((O.getD j 0 : Nat) : Int) := by
  unfold zs
  rw [List.getD_eq_getElem?_getD, List.getD_eq_getElem?_getD, List.getElem?_map]
  cases O[j]? <;> rfl
theorem in64_nat (k : Nat) (h : k ≤ 9223372036854775807) : in64 (k : Int) := by unfold in64; omega
theorem sameB_refl (xs : List Int) : sameB xs xs = true := by unfold sameB; simp
theorem zs_app (a b : List Nat) : zs (a ++ b) = zs a ++ zs b := by unfold zs; simp
instance (x : Int) : Decidable (in64 x) := by unfold in64; exact inferInstance
/-- words -/
def kU32 : Kd Int where
  t := 22
  e := 34
  n := 1
  cells := fun x => [.int .u32 x]
  ok := fun x => 0 ≤ x ∧ x ≤ 4294967295
  d := 0
  z := .int .u32 0
  bytes := 4
  ht := Try.underlying22
  info := by kernel_rfl
  hzs := rfl
  pos := by decide
  small := by decide
  len := fun _ => rfl
  one := fun a u hu => by simp at hu; subst hu; rfl
theorem Rd.u32s {w : World} {A : Option Addr} {n c : Nat} {xs : List Int} (h : Rd kU32 w (.slice A n c) xs) (hl : 0 < xs.length) : ∃ b off, A = some ⟨b, off, none⟩ ∧ ∀ j, j < xs.length → w.cell? ⟨b, off + j, none⟩ = some (.int .u32 (xs.getD j 0)) := by
  obtain ⟨b, off, rfl, hcc⟩ := h.cells hl
  exact ⟨b, off, rfl, fun j hj => by have := hcc j hj 0 _ rfl; simpa [kU32] using this⟩
set_option maxHeartbeats 400000 in
theorem rwords_any (v u : Value) (xs ys : List Int) (w : World) (h : Rd kU32 w v xs) (h' : Rd kU32 w u ys) :
    Calls Try.prog 21 #[v, u] w fun e w' => e = .returned (.bool (sameB xs ys)) ∧ Ext w w' := by
  have hm := h.len
  have hm' := h'.len
  obtain ⟨A, cap, rfl, hcap⟩ := h.slice
  obtain ⟨A', cap', rfl, hcap'⟩ := h'.slice
  have HH := Lib.hid h
  have HH' := Lib.hid h'
  clear h h'
  by_cases hl : xs.length = ys.length
  · have H := Lib.hid hl
    have e : decide ((xs.length : Int) = (ys.length : Int)) = true := by simp [hl]
    have e2 : ((xs.length : Int) != (ys.length : Int)) = false := by simp [hl]
    clear hl
    go_enter Try.func21, Try.ntmps21
    go_wp2
    clear e e2
    go_loopw [5] (fun i wr => ∃ k : Nat, k ≤ xs.length ∧ i = .int .i64 k ∧ Ext w wr ∧ ∀ j, j < k → xs.getD j 0 = ys.getD j 0) (fun i _ => xs.length - (intOf i).toNat)
    case atStart => exact ⟨0, Nat.zero_le _, rfl, Ext.refl _, by omega⟩
    case round =>
      obtain ⟨k, hk, rfl, hE, ha⟩ := hrel
      have HA := Lib.hid ha
      have HE := Lib.hid hE
      clear ha hE
      by_cases hlt : k < xs.length
      · obtain ⟨b, off, rfl, hcc⟩ := Rd.u32s (HH.out.ext HE.out) (by omega)
        obtain ⟨b', off', rfl, hcc'⟩ := Rd.u32s (HH'.out.ext HE.out) (by have := H.out; omega)
        have hcell := hcc k hlt
        have hcell' := hcc' k (by have := H.out; omega)
        have hlt' : k < ys.length := by have := H.out; omega
        clear hcc hcc'
        by_cases he : xs.getD k 0 = ys.getD k 0
        · have HEQ := Lib.hid he
          have e1 : ((xs.getD k 0) != (ys.getD k 0)) = false := by rw [he]; simp
          generalize hg : xs.getD k 0 = g at *
          generalize hg' : ys.getD k 0 = g' at *
          clear he
          go_wp2
          go_quiet (fail)
          go_wp2
          go_roundw
          case rel => exact ⟨k + 1, by omega, by go_num, HE.out.drewN _, fun j hj => by
            rcases Nat.lt_or_ge j k with h1 | h1
            · exact HA.out j h1
            · obtain rfl : j = k := by omega
              rw [hg, hg', HEQ.out]⟩
          case measure => simp [intOf]; omega
        · have e1 : ((xs.getD k 0) != (ys.getD k 0)) = true := by simpa using he
          have HR : Hid (sameB xs ys = false) := Lib.hid (by unfold sameB; rw [decide_eq_false_iff_not]; intro h; exact he (by rw [h]))
          generalize hg : xs.getD k 0 = g at *
          generalize hg' : ys.getD k 0 = g' at *
          clear he
          go_wp2
          go_quiet (fail)
          go_wp2
          go_ret
          exact ⟨ret_bool HR.out.symm, HE.out.drewN _⟩
      · have HR : Hid (sameB xs ys = true) := Lib.hid (by unfold sameB; rw [decide_eq_true_eq]; exact eq_of_all _ _ H.out (fun j hj => HA.out j (by omega)))
        go_wp2
        go_ret
        exact ⟨ret_bool HR.out.symm, HE.out⟩
  · have e : decide ((xs.length : Int) = (ys.length : Int)) = false := by simp; omega
    have e2 : ((xs.length : Int) != (ys.length : Int)) = true := by simp; omega
    have HR : Hid (sameB xs ys = false) := Lib.hid (by unfold sameB; rw [decide_eq_false_iff_not]; intro h; exact hl (by rw [h]))
    clear hl
    go_enter Try.func21, Try.ntmps21
    go_wp2
    go_ret
    exact ⟨ret_bool HR.out.symm, Ext.refl _⟩
theorem u32_lit (w : World) (x : Nat) (hx : x < 4294967296) : Rd kU32 (w.alloc (.cells #[.int .u32 x] 34)) (.slice (some ⟨w.heap.size, 0, none⟩) 1 1) [(x : Int)] :=
  Ow.rd (K := kU32) (B := 0) (Ow.lit (K := kU32) (p := w.heap.size) (n := 1) w [(x : Int)] #[.int .u32 x] rfl rfl rfl (Nat.zero_le _) (by simp [maxLen]) (by intro z hz; simp only [List.mem_singleton] at hz; subst hz; show (0 : Int) ≤ x ∧ (x : Int) ≤ 4294967295; omega))
/-- a cell of a list of 32 bits -/
theorem u32_at {w : World} {L : Option Addr} {lc : Nat} {l : List Nat} (h : Rd kU32 w (.slice L l.length lc) (zs l)) (k : Nat) (hk : k < l.length) :
    ∃ bx ox, L = some ⟨bx, ox, none⟩ ∧ w.cell? ⟨bx, ox + k, none⟩ = some (.int .u32 (l.getD k 0 : Nat)) ∧ l.getD k 0 < 4294967296 := by
  obtain ⟨bx, ox, rfl, hcx⟩ := Rd.u32s h (by rw [zs_len]; omega)
  have z0 := hcx k (by rw [zs_len]; exact hk)
  have hok := h.okAt k (by rw [zs_len]; exact hk)
  rw [zs_getD] at z0
  have hok' : (0 : Int) ≤ ((l.getD k 0 : Nat) : Int) ∧ ((l.getD k 0 : Nat) : Int) ≤ 4294967295 := by rw [← zs_getD]; exact hok
  exact ⟨bx, ox, rfl, z0, by omega⟩
/-- a bool of a list -/
theorem bool_at {w : World} {L : Option Addr} {lc : Nat} {l : List Bool} (h : Rd kBool w (.slice L l.length lc) l) (k : Nat) (hk : k < l.length) :
    ∃ bx ox, L = some ⟨bx, ox, none⟩ ∧ w.cell? ⟨bx, ox + k, none⟩ = some (.bool (kept l k)) := by
  obtain ⟨bx, ox, rfl, hcx⟩ := Rd.bools h (by omega)
  exact ⟨bx, ox, rfl, hcx k hk⟩
theorem zs_set (l : List Nat) (u v : Nat) : (zs l).set u (v : Int) = zs (l.set u v) := by unfold zs; rw [List.map_set]
/-- a cell of words of one's own is stored -/
theorem Ow.setN {B g n c : Nat} {w : World} {M : List Nat} (h : Ow kU32 B w (.slice (some ⟨g, 0, none⟩) n c) (zs M)) {u v : Nat} (hu : u < M.length) (hv : v < 4294967296) :
    Ow kU32 B (w.setCell ⟨g, u, none⟩ (.int .u32 v)) (.slice (some ⟨g, 0, none⟩) n c) (zs (M.set u v)) := by
  have h1 := h.set (j := u) (i := 0) (x := (v : Int)) (u := .int .u32 v) (by rw [zs_len]; exact hu) (by decide) rfl (by show (0 : Int) ≤ _ ∧ _ ≤ (4294967295 : Int); omega)
  rw [show u * kU32.n + 0 = u from by show u * 1 + 0 = u; omega, zs_set] at h1
  exact h1
/-- .. what is there -/
theorem Ow.atN {B g n c : Nat} {w : World} {M : List Nat} (h : Ow kU32 B w (.slice (some ⟨g, 0, none⟩) n c) (zs M)) {u : Nat} (hu : u < M.length) :
    w.cell? ⟨g, u, none⟩ = some (.int .u32 (M.getD u 0 : Nat)) ∧ (∀ j, w.frozen? ⟨g, j, none⟩ = false) ∧ M.getD u 0 < 4294967296 ∧ B ≤ g ∧ g < w.heap.size := by
  obtain ⟨g', eg, h1, h2, h3, h4⟩ := h.pos (by rw [zs_len]; omega)
  cases eg
  have z := h3 u (by rw [zs_len]; exact hu) 0 _ rfl
  have hok := h.rd.okAt u (by rw [zs_len]; exact hu)
  rw [show u * kU32.n + 0 = u from by show u * 1 + 0 = u; omega] at z
  have e : (zs M).getD u kU32.d = ((M.getD u 0 : Nat) : Int) := zs_getD M u
  rw [e] at z hok
  have hok' : (0 : Int) ≤ ((M.getD u 0 : Nat) : Int) ∧ ((M.getD u 0 : Nat) : Int) ≤ 4294967295 := hok
  exact ⟨z, h4, by omega, h1, h2⟩
theorem zs_lt {w : World} {v : Value} {l : List Nat} (h : Rd kU32 w v (zs l)) : ∀ x ∈ l, x < 4294967296 := fun x hx => by
  have h1 : (0 : Int) ≤ (x : Int) ∧ (x : Int) ≤ 4294967295 := h.2.1 (x : Int) (List.mem_map.2 ⟨x, hx, rfl⟩)
  omega
/-- a bool of one's own is stored -/
theorem Ow.setB {B g n c : Nat} {w : World} {M : List Bool} (h : Ow kBool B w (.slice (some ⟨g, 0, none⟩) n c) M) {u : Nat} {v : Bool} (hu : u < M.length) :
    Ow kBool B (w.setCell ⟨g, u, none⟩ (.bool v)) (.slice (some ⟨g, 0, none⟩) n c) (M.set u v) := by
  have h1 := h.set (j := u) (i := 0) (x := v) (u := .bool v) hu (by decide) rfl trivial
  rw [show u * kBool.n + 0 = u from by show u * 1 + 0 = u; omega] at h1
  exact h1
theorem Ow.atB {B g n c : Nat} {w : World} {M : List Bool} (h : Ow kBool B w (.slice (some ⟨g, 0, none⟩) n c) M) {u : Nat} (hu : u < M.length) :
    w.cell? ⟨g, u, none⟩ = some (.bool (M.getD u false)) ∧ (∀ j, w.frozen? ⟨g, j, none⟩ = false) ∧ B ≤ g ∧ g < w.heap.size := by
  obtain ⟨g', eg, h1, h2, h3, h4⟩ := h.pos (by omega)
  cases eg
  have z := h3 u hu 0 _ rfl
  rw [show u * kBool.n + 0 = u from by show u * 1 + 0 = u; omega] at z
  exact ⟨z, h4, h1, h2⟩
theorem u32_list (w : World) (xs : List Nat) (p n : Nat) (cs : Array Value) (hcs : cs.toList = (zs xs).map (Value.int .u32)) (hn : xs.length = n) (hp : p = w.heap.size) (hm : n ≤ 1000) (hx : ∀ x ∈ xs, x < 4294967296) : Rd kU32 (w.alloc (.cells cs 34)) (.slice (some ⟨p, 0, none⟩) n n) (zs xs) :=
  Ow.rd (K := kU32) (B := 0) (Ow.lit (K := kU32) w (zs xs) cs (by rw [hcs]; simp [Kd.flat, kU32]; induction (zs xs) with | nil => rfl | cons a l ih => simp [ih]) (by rw [zs_len, hn]) hp (Nat.zero_le _) (by unfold maxLen; omega) (by
    intro z hz
    unfold zs at hz
    obtain ⟨x, h1, rfl⟩ := List.mem_map.1 hz
    have := hx x h1
    show (0 : Int) ≤ x ∧ (x : Int) ≤ 4294967295
    omega))
theorem empty_at {α : Type} {K : Kd α} {B p : Nat} {w : World} (h : w.heap[p]? = some (.cells #[] K.e)) (hB : B ≤ p) : Ow K B w (.slice (some ⟨p, 0, none⟩) 0 0) [] :=
  ⟨⟨by simp [Kd.flat], .inr ⟨p, 0, #[], rfl, hB, h, Nat.le_refl _, by simp [maxLen], by simp, by simp [Kd.flat]⟩⟩, by simp⟩
theorem heap_alloc_at {w : World} {o : Obj} {p : Nat} (h : p = w.heap.size) : (w.alloc o).heap[p]? = some o := by subst h; exact heap_alloc_new _ _
theorem zs_take9 (l : List Nat) (n : Nat) : zs (l.take n) = (zs l).take n := by unfold zs; rw [List.map_take]
theorem zs_drop9 (l : List Nat) (n : Nat) : zs (l.drop n) = (zs l).drop n := by unfold zs; rw [List.map_drop]
/-- what is left behind a place, as the walk writes it -/
theorem Rd.sliced {α : Type} {K : Kd α} {w : World} {A : Option Addr} {n c : Nat} {xs : List α} (h : Rd K w (.slice A n c) xs) (hK : K.n = 1) (q : Nat) (hq : q ≤ xs.length) : Rd K w (.slice (if c = q then A else Option.map (fun x => x.add q) A) (n - q) (c - q)) (xs.drop q) := by
  obtain ⟨h1, h2, A', c', hv, hc, h3⟩ := id h
  cases hv
  by_cases e : c = q
  · have hz : xs.drop q = [] := List.eq_nil_of_length_eq_zero (by rw [List.length_drop]; omega)
    rw [hz, show xs.length - q = 0 by omega]
    exact Rd.nil _ _ _
  · rw [if_neg e]
    rcases A with _ | ad
    · have hz : xs.drop q = [] := List.eq_nil_of_length_eq_zero (by
        rcases Nat.eq_zero_or_pos xs.length with h0 | h0
        · rw [List.length_drop]; omega
        · obtain ⟨_, _, h9, _⟩ := h3 h0; cases h9)
      have hl : xs.length - q = 0 := by rw [← List.length_drop, hz]; rfl
      rw [hz, hl]
      exact Rd.nil _ _ _
    · exact h.dropAdd q q (xs.length - q) (c - q) (by rw [hK, Nat.mul_one]) rfl (by omega)
theorem one_atU {w : World} {q : Nat} {x : Nat} (h : w.heap[q]? = some (.cells #[.int .u32 x] 34)) (hx : x < 4294967296) : Rd kU32 w (.slice (some ⟨q, 0, none⟩) 1 1) [(x : Int)] :=
  ⟨by simp [maxLen], by intro y hy; rw [List.mem_singleton] at hy; rw [hy]; show (0 : Int) ≤ x ∧ (x : Int) ≤ 4294967295; omega, _, 1, rfl, Nat.le_refl _, fun _ => ⟨q, 0, rfl, fun j hj i u hu => by
    obtain rfl : j = 0 := by simp at hj; omega
    have hi : i = 0 := by
      rcases i with _ | i
      · rfl
      · simp [kU32] at hu
    subst hi
    have hu' : Value.int IntKind.u32 x = u := by simpa [kU32] using hu
    subst hu'
    exact (cell_of_row w q 0 _ _ _ h).trans rfl⟩⟩
end Go.Proofs.Ytofiokegdgdacaa

/- Sorting words of one's own, the state: a list in one block; less. -/
namespace Go.Proofs.Ytofiokegdgdacaa
open Go.BigFrame
open Go.RowKit Go.Proofs.Ytofiokegdgdacaa.Plain

def ltN (x y : Nat) : Bool := decide (x < y)
theorem swo_ltN : Go.Sort.SWO ltN where
  irrefl x := by simp [ltN]
  trans x y z h1 h2 := by simp only [ltN, decide_eq_true_eq] at *; omega
  ntrans x y z h1 h2 := by simp only [ltN, decide_eq_false_iff_not] at *; omega
theorem arr_getD (d : Array Nat) (j : Nat) : d.toList.getD j 0 = d[j]! := by
  rw [List.getD_eq_getElem?_getD, Array.getElem?_toList]; exact (getElem!_def d j).symm ▸ by cases d[j]? <;> rfl
/-- words of one's own, in one block, all else of an elder world as it was -/
structure SA (w0 : World) (B G n c : Nat) (d : Array Nat) (W : World) : Prop where
  o : Ow kU32 B W (.slice (some ⟨G, 0, none⟩) n c) (zs d.toList)
  e : Ext w0 W
  sz : d.size = n
  hB : w0.heap.size ≤ B
theorem SA.at_ {w0 : World} {B G n c : Nat} {d : Array Nat} {W : World} (h : SA w0 B G n c d W) {j : Nat} (hj : j < n) :
    W.cell? ⟨G, j, none⟩ = some (.int .u32 ((d[j]! : Nat) : Int)) ∧ (∀ o, W.frozen? ⟨G, o, none⟩ = false) ∧ d[j]! < 4294967296 ∧ B ≤ G ∧ G < W.heap.size := by
  have := h.o.atN (u := j) (by rw [Array.length_toList, h.sz]; exact hj)
  rw [arr_getD] at this
  exact this
theorem SA.ext {w0 : World} {B G n c : Nat} {d : Array Nat} {W W' : World} (h : SA w0 B G n c d W) (hE : Ext W W') : SA w0 B G n c d W' :=
  ⟨h.o.ext hE, h.e.trans hE, h.sz, h.hB⟩
theorem SA.drewN {w0 : World} {B G n c : Nat} {d : Array Nat} {W : World} (h : SA w0 B G n c d W) (k : Nat) : SA w0 B G n c d (W.drewN k) := h.ext ((Ext.refl _).drewN k)
theorem SA.drew {w0 : World} {B G n c : Nat} {d : Array Nat} {W : World} (h : SA w0 B G n c d W) : SA w0 B G n c d W.drew := h.ext (Ext.refl _).drew
theorem SA.set {w0 : World} {B G n c : Nat} {d : Array Nat} {W : World} (h : SA w0 B G n c d W) {j x : Nat} (hj : j < n) (hx : x < 4294967296) :
    SA w0 B G n c (d.setIfInBounds j x) (W.setCell ⟨G, j, none⟩ (.int .u32 (x : Nat))) := by
  have hG := (h.at_ hj).2.2.2.1
  refine ⟨?_, h.e.setCell (p := ⟨G, j, none⟩) (Nat.le_trans h.hB hG) _, by rw [Array.size_setIfInBounds]; exact h.sz, h.hB⟩
  rw [Array.toList_setIfInBounds]
  exact h.o.setN (by rw [Array.length_toList, h.sz]; exact hj) hx
/-- two cells change places -/
theorem SA.swp {w0 : World} {B G n c : Nat} {d : Array Nat} {W : World} (h : SA w0 B G n c d W) {i j : Nat} (hi : i < n) (hj : j < n) :
    SA w0 B G n c (Go.Sort.swp d i j) ((W.setCell ⟨G, i, none⟩ (.int .u32 ((d[j]! : Nat) : Int))).setCell ⟨G, j, none⟩ (.int .u32 ((d[i]! : Nat) : Int))) :=
  (h.set hi (h.at_ hj).2.2.1).set hj (h.at_ hi).2.2.1
theorem SA.swp' {w0 : World} {B G n c : Nat} {d : Array Nat} {W : World} (h : SA w0 B G n c d W) {i j x y : Nat} (hi : i < n) (hj : j < n) (hx : d[i]! = x) (hy : d[j]! = y) :
    SA w0 B G n c (Go.Sort.swp d i j) ((W.setCell ⟨G, i, none⟩ (.int .u32 (y : Nat))).setCell ⟨G, j, none⟩ (.int .u32 (x : Nat))) := by
  subst hx; subst hy; exact h.swp hi hj
set_option maxHeartbeats 800000 in
set_option maxRecDepth 100000 in
theorem qnan_any (x : Nat) (w : World) :
    Calls Try.prog 50 #[.int .u32 x] w fun ed w' => ed = .returned (.bool false) ∧ w' = w := by
  have hd : ((x : Int) != (x : Int)) = false := by simp
  have hd2 : (x != x) = false := by simp
  go_enter Try.func50, Try.ntmps50
  go_wp2_with fail
  go_ret
  exact ⟨rfl, rfl⟩
set_option maxHeartbeats 800000 in
set_option maxRecDepth 100000 in
theorem qless_any (x y : Nat) (w : World) :
    Calls Try.prog 45 #[.int .u32 x, .int .u32 y] w fun ed w' => ed = .returned (.bool (ltN x y)) ∧ Ext w w' := by
  have HN := Lib.hid (fun (x : Nat) w => qnan_any x w)
  have hd : decide ((x : Int) < (y : Int)) = ltN x y := by unfold ltN; simp
  have hd2 : decide (x < y) = ltN x y := rfl
  obtain ⟨r, hr⟩ : ∃ r, ltN x y = r := ⟨_, rfl⟩
  rw [hr] at hd hd2 ⊢
  clear hr
  go_enter Try.func45, Try.ntmps45
  go_wp2_with fail
  refine (HN.out x _).mono ?_
  rintro ed w1 ⟨rfl, rfl⟩
  go_wp2_with fail
  go_ret
  exact ⟨rfl, by first | exact Ext.refl _ | exact (Ext.refl _).drew⟩
theorem qless_cls (x y : Nat) (r : Bool) (hl : ltN x y = r) (w : World) : ∀ w', Ext w w' → Calls Try.prog 45 #[.int .u32 (x : Nat), .int .u32 (y : Nat)] w' fun ed w'' => ed = .returned (.bool r) ∧ Ext w w'' := fun w' hE => by
  refine (qless_any x y w').mono ?_
  rintro ed w'' ⟨rfl, h2⟩
  exact ⟨by rw [hl], hE.trans h2⟩
/-- two cells, by letters -/
theorem SA.two {w0 : World} {B G n c : Nat} {d : Array Nat} {W : World} (h : SA w0 B G n c d W) {i j : Nat} (hi : i < n) (hj : j < n) {x y : Nat} (hx : d[i]! = x) (hy : d[j]! = y) :
    W.cell? ⟨G, i, none⟩ = some (.int .u32 (x : Nat)) ∧ W.cell? ⟨G, j, none⟩ = some (.int .u32 (y : Nat)) ∧ W.frozen? ⟨G, i, none⟩ = false ∧ W.frozen? ⟨G, j, none⟩ = false ∧ G < W.heap.size := by
  subst hx; subst hy
  exact ⟨(h.at_ hi).1, (h.at_ hj).1, (h.at_ hi).2.1 i, (h.at_ hi).2.1 j, (h.at_ hi).2.2.2.2⟩
theorem SA.reads {w0 : World} {B G n c : Nat} {d : Array Nat} {W : World} (h : SA w0 B G n c d W) {i j : Nat} (hi : i < n) (hj : j < n) {x y : Nat} (hx : d[i]! = x) (hy : d[j]! = y) :
    ∀ w', Ext W w' → w'.cell? ⟨G, i, none⟩ = some (.int .u32 (x : Nat)) ∧ w'.cell? ⟨G, j, none⟩ = some (.int .u32 (y : Nat)) := fun w' hE =>
  ⟨hE.cell (h.two hi hj hx hy).1, hE.cell (h.two hi hj hx hy).2.1⟩
theorem wrap9 (n x : Nat) (hn : n ≤ 4000000) (hx : x ≤ n) : IntKind.i64.wrap (x : Int) = (x : Int) := IntWalk.i64_in _ (by omega)
end Go.Proofs.Ytofiokegdgdacaa

/- Sorting words: insertion. -/
namespace Go.Proofs.Ytofiokegdgdacaa
open Go.BigFrame
open Go.RowKit Go.Proofs.Ytofiokegdgdacaa.Plain

open Go.Sort (swp insInner insOuter insertionSort)
theorem insInner_go9 (a q : Nat) (d : Array Nat) (hj : a < q + 1) (hl : ltN d[q + 1]! d[q]! = true) : insInner ltN a (q + 1) d = insInner ltN a q (swp d (q + 1) q) := by
  rw [insInner, if_pos (by simp [hl]; omega)]
theorem insInner_end9 (a q : Nat) (d : Array Nat) (hl : ltN d[q + 1]! d[q]! = false) : insInner ltN a (q + 1) d = d := by
  rw [insInner, if_neg (by simp [hl])]
theorem insInner_low9 (a j : Nat) (d : Array Nat) (h : j ≤ a) : insInner ltN a j d = d := by
  cases j with
  | zero => rw [insInner]
  | succ k => rw [insInner, if_neg (by simp; omega)]
theorem insOuter_go9 (a b i : Nat) (d : Array Nat) (h : i < b) : insOuter ltN a b i d = insOuter ltN a b (i + 1) (insInner ltN a i d) := by rw [insOuter, if_pos h]
theorem insOuter_end9 (a b i : Nat) (d : Array Nat) (h : ¬ i < b) : insOuter ltN a b i d = d := by rw [insOuter, if_neg h]
set_option maxHeartbeats 3200000 in
set_option maxRecDepth 100000 in
theorem qins_any (w0 : World) (B G n c a b : Nat) (d : Array Nat) (w : World) (h : SA w0 B G n c d w) (hab : a ≤ b) (hb : b ≤ n) (hn : n ≤ 1000000) :
    Calls Try.prog 51 #[.slice (some ⟨G, 0, none⟩) n c, .int .i64 a, .int .i64 b] w fun ed w' => ed = .returned (.tuple #[]) ∧ SA w0 B G n c (insertionSort ltN d a b) w' := by
  have HS := Lib.hid h
  have ha0 : (0 : Int) ≤ a := by omega
  have hb0 : (b : Int) ≤ 1000000 := by omega
  have ha9 : (a : Int) ≤ 1000000 := by omega
  clear h
  go_enter Try.func51, Try.ntmps51
  go_wp2_with fail
  go_loopw [6] (fun vi wr => ∃ (i : Nat) (dk : Array Nat), vi = .int .i64 i ∧ a < i ∧ i ≤ b + 1 ∧ SA w0 B G n c dk wr ∧ insOuter ltN a b i dk = insOuter ltN a b (a + 1) d) (fun vi _ => b + 1 - (intOf vi).toNat)
  case atStart => exact ⟨a + 1, d, by go_num, by omega, by omega, HS.out, rfl⟩
  case round =>
    obtain ⟨i, dk, rfl, hai, hib, hS, hO⟩ := hrel
    have HSk := Lib.hid hS
    have HO := Lib.hid hO
    have hi9 : (i : Int) ≤ 1000001 := by omega
    have hi0 : (0 : Int) ≤ i := by omega
    clear hS hO
    by_cases hlt : i < b
    · have hlt' : (i : Int) < b := by omega
      go_wp2_with fail
      go_loopw [7] (fun vj wq => ∃ (j : Nat) (dj : Array Nat), vj = .int .i64 j ∧ a ≤ j ∧ j ≤ i ∧ SA w0 B G n c dj wq ∧ insInner ltN a j dj = insInner ltN a i dk) (fun vj _ => (intOf vj).toNat)
      case atStart => exact ⟨i, dk, rfl, by omega, Nat.le_refl _, HSk.out, rfl⟩
      case round =>
        obtain ⟨j, dj, rfl, haj, hji, hS, hI⟩ := hrel
        rename World => wq
        have HI := Lib.hid hI
        clear hI HSk HS
        by_cases hja : a < j
        · obtain ⟨q, hjq⟩ : ∃ q, j = q + 1 := ⟨j - 1, by omega⟩
          obtain ⟨zi, zf, hxi, hBG, lbG⟩ := hS.at_ (j := j) (by omega)
          obtain ⟨zj, _, hxj, _, _⟩ := hS.at_ (j := q) (by omega)
          have hl0 : ltN dj[j]! dj[q]! = true → insInner ltN a j dj = insInner ltN a q (swp dj j q) := by rw [hjq]; exact insInner_go9 a q dj (by omega)
          have hl1 : ltN dj[j]! dj[q]! = false → insInner ltN a j dj = dj := by rw [hjq]; exact insInner_end9 a q dj
          have hsw := fun W (hW : SA w0 B G n c dj W) => hW.swp (i := j) (j := q) (by omega) (by omega)
          obtain ⟨xi, hxi'⟩ : ∃ x, dj[j]! = x := ⟨_, rfl⟩
          obtain ⟨xj, hxj'⟩ : ∃ x, dj[q]! = x := ⟨_, rfl⟩
          rw [hxi', hxj'] at hl0 hl1
          rw [hxi'] at zi
          rw [hxj'] at zj
          simp only [hxi', hxj'] at hsw
          have HSW := Lib.hid hsw
          have HSJ := Lib.hid hS
          have HJQ : Hid (j = q + 1 ∧ a < j) := Lib.hid ⟨hjq, hja⟩
          have KS : Hid (∀ w', Ext wq w' → w'.cell? ⟨G, j, none⟩ = some (.int .u32 (xi : Nat)) ∧ w'.cell? ⟨G, q, none⟩ = some (.int .u32 (xj : Nat))) := Lib.hid (fun w' hE => ⟨hE.cell zi, hE.cell zj⟩)
          have hd1 : decide (a < j) = true := decide_eq_true hja
          have hd2 : decide ((a : Int) < (j : Int)) = true := decide_eq_true (by omega)
          have hj1 : (j : Int) - 1 = (q : Int) := by omega
          have hj0 : (0 : Int) ≤ j := by omega
          have hq0 : (0 : Int) ≤ q := by omega
          have hjn : (j : Int) < n := by omega
          have hqn : (q : Int) < n := by omega
          have hw1 : IntKind.i64.wrap (q : Int) = (q : Int) := IntWalk.i64_in _ (by omega)
          cases hl : ltN xi xj with
          | true =>
            have HF1 : Hid (∀ w', Ext wq w' → Calls Try.prog 45 #[.int .u32 (xi : Nat), .int .u32 (xj : Nat)] w' fun ed w'' => ed = .returned (.bool true) ∧ Ext wq w'') := Lib.hid fun w' hE => by
              refine (qless_any xi xj w').mono ?_
              rintro ed w'' ⟨rfl, h2⟩
              exact ⟨by rw [hl], hE.trans h2⟩
            have HL := Lib.hid (hl0 hl)
            clear hl0 hl1 hl hxi' hxj' hsw hS hxi hxj hja haj hjq
            go_wp2_with fail
            refine wp_region_class (Ext wq) (by kernel_rfl) (by kernel_rfl) (Ext.refl _).drew ?_
            try simp only [List.append_eq, List.cons_append, List.nil_append]
            repeat (first
              | go_big_quiet_skip
              | (go_big_quiet_want
                 first
                 | (go_big_quiet_op; go_big_quiet_on)
                 | (unfold Oper.quiet
                    apply Exists.intro
                    refine ⟨fun w' hC => ?_, ?_⟩
                    · (obtain ⟨k1, k2⟩ := KS.out w' hC
                       unfold Oper.quietAt
                       go_simp
                       first
                       | exact rfl
                       | (with_reducible exact HF1.out w' hC))
                    go_simp
                    go_big_quiet_on)
                 | (go_big_quiet_op
                    apply Exists.intro
                    refine ⟨fun w' hC => ?_, ?_⟩
                    · exact HF1.out w' hC
                    go_big_quiet_on)))
            refine wpQuiet_nil ?_
            intro w9 hC9
            replace zi := hC9.cell zi
            replace zj := hC9.cell zj
            have HS9 := Lib.hid (HSW.out w9 (HSJ.out.ext hC9))
            have zfi : w9.frozen? ⟨G, j, none⟩ = false := (Below.frozen hC9 (p := ⟨G, j, none⟩) lbG).trans (zf j)
            have zfj : w9.frozen? ⟨G, q, none⟩ = false := (Below.frozen hC9 (p := ⟨G, q, none⟩) lbG).trans (zf q)
            have lb9 : G < w9.heap.size := Nat.lt_of_lt_of_le lbG hC9.size
            clear HSW hC9 HSJ KS HF1 zf lbG
            go_wp2_with fail
            go_region_law (fail)
            all_goals go_wp2_with fail
            all_goals go_roundw
            all_goals first
              | exact ⟨q, swp dj j q, rfl, by have := HJQ.out; omega, by have := HJQ.out; omega, HS9.out.drew, by rw [← HI.out, HL.out]⟩
              | (simp [intOf]; have := HJQ.out; omega)
              | fail
          | false =>
            have HF1 : Hid (∀ w', Ext wq w' → Calls Try.prog 45 #[.int .u32 (xi : Nat), .int .u32 (xj : Nat)] w' fun ed w'' => ed = .returned (.bool false) ∧ Ext wq w'') := Lib.hid fun w' hE => by
              refine (qless_any xi xj w').mono ?_
              rintro ed w'' ⟨rfl, h2⟩
              exact ⟨by rw [hl], hE.trans h2⟩
            have HL := Lib.hid (hl1 hl)
            clear hl0 hl1 hl hxi' hxj' hsw hS hxi hxj hja haj hjq
            go_wp2_with fail
            refine wp_region_class (Ext wq) (by kernel_rfl) (by kernel_rfl) (Ext.refl _).drew ?_
            try simp only [List.append_eq, List.cons_append, List.nil_append]
            repeat (first
              | go_big_quiet_skip
              | (go_big_quiet_want
                 first
                 | (go_big_quiet_op; go_big_quiet_on)
                 | (unfold Oper.quiet
                    apply Exists.intro
                    refine ⟨fun w' hC => ?_, ?_⟩
                    · (obtain ⟨k1, k2⟩ := KS.out w' hC
                       unfold Oper.quietAt
                       go_simp
                       first
                       | exact rfl
                       | (with_reducible exact HF1.out w' hC))
                    go_simp
                    go_big_quiet_on)
                 | (go_big_quiet_op
                    apply Exists.intro
                    refine ⟨fun w' hC => ?_, ?_⟩
                    · exact HF1.out w' hC
                    go_big_quiet_on)))
            refine wpQuiet_nil ?_
            intro w9 hC9
            go_wp2_with fail
            go_roundw
            case rel => exact ⟨i + 1, dj, by go_num, by omega, by omega, HSJ.out.ext hC9, by rw [← HO.out, insOuter_go9 a b i dk hlt, ← HI.out, HL.out]⟩
            case measure => simp [intOf]; omega
        · have HSJ := Lib.hid hS
          have hd1 : decide (a < j) = false := decide_eq_false hja
          have hd2 : decide ((a : Int) < (j : Int)) = false := decide_eq_false (by omega)
          clear hS
          go_wp2_with fail
          refine wp_region_class (Ext wq) (by kernel_rfl) (by kernel_rfl) (Ext.refl _).drew ?_
          try simp only [List.append_eq, List.cons_append, List.nil_append]
          repeat (first
            | go_big_quiet_skip
            | (go_big_quiet_want
               first
               | (go_big_quiet_op; go_big_quiet_on)
               | (unfold Oper.quiet
                  apply Exists.intro
                  refine ⟨fun w' hC => ?_, ?_⟩
                  · (skip
                     unfold Oper.quietAt
                     go_simp
                     first
                     | exact rfl)
                  go_simp
                  go_big_quiet_on)))
          refine wpQuiet_nil ?_
          intro w9 hC9
          go_wp2_with fail
          go_roundw
          case rel => exact ⟨i + 1, dj, by go_num, by omega, by omega, HSJ.out.ext hC9, by rw [← HO.out, insOuter_go9 a b i dk hlt, ← HI.out, insInner_low9 a j dj (by omega)]⟩
          case measure => simp [intOf]; omega
    · go_wp2_with fail
      go_end0
      exact ⟨rfl, by unfold insertionSort; rw [← HO.out, insOuter_end9 a b i dk hlt]; exact HSk.out⟩
end Go.Proofs.Ytofiokegdgdacaa

/- Sorting words: the heap. -/
namespace Go.Proofs.Ytofiokegdgdacaa
open Go.BigFrame
open Go.RowKit Go.Proofs.Ytofiokegdgdacaa.Plain

open Go.Sort (swp siftDown heapBuild heapPop heapSort)
theorem sift_end9 (hi F r : Nat) (d : Array Nat) (h : hi ≤ 2 * r + 1) : siftDown ltN hi F r d = d := by rw [siftDown, dif_pos h]
theorem sift_two9 (hi F r : Nat) (d : Array Nat) (h : 2 * r + 2 < hi) (h2 : ltN d[F + (2 * r + 1)]! d[F + (2 * r + 1) + 1]! = true) :
    (ltN d[F + r]! d[F + (2 * r + 2)]! = false → siftDown ltN hi F r d = d) ∧ (ltN d[F + r]! d[F + (2 * r + 2)]! = true → siftDown ltN hi F r d = siftDown ltN hi F (2 * r + 2) (swp d (F + r) (F + (2 * r + 2)))) := by
  constructor <;> intro h3 <;> rw [siftDown, dif_neg (by omega), if_pos (by rw [h2]; simp; omega), h3]
  · simp
  · simp [h]
theorem sift_one9 (hi F r : Nat) (d : Array Nat) (h : 2 * r + 1 < hi) (h2 : ¬ (2 * r + 2 < hi) ∨ ltN d[F + (2 * r + 1)]! d[F + (2 * r + 1) + 1]! = false) :
    (ltN d[F + r]! d[F + (2 * r + 1)]! = false → siftDown ltN hi F r d = d) ∧ (ltN d[F + r]! d[F + (2 * r + 1)]! = true → siftDown ltN hi F r d = siftDown ltN hi F (2 * r + 1) (swp d (F + r) (F + (2 * r + 1)))) := by
  have h4 : ¬ (2 * r + 1 + 1 < hi && ltN d[F + (2 * r + 1)]! d[F + (2 * r + 1) + 1]!) = true := by
    rcases h2 with h2 | h2
    · simp; omega
    · rw [h2]; simp
  constructor <;> intro h3 <;> rw [siftDown, dif_neg (by omega), if_neg h4, h3] <;> simp
set_option maxHeartbeats 3200000 in
set_option maxRecDepth 100000 in
theorem qsift_any (w0 : World) (B G n c lo hi F : Nat) (d : Array Nat) (w : World) (h : SA w0 B G n c d w) (hlo : lo ≤ hi) (hb : F + hi ≤ n) (hn : n ≤ 1000000) :
    Calls Try.prog 61 #[.slice (some ⟨G, 0, none⟩) n c, .int .i64 lo, .int .i64 hi, .int .i64 F] w fun ed w' => ed = .returned (.tuple #[]) ∧ SA w0 B G n c (siftDown ltN hi F lo d) w' := by
  have HS := Lib.hid h
  clear h
  go_enter Try.func61, Try.ntmps61
  go_wp2_with fail
  go_loopw [8] (fun vr wr => ∃ (r : Nat) (dk : Array Nat), vr = .int .i64 r ∧ r ≤ hi ∧ SA w0 B G n c dk wr ∧ siftDown ltN hi F r dk = siftDown ltN hi F lo d) (fun vr _ => hi - (intOf vr).toNat)
  case atStart => exact ⟨lo, d, rfl, hlo, HS.out, rfl⟩
  case round =>
    obtain ⟨r, dk, rfl, hr, hS, hO⟩ := hrel
    have HSwr := Lib.hid hS
    have HO := Lib.hid hO
    obtain ⟨c0, hc0⟩ : ∃ x, 2 * r + 1 = x := ⟨_, rfl⟩
    have hr0 : (0 : Int) ≤ r := by omega
    have hr9 : (r : Int) ≤ 1000000 := by omega
    have hcI : (2 : Int) * (r : Int) + 1 = (c0 : Int) := by omega
    have hcw : IntKind.i64.wrap ((2 : Int) * (r : Int)) = (2 : Int) * (r : Int) := IntWalk.i64_in _ (by omega)
    have hcw2 : IntKind.i64.wrap (c0 : Int) = (c0 : Int) := IntWalk.i64_in _ (by omega)
    have HC0 := Lib.hid hc0
    clear hS hO HS
    by_cases h1 : hi ≤ c0
    · have hd1 : decide ((hi : Int) ≤ (c0 : Int)) = true := decide_eq_true (by omega)
      have hd1N : decide (hi ≤ c0) = true := decide_eq_true h1
      have HE := Lib.hid (sift_end9 hi F r dk (by omega))
      clear h1
      go_wp2_with fail
      go_end0
      exact ⟨rfl, by rw [← HO.out, HE.out]; exact HSwr.out⟩
    have hd1 : decide ((hi : Int) ≤ (c0 : Int)) = false := decide_eq_false (by omega)
    have hd1N : decide (hi ≤ c0) = false := decide_eq_false h1
    obtain ⟨p, hp⟩ : ∃ x, F + r = x := ⟨_, rfl⟩
    obtain ⟨p0, hp0⟩ : ∃ x, F + c0 = x := ⟨_, rfl⟩
    have hpI : (F : Int) + (r : Int) = (p : Int) := by omega
    have hp0I : (F : Int) + (c0 : Int) = (p0 : Int) := by omega
    have hpw := wrap9 n p (by omega) (by omega)
    have hp0w := wrap9 n p0 (by omega) (by omega)
    have hpp : (0 : Int) ≤ p ∧ (p : Int) < n := by omega
    have hpp0 : (0 : Int) ≤ p0 ∧ (p0 : Int) < n := by omega
    obtain ⟨hpa, hpb⟩ := hpp
    obtain ⟨hp0a, hp0b⟩ := hpp0
    by_cases h2 : c0 + 1 < hi
    · obtain ⟨c1, hc1⟩ : ∃ x, c0 + 1 = x := ⟨_, rfl⟩
      obtain ⟨p1, hp1⟩ : ∃ x, F + c1 = x := ⟨_, rfl⟩
      have hcI1 : (c0 : Int) + 1 = (c1 : Int) := by omega
      have hcw1 : IntKind.i64.wrap (c1 : Int) = (c1 : Int) := IntWalk.i64_in _ (by omega)
      have hp1I : (F : Int) + (c1 : Int) = (p1 : Int) := by omega
      have hp1J : (p0 : Int) + 1 = (p1 : Int) := by omega
      have hp1w := wrap9 n p1 (by omega) (by omega)
      obtain ⟨hp1a, hp1b⟩ : (0 : Int) ≤ p1 ∧ (p1 : Int) < n := by omega
      have hd2 : decide ((c1 : Int) < (hi : Int)) = true := decide_eq_true (by omega)
      have hd3 : decide (c1 < hi) = true := decide_eq_true (by omega)
      obtain ⟨x0, hx0⟩ : ∃ x, dk[p0]! = x := ⟨_, rfl⟩
      have Hx0 := Lib.hid hx0
      obtain ⟨x1, hx1⟩ : ∃ x, dk[p1]! = x := ⟨_, rfl⟩
      have Hx1 := Lib.hid hx1
      obtain ⟨xr, hxr⟩ : ∃ x, dk[p]! = x := ⟨_, rfl⟩
      have Hxr := Lib.hid hxr
      have hone : ltN x0 x1 = false → _ := fun h9 => sift_one9 hi F r dk (by omega) (.inr (by rw [hc0, hp0, show p0 + 1 = p1 by omega, hx0, hx1]; exact h9))
      have htwo : ltN x0 x1 = true → _ := fun h9 => sift_two9 hi F r dk (by omega) (by rw [hc0, hp0, show p0 + 1 = p1 by omega, hx0, hx1]; exact h9)
      rw [show 2 * r + 2 = c1 by omega, hp, hp1, hxr, hx1] at htwo
      rw [hc0, hp, hp0, hxr, hx0] at hone
      have HI : Hid ((p = F + r ∧ p0 = F + c0 ∧ p1 = F + c1) ∧ r < c0 ∧ c0 < c1 ∧ c1 < hi) := Lib.hid ⟨⟨hp.symm, hp0.symm, hp1.symm⟩, by omega, by omega, by omega⟩
      have hpn : p < n ∧ p0 < n ∧ p1 < n := by omega
      clear hx0 hx1 hxr hp hp0 hp1 hc0 hc1 h1 h2
      cases hl : ltN x0 x1 with
      | true =>
        have h3 := htwo hl
        clear hone htwo
        have KSwr := Lib.hid (HSwr.out.reads (i := p0) (j := p1) (by omega) (by omega) Hx0.out Hx1.out)
        have HFwr := Lib.hid (qless_cls x0 x1 true hl wr)
        go_wp2_with fail
        refine wp_region_class (Ext wr) (by kernel_rfl) (by kernel_rfl) (Ext.refl _).drew ?_
        try simp only [List.append_eq, List.cons_append, List.nil_append]
        repeat (first
          | go_big_quiet_skip
          | (go_big_quiet_want
             first
             | (go_big_quiet_op; go_big_quiet_on)
             | (unfold Oper.quiet
                apply Exists.intro
                refine ⟨fun w' hC => ?_, ?_⟩
                · (obtain ⟨k1, k2⟩ := KSwr.out w' hC
                   unfold Oper.quietAt
                   go_simp
                   first
                   | exact rfl
                   | (with_reducible exact HFwr.out w' hC))
                go_simp
                go_big_quiet_on)
             | (go_big_quiet_op
                apply Exists.intro
                refine ⟨fun w' hC => ?_, ?_⟩
                · exact HFwr.out w' hC
                go_big_quiet_on)))
        refine wpQuiet_nil ?_
        intro w5 hCw5
        have HSw5 := Lib.hid (HSwr.out.ext hCw5)
        clear KSwr HFwr HSwr hCw5 hl
        cases hl2 : ltN xr x1 with
        | true =>
          have HL := Lib.hid (h3.2 hl2)
          clear h3
          have KSw5 := Lib.hid (HSw5.out.reads (i := p) (j := p1) (by omega) (by omega) Hxr.out Hx1.out)
          have HFw5 := Lib.hid (qless_cls xr x1 true hl2 w5)
          go_wp2_with fail
          refine wp_region_class (Ext w5) (by kernel_rfl) (by kernel_rfl) (Ext.refl _).drew ?_
          try simp only [List.append_eq, List.cons_append, List.nil_append]
          repeat (first
            | go_big_quiet_skip
            | (go_big_quiet_want
               first
               | (go_big_quiet_op; go_big_quiet_on)
               | (unfold Oper.quiet
                  apply Exists.intro
                  refine ⟨fun w' hC => ?_, ?_⟩
                  · (obtain ⟨k1, k2⟩ := KSw5.out w' hC
                     unfold Oper.quietAt
                     go_simp
                     first
                     | exact rfl
                     | (with_reducible exact HFw5.out w' hC))
                  go_simp
                  go_big_quiet_on)
               | (go_big_quiet_op
                  apply Exists.intro
                  refine ⟨fun w' hC => ?_, ?_⟩
                  · exact HFw5.out w' hC
                  go_big_quiet_on)))
          refine wpQuiet_nil ?_
          intro w6 hCw6
          have HSw6 := Lib.hid (HSw5.out.ext hCw6)
          clear KSw5 HFw5 HSw5 hCw6 hl2
          have HSW := Lib.hid (HSw6.out.swp' (i := p) (j := p1) (by omega) (by omega) Hxr.out Hx1.out)
          obtain ⟨zi9, zj9, fi9, fj9, lb9⟩ := HSw6.out.two (i := p) (j := p1) (by omega) (by omega) Hxr.out Hx1.out
          go_wp2_with fail
          go_region_law (fail)
          all_goals go_wp2_with fail
          all_goals go_roundw
          all_goals first
            | exact ⟨c1, _, rfl, by have := HI.out; omega, HSW.out.drew, by rw [← HO.out, HL.out]⟩
            | (simp [intOf]; have := HI.out; omega)
            | fail
        | false =>
          have HL := Lib.hid (h3.1 hl2)
          clear h3
          have KSw5 := Lib.hid (HSw5.out.reads (i := p) (j := p1) (by omega) (by omega) Hxr.out Hx1.out)
          have HFw5 := Lib.hid (qless_cls xr x1 false hl2 w5)
          go_wp2_with fail
          refine wp_region_class (Ext w5) (by kernel_rfl) (by kernel_rfl) (Ext.refl _).drew ?_
          try simp only [List.append_eq, List.cons_append, List.nil_append]
          repeat (first
            | go_big_quiet_skip
            | (go_big_quiet_want
               first
               | (go_big_quiet_op; go_big_quiet_on)
               | (unfold Oper.quiet
                  apply Exists.intro
                  refine ⟨fun w' hC => ?_, ?_⟩
                  · (obtain ⟨k1, k2⟩ := KSw5.out w' hC
                     unfold Oper.quietAt
                     go_simp
                     first
                     | exact rfl
                     | (with_reducible exact HFw5.out w' hC))
                  go_simp
                  go_big_quiet_on)
               | (go_big_quiet_op
                  apply Exists.intro
                  refine ⟨fun w' hC => ?_, ?_⟩
                  · exact HFw5.out w' hC
                  go_big_quiet_on)))
          refine wpQuiet_nil ?_
          intro w6 hCw6
          have HSw6 := Lib.hid (HSw5.out.ext hCw6)
          clear KSw5 HFw5 HSw5 hCw6 hl2
          go_wp2_with fail
          refine bodyPost_ret (v := .tuple #[]) (by simp [results, Try.results61, go_sem]) rfl ⟨rfl, by rw [← HO.out, HL.out]; exact HSw6.out⟩
      | false =>
        have h3 := hone hl
        clear hone htwo
        have KSwr := Lib.hid (HSwr.out.reads (i := p0) (j := p1) (by omega) (by omega) Hx0.out Hx1.out)
        have HFwr := Lib.hid (qless_cls x0 x1 false hl wr)
        go_wp2_with fail
        refine wp_region_class (Ext wr) (by kernel_rfl) (by kernel_rfl) (Ext.refl _).drew ?_
        try simp only [List.append_eq, List.cons_append, List.nil_append]
        repeat (first
          | go_big_quiet_skip
          | (go_big_quiet_want
             first
             | (go_big_quiet_op; go_big_quiet_on)
             | (unfold Oper.quiet
                apply Exists.intro
                refine ⟨fun w' hC => ?_, ?_⟩
                · (obtain ⟨k1, k2⟩ := KSwr.out w' hC
                   unfold Oper.quietAt
                   go_simp
                   first
                   | exact rfl
                   | (with_reducible exact HFwr.out w' hC))
                go_simp
                go_big_quiet_on)
             | (go_big_quiet_op
                apply Exists.intro
                refine ⟨fun w' hC => ?_, ?_⟩
                · exact HFwr.out w' hC
                go_big_quiet_on)))
        refine wpQuiet_nil ?_
        intro w5 hCw5
        have HSw5 := Lib.hid (HSwr.out.ext hCw5)
        clear KSwr HFwr HSwr hCw5 hl
        cases hl2 : ltN xr x0 with
        | true =>
          have HL := Lib.hid (h3.2 hl2)
          clear h3
          have KSw5 := Lib.hid (HSw5.out.reads (i := p) (j := p0) (by omega) (by omega) Hxr.out Hx0.out)
          have HFw5 := Lib.hid (qless_cls xr x0 true hl2 w5)
          go_wp2_with fail
          refine wp_region_class (Ext w5) (by kernel_rfl) (by kernel_rfl) (Ext.refl _).drew ?_
          try simp only [List.append_eq, List.cons_append, List.nil_append]
          repeat (first
            | go_big_quiet_skip
            | (go_big_quiet_want
               first
               | (go_big_quiet_op; go_big_quiet_on)
               | (unfold Oper.quiet
                  apply Exists.intro
                  refine ⟨fun w' hC => ?_, ?_⟩
                  · (obtain ⟨k1, k2⟩ := KSw5.out w' hC
                     unfold Oper.quietAt
                     go_simp
                     first
                     | exact rfl
                     | (with_reducible exact HFw5.out w' hC))
                  go_simp
                  go_big_quiet_on)
               | (go_big_quiet_op
                  apply Exists.intro
                  refine ⟨fun w' hC => ?_, ?_⟩
                  · exact HFw5.out w' hC
                  go_big_quiet_on)))
          refine wpQuiet_nil ?_
          intro w6 hCw6
          have HSw6 := Lib.hid (HSw5.out.ext hCw6)
          clear KSw5 HFw5 HSw5 hCw6 hl2
          have HSW := Lib.hid (HSw6.out.swp' (i := p) (j := p0) (by omega) (by omega) Hxr.out Hx0.out)
          obtain ⟨zi9, zj9, fi9, fj9, lb9⟩ := HSw6.out.two (i := p) (j := p0) (by omega) (by omega) Hxr.out Hx0.out
          go_wp2_with fail
          go_region_law (fail)
          all_goals go_wp2_with fail
          all_goals go_roundw
          all_goals first
            | exact ⟨c0, _, rfl, by have := HI.out; omega, HSW.out.drew, by rw [← HO.out, HL.out]⟩
            | (simp [intOf]; have := HI.out; omega)
            | fail
        | false =>
          have HL := Lib.hid (h3.1 hl2)
          clear h3
          have KSw5 := Lib.hid (HSw5.out.reads (i := p) (j := p0) (by omega) (by omega) Hxr.out Hx0.out)
          have HFw5 := Lib.hid (qless_cls xr x0 false hl2 w5)
          go_wp2_with fail
          refine wp_region_class (Ext w5) (by kernel_rfl) (by kernel_rfl) (Ext.refl _).drew ?_
          try simp only [List.append_eq, List.cons_append, List.nil_append]
          repeat (first
            | go_big_quiet_skip
            | (go_big_quiet_want
               first
               | (go_big_quiet_op; go_big_quiet_on)
               | (unfold Oper.quiet
                  apply Exists.intro
                  refine ⟨fun w' hC => ?_, ?_⟩
                  · (obtain ⟨k1, k2⟩ := KSw5.out w' hC
                     unfold Oper.quietAt
                     go_simp
                     first
                     | exact rfl
                     | (with_reducible exact HFw5.out w' hC))
                  go_simp
                  go_big_quiet_on)
               | (go_big_quiet_op
                  apply Exists.intro
                  refine ⟨fun w' hC => ?_, ?_⟩
                  · exact HFw5.out w' hC
                  go_big_quiet_on)))
          refine wpQuiet_nil ?_
          intro w6 hCw6
          have HSw6 := Lib.hid (HSw5.out.ext hCw6)
          clear KSw5 HFw5 HSw5 hCw6 hl2
          go_wp2_with fail
          refine bodyPost_ret (v := .tuple #[]) (by simp [results, Try.results61, go_sem]) rfl ⟨rfl, by rw [← HO.out, HL.out]; exact HSw6.out⟩
    · obtain ⟨c1, hc1⟩ : ∃ x, c0 + 1 = x := ⟨_, rfl⟩
      have hcI1 : (c0 : Int) + 1 = (c1 : Int) := by omega
      have hcw1 : IntKind.i64.wrap (c1 : Int) = (c1 : Int) := IntWalk.i64_in _ (by omega)
      have hd2 : decide ((c1 : Int) < (hi : Int)) = false := decide_eq_false (by omega)
      have hd3 : decide (c1 < hi) = false := decide_eq_false (by omega)
      obtain ⟨x0, hx0⟩ : ∃ x, dk[p0]! = x := ⟨_, rfl⟩
      have Hx0 := Lib.hid hx0
      obtain ⟨xr, hxr⟩ : ∃ x, dk[p]! = x := ⟨_, rfl⟩
      have Hxr := Lib.hid hxr
      have h3 := sift_one9 hi F r dk (by omega) (.inl (by omega))
      rw [hc0, hp, hp0, hxr, hx0] at h3
      have HI : Hid (r < c0 ∧ c0 < hi) := Lib.hid ⟨by omega, by omega⟩
      have hpn : p < n ∧ p0 < n := by omega
      clear hx0 hxr hp hp0 hc0 hc1 h1 h2
      go_wp2_with fail
      refine wp_region_class (Ext wr) (by kernel_rfl) (by kernel_rfl) (Ext.refl _).drew ?_
      try simp only [List.append_eq, List.cons_append, List.nil_append]
      repeat (first
        | go_big_quiet_skip
        | (go_big_quiet_want
           first
           | (go_big_quiet_op; go_big_quiet_on)
           | (unfold Oper.quiet
              apply Exists.intro
              refine ⟨fun w' hC => ?_, ?_⟩
              · (skip
                 unfold Oper.quietAt
                 go_simp
                 first
                 | exact rfl)
              go_simp
              go_big_quiet_on)))
      refine wpQuiet_nil ?_
      intro w5 hC5
      have HSw5 := Lib.hid (HSwr.out.ext hC5)
      clear HSwr hC5
      cases hl2 : ltN xr x0 with
      | true =>
        have HL := Lib.hid (h3.2 hl2)
        clear h3
        have KSw5 := Lib.hid (HSw5.out.reads (i := p) (j := p0) (by omega) (by omega) Hxr.out Hx0.out)
        have HFw5 := Lib.hid (qless_cls xr x0 true hl2 w5)
        go_wp2_with fail
        refine wp_region_class (Ext w5) (by kernel_rfl) (by kernel_rfl) (Ext.refl _).drew ?_
        try simp only [List.append_eq, List.cons_append, List.nil_append]
        repeat (first
          | go_big_quiet_skip
          | (go_big_quiet_want
             first
             | (go_big_quiet_op; go_big_quiet_on)
             | (unfold Oper.quiet
                apply Exists.intro
                refine ⟨fun w' hC => ?_, ?_⟩
                · (obtain ⟨k1, k2⟩ := KSw5.out w' hC
                   unfold Oper.quietAt
                   go_simp
                   first
                   | exact rfl
                   | (with_reducible exact HFw5.out w' hC))
                go_simp
                go_big_quiet_on)
             | (go_big_quiet_op
                apply Exists.intro
                refine ⟨fun w' hC => ?_, ?_⟩
                · exact HFw5.out w' hC
                go_big_quiet_on)))
        refine wpQuiet_nil ?_
        intro w6 hCw6
        have HSw6 := Lib.hid (HSw5.out.ext hCw6)
        clear KSw5 HFw5 HSw5 hCw6 hl2
        have HSW := Lib.hid (HSw6.out.swp' (i := p) (j := p0) (by omega) (by omega) Hxr.out Hx0.out)
        obtain ⟨zi9, zj9, fi9, fj9, lb9⟩ := HSw6.out.two (i := p) (j := p0) (by omega) (by omega) Hxr.out Hx0.out
        go_wp2_with fail
        go_region_law (fail)
        all_goals go_wp2_with fail
        all_goals go_roundw
        all_goals first
          | exact ⟨c0, _, rfl, by have := HI.out; omega, HSW.out.drew, by rw [← HO.out, HL.out]⟩
          | (simp [intOf]; have := HI.out; omega)
          | fail
      | false =>
        have HL := Lib.hid (h3.1 hl2)
        clear h3
        have KSw5 := Lib.hid (HSw5.out.reads (i := p) (j := p0) (by omega) (by omega) Hxr.out Hx0.out)
        have HFw5 := Lib.hid (qless_cls xr x0 false hl2 w5)
        go_wp2_with fail
        refine wp_region_class (Ext w5) (by kernel_rfl) (by kernel_rfl) (Ext.refl _).drew ?_
        try simp only [List.append_eq, List.cons_append, List.nil_append]
        repeat (first
          | go_big_quiet_skip
          | (go_big_quiet_want
             first
             | (go_big_quiet_op; go_big_quiet_on)
             | (unfold Oper.quiet
                apply Exists.intro
                refine ⟨fun w' hC => ?_, ?_⟩
                · (obtain ⟨k1, k2⟩ := KSw5.out w' hC
                   unfold Oper.quietAt
                   go_simp
                   first
                   | exact rfl
                   | (with_reducible exact HFw5.out w' hC))
                go_simp
                go_big_quiet_on)
             | (go_big_quiet_op
                apply Exists.intro
                refine ⟨fun w' hC => ?_, ?_⟩
                · exact HFw5.out w' hC
                go_big_quiet_on)))
        refine wpQuiet_nil ?_
        intro w6 hCw6
        have HSw6 := Lib.hid (HSw5.out.ext hCw6)
        clear KSw5 HFw5 HSw5 hCw6 hl2
        go_wp2_with fail
        refine bodyPost_ret (v := .tuple #[]) (by simp [results, Try.results61, go_sem]) rfl ⟨rfl, by rw [← HO.out, HL.out]; exact HSw6.out⟩
end Go.Proofs.Ytofiokegdgdacaa

/- Sorting words: by the heap. -/
namespace Go.Proofs.Ytofiokegdgdacaa
open Go.BigFrame
open Go.RowKit Go.Proofs.Ytofiokegdgdacaa.Plain

open Go.Sort (swp siftDown heapBuild heapPop heapSort)
set_option maxHeartbeats 3200000 in
set_option maxRecDepth 100000 in
theorem qheap_any (w0 : World) (B G n c a b : Nat) (d : Array Nat) (w : World) (h : SA w0 B G n c d w) (hab : a < b) (hb : b ≤ n) (hn : n ≤ 1000000) :
    Calls Try.prog 52 #[.slice (some ⟨G, 0, none⟩) n c, .int .i64 a, .int .i64 b] w fun ed w' => ed = .returned (.tuple #[]) ∧ SA w0 B G n c (heapSort ltN d a b) w' := by
  have HS := Lib.hid h
  have HSIFT := Lib.hid (fun lo hi (d : Array Nat) w h h1 h2 => qsift_any w0 B G n c lo hi a d w h h1 h2 hn)
  obtain ⟨m, hm⟩ : ∃ m, b - a = m := ⟨_, rfl⟩
  obtain ⟨k0, hk0⟩ : ∃ x, (m - 1) / 2 = x := ⟨_, rfl⟩
  have hmI : (b : Int) - (a : Int) = (m : Int) := by omega
  have hmw := wrap9 n m (by omega) (by omega)
  have hkI : ((m : Int) - 1).tdiv 2 = (k0 : Int) := by rw [Int.tdiv_eq_ediv_of_nonneg (by omega)]; omega
  have hkI2 : ((m : Int) - 1) / 2 = (k0 : Int) := by omega
  have hmw2 : IntKind.i64.wrap ((m : Int) - 1) = (m : Int) - 1 := IntWalk.i64_in _ (by omega)
  have hkw := wrap9 n k0 (by omega) (by omega)
  have hm1 : (1 : Int) ≤ m := by omega
  have hm9 : (m : Int) ≤ 1000000 := by omega
  have HH : Hid (heapSort ltN d a b = heapPop ltN a m (heapBuild ltN m a (k0 + 1) d)) := Lib.hid (by unfold heapSort; rw [hm, hk0])
  have HMN : Hid (a + m ≤ n ∧ k0 < m ∧ a < n) := Lib.hid (by omega)
  have ha0 : (0 : Int) ≤ a := by omega
  have han : (a : Int) < n := by omega
  clear h hm hk0 hab hb
  go_enter Try.func52, Try.ntmps52
  go_wp2_with fail
  go_loopw [9] (fun v wr => ∃ (z : Int) (k : Nat) (dk : Array Nat), v = .int .i64 z ∧ z = (k : Int) - 1 ∧ k ≤ k0 + 1 ∧ SA w0 B G n c dk wr ∧ heapBuild ltN m a k dk = heapBuild ltN m a (k0 + 1) d) (fun v _ => (intOf v + 1).toNat)
  case atStart => exact ⟨(k0 : Int), k0 + 1, d, rfl, by omega, Nat.le_refl _, HS.out, rfl⟩
  case round =>
    obtain ⟨z, k, dk, rfl, hz, hk, hS, hO⟩ := hrel
    have HSk := Lib.hid hS
    have HO := Lib.hid hO
    clear hS hO HS
    cases k with
    | succ q =>
      obtain rfl : z = (q : Int) := by omega
      have hd1 : decide ((0 : Int) ≤ (q : Int)) = true := decide_eq_true (by omega)
      have hq9 : (q : Int) ≤ 1000000 := by have := HMN.out; omega
      have hq0 : (0 : Int) ≤ q := by omega
      clear hz
      go_wp2_with fail
      refine (HSIFT.out q m dk _ HSk.out (by have := HMN.out; omega) HMN.out.1).mono ?_
      rintro ed w5 ⟨rfl, hS5⟩
      have HS5 := Lib.hid hS5
      clear hS5
      go_wp2_with fail
      go_roundw
      case rel => exact ⟨(q : Int) - 1, q, _, rfl, rfl, by omega, HS5.out, by rw [← HO.out]; rfl⟩
      case measure => first | (simp [intOf]; done) | (simp [intOf]; omega)
    | zero =>
      have hz0 : z < 0 := by omega
      have hd1 : decide ((0 : Int) ≤ z) = false := decide_eq_false (by omega)
      have HB : Hid (dk = heapBuild ltN m a (k0 + 1) d) := Lib.hid HO.out
      clear hz HO
      rw [← HB.out] at HH
      clear HB
      go_wp2_with fail
      go_loopw [10] (fun v wq => ∃ (z : Int) (k : Nat) (dj : Array Nat), v = .int .i64 z ∧ z = (k : Int) - 1 ∧ k ≤ m ∧ SA w0 B G n c dj wq ∧ heapPop ltN a k dj = heapPop ltN a m dk) (fun v _ => (intOf v + 1).toNat)
      case atStart => exact ⟨(m : Int) - 1, m, dk, rfl, rfl, Nat.le_refl _, HSk.out, rfl⟩
      case round =>
        obtain ⟨y, k, dj, rfl, hy, hk2, hS, hO⟩ := hrel
        rename World => wq
        have HSwq := Lib.hid hS
        have HO := Lib.hid hO
        clear hS hO HSk
        cases k with
        | succ q =>
          obtain rfl : y = (q : Int) := by omega
          obtain ⟨p, hp⟩ : ∃ x, a + q = x := ⟨_, rfl⟩
          have hpI : (a : Int) + (q : Int) = (p : Int) := by omega
          have hpn : a + m ≤ n ∧ a < n := ⟨HMN.out.1, HMN.out.2.2⟩
          have hpw := wrap9 n p (by omega) (by omega)
          have hd1 : decide ((0 : Int) ≤ (q : Int)) = true := decide_eq_true (by omega)
          have hq9 : (q : Int) ≤ 1000000 := by omega
          have hq0 : (0 : Int) ≤ q := by omega
          have hp0 : (0 : Int) ≤ p := by omega
          have hp1 : (p : Int) < n := by omega
          have hp2 : p < n := by omega
          obtain ⟨xa, hxa⟩ : ∃ x, dj[a]! = x := ⟨_, rfl⟩
          have Hxa := Lib.hid hxa
          obtain ⟨xp, hxp⟩ : ∃ x, dj[p]! = x := ⟨_, rfl⟩
          have Hxp := Lib.hid hxp
          have HP : Hid (heapPop ltN a (q + 1) dj = heapPop ltN a q (siftDown ltN q a 0 (swp dj a p))) := Lib.hid (by rw [← hp]; rfl)
          by_cases hpa : p = a
          · subst hpa
            obtain rfl : xa = xp := hxa.symm.trans hxp
            clear hy hp hxa hxp
            have HSW := Lib.hid (HSwq.out.swp' (i := p) (j := p) (by omega) (by omega) Hxa.out Hxa.out)
            obtain ⟨zi9, zj9, fi9, fj9, lb9⟩ := HSwq.out.two (i := p) (j := p) (by omega) (by omega) Hxa.out Hxa.out
            go_wp2_with fail
            go_region_law (fail)
            all_goals go_wp2_with fail
            all_goals (
              refine (HSIFT.out 0 q _ _ HSW.out.drew (Nat.zero_le _) (by omega)).mono ?_
              rintro ed w5 ⟨rfl, hS5⟩
              have HS5 := Lib.hid hS5
              clear hS5
              go_wp2_with fail
              go_roundw
              case rel => exact ⟨(q : Int) - 1, q, _, rfl, rfl, by omega, HS5.out, by rw [← HO.out, HP.out]⟩
              case measure => first | (simp [intOf]; done) | (simp [intOf]; omega))
          · have hpa2 : a < p := by omega
            clear hy hp hxa hxp hpa
            have HSW := Lib.hid (HSwq.out.swp' (i := a) (j := p) (by omega) (by omega) Hxa.out Hxp.out)
            obtain ⟨zi9, zj9, fi9, fj9, lb9⟩ := HSwq.out.two (i := a) (j := p) (by omega) (by omega) Hxa.out Hxp.out
            go_wp2_with fail
            go_region_law (fail)
            all_goals go_wp2_with fail
            all_goals (
              refine (HSIFT.out 0 q _ _ HSW.out.drew (Nat.zero_le _) (by omega)).mono ?_
              rintro ed w5 ⟨rfl, hS5⟩
              have HS5 := Lib.hid hS5
              clear hS5
              go_wp2_with fail
              go_roundw
              case rel => exact ⟨(q : Int) - 1, q, _, rfl, rfl, by omega, HS5.out, by rw [← HO.out, HP.out]⟩
              case measure => first | (simp [intOf]; done) | (simp [intOf]; omega))
        | zero =>
          have hz0 : y < 0 := by omega
          have hd1 : decide ((0 : Int) ≤ y) = false := decide_eq_false (by omega)
          have HE : Hid (dj = heapPop ltN a m dk) := Lib.hid HO.out
          clear hy HO
          go_wp2_with fail
          go_end0
          exact ⟨rfl, by rw [HH.out, ← HE.out]; exact HSwq.out⟩
end Go.Proofs.Ytofiokegdgdacaa

/- Sorting words: a range turned round. -/
namespace Go.Proofs.Ytofiokegdgdacaa
open Go.BigFrame
open Go.RowKit Go.Proofs.Ytofiokegdgdacaa.Plain

open Go.Sort (swp reverseLoop reverseRange)
theorem rev_go9 (i j : Nat) (d : Array Nat) (h : i < j) : reverseLoop i j d = reverseLoop (i + 1) (j - 1) (swp d i j) := by rw [reverseLoop, if_pos h]
theorem rev_end9 (i j : Nat) (d : Array Nat) (h : ¬ i < j) : reverseLoop i j d = d := by rw [reverseLoop, if_neg h]
set_option maxHeartbeats 3200000 in
set_option maxRecDepth 100000 in
theorem qrev_any (w0 : World) (B G n c a b : Nat) (d : Array Nat) (w : World) (h : SA w0 B G n c d w) (hab : a < b) (hb : b ≤ n) (hn : n ≤ 1000000) :
    Calls Try.prog 55 #[.slice (some ⟨G, 0, none⟩) n c, .int .i64 a, .int .i64 b] w fun ed w' => ed = .returned (.tuple #[]) ∧ SA w0 B G n c (reverseRange d a b) w' := by
  have HS := Lib.hid h
  obtain ⟨m, hm⟩ : ∃ m, b - 1 = m := ⟨_, rfl⟩
  have hmI : (b : Int) - 1 = (m : Int) := by omega
  have hmw := wrap9 n m (by omega) (by omega)
  have HH : Hid (reverseRange d a b = reverseLoop a m d) := Lib.hid (by unfold reverseRange; rw [hm])
  have hmn : m < n := by omega
  have han : a ≤ n := by omega
  clear h hm hab hb
  go_enter Try.func55, Try.ntmps55
  go_wp2_with fail
  go_loopw [6, 7] (fun vi vj wr => ∃ (i j : Nat) (dk : Array Nat), vi = .int .i64 i ∧ vj = .int .i64 j ∧ j < n ∧ i ≤ n ∧ SA w0 B G n c dk wr ∧ reverseLoop i j dk = reverseLoop a m d) (fun vi vj _ => (intOf vj).toNat - (intOf vi).toNat)
  case atStart =>
    exact ⟨a, m, d, rfl, rfl, hmn, han, HS.out, rfl⟩
  case round =>
    obtain ⟨i, j, dk, rfl, rfl, hj, hi, hS, hO⟩ := hrel
    have HSwr := Lib.hid hS
    have HO := Lib.hid hO
    clear hS hO HS
    have hi0 : (0 : Int) ≤ i := by omega
    have hj0 : (0 : Int) ≤ j := by omega
    have hj9 : (j : Int) < n := by omega
    have hn9 : (n : Int) ≤ 1000000 := by omega
    by_cases hlt : i < j
    · have hlt' : (i : Int) < (j : Int) := by omega
      have hi9 : (i : Int) < n := by omega
      obtain ⟨q, hq⟩ : ∃ q, j - 1 = q := ⟨_, rfl⟩
      have HL := Lib.hid (rev_go9 i j dk hlt)
      rw [hq] at HL
      have hqI : (j : Int) - 1 = (q : Int) := by omega
      have hqw := wrap9 n q (by omega) (by omega)
      have HQ : Hid (q < n ∧ q + 1 = j) := Lib.hid (by omega)
      obtain ⟨xi, hxi⟩ : ∃ x, dk[i]! = x := ⟨_, rfl⟩
      have Hxi := Lib.hid hxi
      obtain ⟨xj, hxj⟩ : ∃ x, dk[j]! = x := ⟨_, rfl⟩
      have Hxj := Lib.hid hxj
      clear hxi hxj hq
      have HSW := Lib.hid (HSwr.out.swp' (i := i) (j := j) (by omega) (by omega) Hxi.out Hxj.out)
      obtain ⟨zi9, zj9, fi9, fj9, lb9⟩ := HSwr.out.two (i := i) (j := j) (by omega) (by omega) Hxi.out Hxj.out
      go_wp2_with fail
      go_region_law (fail)
      all_goals go_wp2_with fail
      all_goals go_roundw
      all_goals first
        | exact ⟨i + 1, q, _, by go_num, rfl, HQ.out.1, by omega, HSW.out.drew, by rw [← HO.out, HL.out]⟩
        | (simp [intOf]; have := HQ.out; omega)
        | fail
    · have HL := Lib.hid (rev_end9 i j dk hlt)
      go_wp2_with fail
      go_end0
      exact ⟨rfl, by rw [HH.out, ← HO.out, HL.out]; exact HSwr.out⟩
end Go.Proofs.Ytofiokegdgdacaa

/- Sorting words: a pivot is chosen. -/
namespace Go.Proofs.Ytofiokegdgdacaa
open Go.BigFrame
open Go.RowKit Go.Proofs.Ytofiokegdgdacaa.Plain

theorem SA.setOther {w0 : World} {B G n c : Nat} {d : Array Nat} {W : World} (h : SA w0 B G n c d W) {S : Nat} (hS : S ≠ G) (h0 : w0.heap.size ≤ S) (o : Nat) (v : Value) : SA w0 B G n c d (W.setCell ⟨S, o, none⟩ v) :=
  ⟨h.o.setOther (p := ⟨S, o, none⟩) (by simp [Value.ownBlock]; exact fun e => hS e.symm) v, h.e.setCell (p := ⟨S, o, none⟩) h0 v, h.sz, h.hB⟩
/-- .. and a counter in a box -/
structure SB (w0 : World) (B G n c : Nat) (d : Array Nat) (S : Nat) (W : World) : Prop where
  a : SA w0 B G n c d W
  b : ∃ s : Int, W.cell? ⟨S, 0, none⟩ = some (.int .i64 s)
  f : W.frozen? ⟨S, 0, none⟩ = false
  hS : S ≠ G
  h0 : w0.heap.size ≤ S
theorem SB.ext {w0 : World} {B G n c S : Nat} {d : Array Nat} {W W' : World} (h : SB w0 B G n c d S W) (hE : Ext W W') : SB w0 B G n c d S W' := by
  obtain ⟨s, hs⟩ := h.b
  exact ⟨h.a.ext hE, ⟨s, hE.cell hs⟩, (Below.frozen hE (p := ⟨S, 0, none⟩) (World.block_lt_of_cell? _ _ hs)).trans h.f, h.hS, h.h0⟩
theorem SB.put {w0 : World} {B G n c S : Nat} {d : Array Nat} {W : World} (h : SB w0 B G n c d S W) (v : Int) : SB w0 B G n c d S (W.setCell ⟨S, 0, none⟩ (.int .i64 v)) := by
  obtain ⟨s, hs⟩ := h.b
  refine ⟨h.a.setOther h.hS h.h0 0 _, ⟨v, World.cell?_setCell_same _ _ _ hs⟩, ?_, h.hS, h.h0⟩
  rw [World.frozen?_setCell]; exact h.f
set_option maxHeartbeats 3200000 in
set_option maxRecDepth 100000 in
theorem qord_any (w0 : World) (B G n c S i j : Nat) (d : Array Nat) (w : World) (h : SB w0 B G n c d S w) (hi : i < n) (hj : j < n) (hn : n ≤ 1000000) :
    Calls Try.prog 66 #[.slice (some ⟨G, 0, none⟩) n c, .int .i64 i, .int .i64 j, .pointer (some ⟨S, 0, none⟩)] w fun ed w' => ∃ p q : Nat, ed = .returned (.tuple #[.int .i64 p, .int .i64 q]) ∧ (p = i ∧ q = j ∨ p = j ∧ q = i) ∧ SB w0 B G n c d S w' := by
  have HB := Lib.hid h
  have HSw := Lib.hid h.a
  have hi0 : (0 : Int) ≤ i := by omega
  have hj0 : (0 : Int) ≤ j := by omega
  have hi9 : (i : Int) < n := by omega
  have hj9 : (j : Int) < n := by omega
  obtain ⟨xi, hxi⟩ : ∃ x, d[i]! = x := ⟨_, rfl⟩
  have Hxi := Lib.hid hxi
  obtain ⟨xj, hxj⟩ : ∃ x, d[j]! = x := ⟨_, rfl⟩
  have Hxj := Lib.hid hxj
  clear h hxi hxj
  go_enter Try.func66, Try.ntmps66
  cases hl : ltN xj xi with
  | true =>
    have KSw := Lib.hid (HSw.out.reads (i := j) (j := i) hj hi Hxj.out Hxi.out)
    have HFw := Lib.hid (qless_cls xj xi true hl w)
    clear hl
    go_wp2_with fail
    refine wp_region_class (Ext w) (by kernel_rfl) (by kernel_rfl) (Ext.refl _).drew ?_
    try simp only [List.append_eq, List.cons_append, List.nil_append]
    repeat (first
      | go_big_quiet_skip
      | (go_big_quiet_want
         first
         | (go_big_quiet_op; go_big_quiet_on)
         | (unfold Oper.quiet
            apply Exists.intro
            refine ⟨fun w' hC => ?_, ?_⟩
            · (obtain ⟨k1, k2⟩ := KSw.out w' hC
               unfold Oper.quietAt
               go_simp
               first
               | exact rfl
               | (with_reducible exact HFw.out w' hC))
            go_simp
            go_big_quiet_on)
         | (go_big_quiet_op
            apply Exists.intro
            refine ⟨fun w' hC => ?_, ?_⟩
            · exact HFw.out w' hC
            go_big_quiet_on)))
    refine wpQuiet_nil ?_
    intro w5 hC5
    have HB5 := Lib.hid (HB.out.ext hC5)
    obtain ⟨s, hs⟩ := HB5.out.b
    have hsf := HB5.out.f
    have lbs : S < w5.heap.size := World.block_lt_of_cell? _ _ hs
    have HB6 := Lib.hid (HB5.out.put (wrap64 (s + 1)))
    clear KSw HFw HSw hC5
    go_wp2_with fail
    refine bodyPost_ret (v := .tuple #[.int .i64 j, .int .i64 i]) (by simp [results, Try.results66, go_sem]) rfl ⟨j, i, rfl, .inr ⟨rfl, rfl⟩, HB6.out⟩
  | false =>
    have KSw := Lib.hid (HSw.out.reads (i := j) (j := i) hj hi Hxj.out Hxi.out)
    have HFw := Lib.hid (qless_cls xj xi false hl w)
    clear hl
    go_wp2_with fail
    refine wp_region_class (Ext w) (by kernel_rfl) (by kernel_rfl) (Ext.refl _).drew ?_
    try simp only [List.append_eq, List.cons_append, List.nil_append]
    repeat (first
      | go_big_quiet_skip
      | (go_big_quiet_want
         first
         | (go_big_quiet_op; go_big_quiet_on)
         | (unfold Oper.quiet
            apply Exists.intro
            refine ⟨fun w' hC => ?_, ?_⟩
            · (obtain ⟨k1, k2⟩ := KSw.out w' hC
               unfold Oper.quietAt
               go_simp
               first
               | exact rfl
               | (with_reducible exact HFw.out w' hC))
            go_simp
            go_big_quiet_on)
         | (go_big_quiet_op
            apply Exists.intro
            refine ⟨fun w' hC => ?_, ?_⟩
            · exact HFw.out w' hC
            go_big_quiet_on)))
    refine wpQuiet_nil ?_
    intro w5 hC5
    have HB5 := Lib.hid (HB.out.ext hC5)
    clear KSw HFw HSw hC5
    go_wp2_with fail
    refine bodyPost_ret (v := .tuple #[.int .i64 i, .int .i64 j]) (by simp [results, Try.results66, go_sem]) rfl ⟨i, j, rfl, .inl ⟨rfl, rfl⟩, HB5.out⟩
set_option maxHeartbeats 3200000 in
set_option maxRecDepth 100000 in
theorem qmed_any (w0 : World) (B G n c S i j k : Nat) (d : Array Nat) (w : World) (h : SB w0 B G n c d S w) (hi : i < n) (hj : j < n) (hk : k < n) (hn : n ≤ 1000000) :
    Calls Try.prog 65 #[.slice (some ⟨G, 0, none⟩) n c, .int .i64 i, .int .i64 j, .int .i64 k, .pointer (some ⟨S, 0, none⟩)] w fun ed w' => ∃ p : Nat, ed = .returned (.int .i64 p) ∧ (p = i ∨ p = j ∨ p = k) ∧ SB w0 B G n c d S w' := by
  have HB := Lib.hid h
  have HORD := Lib.hid (fun i j w h hi hj => qord_any w0 B G n c S i j d w h hi hj hn)
  have HIJ := Lib.hid (And.intro hi (And.intro hj hk))
  clear h hi hj hk
  go_enter Try.func65, Try.ntmps65
  go_wp2_with fail
  refine (HORD.out i j w HB.out HIJ.out.1 HIJ.out.2.1).mono ?_
  rintro ed w1 ⟨p1, q1, rfl, e1, h1⟩
  have HE1 : Hid (p1 < n ∧ q1 < n ∧ (p1 = i ∨ p1 = j ∨ p1 = k) ∧ (q1 = i ∨ q1 = j ∨ q1 = k)) := Lib.hid (by have := HIJ.out; omega)
  have HB1 := Lib.hid h1
  clear e1 h1 HB
  go_wp2_with fail
  refine (HORD.out q1 k w1 HB1.out HE1.out.2.1 HIJ.out.2.2).mono ?_
  rintro ed w2 ⟨p2, q2, rfl, e2, h2⟩
  have HE2 : Hid (p2 < n ∧ (p2 = i ∨ p2 = j ∨ p2 = k)) := Lib.hid (by have := HIJ.out; have := HE1.out; omega)
  have HB2 := Lib.hid h2
  clear e2 h2 HB1
  go_wp2_with fail
  refine (HORD.out p1 p2 w2 HB2.out HE1.out.1 HE2.out.1).mono ?_
  rintro ed w3 ⟨p3, q3, rfl, e3, h3⟩
  have HE3 : Hid (q3 = i ∨ q3 = j ∨ q3 = k) := Lib.hid (by have := HE2.out; have := HE1.out; omega)
  have HB3 := Lib.hid h3
  clear e3 h3 HB2
  go_wp2_with fail
  go_ret
  exact ⟨q3, rfl, HE3.out, HB3.out⟩
set_option maxHeartbeats 3200000 in
set_option maxRecDepth 100000 in
theorem qmad_any (w0 : World) (B G n c S i : Nat) (d : Array Nat) (w : World) (h : SB w0 B G n c d S w) (h1 : 1 ≤ i) (hi : i + 1 < n) (hn : n ≤ 1000000) :
    Calls Try.prog 64 #[.slice (some ⟨G, 0, none⟩) n c, .int .i64 i, .pointer (some ⟨S, 0, none⟩)] w fun ed w' => ∃ p : Nat, ed = .returned (.int .i64 p) ∧ (i - 1 ≤ p ∧ p ≤ i + 1) ∧ SB w0 B G n c d S w' := by
  have HB := Lib.hid h
  have HMED := Lib.hid (fun i j k w h hi hj hk => qmed_any w0 B G n c S i j k d w h hi hj hk hn)
  obtain ⟨a, ha⟩ : ∃ x, i - 1 = x := ⟨_, rfl⟩
  obtain ⟨b, hb⟩ : ∃ x, i + 1 = x := ⟨_, rfl⟩
  have haI : (i : Int) - 1 = (a : Int) := by omega
  have hbI : (i : Int) + 1 = (b : Int) := by omega
  have haw := wrap9 n a (by omega) (by omega)
  have hbw := wrap9 n b (by omega) (by omega)
  have HAB : Hid (i - 1 = a ∧ i + 1 = b ∧ b < n ∧ 1 ≤ i) := Lib.hid (by omega)
  clear h h1 hi ha hb
  go_enter Try.func64, Try.ntmps64
  go_wp2_with fail
  refine (HMED.out a i b w HB.out (by have := HAB.out; omega) (by have := HAB.out; omega) (by have := HAB.out; omega)).mono ?_
  rintro ed w1 ⟨p, rfl, e1, h1⟩
  have HE : Hid (i - 1 ≤ p ∧ p ≤ i + 1) := Lib.hid (by have := HAB.out; omega)
  have HB1 := Lib.hid h1
  clear e1 h1
  go_wp2_with fail
  go_ret
  exact ⟨p, rfl, HE.out, HB1.out⟩
end Go.Proofs.Ytofiokegdgdacaa

/- Sorting words: a pivot is chosen (the whole). -/
namespace Go.Proofs.Ytofiokegdgdacaa
open Go.BigFrame
open Go.RowKit Go.Proofs.Ytofiokegdgdacaa.Plain

set_option maxHeartbeats 3200000 in
set_option maxRecDepth 100000 in
theorem qpiv_any (w0 : World) (B G n c a b : Nat) (d : Array Nat) (w : World) (h : SA w0 B G n c d w) (hab : a + 12 < b) (hb : b ≤ n) (hn : n ≤ 1000000) :
    Calls Try.prog 54 #[.slice (some ⟨G, 0, none⟩) n c, .int .i64 a, .int .i64 b] w fun ed w' => ∃ (p : Nat) (hint : Int), ed = .returned (.tuple #[.int .i64 p, .int .i64 hint]) ∧ (a ≤ p ∧ p < b) ∧ SA w0 B G n c d w' := by
  have hG := (h.at_ (j := a) (by omega)).2.2.2.2
  have HB : Hid (SB w0 B G n c d w.heap.size (w.alloc (.cells #[.int .i64 0] 3))) := Lib.hid ⟨h.ext ((Ext.refl _).alloc _), ⟨0, by go_simp⟩, by go_simp, by omega, h.e.size⟩
  have HMED := Lib.hid (fun i j k w1 hh hi hj hk => qmed_any w0 B G n c w.heap.size i j k d w1 hh hi hj hk hn)
  have HMAD := Lib.hid (fun i w1 hh h1 hi => qmad_any w0 B G n c w.heap.size i d w1 hh h1 hi hn)
  obtain ⟨l, hl⟩ : ∃ x, b - a = x := ⟨_, rfl⟩
  obtain ⟨q, hq⟩ : ∃ x, l / 4 = x := ⟨_, rfl⟩
  obtain ⟨q2, hq2⟩ : ∃ x, q * 2 = x := ⟨_, rfl⟩
  obtain ⟨q3, hq3⟩ : ∃ x, q * 3 = x := ⟨_, rfl⟩
  obtain ⟨i, hi⟩ : ∃ x, a + q = x := ⟨_, rfl⟩
  obtain ⟨j, hj⟩ : ∃ x, a + q2 = x := ⟨_, rfl⟩
  obtain ⟨k, hk⟩ : ∃ x, a + q3 = x := ⟨_, rfl⟩
  have hlI : (b : Int) - (a : Int) = (l : Int) := by omega
  have hqI : (l : Int).tdiv 4 = (q : Int) := by rw [Int.tdiv_eq_ediv_of_nonneg (by omega)]; omega
  have hqI2 : (l : Int) / 4 = (q : Int) := by omega
  have hq2I : (q : Int) * 2 = (q2 : Int) := by omega
  have hq3I : (q : Int) * 3 = (q3 : Int) := by omega
  have hiI : (a : Int) + (q : Int) = (i : Int) := by omega
  have hjI : (a : Int) + (q2 : Int) = (j : Int) := by omega
  have hkI : (a : Int) + (q3 : Int) = (k : Int) := by omega
  have hlw := wrap9 n l (by omega) (by omega)
  have hqw := wrap9 n q (by omega) (by omega)
  have hq2w := wrap9 n q2 (by omega) (by omega)
  have hq3w := wrap9 n q3 (by omega) (by omega)
  have hiw := wrap9 n i (by omega) (by omega)
  have hjw := wrap9 n j (by omega) (by omega)
  have hkw := wrap9 n k (by omega) (by omega)
  have hd1 : decide ((8 : Int) ≤ (l : Int)) = true := decide_eq_true (by omega)
  have hd1N : decide (8 ≤ l) = true := decide_eq_true (by omega)
  have HI : Hid (b ≤ n ∧ 12 < l ∧ a + l = b ∧ i = a + q ∧ j = a + q2 ∧ k = a + q3 ∧ q2 = 2 * q ∧ q3 = 3 * q ∧ 4 * q ≤ l ∧ l < 4 * q + 4) := Lib.hid (by omega)
  clear h hG hab hb hl hq hq2 hq3 hi hj hk
  have FIN : ∀ (p : Nat) (w9 : World) (s : Int), w9.cell? ⟨w.heap.size, 0, none⟩ = some (.int .i64 s) → True := fun _ _ _ _ => trivial
  by_cases h50 : 50 ≤ l
  · have hd2 : decide ((50 : Int) ≤ (l : Int)) = true := decide_eq_true (by omega)
    have hd2N : decide (50 ≤ l) = true := decide_eq_true h50
    have H50 := Lib.hid h50
    clear h50
    go_enter Try.func54, Try.ntmps54
    go_wp2_with fail
    refine (HMAD.out i _ HB.out (by have := HI.out; have := H50.out; omega) (by have := HI.out; have := H50.out; omega)).mono ?_
    rintro ed w1 ⟨i1, rfl, e1, hb1⟩
    have HB1 := Lib.hid hb1
    have HE1 := Lib.hid e1
    clear hb1 e1 HB
    go_wp2_with fail
    refine (HMAD.out j _ HB1.out (by have := HI.out; have := H50.out; omega) (by have := HI.out; have := H50.out; omega)).mono ?_
    rintro ed w2 ⟨j1, rfl, e2, hb2⟩
    have HB2 := Lib.hid hb2
    have HE2 := Lib.hid e2
    clear hb2 e2 HB1
    go_wp2_with fail
    refine (HMAD.out k _ HB2.out (by have := HI.out; have := H50.out; omega) (by have := HI.out; have := H50.out; omega)).mono ?_
    rintro ed w3 ⟨k1, rfl, e3, hb3⟩
    have HB3 := Lib.hid hb3
    have HR : Hid ((a ≤ i1 ∧ i1 < b) ∧ (a ≤ j1 ∧ j1 < b) ∧ (a ≤ k1 ∧ k1 < b)) := Lib.hid (by have := HI.out; have := H50.out; have := HE1.out; have := HE2.out; omega)
    clear hb3 e3 HB2 HE1 HE2
    go_wp2_with fail
    refine (HMED.out i1 j1 k1 _ HB3.out (by have := HI.out; have := HR.out; omega) (by have := HI.out; have := HR.out; omega) (by have := HI.out; have := HR.out; omega)).mono ?_
    rintro ed w4 ⟨p, rfl, e4, hb4⟩
    have HP : Hid (a ≤ p ∧ p < b) := Lib.hid (by have := HR.out; omega)
    have HB4 := Lib.hid hb4
    clear hb4 e4 HB3 HR
    obtain ⟨s, hs⟩ := HB4.out.b
    have lbs : w.heap.size < w4.heap.size := World.block_lt_of_cell? _ _ hs
    by_cases hs0 : s = 0
    · subst hs0
      go_wp2_with fail
      refine bodyPost_ret (v := .tuple #[.int .i64 p, .int .i64 1]) (by simp [results, Try.results54, go_sem]) rfl ⟨p, 1, rfl, HP.out, HB4.out.a⟩
    have hs1 : (s == 0) = false := by simp [hs0]
    have hs1' : decide (s = 0) = false := by simp [hs0]
    by_cases hs2 : s = 12
    · subst hs2
      clear hs0 hs1 hs1'
      go_wp2_with fail
      refine bodyPost_ret (v := .tuple #[.int .i64 p, .int .i64 2]) (by simp [results, Try.results54, go_sem]) rfl ⟨p, 2, rfl, HP.out, HB4.out.a⟩
    have hs3 : (s == 12) = false := by simp [hs2]
    have hs3' : decide (s = 12) = false := by simp [hs2]
    clear hs0 hs2
    go_wp2_with fail
    refine bodyPost_ret (v := .tuple #[.int .i64 p, .int .i64 0]) (by simp [results, Try.results54, go_sem]) rfl ⟨p, 0, rfl, HP.out, HB4.out.a⟩
  · have hd2 : decide ((50 : Int) ≤ (l : Int)) = false := decide_eq_false (by omega)
    have hd2N : decide (50 ≤ l) = false := decide_eq_false h50
    clear h50
    go_enter Try.func54, Try.ntmps54
    go_wp2_with fail
    refine (HMED.out i j k _ HB.out (by have := HI.out; omega) (by have := HI.out; omega) (by have := HI.out; omega)).mono ?_
    rintro ed w4 ⟨p, rfl, e4, hb4⟩
    have HP : Hid (a ≤ p ∧ p < b) := Lib.hid (by have := HI.out; omega)
    have HB4 := Lib.hid hb4
    clear hb4 e4 HB
    obtain ⟨s, hs⟩ := HB4.out.b
    have lbs : w.heap.size < w4.heap.size := World.block_lt_of_cell? _ _ hs
    by_cases hs0 : s = 0
    · subst hs0
      go_wp2_with fail
      refine bodyPost_ret (v := .tuple #[.int .i64 p, .int .i64 1]) (by simp [results, Try.results54, go_sem]) rfl ⟨p, 1, rfl, HP.out, HB4.out.a⟩
    have hs1 : (s == 0) = false := by simp [hs0]
    have hs1' : decide (s = 0) = false := by simp [hs0]
    by_cases hs2 : s = 12
    · subst hs2
      clear hs0 hs1 hs1'
      go_wp2_with fail
      refine bodyPost_ret (v := .tuple #[.int .i64 p, .int .i64 2]) (by simp [results, Try.results54, go_sem]) rfl ⟨p, 2, rfl, HP.out, HB4.out.a⟩
    have hs3 : (s == 12) = false := by simp [hs2]
    have hs3' : decide (s = 12) = false := by simp [hs2]
    clear hs0 hs2
    go_wp2_with fail
    refine bodyPost_ret (v := .tuple #[.int .i64 p, .int .i64 0]) (by simp [results, Try.results54, go_sem]) rfl ⟨p, 0, rfl, HP.out, HB4.out.a⟩
end Go.Proofs.Ytofiokegdgdacaa

/- Sorting words: numbers that look like drawn ones. -/
namespace Go.Proofs.Ytofiokegdgdacaa
open Go.BigFrame
open Go.RowKit Go.Proofs.Ytofiokegdgdacaa.Plain

theorem u64_bits (op : BinOp) (a b : Int) : ∃ v : Nat, bits op .u64 a b = (v : Int) ∧ v < 18446744073709551616 := by
  have h1 := bits_lo_u64 op a b
  have h2 := bits_hi_u64 op a b
  exact ⟨(bits op .u64 a b).toNat, by omega, by omega⟩
/-- .. and a number in a box -/
structure SX (w0 : World) (B G n c : Nat) (d : Array Nat) (S : Nat) (W : World) : Prop where
  a : SA w0 B G n c d W
  b : ∃ x : Nat, W.cell? ⟨S, 0, none⟩ = some (.int .u64 x) ∧ x < 18446744073709551616
  f : W.frozen? ⟨S, 0, none⟩ = false
  hS : S ≠ G
  h0 : w0.heap.size ≤ S
theorem SX.ext {w0 : World} {B G n c S : Nat} {d : Array Nat} {W W' : World} (h : SX w0 B G n c d S W) (hE : Ext W W') : SX w0 B G n c d S W' := by
  obtain ⟨s, hs, h9⟩ := h.b
  exact ⟨h.a.ext hE, ⟨s, hE.cell hs, h9⟩, (Below.frozen hE (p := ⟨S, 0, none⟩) (World.block_lt_of_cell? _ _ hs)).trans h.f, h.hS, h.h0⟩
theorem SX.drew {w0 : World} {B G n c S : Nat} {d : Array Nat} {W : World} (h : SX w0 B G n c d S W) : SX w0 B G n c d S W.drew := h.ext (Ext.refl _).drew
theorem SX.put {w0 : World} {B G n c S : Nat} {d : Array Nat} {W : World} (h : SX w0 B G n c d S W) (v : Nat) (hv : v < 18446744073709551616) : SX w0 B G n c d S (W.setCell ⟨S, 0, none⟩ (.int .u64 v)) := by
  obtain ⟨s, hs, _⟩ := h.b
  refine ⟨h.a.setOther h.hS h.h0 0 _, ⟨v, World.cell?_setCell_same _ _ _ hs, hv⟩, ?_, h.hS, h.h0⟩
  rw [World.frozen?_setCell]; exact h.f
theorem SX.other {w0 : World} {B G n c S : Nat} {d d' : Array Nat} {W : World} (h : SX w0 B G n c d S W) {i j x y : Nat} (h' : SA w0 B G n c d' ((W.setCell ⟨G, i, none⟩ (.int .u32 (y : Nat))).setCell ⟨G, j, none⟩ (.int .u32 (x : Nat)))) :
    SX w0 B G n c d' S ((W.setCell ⟨G, i, none⟩ (.int .u32 (y : Nat))).setCell ⟨G, j, none⟩ (.int .u32 (x : Nat))) := by
  obtain ⟨s, hs, h9⟩ := h.b
  refine ⟨h', ⟨s, ?_, h9⟩, ?_, h.hS, h.h0⟩
  · rw [World.cell?_setCell_other _ _ _ _ (fun e => h.hS (by cases e; rfl)), World.cell?_setCell_other _ _ _ _ (fun e => h.hS (by cases e; rfl))]; exact hs
  · rw [World.frozen?_setCell, World.frozen?_setCell]; exact h.f
set_option maxHeartbeats 3200000 in
set_option maxRecDepth 100000 in
theorem qnext_any (w0 : World) (B G n c : Nat) (d : Array Nat) (R : Nat) (w : World) (h : SX w0 B G n c d R w) :
    Calls Try.prog 63 #[.pointer (some ⟨R, 0, none⟩)] w fun ed w' => ∃ y : Nat, y < 18446744073709551616 ∧ ed = .returned (.int .u64 y) ∧ SX w0 B G n c d R w' := by
  have HX := Lib.hid h
  obtain ⟨x, hx, hx9⟩ := h.b
  have hf := h.f
  have lbR : R < w.heap.size := World.block_lt_of_cell? _ _ hx
  clear hx9 h
  go_enter Try.func63, Try.ntmps63
  go_wp2_with fail
  go_region_law (fail)
  all_goals go_wp2_with fail
  all_goals (
    obtain ⟨v1, hv1, hv1'⟩ := u64_bits .xor (x : Int) (IntKind.u64.wrap ((x : Int) * 8192))
    have HX1 := (HX.out.put v1 hv1').drew
    have HVv1 := Lib.hid hv1'
    rw [hv1]
    have hcv1 : ((w.setCell ⟨R, 0, none⟩ (.int .u64 v1)).drew).cell? ⟨R, 0, none⟩ = some (.int .u64 v1) := by go_simp
    generalize (w.setCell ⟨R, 0, none⟩ (.int .u64 v1)).drew = W1 at hcv1 HX1 ⊢
    clear hv1 hv1' HX
    have hfv1 := HX1.f
    have lbv1 : R < W1.heap.size := World.block_lt_of_cell? _ _ hcv1
    replace HX1 := Lib.hid HX1
    go_wp2_with fail
    go_region_law (fail)
    all_goals go_wp2_with fail
    all_goals (
      obtain ⟨v2, hv2, hv2'⟩ := u64_bits .xor (v1 : Int) ((v1 : Int) / 128)
      have HX2 := (HX1.out.put v2 hv2').drew
      have HVv2 := Lib.hid hv2'
      rw [hv2]
      have hcv2 : ((W1.setCell ⟨R, 0, none⟩ (.int .u64 v2)).drew).cell? ⟨R, 0, none⟩ = some (.int .u64 v2) := by go_simp
      generalize (W1.setCell ⟨R, 0, none⟩ (.int .u64 v2)).drew = W2 at hcv2 HX2 ⊢
      clear hv2 hv2' HX1
      have hfv2 := HX2.f
      have lbv2 : R < W2.heap.size := World.block_lt_of_cell? _ _ hcv2
      replace HX2 := Lib.hid HX2
      go_wp2_with fail
      go_region_law (fail)
      all_goals go_wp2_with fail
      all_goals (
        obtain ⟨v3, hv3, hv3'⟩ := u64_bits .xor (v2 : Int) (IntKind.u64.wrap ((v2 : Int) * 131072))
        have HX3 := (HX2.out.put v3 hv3').drew
        have HVv3 := Lib.hid hv3'
        rw [hv3]
        have hcv3 : ((W2.setCell ⟨R, 0, none⟩ (.int .u64 v3)).drew).cell? ⟨R, 0, none⟩ = some (.int .u64 v3) := by go_simp
        generalize (W2.setCell ⟨R, 0, none⟩ (.int .u64 v3)).drew = W3 at hcv3 HX3 ⊢
        clear hv3 hv3' HX2
        have hfv3 := HX3.f
        have lbv3 : R < W3.heap.size := World.block_lt_of_cell? _ _ hcv3
        replace HX3 := Lib.hid HX3
        go_wp2_with fail
        refine bodyPost_ret (v := .int .u64 v3) (by simp [results, Try.results63, go_sem]) rfl ⟨v3, HVv3.out, rfl, HX3.out⟩)))
end Go.Proofs.Ytofiokegdgdacaa

/- Sorting words: how many bits. -/
namespace Go.Proofs.Ytofiokegdgdacaa
open Go.BigFrame
open Go.RowKit Go.Proofs.Ytofiokegdgdacaa.Plain

def lenTab : ByteArray := ⟨#[0, 1, 2, 2, 3, 3, 3, 3, 4, 4, 4, 4, 4, 4, 4, 4, 5, 5, 5, 5, 5, 5, 5, 5, 5, 5, 5, 5, 5, 5, 5, 5, 6, 6, 6, 6, 6, 6, 6, 6, 6, 6, 6, 6, 6, 6, 6, 6, 6, 6, 6, 6, 6, 6, 6, 6, 6, 6, 6, 6, 6, 6, 6, 6, 7, 7, 7, 7, 7, 7, 7, 7, 7, 7, 7, 7, 7, 7, 7, 7, 7, 7, 7, 7, 7, 7, 7, 7, 7, 7, 7, 7, 7, 7, 7, 7, 7, 7, 7, 7, 7, 7, 7, 7, 7, 7, 7, 7, 7, 7, 7, 7, 7, 7, 7, 7, 7, 7, 7, 7, 7, 7, 7, 7, 7, 7, 7, 7, 8, 8, 8, 8, 8, 8, 8, 8, 8, 8, 8, 8, 8, 8, 8, 8, 8, 8, 8, 8, 8, 8, 8, 8, 8, 8, 8, 8, 8, 8, 8, 8, 8, 8, 8, 8, 8, 8, 8, 8, 8, 8, 8, 8, 8, 8, 8, 8, 8, 8, 8, 8, 8, 8, 8, 8, 8, 8, 8, 8, 8, 8, 8, 8, 8, 8, 8, 8, 8, 8, 8, 8, 8, 8, 8, 8, 8, 8, 8, 8, 8, 8, 8, 8, 8, 8, 8, 8, 8, 8, 8, 8, 8, 8, 8, 8, 8, 8, 8, 8, 8, 8, 8, 8, 8, 8, 8, 8, 8, 8, 8, 8, 8, 8, 8, 8, 8, 8, 8, 8, 8, 8, 8, 8, 8, 8, 8, 8]⟩
set_option maxRecDepth 100000 in
theorem lenTab_ok' : ∀ y : Fin 256, 1 ≤ y.val → 2 ^ ((lenTab.data.getD y.val 0).toNat) ≤ 2 * y.val ∧ (lenTab.data.getD y.val 0).toNat ≤ 8 := by decide +kernel
theorem lenTab_ok (y : Nat) (h : y < 256) (h1 : 1 ≤ y) (r : Nat) (h9 : y < lenTab.size) (hr : (lenTab[y]'h9).toNat = r) : 2 ^ r ≤ 2 * y ∧ r ≤ 8 := by
  have h2 := lenTab_ok' ⟨y, h⟩ h1
  have e : lenTab.data.getD y 0 = lenTab[y]'h9 := by
    show lenTab.data.getD y 0 = lenTab.data[y]'h9
    exact (Array.getElem_eq_getD 0).symm
  simp only [e] at h2
  rw [← hr]; exact h2
set_option maxHeartbeats 3200000 in
set_option maxRecDepth 100000 in
theorem qlen64_any (x : Nat) (w : World) (h1 : 1 ≤ x) (h9 : x ≤ 1000000) :
    Calls Try.prog 60 #[.int .u64 x] w fun ed w' => ∃ r : Nat, ed = .returned (.int .i64 r) ∧ 2 ^ r ≤ 2 * x ∧ r ≤ 64 ∧ w' = w := by
  have hx0 : (0 : Int) ≤ x := by omega
  have hd1 : decide ((4294967296 : Int) ≤ (x : Int)) = false := decide_eq_false (by omega)
  have hd1N : decide (4294967296 ≤ x) = false := decide_eq_false (by omega)
  have H1 := Lib.hid (And.intro h1 h9)
  clear h1 h9
  by_cases hA : 65536 ≤ x
  · have hd2 : decide ((65536 : Int) ≤ (x : Int)) = true := decide_eq_true (by omega)
    have hd2N : decide (65536 ≤ x) = true := decide_eq_true (by omega)
    obtain ⟨y, hy⟩ : ∃ y, x / 65536 = y := ⟨_, rfl⟩
    have hyI : (x : Int) / 65536 = (y : Int) := by omega
    have hd3 : decide ((256 : Int) ≤ (y : Int)) = false := decide_eq_false (by have := H1.out; omega)
    have hd3N : decide (256 ≤ y) = false := decide_eq_false (by have := H1.out; omega)
    have HY : Hid (1 ≤ y ∧ y < 256 ∧ 65536 * y ≤ x) := Lib.hid (by have := H1.out; omega)
    have hy9 : (y : Int) < 256 := by have := HY.out; omega
    have hy0 : (0 : Int) ≤ y := by omega
    have hyw : IntKind.u8.wrap (y : Int) = (y : Int) := by rw [IntKind.wrap_u8]; omega
    clear hA hy
    go_enter Try.func60, Try.ntmps60
    go_wp2_with fail
    generalize hr : UInt8.toNat _ = r
    have hr2 := lenTab_ok y HY.out.2.1 HY.out.1 r (by show y < 256; exact HY.out.2.1) hr
    clear hr
    have hrw : wrap64 (r : Int) = (r : Int) := IntWalk.wrap64_in _ (by omega)
    have hrw2 : wrap64 (16 + (r : Int)) = ((16 + r : Nat) : Int) := (IntWalk.wrap64_in _ (by omega)).trans (by omega)
    simp only [hrw, hrw2]
    go_ret
    exact ⟨16 + r, rfl, by have := HY.out; rw [Nat.pow_add]; omega, by omega, rfl⟩
  · have hd2 : decide ((65536 : Int) ≤ (x : Int)) = false := decide_eq_false (by omega)
    have hd2N : decide (65536 ≤ x) = false := decide_eq_false (by omega)
    by_cases hB : 256 ≤ x
    · have hd3 : decide ((256 : Int) ≤ (x : Int)) = true := decide_eq_true (by omega)
      have hd3N : decide (256 ≤ x) = true := decide_eq_true (by omega)
      obtain ⟨y, hy⟩ : ∃ y, x / 256 = y := ⟨_, rfl⟩
      have hyI : (x : Int) / 256 = (y : Int) := by omega
      have HY : Hid (1 ≤ y ∧ y < 256 ∧ 256 * y ≤ x) := Lib.hid (by omega)
      have hy9 : (y : Int) < 256 := by have := HY.out; omega
      have hy0 : (0 : Int) ≤ y := by omega
      have hyw : IntKind.u8.wrap (y : Int) = (y : Int) := by rw [IntKind.wrap_u8]; omega
      clear hA hB hy
      go_enter Try.func60, Try.ntmps60
      go_wp2_with fail
      generalize hr : UInt8.toNat _ = r
      have hr2 := lenTab_ok y HY.out.2.1 HY.out.1 r (by show y < 256; exact HY.out.2.1) hr
      clear hr
      have hrw : wrap64 (r : Int) = (r : Int) := IntWalk.wrap64_in _ (by omega)
      have hrw2 : wrap64 (8 + (r : Int)) = ((8 + r : Nat) : Int) := (IntWalk.wrap64_in _ (by omega)).trans (by omega)
      simp only [hrw, hrw2]
      go_ret
      exact ⟨8 + r, rfl, by have := HY.out; rw [Nat.pow_add]; omega, by omega, rfl⟩
    · have hd3 : decide ((256 : Int) ≤ (x : Int)) = false := decide_eq_false (by omega)
      have hd3N : decide (256 ≤ x) = false := decide_eq_false (by omega)
      have HY : Hid (1 ≤ x ∧ x < 256) := Lib.hid (by have := H1.out; omega)
      have hy9 : (x : Int) < 256 := by omega
      have hyw : IntKind.u8.wrap (x : Int) = (x : Int) := by rw [IntKind.wrap_u8]; omega
      clear hA hB
      go_enter Try.func60, Try.ntmps60
      go_wp2_with fail
      generalize hr : UInt8.toNat _ = r
      have hr2 := lenTab_ok x HY.out.2 HY.out.1 r (by show x < 256; exact HY.out.2) hr
      clear hr
      have hrw : wrap64 (r : Int) = (r : Int) := IntWalk.wrap64_in _ (by omega)
      have hrw2 : wrap64 (0 + (r : Int)) = ((0 + r : Nat) : Int) := (IntWalk.wrap64_in _ (by omega)).trans (by omega)
      simp only [hrw, hrw2]
      go_ret
      exact ⟨r, rfl, by omega, by omega, rfl⟩
set_option maxHeartbeats 3200000 in
set_option maxRecDepth 100000 in
theorem qlen_any (x : Nat) (w : World) (h1 : 1 ≤ x) (h9 : x ≤ 1000000) :
    Calls Try.prog 49 #[.int .u64 x] w fun ed w' => ∃ r : Nat, ed = .returned (.int .i64 r) ∧ 2 ^ r ≤ 2 * x ∧ r ≤ 64 ∧ w' = w := by
  have H := Lib.hid (fun w => qlen64_any x w h1 h9)
  clear h1 h9
  go_enter Try.func49, Try.ntmps49
  go_wp2_with fail
  refine (H.out w).mono ?_
  rintro ed w1 ⟨r, rfl, h1, h2, rfl⟩
  have HR := Lib.hid (And.intro h1 h2)
  clear h1 h2
  go_wp2_with fail
  go_ret
  exact ⟨r, rfl, HR.out.1, HR.out.2, rfl⟩
set_option maxHeartbeats 3200000 in
set_option maxRecDepth 100000 in
theorem qpow_any (x : Nat) (w : World) (h1 : 1 ≤ x) (h9 : x ≤ 1000000) :
    Calls Try.prog 62 #[.int .i64 x] w fun ed w' => ∃ r : Nat, ed = .returned (.int .u64 r) ∧ 1 ≤ r ∧ r ≤ 2 * x ∧ w' = w := by
  have H := Lib.hid (fun w => qlen_any x w h1 h9)
  have hxw : IntKind.u64.wrap (x : Int) = (x : Int) := by rw [IntKind.wrap_u64]; omega
  have HX := Lib.hid h9
  clear h1 h9
  go_enter Try.func62, Try.ntmps62
  go_wp2_with fail
  refine (H.out w).mono ?_
  rintro ed w1 ⟨r, rfl, h1, h2, rfl⟩
  have hr0 : (0 : Int) ≤ r := by omega
  have hr9 : (r : Int) ≤ 64 := by omega
  have hp : (2 : Int) ^ r = ((2 ^ r : Nat) : Int) := by simp
  have HR : Hid (1 ≤ 2 ^ r ∧ 2 ^ r ≤ 2 * x) := Lib.hid ⟨Nat.one_le_two_pow, h1⟩
  clear h1 h2
  obtain ⟨P, hP⟩ : ∃ P, 2 ^ r = P := ⟨_, rfl⟩
  rw [hP] at HR hp
  have hpw : IntKind.u64.wrap (P : Int) = (P : Int) := by rw [IntKind.wrap_u64]; have := HR.out; have := HX.out; omega
  clear hP
  go_wp2_with fail
  go_ret
  exact ⟨P, rfl, HR.out.1, HR.out.2, rfl⟩
end Go.Proofs.Ytofiokegdgdacaa

/- Sorting words: patterns are broken. -/
namespace Go.Proofs.Ytofiokegdgdacaa
open Go.BigFrame
open Go.RowKit Go.Proofs.Ytofiokegdgdacaa.Plain
open Go.Sort (swp PermIn)
theorem SX.swap {w0 : World} {B G n c S : Nat} {d : Array Nat} {W : World} (h : SX w0 B G n c d S W) {i j x y : Nat} (hi : i < n) (hj : j < n) (hx : d[i]! = x) (hy : d[j]! = y) :
    SX w0 B G n c (swp d i j) S ((W.setCell ⟨G, i, none⟩ (.int .u32 (y : Nat))).setCell ⟨G, j, none⟩ (.int .u32 (x : Nat))).drew :=
  (h.other (h.a.swp' hi hj hx hy)).drew
set_option maxHeartbeats 3200000 in
set_option maxRecDepth 100000 in
theorem qbrk_any (w0 : World) (B G n c a b : Nat) (d : Array Nat) (w : World) (h : SA w0 B G n c d w) (hab : a + 12 < b) (hb : b ≤ n) (hn : n ≤ 1000000) :
    Calls Try.prog 53 #[.slice (some ⟨G, 0, none⟩) n c, .int .i64 a, .int .i64 b] w fun ed w' => ∃ d', ed = .returned (.tuple #[]) ∧ PermIn a b d d' ∧ SA w0 B G n c d' w' := by
  have hG := (h.at_ (j := a) (by omega)).2.2.2.2
  have hlb : w0.heap.size ≤ w.heap.size := h.e.size
  obtain ⟨l, hl⟩ : ∃ x, b - a = x := ⟨_, rfl⟩
  obtain ⟨q, hq⟩ : ∃ x, l / 4 = x := ⟨_, rfl⟩
  obtain ⟨q2, hq2⟩ : ∃ x, q * 2 = x := ⟨_, rfl⟩
  obtain ⟨u, hu⟩ : ∃ x, a + q2 = x := ⟨_, rfl⟩
  obtain ⟨u0, hu0⟩ : ∃ x, u - 1 = x := ⟨_, rfl⟩
  obtain ⟨u1, hu1⟩ : ∃ x, u + 1 = x := ⟨_, rfl⟩
  have hlI : (b : Int) - (a : Int) = (l : Int) := by omega
  have hqI : (l : Int).tdiv 4 = (q : Int) := by rw [Int.tdiv_eq_ediv_of_nonneg (by omega)]; omega
  have hqI2 : (l : Int) / 4 = (q : Int) := by omega
  have hq2I : (q : Int) * 2 = (q2 : Int) := by omega
  have huI : (a : Int) + (q2 : Int) = (u : Int) := by omega
  have hu0I : (u : Int) - 1 = (u0 : Int) := by omega
  have hu1I : (u : Int) + 1 = (u1 : Int) := by omega
  have hlw := wrap9 n l (by omega) (by omega)
  have hqw := wrap9 n q (by omega) (by omega)
  have hq2w := wrap9 n q2 (by omega) (by omega)
  have huw := wrap9 n u (by omega) (by omega)
  have hu0w := wrap9 n u0 (by omega) (by omega)
  have hu1w := wrap9 n u1 (by omega) (by omega)
  have hlu : IntKind.u64.wrap (l : Int) = (l : Int) := by rw [IntKind.wrap_u64]; omega
  have hd1 : decide ((8 : Int) ≤ (l : Int)) = true := decide_eq_true (by omega)
  have hd1N : decide (8 ≤ l) = true := decide_eq_true (by omega)
  have HX : Hid (SX w0 B G n c d w.heap.size (w.alloc (.cells #[.int .u64 (l : Nat)] 76))) := Lib.hid ⟨h.ext ((Ext.refl _).alloc _), ⟨l, by go_simp, by omega⟩, by go_simp, by omega, hlb⟩
  have HI : Hid (b ≤ n ∧ n ≤ 1000000 ∧ 12 < l ∧ a + l = b ∧ u0 + 1 = u ∧ u + 1 = u1 ∧ a < u0 ∧ u1 < b) := Lib.hid (by omega)
  clear h hab hb hl hq hq2 hu hu0 hu1
  go_enter Try.func53, Try.ntmps53
  go_wp2_with fail
  obtain ⟨R, hR⟩ : ∃ R, w.heap.size = R := ⟨_, rfl⟩
  rw [hR] at HX
  simp only [hR]
  generalize w.alloc (.cells #[.int .u64 (l : Nat)] 76) = w2 at HX ⊢
  refine (qpow_any l w2 (by have := HI.out; omega) (by have := HI.out; omega)).mono ?_
  rintro ed w3 ⟨r, rfl, hr1, hr2, rfl⟩
  obtain ⟨r1, hr1'⟩ : ∃ x, r - 1 = x := ⟨_, rfl⟩
  have hrI : (r : Int) - 1 = (r1 : Int) := by omega
  have hrw : IntKind.u64.wrap (r1 : Int) = (r1 : Int) := by rw [IntKind.wrap_u64]; have := HI.out; omega
  have HR : Hid (r1 < 2 * l) := Lib.hid (by omega)
  clear hr1 hr2 hr1' hR
  go_wp2_with fail
  go_loopw [9] (fun v wr => ∃ (t : Nat) (dk : Array Nat), v = .int .i64 t ∧ (u0 ≤ t ∧ t ≤ u1 + 1) ∧ SX w0 B G n c dk R wr ∧ PermIn a b d dk) (fun v _ => u1 + 1 - (intOf v).toNat)
  case atStart => exact ⟨u0, d, rfl, by have := HI.out; omega, HX.out, Go.Sort.permIn_refl _ _ _⟩
  case round =>
    obtain ⟨t, dk, rfl, ht, hX, hP⟩ := hrel
    have HX2 := Lib.hid hX
    have HT := Lib.hid (And.intro ht hP)
    clear hX hP ht HX
    have ht0 : (0 : Int) ≤ t := by omega
    have ht9 : (t : Int) ≤ 1000001 := by have := HT.out.1; have := HI.out; omega
    by_cases hlt : t ≤ u1
    · have hd2 : decide ((t : Int) ≤ (u1 : Int)) = true := decide_eq_true (by omega)
      have hd2N : decide (t ≤ u1) = true := decide_eq_true hlt
      have htn : t < n ∧ a ≤ t ∧ t < b := by have := HI.out; have := HT.out.1; omega
      have HTN := Lib.hid htn
      have htn9 : (t : Int) < n := by omega
      go_wp2_with fail
      refine (qnext_any w0 B G n c dk R _ HX2.out).mono ?_
      rintro ed w5 ⟨y, hy, rfl, hX5⟩
      have HX5 := Lib.hid hX5
      obtain ⟨z, hz⟩ : ∃ z, y &&& r1 = z := ⟨_, rfl⟩
      have hzI : bits .and .u64 (y : Int) (r1 : Int) = (z : Int) := by rw [bits_and_u64_nat y r1 hy (by have := HR.out; have := HI.out; omega), hz]
      have hzr : z ≤ r1 := by rw [← hz]; exact Nat.and_le_right
      have hzw : IntKind.i64.wrap (z : Int) = (z : Int) := IntWalk.i64_in _ (by have := HR.out; have := HI.out; omega)
      have HZ : Hid (z < 2 * l) := Lib.hid (by have := HR.out; omega)
      have hz9 : (z : Int) ≤ 2000000 := by have := HZ.out; have := HI.out; omega
      clear hX5 hy hz hzr HX2
      by_cases hge : l ≤ z
      · have hd3 : decide ((l : Int) ≤ (z : Int)) = true := decide_eq_true (by omega)
        have hd3N : decide (l ≤ z) = true := decide_eq_true hge
        obtain ⟨o, ho⟩ : ∃ x, z - l = x := ⟨_, rfl⟩
        have hoI : (z : Int) - (l : Int) = (o : Int) := by omega
        have how : IntKind.i64.wrap (o : Int) = (o : Int) := IntWalk.i64_in _ (by omega)
        have HO : Hid (o < l) := Lib.hid (by have := HZ.out; omega)
        clear hge ho
        obtain ⟨p, hp⟩ : ∃ x, a + o = x := ⟨_, rfl⟩
        have hpI : (a : Int) + (o : Int) = (p : Int) := by omega
        have hpn : p < n ∧ a ≤ p ∧ p < b := by have := HI.out; have := HO.out; omega
        have HPN := Lib.hid hpn
        have hpw := wrap9 n p (by have := HI.out; omega) (by omega)
        have hp0 : (0 : Int) ≤ p := by omega
        have hp9 : (p : Int) < n := by omega
        have hPP := fun (x y : Nat) => Go.Sort.permIn_trans _ _ _ _ _ HT.out.2 (Go.Sort.swp_permIn dk a b t p HTN.out.2.1 HTN.out.2.2 HPN.out.2.1 HPN.out.2.2 (by rw [HX5.out.a.sz]; exact HI.out.1))
        have HPP := Lib.hid (hPP 0 0)
        clear hPP
        obtain ⟨xt, hxt⟩ : ∃ x, dk[t]! = x := ⟨_, rfl⟩
        have Hxt := Lib.hid hxt
        obtain ⟨xp, hxp⟩ : ∃ x, dk[p]! = x := ⟨_, rfl⟩
        have Hxp := Lib.hid hxp
        by_cases hpt : p = t
        · subst hpt
          obtain rfl : xt = xp := hxt.symm.trans hxp
          have HSW := Lib.hid (HX5.out.swap (i := p) (j := p) HPN.out.1 HPN.out.1 Hxt.out Hxt.out)
          obtain ⟨zi9, zj9, fi9, fj9, lb9⟩ := HX5.out.a.two (i := p) (j := p) HPN.out.1 HPN.out.1 Hxt.out Hxt.out
          clear hp hxt hxp
          go_wp2_with fail
          go_region_law (fail)
          all_goals go_wp2_with fail
          all_goals go_roundw
          all_goals first
            | exact ⟨p + 1, _, by go_num, by have := HT.out.1; omega, HSW.out, HPP.out⟩
            | (simp [intOf]; omega)
            | fail
        · have hpt2 : t ≠ p := fun e => hpt e.symm
          have HSW := Lib.hid (HX5.out.swap (i := t) (j := p) HTN.out.1 HPN.out.1 Hxt.out Hxp.out)
          obtain ⟨zi9, zj9, fi9, fj9, lb9⟩ := HX5.out.a.two (i := t) (j := p) HTN.out.1 HPN.out.1 Hxt.out Hxp.out
          clear hp hxt hxp hpt
          go_wp2_with fail
          go_region_law (fail)
          all_goals go_wp2_with fail
          all_goals go_roundw
          all_goals first
            | exact ⟨t + 1, _, by go_num, by have := HT.out.1; omega, HSW.out, HPP.out⟩
            | (simp [intOf]; omega)
            | fail
      · have hd3 : decide ((l : Int) ≤ (z : Int)) = false := decide_eq_false (by omega)
        have hd3N : decide (l ≤ z) = false := decide_eq_false hge
        obtain ⟨o, ho⟩ : ∃ x, z = x := ⟨_, rfl⟩
        subst ho
        have HO : Hid (z < l) := Lib.hid (by omega)
        clear hge
        obtain ⟨p, hp⟩ : ∃ x, a + z = x := ⟨_, rfl⟩
        have hpI : (a : Int) + (z : Int) = (p : Int) := by omega
        have hpn : p < n ∧ a ≤ p ∧ p < b := by have := HI.out; have := HO.out; omega
        have HPN := Lib.hid hpn
        have hpw := wrap9 n p (by have := HI.out; omega) (by omega)
        have hp0 : (0 : Int) ≤ p := by omega
        have hp9 : (p : Int) < n := by omega
        have hPP := fun (x y : Nat) => Go.Sort.permIn_trans _ _ _ _ _ HT.out.2 (Go.Sort.swp_permIn dk a b t p HTN.out.2.1 HTN.out.2.2 HPN.out.2.1 HPN.out.2.2 (by rw [HX5.out.a.sz]; exact HI.out.1))
        have HPP := Lib.hid (hPP 0 0)
        clear hPP
        obtain ⟨xt, hxt⟩ : ∃ x, dk[t]! = x := ⟨_, rfl⟩
        have Hxt := Lib.hid hxt
        obtain ⟨xp, hxp⟩ : ∃ x, dk[p]! = x := ⟨_, rfl⟩
        have Hxp := Lib.hid hxp
        by_cases hpt : p = t
        · subst hpt
          obtain rfl : xt = xp := hxt.symm.trans hxp
          have HSW := Lib.hid (HX5.out.swap (i := p) (j := p) HPN.out.1 HPN.out.1 Hxt.out Hxt.out)
          obtain ⟨zi9, zj9, fi9, fj9, lb9⟩ := HX5.out.a.two (i := p) (j := p) HPN.out.1 HPN.out.1 Hxt.out Hxt.out
          clear hp hxt hxp
          go_wp2_with fail
          go_region_law (fail)
          all_goals go_wp2_with fail
          all_goals go_roundw
          all_goals first
            | exact ⟨p + 1, _, by go_num, by have := HT.out.1; omega, HSW.out, HPP.out⟩
            | (simp [intOf]; omega)
            | fail
        · have hpt2 : t ≠ p := fun e => hpt e.symm
          have HSW := Lib.hid (HX5.out.swap (i := t) (j := p) HTN.out.1 HPN.out.1 Hxt.out Hxp.out)
          obtain ⟨zi9, zj9, fi9, fj9, lb9⟩ := HX5.out.a.two (i := t) (j := p) HTN.out.1 HPN.out.1 Hxt.out Hxp.out
          clear hp hxt hxp hpt
          go_wp2_with fail
          go_region_law (fail)
          all_goals go_wp2_with fail
          all_goals go_roundw
          all_goals first
            | exact ⟨t + 1, _, by go_num, by have := HT.out.1; omega, HSW.out, HPP.out⟩
            | (simp [intOf]; omega)
            | fail
    · have hd2 : decide ((t : Int) ≤ (u1 : Int)) = false := decide_eq_false (by omega)
      have hd2N : decide (t ≤ u1) = false := decide_eq_false hlt
      go_wp2_with fail
      go_end0
      exact ⟨dk, rfl, HT.out.2, HX2.out.a⟩
end Go.Proofs.Ytofiokegdgdacaa
