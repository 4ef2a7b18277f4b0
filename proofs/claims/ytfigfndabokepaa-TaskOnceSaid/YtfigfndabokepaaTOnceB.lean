/- What the walk of TaskOnce shares. Written by wip/mk_tonce.py. -/
import Derived.Test.YtfigfndabokepaaTAlive
import Derived.Test.YtfigfndabokepaaTOPlain
namespace Go.Proofs.Ytfigfndabokepaa
open Go.BigFrame
open Go.RowKit Go.Proofs.Ytfigfndabokepaa.Plain

/-- numbers of tasks, as they lie -/
def zs (O : List Nat) : List Int := O.map fun k : Nat => (k : Int)
theorem zs_len (O : List Nat) : (zs O).length = O.length := by unfold zs; simp
theorem zs_getD (O : List Nat) (j : Nat) : (zs O).getD j 0 = ((O.getD j 0 : Nat) : Int) := by
  unfold zs
  rw [List.getD_eq_getElem?_getD, List.getD_eq_getElem?_getD, List.getElem?_map]
  cases O[j]? <;> rfl
/-- the q-th one is gone -/
def less (O : List Nat) (q : Nat) : List Nat := O.take q ++ O.drop (q + 1)
theorem less_perm (O : List Nat) (q : Nat) (hq : q < O.length) : O.Perm (O.getD q 0 :: less O q) := by
  have e : O = O.take q ++ O.getD q 0 :: O.drop (q + 1) := by
    rw [List.getD_eq_getElem?_getD, List.getElem?_eq_getElem hq]
    exact (List.take_append_drop q O).symm.trans (by rw [List.drop_eq_getElem_cons hq]; rfl)
  have h := List.perm_middle (a := O.getD q 0) (l₁ := O.take q) (l₂ := O.drop (q + 1))
  rw [← e] at h
  exact h
theorem less_len (O : List Nat) (q : Nat) (hq : q < O.length) : (less O q).length + 1 = O.length := by unfold less; simp; omega
theorem zs_less (O : List Nat) (q : Nat) : zs (less O q) = (zs O).take q ++ (zs O).drop (q + 1) := by unfold zs less; simp [List.map_take, List.map_drop]
theorem in64_nat (k : Nat) (h : k ≤ 9223372036854775807) : in64 (k : Int) := by unfold in64; omega

/-- behind the task's leaving -/
def DropCut (w : World) (O : List Nat) (q m : Nat) (s : Value) (wx : World) : Prop := ∃ A c, s = .slice A m c ∧ Ow kInt w.heap.size wx (.slice A m c) (zs (less O q)) ∧ Ext w wx

/-- what stands, round by round -/
structure OnceAt (w0 : World) (V n g K : Nat) (ts : List Tk) (dn : List Bool) (O : List Nat) (units : Nat) (A B Ao : Option Addr) (c d co : Nat) (wr : World) : Prop where
  inv : OI g n ts dn O units
  v0 : wr.cell? ⟨V, 0, none⟩ = some (.slice A ts.length c)
  v1 : wr.cell? ⟨V, 1, none⟩ = some (.int .i64 g)
  v2 : wr.cell? ⟨V, 2, none⟩ = some (.slice B n d)
  vf : ∀ o, wr.frozen? ⟨V, o, none⟩ = false
  tsk : Rd kTask wr (.slice A ts.length c) ts
  dns : Rd kBool wr (.slice B n d) dn
  opn : Ow kInt (V + 1) wr (.slice Ao O.length co) (zs O)
  ext : Ext w0 wr
  cnt : K + O.length = ts.length

theorem doErr_zero {ts : List Tk} {g : Int} {dn : List Bool} {j : Nat} (hr : wRight ts g dn.length = true) (hj : j < ts.length) (ht : wGreat ts g dn.length j = false) (hw : (ts.getD j tk0).wt = 0) (hd : dn.getD (ts.getD j tk0).lo.toNat false = false) : doErr ts g dn j = 0 := by
  have hs : wHas ts.length (j : Int) = true := by unfold wHas; simp; omega
  have e0 : tkAt ts (j : Int) = ts.getD j tk0 := by unfold tkAt; rw [Int.toNat_natCast]
  unfold doErr
  rw [if_neg (by rw [hr]; decide), if_neg (by rw [hs]; decide), if_neg (by rw [ht]; decide), e0, if_neg (by simpa using hw), if_neg (by rw [hd]; decide)]
theorem partErr_ok {ts : List Tk} {g : Int} {n j : Nat} (hr : wRight ts g n = true) (hj : j < ts.length) (ht : wGreat ts g n j = true) (hw : (ts.getD j tk0).wt = 0) (hl : ts.length ≤ 1998) : partErr ts g n j = 0 := by
  have hs : wHas ts.length (j : Int) = true := by unfold wHas; simp; omega
  have e0 : tkAt ts (j : Int) = ts.getD j tk0 := by unfold tkAt; rw [Int.toNat_natCast]
  unfold partErr
  rw [if_neg (by rw [hr]; decide), if_neg (by rw [hs]; decide), if_neg (by rw [ht]; decide), e0, if_neg (by simpa using hw), if_neg (by omega)]

set_option maxRecDepth 100000 in
theorem tonce_great (x0 x1 : Int) (xs : List Int) (Aq : Option Addr) (cq : Nat) (W : World) (h : Rd kU16 W (.slice Aq xs.length cq) xs) (hb : 500 < xs.length) :
    Calls Try.prog 4 #[.int .u16 x0, .int .u8 x1, .slice Aq xs.length cq] W fun e w' => e = .returned (.bool true) ∧ Ext W w' := by
  have hm := h.len
  have hb2 : (500 : Int) < xs.length := by omega
  clear h
  go_enter Try.func4, Try.ntmps4
  go_wp2_with fail
  refine (talive_any _).mono ?_
  rintro e w1 ⟨rfl, hE⟩
  have E1 := Lib.hid hE
  clear hE
  go_wp2_with fail
  go_ret
  exact ⟨rfl, E1.out⟩

end Go.Proofs.Ytfigfndabokepaa
