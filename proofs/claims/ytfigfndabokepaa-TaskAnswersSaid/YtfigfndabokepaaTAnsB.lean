/- What the calls of TaskAnswers leave, the program's and the document's alike. Written by wip/mk_tans.py. -/
import Derived.Test.YtfigfndabokepaaTAlive
import Derived.Test.YtfigfndabokepaaTSame
import Derived.Test.YtfigfndabokepaaTBegin
import Derived.Test.YtfigfndabokepaaTCount
namespace Go.Proofs.Ytfigfndabokepaa
open Go.BigFrame
open Go.RowKit Go.Proofs.Ytfigfndabokepaa.Plain

def PartOut (ts : List Tk) (g : Int) (dn : List Bool) (i : Int) (U : List Tk) (p q r : Int) : Prop :=
  (partErr ts g dn.length i ≠ 0 ∧ U = ts ∧ p = 0 ∧ q = 0 ∧ r = partErr ts g dn.length i) ∨ (partErr ts g dn.length i = 0 ∧ U = partedTs ts i.toNat ∧ p = ts.length ∧ q = (ts.length : Int) + 1 ∧ r = 0)
theorem partOut (ts : List Tk) (g : Int) (dn : List Bool) (i : Int) : ∃ U p q r, PartOut ts g dn i U p q r := by
  by_cases h : partErr ts g dn.length i = 0
  · exact ⟨_, _, _, _, .inr ⟨h, rfl, rfl, rfl, rfl⟩⟩
  · exact ⟨_, _, _, _, .inl ⟨h, rfl, rfl, rfl, rfl⟩⟩
def DoOut (ts : List Tk) (g : Int) (dn : List Bool) (i : Int) (us : List Tk) (ds : List Bool) (b : Bool) (r : Int) : Prop :=
  us.length = ts.length ∧ ds.length = dn.length ∧ ((doErr ts g dn i ≠ 0 ∧ us = ts ∧ ds = dn ∧ b = false ∧ r = doErr ts g dn i) ∨
    (doErr ts g dn i = 0 ∧ climb (ts.length + 1) ts (ts.getD i.toNat tk0).up = (us, b) ∧ ds = marked dn (ts.getD i.toNat tk0).lo.toNat (ts.getD i.toNat tk0).hi.toNat ∧ r = 0))
theorem doErr_has {ts : List Tk} {g : Int} {dn : List Bool} {i : Int} (h : doErr ts g dn i = 0) : wRight ts g dn.length = true ∧ i.toNat < ts.length := by
  unfold doErr at h
  by_cases h1 : wRight ts g dn.length = false
  · rw [if_pos h1] at h; omega
  · rw [if_neg h1] at h
    by_cases h2 : wHas ts.length i = false
    · rw [if_pos h2] at h; omega
    · have h2' : wHas ts.length i = true := by simpa using h2
      have hs : 0 ≤ i ∧ i < (ts.length : Int) := by unfold wHas at h2'; simpa using h2'
      exact ⟨by simpa using h1, by omega⟩
theorem doOut (ts : List Tk) (g : Int) (dn : List Bool) (i : Int) : ∃ us ds b r, DoOut ts g dn i us ds b r := by
  by_cases h : doErr ts g dn i = 0
  · obtain ⟨hr, hj⟩ := doErr_has h
    obtain ⟨o1, o2, o3, _⟩ := tkOk_iff dn.length i.toNat (ts.getD i.toNat tk0) |>.1 (right_ok hr i.toNat hj)
    exact ⟨(climb (ts.length + 1) ts (ts.getD i.toNat tk0).up).1, marked dn (ts.getD i.toNat tk0).lo.toNat (ts.getD i.toNat tk0).hi.toNat, (climb (ts.length + 1) ts (ts.getD i.toNat tk0).up).2, 0, climb_len _ _ _, marked_len dn _ _ (by omega) (by omega), .inr ⟨h, rfl, rfl, rfl⟩⟩
  · exact ⟨_, _, _, _, rfl, rfl, .inl ⟨h, rfl, rfl, rfl, rfl⟩⟩
def BeginOut (n g : Int) (bt : List Tk) (bg : Int) (bd : List Bool) (be : Int) : Prop :=
  (cOk n g = false ∧ bt = [] ∧ bg = 0 ∧ bd = [] ∧ be = 1) ∨ (cOk n g = true ∧ bt = [⟨0, n, -1, 0⟩] ∧ bg = g ∧ bd = List.replicate n.toNat false ∧ be = 0)
theorem beginOut (n g : Int) : ∃ bt bg bd be, BeginOut n g bt bg bd be := by
  cases h : cOk n g with
  | false => exact ⟨_, _, _, _, .inl ⟨h, rfl, rfl, rfl, rfl⟩⟩
  | true => exact ⟨_, _, _, _, .inr ⟨h, rfl, rfl, rfl, rfl⟩⟩

theorem copy_u (A B : Option Addr) (c d : Nat) (ts : List Tk) (g : Int) (dn : List Bool) (w : World) (h : Rd kTask w (.slice A ts.length c) ts) (h' : Rd kBool w (.slice B dn.length d) dn) (hl : ts.length ≤ 4000) (hl' : dn.length ≤ 4000) :
    Calls Try.prog 7 #[.agg #[.slice A ts.length c, .int .i64 g, .slice B dn.length d]] w fun e w' => ∃ A c B d, e = .returned (.agg #[.slice A ts.length c, .int .i64 g, .slice B dn.length d]) ∧
      Rd kTask w' (.slice A ts.length c) ts ∧ Rd kBool w' (.slice B dn.length d) dn ∧ Ext w w' :=
  (rcopy_any A B c d ts g dn w h h' hl hl').mono fun e w' ⟨A, c, B, d, h1, h2, h3, h4⟩ => ⟨A, c, B, d, h1, h2.rd, h3.rd, h4⟩
/-- what Part leaves -/
def PartU (w : World) (U : List Tk) (g : Int) (dn : List Bool) (p q r : Int) (e : Ending) (w' : World) : Prop :=
  ∃ A c B d, e = .returned (.tuple #[.agg #[.slice A U.length c, .int .i64 g, .slice B dn.length d], .int .i64 p, .int .i64 q, .int .i64 r]) ∧ Rd kTask w' (.slice A U.length c) U ∧ Rd kBool w' (.slice B dn.length d) dn ∧ Ext w w'
theorem ppart_u (A B : Option Addr) (c d : Nat) (ts : List Tk) (dn : List Bool) (g i : Int) (U : List Tk) (p q r : Int) (w : World) (h : Rd kTask w (.slice A ts.length c) ts) (hd : Rd kBool w (.slice B dn.length d) dn) (hg : in64 g) (hi : in64 i) (hl : ts.length ≤ 4000) (hl' : dn.length ≤ 4000) (ho : PartOut ts g dn i U p q r) :
    Calls Try.prog 8 #[.agg #[.slice A ts.length c, .int .i64 g, .slice B dn.length d], .int .i64 i] w (PartU w U g dn p q r) :=
  (ppart_any A B c d ts dn g i w h hd hg hi (by omega) (by omega)).mono fun e w' hh => by
    rcases hh with ⟨h0, A, c, B, d, h1, h2, h3, h4⟩ | ⟨h0, A, c, B, d, h1, h2, h3, _, _, h4⟩
    · rcases ho with ⟨_, rfl, rfl, rfl, rfl⟩ | ⟨h9, _⟩
      · exact ⟨A, c, B, d, h1, h2, h3, h4⟩
      · exact absurd h9 h0
    · rcases ho with ⟨h9, _⟩ | ⟨_, rfl, rfl, rfl, rfl⟩
      · exact absurd h0 h9
      · exact ⟨A, c, B, d, h1, h2, h3, h4⟩
theorem rpart_u (A B : Option Addr) (c d : Nat) (ts : List Tk) (dn : List Bool) (g i : Int) (U : List Tk) (p q r : Int) (w : World) (h : Rd kTask w (.slice A ts.length c) ts) (hd : Rd kBool w (.slice B dn.length d) dn) (hg : in64 g) (hi : in64 i) (ho : PartOut ts g dn i U p q r) :
    Calls Try.prog 9 #[.agg #[.slice A ts.length c, .int .i64 g, .slice B dn.length d], .int .i64 i] w (PartU w U g dn p q r) :=
  (rpart_any A B c d ts dn g i w h hd hg hi).mono fun e w' hh => by
    rcases hh with ⟨h0, h1, h4⟩ | ⟨h0, A, c, B, d, h1, h2, h3, _, _, h4⟩
    · rcases ho with ⟨_, rfl, rfl, rfl, rfl⟩ | ⟨h9, _⟩
      · exact ⟨A, c, B, d, h1, h.ext h4, hd.ext h4, h4⟩
      · exact absurd h9 h0
    · rcases ho with ⟨h9, _⟩ | ⟨_, rfl, rfl, rfl, rfl⟩
      · exact absurd h0 h9
      · exact ⟨A, c, B, d, h1, h2, h3, h4⟩
/-- what Do leaves -/
def DoU (w : World) (us : List Tk) (g : Int) (ds : List Bool) (b : Bool) (r : Int) (e : Ending) (w' : World) : Prop :=
  ∃ A c B d, e = .returned (.tuple #[.agg #[.slice A us.length c, .int .i64 g, .slice B ds.length d], .bool b, .int .i64 r]) ∧ Rd kTask w' (.slice A us.length c) us ∧ Rd kBool w' (.slice B ds.length d) ds ∧ Ext w w'
theorem pdo_u (A B : Option Addr) (c d : Nat) (ts : List Tk) (dn : List Bool) (g i : Int) (us : List Tk) (ds : List Bool) (b : Bool) (r : Int) (w : World) (h : Rd kTask w (.slice A ts.length c) ts) (hd : Rd kBool w (.slice B dn.length d) dn) (hg : in64 g) (hi : in64 i) (hl : ts.length ≤ 4000) (hl' : dn.length ≤ 4000) (ho : DoOut ts g dn i us ds b r) :
    Calls Try.prog 10 #[.agg #[.slice A ts.length c, .int .i64 g, .slice B dn.length d], .int .i64 i] w (DoU w us g ds b r) :=
  (pdo_any A B c d ts dn g i w h hd hg hi (by omega) (by omega)).mono fun e w' hh => by
    obtain ⟨l1, l2, ho⟩ := ho
    unfold DoU
    rw [l1, l2]
    rcases hh with ⟨h0, A, c, B, d, h1, h2, h3, h4⟩ | ⟨h0, A, c, B, d, h1, h2, h3, _, _, h4⟩
    · rcases ho with ⟨_, rfl, rfl, rfl, rfl⟩ | ⟨h9, _⟩
      · exact ⟨A, c, B, d, h1, h2, h3, h4⟩
      · exact absurd h9 h0
    · rcases ho with ⟨h9, _⟩ | ⟨_, hc, rfl, rfl⟩
      · exact absurd h0 h9
      · rw [hc] at h1 h2
        exact ⟨A, c, B, d, h1, h2, h3, h4⟩
theorem rdo_u (A B : Option Addr) (c d : Nat) (ts : List Tk) (dn : List Bool) (g i : Int) (us : List Tk) (ds : List Bool) (b : Bool) (r : Int) (w : World) (h : Rd kTask w (.slice A ts.length c) ts) (hd : Rd kBool w (.slice B dn.length d) dn) (hg : in64 g) (hi : in64 i) (ho : DoOut ts g dn i us ds b r) :
    Calls Try.prog 11 #[.agg #[.slice A ts.length c, .int .i64 g, .slice B dn.length d], .int .i64 i] w (DoU w us g ds b r) :=
  (rdo_any A B c d ts dn g i w h hd hg hi).mono fun e w' hh => by
    obtain ⟨l1, l2, ho⟩ := ho
    unfold DoU
    rw [l1, l2]
    rcases hh with ⟨h0, h1, h4⟩ | ⟨h0, A, c, B, d, h1, h2, h3, _, _, h4⟩
    · rcases ho with ⟨_, rfl, rfl, rfl, rfl⟩ | ⟨h9, _⟩
      · exact ⟨A, c, B, d, h1, h.ext h4, hd.ext h4, h4⟩
      · exact absurd h9 h0
    · rcases ho with ⟨h9, _⟩ | ⟨_, hc, rfl, rfl⟩
      · exact absurd h0 h9
      · rw [hc] at h1 h2
        exact ⟨A, c, B, d, h1, h2, h3, h4⟩
/-- what Begin leaves -/
def BeginU (w : World) (bt : List Tk) (bg : Int) (bd : List Bool) (be : Int) (e : Ending) (w' : World) : Prop :=
  ∃ A c B d, e = .returned (.tuple #[.agg #[.slice A bt.length c, .int .i64 bg, .slice B bd.length d], .int .i64 be]) ∧ Rd kTask w' (.slice A bt.length c) bt ∧ Rd kBool w' (.slice B bd.length d) bd ∧ Ext w w'
theorem BeginSaid.u {w : World} {n g : Int} {bt : List Tk} {bg : Int} {bd : List Bool} {be : Int} {e : Ending} {w' : World} (hh : BeginSaid w n g e w') (ho : BeginOut n g bt bg bd be) : BeginU w bt bg bd be e w' := by
  rcases hh with ⟨h0, h1, h4⟩ | ⟨h0, A, c, B, d, h1, h2, h3, h4⟩
  · rcases ho with ⟨_, rfl, rfl, rfl, rfl⟩ | ⟨h9, _⟩
    · exact ⟨none, 0, none, 0, h1, Rd.nil _ _ _, Rd.nil _ _ _, h4⟩
    · rw [h0] at h9; cases h9
  · rcases ho with ⟨h9, _⟩ | ⟨_, rfl, rfl, rfl, rfl⟩
    · rw [h0] at h9; cases h9
    · refine ⟨A, c, B, d, ?_, h2, ?_, h4⟩
      · rw [List.length_replicate]; exact h1
      · rw [List.length_replicate]; exact h3
theorem pbegin_u (n g : Int) (bt : List Tk) (bg : Int) (bd : List Bool) (be : Int) (w : World) (hn : in64 n) (hg : in64 g) (ho : BeginOut n g bt bg bd be) :
    Calls Try.prog 12 #[.int .i64 n, .int .i64 g] w (BeginU w bt bg bd be) := (pbegin_any n g w hn hg).mono fun _ _ hh => hh.u ho
theorem rbegin_u (n g : Int) (bt : List Tk) (bg : Int) (bd : List Bool) (be : Int) (w : World) (hn : in64 n) (hg : in64 g) (ho : BeginOut n g bt bg bd be) :
    Calls Try.prog 13 #[.int .i64 n, .int .i64 g] w (BeginU w bt bg bd be) := (rbegin_any n g w hn hg).mono fun _ _ hh => hh.u ho
theorem rcount_to (n g a b : Int) (w : World) (hn : in64 n) (hg : in64 g) (ha : countT n g = a) (hb : countL n g = b) :
    Calls Try.prog 15 #[.int .i64 n, .int .i64 g] w fun e w' => e = .returned (.tuple #[.int .i64 a, .int .i64 b]) ∧ Ext w w' := by
  subst ha hb
  exact (rcount_any n g w hn hg).mono fun e w' h => ⟨h.1, h.2 ▸ Ext.refl w⟩
theorem workB_same (g : Int) (ts : List Tk) (dn : List Bool) : workB g g ts ts dn dn = true := by unfold workB; simp
/-- the same work, twice -/
theorem same_u (A B A' B' : Option Addr) (c d c' d' : Nat) (ts : List Tk) (g : Int) (dn : List Bool) (w : World) (h1 : Rd kTask w (.slice A ts.length c) ts) (h2 : Rd kBool w (.slice B dn.length d) dn) (h3 : Rd kTask w (.slice A' ts.length c') ts) (h4 : Rd kBool w (.slice B' dn.length d') dn) :
    Calls Try.prog 16 #[.agg #[.slice A ts.length c, .int .i64 g, .slice B dn.length d], .agg #[.slice A' ts.length c', .int .i64 g, .slice B' dn.length d']] w fun e w' => e = .returned (.bool true) ∧ Ext w w' :=
  (rsame_any A B A' B' c d c' d' ts ts g g dn dn w h1 h2 h3 h4).mono fun e w' h => ⟨h.1.trans (ret_bool (workB_same g ts dn)), h.2⟩
end Go.Proofs.Ytfigfndabokepaa
