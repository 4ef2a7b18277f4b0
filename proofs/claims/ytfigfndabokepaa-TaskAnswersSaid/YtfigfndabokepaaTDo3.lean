/- The document's Do of work, whole. -/
import Derived.Test.YtfigfndabokepaaTDo2
namespace Go.Proofs.Ytfigfndabokepaa
open Go.RowKit Go.Proofs.Ytfigfndabokepaa.Plain

/-- Do's word: 0, or why not -/
def doErr (ts : List Tk) (g : Int) (dn : List Bool) (i : Int) : Int :=
  if wRight ts g dn.length = false then 1 else if wHas ts.length i = false then 6 else if wGreat ts g dn.length i = true then 5 else if (tkAt ts i).wt ≠ 0 then 5 else if dn.getD (tkAt ts i).lo.toNat false = true then 5 else 0

theorem rdo_any (A B : Option Addr) (c d : Nat) (ts : List Tk) (dn : List Bool) (g i : Int) (w : World) (h : Rd kTask w (.slice A ts.length c) ts) (hd : Rd kBool w (.slice B dn.length d) dn) (hg : in64 g) (hi : in64 i) :
    Calls Try.prog 11 #[.agg #[.slice A ts.length c, .int .i64 g, .slice B dn.length d], .int .i64 i] w fun e w' =>
      (doErr ts g dn i ≠ 0 ∧ DNo w A B c d dn.length ts.length g (doErr ts g dn i) e w') ∨ (doErr ts g dn i = 0 ∧ DoSaid w ts g dn i.toNat e w') := by
  have hn := hd.len
  cases hr : wRight ts g dn.length with
  | false =>
    have he : doErr ts g dn i = 1 := by unfold doErr; rw [if_pos hr]
    rw [he]
    exact (rdo_no A B c d dn.length ts g i w h hn hg hi hr).mono fun e w' hh => .inl ⟨by decide, hh⟩
  | true =>
    cases hs : wHas ts.length i with
    | false =>
      have he : doErr ts g dn i = 6 := by unfold doErr; rw [if_neg (by rw [hr]; decide), if_pos hs]
      rw [he]
      exact (rdo_none A B c d dn.length ts g i w h hn hg hi hr hs).mono fun e w' hh => .inl ⟨by decide, hh⟩
    | true =>
      cases ht : wGreat ts g dn.length i with
      | true =>
        have he : doErr ts g dn i = 5 := by unfold doErr; rw [if_neg (by rw [hr]; decide), if_neg (by rw [hs]; decide), if_pos ht]
        rw [he]
        exact (rdo_great A B c d dn.length ts g i w h hn hg hi hr hs ht).mono fun e w' hh => .inl ⟨by decide, hh⟩
      | false =>
        have hsi : 0 ≤ i ∧ i < (ts.length : Int) := by unfold wHas at hs; simpa using hs
        obtain ⟨j, rfl⟩ : ∃ j : Nat, i = j := ⟨i.toNat, by omega⟩
        have hj : j < ts.length := by omega
        have e0 : tkAt ts (j : Int) = ts.getD j tk0 := by unfold tkAt; rw [Int.toNat_natCast]
        by_cases hw : (ts.getD j tk0).wt = 0
        · cases hf : dn.getD (ts.getD j tk0).lo.toNat false with
          | true =>
            have he : doErr ts g dn (j : Int) = 5 := by unfold doErr; rw [if_neg (by rw [hr]; decide), if_neg (by rw [hs]; decide), if_neg (by rw [ht]; decide), e0, if_neg (by simpa using hw), if_pos hf]
            rw [he]
            exact (rdo_done A B c d ts dn g j w h hd hg hr hj ht hw hf).mono fun e w' hh => .inl ⟨by decide, hh⟩
          | false =>
            have he : doErr ts g dn (j : Int) = 0 := by unfold doErr; rw [if_neg (by rw [hr]; decide), if_neg (by rw [hs]; decide), if_neg (by rw [ht]; decide), e0, if_neg (by simpa using hw), if_neg (by rw [hf]; decide)]
            rw [he]
            exact (rdo_ok A B c d ts dn g j w h hd hg hr hj ht hw hf).mono fun e w' hh => .inr ⟨rfl, by rw [Int.toNat_natCast]; exact hh⟩
        · have he : doErr ts g dn (j : Int) = 5 := by unfold doErr; rw [if_neg (by rw [hr]; decide), if_neg (by rw [hs]; decide), if_neg (by rw [ht]; decide), e0, if_pos hw]
          rw [he]
          exact (rdo_wait A B c d ts dn g j w h hd hg hr hj ht hw).mono fun e w' hh => .inl ⟨by decide, hh⟩
end Go.Proofs.Ytfigfndabokepaa
