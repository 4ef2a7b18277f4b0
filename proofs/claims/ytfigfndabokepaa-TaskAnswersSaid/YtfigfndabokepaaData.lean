/- The plain data of the layers. No program in it. -/
namespace Go.Proofs.Ytfigfndabokepaa
/-- a task: from where, up to where, whom it belongs to, for how many it waits -/
structure Tk where
  lo : Int
  hi : Int
  up : Int
  wt : Int
instance : DecidableEq Tk := fun a b => decidable_of_iff (a.lo = b.lo ∧ a.hi = b.hi ∧ a.up = b.up ∧ a.wt = b.wt) (by cases a; cases b; simp)
end Go.Proofs.Ytfigfndabokepaa
