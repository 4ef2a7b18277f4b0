/-
  No cell of these rows narrows 'for every input' (looked for: loops, veiled, ifaces, maps, wideKeys, modest, calm, conditions, laid).
  DERIVED. THE GIVEN ROWS OF THIS SEAT. 6 by the template 'for every input the law returns true; each argument reads behind the call as it read before'; 0 by the template 'total and deterministic' (their statements: YtllpfegnpakadaaTotals.lean).
  GIVEN WITH THE SEED: the statements are not yours to turn. If you find one false, say at which input.
  Laid BY PROGRAM, IN A SANDBOX (cutbox-rows.mjs): the forced cells as the released guide's own fill.sh prints them over the translation fd8be4e0a783baa8… (all of the seat's roots in one cut). By AI agents, Wed Nov 11 2026. No macro, syntax, notation, axiom, sorry.
-/
import Derived.Test.YtllpfegnpakadaaChecked
import GoSem.Claim
import GoSem.ClaimJoined
import GoSem.ClaimMapViews
import Derived.JoinedTies
import Derived.KernelRfl
namespace Go.Proofs.Ytllpfegnpakadaa
/- THE CELL 'sum', in the pinned program and in every row, IS THE sha256 OF THE DUMP (.gsa) THAT YtllpfegnpakadaaProg.lean LOADS. Nothing in Lean hashes anything: it is a label: what it is worth is what the hold of that sum in a sandbox is worth. -/
noncomputable def Try.pinned : Pinned := { name := "ytllpfegnpakadaa", sum := "fd8be4e0a783baa8c638e14e6d7ffecac683afacb3ccde07bb00aa0a5080b660", checked := Try.checked }
namespace Rows
def none {H : Type} : Left H := { results := [], args := [] }

/-- 'archipelagolaw15.SpliceAnswers': WHATEVER THE INPUT: true; the input reads as it did. -/
def spliceAnswersSpec : ChangeSpec := { name := "spliceAnswers", fn := fun _ => fun
  | [d1, d2, d3] => { results := [.lit (.bool true)], args := [d1, d2, d3] }
  | _ => none }
def spliceAnswersRow : OpenClaim := { program := "ytllpfegnpakadaa", sum := "fd8be4e0a783baa8c638e14e6d7ffecac683afacb3ccde07bb00aa0a5080b660", func := "archipelago/archipelagolaw15.SpliceAnswers", spec := "spliceAnswers", unfollowed := true, recurses := true, plainKeys := false, apart := false }
def SpliceAnswersSaid : Prop := spliceAnswersRow.holds Try.pinned (OpenSpec.ofChange spliceAnswersSpec)

/-- ITS FALSE NEIGHBOUR: 'it returns false'. Refute it at one input. -/
def spliceAnswersWrong : ChangeSpec := { name := "spliceAnswers", fn := fun _ => fun
  | [d1, d2, d3] => { results := [.lit (.bool false)], args := [d1, d2, d3] }
  | _ => none }
def SpliceAnswersWrongFalsely : Prop := spliceAnswersRow.holds Try.pinned (OpenSpec.ofChange spliceAnswersWrong)

/-- 'archipelagolaw15.SpliceChanged': WHATEVER THE INPUT: true; the input reads as it did. -/
def spliceChangedSpec : ChangeSpec := { name := "spliceChanged", fn := fun _ => fun
  | [d1, d2] => { results := [.lit (.bool true)], args := [d1, d2] }
  | _ => none }
def spliceChangedRow : OpenClaim := { program := "ytllpfegnpakadaa", sum := "fd8be4e0a783baa8c638e14e6d7ffecac683afacb3ccde07bb00aa0a5080b660", func := "archipelago/archipelagolaw15.SpliceChanged", spec := "spliceChanged", unfollowed := true, recurses := true, plainKeys := false, apart := false }
def SpliceChangedSaid : Prop := spliceChangedRow.holds Try.pinned (OpenSpec.ofChange spliceChangedSpec)

/-- ITS FALSE NEIGHBOUR: 'it returns false'. Refute it at one input. -/
def spliceChangedWrong : ChangeSpec := { name := "spliceChanged", fn := fun _ => fun
  | [d1, d2] => { results := [.lit (.bool false)], args := [d1, d2] }
  | _ => none }
def SpliceChangedWrongFalsely : Prop := spliceChangedRow.holds Try.pinned (OpenSpec.ofChange spliceChangedWrong)

/-- 'archipelagolaw15.SpliceBack': WHATEVER THE INPUT: true; the input reads as it did. -/
def spliceBackSpec : ChangeSpec := { name := "spliceBack", fn := fun _ => fun
  | [d1, d2] => { results := [.lit (.bool true)], args := [d1, d2] }
  | _ => none }
def spliceBackRow : OpenClaim := { program := "ytllpfegnpakadaa", sum := "fd8be4e0a783baa8c638e14e6d7ffecac683afacb3ccde07bb00aa0a5080b660", func := "archipelago/archipelagolaw15.SpliceBack", spec := "spliceBack", unfollowed := true, recurses := true, plainKeys := false, apart := false }
def SpliceBackSaid : Prop := spliceBackRow.holds Try.pinned (OpenSpec.ofChange spliceBackSpec)

/-- ITS FALSE NEIGHBOUR: 'it returns false'. Refute it at one input. -/
def spliceBackWrong : ChangeSpec := { name := "spliceBack", fn := fun _ => fun
  | [d1, d2] => { results := [.lit (.bool false)], args := [d1, d2] }
  | _ => none }
def SpliceBackWrongFalsely : Prop := spliceBackRow.holds Try.pinned (OpenSpec.ofChange spliceBackWrong)

/-- 'archipelagolaw15.SpliceFew': WHATEVER THE INPUT: true; the input reads as it did. -/
def spliceFewSpec : ChangeSpec := { name := "spliceFew", fn := fun _ => fun
  | [d1, d2] => { results := [.lit (.bool true)], args := [d1, d2] }
  | _ => none }
def spliceFewRow : OpenClaim := { program := "ytllpfegnpakadaa", sum := "fd8be4e0a783baa8c638e14e6d7ffecac683afacb3ccde07bb00aa0a5080b660", func := "archipelago/archipelagolaw15.SpliceFew", spec := "spliceFew", unfollowed := true, recurses := true, plainKeys := false, apart := false }
def SpliceFewSaid : Prop := spliceFewRow.holds Try.pinned (OpenSpec.ofChange spliceFewSpec)

/-- ITS FALSE NEIGHBOUR: 'it returns false'. Refute it at one input. -/
def spliceFewWrong : ChangeSpec := { name := "spliceFew", fn := fun _ => fun
  | [d1, d2] => { results := [.lit (.bool false)], args := [d1, d2] }
  | _ => none }
def SpliceFewWrongFalsely : Prop := spliceFewRow.holds Try.pinned (OpenSpec.ofChange spliceFewWrong)

/-- 'archipelagolaw15.SpliceTurns': WHATEVER THE INPUT: true; the input reads as it did. -/
def spliceTurnsSpec : ChangeSpec := { name := "spliceTurns", fn := fun _ => fun
  | [d1, d2] => { results := [.lit (.bool true)], args := [d1, d2] }
  | _ => none }
def spliceTurnsRow : OpenClaim := { program := "ytllpfegnpakadaa", sum := "fd8be4e0a783baa8c638e14e6d7ffecac683afacb3ccde07bb00aa0a5080b660", func := "archipelago/archipelagolaw15.SpliceTurns", spec := "spliceTurns", unfollowed := true, recurses := true, plainKeys := false, apart := false }
def SpliceTurnsSaid : Prop := spliceTurnsRow.holds Try.pinned (OpenSpec.ofChange spliceTurnsSpec)

/-- ITS FALSE NEIGHBOUR: 'it returns false'. Refute it at one input. -/
def spliceTurnsWrong : ChangeSpec := { name := "spliceTurns", fn := fun _ => fun
  | [d1, d2] => { results := [.lit (.bool false)], args := [d1, d2] }
  | _ => none }
def SpliceTurnsWrongFalsely : Prop := spliceTurnsRow.holds Try.pinned (OpenSpec.ofChange spliceTurnsWrong)

/-- 'archipelagolaw15.SpliceJoins': WHATEVER THE INPUT: true; the input reads as it did. -/
def spliceJoinsSpec : ChangeSpec := { name := "spliceJoins", fn := fun _ => fun
  | [d1, d2, d3] => { results := [.lit (.bool true)], args := [d1, d2, d3] }
  | _ => none }
def spliceJoinsRow : OpenClaim := { program := "ytllpfegnpakadaa", sum := "fd8be4e0a783baa8c638e14e6d7ffecac683afacb3ccde07bb00aa0a5080b660", func := "archipelago/archipelagolaw15.SpliceJoins", spec := "spliceJoins", unfollowed := true, recurses := true, plainKeys := false, apart := false }
def SpliceJoinsSaid : Prop := spliceJoinsRow.holds Try.pinned (OpenSpec.ofChange spliceJoinsSpec)

/-- ITS FALSE NEIGHBOUR: 'it returns false'. Refute it at one input. -/
def spliceJoinsWrong : ChangeSpec := { name := "spliceJoins", fn := fun _ => fun
  | [d1, d2, d3] => { results := [.lit (.bool false)], args := [d1, d2, d3] }
  | _ => none }
def SpliceJoinsWrongFalsely : Prop := spliceJoinsRow.holds Try.pinned (OpenSpec.ofChange spliceJoinsWrong)

/- THE SECOND FORM. 'bulk': how many values and letters a reading holds, each counted each time it is reached (what is shared counts as often as it is met; a slice's spare places count too). A statement '..UptoSaid' is the law's where the arguments, and the package variables that the reading takes, are together of bulk at most 1048576: NARROWER than '..Said'. Prove '..Said' where nothing that the law and all that it calls make is longer than what came in: it says more and counts as full. Else prove '..UptoSaid'. A law counts once. -/
mutual
def uptoBulk {H : Type} : DataW H → Nat
  | .lit (.string bytes) => bytes.length + 1
  | .lit _ => 1
  | .nil => 1
  | .ptr d => uptoBulk d + 1
  | .slice elems spare => uptoBulkAll elems + uptoBulkAll spare + 1
  | .agg parts => uptoBulkAll parts + 1
  | .iface _ d => uptoBulk d + 1
  | .map entries => uptoBulkEntries entries + 1
  | .held _ => 1
def uptoBulkAll {H : Type} : List (DataW H) → Nat
  | [] => 0
  | d :: r => uptoBulk d + uptoBulkAll r
def uptoBulkEntries {H : Type} : List (Lit × DataW H) → Nat
  | [] => 0
  | x :: r => uptoBulkEntry x + uptoBulkEntries r
def uptoBulkEntry {H : Type} : Lit × DataW H → Nat
  | (.string bytes, d) => bytes.length + uptoBulk d + 1
  | (_, d) => uptoBulk d + 1
 end
def uptoSmall : (H : Type) → List (DataW H) → Bool := fun _ ds => decide (uptoBulkAll ds ≤ 1048576)
def OpenSpec.upto (s : _root_.Go.ChangeSpec) : _root_.Go.OpenSpec := { _root_.Go.OpenSpec.ofChange s with cond := some uptoSmall }

/-- 'archipelagolaw15.SpliceAnswers', WHERE WHAT IT READS IS OF BULK AT MOST 1048576: true; the input reads as it did. -/
def spliceAnswersUptoRow : OpenClaim := { program := "ytllpfegnpakadaa", sum := "fd8be4e0a783baa8c638e14e6d7ffecac683afacb3ccde07bb00aa0a5080b660", func := "archipelago/archipelagolaw15.SpliceAnswers", spec := "spliceAnswers", unfollowed := true, recurses := true, plainKeys := false, apart := false, narrowed := true }
def SpliceAnswersUptoSaid : Prop := spliceAnswersUptoRow.holds Try.pinned (OpenSpec.upto spliceAnswersSpec)

/-- 'archipelagolaw15.SpliceChanged', WHERE WHAT IT READS IS OF BULK AT MOST 1048576: true; the input reads as it did. -/
def spliceChangedUptoRow : OpenClaim := { program := "ytllpfegnpakadaa", sum := "fd8be4e0a783baa8c638e14e6d7ffecac683afacb3ccde07bb00aa0a5080b660", func := "archipelago/archipelagolaw15.SpliceChanged", spec := "spliceChanged", unfollowed := true, recurses := true, plainKeys := false, apart := false, narrowed := true }
def SpliceChangedUptoSaid : Prop := spliceChangedUptoRow.holds Try.pinned (OpenSpec.upto spliceChangedSpec)

/-- 'archipelagolaw15.SpliceBack', WHERE WHAT IT READS IS OF BULK AT MOST 1048576: true; the input reads as it did. -/
def spliceBackUptoRow : OpenClaim := { program := "ytllpfegnpakadaa", sum := "fd8be4e0a783baa8c638e14e6d7ffecac683afacb3ccde07bb00aa0a5080b660", func := "archipelago/archipelagolaw15.SpliceBack", spec := "spliceBack", unfollowed := true, recurses := true, plainKeys := false, apart := false, narrowed := true }
def SpliceBackUptoSaid : Prop := spliceBackUptoRow.holds Try.pinned (OpenSpec.upto spliceBackSpec)

/-- 'archipelagolaw15.SpliceFew', WHERE WHAT IT READS IS OF BULK AT MOST 1048576: true; the input reads as it did. -/
def spliceFewUptoRow : OpenClaim := { program := "ytllpfegnpakadaa", sum := "fd8be4e0a783baa8c638e14e6d7ffecac683afacb3ccde07bb00aa0a5080b660", func := "archipelago/archipelagolaw15.SpliceFew", spec := "spliceFew", unfollowed := true, recurses := true, plainKeys := false, apart := false, narrowed := true }
def SpliceFewUptoSaid : Prop := spliceFewUptoRow.holds Try.pinned (OpenSpec.upto spliceFewSpec)

/-- 'archipelagolaw15.SpliceTurns', WHERE WHAT IT READS IS OF BULK AT MOST 1048576: true; the input reads as it did. -/
def spliceTurnsUptoRow : OpenClaim := { program := "ytllpfegnpakadaa", sum := "fd8be4e0a783baa8c638e14e6d7ffecac683afacb3ccde07bb00aa0a5080b660", func := "archipelago/archipelagolaw15.SpliceTurns", spec := "spliceTurns", unfollowed := true, recurses := true, plainKeys := false, apart := false, narrowed := true }
def SpliceTurnsUptoSaid : Prop := spliceTurnsUptoRow.holds Try.pinned (OpenSpec.upto spliceTurnsSpec)

/-- 'archipelagolaw15.SpliceJoins', WHERE WHAT IT READS IS OF BULK AT MOST 1048576: true; the input reads as it did. -/
def spliceJoinsUptoRow : OpenClaim := { program := "ytllpfegnpakadaa", sum := "fd8be4e0a783baa8c638e14e6d7ffecac683afacb3ccde07bb00aa0a5080b660", func := "archipelago/archipelagolaw15.SpliceJoins", spec := "spliceJoins", unfollowed := true, recurses := true, plainKeys := false, apart := false, narrowed := true }
def SpliceJoinsUptoSaid : Prop := spliceJoinsUptoRow.holds Try.pinned (OpenSpec.upto spliceJoinsSpec)

end Rows
end Go.Proofs.Ytllpfegnpakadaa
