/-
  No cell of these rows narrows 'for every input' (looked for: loops, veiled, ifaces, maps, wideKeys, modest, calm, conditions, laid).
  DERIVED. THE GIVEN ROWS OF THIS SEAT. 4 by the template 'for every input the law returns true; each argument reads behind the call as it read before'; 0 by the template 'total and deterministic' (their statements: YthblpcmmeajhkaaTotals.lean).
  GIVEN WITH THE SEED: the statements are not yours to turn. If you find one false, say at which input.
  Laid BY PROGRAM, IN A SANDBOX (cutbox-rows.mjs): the forced cells as the released guide's own fill.sh prints them over the translation cf4bc295613bed7d… (all of the seat's roots in one cut). By AI agents, Wed Nov 11 2026. No macro, syntax, notation, axiom, sorry.
-/
import Derived.Test.YthblpcmmeajhkaaChecked
import GoSem.Claim
import GoSem.ClaimJoined
import GoSem.ClaimMapViews
import Derived.JoinedTies
import Derived.KernelRfl
namespace Go.Proofs.Ythblpcmmeajhkaa
/- THE CELL 'sum', in the pinned program and in every row, IS THE sha256 OF THE DUMP (.gsa) THAT YthblpcmmeajhkaaProg.lean LOADS. Nothing in Lean hashes anything: it is a label: what it is worth is what the hold of that sum in a sandbox is worth. -/
noncomputable def Try.pinned : Pinned := { name := "ythblpcmmeajhkaa", sum := "cf4bc295613bed7df49a9c3c05d60d6faa74ccda42864ef4773a704996c870f5", checked := Try.checked }
namespace Rows
def none {H : Type} : Left H := { results := [], args := [] }

/-- 'archipelagolaw08.ScanAnswers': WHATEVER THE INPUT: true; the input reads as it did. -/
def scanAnswersSpec : ChangeSpec := { name := "scanAnswers", fn := fun _ => fun
  | [d1, d2, d3] => { results := [.lit (.bool true)], args := [d1, d2, d3] }
  | _ => none }
def scanAnswersRow : OpenClaim := { program := "ythblpcmmeajhkaa", sum := "cf4bc295613bed7df49a9c3c05d60d6faa74ccda42864ef4773a704996c870f5", func := "archipelago/archipelagolaw08.ScanAnswers", spec := "scanAnswers", unfollowed := true, recurses := true, apart := false }
def ScanAnswersSaid : Prop := scanAnswersRow.holds Try.pinned (OpenSpec.ofChange scanAnswersSpec)

/-- ITS FALSE NEIGHBOUR: 'it returns false'. Refute it at one input. -/
def scanAnswersWrong : ChangeSpec := { name := "scanAnswers", fn := fun _ => fun
  | [d1, d2, d3] => { results := [.lit (.bool false)], args := [d1, d2, d3] }
  | _ => none }
def ScanAnswersWrongFalsely : Prop := scanAnswersRow.holds Try.pinned (OpenSpec.ofChange scanAnswersWrong)

/-- 'archipelagolaw08.ScanBlocks': WHATEVER THE INPUT: true; the input reads as it did. -/
def scanBlocksSpec : ChangeSpec := { name := "scanBlocks", fn := fun _ => fun
  | [d1, d2, d3] => { results := [.lit (.bool true)], args := [d1, d2, d3] }
  | _ => none }
def scanBlocksRow : OpenClaim := { program := "ythblpcmmeajhkaa", sum := "cf4bc295613bed7df49a9c3c05d60d6faa74ccda42864ef4773a704996c870f5", func := "archipelago/archipelagolaw08.ScanBlocks", spec := "scanBlocks", unfollowed := true, recurses := true, apart := false }
def ScanBlocksSaid : Prop := scanBlocksRow.holds Try.pinned (OpenSpec.ofChange scanBlocksSpec)

/-- ITS FALSE NEIGHBOUR: 'it returns false'. Refute it at one input. -/
def scanBlocksWrong : ChangeSpec := { name := "scanBlocks", fn := fun _ => fun
  | [d1, d2, d3] => { results := [.lit (.bool false)], args := [d1, d2, d3] }
  | _ => none }
def ScanBlocksWrongFalsely : Prop := scanBlocksRow.holds Try.pinned (OpenSpec.ofChange scanBlocksWrong)

/-- 'archipelagolaw08.ScanHighest': WHATEVER THE INPUT: true; the input reads as it did. -/
def scanHighestSpec : ChangeSpec := { name := "scanHighest", fn := fun _ => fun
  | [d1, d2, d3] => { results := [.lit (.bool true)], args := [d1, d2, d3] }
  | _ => none }
def scanHighestRow : OpenClaim := { program := "ythblpcmmeajhkaa", sum := "cf4bc295613bed7df49a9c3c05d60d6faa74ccda42864ef4773a704996c870f5", func := "archipelago/archipelagolaw08.ScanHighest", spec := "scanHighest", unfollowed := true, recurses := true, apart := false }
def ScanHighestSaid : Prop := scanHighestRow.holds Try.pinned (OpenSpec.ofChange scanHighestSpec)

/-- ITS FALSE NEIGHBOUR: 'it returns false'. Refute it at one input. -/
def scanHighestWrong : ChangeSpec := { name := "scanHighest", fn := fun _ => fun
  | [d1, d2, d3] => { results := [.lit (.bool false)], args := [d1, d2, d3] }
  | _ => none }
def ScanHighestWrongFalsely : Prop := scanHighestRow.holds Try.pinned (OpenSpec.ofChange scanHighestWrong)

/-- 'archipelagolaw08.ScanJoins': WHATEVER THE INPUT: true; the input reads as it did. -/
def scanJoinsSpec : ChangeSpec := { name := "scanJoins", fn := fun _ => fun
  | [d1, d2, d3] => { results := [.lit (.bool true)], args := [d1, d2, d3] }
  | _ => none }
def scanJoinsRow : OpenClaim := { program := "ythblpcmmeajhkaa", sum := "cf4bc295613bed7df49a9c3c05d60d6faa74ccda42864ef4773a704996c870f5", func := "archipelago/archipelagolaw08.ScanJoins", spec := "scanJoins", unfollowed := true, recurses := true, apart := false }
def ScanJoinsSaid : Prop := scanJoinsRow.holds Try.pinned (OpenSpec.ofChange scanJoinsSpec)

/-- ITS FALSE NEIGHBOUR: 'it returns false'. Refute it at one input. -/
def scanJoinsWrong : ChangeSpec := { name := "scanJoins", fn := fun _ => fun
  | [d1, d2, d3] => { results := [.lit (.bool false)], args := [d1, d2, d3] }
  | _ => none }
def ScanJoinsWrongFalsely : Prop := scanJoinsRow.holds Try.pinned (OpenSpec.ofChange scanJoinsWrong)

/- THE SECOND FORM. 'bulk': how many values and letters a reading holds, each counted each time it is reached (what is shared counts as often as it is met; a slice's spare places count too). A statement '..UptoSaid' is the law's where the arguments, and the package variables that the reading takes, are together of bulk at most 1048576: NARROWER than '..Said'. Prove '..Said' where nothing that the law and all that it calls make is longer than what came in: it says more and counts as full. Else prove '..UptoSaid'. A law counts once. -/
mutual
def uptoBulk {H : Type} : DataW H → Nat
  | .lit (.string bytes) => bytes.length + 1
  | .lit _ => 1
  | .nil => 1
  | .ptr d => uptoBulk d + 1
  | .slice elems spare => uptoBulkAll elems + uptoBulkAll spare + 1
  | .agg parts => uptoBulkAll parts + 1
  | .iface _ d => uptoBulk d + 1
  | .map entries => uptoBulkEntries entries + 1
  | .held _ => 1
def uptoBulkAll {H : Type} : List (DataW H) → Nat
  | [] => 0
  | d :: r => uptoBulk d + uptoBulkAll r
def uptoBulkEntries {H : Type} : List (Lit × DataW H) → Nat
  | [] => 0
  | x :: r => uptoBulkEntry x + uptoBulkEntries r
def uptoBulkEntry {H : Type} : Lit × DataW H → Nat
  | (.string bytes, d) => bytes.length + uptoBulk d + 1
  | (_, d) => uptoBulk d + 1
 end
def uptoSmall : (H : Type) → List (DataW H) → Bool := fun _ ds => decide (uptoBulkAll ds ≤ 1048576)
def OpenSpec.upto (s : _root_.Go.ChangeSpec) : _root_.Go.OpenSpec := { _root_.Go.OpenSpec.ofChange s with cond := some uptoSmall }

/-- 'archipelagolaw08.ScanAnswers', WHERE WHAT IT READS IS OF BULK AT MOST 1048576: true; the input reads as it did. -/
def scanAnswersUptoRow : OpenClaim := { program := "ythblpcmmeajhkaa", sum := "cf4bc295613bed7df49a9c3c05d60d6faa74ccda42864ef4773a704996c870f5", func := "archipelago/archipelagolaw08.ScanAnswers", spec := "scanAnswers", unfollowed := true, recurses := true, apart := false, narrowed := true }
def ScanAnswersUptoSaid : Prop := scanAnswersUptoRow.holds Try.pinned (OpenSpec.upto scanAnswersSpec)

/-- 'archipelagolaw08.ScanBlocks', WHERE WHAT IT READS IS OF BULK AT MOST 1048576: true; the input reads as it did. -/
def scanBlocksUptoRow : OpenClaim := { program := "ythblpcmmeajhkaa", sum := "cf4bc295613bed7df49a9c3c05d60d6faa74ccda42864ef4773a704996c870f5", func := "archipelago/archipelagolaw08.ScanBlocks", spec := "scanBlocks", unfollowed := true, recurses := true, apart := false, narrowed := true }
def ScanBlocksUptoSaid : Prop := scanBlocksUptoRow.holds Try.pinned (OpenSpec.upto scanBlocksSpec)

/-- 'archipelagolaw08.ScanHighest', WHERE WHAT IT READS IS OF BULK AT MOST 1048576: true; the input reads as it did. -/
def scanHighestUptoRow : OpenClaim := { program := "ythblpcmmeajhkaa", sum := "cf4bc295613bed7df49a9c3c05d60d6faa74ccda42864ef4773a704996c870f5", func := "archipelago/archipelagolaw08.ScanHighest", spec := "scanHighest", unfollowed := true, recurses := true, apart := false, narrowed := true }
def ScanHighestUptoSaid : Prop := scanHighestUptoRow.holds Try.pinned (OpenSpec.upto scanHighestSpec)

/-- 'archipelagolaw08.ScanJoins', WHERE WHAT IT READS IS OF BULK AT MOST 1048576: true; the input reads as it did. -/
def scanJoinsUptoRow : OpenClaim := { program := "ythblpcmmeajhkaa", sum := "cf4bc295613bed7df49a9c3c05d60d6faa74ccda42864ef4773a704996c870f5", func := "archipelago/archipelagolaw08.ScanJoins", spec := "scanJoins", unfollowed := true, recurses := true, apart := false, narrowed := true }
def ScanJoinsUptoSaid : Prop := scanJoinsUptoRow.holds Try.pinned (OpenSpec.upto scanJoinsSpec)

end Rows
end Go.Proofs.Ythblpcmmeajhkaa
