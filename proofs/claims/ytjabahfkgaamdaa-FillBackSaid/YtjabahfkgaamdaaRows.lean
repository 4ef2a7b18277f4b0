/-
  No cell of these rows narrows 'for every input' (looked for: loops, veiled, ifaces, maps, wideKeys, modest, calm, conditions, laid).
  DERIVED. THE GIVEN ROWS OF THIS SEAT. 4 by the template 'for every input the law returns true; each argument reads behind the call as it read before'; 0 by the template 'total and deterministic' (their statements: YtjabahfkgaamdaaTotals.lean).
  GIVEN WITH THE SEED: the statements are not yours to turn. If you find one false, say at which input.
  Laid BY PROGRAM, IN A SANDBOX (cutbox-rows.mjs): the forced cells as the released guide's own fill.sh prints them over the translation b2b7ece3506d94d1… (all of the seat's roots in one cut). By AI agents, Wed Nov 11 2026. No macro, syntax, notation, axiom, sorry.
-/
import Derived.Test.YtjabahfkgaamdaaChecked
import GoSem.Claim
import GoSem.ClaimJoined
import GoSem.ClaimMapViews
import Derived.JoinedTies
import Derived.KernelRfl
namespace Go.Proofs.Ytjabahfkgaamdaa
/- THE CELL 'sum', in the pinned program and in every row, IS THE sha256 OF THE DUMP (.gsa) THAT YtjabahfkgaamdaaProg.lean LOADS. Nothing in Lean hashes anything: it is a label: what it is worth is what the hold of that sum in a sandbox is worth. -/
noncomputable def Try.pinned : Pinned := { name := "ytjabahfkgaamdaa", sum := "b2b7ece3506d94d159298b6ea6c1770daca40b696f973bddf3465ad337a76d05", checked := Try.checked }
namespace Rows
def none {H : Type} : Left H := { results := [], args := [] }

/-- 'archipelagolaw07.FillAnswers': WHATEVER THE INPUT: true; the input reads as it did. -/
def fillAnswersSpec : ChangeSpec := { name := "fillAnswers", fn := fun _ => fun
  | [d1, d2, d3] => { results := [.lit (.bool true)], args := [d1, d2, d3] }
  | _ => none }
def fillAnswersRow : OpenClaim := { program := "ytjabahfkgaamdaa", sum := "b2b7ece3506d94d159298b6ea6c1770daca40b696f973bddf3465ad337a76d05", func := "archipelago/archipelagolaw07.FillAnswers", spec := "fillAnswers", unfollowed := true, recurses := true, apart := false }
def FillAnswersSaid : Prop := fillAnswersRow.holds Try.pinned (OpenSpec.ofChange fillAnswersSpec)

/-- ITS FALSE NEIGHBOUR: 'it returns false'. Refute it at one input. -/
def fillAnswersWrong : ChangeSpec := { name := "fillAnswers", fn := fun _ => fun
  | [d1, d2, d3] => { results := [.lit (.bool false)], args := [d1, d2, d3] }
  | _ => none }
def FillAnswersWrongFalsely : Prop := fillAnswersRow.holds Try.pinned (OpenSpec.ofChange fillAnswersWrong)

/-- 'archipelagolaw07.FillZips': WHATEVER THE INPUT: true; the input reads as it did. -/
def fillZipsSpec : ChangeSpec := { name := "fillZips", fn := fun _ => fun
  | [d1, d2, d3] => { results := [.lit (.bool true)], args := [d1, d2, d3] }
  | _ => none }
def fillZipsRow : OpenClaim := { program := "ytjabahfkgaamdaa", sum := "b2b7ece3506d94d159298b6ea6c1770daca40b696f973bddf3465ad337a76d05", func := "archipelago/archipelagolaw07.FillZips", spec := "fillZips", unfollowed := true, recurses := true, apart := false }
def FillZipsSaid : Prop := fillZipsRow.holds Try.pinned (OpenSpec.ofChange fillZipsSpec)

/-- ITS FALSE NEIGHBOUR: 'it returns false'. Refute it at one input. -/
def fillZipsWrong : ChangeSpec := { name := "fillZips", fn := fun _ => fun
  | [d1, d2, d3] => { results := [.lit (.bool false)], args := [d1, d2, d3] }
  | _ => none }
def FillZipsWrongFalsely : Prop := fillZipsRow.holds Try.pinned (OpenSpec.ofChange fillZipsWrong)

/-- 'archipelagolaw07.FillWhoever': WHATEVER THE INPUT: true; the input reads as it did. -/
def fillWhoeverSpec : ChangeSpec := { name := "fillWhoever", fn := fun _ => fun
  | [d1, d2, d3] => { results := [.lit (.bool true)], args := [d1, d2, d3] }
  | _ => none }
def fillWhoeverRow : OpenClaim := { program := "ytjabahfkgaamdaa", sum := "b2b7ece3506d94d159298b6ea6c1770daca40b696f973bddf3465ad337a76d05", func := "archipelago/archipelagolaw07.FillWhoever", spec := "fillWhoever", unfollowed := true, recurses := true, apart := false }
def FillWhoeverSaid : Prop := fillWhoeverRow.holds Try.pinned (OpenSpec.ofChange fillWhoeverSpec)

/-- ITS FALSE NEIGHBOUR: 'it returns false'. Refute it at one input. -/
def fillWhoeverWrong : ChangeSpec := { name := "fillWhoever", fn := fun _ => fun
  | [d1, d2, d3] => { results := [.lit (.bool false)], args := [d1, d2, d3] }
  | _ => none }
def FillWhoeverWrongFalsely : Prop := fillWhoeverRow.holds Try.pinned (OpenSpec.ofChange fillWhoeverWrong)

/-- 'archipelagolaw07.FillBack': WHATEVER THE INPUT: true; the input reads as it did. -/
def fillBackSpec : ChangeSpec := { name := "fillBack", fn := fun _ => fun
  | [d1, d2, d3] => { results := [.lit (.bool true)], args := [d1, d2, d3] }
  | _ => none }
def fillBackRow : OpenClaim := { program := "ytjabahfkgaamdaa", sum := "b2b7ece3506d94d159298b6ea6c1770daca40b696f973bddf3465ad337a76d05", func := "archipelago/archipelagolaw07.FillBack", spec := "fillBack", unfollowed := true, recurses := true, apart := false }
def FillBackSaid : Prop := fillBackRow.holds Try.pinned (OpenSpec.ofChange fillBackSpec)

/-- ITS FALSE NEIGHBOUR: 'it returns false'. Refute it at one input. -/
def fillBackWrong : ChangeSpec := { name := "fillBack", fn := fun _ => fun
  | [d1, d2, d3] => { results := [.lit (.bool false)], args := [d1, d2, d3] }
  | _ => none }
def FillBackWrongFalsely : Prop := fillBackRow.holds Try.pinned (OpenSpec.ofChange fillBackWrong)

/- THE SECOND FORM. 'bulk': how many values and letters a reading holds, each counted each time it is reached (what is shared counts as often as it is met; a slice's spare places count too). A statement '..UptoSaid' is the law's where the arguments, and the package variables that the reading takes, are together of bulk at most 1048576: NARROWER than '..Said'. Prove '..Said' where nothing that the law and all that it calls make is longer than what came in: it says more and counts as full. Else prove '..UptoSaid'. A law counts once. -/
mutual
def uptoBulk {H : Type} : DataW H → Nat
  | .lit (.string bytes) => bytes.length + 1
  | .lit _ => 1
  | .nil => 1
  | .ptr d => uptoBulk d + 1
  | .slice elems spare => uptoBulkAll elems + uptoBulkAll spare + 1
  | .agg parts => uptoBulkAll parts + 1
  | .iface _ d => uptoBulk d + 1
  | .map entries => uptoBulkEntries entries + 1
  | .held _ => 1
def uptoBulkAll {H : Type} : List (DataW H) → Nat
  | [] => 0
  | d :: r => uptoBulk d + uptoBulkAll r
def uptoBulkEntries {H : Type} : List (Lit × DataW H) → Nat
  | [] => 0
  | x :: r => uptoBulkEntry x + uptoBulkEntries r
def uptoBulkEntry {H : Type} : Lit × DataW H → Nat
  | (.string bytes, d) => bytes.length + uptoBulk d + 1
  | (_, d) => uptoBulk d + 1
 end
def uptoSmall : (H : Type) → List (DataW H) → Bool := fun _ ds => decide (uptoBulkAll ds ≤ 1048576)
def OpenSpec.upto (s : _root_.Go.ChangeSpec) : _root_.Go.OpenSpec := { _root_.Go.OpenSpec.ofChange s with cond := some uptoSmall }

/-- 'archipelagolaw07.FillAnswers', WHERE WHAT IT READS IS OF BULK AT MOST 1048576: true; the input reads as it did. -/
def fillAnswersUptoRow : OpenClaim := { program := "ytjabahfkgaamdaa", sum := "b2b7ece3506d94d159298b6ea6c1770daca40b696f973bddf3465ad337a76d05", func := "archipelago/archipelagolaw07.FillAnswers", spec := "fillAnswers", unfollowed := true, recurses := true, apart := false, narrowed := true }
def FillAnswersUptoSaid : Prop := fillAnswersUptoRow.holds Try.pinned (OpenSpec.upto fillAnswersSpec)

/-- 'archipelagolaw07.FillZips', WHERE WHAT IT READS IS OF BULK AT MOST 1048576: true; the input reads as it did. -/
def fillZipsUptoRow : OpenClaim := { program := "ytjabahfkgaamdaa", sum := "b2b7ece3506d94d159298b6ea6c1770daca40b696f973bddf3465ad337a76d05", func := "archipelago/archipelagolaw07.FillZips", spec := "fillZips", unfollowed := true, recurses := true, apart := false, narrowed := true }
def FillZipsUptoSaid : Prop := fillZipsUptoRow.holds Try.pinned (OpenSpec.upto fillZipsSpec)

/-- 'archipelagolaw07.FillWhoever', WHERE WHAT IT READS IS OF BULK AT MOST 1048576: true; the input reads as it did. -/
def fillWhoeverUptoRow : OpenClaim := { program := "ytjabahfkgaamdaa", sum := "b2b7ece3506d94d159298b6ea6c1770daca40b696f973bddf3465ad337a76d05", func := "archipelago/archipelagolaw07.FillWhoever", spec := "fillWhoever", unfollowed := true, recurses := true, apart := false, narrowed := true }
def FillWhoeverUptoSaid : Prop := fillWhoeverUptoRow.holds Try.pinned (OpenSpec.upto fillWhoeverSpec)

/-- 'archipelagolaw07.FillBack', WHERE WHAT IT READS IS OF BULK AT MOST 1048576: true; the input reads as it did. -/
def fillBackUptoRow : OpenClaim := { program := "ytjabahfkgaamdaa", sum := "b2b7ece3506d94d159298b6ea6c1770daca40b696f973bddf3465ad337a76d05", func := "archipelago/archipelagolaw07.FillBack", spec := "fillBack", unfollowed := true, recurses := true, apart := false, narrowed := true }
def FillBackUptoSaid : Prop := fillBackUptoRow.holds Try.pinned (OpenSpec.upto fillBackSpec)

end Rows
end Go.Proofs.Ytjabahfkgaamdaa
