/-
  No cell of these rows narrows 'for every input' (looked for: loops, veiled, ifaces, maps, wideKeys, modest, calm, conditions, laid).
  DERIVED. THE GIVEN ROWS OF THIS SEAT. 4 by the template 'for every input the law returns true; each argument reads behind the call as it read before'; 0 by the template 'total and deterministic' (their statements: YtggjjjfdkgfoiaaTotals.lean).
  GIVEN WITH THE SEED: the statements are not yours to turn. If you find one false, say at which input.
  Laid BY PROGRAM, IN A SANDBOX (cutbox-rows.mjs): the forced cells as the released guide's own fill.sh prints them over the translation a5e6a183170817e3… (all of the seat's roots in one cut). By AI agents, Wed Nov 11 2026. No macro, syntax, notation, axiom, sorry.
-/
import Derived.Test.YtggjjjfdkgfoiaaChecked
import GoSem.Claim
import GoSem.ClaimJoined
import GoSem.ClaimMapViews
import Derived.JoinedTies
import Derived.KernelRfl
namespace Go.Proofs.Ytggjjjfdkgfoiaa
/- THE CELL 'sum', in the pinned program and in every row, IS THE sha256 OF THE DUMP (.gsa) THAT YtggjjjfdkgfoiaaProg.lean LOADS. Nothing in Lean hashes anything: it is a label: what it is worth is what the hold of that sum in a sandbox is worth. -/
noncomputable def Try.pinned : Pinned := { name := "ytggjjjfdkgfoiaa", sum := "a5e6a183170817e305f905182836292ec84d34faff99b5b7e625ee7bdcaeff64", checked := Try.checked }
namespace Rows
def none {H : Type} : Left H := { results := [], args := [] }

/-- 'archipelagolaw10.RadixAnswers': WHATEVER THE INPUT: true; the input reads as it did. -/
def radixAnswersSpec : ChangeSpec := { name := "radixAnswers", fn := fun _ => fun
  | [d1, d2, d3] => { results := [.lit (.bool true)], args := [d1, d2, d3] }
  | _ => none }
def radixAnswersRow : OpenClaim := { program := "ytggjjjfdkgfoiaa", sum := "a5e6a183170817e305f905182836292ec84d34faff99b5b7e625ee7bdcaeff64", func := "archipelago/archipelagolaw10.RadixAnswers", spec := "radixAnswers", unfollowed := true, recurses := true, apart := false }
def RadixAnswersSaid : Prop := radixAnswersRow.holds Try.pinned (OpenSpec.ofChange radixAnswersSpec)

/-- ITS FALSE NEIGHBOUR: 'it returns false'. Refute it at one input. -/
def radixAnswersWrong : ChangeSpec := { name := "radixAnswers", fn := fun _ => fun
  | [d1, d2, d3] => { results := [.lit (.bool false)], args := [d1, d2, d3] }
  | _ => none }
def RadixAnswersWrongFalsely : Prop := radixAnswersRow.holds Try.pinned (OpenSpec.ofChange radixAnswersWrong)

/-- 'archipelagolaw10.RadixSorts': WHATEVER THE INPUT: true; the input reads as it did. -/
def radixSortsSpec : ChangeSpec := { name := "radixSorts", fn := fun _ => fun
  | [d1, d2, d3] => { results := [.lit (.bool true)], args := [d1, d2, d3] }
  | _ => none }
def radixSortsRow : OpenClaim := { program := "ytggjjjfdkgfoiaa", sum := "a5e6a183170817e305f905182836292ec84d34faff99b5b7e625ee7bdcaeff64", func := "archipelago/archipelagolaw10.RadixSorts", spec := "radixSorts", unfollowed := true, recurses := true, apart := false }
def RadixSortsSaid : Prop := radixSortsRow.holds Try.pinned (OpenSpec.ofChange radixSortsSpec)

/-- ITS FALSE NEIGHBOUR: 'it returns false'. Refute it at one input. -/
def radixSortsWrong : ChangeSpec := { name := "radixSorts", fn := fun _ => fun
  | [d1, d2, d3] => { results := [.lit (.bool false)], args := [d1, d2, d3] }
  | _ => none }
def RadixSortsWrongFalsely : Prop := radixSortsRow.holds Try.pinned (OpenSpec.ofChange radixSortsWrong)

/-- 'archipelagolaw10.RadixRises': WHATEVER THE INPUT: true; the input reads as it did. -/
def radixRisesSpec : ChangeSpec := { name := "radixRises", fn := fun _ => fun
  | [d1, d2] => { results := [.lit (.bool true)], args := [d1, d2] }
  | _ => none }
def radixRisesRow : OpenClaim := { program := "ytggjjjfdkgfoiaa", sum := "a5e6a183170817e305f905182836292ec84d34faff99b5b7e625ee7bdcaeff64", func := "archipelago/archipelagolaw10.RadixRises", spec := "radixRises", unfollowed := true, recurses := true, apart := false }
def RadixRisesSaid : Prop := radixRisesRow.holds Try.pinned (OpenSpec.ofChange radixRisesSpec)

/-- ITS FALSE NEIGHBOUR: 'it returns false'. Refute it at one input. -/
def radixRisesWrong : ChangeSpec := { name := "radixRises", fn := fun _ => fun
  | [d1, d2] => { results := [.lit (.bool false)], args := [d1, d2] }
  | _ => none }
def RadixRisesWrongFalsely : Prop := radixRisesRow.holds Try.pinned (OpenSpec.ofChange radixRisesWrong)

/-- 'archipelagolaw10.RadixDigits': WHATEVER THE INPUT: true; the input reads as it did. -/
def radixDigitsSpec : ChangeSpec := { name := "radixDigits", fn := fun _ => fun
  | [d1, d2] => { results := [.lit (.bool true)], args := [d1, d2] }
  | _ => none }
def radixDigitsRow : OpenClaim := { program := "ytggjjjfdkgfoiaa", sum := "a5e6a183170817e305f905182836292ec84d34faff99b5b7e625ee7bdcaeff64", func := "archipelago/archipelagolaw10.RadixDigits", spec := "radixDigits", unfollowed := true, recurses := true, apart := false }
def RadixDigitsSaid : Prop := radixDigitsRow.holds Try.pinned (OpenSpec.ofChange radixDigitsSpec)

/-- ITS FALSE NEIGHBOUR: 'it returns false'. Refute it at one input. -/
def radixDigitsWrong : ChangeSpec := { name := "radixDigits", fn := fun _ => fun
  | [d1, d2] => { results := [.lit (.bool false)], args := [d1, d2] }
  | _ => none }
def RadixDigitsWrongFalsely : Prop := radixDigitsRow.holds Try.pinned (OpenSpec.ofChange radixDigitsWrong)

/- THE SECOND FORM. 'bulk': how many values and letters a reading holds, each counted each time it is reached (what is shared counts as often as it is met; a slice's spare places count too). A statement '..UptoSaid' is the law's where the arguments, and the package variables that the reading takes, are together of bulk at most 1048576: NARROWER than '..Said'. Prove '..Said' where nothing that the law and all that it calls make is longer than what came in: it says more and counts as full. Else prove '..UptoSaid'. A law counts once. -/
mutual
def uptoBulk {H : Type} : DataW H → Nat
  | .lit (.string bytes) => bytes.length + 1
  | .lit _ => 1
  | .nil => 1
  | .ptr d => uptoBulk d + 1
  | .slice elems spare => uptoBulkAll elems + uptoBulkAll spare + 1
  | .agg parts => uptoBulkAll parts + 1
  | .iface _ d => uptoBulk d + 1
  | .map entries => uptoBulkEntries entries + 1
  | .held _ => 1
def uptoBulkAll {H : Type} : List (DataW H) → Nat
  | [] => 0
  | d :: r => uptoBulk d + uptoBulkAll r
def uptoBulkEntries {H : Type} : List (Lit × DataW H) → Nat
  | [] => 0
  | x :: r => uptoBulkEntry x + uptoBulkEntries r
def uptoBulkEntry {H : Type} : Lit × DataW H → Nat
  | (.string bytes, d) => bytes.length + uptoBulk d + 1
  | (_, d) => uptoBulk d + 1
 end
def uptoSmall : (H : Type) → List (DataW H) → Bool := fun _ ds => decide (uptoBulkAll ds ≤ 1048576)
def OpenSpec.upto (s : _root_.Go.ChangeSpec) : _root_.Go.OpenSpec := { _root_.Go.OpenSpec.ofChange s with cond := some uptoSmall }

/-- 'archipelagolaw10.RadixAnswers', WHERE WHAT IT READS IS OF BULK AT MOST 1048576: true; the input reads as it did. -/
def radixAnswersUptoRow : OpenClaim := { program := "ytggjjjfdkgfoiaa", sum := "a5e6a183170817e305f905182836292ec84d34faff99b5b7e625ee7bdcaeff64", func := "archipelago/archipelagolaw10.RadixAnswers", spec := "radixAnswers", unfollowed := true, recurses := true, apart := false, narrowed := true }
def RadixAnswersUptoSaid : Prop := radixAnswersUptoRow.holds Try.pinned (OpenSpec.upto radixAnswersSpec)

/-- 'archipelagolaw10.RadixSorts', WHERE WHAT IT READS IS OF BULK AT MOST 1048576: true; the input reads as it did. -/
def radixSortsUptoRow : OpenClaim := { program := "ytggjjjfdkgfoiaa", sum := "a5e6a183170817e305f905182836292ec84d34faff99b5b7e625ee7bdcaeff64", func := "archipelago/archipelagolaw10.RadixSorts", spec := "radixSorts", unfollowed := true, recurses := true, apart := false, narrowed := true }
def RadixSortsUptoSaid : Prop := radixSortsUptoRow.holds Try.pinned (OpenSpec.upto radixSortsSpec)

/-- 'archipelagolaw10.RadixRises', WHERE WHAT IT READS IS OF BULK AT MOST 1048576: true; the input reads as it did. -/
def radixRisesUptoRow : OpenClaim := { program := "ytggjjjfdkgfoiaa", sum := "a5e6a183170817e305f905182836292ec84d34faff99b5b7e625ee7bdcaeff64", func := "archipelago/archipelagolaw10.RadixRises", spec := "radixRises", unfollowed := true, recurses := true, apart := false, narrowed := true }
def RadixRisesUptoSaid : Prop := radixRisesUptoRow.holds Try.pinned (OpenSpec.upto radixRisesSpec)

/-- 'archipelagolaw10.RadixDigits', WHERE WHAT IT READS IS OF BULK AT MOST 1048576: true; the input reads as it did. -/
def radixDigitsUptoRow : OpenClaim := { program := "ytggjjjfdkgfoiaa", sum := "a5e6a183170817e305f905182836292ec84d34faff99b5b7e625ee7bdcaeff64", func := "archipelago/archipelagolaw10.RadixDigits", spec := "radixDigits", unfollowed := true, recurses := true, apart := false, narrowed := true }
def RadixDigitsUptoSaid : Prop := radixDigitsUptoRow.holds Try.pinned (OpenSpec.upto radixDigitsSpec)

end Rows
end Go.Proofs.Ytggjjjfdkgfoiaa
