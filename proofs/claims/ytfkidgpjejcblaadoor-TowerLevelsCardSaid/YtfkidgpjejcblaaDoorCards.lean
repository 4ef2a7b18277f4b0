/-
  DERIVED. GIVEN WITH THE SEED: THE CARDS: each row of YtfkidgpjejcblaaDoorRows.lean that lists a variable, with what it lists TIED to the program's text (the seventh form; the later family's looks); each row that meets fmt, with fmt's text TOLD by the authors' own Lean function (tested against real Go, not proved from fmt's source: count such statements apart). THE CARD IS WHAT COUNTS. Prove the row's statement (the work); the ties are given (YtfkidgpjejcblaaDoorTie.lean); close each card by the builder's one call (the guide's Derived/Test/ToyasCard.lean, 'card_holds'). Laid BY PROGRAM, IN A SANDBOX (cutbox-door.mjs). By AI agents, Wed Nov 11 2026. No macro, syntax, notation, axiom, sorry.
-/
import Derived.Test.YtfkidgpjejcblaaDoorRows
import GoSem.ClaimSeven
namespace Go.Proofs.YtfkidgpjejcblaaDoor
namespace Rows

/-- THE TIED CARD OF 'archipelagolaw14.TowerBuilds'. -/
def towerBuildsCard : Claim7 := { stood := { row := towerBuildsRow, standIns := [], harness := (true, "5800cae783bc0b97d2e69bd4eea7e7d773095284e8d3c61e9b8ae08f9f66d531"), looks := false }, kinds := [], alts := [], laidByText := true, laidKinds := [.data], laidTests := true, laidLooks := .later }
def TowerBuildsCardSaid : Prop := Claim7.holds Tryd.pinned (.plain (OpenSpec.ofChange towerBuildsSpec)) towerBuildsCard

/-- THE TIED CARD OF 'archipelagolaw14.TowerRound'. -/
def towerRoundCard : Claim7 := { stood := { row := towerRoundRow, standIns := [], harness := (true, "5800cae783bc0b97d2e69bd4eea7e7d773095284e8d3c61e9b8ae08f9f66d531"), looks := false }, kinds := [], alts := [], laidByText := true, laidKinds := [.data], laidTests := true, laidLooks := .later }
def TowerRoundCardSaid : Prop := Claim7.holds Tryd.pinned (.plain (OpenSpec.ofChange towerRoundSpec)) towerRoundCard

/-- THE TIED CARD OF 'archipelagolaw14.TowerWalks'. -/
def towerWalksCard : Claim7 := { stood := { row := towerWalksRow, standIns := [], harness := (true, "5800cae783bc0b97d2e69bd4eea7e7d773095284e8d3c61e9b8ae08f9f66d531"), looks := false }, kinds := [], alts := [], laidByText := true, laidKinds := [.data], laidTests := true, laidLooks := .later }
def TowerWalksCardSaid : Prop := Claim7.holds Tryd.pinned (.plain (OpenSpec.ofChange towerWalksSpec)) towerWalksCard

/-- THE TIED CARD OF 'archipelagolaw14.TowerLevels'. -/
def towerLevelsCard : Claim7 := { stood := { row := towerLevelsRow, standIns := [], harness := (true, "5800cae783bc0b97d2e69bd4eea7e7d773095284e8d3c61e9b8ae08f9f66d531"), looks := false }, kinds := [], alts := [], laidByText := true, laidKinds := [.data], laidTests := true, laidLooks := .later }
def TowerLevelsCardSaid : Prop := Claim7.holds Tryd.pinned (.plain (OpenSpec.ofChange towerLevelsSpec)) towerLevelsCard

/-- THE SECOND FORM's CARD OF 'archipelagolaw14.TowerBuilds'. -/
def towerBuildsUptoCard : Claim7 := { stood := { row := towerBuildsUptoRow, standIns := [], harness := (true, "5800cae783bc0b97d2e69bd4eea7e7d773095284e8d3c61e9b8ae08f9f66d531"), looks := false }, kinds := [], alts := [], laidByText := true, laidKinds := [.data], laidTests := true, laidLooks := .later }
def TowerBuildsUptoCardSaid : Prop := Claim7.holds Tryd.pinned (.plain (OpenSpec.upto towerBuildsSpec)) towerBuildsUptoCard

/-- THE SECOND FORM's CARD OF 'archipelagolaw14.TowerRound'. -/
def towerRoundUptoCard : Claim7 := { stood := { row := towerRoundUptoRow, standIns := [], harness := (true, "5800cae783bc0b97d2e69bd4eea7e7d773095284e8d3c61e9b8ae08f9f66d531"), looks := false }, kinds := [], alts := [], laidByText := true, laidKinds := [.data], laidTests := true, laidLooks := .later }
def TowerRoundUptoCardSaid : Prop := Claim7.holds Tryd.pinned (.plain (OpenSpec.upto towerRoundSpec)) towerRoundUptoCard

/-- THE SECOND FORM's CARD OF 'archipelagolaw14.TowerWalks'. -/
def towerWalksUptoCard : Claim7 := { stood := { row := towerWalksUptoRow, standIns := [], harness := (true, "5800cae783bc0b97d2e69bd4eea7e7d773095284e8d3c61e9b8ae08f9f66d531"), looks := false }, kinds := [], alts := [], laidByText := true, laidKinds := [.data], laidTests := true, laidLooks := .later }
def TowerWalksUptoCardSaid : Prop := Claim7.holds Tryd.pinned (.plain (OpenSpec.upto towerWalksSpec)) towerWalksUptoCard

/-- THE SECOND FORM's CARD OF 'archipelagolaw14.TowerLevels'. -/
def towerLevelsUptoCard : Claim7 := { stood := { row := towerLevelsUptoRow, standIns := [], harness := (true, "5800cae783bc0b97d2e69bd4eea7e7d773095284e8d3c61e9b8ae08f9f66d531"), looks := false }, kinds := [], alts := [], laidByText := true, laidKinds := [.data], laidTests := true, laidLooks := .later }
def TowerLevelsUptoCardSaid : Prop := Claim7.holds Tryd.pinned (.plain (OpenSpec.upto towerLevelsSpec)) towerLevelsUptoCard
end Rows
end Go.Proofs.YtfkidgpjejcblaaDoor
