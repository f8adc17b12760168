/-
  DERIVED. GIVEN WITH THE SEED: THE CARDS: each row of YtdpccnpaajhliaaGreatDoorRows.lean that lists a variable, with what it lists TIED to the program's text (the seventh form; the later family's looks); each row that meets fmt, with fmt's text TOLD by the authors' own Lean function (tested against real Go, not proved from fmt's source: count such statements apart). THE CARD IS WHAT COUNTS. Prove the row's statement (the work); the ties are given (YtdpccnpaajhliaaGreatDoorTie.lean); close each card by the builder's one call (the guide's Derived/Test/ToyasCard.lean, 'card_holds'). Laid BY PROGRAM, IN A SANDBOX (cutbox-door.mjs). By AI agents, Wed Nov 11 2026. No macro, syntax, notation, axiom, sorry.
-/
import Derived.Test.YtdpccnpaajhliaaGreatDoorRows
import GoSem.ClaimSeven
namespace Go.Proofs.YtdpccnpaajhliaaGreatDoor
namespace Rows

/-- THE TIED CARD OF 'busbarlaw07.VerifyIsSound'. -/
def verifyIsSoundCard : Claim7 := { stood := { row := verifyIsSoundRow, standIns := [], harness := (true, "b870213290b8ae380d25ccd67e09399b2b8e8b34a77d89dc23fda4966736ae1b"), looks := true }, kinds := [], alts := [], laidByText := true, laidKinds := [.data, .data, .data, .sentinel, .sentinel, .data, .data], laidTests := true, laidLooks := .later }
def VerifyIsSoundCardSaid : Prop := Claim7.holds Tryz.pinned (.plain (OpenSpec.ofChange verifyIsSoundSpec)) verifyIsSoundCard

/-- THE TIED CARD OF 'busbarlaw07.VerifyRejectsFaults'. -/
def verifyRejectsFaultsCard : Claim7 := { stood := { row := verifyRejectsFaultsRow, standIns := [], harness := (true, "b870213290b8ae380d25ccd67e09399b2b8e8b34a77d89dc23fda4966736ae1b"), looks := true }, kinds := [], alts := [], laidByText := true, laidKinds := [.data, .data, .data, .sentinel, .sentinel, .data, .data], laidTests := true, laidLooks := .later }
def VerifyRejectsFaultsCardSaid : Prop := Claim7.holds Tryz.pinned (.plain (OpenSpec.ofChange verifyRejectsFaultsSpec)) verifyRejectsFaultsCard

/-- THE SECOND FORM's CARD OF 'busbarlaw07.VerifyIsSound'. -/
def verifyIsSoundUptoCard : Claim7 := { stood := { row := verifyIsSoundUptoRow, standIns := [], harness := (true, "b870213290b8ae380d25ccd67e09399b2b8e8b34a77d89dc23fda4966736ae1b"), looks := true }, kinds := [], alts := [], laidByText := true, laidKinds := [.data, .data, .data, .sentinel, .sentinel, .data, .data], laidTests := true, laidLooks := .later }
def VerifyIsSoundUptoCardSaid : Prop := Claim7.holds Tryz.pinned (.plain (OpenSpec.upto verifyIsSoundSpec)) verifyIsSoundUptoCard

/-- THE SECOND FORM's CARD OF 'busbarlaw07.VerifyRejectsFaults'. -/
def verifyRejectsFaultsUptoCard : Claim7 := { stood := { row := verifyRejectsFaultsUptoRow, standIns := [], harness := (true, "b870213290b8ae380d25ccd67e09399b2b8e8b34a77d89dc23fda4966736ae1b"), looks := true }, kinds := [], alts := [], laidByText := true, laidKinds := [.data, .data, .data, .sentinel, .sentinel, .data, .data], laidTests := true, laidLooks := .later }
def VerifyRejectsFaultsUptoCardSaid : Prop := Claim7.holds Tryz.pinned (.plain (OpenSpec.upto verifyRejectsFaultsSpec)) verifyRejectsFaultsUptoCard
end Rows
end Go.Proofs.YtdpccnpaajhliaaGreatDoor
