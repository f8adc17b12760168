/-
  DERIVED. GIVEN WITH THE SEED: THE CARDS: each row of YtdpccnpaajhliaaDoorRows.lean that lists a variable, with what it lists TIED to the program's text (the seventh form; the later family's looks); each row that meets fmt, with fmt's text TOLD by the authors' own Lean function (tested against real Go, not proved from fmt's source: count such statements apart). THE CARD IS WHAT COUNTS. Prove the row's statement (the work); the ties are given (YtdpccnpaajhliaaDoorTie.lean); close each card by the builder's one call (the guide's Derived/Test/ToyasCard.lean, 'card_holds'). Laid BY PROGRAM, IN A SANDBOX (cutbox-door.mjs). By AI agents, Wed Nov 11 2026. No macro, syntax, notation, axiom, sorry.
-/
import Derived.Test.YtdpccnpaajhliaaDoorRows
import GoSem.ClaimSeven
namespace Go.Proofs.YtdpccnpaajhliaaDoor
namespace Rows

/-- THE TIED CARD OF 'busbarlaw07.VerifyCheckMatchesReference'. -/
def verifyCheckMatchesReferenceCard : Claim7 := { stood := { row := verifyCheckMatchesReferenceRow, standIns := [], harness := (true, "7fa224ffbc5d52cfad003f953c3c8743440b800f85aac847e29c7c20ad0860e1"), looks := true }, kinds := [], alts := [], laidByText := true, laidKinds := [.data, .data, .data, .sentinel, .sentinel, .data, .data], laidTests := true, laidLooks := .later }
def VerifyCheckMatchesReferenceCardSaid : Prop := Claim7.holds Tryd.pinned (.plain (OpenSpec.ofChange verifyCheckMatchesReferenceSpec)) verifyCheckMatchesReferenceCard

/-- THE TIED CARD OF 'busbarlaw07.VerifyDepthsMatchReference'. -/
def verifyDepthsMatchReferenceCard : Claim7 := { stood := { row := verifyDepthsMatchReferenceRow, standIns := [], harness := (true, "7fa224ffbc5d52cfad003f953c3c8743440b800f85aac847e29c7c20ad0860e1"), looks := true }, kinds := [], alts := [], laidByText := true, laidKinds := [.data, .data, .data, .sentinel, .sentinel, .data, .data], laidTests := true, laidLooks := .later }
def VerifyDepthsMatchReferenceCardSaid : Prop := Claim7.holds Tryd.pinned (.plain (OpenSpec.ofChange verifyDepthsMatchReferenceSpec)) verifyDepthsMatchReferenceCard

/-- THE TIED CARD OF 'busbarlaw07.VerifyDepthLimit'. -/
def verifyDepthLimitCard : Claim7 := { stood := { row := verifyDepthLimitRow, standIns := [], harness := (true, "7fa224ffbc5d52cfad003f953c3c8743440b800f85aac847e29c7c20ad0860e1"), looks := true }, kinds := [], alts := [], laidByText := true, laidKinds := [.data, .data, .data, .sentinel, .sentinel, .data, .data], laidTests := true, laidLooks := .later }
def VerifyDepthLimitCardSaid : Prop := Claim7.holds Tryd.pinned (.plain (OpenSpec.ofChange verifyDepthLimitSpec)) verifyDepthLimitCard

/-- THE TIED CARD OF 'busbarlaw07.VerifyConcatenation'. -/
def verifyConcatenationCard : Claim7 := { stood := { row := verifyConcatenationRow, standIns := [], harness := (true, "7fa224ffbc5d52cfad003f953c3c8743440b800f85aac847e29c7c20ad0860e1"), looks := true }, kinds := [], alts := [], laidByText := true, laidKinds := [.data, .data, .data, .sentinel, .sentinel, .data, .data], laidTests := true, laidLooks := .later }
def VerifyConcatenationCardSaid : Prop := Claim7.holds Tryd.pinned (.plain (OpenSpec.ofChange verifyConcatenationSpec)) verifyConcatenationCard

/-- THE SECOND FORM's CARD OF 'busbarlaw07.VerifyCheckMatchesReference'. -/
def verifyCheckMatchesReferenceUptoCard : Claim7 := { stood := { row := verifyCheckMatchesReferenceUptoRow, standIns := [], harness := (true, "7fa224ffbc5d52cfad003f953c3c8743440b800f85aac847e29c7c20ad0860e1"), looks := true }, kinds := [], alts := [], laidByText := true, laidKinds := [.data, .data, .data, .sentinel, .sentinel, .data, .data], laidTests := true, laidLooks := .later }
def VerifyCheckMatchesReferenceUptoCardSaid : Prop := Claim7.holds Tryd.pinned (.plain (OpenSpec.upto verifyCheckMatchesReferenceSpec)) verifyCheckMatchesReferenceUptoCard

/-- THE SECOND FORM's CARD OF 'busbarlaw07.VerifyDepthsMatchReference'. -/
def verifyDepthsMatchReferenceUptoCard : Claim7 := { stood := { row := verifyDepthsMatchReferenceUptoRow, standIns := [], harness := (true, "7fa224ffbc5d52cfad003f953c3c8743440b800f85aac847e29c7c20ad0860e1"), looks := true }, kinds := [], alts := [], laidByText := true, laidKinds := [.data, .data, .data, .sentinel, .sentinel, .data, .data], laidTests := true, laidLooks := .later }
def VerifyDepthsMatchReferenceUptoCardSaid : Prop := Claim7.holds Tryd.pinned (.plain (OpenSpec.upto verifyDepthsMatchReferenceSpec)) verifyDepthsMatchReferenceUptoCard

/-- THE SECOND FORM's CARD OF 'busbarlaw07.VerifyDepthLimit'. -/
def verifyDepthLimitUptoCard : Claim7 := { stood := { row := verifyDepthLimitUptoRow, standIns := [], harness := (true, "7fa224ffbc5d52cfad003f953c3c8743440b800f85aac847e29c7c20ad0860e1"), looks := true }, kinds := [], alts := [], laidByText := true, laidKinds := [.data, .data, .data, .sentinel, .sentinel, .data, .data], laidTests := true, laidLooks := .later }
def VerifyDepthLimitUptoCardSaid : Prop := Claim7.holds Tryd.pinned (.plain (OpenSpec.upto verifyDepthLimitSpec)) verifyDepthLimitUptoCard

/-- THE SECOND FORM's CARD OF 'busbarlaw07.VerifyConcatenation'. -/
def verifyConcatenationUptoCard : Claim7 := { stood := { row := verifyConcatenationUptoRow, standIns := [], harness := (true, "7fa224ffbc5d52cfad003f953c3c8743440b800f85aac847e29c7c20ad0860e1"), looks := true }, kinds := [], alts := [], laidByText := true, laidKinds := [.data, .data, .data, .sentinel, .sentinel, .data, .data], laidTests := true, laidLooks := .later }
def VerifyConcatenationUptoCardSaid : Prop := Claim7.holds Tryd.pinned (.plain (OpenSpec.upto verifyConcatenationSpec)) verifyConcatenationUptoCard
end Rows
end Go.Proofs.YtdpccnpaajhliaaDoor
