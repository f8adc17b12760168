/-
  DERIVED. GIVEN WITH THE SEED: THE CARDS: each row of YtfnmjbapjngmaaaDoorRows.lean that lists a variable, with what it lists TIED to the program's text (the seventh form; the later family's looks); each row that meets fmt, with fmt's text TOLD by the authors' own Lean function (tested against real Go, not proved from fmt's source: count such statements apart). THE CARD IS WHAT COUNTS. Prove the row's statement (the work); the ties are given (YtfnmjbapjngmaaaDoorTie.lean); close each card by the builder's one call (the guide's Derived/Test/ToyasCard.lean, 'card_holds'). Laid BY PROGRAM, IN A SANDBOX (cutbox-door.mjs). By AI agents, Wed Nov 11 2026. No macro, syntax, notation, axiom, sorry.
-/
import Derived.Test.YtfnmjbapjngmaaaDoorRows
import GoSem.ClaimSeven
namespace Go.Proofs.YtfnmjbapjngmaaaDoor
namespace Rows

/-- THE TIED CARD OF 'busbarlaw04.OpTableMatchesReference'. -/
def opTableMatchesReferenceCard : Claim7 := { stood := { row := opTableMatchesReferenceRow, standIns := [], harness := (true, "8bc8caf0d4e205f0893d35e06c98ba2fea84c757961d6cc1c855935ee20d67d5"), looks := true }, kinds := [], alts := [], laidByText := true, laidKinds := [.data, .data, .data, .data, .sentinel, .sentinel, .data, .data, .pinned], laidTests := true, laidLooks := .later }
def OpTableMatchesReferenceCardSaid : Prop := Claim7.holds Tryd.pinned (.plain (OpenSpec.ofChange opTableMatchesReferenceSpec)) opTableMatchesReferenceCard

/-- THE TIED CARD OF 'busbarlaw04.OpCheckMatchesReference'. -/
def opCheckMatchesReferenceCard : Claim7 := { stood := { row := opCheckMatchesReferenceRow, standIns := [], harness := (true, "8bc8caf0d4e205f0893d35e06c98ba2fea84c757961d6cc1c855935ee20d67d5"), looks := true }, kinds := [], alts := [], laidByText := true, laidKinds := [.data, .data, .data, .data, .sentinel, .sentinel, .data, .data, .pinned], laidTests := true, laidLooks := .later }
def OpCheckMatchesReferenceCardSaid : Prop := Claim7.holds Tryd.pinned (.plain (OpenSpec.ofChange opCheckMatchesReferenceSpec)) opCheckMatchesReferenceCard

/-- THE TIED CARD OF 'busbarlaw04.OpFormatMatchesReference'. -/
def opFormatMatchesReferenceCard : Claim7 := { stood := { row := opFormatMatchesReferenceRow, standIns := [], harness := (true, "8bc8caf0d4e205f0893d35e06c98ba2fea84c757961d6cc1c855935ee20d67d5"), looks := true }, kinds := [], alts := [], laidByText := true, laidKinds := [.data, .data, .data, .data, .sentinel, .sentinel, .data, .data, .pinned], laidTests := true, laidLooks := .later }
def OpFormatMatchesReferenceCardSaid : Prop := Claim7.holds Tryd.pinned (.plain (OpenSpec.ofChange opFormatMatchesReferenceSpec)) opFormatMatchesReferenceCard

/-- THE TIED CARD OF 'busbarlaw04.OpRoundTrip'. -/
def opRoundTripCard : Claim7 := { stood := { row := opRoundTripRow, standIns := [], harness := (true, "8bc8caf0d4e205f0893d35e06c98ba2fea84c757961d6cc1c855935ee20d67d5"), looks := true }, kinds := [], alts := [], laidByText := true, laidKinds := [.data, .data, .data, .data, .sentinel, .sentinel, .data, .data, .pinned], laidTests := true, laidLooks := .later }
def OpRoundTripCardSaid : Prop := Claim7.holds Tryd.pinned (.plain (OpenSpec.ofChange opRoundTripSpec)) opRoundTripCard

/-- THE TIED CARD OF 'busbarlaw04.OpCheckIsMonotone'. -/
def opCheckIsMonotoneCard : Claim7 := { stood := { row := opCheckIsMonotoneRow, standIns := [], harness := (true, "8bc8caf0d4e205f0893d35e06c98ba2fea84c757961d6cc1c855935ee20d67d5"), looks := true }, kinds := [], alts := [], laidByText := true, laidKinds := [.data, .data, .data, .data, .sentinel, .sentinel, .data, .data, .pinned], laidTests := true, laidLooks := .later }
def OpCheckIsMonotoneCardSaid : Prop := Claim7.holds Tryd.pinned (.plain (OpenSpec.ofChange opCheckIsMonotoneSpec)) opCheckIsMonotoneCard

/-- THE TIED CARD OF 'busbarlaw04.OpNamesAreDistinct'. -/
def opNamesAreDistinctCard : Claim7 := { stood := { row := opNamesAreDistinctRow, standIns := [], harness := (true, "8bc8caf0d4e205f0893d35e06c98ba2fea84c757961d6cc1c855935ee20d67d5"), looks := true }, kinds := [], alts := [], laidByText := true, laidKinds := [.data, .data, .data, .data, .sentinel, .sentinel, .data, .data, .pinned], laidTests := true, laidLooks := .later }
def OpNamesAreDistinctCardSaid : Prop := Claim7.holds Tryd.pinned (.plain (OpenSpec.ofChange opNamesAreDistinctSpec)) opNamesAreDistinctCard

/-- THE TIED CARD OF 'busbarlaw04.OpParseRejectsVariants'. -/
def opParseRejectsVariantsCard : Claim7 := { stood := { row := opParseRejectsVariantsRow, standIns := [], harness := (true, "8bc8caf0d4e205f0893d35e06c98ba2fea84c757961d6cc1c855935ee20d67d5"), looks := true }, kinds := [], alts := [], laidByText := true, laidKinds := [.data, .data, .data, .data, .sentinel, .sentinel, .data, .data, .pinned], laidTests := true, laidLooks := .later }
def OpParseRejectsVariantsCardSaid : Prop := Claim7.holds Tryd.pinned (.plain (OpenSpec.ofChange opParseRejectsVariantsSpec)) opParseRejectsVariantsCard

/-- THE SECOND FORM's CARD OF 'busbarlaw04.OpTableMatchesReference'. -/
def opTableMatchesReferenceUptoCard : Claim7 := { stood := { row := opTableMatchesReferenceUptoRow, standIns := [], harness := (true, "8bc8caf0d4e205f0893d35e06c98ba2fea84c757961d6cc1c855935ee20d67d5"), looks := true }, kinds := [], alts := [], laidByText := true, laidKinds := [.data, .data, .data, .data, .sentinel, .sentinel, .data, .data, .pinned], laidTests := true, laidLooks := .later }
def OpTableMatchesReferenceUptoCardSaid : Prop := Claim7.holds Tryd.pinned (.plain (OpenSpec.upto opTableMatchesReferenceSpec)) opTableMatchesReferenceUptoCard

/-- THE SECOND FORM's CARD OF 'busbarlaw04.OpCheckMatchesReference'. -/
def opCheckMatchesReferenceUptoCard : Claim7 := { stood := { row := opCheckMatchesReferenceUptoRow, standIns := [], harness := (true, "8bc8caf0d4e205f0893d35e06c98ba2fea84c757961d6cc1c855935ee20d67d5"), looks := true }, kinds := [], alts := [], laidByText := true, laidKinds := [.data, .data, .data, .data, .sentinel, .sentinel, .data, .data, .pinned], laidTests := true, laidLooks := .later }
def OpCheckMatchesReferenceUptoCardSaid : Prop := Claim7.holds Tryd.pinned (.plain (OpenSpec.upto opCheckMatchesReferenceSpec)) opCheckMatchesReferenceUptoCard

/-- THE SECOND FORM's CARD OF 'busbarlaw04.OpFormatMatchesReference'. -/
def opFormatMatchesReferenceUptoCard : Claim7 := { stood := { row := opFormatMatchesReferenceUptoRow, standIns := [], harness := (true, "8bc8caf0d4e205f0893d35e06c98ba2fea84c757961d6cc1c855935ee20d67d5"), looks := true }, kinds := [], alts := [], laidByText := true, laidKinds := [.data, .data, .data, .data, .sentinel, .sentinel, .data, .data, .pinned], laidTests := true, laidLooks := .later }
def OpFormatMatchesReferenceUptoCardSaid : Prop := Claim7.holds Tryd.pinned (.plain (OpenSpec.upto opFormatMatchesReferenceSpec)) opFormatMatchesReferenceUptoCard

/-- THE SECOND FORM's CARD OF 'busbarlaw04.OpRoundTrip'. -/
def opRoundTripUptoCard : Claim7 := { stood := { row := opRoundTripUptoRow, standIns := [], harness := (true, "8bc8caf0d4e205f0893d35e06c98ba2fea84c757961d6cc1c855935ee20d67d5"), looks := true }, kinds := [], alts := [], laidByText := true, laidKinds := [.data, .data, .data, .data, .sentinel, .sentinel, .data, .data, .pinned], laidTests := true, laidLooks := .later }
def OpRoundTripUptoCardSaid : Prop := Claim7.holds Tryd.pinned (.plain (OpenSpec.upto opRoundTripSpec)) opRoundTripUptoCard

/-- THE SECOND FORM's CARD OF 'busbarlaw04.OpCheckIsMonotone'. -/
def opCheckIsMonotoneUptoCard : Claim7 := { stood := { row := opCheckIsMonotoneUptoRow, standIns := [], harness := (true, "8bc8caf0d4e205f0893d35e06c98ba2fea84c757961d6cc1c855935ee20d67d5"), looks := true }, kinds := [], alts := [], laidByText := true, laidKinds := [.data, .data, .data, .data, .sentinel, .sentinel, .data, .data, .pinned], laidTests := true, laidLooks := .later }
def OpCheckIsMonotoneUptoCardSaid : Prop := Claim7.holds Tryd.pinned (.plain (OpenSpec.upto opCheckIsMonotoneSpec)) opCheckIsMonotoneUptoCard

/-- THE SECOND FORM's CARD OF 'busbarlaw04.OpNamesAreDistinct'. -/
def opNamesAreDistinctUptoCard : Claim7 := { stood := { row := opNamesAreDistinctUptoRow, standIns := [], harness := (true, "8bc8caf0d4e205f0893d35e06c98ba2fea84c757961d6cc1c855935ee20d67d5"), looks := true }, kinds := [], alts := [], laidByText := true, laidKinds := [.data, .data, .data, .data, .sentinel, .sentinel, .data, .data, .pinned], laidTests := true, laidLooks := .later }
def OpNamesAreDistinctUptoCardSaid : Prop := Claim7.holds Tryd.pinned (.plain (OpenSpec.upto opNamesAreDistinctSpec)) opNamesAreDistinctUptoCard

/-- THE SECOND FORM's CARD OF 'busbarlaw04.OpParseRejectsVariants'. -/
def opParseRejectsVariantsUptoCard : Claim7 := { stood := { row := opParseRejectsVariantsUptoRow, standIns := [], harness := (true, "8bc8caf0d4e205f0893d35e06c98ba2fea84c757961d6cc1c855935ee20d67d5"), looks := true }, kinds := [], alts := [], laidByText := true, laidKinds := [.data, .data, .data, .data, .sentinel, .sentinel, .data, .data, .pinned], laidTests := true, laidLooks := .later }
def OpParseRejectsVariantsUptoCardSaid : Prop := Claim7.holds Tryd.pinned (.plain (OpenSpec.upto opParseRejectsVariantsSpec)) opParseRejectsVariantsUptoCard
end Rows
end Go.Proofs.YtfnmjbapjngmaaaDoor
