/-
  DERIVED. GIVEN WITH THE SEED: THE CARDS: each row of YtdiamajkfbejhaaDoorRows.lean that lists a variable, with what it lists TIED to the program's text (the seventh form; the later family's looks); each row that meets fmt, with fmt's text TOLD by the authors' own Lean function (tested against real Go, not proved from fmt's source: count such statements apart). THE CARD IS WHAT COUNTS. Prove the row's statement (the work); the ties are given (YtdiamajkfbejhaaDoorTie.lean); close each card by the builder's one call (the guide's Derived/Test/ToyasCard.lean, 'card_holds'). Laid BY PROGRAM, IN A SANDBOX (cutbox-door.mjs). By AI agents, Wed Nov 11 2026. No macro, syntax, notation, axiom, sorry.
-/
import Derived.Test.YtdiamajkfbejhaaDoorRows
import GoSem.ClaimSeven
namespace Go.Proofs.YtdiamajkfbejhaaDoor
namespace Rows

/-- THE TIED CARD OF 'busbarlaw08.BytecodeEncodeMatchesReference'. -/
def bytecodeEncodeMatchesReferenceCard : Claim7 := { stood := { row := bytecodeEncodeMatchesReferenceRow, standIns := [], harness := (true, "11002fbd80ab522d902ddaa074b1a717e2580b210706cf783c198f9b31aac9fb"), looks := true }, kinds := [], alts := [], laidByText := true, laidKinds := [.data, .data, .data, .sentinel, .sentinel, .data, .data], laidTests := true, laidLooks := .later }
def BytecodeEncodeMatchesReferenceCardSaid : Prop := Claim7.holds Tryd.pinned (.plain (OpenSpec.ofChange bytecodeEncodeMatchesReferenceSpec)) bytecodeEncodeMatchesReferenceCard

/-- THE TIED CARD OF 'busbarlaw08.BytecodeDecodeMatchesReference'. -/
def bytecodeDecodeMatchesReferenceCard : Claim7 := { stood := { row := bytecodeDecodeMatchesReferenceRow, standIns := [], harness := (true, "11002fbd80ab522d902ddaa074b1a717e2580b210706cf783c198f9b31aac9fb"), looks := true }, kinds := [], alts := [], laidByText := true, laidKinds := [.data, .data, .data, .sentinel, .sentinel, .data, .data], laidTests := true, laidLooks := .later }
def BytecodeDecodeMatchesReferenceCardSaid : Prop := Claim7.holds Tryd.pinned (.plain (OpenSpec.ofChange bytecodeDecodeMatchesReferenceSpec)) bytecodeDecodeMatchesReferenceCard

/-- THE TIED CARD OF 'busbarlaw08.BytecodeRoundTrip'. -/
def bytecodeRoundTripCard : Claim7 := { stood := { row := bytecodeRoundTripRow, standIns := [], harness := (true, "11002fbd80ab522d902ddaa074b1a717e2580b210706cf783c198f9b31aac9fb"), looks := true }, kinds := [], alts := [], laidByText := true, laidKinds := [.data, .data, .data, .sentinel, .sentinel, .data, .data], laidTests := true, laidLooks := .later }
def BytecodeRoundTripCardSaid : Prop := Claim7.holds Tryd.pinned (.plain (OpenSpec.ofChange bytecodeRoundTripSpec)) bytecodeRoundTripCard

/-- THE TIED CARD OF 'busbarlaw08.BytecodeLimit'. -/
def bytecodeLimitCard : Claim7 := { stood := { row := bytecodeLimitRow, standIns := [], harness := (true, "11002fbd80ab522d902ddaa074b1a717e2580b210706cf783c198f9b31aac9fb"), looks := true }, kinds := [], alts := [], laidByText := true, laidKinds := [.data, .data, .data, .sentinel, .sentinel, .data, .data], laidTests := true, laidLooks := .later }
def BytecodeLimitCardSaid : Prop := Claim7.holds Tryd.pinned (.plain (OpenSpec.ofChange bytecodeLimitSpec)) bytecodeLimitCard

/-- THE TIED CARD OF 'busbarlaw08.BytecodeCorruption'. -/
def bytecodeCorruptionCard : Claim7 := { stood := { row := bytecodeCorruptionRow, standIns := [], harness := (true, "11002fbd80ab522d902ddaa074b1a717e2580b210706cf783c198f9b31aac9fb"), looks := true }, kinds := [], alts := [], laidByText := true, laidKinds := [.data, .data, .data, .sentinel, .sentinel, .data, .data], laidTests := true, laidLooks := .later }
def BytecodeCorruptionCardSaid : Prop := Claim7.holds Tryd.pinned (.plain (OpenSpec.ofChange bytecodeCorruptionSpec)) bytecodeCorruptionCard

/-- THE TIED CARD OF 'busbarlaw08.BytecodeLength'. -/
def bytecodeLengthCard : Claim7 := { stood := { row := bytecodeLengthRow, standIns := [], harness := (true, "11002fbd80ab522d902ddaa074b1a717e2580b210706cf783c198f9b31aac9fb"), looks := true }, kinds := [], alts := [], laidByText := true, laidKinds := [.data, .data, .data, .sentinel, .sentinel, .data, .data], laidTests := true, laidLooks := .later }
def BytecodeLengthCardSaid : Prop := Claim7.holds Tryd.pinned (.plain (OpenSpec.ofChange bytecodeLengthSpec)) bytecodeLengthCard

/-- THE SECOND FORM's CARD OF 'busbarlaw08.BytecodeEncodeMatchesReference'. -/
def bytecodeEncodeMatchesReferenceUptoCard : Claim7 := { stood := { row := bytecodeEncodeMatchesReferenceUptoRow, standIns := [], harness := (true, "11002fbd80ab522d902ddaa074b1a717e2580b210706cf783c198f9b31aac9fb"), looks := true }, kinds := [], alts := [], laidByText := true, laidKinds := [.data, .data, .data, .sentinel, .sentinel, .data, .data], laidTests := true, laidLooks := .later }
def BytecodeEncodeMatchesReferenceUptoCardSaid : Prop := Claim7.holds Tryd.pinned (.plain (OpenSpec.upto bytecodeEncodeMatchesReferenceSpec)) bytecodeEncodeMatchesReferenceUptoCard

/-- THE SECOND FORM's CARD OF 'busbarlaw08.BytecodeDecodeMatchesReference'. -/
def bytecodeDecodeMatchesReferenceUptoCard : Claim7 := { stood := { row := bytecodeDecodeMatchesReferenceUptoRow, standIns := [], harness := (true, "11002fbd80ab522d902ddaa074b1a717e2580b210706cf783c198f9b31aac9fb"), looks := true }, kinds := [], alts := [], laidByText := true, laidKinds := [.data, .data, .data, .sentinel, .sentinel, .data, .data], laidTests := true, laidLooks := .later }
def BytecodeDecodeMatchesReferenceUptoCardSaid : Prop := Claim7.holds Tryd.pinned (.plain (OpenSpec.upto bytecodeDecodeMatchesReferenceSpec)) bytecodeDecodeMatchesReferenceUptoCard

/-- THE SECOND FORM's CARD OF 'busbarlaw08.BytecodeRoundTrip'. -/
def bytecodeRoundTripUptoCard : Claim7 := { stood := { row := bytecodeRoundTripUptoRow, standIns := [], harness := (true, "11002fbd80ab522d902ddaa074b1a717e2580b210706cf783c198f9b31aac9fb"), looks := true }, kinds := [], alts := [], laidByText := true, laidKinds := [.data, .data, .data, .sentinel, .sentinel, .data, .data], laidTests := true, laidLooks := .later }
def BytecodeRoundTripUptoCardSaid : Prop := Claim7.holds Tryd.pinned (.plain (OpenSpec.upto bytecodeRoundTripSpec)) bytecodeRoundTripUptoCard

/-- THE SECOND FORM's CARD OF 'busbarlaw08.BytecodeLimit'. -/
def bytecodeLimitUptoCard : Claim7 := { stood := { row := bytecodeLimitUptoRow, standIns := [], harness := (true, "11002fbd80ab522d902ddaa074b1a717e2580b210706cf783c198f9b31aac9fb"), looks := true }, kinds := [], alts := [], laidByText := true, laidKinds := [.data, .data, .data, .sentinel, .sentinel, .data, .data], laidTests := true, laidLooks := .later }
def BytecodeLimitUptoCardSaid : Prop := Claim7.holds Tryd.pinned (.plain (OpenSpec.upto bytecodeLimitSpec)) bytecodeLimitUptoCard

/-- THE SECOND FORM's CARD OF 'busbarlaw08.BytecodeCorruption'. -/
def bytecodeCorruptionUptoCard : Claim7 := { stood := { row := bytecodeCorruptionUptoRow, standIns := [], harness := (true, "11002fbd80ab522d902ddaa074b1a717e2580b210706cf783c198f9b31aac9fb"), looks := true }, kinds := [], alts := [], laidByText := true, laidKinds := [.data, .data, .data, .sentinel, .sentinel, .data, .data], laidTests := true, laidLooks := .later }
def BytecodeCorruptionUptoCardSaid : Prop := Claim7.holds Tryd.pinned (.plain (OpenSpec.upto bytecodeCorruptionSpec)) bytecodeCorruptionUptoCard

/-- THE SECOND FORM's CARD OF 'busbarlaw08.BytecodeLength'. -/
def bytecodeLengthUptoCard : Claim7 := { stood := { row := bytecodeLengthUptoRow, standIns := [], harness := (true, "11002fbd80ab522d902ddaa074b1a717e2580b210706cf783c198f9b31aac9fb"), looks := true }, kinds := [], alts := [], laidByText := true, laidKinds := [.data, .data, .data, .sentinel, .sentinel, .data, .data], laidTests := true, laidLooks := .later }
def BytecodeLengthUptoCardSaid : Prop := Claim7.holds Tryd.pinned (.plain (OpenSpec.upto bytecodeLengthSpec)) bytecodeLengthUptoCard
end Rows
end Go.Proofs.YtdiamajkfbejhaaDoor
