/-
  DERIVED. GIVEN WITH THE SEED: THE CARDS: each row of YtfkjggghlkondaaDoorRows.lean that lists a variable, with what it lists TIED to the program's text (the seventh form; the later family's looks); each row that meets fmt, with fmt's text TOLD by the authors' own Lean function (tested against real Go, not proved from fmt's source: count such statements apart). THE CARD IS WHAT COUNTS. Prove the row's statement (the work); the ties are given (YtfkjggghlkondaaDoorTie.lean); close each card by the builder's one call (the guide's Derived/Test/ToyasCard.lean, 'card_holds'). Laid BY PROGRAM, IN A SANDBOX (cutbox-door.mjs). By AI agents, Wed Nov 11 2026. No macro, syntax, notation, axiom, sorry.
-/
import Derived.Test.YtfkjggghlkondaaDoorRows
import GoSem.ClaimSeven
namespace Go.Proofs.YtfkjggghlkondaaDoor
namespace Rows

/-- THE TIED CARD OF 'busbarlaw01.AddrFormatMatchesReference'. -/
def addrFormatMatchesReferenceCard : Claim7 := { stood := { row := addrFormatMatchesReferenceRow, standIns := [], harness := (true, "156e2002369086da4c96053a8f0087741c822087e85144bd76203ae39517d533"), looks := false }, kinds := [], alts := [], laidByText := true, laidKinds := [.data, .data, .data, .data], laidTests := true, laidLooks := .later }
def AddrFormatMatchesReferenceCardSaid : Prop := Claim7.holds Tryd.pinned (.plain (OpenSpec.ofChange addrFormatMatchesReferenceSpec)) addrFormatMatchesReferenceCard

/-- THE TIED CARD OF 'busbarlaw01.AddrRoundTrip'. -/
def addrRoundTripCard : Claim7 := { stood := { row := addrRoundTripRow, standIns := [], harness := (true, "156e2002369086da4c96053a8f0087741c822087e85144bd76203ae39517d533"), looks := false }, kinds := [], alts := [], laidByText := true, laidKinds := [.data, .data, .data, .data], laidTests := true, laidLooks := .later }
def AddrRoundTripCardSaid : Prop := Claim7.holds Tryd.pinned (.plain (OpenSpec.ofChange addrRoundTripSpec)) addrRoundTripCard

/-- THE TIED CARD OF 'busbarlaw01.AddrCompareIsTotalOrder'. -/
def addrCompareIsTotalOrderCard : Claim7 := { stood := { row := addrCompareIsTotalOrderRow, standIns := [], harness := (true, "156e2002369086da4c96053a8f0087741c822087e85144bd76203ae39517d533"), looks := false }, kinds := [], alts := [], laidByText := true, laidKinds := [.data, .data, .data, .data], laidTests := true, laidLooks := .later }
def AddrCompareIsTotalOrderCardSaid : Prop := Claim7.holds Tryd.pinned (.plain (OpenSpec.ofChange addrCompareIsTotalOrderSpec)) addrCompareIsTotalOrderCard

/-- THE TIED CARD OF 'busbarlaw01.AddrCheckIsMonotone'. -/
def addrCheckIsMonotoneCard : Claim7 := { stood := { row := addrCheckIsMonotoneRow, standIns := [], harness := (true, "156e2002369086da4c96053a8f0087741c822087e85144bd76203ae39517d533"), looks := false }, kinds := [], alts := [], laidByText := true, laidKinds := [.data, .data, .data, .data], laidTests := true, laidLooks := .later }
def AddrCheckIsMonotoneCardSaid : Prop := Claim7.holds Tryd.pinned (.plain (OpenSpec.ofChange addrCheckIsMonotoneSpec)) addrCheckIsMonotoneCard

/-- THE TIED CARD OF 'busbarlaw01.AddrFormatIsInjective'. -/
def addrFormatIsInjectiveCard : Claim7 := { stood := { row := addrFormatIsInjectiveRow, standIns := [], harness := (true, "156e2002369086da4c96053a8f0087741c822087e85144bd76203ae39517d533"), looks := false }, kinds := [], alts := [], laidByText := true, laidKinds := [.data, .data, .data, .data], laidTests := true, laidLooks := .later }
def AddrFormatIsInjectiveCardSaid : Prop := Claim7.holds Tryd.pinned (.plain (OpenSpec.ofChange addrFormatIsInjectiveSpec)) addrFormatIsInjectiveCard

/-- THE TIED CARD OF 'busbarlaw01.AddrParseDigits'. -/
def addrParseDigitsCard : Claim7 := { stood := { row := addrParseDigitsRow, standIns := [], harness := (true, "156e2002369086da4c96053a8f0087741c822087e85144bd76203ae39517d533"), looks := false }, kinds := [], alts := [], laidByText := true, laidKinds := [.data, .data, .data, .data], laidTests := true, laidLooks := .later }
def AddrParseDigitsCardSaid : Prop := Claim7.holds Tryd.pinned (.plain (OpenSpec.ofChange addrParseDigitsSpec)) addrParseDigitsCard

/-- THE SECOND FORM's CARD OF 'busbarlaw01.AddrFormatMatchesReference'. -/
def addrFormatMatchesReferenceUptoCard : Claim7 := { stood := { row := addrFormatMatchesReferenceUptoRow, standIns := [], harness := (true, "156e2002369086da4c96053a8f0087741c822087e85144bd76203ae39517d533"), looks := false }, kinds := [], alts := [], laidByText := true, laidKinds := [.data, .data, .data, .data], laidTests := true, laidLooks := .later }
def AddrFormatMatchesReferenceUptoCardSaid : Prop := Claim7.holds Tryd.pinned (.plain (OpenSpec.upto addrFormatMatchesReferenceSpec)) addrFormatMatchesReferenceUptoCard

/-- THE SECOND FORM's CARD OF 'busbarlaw01.AddrRoundTrip'. -/
def addrRoundTripUptoCard : Claim7 := { stood := { row := addrRoundTripUptoRow, standIns := [], harness := (true, "156e2002369086da4c96053a8f0087741c822087e85144bd76203ae39517d533"), looks := false }, kinds := [], alts := [], laidByText := true, laidKinds := [.data, .data, .data, .data], laidTests := true, laidLooks := .later }
def AddrRoundTripUptoCardSaid : Prop := Claim7.holds Tryd.pinned (.plain (OpenSpec.upto addrRoundTripSpec)) addrRoundTripUptoCard

/-- THE SECOND FORM's CARD OF 'busbarlaw01.AddrCompareIsTotalOrder'. -/
def addrCompareIsTotalOrderUptoCard : Claim7 := { stood := { row := addrCompareIsTotalOrderUptoRow, standIns := [], harness := (true, "156e2002369086da4c96053a8f0087741c822087e85144bd76203ae39517d533"), looks := false }, kinds := [], alts := [], laidByText := true, laidKinds := [.data, .data, .data, .data], laidTests := true, laidLooks := .later }
def AddrCompareIsTotalOrderUptoCardSaid : Prop := Claim7.holds Tryd.pinned (.plain (OpenSpec.upto addrCompareIsTotalOrderSpec)) addrCompareIsTotalOrderUptoCard

/-- THE SECOND FORM's CARD OF 'busbarlaw01.AddrCheckIsMonotone'. -/
def addrCheckIsMonotoneUptoCard : Claim7 := { stood := { row := addrCheckIsMonotoneUptoRow, standIns := [], harness := (true, "156e2002369086da4c96053a8f0087741c822087e85144bd76203ae39517d533"), looks := false }, kinds := [], alts := [], laidByText := true, laidKinds := [.data, .data, .data, .data], laidTests := true, laidLooks := .later }
def AddrCheckIsMonotoneUptoCardSaid : Prop := Claim7.holds Tryd.pinned (.plain (OpenSpec.upto addrCheckIsMonotoneSpec)) addrCheckIsMonotoneUptoCard

/-- THE SECOND FORM's CARD OF 'busbarlaw01.AddrFormatIsInjective'. -/
def addrFormatIsInjectiveUptoCard : Claim7 := { stood := { row := addrFormatIsInjectiveUptoRow, standIns := [], harness := (true, "156e2002369086da4c96053a8f0087741c822087e85144bd76203ae39517d533"), looks := false }, kinds := [], alts := [], laidByText := true, laidKinds := [.data, .data, .data, .data], laidTests := true, laidLooks := .later }
def AddrFormatIsInjectiveUptoCardSaid : Prop := Claim7.holds Tryd.pinned (.plain (OpenSpec.upto addrFormatIsInjectiveSpec)) addrFormatIsInjectiveUptoCard

/-- THE SECOND FORM's CARD OF 'busbarlaw01.AddrParseDigits'. -/
def addrParseDigitsUptoCard : Claim7 := { stood := { row := addrParseDigitsUptoRow, standIns := [], harness := (true, "156e2002369086da4c96053a8f0087741c822087e85144bd76203ae39517d533"), looks := false }, kinds := [], alts := [], laidByText := true, laidKinds := [.data, .data, .data, .data], laidTests := true, laidLooks := .later }
def AddrParseDigitsUptoCardSaid : Prop := Claim7.holds Tryd.pinned (.plain (OpenSpec.upto addrParseDigitsSpec)) addrParseDigitsUptoCard
end Rows
end Go.Proofs.YtfkjggghlkondaaDoor
