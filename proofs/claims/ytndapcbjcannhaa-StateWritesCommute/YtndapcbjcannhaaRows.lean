/-
  No cell of these rows narrows 'for every input' (looked for: loops, veiled, ifaces, maps, wideKeys, modest, calm, conditions, laid).
  DERIVED. THE GIVEN ROWS OF THIS SEAT. 5 by the template 'for every input the law returns true; each argument reads behind the call as it read before'; 0 by the template 'total and deterministic' (their statements: YtndapcbjcannhaaTotals.lean).
  GIVEN WITH THE SEED: the statements are not yours to turn. If you find one false, say at which input.
  Laid BY PROGRAM, IN A SANDBOX (cutbox-rows.mjs): the forced cells as the released guide's own fill.sh prints them over the translation f184442bb2635b46… (all of the seat's roots in one cut). By AI agents, Wed Nov 11 2026. No macro, syntax, notation, axiom, sorry.
-/
import Derived.Test.YtndapcbjcannhaaChecked
import GoSem.Claim
import GoSem.ClaimJoined
import GoSem.ClaimMapViews
import Derived.JoinedTies
import Derived.KernelRfl
namespace Go.Proofs.Ytndapcbjcannhaa
/- THE CELL 'sum', in the pinned program and in every row, IS THE sha256 OF THE DUMP (.gsa) THAT YtndapcbjcannhaaProg.lean LOADS. Nothing in Lean hashes anything: it is a label: what it is worth is what the hold of that sum in a sandbox is worth. -/
noncomputable def Try.pinned : Pinned := { name := "ytndapcbjcannhaa", sum := "f184442bb2635b46d1924e3d0d6553c816790ff71556913c0cd30e5634a6756f", checked := Try.checked }
namespace Rows
def none {H : Type} : Left H := { results := [], args := [] }

/-- 'busbarlaw03.StateMatchesReference': WHATEVER THE INPUT: true; the input reads as it did. -/
def stateMatchesReferenceSpec : ChangeSpec := { name := "stateMatchesReference", fn := fun _ => fun
  | [d1, d2, d3] => { results := [.lit (.bool true)], args := [d1, d2, d3] }
  | _ => none }
def stateMatchesReferenceRow : OpenClaim := { program := "ytndapcbjcannhaa", sum := "f184442bb2635b46d1924e3d0d6553c816790ff71556913c0cd30e5634a6756f", func := "busbar/busbarlaw03.StateMatchesReference", spec := "stateMatchesReference", inPlace := ["internal/abi.NoEscape", "internal/bytealg.MakeNoZero"], apart := false }
def StateMatchesReferenceSaid : Prop := stateMatchesReferenceRow.holds Try.pinned (OpenSpec.ofChange stateMatchesReferenceSpec)

/-- ITS FALSE NEIGHBOUR: 'it returns false'. Refute it at one input. -/
def stateMatchesReferenceWrong : ChangeSpec := { name := "stateMatchesReference", fn := fun _ => fun
  | [d1, d2, d3] => { results := [.lit (.bool false)], args := [d1, d2, d3] }
  | _ => none }
def StateMatchesReferenceWrongFalsely : Prop := stateMatchesReferenceRow.holds Try.pinned (OpenSpec.ofChange stateMatchesReferenceWrong)

/-- 'busbarlaw03.StateReadWriteMatchReference': WHATEVER THE INPUT: true; the input reads as it did. -/
def stateReadWriteMatchReferenceSpec : ChangeSpec := { name := "stateReadWriteMatchReference", fn := fun _ => fun
  | [d1, d2, d3] => { results := [.lit (.bool true)], args := [d1, d2, d3] }
  | _ => none }
def stateReadWriteMatchReferenceRow : OpenClaim := { program := "ytndapcbjcannhaa", sum := "f184442bb2635b46d1924e3d0d6553c816790ff71556913c0cd30e5634a6756f", func := "busbar/busbarlaw03.StateReadWriteMatchReference", spec := "stateReadWriteMatchReference", inPlace := ["internal/abi.NoEscape", "internal/bytealg.MakeNoZero"], apart := false }
def StateReadWriteMatchReferenceSaid : Prop := stateReadWriteMatchReferenceRow.holds Try.pinned (OpenSpec.ofChange stateReadWriteMatchReferenceSpec)

/-- ITS FALSE NEIGHBOUR: 'it returns false'. Refute it at one input. -/
def stateReadWriteMatchReferenceWrong : ChangeSpec := { name := "stateReadWriteMatchReference", fn := fun _ => fun
  | [d1, d2, d3] => { results := [.lit (.bool false)], args := [d1, d2, d3] }
  | _ => none }
def StateReadWriteMatchReferenceWrongFalsely : Prop := stateReadWriteMatchReferenceRow.holds Try.pinned (OpenSpec.ofChange stateReadWriteMatchReferenceWrong)

/-- 'busbarlaw03.StateWriteIsolated': WHATEVER THE INPUT: true; the input reads as it did. -/
def stateWriteIsolatedSpec : ChangeSpec := { name := "stateWriteIsolated", fn := fun _ => fun
  | [d1, d2, d3] => { results := [.lit (.bool true)], args := [d1, d2, d3] }
  | _ => none }
def stateWriteIsolatedRow : OpenClaim := { program := "ytndapcbjcannhaa", sum := "f184442bb2635b46d1924e3d0d6553c816790ff71556913c0cd30e5634a6756f", func := "busbar/busbarlaw03.StateWriteIsolated", spec := "stateWriteIsolated", inPlace := ["internal/abi.NoEscape", "internal/bytealg.MakeNoZero"], apart := false }
def StateWriteIsolatedSaid : Prop := stateWriteIsolatedRow.holds Try.pinned (OpenSpec.ofChange stateWriteIsolatedSpec)

/-- ITS FALSE NEIGHBOUR: 'it returns false'. Refute it at one input. -/
def stateWriteIsolatedWrong : ChangeSpec := { name := "stateWriteIsolated", fn := fun _ => fun
  | [d1, d2, d3] => { results := [.lit (.bool false)], args := [d1, d2, d3] }
  | _ => none }
def StateWriteIsolatedWrongFalsely : Prop := stateWriteIsolatedRow.holds Try.pinned (OpenSpec.ofChange stateWriteIsolatedWrong)

/-- 'busbarlaw03.StateNewFits': WHATEVER THE INPUT: true; the input reads as it did. -/
def stateNewFitsSpec : ChangeSpec := { name := "stateNewFits", fn := fun _ => fun
  | [d1, d2] => { results := [.lit (.bool true)], args := [d1, d2] }
  | _ => none }
def stateNewFitsRow : OpenClaim := { program := "ytndapcbjcannhaa", sum := "f184442bb2635b46d1924e3d0d6553c816790ff71556913c0cd30e5634a6756f", func := "busbar/busbarlaw03.StateNewFits", spec := "stateNewFits", inPlace := ["internal/abi.NoEscape", "internal/bytealg.MakeNoZero"], apart := false }
def StateNewFitsSaid : Prop := stateNewFitsRow.holds Try.pinned (OpenSpec.ofChange stateNewFitsSpec)

/-- ITS FALSE NEIGHBOUR: 'it returns false'. Refute it at one input. -/
def stateNewFitsWrong : ChangeSpec := { name := "stateNewFits", fn := fun _ => fun
  | [d1, d2] => { results := [.lit (.bool false)], args := [d1, d2] }
  | _ => none }
def StateNewFitsWrongFalsely : Prop := stateNewFitsRow.holds Try.pinned (OpenSpec.ofChange stateNewFitsWrong)

/-- 'busbarlaw03.StateWritesCommute': WHATEVER THE INPUT: true; the input reads as it did. -/
def stateWritesCommuteSpec : ChangeSpec := { name := "stateWritesCommute", fn := fun _ => fun
  | [d1, d2, d3] => { results := [.lit (.bool true)], args := [d1, d2, d3] }
  | _ => none }
def stateWritesCommuteRow : OpenClaim := { program := "ytndapcbjcannhaa", sum := "f184442bb2635b46d1924e3d0d6553c816790ff71556913c0cd30e5634a6756f", func := "busbar/busbarlaw03.StateWritesCommute", spec := "stateWritesCommute", inPlace := ["internal/abi.NoEscape", "internal/bytealg.MakeNoZero"], apart := false }
def StateWritesCommuteSaid : Prop := stateWritesCommuteRow.holds Try.pinned (OpenSpec.ofChange stateWritesCommuteSpec)

/-- ITS FALSE NEIGHBOUR: 'it returns false'. Refute it at one input. -/
def stateWritesCommuteWrong : ChangeSpec := { name := "stateWritesCommute", fn := fun _ => fun
  | [d1, d2, d3] => { results := [.lit (.bool false)], args := [d1, d2, d3] }
  | _ => none }
def StateWritesCommuteWrongFalsely : Prop := stateWritesCommuteRow.holds Try.pinned (OpenSpec.ofChange stateWritesCommuteWrong)

/- THE SECOND FORM. 'bulk': how many values and letters a reading holds, each counted each time it is reached (what is shared counts as often as it is met; a slice's spare places count too). A statement '..UptoSaid' is the law's where the arguments, and the package variables that the reading takes, are together of bulk at most 1048576: NARROWER than '..Said'. Prove '..Said' where nothing that the law and all that it calls make is longer than what came in: it says more and counts as full. Else prove '..UptoSaid'. A law counts once. -/
mutual
def uptoBulk {H : Type} : DataW H → Nat
  | .lit (.string bytes) => bytes.length + 1
  | .lit _ => 1
  | .nil => 1
  | .ptr d => uptoBulk d + 1
  | .slice elems spare => uptoBulkAll elems + uptoBulkAll spare + 1
  | .agg parts => uptoBulkAll parts + 1
  | .iface _ d => uptoBulk d + 1
  | .map entries => uptoBulkEntries entries + 1
  | .held _ => 1
def uptoBulkAll {H : Type} : List (DataW H) → Nat
  | [] => 0
  | d :: r => uptoBulk d + uptoBulkAll r
def uptoBulkEntries {H : Type} : List (Lit × DataW H) → Nat
  | [] => 0
  | x :: r => uptoBulkEntry x + uptoBulkEntries r
def uptoBulkEntry {H : Type} : Lit × DataW H → Nat
  | (.string bytes, d) => bytes.length + uptoBulk d + 1
  | (_, d) => uptoBulk d + 1
 end
def uptoSmall : (H : Type) → List (DataW H) → Bool := fun _ ds => decide (uptoBulkAll ds ≤ 1048576)
def OpenSpec.upto (s : _root_.Go.ChangeSpec) : _root_.Go.OpenSpec := { _root_.Go.OpenSpec.ofChange s with cond := some uptoSmall }

/-- 'busbarlaw03.StateMatchesReference', WHERE WHAT IT READS IS OF BULK AT MOST 1048576: true; the input reads as it did. -/
def stateMatchesReferenceUptoRow : OpenClaim := { program := "ytndapcbjcannhaa", sum := "f184442bb2635b46d1924e3d0d6553c816790ff71556913c0cd30e5634a6756f", func := "busbar/busbarlaw03.StateMatchesReference", spec := "stateMatchesReference", inPlace := ["internal/abi.NoEscape", "internal/bytealg.MakeNoZero"], apart := false, narrowed := true }
def StateMatchesReferenceUptoSaid : Prop := stateMatchesReferenceUptoRow.holds Try.pinned (OpenSpec.upto stateMatchesReferenceSpec)

/-- 'busbarlaw03.StateReadWriteMatchReference', WHERE WHAT IT READS IS OF BULK AT MOST 1048576: true; the input reads as it did. -/
def stateReadWriteMatchReferenceUptoRow : OpenClaim := { program := "ytndapcbjcannhaa", sum := "f184442bb2635b46d1924e3d0d6553c816790ff71556913c0cd30e5634a6756f", func := "busbar/busbarlaw03.StateReadWriteMatchReference", spec := "stateReadWriteMatchReference", inPlace := ["internal/abi.NoEscape", "internal/bytealg.MakeNoZero"], apart := false, narrowed := true }
def StateReadWriteMatchReferenceUptoSaid : Prop := stateReadWriteMatchReferenceUptoRow.holds Try.pinned (OpenSpec.upto stateReadWriteMatchReferenceSpec)

/-- 'busbarlaw03.StateWriteIsolated', WHERE WHAT IT READS IS OF BULK AT MOST 1048576: true; the input reads as it did. -/
def stateWriteIsolatedUptoRow : OpenClaim := { program := "ytndapcbjcannhaa", sum := "f184442bb2635b46d1924e3d0d6553c816790ff71556913c0cd30e5634a6756f", func := "busbar/busbarlaw03.StateWriteIsolated", spec := "stateWriteIsolated", inPlace := ["internal/abi.NoEscape", "internal/bytealg.MakeNoZero"], apart := false, narrowed := true }
def StateWriteIsolatedUptoSaid : Prop := stateWriteIsolatedUptoRow.holds Try.pinned (OpenSpec.upto stateWriteIsolatedSpec)

/-- 'busbarlaw03.StateNewFits', WHERE WHAT IT READS IS OF BULK AT MOST 1048576: true; the input reads as it did. -/
def stateNewFitsUptoRow : OpenClaim := { program := "ytndapcbjcannhaa", sum := "f184442bb2635b46d1924e3d0d6553c816790ff71556913c0cd30e5634a6756f", func := "busbar/busbarlaw03.StateNewFits", spec := "stateNewFits", inPlace := ["internal/abi.NoEscape", "internal/bytealg.MakeNoZero"], apart := false, narrowed := true }
def StateNewFitsUptoSaid : Prop := stateNewFitsUptoRow.holds Try.pinned (OpenSpec.upto stateNewFitsSpec)

/-- 'busbarlaw03.StateWritesCommute', WHERE WHAT IT READS IS OF BULK AT MOST 1048576: true; the input reads as it did. -/
def stateWritesCommuteUptoRow : OpenClaim := { program := "ytndapcbjcannhaa", sum := "f184442bb2635b46d1924e3d0d6553c816790ff71556913c0cd30e5634a6756f", func := "busbar/busbarlaw03.StateWritesCommute", spec := "stateWritesCommute", inPlace := ["internal/abi.NoEscape", "internal/bytealg.MakeNoZero"], apart := false, narrowed := true }
def StateWritesCommuteUptoSaid : Prop := stateWritesCommuteUptoRow.holds Try.pinned (OpenSpec.upto stateWritesCommuteSpec)

end Rows
end Go.Proofs.Ytndapcbjcannhaa
