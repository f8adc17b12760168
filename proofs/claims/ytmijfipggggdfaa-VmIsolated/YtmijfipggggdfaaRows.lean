/-
  No cell of these rows narrows 'for every input' (looked for: loops, veiled, ifaces, maps, wideKeys, modest, calm, conditions, laid).
  DERIVED. THE GIVEN ROWS OF THIS SEAT. 8 by the template 'for every input the law returns true; each argument reads behind the call as it read before'; 0 by the template 'total and deterministic' (their statements: YtmijfipggggdfaaTotals.lean).
  GIVEN WITH THE SEED: the statements are not yours to turn. If you find one false, say at which input.
  Laid BY PROGRAM, IN A SANDBOX (cutbox-rows.mjs): the forced cells as the released guide's own fill.sh prints them over the translation 2bb106158d4e97b3… (all of the seat's roots in one cut). By AI agents, Wed Nov 11 2026. No macro, syntax, notation, axiom, sorry.
-/
import Derived.Test.YtmijfipggggdfaaChecked
import GoSem.Claim
import GoSem.ClaimJoined
import GoSem.ClaimMapViews
import Derived.JoinedTies
import Derived.KernelRfl
namespace Go.Proofs.Ytmijfipggggdfaa
/- THE CELL 'sum', in the pinned program and in every row, IS THE sha256 OF THE DUMP (.gsa) THAT YtmijfipggggdfaaProg.lean LOADS. Nothing in Lean hashes anything: it is a label: what it is worth is what the hold of that sum in a sandbox is worth. -/
noncomputable def Try.pinned : Pinned := { name := "ytmijfipggggdfaa", sum := "2bb106158d4e97b3879d1559789f2b1610eeb7af6c4faeb05dc768bb3f84e85f", checked := Try.checked }
namespace Rows
def none {H : Type} : Left H := { results := [], args := [] }

/-- 'busbarlaw06.VmRunMatchesReference': WHATEVER THE INPUT: true; the input reads as it did. -/
def vmRunMatchesReferenceSpec : ChangeSpec := { name := "vmRunMatchesReference", fn := fun _ => fun
  | [d1, d2, d3] => { results := [.lit (.bool true)], args := [d1, d2, d3] }
  | _ => none }
def vmRunMatchesReferenceRow : OpenClaim := { program := "ytmijfipggggdfaa", sum := "2bb106158d4e97b3879d1559789f2b1610eeb7af6c4faeb05dc768bb3f84e85f", func := "busbar/busbarlaw06.VmRunMatchesReference", spec := "vmRunMatchesReference", inPlace := ["internal/abi.NoEscape", "internal/bytealg.MakeNoZero"], unfollowed := true, recurses := true, plainKeys := false, apart := false }
def VmRunMatchesReferenceSaid : Prop := vmRunMatchesReferenceRow.holds Try.pinned (OpenSpec.ofChange vmRunMatchesReferenceSpec)

/-- ITS FALSE NEIGHBOUR: 'it returns false'. Refute it at one input. -/
def vmRunMatchesReferenceWrong : ChangeSpec := { name := "vmRunMatchesReference", fn := fun _ => fun
  | [d1, d2, d3] => { results := [.lit (.bool false)], args := [d1, d2, d3] }
  | _ => none }
def VmRunMatchesReferenceWrongFalsely : Prop := vmRunMatchesReferenceRow.holds Try.pinned (OpenSpec.ofChange vmRunMatchesReferenceWrong)

/-- 'busbarlaw06.VmStepMatchesReference': WHATEVER THE INPUT: true; the input reads as it did. -/
def vmStepMatchesReferenceSpec : ChangeSpec := { name := "vmStepMatchesReference", fn := fun _ => fun
  | [d1, d2, d3] => { results := [.lit (.bool true)], args := [d1, d2, d3] }
  | _ => none }
def vmStepMatchesReferenceRow : OpenClaim := { program := "ytmijfipggggdfaa", sum := "2bb106158d4e97b3879d1559789f2b1610eeb7af6c4faeb05dc768bb3f84e85f", func := "busbar/busbarlaw06.VmStepMatchesReference", spec := "vmStepMatchesReference", inPlace := ["internal/abi.NoEscape", "internal/bytealg.MakeNoZero"], unfollowed := true, recurses := true, plainKeys := false, apart := false }
def VmStepMatchesReferenceSaid : Prop := vmStepMatchesReferenceRow.holds Try.pinned (OpenSpec.ofChange vmStepMatchesReferenceSpec)

/-- ITS FALSE NEIGHBOUR: 'it returns false'. Refute it at one input. -/
def vmStepMatchesReferenceWrong : ChangeSpec := { name := "vmStepMatchesReference", fn := fun _ => fun
  | [d1, d2, d3] => { results := [.lit (.bool false)], args := [d1, d2, d3] }
  | _ => none }
def VmStepMatchesReferenceWrongFalsely : Prop := vmStepMatchesReferenceRow.holds Try.pinned (OpenSpec.ofChange vmStepMatchesReferenceWrong)

/-- 'busbarlaw06.VmTerminates': WHATEVER THE INPUT: true; the input reads as it did. -/
def vmTerminatesSpec : ChangeSpec := { name := "vmTerminates", fn := fun _ => fun
  | [d1, d2, d3] => { results := [.lit (.bool true)], args := [d1, d2, d3] }
  | _ => none }
def vmTerminatesRow : OpenClaim := { program := "ytmijfipggggdfaa", sum := "2bb106158d4e97b3879d1559789f2b1610eeb7af6c4faeb05dc768bb3f84e85f", func := "busbar/busbarlaw06.VmTerminates", spec := "vmTerminates", inPlace := ["internal/abi.NoEscape", "internal/bytealg.MakeNoZero"], unfollowed := true, recurses := true, plainKeys := false, apart := false }
def VmTerminatesSaid : Prop := vmTerminatesRow.holds Try.pinned (OpenSpec.ofChange vmTerminatesSpec)

/-- ITS FALSE NEIGHBOUR: 'it returns false'. Refute it at one input. -/
def vmTerminatesWrong : ChangeSpec := { name := "vmTerminates", fn := fun _ => fun
  | [d1, d2, d3] => { results := [.lit (.bool false)], args := [d1, d2, d3] }
  | _ => none }
def VmTerminatesWrongFalsely : Prop := vmTerminatesRow.holds Try.pinned (OpenSpec.ofChange vmTerminatesWrong)

/-- 'busbarlaw06.VmIsolated': WHATEVER THE INPUT: true; the input reads as it did. -/
def vmIsolatedSpec : ChangeSpec := { name := "vmIsolated", fn := fun _ => fun
  | [d1, d2, d3] => { results := [.lit (.bool true)], args := [d1, d2, d3] }
  | _ => none }
def vmIsolatedRow : OpenClaim := { program := "ytmijfipggggdfaa", sum := "2bb106158d4e97b3879d1559789f2b1610eeb7af6c4faeb05dc768bb3f84e85f", func := "busbar/busbarlaw06.VmIsolated", spec := "vmIsolated", inPlace := ["internal/abi.NoEscape", "internal/bytealg.MakeNoZero"], unfollowed := true, recurses := true, plainKeys := false, apart := false }
def VmIsolatedSaid : Prop := vmIsolatedRow.holds Try.pinned (OpenSpec.ofChange vmIsolatedSpec)

/-- ITS FALSE NEIGHBOUR: 'it returns false'. Refute it at one input. -/
def vmIsolatedWrong : ChangeSpec := { name := "vmIsolated", fn := fun _ => fun
  | [d1, d2, d3] => { results := [.lit (.bool false)], args := [d1, d2, d3] }
  | _ => none }
def VmIsolatedWrongFalsely : Prop := vmIsolatedRow.holds Try.pinned (OpenSpec.ofChange vmIsolatedWrong)

/-- 'busbarlaw06.VmBooleanOperations': WHATEVER THE INPUT: true; the input reads as it did. -/
def vmBooleanOperationsSpec : ChangeSpec := { name := "vmBooleanOperations", fn := fun _ => fun
  | [d1, d2, d3] => { results := [.lit (.bool true)], args := [d1, d2, d3] }
  | _ => none }
def vmBooleanOperationsRow : OpenClaim := { program := "ytmijfipggggdfaa", sum := "2bb106158d4e97b3879d1559789f2b1610eeb7af6c4faeb05dc768bb3f84e85f", func := "busbar/busbarlaw06.VmBooleanOperations", spec := "vmBooleanOperations", inPlace := ["internal/abi.NoEscape", "internal/bytealg.MakeNoZero"], unfollowed := true, recurses := true, plainKeys := false, apart := false }
def VmBooleanOperationsSaid : Prop := vmBooleanOperationsRow.holds Try.pinned (OpenSpec.ofChange vmBooleanOperationsSpec)

/-- ITS FALSE NEIGHBOUR: 'it returns false'. Refute it at one input. -/
def vmBooleanOperationsWrong : ChangeSpec := { name := "vmBooleanOperations", fn := fun _ => fun
  | [d1, d2, d3] => { results := [.lit (.bool false)], args := [d1, d2, d3] }
  | _ => none }
def VmBooleanOperationsWrongFalsely : Prop := vmBooleanOperationsRow.holds Try.pinned (OpenSpec.ofChange vmBooleanOperationsWrong)

/-- 'busbarlaw06.VmBranchStack': WHATEVER THE INPUT: true; the input reads as it did. -/
def vmBranchStackSpec : ChangeSpec := { name := "vmBranchStack", fn := fun _ => fun
  | [d1, d2] => { results := [.lit (.bool true)], args := [d1, d2] }
  | _ => none }
def vmBranchStackRow : OpenClaim := { program := "ytmijfipggggdfaa", sum := "2bb106158d4e97b3879d1559789f2b1610eeb7af6c4faeb05dc768bb3f84e85f", func := "busbar/busbarlaw06.VmBranchStack", spec := "vmBranchStack", inPlace := ["internal/abi.NoEscape", "internal/bytealg.MakeNoZero"], unfollowed := true, recurses := true, plainKeys := false, apart := false }
def VmBranchStackSaid : Prop := vmBranchStackRow.holds Try.pinned (OpenSpec.ofChange vmBranchStackSpec)

/-- ITS FALSE NEIGHBOUR: 'it returns false'. Refute it at one input. -/
def vmBranchStackWrong : ChangeSpec := { name := "vmBranchStack", fn := fun _ => fun
  | [d1, d2] => { results := [.lit (.bool false)], args := [d1, d2] }
  | _ => none }
def VmBranchStackWrongFalsely : Prop := vmBranchStackRow.holds Try.pinned (OpenSpec.ofChange vmBranchStackWrong)

/-- 'busbarlaw06.VmConditionalJump': WHATEVER THE INPUT: true; the input reads as it did. -/
def vmConditionalJumpSpec : ChangeSpec := { name := "vmConditionalJump", fn := fun _ => fun
  | [d1, d2] => { results := [.lit (.bool true)], args := [d1, d2] }
  | _ => none }
def vmConditionalJumpRow : OpenClaim := { program := "ytmijfipggggdfaa", sum := "2bb106158d4e97b3879d1559789f2b1610eeb7af6c4faeb05dc768bb3f84e85f", func := "busbar/busbarlaw06.VmConditionalJump", spec := "vmConditionalJump", inPlace := ["internal/abi.NoEscape", "internal/bytealg.MakeNoZero"], unfollowed := true, recurses := true, plainKeys := false, apart := false }
def VmConditionalJumpSaid : Prop := vmConditionalJumpRow.holds Try.pinned (OpenSpec.ofChange vmConditionalJumpSpec)

/-- ITS FALSE NEIGHBOUR: 'it returns false'. Refute it at one input. -/
def vmConditionalJumpWrong : ChangeSpec := { name := "vmConditionalJump", fn := fun _ => fun
  | [d1, d2] => { results := [.lit (.bool false)], args := [d1, d2] }
  | _ => none }
def VmConditionalJumpWrongFalsely : Prop := vmConditionalJumpRow.holds Try.pinned (OpenSpec.ofChange vmConditionalJumpWrong)

/-- 'busbarlaw06.VmFrame': WHATEVER THE INPUT: true; the input reads as it did. -/
def vmFrameSpec : ChangeSpec := { name := "vmFrame", fn := fun _ => fun
  | [d1, d2, d3] => { results := [.lit (.bool true)], args := [d1, d2, d3] }
  | _ => none }
def vmFrameRow : OpenClaim := { program := "ytmijfipggggdfaa", sum := "2bb106158d4e97b3879d1559789f2b1610eeb7af6c4faeb05dc768bb3f84e85f", func := "busbar/busbarlaw06.VmFrame", spec := "vmFrame", inPlace := ["internal/abi.NoEscape", "internal/bytealg.MakeNoZero"], unfollowed := true, recurses := true, plainKeys := false, apart := false }
def VmFrameSaid : Prop := vmFrameRow.holds Try.pinned (OpenSpec.ofChange vmFrameSpec)

/-- ITS FALSE NEIGHBOUR: 'it returns false'. Refute it at one input. -/
def vmFrameWrong : ChangeSpec := { name := "vmFrame", fn := fun _ => fun
  | [d1, d2, d3] => { results := [.lit (.bool false)], args := [d1, d2, d3] }
  | _ => none }
def VmFrameWrongFalsely : Prop := vmFrameRow.holds Try.pinned (OpenSpec.ofChange vmFrameWrong)

/- THE SECOND FORM. 'bulk': how many values and letters a reading holds, each counted each time it is reached (what is shared counts as often as it is met; a slice's spare places count too). A statement '..UptoSaid' is the law's where the arguments, and the package variables that the reading takes, are together of bulk at most 1048576: NARROWER than '..Said'. Prove '..Said' where nothing that the law and all that it calls make is longer than what came in: it says more and counts as full. Else prove '..UptoSaid'. A law counts once. -/
mutual
def uptoBulk {H : Type} : DataW H → Nat
  | .lit (.string bytes) => bytes.length + 1
  | .lit _ => 1
  | .nil => 1
  | .ptr d => uptoBulk d + 1
  | .slice elems spare => uptoBulkAll elems + uptoBulkAll spare + 1
  | .agg parts => uptoBulkAll parts + 1
  | .iface _ d => uptoBulk d + 1
  | .map entries => uptoBulkEntries entries + 1
  | .held _ => 1
def uptoBulkAll {H : Type} : List (DataW H) → Nat
  | [] => 0
  | d :: r => uptoBulk d + uptoBulkAll r
def uptoBulkEntries {H : Type} : List (Lit × DataW H) → Nat
  | [] => 0
  | x :: r => uptoBulkEntry x + uptoBulkEntries r
def uptoBulkEntry {H : Type} : Lit × DataW H → Nat
  | (.string bytes, d) => bytes.length + uptoBulk d + 1
  | (_, d) => uptoBulk d + 1
 end
def uptoSmall : (H : Type) → List (DataW H) → Bool := fun _ ds => decide (uptoBulkAll ds ≤ 1048576)
def OpenSpec.upto (s : _root_.Go.ChangeSpec) : _root_.Go.OpenSpec := { _root_.Go.OpenSpec.ofChange s with cond := some uptoSmall }

/-- 'busbarlaw06.VmRunMatchesReference', WHERE WHAT IT READS IS OF BULK AT MOST 1048576: true; the input reads as it did. -/
def vmRunMatchesReferenceUptoRow : OpenClaim := { program := "ytmijfipggggdfaa", sum := "2bb106158d4e97b3879d1559789f2b1610eeb7af6c4faeb05dc768bb3f84e85f", func := "busbar/busbarlaw06.VmRunMatchesReference", spec := "vmRunMatchesReference", inPlace := ["internal/abi.NoEscape", "internal/bytealg.MakeNoZero"], unfollowed := true, recurses := true, plainKeys := false, apart := false, narrowed := true }
def VmRunMatchesReferenceUptoSaid : Prop := vmRunMatchesReferenceUptoRow.holds Try.pinned (OpenSpec.upto vmRunMatchesReferenceSpec)

/-- 'busbarlaw06.VmStepMatchesReference', WHERE WHAT IT READS IS OF BULK AT MOST 1048576: true; the input reads as it did. -/
def vmStepMatchesReferenceUptoRow : OpenClaim := { program := "ytmijfipggggdfaa", sum := "2bb106158d4e97b3879d1559789f2b1610eeb7af6c4faeb05dc768bb3f84e85f", func := "busbar/busbarlaw06.VmStepMatchesReference", spec := "vmStepMatchesReference", inPlace := ["internal/abi.NoEscape", "internal/bytealg.MakeNoZero"], unfollowed := true, recurses := true, plainKeys := false, apart := false, narrowed := true }
def VmStepMatchesReferenceUptoSaid : Prop := vmStepMatchesReferenceUptoRow.holds Try.pinned (OpenSpec.upto vmStepMatchesReferenceSpec)

/-- 'busbarlaw06.VmTerminates', WHERE WHAT IT READS IS OF BULK AT MOST 1048576: true; the input reads as it did. -/
def vmTerminatesUptoRow : OpenClaim := { program := "ytmijfipggggdfaa", sum := "2bb106158d4e97b3879d1559789f2b1610eeb7af6c4faeb05dc768bb3f84e85f", func := "busbar/busbarlaw06.VmTerminates", spec := "vmTerminates", inPlace := ["internal/abi.NoEscape", "internal/bytealg.MakeNoZero"], unfollowed := true, recurses := true, plainKeys := false, apart := false, narrowed := true }
def VmTerminatesUptoSaid : Prop := vmTerminatesUptoRow.holds Try.pinned (OpenSpec.upto vmTerminatesSpec)

/-- 'busbarlaw06.VmIsolated', WHERE WHAT IT READS IS OF BULK AT MOST 1048576: true; the input reads as it did. -/
def vmIsolatedUptoRow : OpenClaim := { program := "ytmijfipggggdfaa", sum := "2bb106158d4e97b3879d1559789f2b1610eeb7af6c4faeb05dc768bb3f84e85f", func := "busbar/busbarlaw06.VmIsolated", spec := "vmIsolated", inPlace := ["internal/abi.NoEscape", "internal/bytealg.MakeNoZero"], unfollowed := true, recurses := true, plainKeys := false, apart := false, narrowed := true }
def VmIsolatedUptoSaid : Prop := vmIsolatedUptoRow.holds Try.pinned (OpenSpec.upto vmIsolatedSpec)

/-- 'busbarlaw06.VmBooleanOperations', WHERE WHAT IT READS IS OF BULK AT MOST 1048576: true; the input reads as it did. -/
def vmBooleanOperationsUptoRow : OpenClaim := { program := "ytmijfipggggdfaa", sum := "2bb106158d4e97b3879d1559789f2b1610eeb7af6c4faeb05dc768bb3f84e85f", func := "busbar/busbarlaw06.VmBooleanOperations", spec := "vmBooleanOperations", inPlace := ["internal/abi.NoEscape", "internal/bytealg.MakeNoZero"], unfollowed := true, recurses := true, plainKeys := false, apart := false, narrowed := true }
def VmBooleanOperationsUptoSaid : Prop := vmBooleanOperationsUptoRow.holds Try.pinned (OpenSpec.upto vmBooleanOperationsSpec)

/-- 'busbarlaw06.VmBranchStack', WHERE WHAT IT READS IS OF BULK AT MOST 1048576: true; the input reads as it did. -/
def vmBranchStackUptoRow : OpenClaim := { program := "ytmijfipggggdfaa", sum := "2bb106158d4e97b3879d1559789f2b1610eeb7af6c4faeb05dc768bb3f84e85f", func := "busbar/busbarlaw06.VmBranchStack", spec := "vmBranchStack", inPlace := ["internal/abi.NoEscape", "internal/bytealg.MakeNoZero"], unfollowed := true, recurses := true, plainKeys := false, apart := false, narrowed := true }
def VmBranchStackUptoSaid : Prop := vmBranchStackUptoRow.holds Try.pinned (OpenSpec.upto vmBranchStackSpec)

/-- 'busbarlaw06.VmConditionalJump', WHERE WHAT IT READS IS OF BULK AT MOST 1048576: true; the input reads as it did. -/
def vmConditionalJumpUptoRow : OpenClaim := { program := "ytmijfipggggdfaa", sum := "2bb106158d4e97b3879d1559789f2b1610eeb7af6c4faeb05dc768bb3f84e85f", func := "busbar/busbarlaw06.VmConditionalJump", spec := "vmConditionalJump", inPlace := ["internal/abi.NoEscape", "internal/bytealg.MakeNoZero"], unfollowed := true, recurses := true, plainKeys := false, apart := false, narrowed := true }
def VmConditionalJumpUptoSaid : Prop := vmConditionalJumpUptoRow.holds Try.pinned (OpenSpec.upto vmConditionalJumpSpec)

/-- 'busbarlaw06.VmFrame', WHERE WHAT IT READS IS OF BULK AT MOST 1048576: true; the input reads as it did. -/
def vmFrameUptoRow : OpenClaim := { program := "ytmijfipggggdfaa", sum := "2bb106158d4e97b3879d1559789f2b1610eeb7af6c4faeb05dc768bb3f84e85f", func := "busbar/busbarlaw06.VmFrame", spec := "vmFrame", inPlace := ["internal/abi.NoEscape", "internal/bytealg.MakeNoZero"], unfollowed := true, recurses := true, plainKeys := false, apart := false, narrowed := true }
def VmFrameUptoSaid : Prop := vmFrameUptoRow.holds Try.pinned (OpenSpec.upto vmFrameSpec)

end Rows
end Go.Proofs.Ytmijfipggggdfaa
