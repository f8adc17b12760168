/-
  No cell of these rows narrows 'for every input' (looked for: loops, veiled, ifaces, maps, wideKeys, modest, calm, conditions, laid).
  DERIVED. THE GIVEN ROWS OF THIS SEAT. 2 by the template 'for every input the law returns true; each argument reads behind the call as it read before'; 0 by the template 'total and deterministic' (their statements: YtdpccnpaajhliaaTotals.lean).
  GIVEN WITH THE SEED: the statements are not yours to turn. If you find one false, say at which input.
  Laid BY PROGRAM, IN A SANDBOX (cutbox-rows.mjs): the forced cells as the released guide's own fill.sh prints them over the translation 7ea7ac7aff6bfab1… (all of the seat's roots in one cut). By AI agents, Wed Nov 11 2026. No macro, syntax, notation, axiom, sorry.
-/
import Derived.Test.YtdpccnpaajhliaaChecked
import GoSem.Claim
import GoSem.ClaimJoined
import GoSem.ClaimMapViews
import Derived.JoinedTies
import Derived.KernelRfl
namespace Go.Proofs.Ytdpccnpaajhliaa
/- THE CELL 'sum', in the pinned program and in every row, IS THE sha256 OF THE DUMP (.gsa) THAT YtdpccnpaajhliaaProg.lean LOADS. Nothing in Lean hashes anything: it is a label: what it is worth is what the hold of that sum in a sandbox is worth. -/
noncomputable def Try.pinned : Pinned := { name := "ytdpccnpaajhliaa", sum := "7ea7ac7aff6bfab13b771f9a030d0108bdeaae419863a3962bbe41b31b814ee3", checked := Try.checked }
namespace Rows
def none {H : Type} : Left H := { results := [], args := [] }

/-- 'busbarlaw06.VmBranchStack': WHATEVER THE INPUT: true; the input reads as it did. -/
def vmBranchStackSpec : ChangeSpec := { name := "vmBranchStack", fn := fun _ => fun
  | [d1, d2] => { results := [.lit (.bool true)], args := [d1, d2] }
  | _ => none }
def vmBranchStackRow : OpenClaim := { program := "ytdpccnpaajhliaa", sum := "7ea7ac7aff6bfab13b771f9a030d0108bdeaae419863a3962bbe41b31b814ee3", func := "busbar/busbarlaw06.VmBranchStack", spec := "vmBranchStack", inPlace := ["internal/abi.NoEscape", "internal/bytealg.MakeNoZero"], unfollowed := true, recurses := true, plainKeys := false, apart := false }
def VmBranchStackSaid : Prop := vmBranchStackRow.holds Try.pinned (OpenSpec.ofChange vmBranchStackSpec)

/-- ITS FALSE NEIGHBOUR: 'it returns false'. Refute it at one input. -/
def vmBranchStackWrong : ChangeSpec := { name := "vmBranchStack", fn := fun _ => fun
  | [d1, d2] => { results := [.lit (.bool false)], args := [d1, d2] }
  | _ => none }
def VmBranchStackWrongFalsely : Prop := vmBranchStackRow.holds Try.pinned (OpenSpec.ofChange vmBranchStackWrong)

/-- 'busbarlaw06.VmFrame': WHATEVER THE INPUT: true; the input reads as it did. -/
def vmFrameSpec : ChangeSpec := { name := "vmFrame", fn := fun _ => fun
  | [d1, d2, d3] => { results := [.lit (.bool true)], args := [d1, d2, d3] }
  | _ => none }
def vmFrameRow : OpenClaim := { program := "ytdpccnpaajhliaa", sum := "7ea7ac7aff6bfab13b771f9a030d0108bdeaae419863a3962bbe41b31b814ee3", func := "busbar/busbarlaw06.VmFrame", spec := "vmFrame", inPlace := ["internal/abi.NoEscape", "internal/bytealg.MakeNoZero"], unfollowed := true, recurses := true, plainKeys := false, apart := false }
def VmFrameSaid : Prop := vmFrameRow.holds Try.pinned (OpenSpec.ofChange vmFrameSpec)

/-- ITS FALSE NEIGHBOUR: 'it returns false'. Refute it at one input. -/
def vmFrameWrong : ChangeSpec := { name := "vmFrame", fn := fun _ => fun
  | [d1, d2, d3] => { results := [.lit (.bool false)], args := [d1, d2, d3] }
  | _ => none }
def VmFrameWrongFalsely : Prop := vmFrameRow.holds Try.pinned (OpenSpec.ofChange vmFrameWrong)

/- THE SECOND FORM. 'bulk': how many values and letters a reading holds, each counted each time it is reached (what is shared counts as often as it is met; a slice's spare places count too). A statement '..UptoSaid' is the law's where the arguments, and the package variables that the reading takes, are together of bulk at most 1048576: NARROWER than '..Said'. Prove '..Said' where nothing that the law and all that it calls make is longer than what came in: it says more and counts as full. Else prove '..UptoSaid'. A law counts once. -/
mutual
def uptoBulk {H : Type} : DataW H → Nat
  | .lit (.string bytes) => bytes.length + 1
  | .lit _ => 1
  | .nil => 1
  | .ptr d => uptoBulk d + 1
  | .slice elems spare => uptoBulkAll elems + uptoBulkAll spare + 1
  | .agg parts => uptoBulkAll parts + 1
  | .iface _ d => uptoBulk d + 1
  | .map entries => uptoBulkEntries entries + 1
  | .held _ => 1
def uptoBulkAll {H : Type} : List (DataW H) → Nat
  | [] => 0
  | d :: r => uptoBulk d + uptoBulkAll r
def uptoBulkEntries {H : Type} : List (Lit × DataW H) → Nat
  | [] => 0
  | x :: r => uptoBulkEntry x + uptoBulkEntries r
def uptoBulkEntry {H : Type} : Lit × DataW H → Nat
  | (.string bytes, d) => bytes.length + uptoBulk d + 1
  | (_, d) => uptoBulk d + 1
 end
def uptoSmall : (H : Type) → List (DataW H) → Bool := fun _ ds => decide (uptoBulkAll ds ≤ 1048576)
def OpenSpec.upto (s : _root_.Go.ChangeSpec) : _root_.Go.OpenSpec := { _root_.Go.OpenSpec.ofChange s with cond := some uptoSmall }

/-- 'busbarlaw06.VmBranchStack', WHERE WHAT IT READS IS OF BULK AT MOST 1048576: true; the input reads as it did. -/
def vmBranchStackUptoRow : OpenClaim := { program := "ytdpccnpaajhliaa", sum := "7ea7ac7aff6bfab13b771f9a030d0108bdeaae419863a3962bbe41b31b814ee3", func := "busbar/busbarlaw06.VmBranchStack", spec := "vmBranchStack", inPlace := ["internal/abi.NoEscape", "internal/bytealg.MakeNoZero"], unfollowed := true, recurses := true, plainKeys := false, apart := false, narrowed := true }
def VmBranchStackUptoSaid : Prop := vmBranchStackUptoRow.holds Try.pinned (OpenSpec.upto vmBranchStackSpec)

/-- 'busbarlaw06.VmFrame', WHERE WHAT IT READS IS OF BULK AT MOST 1048576: true; the input reads as it did. -/
def vmFrameUptoRow : OpenClaim := { program := "ytdpccnpaajhliaa", sum := "7ea7ac7aff6bfab13b771f9a030d0108bdeaae419863a3962bbe41b31b814ee3", func := "busbar/busbarlaw06.VmFrame", spec := "vmFrame", inPlace := ["internal/abi.NoEscape", "internal/bytealg.MakeNoZero"], unfollowed := true, recurses := true, plainKeys := false, apart := false, narrowed := true }
def VmFrameUptoSaid : Prop := vmFrameUptoRow.holds Try.pinned (OpenSpec.upto vmFrameSpec)

end Rows
end Go.Proofs.Ytdpccnpaajhliaa
