/-
  No cell of these rows narrows 'for every input' (looked for: loops, veiled, ifaces, maps, wideKeys, modest, calm, conditions, laid).
  DERIVED. THE GIVEN ROWS OF THIS SEAT. 5 by the template 'for every input the law returns true; each argument reads behind the call as it read before'; 0 by the template 'total and deterministic' (their statements: YtekhljgghjibmaaTotals.lean).
  GIVEN WITH THE SEED: the statements are not yours to turn. If you find one false, say at which input.
  Laid BY PROGRAM, IN A SANDBOX (cutbox-rows.mjs): the forced cells as the released guide's own fill.sh prints them over the translation 4e03180566251df0… (all of the seat's roots in one cut). By AI agents, Wed Nov 11 2026. No macro, syntax, notation, axiom, sorry.
-/
import Derived.Test.YtekhljgghjibmaaChecked
import GoSem.Claim
import GoSem.ClaimJoined
import GoSem.ClaimMapViews
import Derived.JoinedTies
import Derived.KernelRfl
namespace Go.Proofs.Ytekhljgghjibmaa
/- THE CELL 'sum', in the pinned program and in every row, IS THE sha256 OF THE DUMP (.gsa) THAT YtekhljgghjibmaaProg.lean LOADS. Nothing in Lean hashes anything: it is a label: what it is worth is what the hold of that sum in a sandbox is worth. -/
noncomputable def Try.pinned : Pinned := { name := "ytekhljgghjibmaa", sum := "4e03180566251df0fa1edfbca5e7b4d4502c972aa90b47ef645df117fec932db", checked := Try.checked }
namespace Rows
def none {H : Type} : Left H := { results := [], args := [] }

/-- 'busbarlaw05.StackMatchesReference': WHATEVER THE INPUT: true; the input reads as it did. -/
def stackMatchesReferenceSpec : ChangeSpec := { name := "stackMatchesReference", fn := fun _ => fun
  | [d1, d2] => { results := [.lit (.bool true)], args := [d1, d2] }
  | _ => none }
def stackMatchesReferenceRow : OpenClaim := { program := "ytekhljgghjibmaa", sum := "4e03180566251df0fa1edfbca5e7b4d4502c972aa90b47ef645df117fec932db", func := "busbar/busbarlaw05.StackMatchesReference", spec := "stackMatchesReference", apart := false }
def StackMatchesReferenceSaid : Prop := stackMatchesReferenceRow.holds Try.pinned (OpenSpec.ofChange stackMatchesReferenceSpec)

/-- ITS FALSE NEIGHBOUR: 'it returns false'. Refute it at one input. -/
def stackMatchesReferenceWrong : ChangeSpec := { name := "stackMatchesReference", fn := fun _ => fun
  | [d1, d2] => { results := [.lit (.bool false)], args := [d1, d2] }
  | _ => none }
def StackMatchesReferenceWrongFalsely : Prop := stackMatchesReferenceRow.holds Try.pinned (OpenSpec.ofChange stackMatchesReferenceWrong)

/-- 'busbarlaw05.StackNilAndCapacity': WHATEVER THE INPUT: true; the input reads as it did. -/
def stackNilAndCapacitySpec : ChangeSpec := { name := "stackNilAndCapacity", fn := fun _ => fun
  | [d1, d2] => { results := [.lit (.bool true)], args := [d1, d2] }
  | _ => none }
def stackNilAndCapacityRow : OpenClaim := { program := "ytekhljgghjibmaa", sum := "4e03180566251df0fa1edfbca5e7b4d4502c972aa90b47ef645df117fec932db", func := "busbar/busbarlaw05.StackNilAndCapacity", spec := "stackNilAndCapacity", apart := false }
def StackNilAndCapacitySaid : Prop := stackNilAndCapacityRow.holds Try.pinned (OpenSpec.ofChange stackNilAndCapacitySpec)

/-- ITS FALSE NEIGHBOUR: 'it returns false'. Refute it at one input. -/
def stackNilAndCapacityWrong : ChangeSpec := { name := "stackNilAndCapacity", fn := fun _ => fun
  | [d1, d2] => { results := [.lit (.bool false)], args := [d1, d2] }
  | _ => none }
def StackNilAndCapacityWrongFalsely : Prop := stackNilAndCapacityRow.holds Try.pinned (OpenSpec.ofChange stackNilAndCapacityWrong)

/-- 'busbarlaw05.StackIsLIFO': WHATEVER THE INPUT: true; the input reads as it did. -/
def stackIsLIFOSpec : ChangeSpec := { name := "stackIsLIFO", fn := fun _ => fun
  | [d] => { results := [.lit (.bool true)], args := [d] }
  | _ => none }
def stackIsLIFORow : OpenClaim := { program := "ytekhljgghjibmaa", sum := "4e03180566251df0fa1edfbca5e7b4d4502c972aa90b47ef645df117fec932db", func := "busbar/busbarlaw05.StackIsLIFO", spec := "stackIsLIFO", apart := false }
def StackIsLIFOSaid : Prop := stackIsLIFORow.holds Try.pinned (OpenSpec.ofChange stackIsLIFOSpec)

/-- ITS FALSE NEIGHBOUR: 'it returns false'. Refute it at one input. -/
def stackIsLIFOWrong : ChangeSpec := { name := "stackIsLIFO", fn := fun _ => fun
  | [d] => { results := [.lit (.bool false)], args := [d] }
  | _ => none }
def StackIsLIFOWrongFalsely : Prop := stackIsLIFORow.holds Try.pinned (OpenSpec.ofChange stackIsLIFOWrong)

/-- 'busbarlaw05.StackIndependent': WHATEVER THE INPUT: true; the input reads as it did. -/
def stackIndependentSpec : ChangeSpec := { name := "stackIndependent", fn := fun _ => fun
  | [d1, d2, d3] => { results := [.lit (.bool true)], args := [d1, d2, d3] }
  | _ => none }
def stackIndependentRow : OpenClaim := { program := "ytekhljgghjibmaa", sum := "4e03180566251df0fa1edfbca5e7b4d4502c972aa90b47ef645df117fec932db", func := "busbar/busbarlaw05.StackIndependent", spec := "stackIndependent", apart := false }
def StackIndependentSaid : Prop := stackIndependentRow.holds Try.pinned (OpenSpec.ofChange stackIndependentSpec)

/-- ITS FALSE NEIGHBOUR: 'it returns false'. Refute it at one input. -/
def stackIndependentWrong : ChangeSpec := { name := "stackIndependent", fn := fun _ => fun
  | [d1, d2, d3] => { results := [.lit (.bool false)], args := [d1, d2, d3] }
  | _ => none }
def StackIndependentWrongFalsely : Prop := stackIndependentRow.holds Try.pinned (OpenSpec.ofChange stackIndependentWrong)

/-- 'busbarlaw05.StackClear': WHATEVER THE INPUT: true; the input reads as it did. -/
def stackClearSpec : ChangeSpec := { name := "stackClear", fn := fun _ => fun
  | [d1, d2] => { results := [.lit (.bool true)], args := [d1, d2] }
  | _ => none }
def stackClearRow : OpenClaim := { program := "ytekhljgghjibmaa", sum := "4e03180566251df0fa1edfbca5e7b4d4502c972aa90b47ef645df117fec932db", func := "busbar/busbarlaw05.StackClear", spec := "stackClear", apart := false }
def StackClearSaid : Prop := stackClearRow.holds Try.pinned (OpenSpec.ofChange stackClearSpec)

/-- ITS FALSE NEIGHBOUR: 'it returns false'. Refute it at one input. -/
def stackClearWrong : ChangeSpec := { name := "stackClear", fn := fun _ => fun
  | [d1, d2] => { results := [.lit (.bool false)], args := [d1, d2] }
  | _ => none }
def StackClearWrongFalsely : Prop := stackClearRow.holds Try.pinned (OpenSpec.ofChange stackClearWrong)

/- THE SECOND FORM. 'bulk': how many values and letters a reading holds, each counted each time it is reached (what is shared counts as often as it is met; a slice's spare places count too). A statement '..UptoSaid' is the law's where the arguments, and the package variables that the reading takes, are together of bulk at most 1048576: NARROWER than '..Said'. Prove '..Said' where nothing that the law and all that it calls make is longer than what came in: it says more and counts as full. Else prove '..UptoSaid'. A law counts once. -/
mutual
def uptoBulk {H : Type} : DataW H → Nat
  | .lit (.string bytes) => bytes.length + 1
  | .lit _ => 1
  | .nil => 1
  | .ptr d => uptoBulk d + 1
  | .slice elems spare => uptoBulkAll elems + uptoBulkAll spare + 1
  | .agg parts => uptoBulkAll parts + 1
  | .iface _ d => uptoBulk d + 1
  | .map entries => uptoBulkEntries entries + 1
  | .held _ => 1
def uptoBulkAll {H : Type} : List (DataW H) → Nat
  | [] => 0
  | d :: r => uptoBulk d + uptoBulkAll r
def uptoBulkEntries {H : Type} : List (Lit × DataW H) → Nat
  | [] => 0
  | x :: r => uptoBulkEntry x + uptoBulkEntries r
def uptoBulkEntry {H : Type} : Lit × DataW H → Nat
  | (.string bytes, d) => bytes.length + uptoBulk d + 1
  | (_, d) => uptoBulk d + 1
 end
def uptoSmall : (H : Type) → List (DataW H) → Bool := fun _ ds => decide (uptoBulkAll ds ≤ 1048576)
def OpenSpec.upto (s : _root_.Go.ChangeSpec) : _root_.Go.OpenSpec := { _root_.Go.OpenSpec.ofChange s with cond := some uptoSmall }

/-- 'busbarlaw05.StackMatchesReference', WHERE WHAT IT READS IS OF BULK AT MOST 1048576: true; the input reads as it did. -/
def stackMatchesReferenceUptoRow : OpenClaim := { program := "ytekhljgghjibmaa", sum := "4e03180566251df0fa1edfbca5e7b4d4502c972aa90b47ef645df117fec932db", func := "busbar/busbarlaw05.StackMatchesReference", spec := "stackMatchesReference", apart := false, narrowed := true }
def StackMatchesReferenceUptoSaid : Prop := stackMatchesReferenceUptoRow.holds Try.pinned (OpenSpec.upto stackMatchesReferenceSpec)

/-- 'busbarlaw05.StackNilAndCapacity', WHERE WHAT IT READS IS OF BULK AT MOST 1048576: true; the input reads as it did. -/
def stackNilAndCapacityUptoRow : OpenClaim := { program := "ytekhljgghjibmaa", sum := "4e03180566251df0fa1edfbca5e7b4d4502c972aa90b47ef645df117fec932db", func := "busbar/busbarlaw05.StackNilAndCapacity", spec := "stackNilAndCapacity", apart := false, narrowed := true }
def StackNilAndCapacityUptoSaid : Prop := stackNilAndCapacityUptoRow.holds Try.pinned (OpenSpec.upto stackNilAndCapacitySpec)

/-- 'busbarlaw05.StackIsLIFO', WHERE WHAT IT READS IS OF BULK AT MOST 1048576: true; the input reads as it did. -/
def stackIsLIFOUptoRow : OpenClaim := { program := "ytekhljgghjibmaa", sum := "4e03180566251df0fa1edfbca5e7b4d4502c972aa90b47ef645df117fec932db", func := "busbar/busbarlaw05.StackIsLIFO", spec := "stackIsLIFO", apart := false, narrowed := true }
def StackIsLIFOUptoSaid : Prop := stackIsLIFOUptoRow.holds Try.pinned (OpenSpec.upto stackIsLIFOSpec)

/-- 'busbarlaw05.StackIndependent', WHERE WHAT IT READS IS OF BULK AT MOST 1048576: true; the input reads as it did. -/
def stackIndependentUptoRow : OpenClaim := { program := "ytekhljgghjibmaa", sum := "4e03180566251df0fa1edfbca5e7b4d4502c972aa90b47ef645df117fec932db", func := "busbar/busbarlaw05.StackIndependent", spec := "stackIndependent", apart := false, narrowed := true }
def StackIndependentUptoSaid : Prop := stackIndependentUptoRow.holds Try.pinned (OpenSpec.upto stackIndependentSpec)

/-- 'busbarlaw05.StackClear', WHERE WHAT IT READS IS OF BULK AT MOST 1048576: true; the input reads as it did. -/
def stackClearUptoRow : OpenClaim := { program := "ytekhljgghjibmaa", sum := "4e03180566251df0fa1edfbca5e7b4d4502c972aa90b47ef645df117fec932db", func := "busbar/busbarlaw05.StackClear", spec := "stackClear", apart := false, narrowed := true }
def StackClearUptoSaid : Prop := stackClearUptoRow.holds Try.pinned (OpenSpec.upto stackClearSpec)

end Rows
end Go.Proofs.Ytekhljgghjibmaa
