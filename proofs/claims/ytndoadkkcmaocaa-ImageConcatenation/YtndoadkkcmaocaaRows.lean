/-
  No cell of these rows narrows 'for every input' (looked for: loops, veiled, ifaces, maps, wideKeys, modest, calm, conditions, laid).
  DERIVED. THE GIVEN ROWS OF THIS SEAT. 7 by the template 'for every input the law returns true; each argument reads behind the call as it read before'; 0 by the template 'total and deterministic' (their statements: YtndoadkkcmaocaaTotals.lean).
  GIVEN WITH THE SEED: the statements are not yours to turn. If you find one false, say at which input.
  Laid BY PROGRAM, IN A SANDBOX (cutbox-rows.mjs): the forced cells as the released guide's own fill.sh prints them over the translation dd688d1f987722ee… (all of the seat's roots in one cut). By AI agents, Wed Nov 11 2026. No macro, syntax, notation, axiom, sorry.
-/
import Derived.Test.YtndoadkkcmaocaaChecked
import GoSem.Claim
import GoSem.ClaimJoined
import GoSem.ClaimMapViews
import Derived.JoinedTies
import Derived.KernelRfl
namespace Go.Proofs.Ytndoadkkcmaocaa
/- THE CELL 'sum', in the pinned program and in every row, IS THE sha256 OF THE DUMP (.gsa) THAT YtndoadkkcmaocaaProg.lean LOADS. Nothing in Lean hashes anything: it is a label: what it is worth is what the hold of that sum in a sandbox is worth. -/
noncomputable def Try.pinned : Pinned := { name := "ytndoadkkcmaocaa", sum := "dd688d1f987722ee2c7b042865068290c880267b30146cd10a86e3e8bf300c5c", checked := Try.checked }
namespace Rows
def none {H : Type} : Left H := { results := [], args := [] }

/-- 'busbarlaw02.ImageFormatMatchesReference': WHATEVER THE INPUT: true; the input reads as it did. -/
def imageFormatMatchesReferenceSpec : ChangeSpec := { name := "imageFormatMatchesReference", fn := fun _ => fun
  | [d1, d2] => { results := [.lit (.bool true)], args := [d1, d2] }
  | _ => none }
def imageFormatMatchesReferenceRow : OpenClaim := { program := "ytndoadkkcmaocaa", sum := "dd688d1f987722ee2c7b042865068290c880267b30146cd10a86e3e8bf300c5c", func := "busbar/busbarlaw02.ImageFormatMatchesReference", spec := "imageFormatMatchesReference", apart := false }
def ImageFormatMatchesReferenceSaid : Prop := imageFormatMatchesReferenceRow.holds Try.pinned (OpenSpec.ofChange imageFormatMatchesReferenceSpec)

/-- ITS FALSE NEIGHBOUR: 'it returns false'. Refute it at one input. -/
def imageFormatMatchesReferenceWrong : ChangeSpec := { name := "imageFormatMatchesReference", fn := fun _ => fun
  | [d1, d2] => { results := [.lit (.bool false)], args := [d1, d2] }
  | _ => none }
def ImageFormatMatchesReferenceWrongFalsely : Prop := imageFormatMatchesReferenceRow.holds Try.pinned (OpenSpec.ofChange imageFormatMatchesReferenceWrong)

/-- 'busbarlaw02.ImageGetSet': WHATEVER THE INPUT: true; the input reads as it did. -/
def imageGetSetSpec : ChangeSpec := { name := "imageGetSet", fn := fun _ => fun
  | [d1, d2, d3] => { results := [.lit (.bool true)], args := [d1, d2, d3] }
  | _ => none }
def imageGetSetRow : OpenClaim := { program := "ytndoadkkcmaocaa", sum := "dd688d1f987722ee2c7b042865068290c880267b30146cd10a86e3e8bf300c5c", func := "busbar/busbarlaw02.ImageGetSet", spec := "imageGetSet", apart := false }
def ImageGetSetSaid : Prop := imageGetSetRow.holds Try.pinned (OpenSpec.ofChange imageGetSetSpec)

/-- ITS FALSE NEIGHBOUR: 'it returns false'. Refute it at one input. -/
def imageGetSetWrong : ChangeSpec := { name := "imageGetSet", fn := fun _ => fun
  | [d1, d2, d3] => { results := [.lit (.bool false)], args := [d1, d2, d3] }
  | _ => none }
def ImageGetSetWrongFalsely : Prop := imageGetSetRow.holds Try.pinned (OpenSpec.ofChange imageGetSetWrong)

/-- 'busbarlaw02.ImageDiffMatchesReference': WHATEVER THE INPUT: true; the input reads as it did. -/
def imageDiffMatchesReferenceSpec : ChangeSpec := { name := "imageDiffMatchesReference", fn := fun _ => fun
  | [d1, d2] => { results := [.lit (.bool true)], args := [d1, d2] }
  | _ => none }
def imageDiffMatchesReferenceRow : OpenClaim := { program := "ytndoadkkcmaocaa", sum := "dd688d1f987722ee2c7b042865068290c880267b30146cd10a86e3e8bf300c5c", func := "busbar/busbarlaw02.ImageDiffMatchesReference", spec := "imageDiffMatchesReference", apart := false }
def ImageDiffMatchesReferenceSaid : Prop := imageDiffMatchesReferenceRow.holds Try.pinned (OpenSpec.ofChange imageDiffMatchesReferenceSpec)

/-- ITS FALSE NEIGHBOUR: 'it returns false'. Refute it at one input. -/
def imageDiffMatchesReferenceWrong : ChangeSpec := { name := "imageDiffMatchesReference", fn := fun _ => fun
  | [d1, d2] => { results := [.lit (.bool false)], args := [d1, d2] }
  | _ => none }
def ImageDiffMatchesReferenceWrongFalsely : Prop := imageDiffMatchesReferenceRow.holds Try.pinned (OpenSpec.ofChange imageDiffMatchesReferenceWrong)

/-- 'busbarlaw02.ImageRoundTrip': WHATEVER THE INPUT: true; the input reads as it did. -/
def imageRoundTripSpec : ChangeSpec := { name := "imageRoundTrip", fn := fun _ => fun
  | [d1, d2, d3] => { results := [.lit (.bool true)], args := [d1, d2, d3] }
  | _ => none }
def imageRoundTripRow : OpenClaim := { program := "ytndoadkkcmaocaa", sum := "dd688d1f987722ee2c7b042865068290c880267b30146cd10a86e3e8bf300c5c", func := "busbar/busbarlaw02.ImageRoundTrip", spec := "imageRoundTrip", apart := false }
def ImageRoundTripSaid : Prop := imageRoundTripRow.holds Try.pinned (OpenSpec.ofChange imageRoundTripSpec)

/-- ITS FALSE NEIGHBOUR: 'it returns false'. Refute it at one input. -/
def imageRoundTripWrong : ChangeSpec := { name := "imageRoundTrip", fn := fun _ => fun
  | [d1, d2, d3] => { results := [.lit (.bool false)], args := [d1, d2, d3] }
  | _ => none }
def ImageRoundTripWrongFalsely : Prop := imageRoundTripRow.holds Try.pinned (OpenSpec.ofChange imageRoundTripWrong)

/-- 'busbarlaw02.ImageParseLimit': WHATEVER THE INPUT: true; the input reads as it did. -/
def imageParseLimitSpec : ChangeSpec := { name := "imageParseLimit", fn := fun _ => fun
  | [d] => { results := [.lit (.bool true)], args := [d] }
  | _ => none }
def imageParseLimitRow : OpenClaim := { program := "ytndoadkkcmaocaa", sum := "dd688d1f987722ee2c7b042865068290c880267b30146cd10a86e3e8bf300c5c", func := "busbar/busbarlaw02.ImageParseLimit", spec := "imageParseLimit", inPlace := ["internal/abi.NoEscape", "internal/bytealg.MakeNoZero"], apart := false }
def ImageParseLimitSaid : Prop := imageParseLimitRow.holds Try.pinned (OpenSpec.ofChange imageParseLimitSpec)

/-- ITS FALSE NEIGHBOUR: 'it returns false'. Refute it at one input. -/
def imageParseLimitWrong : ChangeSpec := { name := "imageParseLimit", fn := fun _ => fun
  | [d] => { results := [.lit (.bool false)], args := [d] }
  | _ => none }
def ImageParseLimitWrongFalsely : Prop := imageParseLimitRow.holds Try.pinned (OpenSpec.ofChange imageParseLimitWrong)

/-- 'busbarlaw02.ImageSetChangesOneBit': WHATEVER THE INPUT: true; the input reads as it did. -/
def imageSetChangesOneBitSpec : ChangeSpec := { name := "imageSetChangesOneBit", fn := fun _ => fun
  | [d1, d2, d3] => { results := [.lit (.bool true)], args := [d1, d2, d3] }
  | _ => none }
def imageSetChangesOneBitRow : OpenClaim := { program := "ytndoadkkcmaocaa", sum := "dd688d1f987722ee2c7b042865068290c880267b30146cd10a86e3e8bf300c5c", func := "busbar/busbarlaw02.ImageSetChangesOneBit", spec := "imageSetChangesOneBit", apart := false }
def ImageSetChangesOneBitSaid : Prop := imageSetChangesOneBitRow.holds Try.pinned (OpenSpec.ofChange imageSetChangesOneBitSpec)

/-- ITS FALSE NEIGHBOUR: 'it returns false'. Refute it at one input. -/
def imageSetChangesOneBitWrong : ChangeSpec := { name := "imageSetChangesOneBit", fn := fun _ => fun
  | [d1, d2, d3] => { results := [.lit (.bool false)], args := [d1, d2, d3] }
  | _ => none }
def ImageSetChangesOneBitWrongFalsely : Prop := imageSetChangesOneBitRow.holds Try.pinned (OpenSpec.ofChange imageSetChangesOneBitWrong)

/-- 'busbarlaw02.ImageConcatenation': WHATEVER THE INPUT: true; the input reads as it did. -/
def imageConcatenationSpec : ChangeSpec := { name := "imageConcatenation", fn := fun _ => fun
  | [d1, d2] => { results := [.lit (.bool true)], args := [d1, d2] }
  | _ => none }
def imageConcatenationRow : OpenClaim := { program := "ytndoadkkcmaocaa", sum := "dd688d1f987722ee2c7b042865068290c880267b30146cd10a86e3e8bf300c5c", func := "busbar/busbarlaw02.ImageConcatenation", spec := "imageConcatenation", apart := false }
def ImageConcatenationSaid : Prop := imageConcatenationRow.holds Try.pinned (OpenSpec.ofChange imageConcatenationSpec)

/-- ITS FALSE NEIGHBOUR: 'it returns false'. Refute it at one input. -/
def imageConcatenationWrong : ChangeSpec := { name := "imageConcatenation", fn := fun _ => fun
  | [d1, d2] => { results := [.lit (.bool false)], args := [d1, d2] }
  | _ => none }
def ImageConcatenationWrongFalsely : Prop := imageConcatenationRow.holds Try.pinned (OpenSpec.ofChange imageConcatenationWrong)

/- THE SECOND FORM. 'bulk': how many values and letters a reading holds, each counted each time it is reached (what is shared counts as often as it is met; a slice's spare places count too). A statement '..UptoSaid' is the law's where the arguments, and the package variables that the reading takes, are together of bulk at most 1048576: NARROWER than '..Said'. Prove '..Said' where nothing that the law and all that it calls make is longer than what came in: it says more and counts as full. Else prove '..UptoSaid'. A law counts once. -/
mutual
def uptoBulk {H : Type} : DataW H → Nat
  | .lit (.string bytes) => bytes.length + 1
  | .lit _ => 1
  | .nil => 1
  | .ptr d => uptoBulk d + 1
  | .slice elems spare => uptoBulkAll elems + uptoBulkAll spare + 1
  | .agg parts => uptoBulkAll parts + 1
  | .iface _ d => uptoBulk d + 1
  | .map entries => uptoBulkEntries entries + 1
  | .held _ => 1
def uptoBulkAll {H : Type} : List (DataW H) → Nat
  | [] => 0
  | d :: r => uptoBulk d + uptoBulkAll r
def uptoBulkEntries {H : Type} : List (Lit × DataW H) → Nat
  | [] => 0
  | x :: r => uptoBulkEntry x + uptoBulkEntries r
def uptoBulkEntry {H : Type} : Lit × DataW H → Nat
  | (.string bytes, d) => bytes.length + uptoBulk d + 1
  | (_, d) => uptoBulk d + 1
 end
def uptoSmall : (H : Type) → List (DataW H) → Bool := fun _ ds => decide (uptoBulkAll ds ≤ 1048576)
def OpenSpec.upto (s : _root_.Go.ChangeSpec) : _root_.Go.OpenSpec := { _root_.Go.OpenSpec.ofChange s with cond := some uptoSmall }

/-- 'busbarlaw02.ImageFormatMatchesReference', WHERE WHAT IT READS IS OF BULK AT MOST 1048576: true; the input reads as it did. -/
def imageFormatMatchesReferenceUptoRow : OpenClaim := { program := "ytndoadkkcmaocaa", sum := "dd688d1f987722ee2c7b042865068290c880267b30146cd10a86e3e8bf300c5c", func := "busbar/busbarlaw02.ImageFormatMatchesReference", spec := "imageFormatMatchesReference", apart := false, narrowed := true }
def ImageFormatMatchesReferenceUptoSaid : Prop := imageFormatMatchesReferenceUptoRow.holds Try.pinned (OpenSpec.upto imageFormatMatchesReferenceSpec)

/-- 'busbarlaw02.ImageGetSet', WHERE WHAT IT READS IS OF BULK AT MOST 1048576: true; the input reads as it did. -/
def imageGetSetUptoRow : OpenClaim := { program := "ytndoadkkcmaocaa", sum := "dd688d1f987722ee2c7b042865068290c880267b30146cd10a86e3e8bf300c5c", func := "busbar/busbarlaw02.ImageGetSet", spec := "imageGetSet", apart := false, narrowed := true }
def ImageGetSetUptoSaid : Prop := imageGetSetUptoRow.holds Try.pinned (OpenSpec.upto imageGetSetSpec)

/-- 'busbarlaw02.ImageDiffMatchesReference', WHERE WHAT IT READS IS OF BULK AT MOST 1048576: true; the input reads as it did. -/
def imageDiffMatchesReferenceUptoRow : OpenClaim := { program := "ytndoadkkcmaocaa", sum := "dd688d1f987722ee2c7b042865068290c880267b30146cd10a86e3e8bf300c5c", func := "busbar/busbarlaw02.ImageDiffMatchesReference", spec := "imageDiffMatchesReference", apart := false, narrowed := true }
def ImageDiffMatchesReferenceUptoSaid : Prop := imageDiffMatchesReferenceUptoRow.holds Try.pinned (OpenSpec.upto imageDiffMatchesReferenceSpec)

/-- 'busbarlaw02.ImageRoundTrip', WHERE WHAT IT READS IS OF BULK AT MOST 1048576: true; the input reads as it did. -/
def imageRoundTripUptoRow : OpenClaim := { program := "ytndoadkkcmaocaa", sum := "dd688d1f987722ee2c7b042865068290c880267b30146cd10a86e3e8bf300c5c", func := "busbar/busbarlaw02.ImageRoundTrip", spec := "imageRoundTrip", apart := false, narrowed := true }
def ImageRoundTripUptoSaid : Prop := imageRoundTripUptoRow.holds Try.pinned (OpenSpec.upto imageRoundTripSpec)

/-- 'busbarlaw02.ImageParseLimit', WHERE WHAT IT READS IS OF BULK AT MOST 1048576: true; the input reads as it did. -/
def imageParseLimitUptoRow : OpenClaim := { program := "ytndoadkkcmaocaa", sum := "dd688d1f987722ee2c7b042865068290c880267b30146cd10a86e3e8bf300c5c", func := "busbar/busbarlaw02.ImageParseLimit", spec := "imageParseLimit", inPlace := ["internal/abi.NoEscape", "internal/bytealg.MakeNoZero"], apart := false, narrowed := true }
def ImageParseLimitUptoSaid : Prop := imageParseLimitUptoRow.holds Try.pinned (OpenSpec.upto imageParseLimitSpec)

/-- 'busbarlaw02.ImageSetChangesOneBit', WHERE WHAT IT READS IS OF BULK AT MOST 1048576: true; the input reads as it did. -/
def imageSetChangesOneBitUptoRow : OpenClaim := { program := "ytndoadkkcmaocaa", sum := "dd688d1f987722ee2c7b042865068290c880267b30146cd10a86e3e8bf300c5c", func := "busbar/busbarlaw02.ImageSetChangesOneBit", spec := "imageSetChangesOneBit", apart := false, narrowed := true }
def ImageSetChangesOneBitUptoSaid : Prop := imageSetChangesOneBitUptoRow.holds Try.pinned (OpenSpec.upto imageSetChangesOneBitSpec)

/-- 'busbarlaw02.ImageConcatenation', WHERE WHAT IT READS IS OF BULK AT MOST 1048576: true; the input reads as it did. -/
def imageConcatenationUptoRow : OpenClaim := { program := "ytndoadkkcmaocaa", sum := "dd688d1f987722ee2c7b042865068290c880267b30146cd10a86e3e8bf300c5c", func := "busbar/busbarlaw02.ImageConcatenation", spec := "imageConcatenation", apart := false, narrowed := true }
def ImageConcatenationUptoSaid : Prop := imageConcatenationUptoRow.holds Try.pinned (OpenSpec.upto imageConcatenationSpec)

end Rows
end Go.Proofs.Ytndoadkkcmaocaa
