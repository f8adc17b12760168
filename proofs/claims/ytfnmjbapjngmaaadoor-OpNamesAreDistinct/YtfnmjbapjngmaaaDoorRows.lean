/-
  NARROWER THAN 'FOR EVERY INPUT', by the rows' own cells (each row's printed sentence says how): OpTableMatchesReference: laid · OpCheckMatchesReference: laid · OpFormatMatchesReference: laid · OpRoundTrip: laid · OpCheckIsMonotone: laid · OpNamesAreDistinct: laid · OpParseRejectsVariants: laid.
  DERIVED. THE GIVEN ROWS OF THIS SEAT. 7 by the template 'for every input the law returns true; each argument reads behind the call as it read before'; 0 by the template 'total and deterministic' (their statements: YtfnmjbapjngmaaaDoorTotals.lean).
  GIVEN WITH THE SEED: the statements are not yours to turn. If you find one false, say at which input.
  Laid BY PROGRAM, IN A SANDBOX (cutbox-rows.mjs): the forced cells as the released guide's own fill.sh prints them over the translation 10a4d82611f8189e… (all of the seat's roots in one cut). By AI agents, Wed Nov 11 2026. No macro, syntax, notation, axiom, sorry.
-/
import Derived.Test.YtfnmjbapjngmaaaDoorChecked
import GoSem.PinnedTables
import GoSem.Claim
import GoSem.ClaimJoined
import GoSem.ClaimMapViews
import Derived.JoinedTies
import Derived.KernelRfl
namespace Go.Proofs.YtfnmjbapjngmaaaDoor
/- THE CELL 'sum', in the pinned program and in every row, IS THE sha256 OF THE DUMP (.gsa) THAT YtfnmjbapjngmaaaDoorProg.lean LOADS. Nothing in Lean hashes anything: it is a label: what it is worth is what the hold of that sum in a sandbox is worth. -/
noncomputable def Tryd.pinned : Pinned := { name := "ytfnmjbapjngmaaadoor", sum := "10a4d82611f8189e81d956b85c092fb4c92f22c4195b2b5726ee249752806d5c", checked := Tryd.checked }
namespace Rows
def none {H : Type} : Left H := { results := [], args := [] }

/- WHAT THE LISTED PACKAGE-LEVEL VARIABLES READ AS WHEN THE CALL BEGINS. Each datum BY PROGRAM (the guide's laid-datum.mjs) off the statement by which the dump's own 'gosem.cut.vars' lays the variable. In a bare row this is a premise. The card (YtfnmjbapjngmaaaDoorCards.lean) ties it to the program's text. -/
def laid_math_bits_deBruijn32tab {H : Type} : DataW H := .agg [.lit (.int .u8 0), .lit (.int .u8 1), .lit (.int .u8 28), .lit (.int .u8 2), .lit (.int .u8 29), .lit (.int .u8 14), .lit (.int .u8 24), .lit (.int .u8 3), .lit (.int .u8 30), .lit (.int .u8 22), .lit (.int .u8 20), .lit (.int .u8 15), .lit (.int .u8 25), .lit (.int .u8 17), .lit (.int .u8 4), .lit (.int .u8 8), .lit (.int .u8 31), .lit (.int .u8 27), .lit (.int .u8 13), .lit (.int .u8 23), .lit (.int .u8 21), .lit (.int .u8 19), .lit (.int .u8 16), .lit (.int .u8 7), .lit (.int .u8 26), .lit (.int .u8 12), .lit (.int .u8 18), .lit (.int .u8 6), .lit (.int .u8 11), .lit (.int .u8 5), .lit (.int .u8 10), .lit (.int .u8 9)]
def laid_math_bits_deBruijn64tab {H : Type} : DataW H := .agg [.lit (.int .u8 0), .lit (.int .u8 1), .lit (.int .u8 56), .lit (.int .u8 2), .lit (.int .u8 57), .lit (.int .u8 49), .lit (.int .u8 28), .lit (.int .u8 3), .lit (.int .u8 61), .lit (.int .u8 58), .lit (.int .u8 42), .lit (.int .u8 50), .lit (.int .u8 38), .lit (.int .u8 29), .lit (.int .u8 17), .lit (.int .u8 4), .lit (.int .u8 62), .lit (.int .u8 47), .lit (.int .u8 59), .lit (.int .u8 36), .lit (.int .u8 45), .lit (.int .u8 43), .lit (.int .u8 51), .lit (.int .u8 22), .lit (.int .u8 53), .lit (.int .u8 39), .lit (.int .u8 33), .lit (.int .u8 30), .lit (.int .u8 24), .lit (.int .u8 18), .lit (.int .u8 12), .lit (.int .u8 5), .lit (.int .u8 63), .lit (.int .u8 55), .lit (.int .u8 48), .lit (.int .u8 27), .lit (.int .u8 60), .lit (.int .u8 41), .lit (.int .u8 37), .lit (.int .u8 16), .lit (.int .u8 46), .lit (.int .u8 35), .lit (.int .u8 44), .lit (.int .u8 21), .lit (.int .u8 52), .lit (.int .u8 32), .lit (.int .u8 23), .lit (.int .u8 11), .lit (.int .u8 54), .lit (.int .u8 26), .lit (.int .u8 40), .lit (.int .u8 15), .lit (.int .u8 34), .lit (.int .u8 20), .lit (.int .u8 31), .lit (.int .u8 10), .lit (.int .u8 25), .lit (.int .u8 14), .lit (.int .u8 19), .lit (.int .u8 9), .lit (.int .u8 13), .lit (.int .u8 8), .lit (.int .u8 7), .lit (.int .u8 6)]
def laid_internal_strconv_uint64pow10 {H : Type} : DataW H := .agg [.lit (.int .u64 1), .lit (.int .u64 10), .lit (.int .u64 100), .lit (.int .u64 1000), .lit (.int .u64 10000), .lit (.int .u64 100000), .lit (.int .u64 1000000), .lit (.int .u64 10000000), .lit (.int .u64 100000000), .lit (.int .u64 1000000000), .lit (.int .u64 10000000000), .lit (.int .u64 100000000000), .lit (.int .u64 1000000000000), .lit (.int .u64 10000000000000), .lit (.int .u64 100000000000000), .lit (.int .u64 1000000000000000), .lit (.int .u64 10000000000000000), .lit (.int .u64 100000000000000000), .lit (.int .u64 1000000000000000000), .lit (.int .u64 10000000000000000000)]
def laid_unicode_utf8_acceptRanges {H : Type} : DataW H := .agg [.agg [.lit (.int .u8 128), .lit (.int .u8 191)], .agg [.lit (.int .u8 160), .lit (.int .u8 191)], .agg [.lit (.int .u8 128), .lit (.int .u8 159)], .agg [.lit (.int .u8 144), .lit (.int .u8 191)], .agg [.lit (.int .u8 128), .lit (.int .u8 143)], .agg [.lit (.int .u8 0), .lit (.int .u8 0)], .agg [.lit (.int .u8 0), .lit (.int .u8 0)], .agg [.lit (.int .u8 0), .lit (.int .u8 0)], .agg [.lit (.int .u8 0), .lit (.int .u8 0)], .agg [.lit (.int .u8 0), .lit (.int .u8 0)], .agg [.lit (.int .u8 0), .lit (.int .u8 0)], .agg [.lit (.int .u8 0), .lit (.int .u8 0)], .agg [.lit (.int .u8 0), .lit (.int .u8 0)], .agg [.lit (.int .u8 0), .lit (.int .u8 0)], .agg [.lit (.int .u8 0), .lit (.int .u8 0)], .agg [.lit (.int .u8 0), .lit (.int .u8 0)]]
def laid_strconv_ErrRange {H : Type} : DataW H := .iface "*errors.errorString" (.ptr (.agg [.lit (.string [118, 97, 108, 117, 101, 32, 111, 117, 116, 32, 111, 102, 32, 114, 97, 110, 103, 101])]))
def laid_strconv_ErrSyntax {H : Type} : DataW H := .iface "*errors.errorString" (.ptr (.agg [.lit (.string [105, 110, 118, 97, 108, 105, 100, 32, 115, 121, 110, 116, 97, 120])]))
def laid_busbar_addr_letters {H : Type} : DataW H := .agg [.lit (.string [73]), .lit (.string [81]), .lit (.string [77])]
def laid_busbar_op_opcodes {H : Type} : DataW H := .agg [.agg [.lit (.string [108, 100]), .lit (.int .i64 1)], .agg [.lit (.string [108, 100, 110]), .lit (.int .i64 1)], .agg [.lit (.string [97, 110, 100]), .lit (.int .i64 1)], .agg [.lit (.string [97, 110, 100, 110]), .lit (.int .i64 1)], .agg [.lit (.string [111, 114]), .lit (.int .i64 1)], .agg [.lit (.string [111, 114, 110]), .lit (.int .i64 1)], .agg [.lit (.string [114, 105, 115, 101]), .lit (.int .i64 2)], .agg [.lit (.string [102, 97, 108, 108]), .lit (.int .i64 2)], .agg [.lit (.string [112, 117, 115, 104]), .lit (.int .i64 0)], .agg [.lit (.string [97, 110, 100, 112]), .lit (.int .i64 0)], .agg [.lit (.string [111, 114, 112]), .lit (.int .i64 0)], .agg [.lit (.string [115, 116]), .lit (.int .i64 3)], .agg [.lit (.string [115, 116, 110]), .lit (.int .i64 3)], .agg [.lit (.string [115, 101, 116]), .lit (.int .i64 3)], .agg [.lit (.string [114, 115, 116]), .lit (.int .i64 3)], .agg [.lit (.string [106, 109, 112, 99]), .lit (.int .i64 4)], .agg [.lit (.string [101, 110, 100]), .lit (.int .i64 0)]]
/-- One of Go's own tables, pinned by name: the form's constant. -/
def laid_unicode_utf8_first : DataW Unit := Go.Pinned.utf8First

/-- 'busbarlaw04.OpTableMatchesReference': WHATEVER THE INPUT: true; the input reads as it did. -/
def opTableMatchesReferenceSpec : ChangeSpec := { name := "opTableMatchesReference", fn := fun _ => fun
  | [d] => { results := [.lit (.bool true)], args := [d] }
  | _ => none }
def opTableMatchesReferenceRow : OpenClaim := { program := "ytfnmjbapjngmaaadoor", sum := "10a4d82611f8189e81d956b85c092fb4c92f22c4195b2b5726ee249752806d5c", func := "busbar/busbarlaw04.OpTableMatchesReference", spec := "opTableMatchesReference", inPlace := ["internal/bytealg.CountString", "internal/bytealg.IndexByteString", "internal/bytealg.IndexString"], unfollowed := true, recurses := true, named := ["busbar/op.opcodes", "unicode/utf8.first", "unicode/utf8.acceptRanges", "internal/bytealg.MaxLen", "busbar/addr.letters", "internal/strconv.uint64pow10", "math/bits.deBruijn32tab", "math/bits.deBruijn64tab", "strconv.ErrSyntax", "strconv.ErrRange"], apart := false, laid := [("math/bits.deBruijn32tab", laid_math_bits_deBruijn32tab), ("math/bits.deBruijn64tab", laid_math_bits_deBruijn64tab), ("internal/strconv.uint64pow10", laid_internal_strconv_uint64pow10), ("unicode/utf8.acceptRanges", laid_unicode_utf8_acceptRanges), ("strconv.ErrRange", laid_strconv_ErrRange), ("strconv.ErrSyntax", laid_strconv_ErrSyntax), ("busbar/addr.letters", laid_busbar_addr_letters), ("busbar/op.opcodes", laid_busbar_op_opcodes), ("unicode/utf8.first", laid_unicode_utf8_first)] }
def OpTableMatchesReferenceSaid : Prop := opTableMatchesReferenceRow.holds Tryd.pinned (OpenSpec.ofChange opTableMatchesReferenceSpec)

/-- ITS FALSE NEIGHBOUR: 'it returns false'. Refute it at one input. -/
def opTableMatchesReferenceWrong : ChangeSpec := { name := "opTableMatchesReference", fn := fun _ => fun
  | [d] => { results := [.lit (.bool false)], args := [d] }
  | _ => none }
def OpTableMatchesReferenceWrongFalsely : Prop := opTableMatchesReferenceRow.holds Tryd.pinned (OpenSpec.ofChange opTableMatchesReferenceWrong)

/-- 'busbarlaw04.OpCheckMatchesReference': WHATEVER THE INPUT: true; the input reads as it did. -/
def opCheckMatchesReferenceSpec : ChangeSpec := { name := "opCheckMatchesReference", fn := fun _ => fun
  | [d1, d2, d3] => { results := [.lit (.bool true)], args := [d1, d2, d3] }
  | _ => none }
def opCheckMatchesReferenceRow : OpenClaim := { program := "ytfnmjbapjngmaaadoor", sum := "10a4d82611f8189e81d956b85c092fb4c92f22c4195b2b5726ee249752806d5c", func := "busbar/busbarlaw04.OpCheckMatchesReference", spec := "opCheckMatchesReference", inPlace := ["internal/bytealg.CountString", "internal/bytealg.IndexByteString", "internal/bytealg.IndexString"], unfollowed := true, recurses := true, named := ["busbar/op.opcodes", "unicode/utf8.first", "unicode/utf8.acceptRanges", "internal/bytealg.MaxLen", "busbar/addr.letters", "internal/strconv.uint64pow10", "math/bits.deBruijn32tab", "math/bits.deBruijn64tab", "strconv.ErrSyntax", "strconv.ErrRange"], apart := false, laid := [("math/bits.deBruijn32tab", laid_math_bits_deBruijn32tab), ("math/bits.deBruijn64tab", laid_math_bits_deBruijn64tab), ("internal/strconv.uint64pow10", laid_internal_strconv_uint64pow10), ("unicode/utf8.acceptRanges", laid_unicode_utf8_acceptRanges), ("strconv.ErrRange", laid_strconv_ErrRange), ("strconv.ErrSyntax", laid_strconv_ErrSyntax), ("busbar/addr.letters", laid_busbar_addr_letters), ("busbar/op.opcodes", laid_busbar_op_opcodes), ("unicode/utf8.first", laid_unicode_utf8_first)] }
def OpCheckMatchesReferenceSaid : Prop := opCheckMatchesReferenceRow.holds Tryd.pinned (OpenSpec.ofChange opCheckMatchesReferenceSpec)

/-- ITS FALSE NEIGHBOUR: 'it returns false'. Refute it at one input. -/
def opCheckMatchesReferenceWrong : ChangeSpec := { name := "opCheckMatchesReference", fn := fun _ => fun
  | [d1, d2, d3] => { results := [.lit (.bool false)], args := [d1, d2, d3] }
  | _ => none }
def OpCheckMatchesReferenceWrongFalsely : Prop := opCheckMatchesReferenceRow.holds Tryd.pinned (OpenSpec.ofChange opCheckMatchesReferenceWrong)

/-- 'busbarlaw04.OpFormatMatchesReference': WHATEVER THE INPUT: true; the input reads as it did. -/
def opFormatMatchesReferenceSpec : ChangeSpec := { name := "opFormatMatchesReference", fn := fun _ => fun
  | [d1, d2] => { results := [.lit (.bool true)], args := [d1, d2] }
  | _ => none }
def opFormatMatchesReferenceRow : OpenClaim := { program := "ytfnmjbapjngmaaadoor", sum := "10a4d82611f8189e81d956b85c092fb4c92f22c4195b2b5726ee249752806d5c", func := "busbar/busbarlaw04.OpFormatMatchesReference", spec := "opFormatMatchesReference", inPlace := ["internal/bytealg.CountString", "internal/bytealg.IndexByteString", "internal/bytealg.IndexString"], unfollowed := true, recurses := true, named := ["busbar/op.opcodes", "unicode/utf8.first", "unicode/utf8.acceptRanges", "internal/bytealg.MaxLen", "busbar/addr.letters", "internal/strconv.uint64pow10", "math/bits.deBruijn32tab", "math/bits.deBruijn64tab", "strconv.ErrSyntax", "strconv.ErrRange"], apart := false, laid := [("math/bits.deBruijn32tab", laid_math_bits_deBruijn32tab), ("math/bits.deBruijn64tab", laid_math_bits_deBruijn64tab), ("internal/strconv.uint64pow10", laid_internal_strconv_uint64pow10), ("unicode/utf8.acceptRanges", laid_unicode_utf8_acceptRanges), ("strconv.ErrRange", laid_strconv_ErrRange), ("strconv.ErrSyntax", laid_strconv_ErrSyntax), ("busbar/addr.letters", laid_busbar_addr_letters), ("busbar/op.opcodes", laid_busbar_op_opcodes), ("unicode/utf8.first", laid_unicode_utf8_first)] }
def OpFormatMatchesReferenceSaid : Prop := opFormatMatchesReferenceRow.holds Tryd.pinned (OpenSpec.ofChange opFormatMatchesReferenceSpec)

/-- ITS FALSE NEIGHBOUR: 'it returns false'. Refute it at one input. -/
def opFormatMatchesReferenceWrong : ChangeSpec := { name := "opFormatMatchesReference", fn := fun _ => fun
  | [d1, d2] => { results := [.lit (.bool false)], args := [d1, d2] }
  | _ => none }
def OpFormatMatchesReferenceWrongFalsely : Prop := opFormatMatchesReferenceRow.holds Tryd.pinned (OpenSpec.ofChange opFormatMatchesReferenceWrong)

/-- 'busbarlaw04.OpRoundTrip': WHATEVER THE INPUT: true; the input reads as it did. -/
def opRoundTripSpec : ChangeSpec := { name := "opRoundTrip", fn := fun _ => fun
  | [d1, d2, d3] => { results := [.lit (.bool true)], args := [d1, d2, d3] }
  | _ => none }
def opRoundTripRow : OpenClaim := { program := "ytfnmjbapjngmaaadoor", sum := "10a4d82611f8189e81d956b85c092fb4c92f22c4195b2b5726ee249752806d5c", func := "busbar/busbarlaw04.OpRoundTrip", spec := "opRoundTrip", inPlace := ["internal/bytealg.CountString", "internal/bytealg.IndexByteString", "internal/bytealg.IndexString"], unfollowed := true, recurses := true, named := ["busbar/op.opcodes", "unicode/utf8.first", "unicode/utf8.acceptRanges", "internal/bytealg.MaxLen", "busbar/addr.letters", "internal/strconv.uint64pow10", "math/bits.deBruijn32tab", "math/bits.deBruijn64tab", "strconv.ErrSyntax", "strconv.ErrRange"], apart := false, laid := [("math/bits.deBruijn32tab", laid_math_bits_deBruijn32tab), ("math/bits.deBruijn64tab", laid_math_bits_deBruijn64tab), ("internal/strconv.uint64pow10", laid_internal_strconv_uint64pow10), ("unicode/utf8.acceptRanges", laid_unicode_utf8_acceptRanges), ("strconv.ErrRange", laid_strconv_ErrRange), ("strconv.ErrSyntax", laid_strconv_ErrSyntax), ("busbar/addr.letters", laid_busbar_addr_letters), ("busbar/op.opcodes", laid_busbar_op_opcodes), ("unicode/utf8.first", laid_unicode_utf8_first)] }
def OpRoundTripSaid : Prop := opRoundTripRow.holds Tryd.pinned (OpenSpec.ofChange opRoundTripSpec)

/-- ITS FALSE NEIGHBOUR: 'it returns false'. Refute it at one input. -/
def opRoundTripWrong : ChangeSpec := { name := "opRoundTrip", fn := fun _ => fun
  | [d1, d2, d3] => { results := [.lit (.bool false)], args := [d1, d2, d3] }
  | _ => none }
def OpRoundTripWrongFalsely : Prop := opRoundTripRow.holds Tryd.pinned (OpenSpec.ofChange opRoundTripWrong)

/-- 'busbarlaw04.OpCheckIsMonotone': WHATEVER THE INPUT: true; the input reads as it did. -/
def opCheckIsMonotoneSpec : ChangeSpec := { name := "opCheckIsMonotone", fn := fun _ => fun
  | [d1, d2, d3] => { results := [.lit (.bool true)], args := [d1, d2, d3] }
  | _ => none }
def opCheckIsMonotoneRow : OpenClaim := { program := "ytfnmjbapjngmaaadoor", sum := "10a4d82611f8189e81d956b85c092fb4c92f22c4195b2b5726ee249752806d5c", func := "busbar/busbarlaw04.OpCheckIsMonotone", spec := "opCheckIsMonotone", inPlace := ["internal/bytealg.CountString", "internal/bytealg.IndexByteString", "internal/bytealg.IndexString"], unfollowed := true, recurses := true, named := ["busbar/op.opcodes", "busbar/addr.letters", "internal/strconv.uint64pow10", "math/bits.deBruijn32tab", "math/bits.deBruijn64tab", "strconv.ErrSyntax", "strconv.ErrRange", "unicode/utf8.first", "unicode/utf8.acceptRanges", "internal/bytealg.MaxLen"], apart := false, laid := [("math/bits.deBruijn32tab", laid_math_bits_deBruijn32tab), ("math/bits.deBruijn64tab", laid_math_bits_deBruijn64tab), ("internal/strconv.uint64pow10", laid_internal_strconv_uint64pow10), ("unicode/utf8.acceptRanges", laid_unicode_utf8_acceptRanges), ("strconv.ErrRange", laid_strconv_ErrRange), ("strconv.ErrSyntax", laid_strconv_ErrSyntax), ("busbar/addr.letters", laid_busbar_addr_letters), ("busbar/op.opcodes", laid_busbar_op_opcodes), ("unicode/utf8.first", laid_unicode_utf8_first)] }
def OpCheckIsMonotoneSaid : Prop := opCheckIsMonotoneRow.holds Tryd.pinned (OpenSpec.ofChange opCheckIsMonotoneSpec)

/-- ITS FALSE NEIGHBOUR: 'it returns false'. Refute it at one input. -/
def opCheckIsMonotoneWrong : ChangeSpec := { name := "opCheckIsMonotone", fn := fun _ => fun
  | [d1, d2, d3] => { results := [.lit (.bool false)], args := [d1, d2, d3] }
  | _ => none }
def OpCheckIsMonotoneWrongFalsely : Prop := opCheckIsMonotoneRow.holds Tryd.pinned (OpenSpec.ofChange opCheckIsMonotoneWrong)

/-- 'busbarlaw04.OpNamesAreDistinct': WHATEVER THE INPUT: true; the input reads as it did. -/
def opNamesAreDistinctSpec : ChangeSpec := { name := "opNamesAreDistinct", fn := fun _ => fun
  | [d1, d2] => { results := [.lit (.bool true)], args := [d1, d2] }
  | _ => none }
def opNamesAreDistinctRow : OpenClaim := { program := "ytfnmjbapjngmaaadoor", sum := "10a4d82611f8189e81d956b85c092fb4c92f22c4195b2b5726ee249752806d5c", func := "busbar/busbarlaw04.OpNamesAreDistinct", spec := "opNamesAreDistinct", inPlace := ["internal/bytealg.CountString", "internal/bytealg.IndexByteString", "internal/bytealg.IndexString"], unfollowed := true, recurses := true, named := ["busbar/op.opcodes", "busbar/addr.letters", "internal/strconv.uint64pow10", "math/bits.deBruijn32tab", "math/bits.deBruijn64tab", "strconv.ErrSyntax", "strconv.ErrRange", "unicode/utf8.first", "unicode/utf8.acceptRanges", "internal/bytealg.MaxLen"], apart := false, laid := [("math/bits.deBruijn32tab", laid_math_bits_deBruijn32tab), ("math/bits.deBruijn64tab", laid_math_bits_deBruijn64tab), ("internal/strconv.uint64pow10", laid_internal_strconv_uint64pow10), ("unicode/utf8.acceptRanges", laid_unicode_utf8_acceptRanges), ("strconv.ErrRange", laid_strconv_ErrRange), ("strconv.ErrSyntax", laid_strconv_ErrSyntax), ("busbar/addr.letters", laid_busbar_addr_letters), ("busbar/op.opcodes", laid_busbar_op_opcodes), ("unicode/utf8.first", laid_unicode_utf8_first)] }
def OpNamesAreDistinctSaid : Prop := opNamesAreDistinctRow.holds Tryd.pinned (OpenSpec.ofChange opNamesAreDistinctSpec)

/-- ITS FALSE NEIGHBOUR: 'it returns false'. Refute it at one input. -/
def opNamesAreDistinctWrong : ChangeSpec := { name := "opNamesAreDistinct", fn := fun _ => fun
  | [d1, d2] => { results := [.lit (.bool false)], args := [d1, d2] }
  | _ => none }
def OpNamesAreDistinctWrongFalsely : Prop := opNamesAreDistinctRow.holds Tryd.pinned (OpenSpec.ofChange opNamesAreDistinctWrong)

/-- 'busbarlaw04.OpParseRejectsVariants': WHATEVER THE INPUT: true; the input reads as it did. -/
def opParseRejectsVariantsSpec : ChangeSpec := { name := "opParseRejectsVariants", fn := fun _ => fun
  | [d1, d2] => { results := [.lit (.bool true)], args := [d1, d2] }
  | _ => none }
def opParseRejectsVariantsRow : OpenClaim := { program := "ytfnmjbapjngmaaadoor", sum := "10a4d82611f8189e81d956b85c092fb4c92f22c4195b2b5726ee249752806d5c", func := "busbar/busbarlaw04.OpParseRejectsVariants", spec := "opParseRejectsVariants", inPlace := ["internal/bytealg.CountString", "internal/bytealg.IndexByteString", "internal/bytealg.IndexString"], unfollowed := true, recurses := true, named := ["busbar/op.opcodes", "busbar/addr.letters", "internal/strconv.uint64pow10", "math/bits.deBruijn32tab", "math/bits.deBruijn64tab", "strconv.ErrSyntax", "strconv.ErrRange", "unicode/utf8.first", "unicode/utf8.acceptRanges", "internal/bytealg.MaxLen"], apart := false, laid := [("math/bits.deBruijn32tab", laid_math_bits_deBruijn32tab), ("math/bits.deBruijn64tab", laid_math_bits_deBruijn64tab), ("internal/strconv.uint64pow10", laid_internal_strconv_uint64pow10), ("unicode/utf8.acceptRanges", laid_unicode_utf8_acceptRanges), ("strconv.ErrRange", laid_strconv_ErrRange), ("strconv.ErrSyntax", laid_strconv_ErrSyntax), ("busbar/addr.letters", laid_busbar_addr_letters), ("busbar/op.opcodes", laid_busbar_op_opcodes), ("unicode/utf8.first", laid_unicode_utf8_first)] }
def OpParseRejectsVariantsSaid : Prop := opParseRejectsVariantsRow.holds Tryd.pinned (OpenSpec.ofChange opParseRejectsVariantsSpec)

/-- ITS FALSE NEIGHBOUR: 'it returns false'. Refute it at one input. -/
def opParseRejectsVariantsWrong : ChangeSpec := { name := "opParseRejectsVariants", fn := fun _ => fun
  | [d1, d2] => { results := [.lit (.bool false)], args := [d1, d2] }
  | _ => none }
def OpParseRejectsVariantsWrongFalsely : Prop := opParseRejectsVariantsRow.holds Tryd.pinned (OpenSpec.ofChange opParseRejectsVariantsWrong)

/- THE SECOND FORM. 'bulk': how many values and letters a reading holds, each counted each time it is reached (what is shared counts as often as it is met; a slice's spare places count too). A statement '..UptoSaid' is the law's where the arguments, and the package variables that the reading takes, are together of bulk at most 1048576: NARROWER than '..Said'. Prove '..Said' where nothing that the law and all that it calls make is longer than what came in: it says more and counts as full. Else prove '..UptoSaid'. A law counts once. -/
mutual
def uptoBulk {H : Type} : DataW H → Nat
  | .lit (.string bytes) => bytes.length + 1
  | .lit _ => 1
  | .nil => 1
  | .ptr d => uptoBulk d + 1
  | .slice elems spare => uptoBulkAll elems + uptoBulkAll spare + 1
  | .agg parts => uptoBulkAll parts + 1
  | .iface _ d => uptoBulk d + 1
  | .map entries => uptoBulkEntries entries + 1
  | .held _ => 1
def uptoBulkAll {H : Type} : List (DataW H) → Nat
  | [] => 0
  | d :: r => uptoBulk d + uptoBulkAll r
def uptoBulkEntries {H : Type} : List (Lit × DataW H) → Nat
  | [] => 0
  | x :: r => uptoBulkEntry x + uptoBulkEntries r
def uptoBulkEntry {H : Type} : Lit × DataW H → Nat
  | (.string bytes, d) => bytes.length + uptoBulk d + 1
  | (_, d) => uptoBulk d + 1
 end
def uptoSmall : (H : Type) → List (DataW H) → Bool := fun _ ds => decide (uptoBulkAll ds ≤ 1048576)
def OpenSpec.upto (s : _root_.Go.ChangeSpec) : _root_.Go.OpenSpec := { _root_.Go.OpenSpec.ofChange s with cond := some uptoSmall }

/-- 'busbarlaw04.OpTableMatchesReference', WHERE WHAT IT READS IS OF BULK AT MOST 1048576: true; the input reads as it did. -/
def opTableMatchesReferenceUptoRow : OpenClaim := { program := "ytfnmjbapjngmaaadoor", sum := "10a4d82611f8189e81d956b85c092fb4c92f22c4195b2b5726ee249752806d5c", func := "busbar/busbarlaw04.OpTableMatchesReference", spec := "opTableMatchesReference", inPlace := ["internal/bytealg.CountString", "internal/bytealg.IndexByteString", "internal/bytealg.IndexString"], unfollowed := true, recurses := true, named := ["busbar/op.opcodes", "unicode/utf8.first", "unicode/utf8.acceptRanges", "internal/bytealg.MaxLen", "busbar/addr.letters", "internal/strconv.uint64pow10", "math/bits.deBruijn32tab", "math/bits.deBruijn64tab", "strconv.ErrSyntax", "strconv.ErrRange"], apart := false, laid := [("math/bits.deBruijn32tab", laid_math_bits_deBruijn32tab), ("math/bits.deBruijn64tab", laid_math_bits_deBruijn64tab), ("internal/strconv.uint64pow10", laid_internal_strconv_uint64pow10), ("unicode/utf8.acceptRanges", laid_unicode_utf8_acceptRanges), ("strconv.ErrRange", laid_strconv_ErrRange), ("strconv.ErrSyntax", laid_strconv_ErrSyntax), ("busbar/addr.letters", laid_busbar_addr_letters), ("busbar/op.opcodes", laid_busbar_op_opcodes), ("unicode/utf8.first", laid_unicode_utf8_first)], narrowed := true }
def OpTableMatchesReferenceUptoSaid : Prop := opTableMatchesReferenceUptoRow.holds Tryd.pinned (OpenSpec.upto opTableMatchesReferenceSpec)

/-- 'busbarlaw04.OpCheckMatchesReference', WHERE WHAT IT READS IS OF BULK AT MOST 1048576: true; the input reads as it did. -/
def opCheckMatchesReferenceUptoRow : OpenClaim := { program := "ytfnmjbapjngmaaadoor", sum := "10a4d82611f8189e81d956b85c092fb4c92f22c4195b2b5726ee249752806d5c", func := "busbar/busbarlaw04.OpCheckMatchesReference", spec := "opCheckMatchesReference", inPlace := ["internal/bytealg.CountString", "internal/bytealg.IndexByteString", "internal/bytealg.IndexString"], unfollowed := true, recurses := true, named := ["busbar/op.opcodes", "unicode/utf8.first", "unicode/utf8.acceptRanges", "internal/bytealg.MaxLen", "busbar/addr.letters", "internal/strconv.uint64pow10", "math/bits.deBruijn32tab", "math/bits.deBruijn64tab", "strconv.ErrSyntax", "strconv.ErrRange"], apart := false, laid := [("math/bits.deBruijn32tab", laid_math_bits_deBruijn32tab), ("math/bits.deBruijn64tab", laid_math_bits_deBruijn64tab), ("internal/strconv.uint64pow10", laid_internal_strconv_uint64pow10), ("unicode/utf8.acceptRanges", laid_unicode_utf8_acceptRanges), ("strconv.ErrRange", laid_strconv_ErrRange), ("strconv.ErrSyntax", laid_strconv_ErrSyntax), ("busbar/addr.letters", laid_busbar_addr_letters), ("busbar/op.opcodes", laid_busbar_op_opcodes), ("unicode/utf8.first", laid_unicode_utf8_first)], narrowed := true }
def OpCheckMatchesReferenceUptoSaid : Prop := opCheckMatchesReferenceUptoRow.holds Tryd.pinned (OpenSpec.upto opCheckMatchesReferenceSpec)

/-- 'busbarlaw04.OpFormatMatchesReference', WHERE WHAT IT READS IS OF BULK AT MOST 1048576: true; the input reads as it did. -/
def opFormatMatchesReferenceUptoRow : OpenClaim := { program := "ytfnmjbapjngmaaadoor", sum := "10a4d82611f8189e81d956b85c092fb4c92f22c4195b2b5726ee249752806d5c", func := "busbar/busbarlaw04.OpFormatMatchesReference", spec := "opFormatMatchesReference", inPlace := ["internal/bytealg.CountString", "internal/bytealg.IndexByteString", "internal/bytealg.IndexString"], unfollowed := true, recurses := true, named := ["busbar/op.opcodes", "unicode/utf8.first", "unicode/utf8.acceptRanges", "internal/bytealg.MaxLen", "busbar/addr.letters", "internal/strconv.uint64pow10", "math/bits.deBruijn32tab", "math/bits.deBruijn64tab", "strconv.ErrSyntax", "strconv.ErrRange"], apart := false, laid := [("math/bits.deBruijn32tab", laid_math_bits_deBruijn32tab), ("math/bits.deBruijn64tab", laid_math_bits_deBruijn64tab), ("internal/strconv.uint64pow10", laid_internal_strconv_uint64pow10), ("unicode/utf8.acceptRanges", laid_unicode_utf8_acceptRanges), ("strconv.ErrRange", laid_strconv_ErrRange), ("strconv.ErrSyntax", laid_strconv_ErrSyntax), ("busbar/addr.letters", laid_busbar_addr_letters), ("busbar/op.opcodes", laid_busbar_op_opcodes), ("unicode/utf8.first", laid_unicode_utf8_first)], narrowed := true }
def OpFormatMatchesReferenceUptoSaid : Prop := opFormatMatchesReferenceUptoRow.holds Tryd.pinned (OpenSpec.upto opFormatMatchesReferenceSpec)

/-- 'busbarlaw04.OpRoundTrip', WHERE WHAT IT READS IS OF BULK AT MOST 1048576: true; the input reads as it did. -/
def opRoundTripUptoRow : OpenClaim := { program := "ytfnmjbapjngmaaadoor", sum := "10a4d82611f8189e81d956b85c092fb4c92f22c4195b2b5726ee249752806d5c", func := "busbar/busbarlaw04.OpRoundTrip", spec := "opRoundTrip", inPlace := ["internal/bytealg.CountString", "internal/bytealg.IndexByteString", "internal/bytealg.IndexString"], unfollowed := true, recurses := true, named := ["busbar/op.opcodes", "unicode/utf8.first", "unicode/utf8.acceptRanges", "internal/bytealg.MaxLen", "busbar/addr.letters", "internal/strconv.uint64pow10", "math/bits.deBruijn32tab", "math/bits.deBruijn64tab", "strconv.ErrSyntax", "strconv.ErrRange"], apart := false, laid := [("math/bits.deBruijn32tab", laid_math_bits_deBruijn32tab), ("math/bits.deBruijn64tab", laid_math_bits_deBruijn64tab), ("internal/strconv.uint64pow10", laid_internal_strconv_uint64pow10), ("unicode/utf8.acceptRanges", laid_unicode_utf8_acceptRanges), ("strconv.ErrRange", laid_strconv_ErrRange), ("strconv.ErrSyntax", laid_strconv_ErrSyntax), ("busbar/addr.letters", laid_busbar_addr_letters), ("busbar/op.opcodes", laid_busbar_op_opcodes), ("unicode/utf8.first", laid_unicode_utf8_first)], narrowed := true }
def OpRoundTripUptoSaid : Prop := opRoundTripUptoRow.holds Tryd.pinned (OpenSpec.upto opRoundTripSpec)

/-- 'busbarlaw04.OpCheckIsMonotone', WHERE WHAT IT READS IS OF BULK AT MOST 1048576: true; the input reads as it did. -/
def opCheckIsMonotoneUptoRow : OpenClaim := { program := "ytfnmjbapjngmaaadoor", sum := "10a4d82611f8189e81d956b85c092fb4c92f22c4195b2b5726ee249752806d5c", func := "busbar/busbarlaw04.OpCheckIsMonotone", spec := "opCheckIsMonotone", inPlace := ["internal/bytealg.CountString", "internal/bytealg.IndexByteString", "internal/bytealg.IndexString"], unfollowed := true, recurses := true, named := ["busbar/op.opcodes", "busbar/addr.letters", "internal/strconv.uint64pow10", "math/bits.deBruijn32tab", "math/bits.deBruijn64tab", "strconv.ErrSyntax", "strconv.ErrRange", "unicode/utf8.first", "unicode/utf8.acceptRanges", "internal/bytealg.MaxLen"], apart := false, laid := [("math/bits.deBruijn32tab", laid_math_bits_deBruijn32tab), ("math/bits.deBruijn64tab", laid_math_bits_deBruijn64tab), ("internal/strconv.uint64pow10", laid_internal_strconv_uint64pow10), ("unicode/utf8.acceptRanges", laid_unicode_utf8_acceptRanges), ("strconv.ErrRange", laid_strconv_ErrRange), ("strconv.ErrSyntax", laid_strconv_ErrSyntax), ("busbar/addr.letters", laid_busbar_addr_letters), ("busbar/op.opcodes", laid_busbar_op_opcodes), ("unicode/utf8.first", laid_unicode_utf8_first)], narrowed := true }
def OpCheckIsMonotoneUptoSaid : Prop := opCheckIsMonotoneUptoRow.holds Tryd.pinned (OpenSpec.upto opCheckIsMonotoneSpec)

/-- 'busbarlaw04.OpNamesAreDistinct', WHERE WHAT IT READS IS OF BULK AT MOST 1048576: true; the input reads as it did. -/
def opNamesAreDistinctUptoRow : OpenClaim := { program := "ytfnmjbapjngmaaadoor", sum := "10a4d82611f8189e81d956b85c092fb4c92f22c4195b2b5726ee249752806d5c", func := "busbar/busbarlaw04.OpNamesAreDistinct", spec := "opNamesAreDistinct", inPlace := ["internal/bytealg.CountString", "internal/bytealg.IndexByteString", "internal/bytealg.IndexString"], unfollowed := true, recurses := true, named := ["busbar/op.opcodes", "busbar/addr.letters", "internal/strconv.uint64pow10", "math/bits.deBruijn32tab", "math/bits.deBruijn64tab", "strconv.ErrSyntax", "strconv.ErrRange", "unicode/utf8.first", "unicode/utf8.acceptRanges", "internal/bytealg.MaxLen"], apart := false, laid := [("math/bits.deBruijn32tab", laid_math_bits_deBruijn32tab), ("math/bits.deBruijn64tab", laid_math_bits_deBruijn64tab), ("internal/strconv.uint64pow10", laid_internal_strconv_uint64pow10), ("unicode/utf8.acceptRanges", laid_unicode_utf8_acceptRanges), ("strconv.ErrRange", laid_strconv_ErrRange), ("strconv.ErrSyntax", laid_strconv_ErrSyntax), ("busbar/addr.letters", laid_busbar_addr_letters), ("busbar/op.opcodes", laid_busbar_op_opcodes), ("unicode/utf8.first", laid_unicode_utf8_first)], narrowed := true }
def OpNamesAreDistinctUptoSaid : Prop := opNamesAreDistinctUptoRow.holds Tryd.pinned (OpenSpec.upto opNamesAreDistinctSpec)

/-- 'busbarlaw04.OpParseRejectsVariants', WHERE WHAT IT READS IS OF BULK AT MOST 1048576: true; the input reads as it did. -/
def opParseRejectsVariantsUptoRow : OpenClaim := { program := "ytfnmjbapjngmaaadoor", sum := "10a4d82611f8189e81d956b85c092fb4c92f22c4195b2b5726ee249752806d5c", func := "busbar/busbarlaw04.OpParseRejectsVariants", spec := "opParseRejectsVariants", inPlace := ["internal/bytealg.CountString", "internal/bytealg.IndexByteString", "internal/bytealg.IndexString"], unfollowed := true, recurses := true, named := ["busbar/op.opcodes", "busbar/addr.letters", "internal/strconv.uint64pow10", "math/bits.deBruijn32tab", "math/bits.deBruijn64tab", "strconv.ErrSyntax", "strconv.ErrRange", "unicode/utf8.first", "unicode/utf8.acceptRanges", "internal/bytealg.MaxLen"], apart := false, laid := [("math/bits.deBruijn32tab", laid_math_bits_deBruijn32tab), ("math/bits.deBruijn64tab", laid_math_bits_deBruijn64tab), ("internal/strconv.uint64pow10", laid_internal_strconv_uint64pow10), ("unicode/utf8.acceptRanges", laid_unicode_utf8_acceptRanges), ("strconv.ErrRange", laid_strconv_ErrRange), ("strconv.ErrSyntax", laid_strconv_ErrSyntax), ("busbar/addr.letters", laid_busbar_addr_letters), ("busbar/op.opcodes", laid_busbar_op_opcodes), ("unicode/utf8.first", laid_unicode_utf8_first)], narrowed := true }
def OpParseRejectsVariantsUptoSaid : Prop := opParseRejectsVariantsUptoRow.holds Tryd.pinned (OpenSpec.upto opParseRejectsVariantsSpec)

end Rows
end Go.Proofs.YtfnmjbapjngmaaaDoor
