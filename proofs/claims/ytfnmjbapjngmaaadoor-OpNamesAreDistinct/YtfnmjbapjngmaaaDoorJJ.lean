/- The walk of AddrFormatMatchesReference. Conditions: the tables are laid. -/
import Derived.Test.YtfnmjbapjngmaaaDoorJH
namespace Go.Proofs.YtfnmjbapjngmaaaDoor
open Go.RowKit

/-- The textual form of an address, or the empty text. -/
def fmtS (k n : Int) : ByteArray := if 0 ≤ k ∧ k < 3 ∧ 0 ≤ n ∧ n ≤ 255 then lt k.toNat ++ dec n.toNat else ⟨#[]⟩
theorem aFormat_any (k n : Int) (w : World) (he : Env w) :
    Calls Tryd.prog 46 #[.agg #[.int .i64 k, .int .i64 n]] w fun e w' => e = .returned (.string (fmtS k n)) ∧ Nx w w' := by
  unfold fmtS
  by_cases h : 0 ≤ k ∧ k < 3 ∧ 0 ≤ n ∧ n ≤ 255
  · rw [if_pos h]
    have := format_ok k.toNat n.toNat (by omega) (by omega) w he
    rwa [Int.toNat_of_nonneg h.1, Int.toNat_of_nonneg h.2.2.1] at this
  · rw [if_neg h]
    exact format_no k n h w
theorem aRefFormat_any (k n : Int) (w : World) :
    Calls Tryd.prog 33 #[.agg #[.int .i64 k, .int .i64 n]] w fun e w' => e = .returned (.string (fmtS k n)) ∧ Nx w w' := by
  unfold fmtS
  by_cases h : 0 ≤ k ∧ k < 3 ∧ 0 ≤ n ∧ n ≤ 255
  · rw [if_pos h]
    have := refFormat_ok k.toNat n.toNat (by omega) (by omega) w
    rwa [Int.toNat_of_nonneg h.1, Int.toNat_of_nonneg h.2.2.1] at this
  · rw [if_neg h]
    exact refFormat_no k n h w

end Go.Proofs.YtfnmjbapjngmaaaDoor
