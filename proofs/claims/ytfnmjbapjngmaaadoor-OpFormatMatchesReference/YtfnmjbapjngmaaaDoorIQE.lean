/- What the reference's Parse of layer 4 returns, whatever the form. Conditions: a text of at most 100000 bytes. -/
import Derived.Test.YtfnmjbapjngmaaaDoorIQEm
import Derived.Test.YtfnmjbapjngmaaaDoorIQEn
import Derived.Test.YtfnmjbapjngmaaaDoorIQEa
import Derived.Test.YtfnmjbapjngmaaaDoorIQEt
import Derived.Test.YtfnmjbapjngmaaaDoorIQEw
import Derived.Test.YtfnmjbapjngmaaaDoorIQEj
namespace Go.Proofs.YtfnmjbapjngmaaaDoor
open Go.RowKit

theorem refOpParse_any (t : ByteArray) (ht : t.size ≤ 100000) (w : World) :
    Calls Tryd.prog 18 #[.string t] w fun e w' => e = .returned (.tuple #[.agg #[.int .i64 (rs (opP (B t))).1, .int .i64 (rs (opP (B t))).2.1, .int .i64 (rs (opP (B t))).2.2.1, .int .i64 (rs (opP (B t))).2.2.2.1], .int .i64 (rs (opP (B t))).2.2.2.2]) ∧ Nx w w' := by
  cases h : wds (B t) with
  | nil => exact absurd h (wds_ne _)
  | cons a r =>
    have hh : ∀ F : Int, frm (ixm a) = F → ∀ a' r', wds (B t) = a' :: r' → frm (ixm a') = F := fun F hF a' r' h' => by
      rw [h] at h'
      injection h' with e1 e2
      rw [← e1]; exact hF
    rcases frm_in (ixm a) with e | e | e | e | e | e
    · exact refOpParse_m t ht (hh _ e) w
    · exact refOpParse_0 t ht (hh _ e) w
    · exact refOpParse_1 t ht (hh _ e) w
    · exact refOpParse_2 t ht (hh _ e) w
    · exact refOpParse_3 t ht (hh _ e) w
    · exact refOpParse_4 t ht (hh _ e) w
end Go.Proofs.YtfnmjbapjngmaaaDoor
