/- The walk of OpNamesAreDistinct. Conditions: the listed package-level variables hold what the program's text lays. -/
import Derived.Test.YtfnmjbapjngmaaaDoorIL8a
import Derived.Test.YtfnmjbapjngmaaaDoorIL8b
import Derived.Test.YtfnmjbapjngmaaaDoorIL8c
import Derived.Test.YtfnmjbapjngmaaaDoorIL8d
import Derived.Test.YtfnmjbapjngmaaaDoorIL8e
namespace Go.Proofs.YtfnmjbapjngmaaaDoor
open Go.RowKit

theorem law8 (o k n N o' k' n' N' : Int) (w : World) (he : Ev w) : Calls Tryd.prog 8 #[.agg #[.int .i64 o, .int .i64 k, .int .i64 n, .int .i64 N], .agg #[.int .i64 o', .int .i64 k', .int .i64 n', .int .i64 N']] w fun e w' => e = .returned (.bool true) ∧ Nx w w' := by
  cases hb : isOp o with
  | true =>
    cases hb' : isOp o' with
    | true =>
      by_cases hd : o = o'
      · exact law8a o k n N o' k' n' N' hb hb' hd w he
      · exact law8b o k n N o' k' n' N' hb hb' hd w he
    | false => exact law8c o k n N o' k' n' N' hb hb' w he
  | false =>
    cases hb' : isOp o' with
    | true => exact law8d o k n N o' k' n' N' hb hb' w he
    | false => exact law8e o k n N o' k' n' N' hb hb' w he
end Go.Proofs.YtfnmjbapjngmaaaDoor
