/- How an argument of type image reads: what the rows' steps hand to the walks. No condition. -/
import Derived.Test.YtdiamajkfbejhaaDoorRows
import Derived.Test.YtdiamajkfbejhaaDoorIA
import Derived.ProofKit
import Derived.OpenShut
import Derived.Carry
import Derived.Deep.Grids
namespace Go.Proofs.YtdiamajkfbejhaaDoor
open Go.ChangeShapes Go.WideShapes Go.ChangeAt Go.RowKit

theorem own : ownKnob Tryd.prog.godebug = none := by kernel_rfl
theorem laidOut : laidOutB Tryd.prog = true := by kernel_rfl
theorem cells4 : Tryd.prog.cellsOf 4 = 1 := by kernel_rfl

end Go.Proofs.YtdiamajkfbejhaaDoor
