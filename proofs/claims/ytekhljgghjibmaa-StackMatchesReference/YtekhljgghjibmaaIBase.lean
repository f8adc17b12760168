/- How an argument of type image reads: what the rows' steps hand to the walks. No condition. -/
import Derived.Test.YtekhljgghjibmaaRows
import Derived.Test.YtekhljgghjibmaaIA
import Derived.ProofKit
import Derived.OpenShut
import Derived.Carry
import Derived.Deep.Grids
namespace Go.Proofs.Ytekhljgghjibmaa
open Go.ChangeShapes Go.WideShapes Go.ChangeAt Go.RowKit

theorem own : ownKnob Try.prog.godebug = none := by kernel_rfl
theorem laidOut : laidOutB Try.prog = true := by kernel_rfl
theorem cells4 : Try.prog.cellsOf 4 = 1 := by kernel_rfl

end Go.Proofs.Ytekhljgghjibmaa
