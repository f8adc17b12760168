/- What Name returns, for the walk of OpNamesAreDistinct. Conditions: the listed package-level variables hold what the program's text lays. -/
import Derived.Test.YtfnmjbapjngmaaaDoorIQF
import Derived.Test.YtfnmjbapjngmaaaDoorILN
import Derived.BigQuiet
import Derived.Deep.RegionHeld3
namespace Go.Proofs.YtfnmjbapjngmaaaDoor
open Go.RowKit

theorem opNam (o : Int) (w : World) (he : Ev w) : Calls Tryd.prog 14 #[.int .i64 o] w fun e w' => e = .returned (.string (nam o)) ∧ w' = w := (opName_any o w he).mono fun _ _ ⟨h, hw⟩ => ⟨h, hw.symm⟩
theorem nam_pos {o : Int} (h : isOp o = true) : (nam o).size ≠ 0 := by
  rcases nam_size o with ⟨_, h2⟩ | ⟨h1, _⟩
  · exact h2
  · rw [h] at h1; cases h1
theorem nam_zero {o : Int} (h : isOp o = false) : (nam o).size = 0 := by
  rcases nam_size o with ⟨h1, _⟩ | ⟨_, h2⟩
  · rw [h] at h1; cases h1
  · exact h2
end Go.Proofs.YtfnmjbapjngmaaaDoor
