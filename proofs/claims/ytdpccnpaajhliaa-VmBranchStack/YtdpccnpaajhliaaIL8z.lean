/- The law on the branch stack, for every input. No condition. -/
import Derived.Test.YtdpccnpaajhliaaIL8u
import Derived.Test.YtdpccnpaajhliaaIL8v
namespace Go.Proofs.Ytdpccnpaajhliaa
open Go.RowKit

theorem law6_branch (Ai : Option Addr) (ni ci : Nat) (l : List Bool) (o : Bool) (w : World) (hi : Im w Ai ni ci l) :
    Calls Try.prog 3 #[.slice Ai ni ci, .bool o] w fun e w' => e = .returned (.bool true) ∧ Nx w w' := by
  by_cases h : ni = 0 ∨ 60 < ni
  · exact law6_branch_no Ai ni ci o h w
  · obtain ⟨m, rfl⟩ : ∃ m, ni = m + 1 := ⟨ni - 1, by omega⟩
    cases o
    · exact law6_branch_f Ai ci m (by omega) l w hi
    · exact law6_branch_t Ai ci m (by omega) l w hi
end Go.Proofs.Ytdpccnpaajhliaa
