/- What the walk of StateNewFits reads. Conditions: four numbers of 16 bits. -/
import Derived.Test.YtndapcbjcannhaaW5a
import Derived.Test.YtndapcbjcannhaaS3
import Derived.Test.YtndapcbjcannhaaR3
namespace Go.Proofs.Ytndapcbjcannhaa
open Go.RowKit

theorem rdV_zero (p : Nat) (n : Int) : rdV (List.replicate p false) n = false := by
  unfold rdV
  split
  · simp only [List.getD, List.getElem?_replicate]
    split <;> rfl
  · rfl
theorem rdSV_zero (p q r : Nat) (k n : Int) : rdSV (List.replicate p false) (List.replicate q false) (List.replicate r false) k n = false := by
  unfold rdSV
  rw [rdV_zero, rdV_zero, rdV_zero]
  simp

theorem made_im (w : World) (n : Nat) (hn : n ≤ 256) : Im (w.alloc (.cells (madeCells #[.bool false] n) 4)) (some ⟨w.heap.size, 0, none⟩) n n (List.replicate n false) := (made_own w n (by omega)).im (by simp)

end Go.Proofs.Ytndapcbjcannhaa
