/- Small facts for the reference's Parse of layer 4. Conditions: none. -/
import Derived.Test.YtfnmjbapjngmaaaDoorIQB
import Derived.Test.YtfnmjbapjngmaaaDoorIQD
namespace Go.Proofs.YtfnmjbapjngmaaaDoor
open Go.RowKit

theorem nmv_k {k : Nat} (h : k < 17) : nmv[k]? = some (.string (nms.getD k ⟨#[]⟩)) := by
  rcases seventeen h with rfl|rfl|rfl|rfl|rfl|rfl|rfl|rfl|rfl|rfl|rfl|rfl|rfl|rfl|rfl|rfl|rfl <;> rfl
theorem fnd_yes {k : Nat} {l : List UInt8} (h : B (nms.getD k ⟨#[]⟩) = l) : fnd (k + 1) l = k := by unfold fnd; rw [if_pos h]
theorem fnd_no {k : Nat} {l : List UInt8} (h : ¬ B (nms.getD k ⟨#[]⟩) = l) : fnd (k + 1) l = fnd k l := by
  show (if B (nms.getD k ⟨#[]⟩) = l then (k : Int) else fnd k l) = _
  rw [if_neg h]
theorem ixm_frm {l : List UInt8} (h : frm (ixm l) = -1) : ixm l = -1 := by
  rcases ixm_in l with e | ⟨h1, h2, _⟩
  · exact e
  · have := frm_pos (ixm l) ⟨h1, h2⟩; omega

end Go.Proofs.YtfnmjbapjngmaaaDoor
