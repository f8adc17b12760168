/- The chapter's example holds. Condition: the table of opcodes holds what the program's text lays. -/
import Derived.Test.YtdiamajkfbejhaaDoorIN5
namespace Go.Proofs.YtdiamajkfbejhaaDoor
open Go.RowKit

theorem RdC.bx {w : World} {g : Nat} {code : List In4} {T : TypeId} (h : Bx w g T (ins code)) : RdC w (some ⟨g, 0, none⟩) code := fun k x hk => by
  obtain ⟨h1, h2, h3, h4⟩ := ins_get code k x hk
  refine ⟨_, rfl, ?_, ?_, ?_, ?_⟩
  · rw [Addr.add_lit, Nat.zero_add]; exact h.cell _ h1
  · rw [Addr.add_lit, Nat.zero_add]; exact h.cell _ h2
  · rw [Addr.add_lit, Nat.zero_add]; exact h.cell _ h3
  · rw [Addr.add_lit, Nat.zero_add]; exact h.cell _ h4
def exC : List In4 := [⟨0, 0, 0, 0⟩, ⟨16, 0, 0, 0⟩]
theorem ex7 : ckA 1 0 0 0 exC = (0, 2, 0) := by decide +kernel
end Go.Proofs.YtdiamajkfbejhaaDoor
