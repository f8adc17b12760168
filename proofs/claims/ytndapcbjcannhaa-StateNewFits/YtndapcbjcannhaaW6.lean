/- The walk of StateNewFits, all cases. Conditions: four numbers of 16 bits. -/
import Derived.Test.YtndapcbjcannhaaW6kl
import Derived.Test.YtndapcbjcannhaaW6kg
import Derived.Test.YtndapcbjcannhaaW6nn
import Derived.Test.YtndapcbjcannhaaW6k0y
import Derived.Test.YtndapcbjcannhaaW6k0n
import Derived.Test.YtndapcbjcannhaaW6k1y
import Derived.Test.YtndapcbjcannhaaW6k1n
import Derived.Test.YtndapcbjcannhaaW6k2y
import Derived.Test.YtndapcbjcannhaaW6k2n
namespace Go.Proofs.Ytndapcbjcannhaa
open Go.RowKit

theorem law6 (na nb nc ne : Nat) (k n : Int) (hn : na < 65536 ∧ nb < 65536 ∧ nc < 65536 ∧ ne < 65536) (w : World) :
    Calls Try.prog 6 #[.agg #[.int .u16 na, .int .u16 nb, .int .u16 nc, .int .u16 ne], .agg #[.int .i64 k, .int .i64 n]] w fun e w' => e = .returned (.bool true) ∧ Nx w w' := by
  by_cases z0 : k < 0
  · exact law6_kl na nb nc ne k n hn z0 w
  by_cases z1 : 2 < k
  · exact law6_kg na nb nc ne k n hn z1 w
  by_cases z2 : n < 0
  · exact law6_nn na nb nc ne k n hn ⟨⟨by omega, by omega⟩, z2⟩ w
  by_cases k0 : k = 0
  · by_cases h : n < ((na % 257 : Nat) : Int)
    · exact law6_k0y na nb nc ne k n hn ⟨k0, by omega, h⟩ w
    · exact law6_k0n na nb nc ne k n hn ⟨k0, by omega, h⟩ w
  by_cases k1 : k = 1
  · by_cases h : n < ((nb % 257 : Nat) : Int)
    · exact law6_k1y na nb nc ne k n hn ⟨k1, by omega, h⟩ w
    · exact law6_k1n na nb nc ne k n hn ⟨k1, by omega, h⟩ w
  by_cases h : n < ((nc % 257 : Nat) : Int)
  · exact law6_k2y na nb nc ne k n hn ⟨by omega, by omega, h⟩ w
  · exact law6_k2n na nb nc ne k n hn ⟨by omega, by omega, h⟩ w
end Go.Proofs.Ytndapcbjcannhaa
