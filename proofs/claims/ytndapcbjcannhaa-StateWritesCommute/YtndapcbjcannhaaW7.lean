/- The walk of StateWritesCommute, all cases. Conditions: images that read as lists of bools. -/
import Derived.Test.YtndapcbjcannhaaW7b
import Derived.Test.YtndapcbjcannhaaW7k
import Derived.Test.YtndapcbjcannhaaW7n
import Derived.Test.YtndapcbjcannhaaW7s
import Derived.Test.YtndapcbjcannhaaW7d
namespace Go.Proofs.Ytndapcbjcannhaa
open Go.RowKit

theorem law7 (A1 A2 A3 : Option Addr) (m1 m2 m3 c1 c2 c3 : Nat) (k n k' n' : Int) (va vb : Bool) (x1 x2 x3 : List Bool) (w : World) (hx : Im w A1 m1 c1 x1 ∧ Im w A2 m2 c2 x2 ∧ Im w A3 m3 c3 x3) :
    Calls Try.prog 7 #[.agg #[.slice A1 m1 c1, .slice A2 m2 c2, .slice A3 m3 c3], .agg #[.int .i64 k, .int .i64 n, .int .i64 k', .int .i64 n'], .agg #[.bool va, .bool vb]] w fun e w' => e = .returned (.bool true) ∧ Nx w w' := by
  rcases Classical.em (sm m1 m2 m3) with h | h
  · rcases Classical.em (wrE x1 x2 k n = 0) with e1 | e1
    · rcases Classical.em (wrE x1 x2 k' n' = 0) with e2 | e2
      · rcases Classical.em (k = k') with hk | hk
        · rcases Classical.em (n = n') with hn | hn
          · rcases Classical.em (va = vb) with hv | hv
            · exact law7_s A1 A2 A3 m1 m2 m3 c1 c2 c3 k n k' n' va vb x1 x2 x3 w h hx e1 e2 ⟨⟨hk, hn⟩, hv⟩
            · exact law7_d A1 A2 A3 m1 m2 m3 c1 c2 c3 k n k' n' va vb x1 x2 x3 w h hx e1 e2 ⟨⟨hk, hn⟩, hv⟩
          · exact law7_n A1 A2 A3 m1 m2 m3 c1 c2 c3 k n k' n' va vb x1 x2 x3 w h hx e1 e2 ⟨hk, hn⟩
        · exact law7_k A1 A2 A3 m1 m2 m3 c1 c2 c3 k n k' n' va vb x1 x2 x3 w h hx e1 e2 hk
      · exact law7_f2 A1 A2 A3 m1 m2 m3 c1 c2 c3 k n k' n' va vb x1 x2 x3 w h hx e1 e2
    · exact law7_f1 A1 A2 A3 m1 m2 m3 c1 c2 c3 k n k' n' va vb x1 x2 x3 w h hx e1
  · exact law7_big A1 A2 A3 m1 m2 m3 c1 c2 c3 k n k' n' va vb w h
end Go.Proofs.Ytndapcbjcannhaa
