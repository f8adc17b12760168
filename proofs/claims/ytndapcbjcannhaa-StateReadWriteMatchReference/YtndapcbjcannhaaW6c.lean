/- The walks of StateMatchesReference, StateReadWriteMatchReference, StateWriteIsolated, all cases. Conditions: images that read as lists of bools. -/
import Derived.Test.YtndapcbjcannhaaW3
import Derived.Test.YtndapcbjcannhaaW4
import Derived.Test.YtndapcbjcannhaaW5b
import Derived.Test.YtndapcbjcannhaaW5f
import Derived.Test.YtndapcbjcannhaaW5s
import Derived.Test.YtndapcbjcannhaaW5d
import Derived.Test.YtndapcbjcannhaaW5e
namespace Go.Proofs.Ytndapcbjcannhaa
open Go.RowKit

theorem law3 (si sq s3 se : Int) (A1 A2 A3 : Option Addr) (m1 m2 m3 c1 c2 c3 : Nat) (B1 B2 B3 : Option Addr) (n1 n2 n3 d1 d2 d3 : Nat) (x1 x2 x3 y1 y2 y3 : List Bool) (w : World) (hx : Im w A1 m1 c1 x1 ∧ Im w A2 m2 c2 x2 ∧ Im w A3 m3 c3 x3) (hy : Im w B1 n1 d1 y1 ∧ Im w B2 n2 d2 y2 ∧ Im w B3 n3 d3 y3) :
    Calls Try.prog 3 #[.agg #[.int .i64 si, .int .i64 sq, .int .i64 s3, .int .i64 se], .agg #[.slice A1 m1 c1, .slice A2 m2 c2, .slice A3 m3 c3], .agg #[.slice B1 n1 d1, .slice B2 n2 d2, .slice B3 n3 d3]] w fun e w' => e = .returned (.bool true) ∧ Nx w w' := by
  rcases Classical.em (sm m1 m2 m3 ∧ sm n1 n2 n3) with h | h
  · exact law3_small si sq s3 se A1 A2 A3 m1 m2 m3 c1 c2 c3 B1 B2 B3 n1 n2 n3 d1 d2 d3 x1 x2 x3 y1 y2 y3 w h hx.1 hx.2.1 hx.2.2 hy.1 hy.2.1 hy.2.2
  · exact law3_big si sq s3 se A1 A2 A3 m1 m2 m3 c1 c2 c3 B1 B2 B3 n1 n2 n3 d1 d2 d3 w h
theorem law4 (A0 : Option Addr) (m0 c0 : Nat) (A1 A2 A3 : Option Addr) (m1 m2 m3 c1 c2 c3 : Nat) (k n : Int) (x0 x1 x2 x3 : List Bool) (w : World) (h0 : Im w A0 m0 c0 x0) (hx : Im w A1 m1 c1 x1 ∧ Im w A2 m2 c2 x2 ∧ Im w A3 m3 c3 x3) :
    Calls Try.prog 4 #[.slice A0 m0 c0, .agg #[.slice A1 m1 c1, .slice A2 m2 c2, .slice A3 m3 c3], .agg #[.int .i64 k, .int .i64 n]] w fun e w' => e = .returned (.bool true) ∧ Nx w w' := by
  rcases Classical.em (sm m1 m2 m3) with h | h
  · rcases Classical.em (m0 ≤ 1000) with hm | hm
    · exact law4_small A0 m0 c0 A1 A2 A3 m1 m2 m3 c1 c2 c3 k n x0 x1 x2 x3 w h hm h0 hx.1 hx.2.1 hx.2.2
    · exact law4_long A0 m0 c0 A1 A2 A3 m1 m2 m3 c1 c2 c3 k n w h hm
  · exact law4_big A0 m0 c0 A1 A2 A3 m1 m2 m3 c1 c2 c3 k n w h
theorem law5 (A0 : Option Addr) (m0 c0 : Nat) (A1 A2 A3 : Option Addr) (m1 m2 m3 c1 c2 c3 : Nat) (k n k' n' : Int) (x0 x1 x2 x3 : List Bool) (w : World) (h0 : Im w A0 m0 c0 x0) (hx : Im w A1 m1 c1 x1 ∧ Im w A2 m2 c2 x2 ∧ Im w A3 m3 c3 x3) :
    Calls Try.prog 5 #[.slice A0 m0 c0, .agg #[.slice A1 m1 c1, .slice A2 m2 c2, .slice A3 m3 c3], .agg #[.int .i64 k, .int .i64 n, .int .i64 k', .int .i64 n']] w fun e w' => e = .returned (.bool true) ∧ Nx w w' := by
  rcases Classical.em (sm m1 m2 m3) with h | h
  · rcases Classical.em (m0 ≤ 1000) with hm | hm
    · rcases Classical.em (wrE x1 x2 k n = 0) with he | he
      · rcases Classical.em (k = k') with hk | hk
        · rcases Classical.em (n = n') with hn | hn
          · exact law5_same A0 m0 c0 A1 A2 A3 m1 m2 m3 c1 c2 c3 k n k' n' x0 x1 x2 x3 w h hm h0 hx.1 hx.2.1 hx.2.2 he ⟨hk, hn⟩
          · exact law5_dn A0 m0 c0 A1 A2 A3 m1 m2 m3 c1 c2 c3 k n k' n' x0 x1 x2 x3 w h hm h0 hx.1 hx.2.1 hx.2.2 he ⟨hk, hn⟩
        · exact law5_dk A0 m0 c0 A1 A2 A3 m1 m2 m3 c1 c2 c3 k n k' n' x0 x1 x2 x3 w h hm h0 hx.1 hx.2.1 hx.2.2 he hk
      · exact law5_fail A0 m0 c0 A1 A2 A3 m1 m2 m3 c1 c2 c3 k n k' n' x0 x1 x2 x3 w h hm h0 hx.1 hx.2.1 hx.2.2 he
    · exact law5_long A0 m0 c0 A1 A2 A3 m1 m2 m3 c1 c2 c3 k n k' n' w h hm
  · exact law5_big A0 m0 c0 A1 A2 A3 m1 m2 m3 c1 c2 c3 k n k' n' w h
end Go.Proofs.Ytndapcbjcannhaa
