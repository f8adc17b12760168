/- Openers for the rows of layer 6. No condition. -/
import Derived.Test.YtdpccnpaajhliaaIXG
import Derived.Test.YtdpccnpaajhliaaIBase3
namespace Go.Proofs.Ytdpccnpaajhliaa
open Go.ChangeShapes Go.WideShapes Go.ChangeAt Go.RowKit

set_option maxRecDepth 100000 in
theorem open_byte {H : Type} {enc : TypeId × Value → H} {W : World} {base : Nat} {v : Value} {d : DataW H} {p : List MemPlace}
    (hv : Value.okWide Try.prog W .any base 5 v) (h : DataW.Trod enc Try.prog W 0 (fun _ => true) true 5 v d p) : ∃ n : Int, v = .int .u8 n ∧ 0 ≤ n := by
  obtain ⟨n, rfl, _, _, hw⟩ := open_int Try.underlying5 hv h
  exact ⟨n, rfl, (bounds_u8 hw).1⟩
end Go.Proofs.Ytdpccnpaajhliaa
