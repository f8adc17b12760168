/- How an argument of type image reads, its capacity too where it is nil. No condition. -/
import Derived.Test.YtdpccnpaajhliaaIBase
namespace Go.Proofs.Ytdpccnpaajhliaa
open Go.ChangeShapes Go.WideShapes Go.ChangeAt Go.RowKit

set_option maxRecDepth 100000 in
theorem open_img0 {H : Type} {enc : TypeId × Value → H} {W : World} {base : Nat} {v : Value} {d : DataW H} {p : List MemPlace}
    (hv : Value.okWide Try.prog W .any base 22 v) (h : DataW.Trod enc Try.prog W 0 (fun _ => true) true 22 v d p) :
    ∃ (A : Option Addr) (xs : List Bool) (m c : Nat), v = .slice A m c ∧ xs.length = m ∧ (Rd W A xs ∧ (A = none → c = 0)) := by
  have h' := h
  obtain ⟨A, xs, m, c, rfl, hx, hr⟩ := open_img hv h
  refine ⟨A, xs, m, c, rfl, hx, hr, fun hA => ?_⟩
  subst hA
  obtain ⟨fuel, hf⟩ := h'
  rcases Deep.open_bools Try.underlying22 Try.underlying4 cells4 hf with ⟨hcs, _⟩ | ⟨a, len', cap', Z, hcs, _⟩
  · simp [Value.cells] at hcs
    exact hcs.2
  · simp [Value.cells] at hcs
end Go.Proofs.Ytdpccnpaajhliaa
