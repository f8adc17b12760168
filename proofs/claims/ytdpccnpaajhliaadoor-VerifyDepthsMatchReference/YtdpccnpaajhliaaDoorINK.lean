/- How a program reads among a law's arguments, with its length's bound. No condition. -/
import Derived.Test.YtdpccnpaajhliaaDoorINF
namespace Go.Proofs.YtdpccnpaajhliaaDoor
open Go.ChangeShapes Go.WideShapes Go.ChangeAt Go.RowKit Go.Joins

set_option maxRecDepth 100000 in
theorem open_code7 {H : Type} {enc : TypeId × Value → H} {W : World} {base : Nat} {v : Value} {d : DataW H} {p : List MemPlace}
    (hv : Value.okWide Tryd.prog W .any base 24 v) (h : DataW.Trod enc Tryd.prog W 0 (fun _ => true) true 24 v d p) :
    ∃ (A : Option Addr) (code : List In4) (n c : Nat), v = .slice A n c ∧ (code.length = n ∧ n ≤ maxLen) ∧ RdC W A code ∧ (n ≤ c ∧ (A = none → c = 0)) := by
  obtain ⟨a0, len, cap, rfl⟩ := okWide_slice Tryd.underlying24 hv
  obtain ⟨fuel, hf⟩ := h
  obtain ⟨A, code, m, c, e, h1, h2, h3⟩ := code_of_trod (v := .slice a0 len cap) hf
  exact ⟨A, code, m, c, e, h1, h2, h3⟩
end Go.Proofs.YtdpccnpaajhliaaDoor
