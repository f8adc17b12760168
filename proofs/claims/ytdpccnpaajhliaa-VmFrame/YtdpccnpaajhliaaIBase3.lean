/- How the arguments of stage 3's laws read: a state, sizes, an address, two addresses, four numbers, two bools. No condition. -/
import Derived.Test.YtdpccnpaajhliaaIBase2
import Derived.Test.YtdpccnpaajhliaaMA
import Derived.Lib.SmallJoins
namespace Go.Proofs.Ytdpccnpaajhliaa
open Go.ChangeShapes Go.WideShapes Go.ChangeAt Go.RowKit Go.Joins

theorem im_of_trod {H : Type} {enc : TypeId × Value → H} {W : World} {fuel : Nat} {v : Value} {y : DataW H × List MemPlace}
    (hf : DataW.trod enc Try.prog W 0 (fun _ => true) true fuel 22 [v] = some y) : ∃ (A : Option Addr) (m c : Nat) (xs : List Bool), v = .slice A m c ∧ Im W A m c xs := by
  rcases Deep.open_bools Try.underlying22 Try.underlying4 cells4 hf with ⟨hcs, _⟩ | ⟨a, len', cap', Z, hcs, _, hl, hm, _, hcell⟩
  · simp only [List.cons.injEq, and_true] at hcs
    subst hcs
    exact ⟨none, 0, 0, [], rfl, fun k b hk => by simp at hk, rfl, fun _ => rfl⟩
  · simp only [List.cons.injEq, and_true] at hcs
    subst hcs
    refine ⟨some a, len', cap', (List.range len').map Z, rfl, fun k b hk => ?_, by simp, fun e => by cases e⟩
    have hlt : k < len' := by have := (List.getElem?_eq_some_iff.1 hk).1; simpa using this
    rw [List.getElem?_map, List.getElem?_range hlt] at hk
    simp only [Option.map_some, Option.some.injEq] at hk
    exact ⟨a, rfl, by rw [← hk]; exact hcell k (by omega)⟩

set_option maxRecDepth 100000 in
theorem open_im {H : Type} {enc : TypeId × Value → H} {W : World} {base : Nat} {v : Value} {d : DataW H} {p : List MemPlace}
    (hv : Value.okWide Try.prog W .any base 22 v) (h : DataW.Trod enc Try.prog W 0 (fun _ => true) true 22 v d p) :
    ∃ (A : Option Addr) (m c : Nat) (xs : List Bool), v = .slice A m c ∧ Im W A m c xs := by
  obtain ⟨A, xs, m, c, rfl, hx, hr, hc⟩ := open_img0 hv h
  exact ⟨A, m, c, xs, rfl, hr, hx, hc⟩

set_option maxRecDepth 100000 in
theorem open_state {H : Type} {enc : TypeId × Value → H} {W : World} {base : Nat} {v : Value} {d : DataW H} {p : List MemPlace}
    (hv : Value.okWide Try.prog W .any base 31 v) (h : DataW.Trod enc Try.prog W 0 (fun _ => true) true 31 v d p) :
    ∃ (A1 A2 A3 : Option Addr) (m1 m2 m3 c1 c2 c3 : Nat) (x1 x2 x3 : List Bool), v = .agg #[.slice A1 m1 c1, .slice A2 m2 c2, .slice A3 m3 c3] ∧ Im W A1 m1 c1 x1 ∧ Im W A2 m2 c2 x2 ∧ Im W A3 m3 c3 x3 := by
  obtain ⟨v0, v1, v2, y0, y1, y2, n, rfl, _, _, h0, h1, h2⟩ := open_agg3 Try.underlying31 (by kernel_rfl) (show Try.prog.cellsOf 31 = 3 by kernel_rfl) hv h
  obtain ⟨A1, m1, c1, x1, rfl, i1⟩ := im_of_trod h0
  obtain ⟨A2, m2, c2, x2, rfl, i2⟩ := im_of_trod h1
  obtain ⟨A3, m3, c3, x3, rfl, i3⟩ := im_of_trod h2
  exact ⟨_, _, _, _, _, _, _, _, _, x1, x2, x3, rfl, i1, i2, i3⟩

theorem int_of_trod {H : Type} {enc : TypeId × Value → H} {W : World} {fuel : Nat} {v : Value} {y : DataW H × List MemPlace}
    (hf : DataW.trod enc Try.prog W 0 (fun _ => true) true fuel 3 [v] = some y) : ∃ n, v = .int .i64 n ∧ (Lit.int .i64 n).wf = true := by
  obtain ⟨n, e, _, hw⟩ := DataW.trod_int Try.underlying3 hf
  simp only [List.cons.injEq, and_true] at e
  exact ⟨n, e, hw⟩
set_option maxRecDepth 100000 in
theorem open_addr {H : Type} {enc : TypeId × Value → H} {W : World} {base : Nat} {v : Value} {d : DataW H} {p : List MemPlace}
    (hv : Value.okWide Try.prog W .any base 26 v) (h : DataW.Trod enc Try.prog W 0 (fun _ => true) true 26 v d p) :
    ∃ k n : Int, v = .agg #[.int .i64 k, .int .i64 n] := by
  obtain ⟨v0, v1, y0, y1, n, rfl, _, _, h0, h1⟩ := open_agg2 Try.underlying26 (by kernel_rfl) (show Try.prog.cellsOf 26 = 2 by kernel_rfl) hv h
  obtain ⟨k, rfl, _⟩ := int_of_trod h0
  obtain ⟨n, rfl, _⟩ := int_of_trod h1
  exact ⟨k, n, rfl⟩
theorem four_of {α : Type} {l : List α} (h : l.length = 4) : ∃ a b c d, l = [a, b, c, d] := by
  match l, h with
  | [a, b, c, d], _ => exact ⟨a, b, c, d, rfl⟩
theorem two_of {α : Type} {l : List α} (h : l.length = 2) : ∃ a b, l = [a, b] := by
  match l, h with
  | [a, b], _ => exact ⟨a, b, rfl⟩
end Go.Proofs.Ytdpccnpaajhliaa
