/- How images and a state read among a law's arguments, with the form's own reach. No condition. -/
import Derived.Test.YtdpccnpaajhliaaGreatDoorINF
import Derived.SizedLaws
namespace Go.Proofs.YtdpccnpaajhliaaGreatDoor
open Go.ChangeShapes Go.WideShapes Go.ChangeAt Go.RowKit Go.Joins

theorem bytes4 : Tryz.prog.bytesOf 4 = 1 := by kernel_rfl
theorem im_wt {H : Type} {enc : TypeId × Value → H} {W : World} {fuel : Nat} {A : Option Addr} {m c : Nat} {y : DataW H × List MemPlace}
    (hf : DataW.trod enc Tryz.prog W 0 (fun _ => true) true fuel 27 [.slice A m c] = some y) (hw : (y.1.weights Tryz.prog 27).all (· ≤ reachBytes) = true) : m ≤ 140737488351232 := by
  rcases Deep.open_bools Tryz.underlying27 Tryz.underlying4 cells4 hf with ⟨hcs, _⟩ | ⟨a, len', cap', Z, hcs, _, hl, hm, hy, _⟩
  · simp at hcs; omega
  · simp at hcs
    obtain ⟨_, rfl, rfl⟩ := hcs
    rw [hy] at hw
    have h := List.all_eq_true.1 hw ((((List.range m).map fun i => (DataW.lit (Lit.bool (Z i)) : DataW H)).length + ((List.range (c - m)).map fun j => (DataW.lit (Lit.bool (Z (m + j))) : DataW H)).length) * Tryz.prog.bytesOf 4) (by simp [Deep.boolRow, DataW.weights, Tryz.underlying27])
    rw [bytes4] at h
    simp [reachBytes] at h
    omega
set_option maxRecDepth 100000 in
theorem open_im9 {H : Type} {enc : TypeId × Value → H} {W : World} {base : Nat} {v : Value} {d : DataW H} {p : List MemPlace}
    (hv : Value.okWide Tryz.prog W .any base 27 v) (h : DataW.Trod enc Tryz.prog W 0 (fun _ => true) true 27 v d p) :
    ∃ (A : Option Addr) (m c : Nat) (xs : List Bool), v = .slice A m c ∧ Im W A m c xs ∧ ((d.weights Tryz.prog 27).all (· ≤ reachBytes) = true → m ≤ 140737488351232) := by
  have h' := h
  obtain ⟨A, m, c, xs, rfl, hi⟩ := open_im hv h
  obtain ⟨fuel, hf⟩ := h'
  exact ⟨A, m, c, xs, rfl, hi, fun hw => im_wt (y := (d, p)) hf hw⟩
set_option maxRecDepth 100000 in
theorem open_state9 {H : Type} {enc : TypeId × Value → H} {W : World} {base : Nat} {v : Value} {d : DataW H} {p : List MemPlace}
    (hv : Value.okWide Tryz.prog W .any base 29 v) (h : DataW.Trod enc Tryz.prog W 0 (fun _ => true) true 29 v d p) :
    ∃ (A1 A2 A3 : Option Addr) (m1 m2 m3 c1 c2 c3 : Nat) (x1 x2 x3 : List Bool), v = .agg #[.slice A1 m1 c1, .slice A2 m2 c2, .slice A3 m3 c3] ∧ Im W A1 m1 c1 x1 ∧ Im W A2 m2 c2 x2 ∧ Im W A3 m3 c3 x3 ∧
      ((d.weights Tryz.prog 29).all (· ≤ reachBytes) = true → m1 ≤ 140737488351232 ∧ m2 ≤ 140737488351232 ∧ m3 ≤ 140737488351232) := by
  obtain ⟨v0, v1, v2, y0, y1, y2, n, rfl, rfl, _, h0, h1, h2⟩ := open_agg3 Tryz.underlying29 (by kernel_rfl) (show Tryz.prog.cellsOf 29 = 3 by kernel_rfl) hv h
  obtain ⟨A1, m1, c1, x1, rfl, i1⟩ := im_of_trod h0
  obtain ⟨A2, m2, c2, x2, rfl, i2⟩ := im_of_trod h1
  obtain ⟨A3, m3, c3, x3, rfl, i3⟩ := im_of_trod h2
  refine ⟨_, _, _, _, _, _, _, _, _, x1, x2, x3, rfl, i1, i2, i3, fun hw => ?_⟩
  simp only [DataW.weights, Tryz.underlying29] at hw
  have each : ∀ (j : Nat) (d : DataW H), [y0.1, y1.1, y2.1][j]? = some d → (d.weights Tryz.prog 27).all (· ≤ reachBytes) = true := fun j d hd => List.all_eq_true.2 fun n hn => by
    refine List.all_eq_true.1 hw n (DataW.weights_mem_each (j := j) (t := 27) ?_ hd n hn)
    match j, hd with
    | 0, _ => rfl
    | 1, _ => rfl
    | 2, _ => rfl
    | j + 3, hd => simp at hd
  exact ⟨im_wt h0 (each 0 _ rfl), im_wt h1 (each 1 _ rfl), im_wt h2 (each 2 _ rfl)⟩
end Go.Proofs.YtdpccnpaajhliaaGreatDoor
