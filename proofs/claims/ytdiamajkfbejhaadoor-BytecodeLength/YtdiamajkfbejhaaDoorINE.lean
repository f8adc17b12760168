/- How a program among a law's arguments reads. No condition. -/
import Derived.Test.YtdiamajkfbejhaaDoorIBase
import Derived.Test.YtdiamajkfbejhaaDoorIN0
import Derived.Deep.Slices
import Derived.Deep.Strs
import Derived.ChangeSame
import Derived.Lib.SmallJoins
namespace Go.Proofs.YtdiamajkfbejhaaDoor
open Go.ChangeShapes Go.WideShapes Go.ChangeAt Go.RowKit Go.Joins

theorem four_of {α : Type} {l : List α} (h : l.length = 4) : ∃ a b c d, l = [a, b, c, d] := by
  match l, h with
  | [a, b, c, d], _ => exact ⟨a, b, c, d, rfl⟩
instance : Inhabited In4 := ⟨⟨0, 0, 0, 0⟩⟩
theorem cellsIns6 : Tryd.prog.cellsOf 46 = 4 := by kernel_rfl
theorem cellsAddr6 : Tryd.prog.cellsOf 44 = 2 := by kernel_rfl
theorem cells36 : Tryd.prog.cellsOf 3 = 1 := by kernel_rfl
set_option maxRecDepth 100000 in
theorem open_code {H : Type} {enc : TypeId × Value → H} {W : World} {base : Nat} {v : Value} {d : DataW H} {p : List MemPlace}
    (hv : Value.okWide Tryd.prog W .any base 24 v) (h : DataW.Trod enc Tryd.prog W 0 (fun _ => true) true 24 v d p) :
    ∃ (A : Option Addr) (code : List In4) (m c : Nat), v = .slice A m c ∧ code.length = m ∧ RdC W A code ∧ (A = none → c = 0) := by
  obtain ⟨a0, len, cap, rfl⟩ := okWide_slice Tryd.underlying24 hv
  obtain ⟨fuel, hf⟩ := h
  rcases Deep.open_slice Tryd.underlying24 hf with ⟨hcs, _⟩ | ⟨a, len', cap', m', n', D, Pl, hcs, _, hl, hm, hmm, _, hx⟩
  · simp [Value.cells] at hcs
    obtain ⟨rfl, rfl, rfl⟩ := hcs
    exact ⟨none, [], 0, 0, rfl, rfl, fun k a hk => by simp at hk, fun _ => rfl⟩
  · simp [Value.cells] at hcs
    obtain ⟨rfl, rfl, rfl⟩ := hcs
    have hlm : len ≤ m' := by rw [hmm]; simp; exact hl
    have each : ∀ i, i < len → ∃ x : In4, W.cell? (a.add (i * 4)) = some (.int .i64 x.op) ∧ W.cell? (a.add (i * 4 + 1)) = some (.int .i64 x.k) ∧ W.cell? (a.add (i * 4 + 2)) = some (.int .i64 x.n) ∧ W.cell? (a.add (i * 4 + 3)) = some (.int .i64 x.t) := by
      intro i hi
      obtain ⟨cs', g1, g2⟩ := hx i (by omega)
      rw [cellsIns6] at g1
      obtain ⟨_, hlen, hcell⟩ := World.cells?_some g1
      obtain ⟨y0, y1, y2, m, _, _, h0, h1, h2⟩ := Go.Deep.trod_struct3 Tryd.underlying46 g2
      obtain ⟨b0, b1, b2, b3, rfl⟩ := four_of hlen
      obtain ⟨n0, e0, _, _⟩ := Go.DataW.trod_int Tryd.underlying3 h0
      obtain ⟨z0, z1, m1, _, _, q0, q1⟩ := trod_struct2 Tryd.underlying44 h1
      obtain ⟨n1, e1, _, _⟩ := Go.DataW.trod_int Tryd.underlying3 q0
      obtain ⟨n2, e2, _, _⟩ := Go.DataW.trod_int Tryd.underlying3 q1
      obtain ⟨n3, e3, _, _⟩ := Go.DataW.trod_int Tryd.underlying3 h2
      rw [cells36] at e0 e1 e2 e3
      rw [cellsAddr6] at e1 e2
      simp at e0 e1 e2 e3
      subst e0 e1 e2 e3
      have c0 := hcell 0 (by omega)
      have c1 := hcell 1 (by omega)
      have c2 := hcell 2 (by omega)
      have c3 := hcell 3 (by omega)
      rw [Addr.add_add] at c0 c1 c2 c3
      exact ⟨⟨n0, n1, n2, n3⟩, c0, c1, c2, c3⟩
    obtain ⟨q, hq⟩ := Deep.choose_lt each
    refine ⟨some a, (List.range len).map q, len, cap, rfl, by simp, fun k x hk => ?_, fun e => by cases e⟩
    have hlt : k < len := by have := (List.getElem?_eq_some_iff.1 hk).1; simpa using this
    rw [List.getElem?_map, List.getElem?_range hlt] at hk
    simp only [Option.map_some, Option.some.injEq] at hk
    subst hk
    exact ⟨a, rfl, hq k hlt⟩
end Go.Proofs.YtdiamajkfbejhaaDoor
