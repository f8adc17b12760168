/- How the arguments of stage 5's laws read: slices of integers, a slice of acts, a byte. No condition. -/
import Derived.Test.YtekhljgghjibmaaIBase
import Derived.Test.YtekhljgghjibmaaIKL
import Derived.ChangeSlices
import Derived.Deep.SlicePairs
namespace Go.Proofs.Ytekhljgghjibmaa
open Go.ChangeShapes Go.WideShapes Go.ChangeAt Go.RowKit

theorem cells_u : Try.prog.cellsOf 54 = 1 := by kernel_rfl
theorem cells_h : Try.prog.cellsOf 71 = 1 := by kernel_rfl
theorem ints_rdv {W : World} {a : Addr} {q : IntKind} {zs : List Int} {len : Nat} (hl : len ≤ zs.length) (h : ∀ i, i < zs.length → W.cell? (a.add i) = some (.int q (zs.getD i 0))) : RdV W (some a) (vals q (zs.take len)) := by
  intro k u hu
  have hk : k < (zs.take len).length := by have := (List.getElem?_eq_some_iff.1 hu).1; simpa [vals] using this
  have hk2 : k < zs.length := by rw [List.length_take] at hk; omega
  have hk3 : k < len := by rw [List.length_take] at hk; omega
  refine ⟨a, rfl, ?_⟩
  rw [h k hk2]
  rw [← hu]
  simp [vals, hk3, hk2]
theorem rdv_nil (W : World) (A : Option Addr) (q : IntKind) : RdV W A (vals q []) := fun k u hu => by simp [vals] at hu
theorem open_u16s {H : Type} {enc : TypeId × Value → H} {W : World} {base : Nat} {v : Value} {d : DataW H} {p : List MemPlace}
    (hv : Value.okWide Try.prog W .any base 50 v) (h : DataW.Trod enc Try.prog W 0 (fun _ => true) true 50 v d p) :
    ∃ (A : Option Addr) (zs : List Int) (m c : Nat), v = .slice A m c ∧ zs.length = m ∧ RdV W A (vals .u16 zs) := by
  obtain ⟨a0, len, cap, rfl⟩ := okWide_slice Try.underlying50 hv
  obtain ⟨fuel, hf⟩ := h
  rcases open_ints Try.underlying50 Try.underlying54 cells_u hf with ⟨hcs, _⟩ | ⟨a, len', cap', zs, hcs, _, hl, hm, hz, _, hcell, _⟩
  · simp [Value.cells] at hcs
    obtain ⟨rfl, rfl, rfl⟩ := hcs
    exact ⟨none, [], 0, 0, rfl, rfl, rdv_nil _ _ _⟩
  · simp [Value.cells] at hcs
    obtain ⟨rfl, rfl, rfl⟩ := hcs
    have hlz : len ≤ zs.length := by rw [hz]; simp; exact hl
    exact ⟨some a, zs.take len, len, cap, rfl, by rw [List.length_take]; omega, ints_rdv hlz hcell⟩
theorem open_i16s {H : Type} {enc : TypeId × Value → H} {W : World} {base : Nat} {v : Value} {d : DataW H} {p : List MemPlace}
    (hv : Value.okWide Try.prog W .any base 67 v) (h : DataW.Trod enc Try.prog W 0 (fun _ => true) true 67 v d p) :
    ∃ (A : Option Addr) (zs : List Int) (m c : Nat), v = .slice A m c ∧ zs.length = m ∧ RdV W A (vals .i16 zs) := by
  obtain ⟨a0, len, cap, rfl⟩ := okWide_slice Try.underlying67 hv
  obtain ⟨fuel, hf⟩ := h
  rcases open_ints Try.underlying67 Try.underlying71 cells_h hf with ⟨hcs, _⟩ | ⟨a, len', cap', zs, hcs, _, hl, hm, hz, _, hcell, _⟩
  · simp [Value.cells] at hcs
    obtain ⟨rfl, rfl, rfl⟩ := hcs
    exact ⟨none, [], 0, 0, rfl, rfl, rdv_nil _ _ _⟩
  · simp [Value.cells] at hcs
    obtain ⟨rfl, rfl, rfl⟩ := hcs
    have hlz : len ≤ zs.length := by rw [hz]; simp; exact hl
    exact ⟨some a, zs.take len, len, cap, rfl, by rw [List.length_take]; omega, ints_rdv hlz hcell⟩
theorem open_byte {H : Type} {enc : TypeId × Value → H} {W : World} {base : Nat} {v : Value} {d : DataW H} {p : List MemPlace}
    (hv : Value.okWide Try.prog W .any base 5 v) (h : DataW.Trod enc Try.prog W 0 (fun _ => true) true 5 v d p) : ∃ n : Int, v = .int .u8 n ∧ 0 ≤ n := by
  obtain ⟨n, rfl, _, _, hw⟩ := open_int Try.underlying5 hv h
  exact ⟨n, rfl, (bounds_u8 hw).1⟩
theorem open_acts {H : Type} {enc : TypeId × Value → H} {W : World} {base : Nat} {v : Value} {d : DataW H} {p : List MemPlace}
    (hv : Value.okWide Try.prog W .any base 22 v) (h : DataW.Trod enc Try.prog W 0 (fun _ => true) true 22 v d p) :
    ∃ (A : Option Addr) (acts : List (Int × ByteArray)) (m c : Nat), v = .slice A m c ∧ acts.length = m ∧ RdA W A acts := by
  obtain ⟨a0, len, cap, rfl⟩ := okWide_slice Try.underlying22 hv
  obtain ⟨fuel, hf⟩ := h
  rcases Deep.open_slice_pairs Try.underlying22 Try.underlying34 (by kernel_rfl) rfl rfl (by kernel_rfl) (by kernel_rfl) hf with ⟨hcs, _⟩ | ⟨a, len', cap', m', n', V0, V1, D0, D1, P0, P1, hcs, _, hl, hm, hmm, _, hcell⟩
  · simp [Value.cells] at hcs
    obtain ⟨rfl, rfl, rfl⟩ := hcs
    exact ⟨none, [], 0, 0, rfl, rfl, fun k a hk => by simp at hk⟩
  · simp [Value.cells] at hcs
    obtain ⟨rfl, rfl, rfl⟩ := hcs
    have hlm : len ≤ m' := by rw [hmm]; simp; exact hl
    have each : ∀ i, i < len → ∃ q : Int × ByteArray, W.cell? (a.add (i * 2)) = some (.int .i64 q.1) ∧ W.cell? (a.add (i * 2 + 1)) = some (.string q.2) := by
      intro i hi
      obtain ⟨h0, h1, t0, t1⟩ := hcell i (by omega)
      obtain ⟨z, e0, _⟩ := DataW.trod_int Try.underlying3 t0
      obtain ⟨s, e1, _⟩ := DataW.trod_string Try.underlying9 t1
      simp only [List.cons.injEq, and_true] at e0 e1
      exact ⟨(z, s), by rw [h0, e0], by rw [h1, e1]⟩
    obtain ⟨q, hq⟩ := Deep.choose_lt each
    refine ⟨some a, (List.range len).map q, len, cap, rfl, by simp, fun k x hk => ?_⟩
    have hlt : k < len := by have := (List.getElem?_eq_some_iff.1 hk).1; simpa using this
    rw [List.getElem?_map, List.getElem?_range hlt] at hk
    simp only [Option.map_some, Option.some.injEq] at hk
    subst hk
    exact ⟨a, rfl, hq k hlt⟩
end Go.Proofs.Ytekhljgghjibmaa
