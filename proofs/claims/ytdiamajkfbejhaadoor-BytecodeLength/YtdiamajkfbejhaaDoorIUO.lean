/- How bytes and a pair of numbers read among a law's arguments. No condition. -/
import Derived.Test.YtdiamajkfbejhaaDoorINF
import Derived.Test.YtdiamajkfbejhaaDoorIT3
namespace Go.Proofs.YtdiamajkfbejhaaDoor
open Go.ChangeShapes Go.WideShapes Go.ChangeAt Go.RowKit Go.Joins

theorem cells5 : Tryd.prog.cellsOf 5 = 1 := by kernel_rfl
set_option maxRecDepth 100000 in
theorem open_bytes {H : Type} {enc : TypeId × Value → H} {W : World} {base : Nat} {v : Value} {d : DataW H} {p : List MemPlace}
    (hv : Value.okWide Tryd.prog W .any base 28 v) (h : DataW.Trod enc Tryd.prog W 0 (fun _ => true) true 28 v d p) :
    ∃ (A : Option Addr) (bs : List UInt8) (n c : Nat), v = .slice A n c ∧ bs.length = n ∧ RdY W A bs ∧ (n ≤ c ∧ c ≤ maxLen) ∧ (A = none → c = 0) := by
  obtain ⟨a0, len, cap, rfl⟩ := okWide_slice Tryd.underlying28 hv
  obtain ⟨fuel, hf⟩ := h
  rcases Deep.open_slice1 Tryd.underlying28 cells5 hf with ⟨hcs, _⟩ | ⟨a, len', cap', m', n', V, D, Pl, hcs, _, hl, hm, hmm, _, hx⟩
  · simp [Value.cells] at hcs
    obtain ⟨rfl, rfl, rfl⟩ := hcs
    exact ⟨none, [], 0, 0, rfl, rfl, RdY.nil _ _, ⟨Nat.le_refl _, Nat.zero_le _⟩, fun _ => rfl⟩
  · simp [Value.cells] at hcs
    obtain ⟨rfl, rfl, rfl⟩ := hcs
    have hlm : len ≤ m' := by rw [hmm]; simp; exact hl
    have each : ∀ i, i < len → ∃ b : UInt8, W.cell? (a.add i) = some (.int .u8 (b.toNat : Int)) := by
      intro i hi
      obtain ⟨g1, g2⟩ := hx i (by omega)
      obtain ⟨n0, e0, _, wf⟩ := Go.DataW.trod_int Tryd.underlying5 g2
      have hb := bounds_u8 wf
      refine ⟨u8 n0, ?_⟩
      rw [g1, u8_nat, show n0 % 256 = n0 by omega]
      simp only [List.cons.injEq, and_true] at e0
      rw [e0]
    obtain ⟨q, hq⟩ := Deep.choose_lt each
    refine ⟨some a, (List.range len).map q, len, cap, rfl, by simp, fun k x hk => ?_, ⟨hl, hm⟩, fun e => by cases e⟩
    have hlt : k < len := by have := (List.getElem?_eq_some_iff.1 hk).1; simpa using this
    rw [List.getElem?_map, List.getElem?_range hlt] at hk
    simp only [Option.map_some, Option.some.injEq] at hk
    subst hk
    exact ⟨a, rfl, hq k hlt⟩
theorem pair_of {α : Type} {l : List α} (h : l.length = 2) : ∃ a b, l = [a, b] := by
  match l, h with
  | [a, b], _ => exact ⟨a, b, rfl⟩
theorem arr2_open {P : Program} {H : Type} {enc : TypeId × Value → H} {W : World} {r : Reach} {base b0 : Nat} {sp : Nat → Bool} {held : Bool} {T E : TypeId} {k : IntKind} {v : Value} {d : DataW H} {p : List MemPlace}
    (ht : P.underlying T = some (.array 2 E)) (hc : P.cellsOf T = 2) (he : P.underlying E = some (.int k)) (hce : P.cellsOf E = 1)
    (hv : Value.okWide P W r base T v) (h : DataW.Trod enc P W b0 sp held T v d p) :
    ∃ a b, v = .agg #[.int k a, .int k b] ∧ (Lit.int k a).wf = true ∧ (Lit.int k b).wf = true := by
  simp only [Value.okWide, ht] at hv
  obtain ⟨cs, rfl, hsz, _⟩ := hv
  obtain ⟨fuel, hf⟩ := h
  obtain ⟨xs, m1, rfl, hx1, hlen, hn2, hel⟩ := DataW.trod_array ht hf
  rw [hce] at hel
  have hl2 : cs.toList.length = 2 := by simpa [hc] using hsz
  obtain ⟨a, b, hcs⟩ := pair_of hl2
  obtain ⟨x0, x1, rfl⟩ := pair_of hn2
  have harr : cs = #[a, b] := by rw [← Array.toArray_toList (xs := cs), hcs]
  subst harr
  obtain ⟨n0, e0, _, w0⟩ := Go.DataW.trod_int he (hel 0 (by decide))
  obtain ⟨n1, e1, _, w1⟩ := Go.DataW.trod_int he (hel 1 (by decide))
  simp [Value.cells] at e0 e1
  subst e0 e1
  exact ⟨n0, n1, rfl, w0, w1⟩
end Go.Proofs.YtdiamajkfbejhaaDoor
