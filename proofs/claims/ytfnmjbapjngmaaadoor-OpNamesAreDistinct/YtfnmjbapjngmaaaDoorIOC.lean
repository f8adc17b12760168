/- The arguments of layer 4's laws, opened. No condition. -/
import Derived.Test.YtfnmjbapjngmaaaDoorIOB
import Derived.Deep.Strs
namespace Go.Proofs.YtfnmjbapjngmaaaDoor
open Go.ChangeShapes Go.WideShapes Go.ChangeAt Go.RowKit

theorem four {α : Type} {l : List α} (h : l.length = 4) : ∃ a b c d, l = [a, b, c, d] := by
  match l, h with
  | [a, b, c, d], _ => exact ⟨a, b, c, d, rfl⟩
theorem two {α : Type} {l : List α} (h : l.length = 2) : ∃ a b, l = [a, b] := by
  match l, h with
  | [a, b], _ => exact ⟨a, b, rfl⟩
theorem cellsIns : Tryd.prog.cellsOf 35 = 4 := by kernel_rfl
set_option maxRecDepth 100000 in
/-- An instruction, opened. -/
theorem ins_open {H : Type} {enc : TypeId × Value → H} {W : World} {r : Reach} {base b0 : Nat} {sp : Nat → Bool} {held : Bool} {v : Value} {d : DataW H} {p : List MemPlace}
    (hv : Value.okWide Tryd.prog W r base 35 v) (h : DataW.Trod enc Tryd.prog W b0 sp held 35 v d p) :
    ∃ o k n N, v = .agg #[.int .i64 o, .int .i64 k, .int .i64 n, .int .i64 N] := by
  simp only [Value.okWide, Tryd.underlying35] at hv
  obtain ⟨cs, rfl, hsz, _⟩ := hv
  obtain ⟨fuel, hf⟩ := h
  obtain ⟨y0, y1, y2, m, hx, hlen, h0, h1, h2⟩ := Go.Deep.trod_struct3 Tryd.underlying35 hf
  have hl : cs.toList.length = 4 := by simpa [cellsIns] using hsz
  obtain ⟨a, b, c, e, hcs⟩ := four hl
  have harr : cs = #[a, b, c, e] := by rw [← Array.toArray_toList (xs := cs), hcs]
  subst harr
  simp only [Value.cells] at h0 h1 h2
  obtain ⟨n0, e0, _, _⟩ := Go.DataW.trod_int Tryd.underlying3 h0
  obtain ⟨z0, z1, m1, _, _, g0, g1⟩ := trod_struct2 Tryd.underlying33 h1
  obtain ⟨n1, e1, _, _⟩ := Go.DataW.trod_int Tryd.underlying3 g0
  obtain ⟨n2, e2, _, _⟩ := Go.DataW.trod_int Tryd.underlying3 g1
  obtain ⟨n3, e3, _, _⟩ := Go.DataW.trod_int Tryd.underlying3 h2
  rw [cells3] at e0 e1 e2 e3
  rw [cellsAddr] at e1 e2
  simp at e0 e1 e2 e3
  subst e0 e1 e2 e3
  exact ⟨n0, n1, n2, n3, rfl⟩
/-- An array of two integers by value, opened. -/
theorem arr2_open {P : Program} {H : Type} {enc : TypeId × Value → H} {W : World} {r : Reach} {base b0 : Nat} {sp : Nat → Bool} {held : Bool} {T E : TypeId} {k : IntKind} {v : Value} {d : DataW H} {p : List MemPlace}
    (ht : P.underlying T = some (.array 2 E)) (hc : P.cellsOf T = 2) (he : P.underlying E = some (.int k)) (hce : P.cellsOf E = 1)
    (hv : Value.okWide P W r base T v) (h : DataW.Trod enc P W b0 sp held T v d p) :
    ∃ a b, v = .agg #[.int k a, .int k b] ∧ (Lit.int k a).wf = true ∧ (Lit.int k b).wf = true := by
  simp only [Value.okWide, ht] at hv
  obtain ⟨cs, rfl, hsz, _⟩ := hv
  obtain ⟨fuel, hf⟩ := h
  obtain ⟨xs, m1, rfl, hx1, hlen, hn2, hel⟩ := DataW.trod_array ht hf
  rw [hce] at hel
  have hl2 : cs.toList.length = 2 := by simpa [hc] using hsz
  obtain ⟨a, b, hcs⟩ := two hl2
  obtain ⟨x0, x1, rfl⟩ := two hn2
  have harr : cs = #[a, b] := by rw [← Array.toArray_toList (xs := cs), hcs]
  subst harr
  obtain ⟨n0, e0, _, w0⟩ := Go.DataW.trod_int he (hel 0 (by decide))
  obtain ⟨n1, e1, _, w1⟩ := Go.DataW.trod_int he (hel 1 (by decide))
  simp [Value.cells] at e0 e1
  subst e0 e1
  exact ⟨n0, n1, rfl, w0, w1⟩
theorem u8_in {n : Int} (h : (Lit.int .u8 n).wf = true) : 0 ≤ n ∧ n ≤ 255 := by
  simpa [Lit.wf, IntKind.min, IntKind.max, IntKind.signed, IntKind.bits] using h
theorem cellsSize : Tryd.prog.cellsOf 31 = 4 := by kernel_rfl
end Go.Proofs.YtfnmjbapjngmaaaDoor
