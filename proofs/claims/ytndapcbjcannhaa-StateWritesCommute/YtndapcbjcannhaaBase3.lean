/- How the arguments of stage 3's laws read: a state, sizes, an address, two addresses, four numbers, two bools. No condition. -/
import Derived.Test.YtndapcbjcannhaaIBase2
import Derived.Test.YtndapcbjcannhaaS0
import Derived.Lib.SmallJoins
namespace Go.Proofs.Ytndapcbjcannhaa
open Go.ChangeShapes Go.WideShapes Go.ChangeAt Go.RowKit Go.Joins

theorem im_of_trod {H : Type} {enc : TypeId × Value → H} {W : World} {fuel : Nat} {v : Value} {y : DataW H × List MemPlace}
    (hf : DataW.trod enc Try.prog W 0 (fun _ => true) true fuel 24 [v] = some y) : ∃ (A : Option Addr) (m c : Nat) (xs : List Bool), v = .slice A m c ∧ Im W A m c xs := by
  rcases Deep.open_bools Try.underlying24 Try.underlying4 cells4 hf with ⟨hcs, _⟩ | ⟨a, len', cap', Z, hcs, _, hl, hm, _, hcell⟩
  · simp only [List.cons.injEq, and_true] at hcs
    subst hcs
    exact ⟨none, 0, 0, [], rfl, fun k b hk => by simp at hk, rfl, fun _ => rfl⟩
  · simp only [List.cons.injEq, and_true] at hcs
    subst hcs
    refine ⟨some a, len', cap', (List.range len').map Z, rfl, fun k b hk => ?_, by simp, fun e => by cases e⟩
    have hlt : k < len' := by have := (List.getElem?_eq_some_iff.1 hk).1; simpa using this
    rw [List.getElem?_map, List.getElem?_range hlt] at hk
    simp only [Option.map_some, Option.some.injEq] at hk
    exact ⟨a, rfl, by rw [← hk]; exact hcell k (by omega)⟩

theorem open_im {H : Type} {enc : TypeId × Value → H} {W : World} {base : Nat} {v : Value} {d : DataW H} {p : List MemPlace}
    (hv : Value.okWide Try.prog W .any base 24 v) (h : DataW.Trod enc Try.prog W 0 (fun _ => true) true 24 v d p) :
    ∃ (A : Option Addr) (m c : Nat) (xs : List Bool), v = .slice A m c ∧ Im W A m c xs := by
  obtain ⟨A, xs, m, c, rfl, hx, hr, hc⟩ := open_img0 hv h
  exact ⟨A, m, c, xs, rfl, hr, hx, hc⟩

theorem open_state {H : Type} {enc : TypeId × Value → H} {W : World} {base : Nat} {v : Value} {d : DataW H} {p : List MemPlace}
    (hv : Value.okWide Try.prog W .any base 26 v) (h : DataW.Trod enc Try.prog W 0 (fun _ => true) true 26 v d p) :
    ∃ (A1 A2 A3 : Option Addr) (m1 m2 m3 c1 c2 c3 : Nat) (x1 x2 x3 : List Bool), v = .agg #[.slice A1 m1 c1, .slice A2 m2 c2, .slice A3 m3 c3] ∧ Im W A1 m1 c1 x1 ∧ Im W A2 m2 c2 x2 ∧ Im W A3 m3 c3 x3 := by
  obtain ⟨v0, v1, v2, y0, y1, y2, n, rfl, _, _, h0, h1, h2⟩ := open_agg3 Try.underlying26 (by kernel_rfl) (show Try.prog.cellsOf 26 = 3 by kernel_rfl) hv h
  obtain ⟨A1, m1, c1, x1, rfl, i1⟩ := im_of_trod h0
  obtain ⟨A2, m2, c2, x2, rfl, i2⟩ := im_of_trod h1
  obtain ⟨A3, m3, c3, x3, rfl, i3⟩ := im_of_trod h2
  exact ⟨_, _, _, _, _, _, _, _, _, x1, x2, x3, rfl, i1, i2, i3⟩

theorem int_of_trod {H : Type} {enc : TypeId × Value → H} {W : World} {fuel : Nat} {v : Value} {y : DataW H × List MemPlace}
    (hf : DataW.trod enc Try.prog W 0 (fun _ => true) true fuel 3 [v] = some y) : ∃ n, v = .int .i64 n ∧ (Lit.int .i64 n).wf = true := by
  obtain ⟨n, e, _, hw⟩ := DataW.trod_int Try.underlying3 hf
  simp only [List.cons.injEq, and_true] at e
  exact ⟨n, e, hw⟩
theorem open_size {H : Type} {enc : TypeId × Value → H} {W : World} {base : Nat} {v : Value} {d : DataW H} {p : List MemPlace}
    (hv : Value.okWide Try.prog W .any base 23 v) (h : DataW.Trod enc Try.prog W 0 (fun _ => true) true 23 v d p) :
    ∃ i q m e : Int, v = .agg #[.int .i64 i, .int .i64 q, .int .i64 m, .int .i64 e] := by
  obtain ⟨v0, v1, v2, v3, y0, y1, y2, y3, n, rfl, _, _, h0, h1, h2, h3⟩ := open_agg4 Try.underlying23 (by kernel_rfl) (show Try.prog.cellsOf 23 = 4 by kernel_rfl) hv h
  obtain ⟨i, rfl, _⟩ := int_of_trod h0
  obtain ⟨q, rfl, _⟩ := int_of_trod h1
  obtain ⟨m, rfl, _⟩ := int_of_trod h2
  obtain ⟨e, rfl, _⟩ := int_of_trod h3
  exact ⟨i, q, m, e, rfl⟩
theorem open_addr {H : Type} {enc : TypeId × Value → H} {W : World} {base : Nat} {v : Value} {d : DataW H} {p : List MemPlace}
    (hv : Value.okWide Try.prog W .any base 40 v) (h : DataW.Trod enc Try.prog W 0 (fun _ => true) true 40 v d p) :
    ∃ k n : Int, v = .agg #[.int .i64 k, .int .i64 n] := by
  obtain ⟨v0, v1, y0, y1, n, rfl, _, _, h0, h1⟩ := open_agg2 Try.underlying40 (by kernel_rfl) (show Try.prog.cellsOf 40 = 2 by kernel_rfl) hv h
  obtain ⟨k, rfl, _⟩ := int_of_trod h0
  obtain ⟨n, rfl, _⟩ := int_of_trod h1
  exact ⟨k, n, rfl⟩
theorem four_of {α : Type} {l : List α} (h : l.length = 4) : ∃ a b c d, l = [a, b, c, d] := by
  match l, h with
  | [a, b, c, d], _ => exact ⟨a, b, c, d, rfl⟩
theorem two_of {α : Type} {l : List α} (h : l.length = 2) : ∃ a b, l = [a, b] := by
  match l, h with
  | [a, b], _ => exact ⟨a, b, rfl⟩
theorem open_two {H : Type} {enc : TypeId × Value → H} {W : World} {base : Nat} {v : Value} {d : DataW H} {p : List MemPlace}
    (hv : Value.okWide Try.prog W .any base 48 v) (h : DataW.Trod enc Try.prog W 0 (fun _ => true) true 48 v d p) :
    ∃ k n k' n' : Int, v = .agg #[.int .i64 k, .int .i64 n, .int .i64 k', .int .i64 n'] := by
  simp only [Value.okWide, Try.underlying48] at hv
  obtain ⟨cs, rfl, hsz, _⟩ := hv
  obtain ⟨fuel, hf⟩ := h
  obtain ⟨xs, m1, rfl, hx1, hlen, hn2, hel⟩ := DataW.trod_array Try.underlying48 hf
  have hc : Try.prog.cellsOf 40 = 2 := by kernel_rfl
  rw [hc] at hel
  have hl4 : cs.toList.length = 4 := by have : Try.prog.cellsOf 48 = 4 := by kernel_rfl
                                        simpa [this] using hsz
  obtain ⟨a, b, c, d, hcs⟩ := four_of hl4
  obtain ⟨x0, x1, rfl⟩ := two_of hn2
  have harr : cs = #[a, b, c, d] := by rw [← Array.toArray_toList (xs := cs), hcs]
  subst harr
  have e0 : DataW.trod enc Try.prog W 0 (fun _ => true) true m1 40 [a, b] = some x0 := hel 0 (by decide)
  have e1 : DataW.trod enc Try.prog W 0 (fun _ => true) true m1 40 [c, d] = some x1 := hel 1 (by decide)
  obtain ⟨_, _, _, _, _, f0, f1⟩ := trod_struct2 Try.underlying40 e0
  obtain ⟨_, _, _, _, _, f2, f3⟩ := trod_struct2 Try.underlying40 e1
  obtain ⟨k, rfl, _⟩ := int_of_trod f0
  obtain ⟨n, rfl, _⟩ := int_of_trod f1
  obtain ⟨k', rfl, _⟩ := int_of_trod f2
  obtain ⟨n', rfl, _⟩ := int_of_trod f3
  exact ⟨k, n, k', n', rfl⟩
theorem open_four {H : Type} {enc : TypeId × Value → H} {W : World} {base : Nat} {v : Value} {d : DataW H} {p : List MemPlace}
    (hv : Value.okWide Try.prog W .any base 52 v) (h : DataW.Trod enc Try.prog W 0 (fun _ => true) true 52 v d p) :
    ∃ a b c e : Nat, v = .agg #[.int .u16 a, .int .u16 b, .int .u16 c, .int .u16 e] ∧ (a < 65536 ∧ b < 65536 ∧ c < 65536 ∧ e < 65536) := by
  simp only [Value.okWide, Try.underlying52] at hv
  obtain ⟨cs, rfl, hsz, _⟩ := hv
  obtain ⟨fuel, hf⟩ := h
  obtain ⟨xs, m1, rfl, hx1, hlen, hn2, hel⟩ := DataW.trod_array Try.underlying52 hf
  have hc : Try.prog.cellsOf 51 = 1 := by kernel_rfl
  rw [hc] at hel
  have hl4 : cs.toList.length = 4 := by have : Try.prog.cellsOf 52 = 4 := by kernel_rfl
                                        simpa [this] using hsz
  obtain ⟨a, b, c, d, hcs⟩ := four_of hl4
  obtain ⟨x0, x1, x2, x3, rfl⟩ := four_of hn2
  have harr : cs = #[a, b, c, d] := by rw [← Array.toArray_toList (xs := cs), hcs]
  subst harr
  obtain ⟨n0, e0, _, w0⟩ := DataW.trod_int Try.underlying51 (hel 0 (by decide))
  obtain ⟨n1, e1, _, w1⟩ := DataW.trod_int Try.underlying51 (hel 1 (by decide))
  obtain ⟨n2, e2, _, w2⟩ := DataW.trod_int Try.underlying51 (hel 2 (by decide))
  obtain ⟨n3, e3, _, w3⟩ := DataW.trod_int Try.underlying51 (hel 3 (by decide))
  simp [Value.cells] at e0 e1 e2 e3
  subst e0 e1 e2 e3
  have b0 := bounds_u16 w0
  have b1 := bounds_u16 w1
  have b2 := bounds_u16 w2
  have b3 := bounds_u16 w3
  refine ⟨n0.toNat, n1.toNat, n2.toNat, n3.toNat, ?_, by omega⟩
  rw [Int.toNat_of_nonneg b0.1, Int.toNat_of_nonneg b1.1, Int.toNat_of_nonneg b2.1, Int.toNat_of_nonneg b3.1]
theorem open_bools2 {H : Type} {enc : TypeId × Value → H} {W : World} {base : Nat} {v : Value} {d : DataW H} {p : List MemPlace}
    (hv : Value.okWide Try.prog W .any base 55 v) (h : DataW.Trod enc Try.prog W 0 (fun _ => true) true 55 v d p) :
    ∃ a b : Bool, v = .agg #[.bool a, .bool b] := by
  simp only [Value.okWide, Try.underlying55] at hv
  obtain ⟨cs, rfl, hsz, _⟩ := hv
  obtain ⟨fuel, hf⟩ := h
  obtain ⟨xs, m1, rfl, hx1, hlen, hn2, hel⟩ := DataW.trod_array Try.underlying55 hf
  rw [cells4] at hel
  have hl2 : cs.toList.length = 2 := by have : Try.prog.cellsOf 55 = 2 := by kernel_rfl
                                        simpa [this] using hsz
  obtain ⟨a, b, hcs⟩ := two_of hl2
  obtain ⟨x0, x1, rfl⟩ := two_of hn2
  have harr : cs = #[a, b] := by rw [← Array.toArray_toList (xs := cs), hcs]
  subst harr
  obtain ⟨n0, e0, _⟩ := DataW.trod_bool Try.underlying4 (hel 0 (by decide))
  obtain ⟨n1, e1, _⟩ := DataW.trod_bool Try.underlying4 (hel 1 (by decide))
  simp [Value.cells] at e0 e1
  subst e0 e1
  exact ⟨n0, n1, rfl⟩
end Go.Proofs.Ytndapcbjcannhaa
