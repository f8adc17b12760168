/- How a program with its sizes reads among a law's arguments. No condition. -/
import Derived.Test.YtdiamajkfbejhaaDoorINE
import Derived.Test.YtdiamajkfbejhaaDoorIN4
namespace Go.Proofs.YtdiamajkfbejhaaDoor
open Go.ChangeShapes Go.WideShapes Go.ChangeAt Go.RowKit Go.Joins

theorem cellsPrg : Tryd.prog.cellsOf 26 = 5 := by kernel_rfl
theorem cellsSize7 : Tryd.prog.cellsOf 23 = 4 := by kernel_rfl
theorem cellsCode7 : Tryd.prog.cellsOf 24 = 1 := by kernel_rfl
theorem five_of {α : Type} {l : List α} (h : l.length = 5) : ∃ a b c d e, l = [a, b, c, d, e] := by
  match l, h with
  | [a, b, c, d, e], _ => exact ⟨a, b, c, d, e, rfl⟩
set_option maxRecDepth 100000 in
theorem code_of_trod {H : Type} {enc : TypeId × Value → H} {W : World} {fuel : Nat} {v : Value} {y : DataW H × List MemPlace}
    (hf : DataW.trod enc Tryd.prog W 0 (fun _ => true) true fuel 24 [v] = some y) :
    ∃ (A : Option Addr) (code : List In4) (m c : Nat), v = .slice A m c ∧ (code.length = m ∧ m ≤ maxLen) ∧ RdC W A code ∧ (m ≤ c ∧ (A = none → c = 0)) := by
  rcases Deep.open_slice Tryd.underlying24 hf with ⟨hcs, _⟩ | ⟨a, len', cap', m', n', D, Pl, hcs, _, hl, hm, hmm, _, hx⟩
  · simp at hcs
    subst hcs
    exact ⟨none, [], 0, 0, rfl, ⟨rfl, Nat.zero_le _⟩, fun k a hk => by simp at hk, ⟨Nat.le_refl _, fun _ => rfl⟩⟩
  · simp at hcs
    subst hcs
    have hlm : len' ≤ m' := by rw [hmm]; simp; exact hl
    have each : ∀ i, i < len' → ∃ x : In4, W.cell? (a.add (i * 4)) = some (.int .i64 x.op) ∧ W.cell? (a.add (i * 4 + 1)) = some (.int .i64 x.k) ∧ W.cell? (a.add (i * 4 + 2)) = some (.int .i64 x.n) ∧ W.cell? (a.add (i * 4 + 3)) = some (.int .i64 x.t) := by
      intro i hi
      obtain ⟨cs', g1, g2⟩ := hx i (by omega)
      rw [cellsIns6] at g1
      obtain ⟨_, hlen, hcell⟩ := World.cells?_some g1
      obtain ⟨y0, y1, y2, m, _, _, h0, h1, h2⟩ := Go.Deep.trod_struct3 Tryd.underlying46 g2
      obtain ⟨b0, b1, b2, b3, rfl⟩ := four_of hlen
      obtain ⟨n0, e0, _, _⟩ := Go.DataW.trod_int Tryd.underlying3 h0
      obtain ⟨z0, z1, m1, _, _, q0, q1⟩ := trod_struct2 Tryd.underlying44 h1
      obtain ⟨n1, e1, _, _⟩ := Go.DataW.trod_int Tryd.underlying3 q0
      obtain ⟨n2, e2, _, _⟩ := Go.DataW.trod_int Tryd.underlying3 q1
      obtain ⟨n3, e3, _, _⟩ := Go.DataW.trod_int Tryd.underlying3 h2
      rw [cells36] at e0 e1 e2 e3
      rw [cellsAddr6] at e1 e2
      simp at e0 e1 e2 e3
      subst e0 e1 e2 e3
      have c0 := hcell 0 (by omega)
      have c1 := hcell 1 (by omega)
      have c2 := hcell 2 (by omega)
      have c3 := hcell 3 (by omega)
      rw [Addr.add_add] at c0 c1 c2 c3
      exact ⟨⟨n0, n1, n2, n3⟩, c0, c1, c2, c3⟩
    obtain ⟨q, hq⟩ := Deep.choose_lt each
    refine ⟨some a, (List.range len').map q, len', cap', rfl, ⟨by simp, Nat.le_trans hl hm⟩, fun k x hk => ?_, ⟨hl, fun e => by cases e⟩⟩
    have hlt : k < len' := by have := (List.getElem?_eq_some_iff.1 hk).1; simpa using this
    rw [List.getElem?_map, List.getElem?_range hlt] at hk
    simp only [Option.map_some, Option.some.injEq] at hk
    subst hk
    exact ⟨a, rfl, hq k hlt⟩
set_option maxRecDepth 100000 in
theorem open_prog {H : Type} {enc : TypeId × Value → H} {W : World} {base : Nat} {v : Value} {d : DataW H} {p : List MemPlace}
    (hv : Value.okWide Tryd.prog W .any base 26 v) (h : DataW.Trod enc Tryd.prog W 0 (fun _ => true) true 26 v d p) :
    ∃ (i q m e : Int) (A : Option Addr) (code : List In4) (n c : Nat), v = pgV i q m e A n c ∧ (code.length = n ∧ n ≤ maxLen) ∧ RdC W A code ∧ (n ≤ c ∧ (A = none → c = 0)) := by
  simp only [Value.okWide, Tryd.underlying26] at hv
  obtain ⟨cs, rfl, hsz, hcs'⟩ := hv
  obtain ⟨fuel, hf⟩ := h
  obtain ⟨y0, y1, m, hx, hlen, h0, h1⟩ := trod_struct2 Tryd.underlying26 hf
  have hl : cs.toList.length = 5 := by simpa [cellsPrg] using hsz
  obtain ⟨a, b, c, d, e, hcs⟩ := five_of hl
  have harr : cs = #[a, b, c, d, e] := by rw [← Array.toArray_toList (xs := cs), hcs]
  subst harr
  simp only [Value.cells] at h0 h1
  rw [cellsSize7] at h0
  rw [cellsCode7] at h1
  obtain ⟨z0, z1, z2, z3, m', _, _, q0, q1, q2, q3⟩ := trod_struct4 Tryd.underlying23 h0
  obtain ⟨n0, e0, _, _⟩ := Go.DataW.trod_int Tryd.underlying3 q0
  obtain ⟨n1, e1, _, _⟩ := Go.DataW.trod_int Tryd.underlying3 q1
  obtain ⟨n2, e2, _, _⟩ := Go.DataW.trod_int Tryd.underlying3 q2
  obtain ⟨n3, e3, _, _⟩ := Go.DataW.trod_int Tryd.underlying3 q3
  rw [cells36] at e0 e1 e2 e3
  simp at e0 e1 e2 e3
  subst e0 e1 e2 e3
  obtain ⟨A, code, n, c', rfl, hl, hr, hn⟩ := code_of_trod (v := e) h1
  exact ⟨n0, n1, n2, n3, A, code, n, c', rfl, hl, hr, hn⟩
end Go.Proofs.YtdiamajkfbejhaaDoor
