/- What package state's Clone and New return. Conditions: images that read as lists of bools, of at most a million. -/
import Derived.Test.YtndapcbjcannhaaS2
namespace Go.Proofs.Ytndapcbjcannhaa
open Go.RowKit

/-- A state of the call's own: three rows of bools, in three blocks. -/
def OwS (w : World) (base : Nat) (v : Value) (m1 m2 m3 : Nat) (x1 x2 x3 : List Bool) : Prop :=
  ∃ g1 g2 g3 c1 c2 c3, v = .agg #[.slice (some ⟨g1, 0, none⟩) m1 c1, .slice (some ⟨g2, 0, none⟩) m2 c2, .slice (some ⟨g3, 0, none⟩) m3 c3] ∧ (g1 < g2 ∧ g2 < g3) ∧ (OwB w base g1 c1 x1 ∧ x1.length = m1) ∧ (OwB w base g2 c2 x2 ∧ x2.length = m2) ∧ (OwB w base g3 c3 x3 ∧ x3.length = m3)

set_option maxHeartbeats 1600000 in
set_option maxRecDepth 100000 in
theorem clone_ok (A1 A2 A3 : Option Addr) (m1 m2 m3 c1 c2 c3 : Nat) (x1 x2 x3 : List Bool) (hm1 : m1 ≤ 1000000) (hm2 : m2 ≤ 1000000) (hm3 : m3 ≤ 1000000) (w : World)
    (hx1 : Im w A1 m1 c1 x1) (hx2 : Im w A2 m2 c2 x2) (hx3 : Im w A3 m3 c3 x3) :
    Calls Try.prog 12 #[.agg #[.slice A1 m1 c1, .slice A2 m2 c2, .slice A3 m3 c3]] w fun e w' => ∃ v, e = .returned v ∧ OwS w' w.heap.size v m1 m2 m3 x1 x2 x3 ∧ Nx w w' := by
  have L1 := Lib.hid hx1.2.1
  have L2 := Lib.hid hx2.2.1
  have L3 := Lib.hid hx3.2.1
  have C1 := Lib.hid (fun w' (k : Nx w w') => copyOf_ok A1 x1 m1 c1 hx1.2.1 hm1 w' (hx1.1.nx k))
  have C2 := Lib.hid (fun w' (k : Nx w w') => copyOf_ok A2 x2 m2 c2 hx2.2.1 hm2 w' (hx2.1.nx k))
  have C3 := Lib.hid (fun w' (k : Nx w w') => copyOf_ok A3 x3 m3 c3 hx3.2.1 hm3 w' (hx3.1.nx k))
  clear hx1 hx2 hx3
  have N0 := Lib.hid (show Nx w ((w.alloc (.cells #[.slice A1 m1 c1, .slice A2 m2 c2, .slice A3 m3 c3] 26)).alloc (.cells #[.slice none 0 0, .slice none 0 0, .slice none 0 0] 26)) from (Nx.one _ _).alloc _)
  have XR := Lib.hid (bx_new (w.alloc (.cells #[.slice A1 m1 c1, .slice A2 m2 c2, .slice A3 m3 c3] 26)) 26 [.slice none 0 0, .slice none 0 0, .slice none 0 0])
  rw [show (w.alloc (.cells #[.slice A1 m1 c1, .slice A2 m2 c2, .slice A3 m3 c3] 26)).heap.size = w.heap.size + 1 by simp] at XR
  go_enter Try.func12, Try.ntmps12
  go_wp2_with fail
  refine (imagesOf_any _ _ _ _ _ _ _ _ _ _).mono ?_
  rintro e w1 ⟨rfl, h1⟩
  have XR1 := Lib.hid (XR.out.nx (h1.alloc (.cells #[.slice A1 m1 c1, .slice A2 m2 c2, .slice A3 m3 c3] 60)))
  have XB1 := Lib.hid (bx_new w1 60 [.slice A1 m1 c1, .slice A2 m2 c2, .slice A3 m3 c3])
  have H1 := Lib.hid ((N0.out.trans h1).alloc (.cells #[.slice A1 m1 c1, .slice A2 m2 c2, .slice A3 m3 c3] 60))
  have B1 := Lib.hid (show w.heap.size + 2 ≤ w1.heap.size by have := h1.size; simpa using this)
  clear h1
  go_wp2_with fail
  refine wp_loop_rounds 4 ?_
  rw [rounds_succ]
  go_wp2_with fail
  refine (C1.out _ H1.out).mono ?_
  rintro e w2 ⟨a1, rfl, o1, h2⟩
  have Y1 := Lib.hid (XB1.out.nx h2)
  have g1 := Y1.out.cell 0 rfl
  have f1 := Y1.out.frozen 0
  have D1 := Lib.hid (show w1.heap.size < a1 by have h1 := o1.base_le; have h2 := XB1.out.lt; omega)
  have XB2 := Lib.hid (Y1.out.put 0 (.slice (some ⟨a1, 0, none⟩) m1 m1))
  have XR2 := Lib.hid ((XR1.out.nx h2).far (b := w1.heap.size) (i := 0) (o := none) (by have := B1.out; omega) (.slice (some ⟨a1, 0, none⟩) m1 m1))
  have H2 := Lib.hid ((H1.out.trans h2).set (g := w1.heap.size) (i := 0) (o := none) (by have := B1.out; omega) (.slice (some ⟨a1, 0, none⟩) m1 m1))
  have O11 := Lib.hid ((o1.low H1.out.size).far (b := w1.heap.size) (i := 0) (o := none) (by have := D1.out; omega) (.slice (some ⟨a1, 0, none⟩) m1 m1))
  clear h2 o1
  have g1' := XB2.out.cell 1 rfl
  go_wp2
  clear g1 f1
  rw [rounds_succ]
  go_wp2_with fail
  clear g1'
  refine (C2.out _ H2.out).mono ?_
  rintro e w3 ⟨a2, rfl, o2, h3⟩
  have Y2 := Lib.hid (XB2.out.nx h3)
  have g2 := Y2.out.cell 1 rfl
  have f2 := Y2.out.frozen 1
  have D2 := Lib.hid (show w1.heap.size < a2 by have h1 := o2.base_le; have h2 := XB2.out.lt; omega)
  have P12 := Lib.hid (show a1 < a2 by have h1 := o2.base_le; have h2 := (World.ownsRow.lt O11.out a1 rfl).2; omega)
  have XB3 := Lib.hid (Y2.out.put 1 (.slice (some ⟨a2, 0, none⟩) m2 m2))
  have XR3 := Lib.hid ((XR2.out.nx h3).far (b := w1.heap.size) (i := 1) (o := none) (by have := B1.out; omega) (.slice (some ⟨a2, 0, none⟩) m2 m2))
  have H3 := Lib.hid ((H2.out.trans h3).set (g := w1.heap.size) (i := 1) (o := none) (by have := B1.out; omega) (.slice (some ⟨a2, 0, none⟩) m2 m2))
  have O12 := Lib.hid ((O11.out.nx h3).far (b := w1.heap.size) (i := 1) (o := none) (by have := D1.out; omega) (.slice (some ⟨a2, 0, none⟩) m2 m2))
  have O22 := Lib.hid ((o2.low H2.out.size).far (b := w1.heap.size) (i := 1) (o := none) (by have := D2.out; omega) (.slice (some ⟨a2, 0, none⟩) m2 m2))
  clear h3 o2
  have g2' := XB3.out.cell 2 rfl
  go_wp2
  clear g2 f2
  rw [rounds_succ]
  go_wp2_with fail
  clear g2'
  refine (C3.out _ H3.out).mono ?_
  rintro e w4 ⟨a3, rfl, o3, h4⟩
  have Y3 := Lib.hid (XB3.out.nx h4)
  have g3 := Y3.out.cell 2 rfl
  have f3 := Y3.out.frozen 2
  have D3 := Lib.hid (show w1.heap.size < a3 by have h1 := o3.base_le; have h2 := XB3.out.lt; omega)
  have P13 := Lib.hid (show a1 < a3 by have h1 := o3.base_le; have h2 := (World.ownsRow.lt O12.out a1 rfl).2; omega)
  have P23 := Lib.hid (show a2 < a3 by have h1 := o3.base_le; have h2 := (World.ownsRow.lt O22.out a2 rfl).2; omega)
  have XB4 := Lib.hid (Y3.out.put 2 (.slice (some ⟨a3, 0, none⟩) m3 m3))
  have XR4 := Lib.hid ((XR3.out.nx h4).far (b := w1.heap.size) (i := 2) (o := none) (by have := B1.out; omega) (.slice (some ⟨a3, 0, none⟩) m3 m3))
  have H4 := Lib.hid ((H3.out.trans h4).set (g := w1.heap.size) (i := 2) (o := none) (by have := B1.out; omega) (.slice (some ⟨a3, 0, none⟩) m3 m3))
  have O13 := Lib.hid ((O12.out.nx h4).far (b := w1.heap.size) (i := 2) (o := none) (by have := D1.out; omega) (.slice (some ⟨a3, 0, none⟩) m3 m3))
  have O23 := Lib.hid ((O22.out.nx h4).far (b := w1.heap.size) (i := 2) (o := none) (by have := D2.out; omega) (.slice (some ⟨a3, 0, none⟩) m3 m3))
  have O33 := Lib.hid ((o3.low H3.out.size).far (b := w1.heap.size) (i := 2) (o := none) (by have := D3.out; omega) (.slice (some ⟨a3, 0, none⟩) m3 m3))
  clear h4 o3
  have u1 := XB4.out.cell 0 rfl
  have u2 := XB4.out.cell 1 rfl
  have u3 := XB4.out.cell 2 rfl
  go_wp2
  clear g3 f3
  rw [rounds_succ]
  go_wp2_with fail
  clear u1 u2 u3
  refine (stateOf_any _ _ _ _ _ _ _ _ _ _).mono ?_
  rintro e w5 ⟨rfl, h5⟩
  have XR5 := Lib.hid (XR4.out.nx h5)
  have r1 := XR5.out.cell 0 rfl
  have r2 := XR5.out.cell 1 rfl
  have r3 := XR5.out.cell 2 rfl
  have q1 := XR5.out.frozen 0
  have q2 := XR5.out.frozen 1
  have q3 := XR5.out.frozen 2
  have O1 := Lib.hid (O13.out.nx h5)
  have O2 := Lib.hid (O23.out.nx h5)
  have O3 := Lib.hid (O33.out.nx h5)
  have H5 := Lib.hid (H4.out.trans h5)
  clear h5
  have Z1 := XR5.out.put 0 (.slice (some ⟨a1, 0, none⟩) m1 m1)
  have Z2 := Z1.put 1 (.slice (some ⟨a2, 0, none⟩) m2 m2)
  have Z3 := Z2.put 2 (.slice (some ⟨a3, 0, none⟩) m3 m3)
  have z1 := Z1.cell 0 rfl
  have z2 := Z2.cell 1 rfl
  have z3 := Z3.cell 2 rfl
  clear Z1 Z2 Z3
  go_wp2
  try simp only [Exit.inBlock, Exit.then]
  refine bodyPost_ret (by simp [results, Try.results12, go_sem, z1, z2, z3]; try rfl) rfl ?_
  have b1 := B1.out
  have d1 := D1.out
  have d2 := D2.out
  have d3 := D3.out
  exact ⟨_, rfl, ⟨a1, a2, a3, m1, m2, m3, rfl, ⟨P12.out, P23.out⟩,
    ⟨((O1.out.far (by omega) _).far (by omega) _).far (by omega) _, L1.out⟩, ⟨((O2.out.far (by omega) _).far (by omega) _).far (by omega) _, L2.out⟩, ⟨((O3.out.far (by omega) _).far (by omega) _).far (by omega) _, L3.out⟩⟩,
    ((H5.out.set (by omega) _).set (by omega) _).set (by omega) _⟩
end Go.Proofs.Ytndapcbjcannhaa
