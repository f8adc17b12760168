/- What package state's New, Fits, Equal and Clone return, and the reference's. What package state's Fits returns, and the reference's Fits and Equal. What package state's Clone and New return. What package state's New returns. What the reference's Clone returns. What the reference's New returns. What package state's Read returns, and the reference's. What package state's Write returns. What package state's Write returns, all cases. What the reference's Write returns. What TooLarge returns. What the reference's Write returns, all cases. Conditions: as each theorem states them. -/
import Derived.Test.YtdpccnpaajhliaaMA
import Derived.LoopN
import Derived.Deep.QuietTactic
import Derived.BigQuiet
import Derived.Deep.RegionHeld3
namespace Go.Proofs.Ytdpccnpaajhliaa
section
open Go.RowKit

theorem imRefEqual_any {w : World} {A B : Option Addr} {m c n d : Nat} {x y : List Bool} (hm : m ≤ 1000000) (hx : Im w A m c x) (hy : Im w B n d y) :
    Calls Try.prog 15 #[.slice A m c, .slice B n d] w fun e w' => e = .returned (.bool (eqB x y)) ∧ Nx w w' :=
  refEqual_any A B x y m n c d hx.2.1 hy.2.1 hm w hx.1 hy.1
end
section
open Go.RowKit

def fitsB (si sq sm se : Int) (l1 l2 l3 : Nat) : Bool := decide (((0 ≤ si ∧ si ≤ 256) ∧ (0 ≤ sq ∧ sq ≤ 256) ∧ (0 ≤ sm ∧ sm ≤ 256) ∧ (0 ≤ se ∧ se ≤ 16384)) ∧ (l1 : Int) = sq ∧ (l2 : Int) = sm ∧ (l3 : Int) = se)
theorem fits_yes {si sq sm se : Int} {l1 l2 l3 : Nat} (h : sizeOK si sq sm se ∧ (l1 : Int) = sq ∧ (l2 : Int) = sm ∧ (l3 : Int) = se) : fitsB si sq sm se l1 l2 l3 = true := by unfold sizeOK at h; exact decide_eq_true h
theorem fits_no {si sq sm se : Int} {l1 l2 l3 : Nat} (h : ¬ (sizeOK si sq sm se ∧ (l1 : Int) = sq ∧ (l2 : Int) = sm ∧ (l3 : Int) = se)) : fitsB si sq sm se l1 l2 l3 = false := by unfold sizeOK at h; exact decide_eq_false h

set_option maxHeartbeats 1600000 in
set_option maxRecDepth 100000 in
theorem stRefEqual_any (A1 A2 A3 : Option Addr) (m1 m2 m3 c1 c2 c3 : Nat) (B1 B2 B3 : Option Addr) (n1 n2 n3 d1 d2 d3 : Nat) (x1 x2 x3 y1 y2 y3 : List Bool) (hm1 : m1 ≤ 1000000) (hm2 : m2 ≤ 1000000) (hm3 : m3 ≤ 1000000) (w : World)
    (hx1 : Im w A1 m1 c1 x1) (hx2 : Im w A2 m2 c2 x2) (hx3 : Im w A3 m3 c3 x3) (hy1 : Im w B1 n1 d1 y1) (hy2 : Im w B2 n2 d2 y2) (hy3 : Im w B3 n3 d3 y3) :
    Calls Try.prog 8 #[.agg #[.slice A1 m1 c1, .slice A2 m2 c2, .slice A3 m3 c3], .agg #[.slice B1 n1 d1, .slice B2 n2 d2, .slice B3 n3 d3]] w fun e w' => e = .returned (.bool (eqB x1 y1 && eqB x2 y2 && eqB x3 y3)) ∧ Nx w w' := by
  have E1 := Lib.hid (fun w' (k : Nx w w') => imRefEqual_any hm1 (hx1.nx k) (hy1.nx k))
  have E2 := Lib.hid (fun w' (k : Nx w w') => imRefEqual_any hm2 (hx2.nx k) (hy2.nx k))
  have E3 := Lib.hid (fun w' (k : Nx w w') => imRefEqual_any hm3 (hx3.nx k) (hy3.nx k))
  generalize eqB x1 y1 = b1 at *
  generalize eqB x2 y2 = b2 at *
  generalize eqB x3 y3 = b3 at *
  clear hx1 hx2 hx3 hy1 hy2 hy3
  have N0 := Lib.hid (show Nx w ((w.alloc (.cells #[.slice A1 m1 c1, .slice A2 m2 c2, .slice A3 m3 c3] 31)).alloc (.cells #[.slice B1 n1 d1, .slice B2 n2 d2, .slice B3 n3 d3] 31)) from (Nx.one _ _).alloc _)
  have XA := Lib.hid ((bx_new w 31 [.slice A1 m1 c1, .slice A2 m2 c2, .slice A3 m3 c3]).nx (Nx.one _ (.cells #[.slice B1 n1 d1, .slice B2 n2 d2, .slice B3 n3 d3] 31)))
  have XB := Lib.hid (bx_new (w.alloc (.cells #[.slice A1 m1 c1, .slice A2 m2 c2, .slice A3 m3 c3] 31)) 31 [.slice B1 n1 d1, .slice B2 n2 d2, .slice B3 n3 d3])
  rw [show (w.alloc (.cells #[.slice A1 m1 c1, .slice A2 m2 c2, .slice A3 m3 c3] 31)).heap.size = w.heap.size + 1 by simp] at XB
  go_enter Try.func8, Try.ntmps8
  go_wp2_with fail
  refine (E1.out _ N0.out).mono ?_
  rintro e w1 ⟨rfl, h1⟩
  have H1 := Lib.hid (N0.out.trans h1)
  have XA1 := Lib.hid (XA.out.nx h1)
  have XB1 := Lib.hid (XB.out.nx h1)
  clear h1
  cases b1
  · go_wp2
    go_ret
    exact ⟨rfl, H1.out⟩
  have a1 := XA1.out.cell 1 rfl
  have b1 := XB1.out.cell 1 rfl
  go_wp2_with fail
  refine (E2.out _ H1.out).mono ?_
  rintro e w2 ⟨rfl, h2⟩
  have H2 := Lib.hid (H1.out.trans h2)
  have a2 := (XA1.out.nx h2).cell 2 rfl
  have b2' := (XB1.out.nx h2).cell 2 rfl
  clear h2 a1 b1
  cases b2
  · go_wp2
    go_ret
    exact ⟨rfl, H2.out⟩
  go_wp2_with fail
  refine (E3.out _ H2.out).mono ?_
  rintro e w3 ⟨rfl, h3⟩
  have H3 := Lib.hid (H2.out.trans h3)
  clear h3 a2 b2'
  go_wp2
  go_ret
  exact ⟨by simp, H3.out⟩
end
section
open Go.RowKit

/-- A state of the call's own: three rows of bools, in three blocks. -/
def OwS (w : World) (base : Nat) (v : Value) (m1 m2 m3 : Nat) (x1 x2 x3 : List Bool) : Prop :=
  ∃ g1 g2 g3 c1 c2 c3, v = .agg #[.slice (some ⟨g1, 0, none⟩) m1 c1, .slice (some ⟨g2, 0, none⟩) m2 c2, .slice (some ⟨g3, 0, none⟩) m3 c3] ∧ (g1 < g2 ∧ g2 < g3) ∧ (OwB w base g1 c1 x1 ∧ x1.length = m1) ∧ (OwB w base g2 c2 x2 ∧ x2.length = m2) ∧ (OwB w base g3 c3 x3 ∧ x3.length = m3)

set_option maxHeartbeats 1600000 in
set_option maxRecDepth 100000 in
theorem clone_ok (A1 A2 A3 : Option Addr) (m1 m2 m3 c1 c2 c3 : Nat) (x1 x2 x3 : List Bool) (hm1 : m1 ≤ 1000000) (hm2 : m2 ≤ 1000000) (hm3 : m3 ≤ 1000000) (w : World)
    (hx1 : Im w A1 m1 c1 x1) (hx2 : Im w A2 m2 c2 x2) (hx3 : Im w A3 m3 c3 x3) :
    Calls Try.prog 22 #[.agg #[.slice A1 m1 c1, .slice A2 m2 c2, .slice A3 m3 c3]] w fun e w' => ∃ v, e = .returned v ∧ OwS w' w.heap.size v m1 m2 m3 x1 x2 x3 ∧ Nx w w' := by
  have L1 := Lib.hid hx1.2.1
  have L2 := Lib.hid hx2.2.1
  have L3 := Lib.hid hx3.2.1
  have C1 := Lib.hid (fun w' (k : Nx w w') => copyOf_ok A1 x1 m1 c1 hx1.2.1 hm1 w' (hx1.1.nx k))
  have C2 := Lib.hid (fun w' (k : Nx w w') => copyOf_ok A2 x2 m2 c2 hx2.2.1 hm2 w' (hx2.1.nx k))
  have C3 := Lib.hid (fun w' (k : Nx w w') => copyOf_ok A3 x3 m3 c3 hx3.2.1 hm3 w' (hx3.1.nx k))
  clear hx1 hx2 hx3
  have N0 := Lib.hid (show Nx w ((w.alloc (.cells #[.slice A1 m1 c1, .slice A2 m2 c2, .slice A3 m3 c3] 31)).alloc (.cells #[.slice none 0 0, .slice none 0 0, .slice none 0 0] 31)) from (Nx.one _ _).alloc _)
  have XR := Lib.hid (bx_new (w.alloc (.cells #[.slice A1 m1 c1, .slice A2 m2 c2, .slice A3 m3 c3] 31)) 31 [.slice none 0 0, .slice none 0 0, .slice none 0 0])
  rw [show (w.alloc (.cells #[.slice A1 m1 c1, .slice A2 m2 c2, .slice A3 m3 c3] 31)).heap.size = w.heap.size + 1 by simp] at XR
  go_enter Try.func22, Try.ntmps22
  go_wp2_with fail
  refine (imagesOf_any _ _ _ _ _ _ _ _ _ _).mono ?_
  rintro e w1 ⟨rfl, h1⟩
  have XR1 := Lib.hid (XR.out.nx (h1.alloc (.cells #[.slice A1 m1 c1, .slice A2 m2 c2, .slice A3 m3 c3] 53)))
  have XB1 := Lib.hid (bx_new w1 53 [.slice A1 m1 c1, .slice A2 m2 c2, .slice A3 m3 c3])
  have H1 := Lib.hid ((N0.out.trans h1).alloc (.cells #[.slice A1 m1 c1, .slice A2 m2 c2, .slice A3 m3 c3] 53))
  have B1 := Lib.hid (show w.heap.size + 2 ≤ w1.heap.size by have := h1.size; simpa using this)
  clear h1
  go_wp2_with fail
  refine wp_loop_rounds 4 ?_
  rw [rounds_succ]
  go_wp2_with fail
  refine (C1.out _ H1.out).mono ?_
  rintro e w2 ⟨a1, rfl, o1, h2⟩
  have Y1 := Lib.hid (XB1.out.nx h2)
  have g1 := Y1.out.cell 0 rfl
  have f1 := Y1.out.frozen 0
  have D1 := Lib.hid (show w1.heap.size < a1 by have h1 := o1.base_le; have h2 := XB1.out.lt; omega)
  have XB2 := Lib.hid (Y1.out.put 0 (.slice (some ⟨a1, 0, none⟩) m1 m1))
  have XR2 := Lib.hid ((XR1.out.nx h2).far (b := w1.heap.size) (i := 0) (o := none) (by have := B1.out; omega) (.slice (some ⟨a1, 0, none⟩) m1 m1))
  have H2 := Lib.hid ((H1.out.trans h2).set (g := w1.heap.size) (i := 0) (o := none) (by have := B1.out; omega) (.slice (some ⟨a1, 0, none⟩) m1 m1))
  have O11 := Lib.hid ((o1.low H1.out.size).far (b := w1.heap.size) (i := 0) (o := none) (by have := D1.out; omega) (.slice (some ⟨a1, 0, none⟩) m1 m1))
  clear h2 o1
  have g1' := XB2.out.cell 1 rfl
  go_wp2
  clear g1 f1
  rw [rounds_succ]
  go_wp2_with fail
  clear g1'
  refine (C2.out _ H2.out).mono ?_
  rintro e w3 ⟨a2, rfl, o2, h3⟩
  have Y2 := Lib.hid (XB2.out.nx h3)
  have g2 := Y2.out.cell 1 rfl
  have f2 := Y2.out.frozen 1
  have D2 := Lib.hid (show w1.heap.size < a2 by have h1 := o2.base_le; have h2 := XB2.out.lt; omega)
  have P12 := Lib.hid (show a1 < a2 by have h1 := o2.base_le; have h2 := (World.ownsRow.lt O11.out a1 rfl).2; omega)
  have XB3 := Lib.hid (Y2.out.put 1 (.slice (some ⟨a2, 0, none⟩) m2 m2))
  have XR3 := Lib.hid ((XR2.out.nx h3).far (b := w1.heap.size) (i := 1) (o := none) (by have := B1.out; omega) (.slice (some ⟨a2, 0, none⟩) m2 m2))
  have H3 := Lib.hid ((H2.out.trans h3).set (g := w1.heap.size) (i := 1) (o := none) (by have := B1.out; omega) (.slice (some ⟨a2, 0, none⟩) m2 m2))
  have O12 := Lib.hid ((O11.out.nx h3).far (b := w1.heap.size) (i := 1) (o := none) (by have := D1.out; omega) (.slice (some ⟨a2, 0, none⟩) m2 m2))
  have O22 := Lib.hid ((o2.low H2.out.size).far (b := w1.heap.size) (i := 1) (o := none) (by have := D2.out; omega) (.slice (some ⟨a2, 0, none⟩) m2 m2))
  clear h3 o2
  have g2' := XB3.out.cell 2 rfl
  go_wp2
  clear g2 f2
  rw [rounds_succ]
  go_wp2_with fail
  clear g2'
  refine (C3.out _ H3.out).mono ?_
  rintro e w4 ⟨a3, rfl, o3, h4⟩
  have Y3 := Lib.hid (XB3.out.nx h4)
  have g3 := Y3.out.cell 2 rfl
  have f3 := Y3.out.frozen 2
  have D3 := Lib.hid (show w1.heap.size < a3 by have h1 := o3.base_le; have h2 := XB3.out.lt; omega)
  have P13 := Lib.hid (show a1 < a3 by have h1 := o3.base_le; have h2 := (World.ownsRow.lt O12.out a1 rfl).2; omega)
  have P23 := Lib.hid (show a2 < a3 by have h1 := o3.base_le; have h2 := (World.ownsRow.lt O22.out a2 rfl).2; omega)
  have XB4 := Lib.hid (Y3.out.put 2 (.slice (some ⟨a3, 0, none⟩) m3 m3))
  have XR4 := Lib.hid ((XR3.out.nx h4).far (b := w1.heap.size) (i := 2) (o := none) (by have := B1.out; omega) (.slice (some ⟨a3, 0, none⟩) m3 m3))
  have H4 := Lib.hid ((H3.out.trans h4).set (g := w1.heap.size) (i := 2) (o := none) (by have := B1.out; omega) (.slice (some ⟨a3, 0, none⟩) m3 m3))
  have O13 := Lib.hid ((O12.out.nx h4).far (b := w1.heap.size) (i := 2) (o := none) (by have := D1.out; omega) (.slice (some ⟨a3, 0, none⟩) m3 m3))
  have O23 := Lib.hid ((O22.out.nx h4).far (b := w1.heap.size) (i := 2) (o := none) (by have := D2.out; omega) (.slice (some ⟨a3, 0, none⟩) m3 m3))
  have O33 := Lib.hid ((o3.low H3.out.size).far (b := w1.heap.size) (i := 2) (o := none) (by have := D3.out; omega) (.slice (some ⟨a3, 0, none⟩) m3 m3))
  clear h4 o3
  have u1 := XB4.out.cell 0 rfl
  have u2 := XB4.out.cell 1 rfl
  have u3 := XB4.out.cell 2 rfl
  go_wp2
  clear g3 f3
  rw [rounds_succ]
  go_wp2_with fail
  clear u1 u2 u3
  refine (stateOf_any _ _ _ _ _ _ _ _ _ _).mono ?_
  rintro e w5 ⟨rfl, h5⟩
  have XR5 := Lib.hid (XR4.out.nx h5)
  have r1 := XR5.out.cell 0 rfl
  have r2 := XR5.out.cell 1 rfl
  have r3 := XR5.out.cell 2 rfl
  have q1 := XR5.out.frozen 0
  have q2 := XR5.out.frozen 1
  have q3 := XR5.out.frozen 2
  have O1 := Lib.hid (O13.out.nx h5)
  have O2 := Lib.hid (O23.out.nx h5)
  have O3 := Lib.hid (O33.out.nx h5)
  have H5 := Lib.hid (H4.out.trans h5)
  clear h5
  have Z1 := XR5.out.put 0 (.slice (some ⟨a1, 0, none⟩) m1 m1)
  have Z2 := Z1.put 1 (.slice (some ⟨a2, 0, none⟩) m2 m2)
  have Z3 := Z2.put 2 (.slice (some ⟨a3, 0, none⟩) m3 m3)
  have z1 := Z1.cell 0 rfl
  have z2 := Z2.cell 1 rfl
  have z3 := Z3.cell 2 rfl
  clear Z1 Z2 Z3
  go_wp2
  try simp only [Exit.inBlock, Exit.then]
  refine bodyPost_ret (by simp [results, Try.results22, go_sem, z1, z2, z3]; try rfl) rfl ?_
  have b1 := B1.out
  have d1 := D1.out
  have d2 := D2.out
  have d3 := D3.out
  exact ⟨_, rfl, ⟨a1, a2, a3, m1, m2, m3, rfl, ⟨P12.out, P23.out⟩,
    ⟨((O1.out.far (by omega) _).far (by omega) _).far (by omega) _, L1.out⟩, ⟨((O2.out.far (by omega) _).far (by omega) _).far (by omega) _, L2.out⟩, ⟨((O3.out.far (by omega) _).far (by omega) _).far (by omega) _, L3.out⟩⟩,
    ((H5.out.set (by omega) _).set (by omega) _).set (by omega) _⟩
end
section
open Go.RowKit

theorem made_own (w : World) (n : Nat) (hn : n ≤ 1000000) : OwB (w.alloc (.cells (madeCells #[.bool false] n) 4)) w.heap.size w.heap.size n (List.replicate n false) := by
  refine own_of_block (by simp) (Nat.le_refl _) ?_ hn
  rw [show (bools (List.replicate n false)).toArray = madeCells #[.bool false] n by rw [show bools (List.replicate n false) = List.replicate n (Value.bool false) by simp [bools], ← toList_madeCells_one]]
  exact heap_alloc_new w _
end
section
open Go.RowKit

/-- A state of the call's own, its images nil or not. -/
def OS (w : World) (B : Nat) (v : Value) (x1 x2 x3 : List Bool) : Prop := ∃ v1 v2 v3, v = .agg #[v1, v2, v3] ∧ Ow w B v1 x1 ∧ Ow w B v2 x2 ∧ Ow w B v3 x3
/-- Two rows that hold something lie in two blocks. -/
def Ap (u v : Value) (x y : List Bool) : Prop := x ≠ [] → y ≠ [] → u.ownBlock ≠ v.ownBlock
/-- .. its images apart. -/
def OD (w : World) (B : Nat) (v : Value) (x1 x2 x3 : List Bool) : Prop := ∃ v1 v2 v3, v = .agg #[v1, v2, v3] ∧ (Ow w B v1 x1 ∧ Ow w B v2 x2 ∧ Ow w B v3 x3) ∧ (Ap v1 v2 x1 x2 ∧ Ap v1 v3 x1 x3 ∧ Ap v2 v3 x2 x3)
theorem OD.os {w : World} {B : Nat} {v : Value} {x1 x2 x3 : List Bool} (h : OD w B v x1 x2 x3) : OS w B v x1 x2 x3 := by
  obtain ⟨v1, v2, v3, rfl, ⟨h1, h2, h3⟩, _⟩ := h
  exact ⟨v1, v2, v3, rfl, h1, h2, h3⟩
theorem OD.kept {w w' : World} {B b : Nat} {v : Value} {x1 x2 x3 : List Bool} (h : OD w B v x1 x2 x3) (hb : b < B) (k : w.grownBy w' (some b)) : OD w' B v x1 x2 x3 := by
  obtain ⟨v1, v2, v3, rfl, ⟨h1, h2, h3⟩, ha⟩ := h
  exact ⟨v1, v2, v3, rfl, ⟨h1.kept hb k, h2.kept hb k, h3.kept hb k⟩, ha⟩
theorem OD.nx {w w' : World} {B : Nat} {v : Value} {x1 x2 x3 : List Bool} (h : OD w B v x1 x2 x3) (k : Nx w w') : OD w' B v x1 x2 x3 := by
  obtain ⟨v1, v2, v3, rfl, ⟨h1, h2, h3⟩, ha⟩ := h
  exact ⟨v1, v2, v3, rfl, ⟨Ow.nx h1 k, Ow.nx h2 k, Ow.nx h3 k⟩, ha⟩
theorem OD.low {w : World} {B B' : Nat} {v : Value} {x1 x2 x3 : List Bool} (h : OD w B v x1 x2 x3) (hb : B' ≤ B) : OD w B' v x1 x2 x3 := by
  obtain ⟨v1, v2, v3, rfl, ⟨h1, h2, h3⟩, ha⟩ := h
  exact ⟨v1, v2, v3, rfl, ⟨own_low h1 hb, own_low h2 hb, own_low h3 hb⟩, ha⟩
/-- What lies in the heap and what is made later are apart. -/
theorem ap_of {w w' : World} {B : Nat} {u v : Value} {x y : List Bool} (hu : Ow w B u x) (hv : y ≠ [] → Ow w' w.heap.size v y) : Ap u v x y := by
  intro hx hy e
  obtain ⟨gu, cu, eu, _⟩ := owB_form hu (List.length_pos_iff.2 hx)
  obtain ⟨gv, cv, ev, ov⟩ := owB_form (hv hy) (List.length_pos_iff.2 hy)
  subst eu ev
  have h1 := (World.ownsRow.lt hu gu rfl).2
  have h2 := ov.base_le
  simp only [Value.ownBlock, Option.some.injEq] at e
  omega
theorem OS.kept {w w' : World} {B b : Nat} {v : Value} {x1 x2 x3 : List Bool} (h : OS w B v x1 x2 x3) (hb : b < B) (k : w.grownBy w' (some b)) : OS w' B v x1 x2 x3 := by
  obtain ⟨v1, v2, v3, rfl, h1, h2, h3⟩ := h
  exact ⟨v1, v2, v3, rfl, h1.kept hb k, h2.kept hb k, h3.kept hb k⟩

theorem OS.low {w : World} {B B' : Nat} {v : Value} {x1 x2 x3 : List Bool} (h : OS w B v x1 x2 x3) (hb : B' ≤ B) : OS w B' v x1 x2 x3 := by
  obtain ⟨v1, v2, v3, rfl, h1, h2, h3⟩ := h
  exact ⟨v1, v2, v3, rfl, own_low h1 hb, own_low h2 hb, own_low h3 hb⟩
theorem OS.nx {w w' : World} {B : Nat} {v : Value} {x1 x2 x3 : List Bool} (h : OS w B v x1 x2 x3) (k : Nx w w') : OS w' B v x1 x2 x3 := by
  obtain ⟨v1, v2, v3, rfl, h1, h2, h3⟩ := h
  exact ⟨v1, v2, v3, rfl, Ow.nx h1 k, Ow.nx h2 k, Ow.nx h3 k⟩

def see23 (j : Nat) : List Nat := match j with
  | 7 => [3]
  | 11 => [3, 7]
  | _ => []
def psi23 (h b B : Nat) (A1 A2 A3 : Option Addr) (m1 m2 m3 c1 c2 c3 : Nat) (x1 x2 x3 : List Bool) (j : Nat) (f : Nat → Value) (w : World) : Prop := match j with
  | 0 => ∃ g, f 0 = .slice (some ⟨g, 0, none⟩) 0 0 ∧ w.ownsRow B 4 1 (f 0) 0 []
  | 1 => f 1 = .pointer (some ⟨h, 0, none⟩)
  | 2 => f 2 = .slice A1 m1 c1
  | 3 => Ow w B (f 3) x1
  | 4 => ∃ g, f 4 = .slice (some ⟨g, 0, none⟩) 0 0 ∧ w.ownsRow B 4 1 (f 4) 0 []
  | 5 => f 5 = .pointer (some ⟨h, 1, none⟩)
  | 6 => f 6 = .slice A2 m2 c2
  | 7 => Ow w B (f 7) x2 ∧ Ow w B (f 3) x1 ∧ Ap (f 3) (f 7) x1 x2
  | 8 => ∃ g, f 8 = .slice (some ⟨g, 0, none⟩) 0 0 ∧ w.ownsRow B 4 1 (f 8) 0 []
  | 9 => f 9 = .pointer (some ⟨h, 2, none⟩)
  | 10 => f 10 = .slice A3 m3 c3
  | 11 => Ow w B (f 11) x3 ∧ Ap (f 3) (f 11) x1 x3 ∧ Ap (f 7) (f 11) x2 x3
  | 12 => OD w B (f 12) x1 x2 x3
  | 13 => ∃ v1 v2 v3, Bx w b 31 [v1, v2, v3] ∧ OD w B (.agg #[v1, v2, v3]) x1 x2 x3
  | _ => False
end
section
open Go.RowKit

theorem made_ow (w : World) (n : Nat) (hn : n ≤ 1000000) {B : Nat} (hB : B ≤ w.heap.size) : Ow (w.alloc (.cells (madeCells #[.bool false] n) 4)) B (.slice (some ⟨w.heap.size, 0, none⟩) n n) (List.replicate n false) := by
  have h := (made_own w n hn).low hB
  unfold OwB at h
  unfold Ow
  simpa using h

def psi11 (h b B q m e : Nat) (j : Nat) (v : Value) (w : World) : Prop := match j with
  | 0 => v = .pointer (some ⟨h, 1, none⟩)
  | 1 => v = .int .i64 q
  | 2 => Ow w B v (List.replicate q false)
  | 3 => v = .pointer (some ⟨h, 2, none⟩)
  | 4 => v = .int .i64 m
  | 5 => Ow w B v (List.replicate m false)
  | 6 => v = .pointer (some ⟨h, 3, none⟩)
  | 7 => v = .int .i64 e
  | 8 => Ow w B v (List.replicate e false)
  | 9 => OS w B v (List.replicate q false) (List.replicate m false) (List.replicate e false)
  | 10 => ∃ v1 v2 v3, Bx w b 31 [v1, v2, v3] ∧ OS w B (.agg #[v1, v2, v3]) (List.replicate q false) (List.replicate m false) (List.replicate e false)
  | 11 => v = .int .i64 0
  | _ => False
end
section
open Go.RowKit

/-- Bit n of an image, and the error's number. -/
def rdV (xs : List Bool) (n : Int) : Bool := if 0 ≤ n ∧ n < (xs.length : Int) then xs.getD n.toNat false else false
def rdE (xs : List Bool) (n : Int) : Int := if 0 ≤ n ∧ n < (xs.length : Int) then 0 else 3
def rdSV (i q m : List Bool) (k n : Int) : Bool := if k = 0 then rdV i n else if k = 1 then rdV q n else if k = 2 then rdV m n else false
def rdSE (i q m : List Bool) (k n : Int) : Int := if k = 0 then rdE i n else if k = 1 then rdE q n else if k = 2 then rdE m n else 8
theorem im_get {A : Option Addr} {m c : Nat} {xs : List Bool} (n : Int) (w : World) (h : Im w A m c xs) :
    Calls Try.prog 59 #[.slice A m c, .int .i64 n] w fun e w' => e = .returned (.tuple #[.bool (rdV xs n), .int .i64 (rdE xs n)]) ∧ w = w' := by
  obtain ⟨hr, hl, _⟩ := h
  unfold rdV rdE
  by_cases hn : 0 ≤ n ∧ n < (xs.length : Int)
  · rw [if_pos hn, if_pos hn]
    obtain ⟨b, hb⟩ := at_some xs n.toNat (by omega)
    have := get_ok A xs c n.toNat b hb w hr
    rw [Int.toNat_of_nonneg hn.1, hl] at this
    rwa [show xs.getD n.toNat false = b by simp [List.getD, hb]]
  · rw [if_neg hn, if_neg hn]
    exact get_no A m c n (by omega) w

theorem im_get' {A : Option Addr} {m c : Nat} {xs : List Bool} (n : Int) (w : World) (h : Im w A m c xs) :
    Calls Try.prog 59 #[.slice A m c, .int .i64 n] w fun e w' => e = .returned (.tuple #[.bool (rdV xs n), .int .i64 (rdE xs n)]) ∧ w' = w := (im_get n w h).mono fun _ _ h => ⟨h.1, h.2.symm⟩

theorem refGet_facts {w : World} {A : Option Addr} {m c : Nat} {xs : List Bool} (h : Im w A m c xs) (n : Int) (hn : 0 ≤ n ∧ n < (m : Int)) :
    ∃ (p : Nat) (b : Bool), n = (p : Int) ∧ p < m ∧ ∃ ad, A = some ad ∧ w.cell? (ad.add p) = some (.bool b) ∧ rdV xs (p : Int) = b ∧ rdE xs (p : Int) = 0 := by
  obtain ⟨hr, hl, _⟩ := h
  refine ⟨n.toNat, ?_⟩
  obtain ⟨b, hb⟩ := at_some xs n.toNat (by omega)
  obtain ⟨ad, hA, hc⟩ := hr n.toNat b hb
  have e : ((n.toNat : Nat) : Int) = n := Int.toNat_of_nonneg hn.1
  refine ⟨b, e.symm, by omega, ad, hA, hc, ?_, ?_⟩
  · unfold rdV; rw [e, if_pos (by omega)]; simp [List.getD, hb]
  · unfold rdE; rw [e, if_pos (by omega)]

set_option maxHeartbeats 1600000 in
set_option maxRecDepth 100000 in
theorem read_any (A0 : Option Addr) (m0 c0 : Nat) (A1 A2 A3 : Option Addr) (m1 m2 m3 c1 c2 c3 : Nat) (x0 x1 x2 : List Bool) (k n : Int) (w : World) (h0 : Im w A0 m0 c0 x0) (h1 : Im w A1 m1 c1 x1) (h2 : Im w A2 m2 c2 x2) :
    Calls Try.prog 58 #[.slice A0 m0 c0, .agg #[.slice A1 m1 c1, .slice A2 m2 c2, .slice A3 m3 c3], .agg #[.int .i64 k, .int .i64 n]] w fun e w' => e = .returned (.tuple #[.bool (rdSV x0 x1 x2 k n), .int .i64 (rdSE x0 x1 x2 k n)]) ∧ Nx w w' := by
  have I0 := Lib.hid h0
  have I1 := Lib.hid h1
  have I2 := Lib.hid h2
  clear h0 h1 h2
  by_cases hk : 0 ≤ k ∧ k < 3
  rotate_left
  · have HV := Lib.hid (show rdSV x0 x1 x2 k n = false by unfold rdSV; rw [if_neg (by omega), if_neg (by omega), if_neg (by omega)])
    have HE := Lib.hid (show rdSE x0 x1 x2 k n = 8 by unfold rdSE; rw [if_neg (by omega), if_neg (by omega), if_neg (by omega)])
    by_cases hz : k < 0
    · go_enter Try.func58, Try.ntmps58
      go_wp2
      go_ret2
      exact ⟨by rw [HV.out, HE.out]; rfl, (by repeat (first | exact Nx.refl _ | assumption | refine Nx.drewN ?_ _ | refine Nx.drew ?_ | refine Nx.alloc ?_ _ | refine Nx.set ?_ (by first | exact Nat.le_refl _ | (simp; done) | (simp; omega)) _))⟩
    · have h3 : ¬ k < 3 := by omega
      go_enter Try.func58, Try.ntmps58
      go_wp2
      go_ret2
      exact ⟨by rw [HV.out, HE.out]; rfl, (by repeat (first | exact Nx.refl _ | assumption | refine Nx.drewN ?_ _ | refine Nx.drew ?_ | refine Nx.alloc ?_ _ | refine Nx.set ?_ (by first | exact Nat.le_refl _ | (simp; done) | (simp; omega)) _))⟩
  have hk3 : k = 0 ∨ k = 1 ∨ k = 2 := by omega
  rcases hk3 with rfl | rfl | rfl
  · go_enter Try.func58, Try.ntmps58
    go_wp2
    go_quiet (first | (go_at_call 59; refine Calls.quiet_of_same (im_get' n _ (I0.out.nx (by repeat (first | exact Nx.refl _ | assumption | refine Nx.drewN ?_ _ | refine Nx.drew ?_ | refine Nx.alloc ?_ _ | refine Nx.set ?_ (by first | exact Nat.le_refl _ | (simp; done) | (simp; omega)) _))))))
    go_wp2
    go_ret2
    exact ⟨rfl, (by repeat (first | exact Nx.refl _ | assumption | refine Nx.drewN ?_ _ | refine Nx.drew ?_ | refine Nx.alloc ?_ _ | refine Nx.set ?_ (by first | exact Nat.le_refl _ | (simp; done) | (simp; omega)) _))⟩
  · go_enter Try.func58, Try.ntmps58
    go_wp2
    go_quiet (first | (go_at_call 59; refine Calls.quiet_of_same (im_get' n _ (I1.out.nx (by repeat (first | exact Nx.refl _ | assumption | refine Nx.drewN ?_ _ | refine Nx.drew ?_ | refine Nx.alloc ?_ _ | refine Nx.set ?_ (by first | exact Nat.le_refl _ | (simp; done) | (simp; omega)) _))))))
    go_wp2
    go_ret2
    exact ⟨rfl, (by repeat (first | exact Nx.refl _ | assumption | refine Nx.drewN ?_ _ | refine Nx.drew ?_ | refine Nx.alloc ?_ _ | refine Nx.set ?_ (by first | exact Nat.le_refl _ | (simp; done) | (simp; omega)) _))⟩
  · go_enter Try.func58, Try.ntmps58
    go_wp2
    go_quiet (first | (go_at_call 59; refine Calls.quiet_of_same (im_get' n _ (I2.out.nx (by repeat (first | exact Nx.refl _ | assumption | refine Nx.drewN ?_ _ | refine Nx.drew ?_ | refine Nx.alloc ?_ _ | refine Nx.set ?_ (by first | exact Nat.le_refl _ | (simp; done) | (simp; omega)) _))))))
    go_wp2
    go_ret2
    exact ⟨rfl, (by repeat (first | exact Nx.refl _ | assumption | refine Nx.drewN ?_ _ | refine Nx.drew ?_ | refine Nx.alloc ?_ _ | refine Nx.set ?_ (by first | exact Nat.le_refl _ | (simp; done) | (simp; omega)) _))⟩
end
section
open Go.RowKit

/-- The error's number, and the images behind a write. -/
def wrE (q m : List Bool) (k n : Int) : Int := if k = 1 then rdE q n else if k = 2 then rdE m n else 8
def wrQ (q : List Bool) (k n : Int) (v : Bool) : List Bool := if k = 1 then q.set n.toNat v else q
def wrM (m : List Bool) (k n : Int) (v : Bool) : List Bool := if k = 2 then m.set n.toNat v else m
abbrev zst : Value := .agg #[.slice none 0 0, .slice none 0 0, .slice none 0 0]
def WrP (m1 m2 m3 : Nat) (x1 x2 x3 : List Bool) (k n : Int) (v : Bool) (w : World) (e : Ending) (w' : World) : Prop :=
  (wrE x1 x2 k n ≠ 0 → e = .returned (.tuple #[zst, .int .i64 (wrE x1 x2 k n)])) ∧ (wrE x1 x2 k n = 0 → ∃ s, e = .returned (.tuple #[s, .int .i64 0]) ∧ OwS w' w.heap.size s m1 m2 m3 (wrQ x1 k n v) (wrM x2 k n v) x3) ∧ Nx w w'

theorem im_set_ok {A : Option Addr} {m c : Nat} {xs : List Bool} (p : Nat) (v : Bool) (hp : p < m) (hm : m ≤ 1000000) (w : World) (h : Im w A m c xs) :
    Calls Try.prog 63 #[.slice A m c, .int .i64 p, .bool v] w fun e w' => ∃ g c', e = .returned (.tuple #[.slice (some ⟨g, 0, none⟩) m c', .int .i64 0]) ∧ OwB w' w.heap.size g c' (xs.set p v) ∧ Nx w w' := by
  obtain ⟨hr, hl, _⟩ := h
  refine (set_ok A xs m c p v hl hp hm w hr).mono ?_
  rintro e w' ⟨g, c', rfl, ho, hn⟩
  exact ⟨g, c', by rw [List.length_set, hl], ho, hn⟩

set_option maxHeartbeats 1600000 in
set_option maxRecDepth 100000 in
theorem write_kind (A1 A2 A3 : Option Addr) (m1 m2 m3 c1 c2 c3 : Nat) (k n : Int) (v : Bool) (h1 : k ≠ 1) (h2 : k ≠ 2) (w : World) :
    Calls Try.prog 60 #[.agg #[.slice A1 m1 c1, .slice A2 m2 c2, .slice A3 m3 c3], .agg #[.int .i64 k, .int .i64 n], .bool v] w fun e w' => e = .returned (.tuple #[zst, .int .i64 8]) ∧ Nx w w' := by
  have N0 := Lib.hid (show Nx w (((w.alloc (.cells #[.slice A1 m1 c1, .slice A2 m2 c2, .slice A3 m3 c3] 31)).alloc (.cells #[.int .i64 k, .int .i64 n] 26)).alloc (.cells #[.slice none 0 0, .slice none 0 0, .slice none 0 0] 31)) from ((Nx.one _ _).alloc _).alloc _)
  have XT := Lib.hid (((bx_new w 31 [.slice A1 m1 c1, .slice A2 m2 c2, .slice A3 m3 c3]).nx (Nx.one _ (.cells #[.int .i64 k, .int .i64 n] 26))).nx (Nx.one _ (.cells #[.slice none 0 0, .slice none 0 0, .slice none 0 0] 31)))
  have XA := Lib.hid ((bx_new (w.alloc (.cells #[.slice A1 m1 c1, .slice A2 m2 c2, .slice A3 m3 c3] 31)) 26 [.int .i64 k, .int .i64 n]).nx (Nx.one _ (.cells #[.slice none 0 0, .slice none 0 0, .slice none 0 0] 31)))
  rw [show (w.alloc (.cells #[.slice A1 m1 c1, .slice A2 m2 c2, .slice A3 m3 c3] 31)).heap.size = w.heap.size + 1 by simp] at XA
  have XR := Lib.hid (bx_new ((w.alloc (.cells #[.slice A1 m1 c1, .slice A2 m2 c2, .slice A3 m3 c3] 31)).alloc (.cells #[.int .i64 k, .int .i64 n] 26)) 31 [.slice none 0 0, .slice none 0 0, .slice none 0 0])
  rw [show ((w.alloc (.cells #[.slice A1 m1 c1, .slice A2 m2 c2, .slice A3 m3 c3] 31)).alloc (.cells #[.int .i64 k, .int .i64 n] 26)).heap.size = w.heap.size + 1 + 1 by simp] at XR
  have BW := Lib.hid (show (((w.alloc (.cells #[.slice A1 m1 c1, .slice A2 m2 c2, .slice A3 m3 c3] 31)).alloc (.cells #[.int .i64 k, .int .i64 n] 26)).alloc (.cells #[.slice none 0 0, .slice none 0 0, .slice none 0 0] 31)).heap.size = w.heap.size + 3 by simp)
  have e1 : ixI k = 0 := if_neg h2
  have e2 : ixB k = false := decide_eq_false (by omega)
  have IX := Lib.hid (indexOf_any k)
  rw [e1, e2] at IX
  clear h1 h2 e1 e2
  go_enter Try.func60, Try.ntmps60
  go_wp2_with fail
  generalize ((w.alloc (.cells #[.slice A1 m1 c1, .slice A2 m2 c2, .slice A3 m3 c3] 31)).alloc (.cells #[.int .i64 k, .int .i64 n] 26)).alloc (.cells #[.slice none 0 0, .slice none 0 0, .slice none 0 0] 31) = W at *
  refine (IX.out _).mono ?_
  rintro e w' ⟨rfl, rfl⟩
  have r0 := XR.out.cell 0 rfl
  have r1 := XR.out.cell 1 rfl
  have r2 := XR.out.cell 2 rfl
  have q0 := XR.out.frozen 0
  have q1 := XR.out.frozen 1
  have q2 := XR.out.frozen 2
  have z0 := (XR.out.put 0 (.slice none 0 0)).cell 0 rfl
  have z1 := ((XR.out.put 0 (.slice none 0 0)).put 1 (.slice none 0 0)).cell 1 rfl
  have z2 := (((XR.out.put 0 (.slice none 0 0)).put 1 (.slice none 0 0)).put 2 (.slice none 0 0)).cell 2 rfl
  go_wp2
  try simp only [Exit.inBlock, Exit.then]
  refine bodyPost_ret (by simp [results, Try.results60, go_sem, z0, z1, z2]; try rfl) rfl ?_
  exact ⟨rfl, ((N0.out.set (by omega) _).set (by omega) _).set (by omega) _⟩

set_option maxHeartbeats 1600000 in
set_option maxRecDepth 100000 in
theorem write_no1 (A1 A2 A3 : Option Addr) (m1 m2 m3 c1 c2 c3 : Nat) (n : Int) (v : Bool) (hn : ¬ (0 ≤ n ∧ n < (m1 : Nat))) (w : World) :
    Calls Try.prog 60 #[.agg #[.slice A1 m1 c1, .slice A2 m2 c2, .slice A3 m3 c3], .agg #[.int .i64 1, .int .i64 n], .bool v] w fun e w' => e = .returned (.tuple #[zst, .int .i64 3]) ∧ Nx w w' := by
  have N0 := Lib.hid (show Nx w (((w.alloc (.cells #[.slice A1 m1 c1, .slice A2 m2 c2, .slice A3 m3 c3] 31)).alloc (.cells #[.int .i64 1, .int .i64 n] 26)).alloc (.cells #[.slice none 0 0, .slice none 0 0, .slice none 0 0] 31)) from ((Nx.one _ _).alloc _).alloc _)
  have XT := Lib.hid (((bx_new w 31 [.slice A1 m1 c1, .slice A2 m2 c2, .slice A3 m3 c3]).nx (Nx.one _ (.cells #[.int .i64 1, .int .i64 n] 26))).nx (Nx.one _ (.cells #[.slice none 0 0, .slice none 0 0, .slice none 0 0] 31)))
  have XA := Lib.hid ((bx_new (w.alloc (.cells #[.slice A1 m1 c1, .slice A2 m2 c2, .slice A3 m3 c3] 31)) 26 [.int .i64 1, .int .i64 n]).nx (Nx.one _ (.cells #[.slice none 0 0, .slice none 0 0, .slice none 0 0] 31)))
  rw [show (w.alloc (.cells #[.slice A1 m1 c1, .slice A2 m2 c2, .slice A3 m3 c3] 31)).heap.size = w.heap.size + 1 by simp] at XA
  have XR := Lib.hid (bx_new ((w.alloc (.cells #[.slice A1 m1 c1, .slice A2 m2 c2, .slice A3 m3 c3] 31)).alloc (.cells #[.int .i64 1, .int .i64 n] 26)) 31 [.slice none 0 0, .slice none 0 0, .slice none 0 0])
  rw [show ((w.alloc (.cells #[.slice A1 m1 c1, .slice A2 m2 c2, .slice A3 m3 c3] 31)).alloc (.cells #[.int .i64 1, .int .i64 n] 26)).heap.size = w.heap.size + 1 + 1 by simp] at XR
  have BW := Lib.hid (show (((w.alloc (.cells #[.slice A1 m1 c1, .slice A2 m2 c2, .slice A3 m3 c3] 31)).alloc (.cells #[.int .i64 1, .int .i64 n] 26)).alloc (.cells #[.slice none 0 0, .slice none 0 0, .slice none 0 0] 31)).heap.size = w.heap.size + 3 by simp)
  have ST := Lib.hid (fun w' (_ : Nx w w') => set_no A1 m1 c1 n v hn w')
  go_enter Try.func60, Try.ntmps60
  go_wp2_with fail
  generalize ((w.alloc (.cells #[.slice A1 m1 c1, .slice A2 m2 c2, .slice A3 m3 c3] 31)).alloc (.cells #[.int .i64 1, .int .i64 n] 26)).alloc (.cells #[.slice none 0 0, .slice none 0 0, .slice none 0 0] 31) = W at *
  refine (indexOf_any _ _).mono ?_
  rw [show ixI 1 = 0 from rfl, show ixB 1 = true from rfl]
  rintro e w' ⟨rfl, rfl⟩
  have t0 := XT.out.cell 0 rfl
  have t1 := XT.out.cell 1 rfl
  have t2 := XT.out.cell 2 rfl
  go_wp2_with fail
  clear t0 t1 t2
  refine (imagesOf_any _ _ _ _ _ _ _ _ _ _).mono ?_
  rintro e w1 ⟨rfl, h1⟩
  have XB := Lib.hid (bx_new w1 53 [.slice A1 m1 c1, .slice A2 m2 c2, .slice A3 m3 c3])
  have XA1 := Lib.hid (XA.out.nx (h1.alloc (.cells #[.slice A1 m1 c1, .slice A2 m2 c2, .slice A3 m3 c3] 53)))
  have XR1 := Lib.hid (XR.out.nx (h1.alloc (.cells #[.slice A1 m1 c1, .slice A2 m2 c2, .slice A3 m3 c3] 53)))
  have H1 := Lib.hid (N0.out.trans (h1.alloc (.cells #[.slice A1 m1 c1, .slice A2 m2 c2, .slice A3 m3 c3] 53)))
  have B1 := Lib.hid (show w.heap.size + 3 ≤ w1.heap.size by have := h1.size; rw [BW.out] at this; exact this)
  clear h1
  go_wp2_with fail
  have XB' : Bx (w1.alloc (.cells #[.slice A1 m1 c1, .slice A2 m2 c2, .slice A3 m3 c3] 53)) w1.heap.size 53 [.slice A1 m1 c1, .slice A2 m2 c2, .slice A3 m3 c3] := XB.out
  clear XB
  have XB := Lib.hid XB'
  clear XB'
  generalize w1.alloc (.cells #[.slice A1 m1 c1, .slice A2 m2 c2, .slice A3 m3 c3] 53) = W1 at *
  generalize hb1 : w1.heap.size = b at *
  have HS := Lib.hid (show ∀ w', Nx W1 w' → w'.cell? ⟨b, 0, none⟩ = some (.slice A1 m1 c1) ∧ w'.cell? ⟨w.heap.size + 1, 1, none⟩ = some (.int .i64 n) from fun w' h => ⟨(XB.out.nx h).cell 0 rfl, (XA1.out.nx h).cell 1 rfl⟩)
  obtain ⟨g1, g2⟩ := HS.out W1 (Nx.refl _)
  go_region_held3 (fun w' => w'.cell? ⟨b, 0, none⟩ = some (.slice A1 m1 c1) ∧ w'.cell? ⟨w.heap.size + 1, 1, none⟩ = some (.int .i64 n)) (first | exact HS.out _ (by repeat (first | exact Nx.refl _ | assumption | refine Nx.drew ?_ | refine Nx.drewN ?_ _ | refine Nx.alloc ?_ _ | refine Nx.trans ?_ (by assumption))) | go_keep)
    (first | (go_at_call 63; refine (ST.out _ (H1.out.drew)).mono ?_; rintro e w2 ⟨rfl, rfl⟩))
  have XR2 := XR1.out.nx ((Nx.refl W1).drew)
  have r0 := XR2.cell 0 rfl
  have r1 := XR2.cell 1 rfl
  have r2 := XR2.cell 2 rfl
  have q0 := XR2.frozen 0
  have q1 := XR2.frozen 1
  have q2 := XR2.frozen 2
  have z0 := (XR2.put 0 (.slice none 0 0)).cell 0 rfl
  have z1 := ((XR2.put 0 (.slice none 0 0)).put 1 (.slice none 0 0)).cell 1 rfl
  have z2 := (((XR2.put 0 (.slice none 0 0)).put 1 (.slice none 0 0)).put 2 (.slice none 0 0)).cell 2 rfl
  have H2 := H1.out.drew
  clear XR2 g1 g2
  generalize W1.drew = W2 at *
  go_wp2
  try simp only [Exit.inBlock, Exit.then]
  refine bodyPost_ret (by simp [results, Try.results60, go_sem, z0, z1, z2]; try rfl) rfl ?_
  exact ⟨rfl, ((H2.set (by omega) _).set (by omega) _).set (by omega) _⟩

set_option maxHeartbeats 1600000 in
set_option maxRecDepth 100000 in
theorem write_ok1 (A1 A2 A3 : Option Addr) (m1 m2 m3 c1 c2 c3 : Nat) (x1 x2 x3 : List Bool) (p : Nat) (v : Bool) (hp : p < m1) (hm1 : m1 ≤ 1000000) (hm2 : m2 ≤ 1000000) (hm3 : m3 ≤ 1000000) (w : World) (hx1 : Im w A1 m1 c1 x1) (hx2 : Im w A2 m2 c2 x2) (hx3 : Im w A3 m3 c3 x3) :
    Calls Try.prog 60 #[.agg #[.slice A1 m1 c1, .slice A2 m2 c2, .slice A3 m3 c3], .agg #[.int .i64 1, .int .i64 (p : Nat)], .bool v] w fun e w' => ∃ s, e = .returned (.tuple #[s, .int .i64 0]) ∧ OwS w' w.heap.size s m1 m2 m3 (x1.set p v) x2 x3 ∧ Nx w w' := by
  have N0 := Lib.hid (show Nx w (((w.alloc (.cells #[.slice A1 m1 c1, .slice A2 m2 c2, .slice A3 m3 c3] 31)).alloc (.cells #[.int .i64 1, .int .i64 (p : Nat)] 26)).alloc (.cells #[.slice none 0 0, .slice none 0 0, .slice none 0 0] 31)) from ((Nx.one _ _).alloc _).alloc _)
  have XT := Lib.hid (((bx_new w 31 [.slice A1 m1 c1, .slice A2 m2 c2, .slice A3 m3 c3]).nx (Nx.one _ (.cells #[.int .i64 1, .int .i64 (p : Nat)] 26))).nx (Nx.one _ (.cells #[.slice none 0 0, .slice none 0 0, .slice none 0 0] 31)))
  have XA := Lib.hid ((bx_new (w.alloc (.cells #[.slice A1 m1 c1, .slice A2 m2 c2, .slice A3 m3 c3] 31)) 26 [.int .i64 1, .int .i64 (p : Nat)]).nx (Nx.one _ (.cells #[.slice none 0 0, .slice none 0 0, .slice none 0 0] 31)))
  rw [show (w.alloc (.cells #[.slice A1 m1 c1, .slice A2 m2 c2, .slice A3 m3 c3] 31)).heap.size = w.heap.size + 1 by simp] at XA
  have XR := Lib.hid (bx_new ((w.alloc (.cells #[.slice A1 m1 c1, .slice A2 m2 c2, .slice A3 m3 c3] 31)).alloc (.cells #[.int .i64 1, .int .i64 (p : Nat)] 26)) 31 [.slice none 0 0, .slice none 0 0, .slice none 0 0])
  rw [show ((w.alloc (.cells #[.slice A1 m1 c1, .slice A2 m2 c2, .slice A3 m3 c3] 31)).alloc (.cells #[.int .i64 1, .int .i64 (p : Nat)] 26)).heap.size = w.heap.size + 1 + 1 by simp] at XR
  have BW := Lib.hid (show (((w.alloc (.cells #[.slice A1 m1 c1, .slice A2 m2 c2, .slice A3 m3 c3] 31)).alloc (.cells #[.int .i64 1, .int .i64 (p : Nat)] 26)).alloc (.cells #[.slice none 0 0, .slice none 0 0, .slice none 0 0] 31)).heap.size = w.heap.size + 3 by simp)
  have I1 := Lib.hid hx1
  have I2 := Lib.hid hx2
  have I3 := Lib.hid hx3
  have ST := Lib.hid (fun w' (k : Nx w w') => im_set_ok p v hp hm1 w' (hx1.nx k))
  clear hx1 hx2 hx3
  go_enter Try.func60, Try.ntmps60
  go_wp2_with fail
  generalize ((w.alloc (.cells #[.slice A1 m1 c1, .slice A2 m2 c2, .slice A3 m3 c3] 31)).alloc (.cells #[.int .i64 1, .int .i64 (p : Nat)] 26)).alloc (.cells #[.slice none 0 0, .slice none 0 0, .slice none 0 0] 31) = W at *
  refine (indexOf_any _ _).mono ?_
  rw [show ixI 1 = 0 from rfl, show ixB 1 = true from rfl]
  rintro e w' ⟨rfl, rfl⟩
  have t0 := XT.out.cell 0 rfl
  have t1 := XT.out.cell 1 rfl
  have t2 := XT.out.cell 2 rfl
  go_wp2_with fail
  clear t0 t1 t2
  refine (imagesOf_any _ _ _ _ _ _ _ _ _ _).mono ?_
  rintro e w1 ⟨rfl, h1⟩
  have XB := Lib.hid (bx_new w1 53 [.slice A1 m1 c1, .slice A2 m2 c2, .slice A3 m3 c3])
  have XA1 := Lib.hid (XA.out.nx (h1.alloc (.cells #[.slice A1 m1 c1, .slice A2 m2 c2, .slice A3 m3 c3] 53)))
  have XR1 := Lib.hid (XR.out.nx (h1.alloc (.cells #[.slice A1 m1 c1, .slice A2 m2 c2, .slice A3 m3 c3] 53)))
  have H1 := Lib.hid (N0.out.trans (h1.alloc (.cells #[.slice A1 m1 c1, .slice A2 m2 c2, .slice A3 m3 c3] 53)))
  have B1 := Lib.hid (show w.heap.size + 3 ≤ w1.heap.size by have := h1.size; rw [BW.out] at this; exact this)
  clear h1
  go_wp2_with fail
  have XB' : Bx (w1.alloc (.cells #[.slice A1 m1 c1, .slice A2 m2 c2, .slice A3 m3 c3] 53)) w1.heap.size 53 [.slice A1 m1 c1, .slice A2 m2 c2, .slice A3 m3 c3] := XB.out
  clear XB
  have XB := Lib.hid XB'
  clear XB'
  generalize w1.alloc (.cells #[.slice A1 m1 c1, .slice A2 m2 c2, .slice A3 m3 c3] 53) = W1 at *
  generalize hb1 : w1.heap.size = b at *
  have HS := Lib.hid (show ∀ w', Nx W1 w' → w'.cell? ⟨b, 0, none⟩ = some (.slice A1 m1 c1) ∧ w'.cell? ⟨w.heap.size + 1, 1, none⟩ = some (.int .i64 (p : Nat)) from fun w' h => ⟨(XB.out.nx h).cell 0 rfl, (XA1.out.nx h).cell 1 rfl⟩)
  obtain ⟨g1, g2⟩ := HS.out W1 (Nx.refl _)
  go_region_held3 (fun w' => w'.cell? ⟨b, 0, none⟩ = some (.slice A1 m1 c1) ∧ w'.cell? ⟨w.heap.size + 1, 1, none⟩ = some (.int .i64 (p : Nat))) (first | exact HS.out _ (by repeat (first | exact Nx.refl _ | assumption | refine Nx.drew ?_ | refine Nx.drewN ?_ _ | refine Nx.alloc ?_ _ | refine Nx.trans ?_ (by assumption))) | go_keep)
    (first | (go_at_call 63; refine (ST.out _ (H1.out.drew)).mono ?_; rintro e w2 ⟨g, cg, rfl, ho, h2⟩))
  clear g1 g2
  have h2' := (Nx.refl W1).drew.trans h2
  have Y := Lib.hid (XB.out.nx h2')
  have gg := Y.out.cell 0 rfl
  have f := Y.out.frozen 0
  have D := Lib.hid (show b < g by have h1 := ho.base_le; have h3 := XB.out.lt; have h4 : W1.heap.size = W1.drew.heap.size := rfl; omega)
  have XB3 := Lib.hid (Y.out.put 0 (.slice (some ⟨g, 0, none⟩) m1 cg))
  have XR3 := Lib.hid ((XR1.out.nx h2').far (b := b) (i := 0) (o := none) (by have := B1.out; omega) (.slice (some ⟨g, 0, none⟩) m1 cg))
  have H3 := Lib.hid ((H1.out.trans h2').set (g := b) (i := 0) (o := none) (by have := B1.out; omega) (.slice (some ⟨g, 0, none⟩) m1 cg))
  have O3 := Lib.hid (ho.far (b := b) (i := 0) (o := none) (by have := D.out; omega) (.slice (some ⟨g, 0, none⟩) m1 cg))
  clear h2 h2' ho
  have u0 := XB3.out.cell 0 rfl
  have u1 := XB3.out.cell 1 rfl
  have u2 := XB3.out.cell 2 rfl
  go_wp2_with fail
  clear gg f u0 u1 u2
  refine (stateOf_any _ _ _ _ _ _ _ _ _ _).mono ?_
  rintro e w4 ⟨rfl, h4⟩
  have CL := Lib.hid (clone_ok (some ⟨g, 0, none⟩) A2 A3 m1 m2 m3 cg c2 c3 _ _ _ hm1 hm2 hm3 w4 ((O3.out.nx h4).im (by rw [List.length_set]; exact I1.out.2.1)) (I2.out.nx (H3.out.trans h4)) (I3.out.nx (H3.out.trans h4)))
  have XR4 := Lib.hid (XR3.out.nx h4)
  have H4 := Lib.hid (H3.out.trans h4)
  clear h4
  go_wp2_with fail
  refine CL.out.mono ?_
  rintro e w5 ⟨s, rfl, ⟨a1, a2, a3, d1, d2, d3, rfl, hlt, ⟨o1, l1⟩, ⟨o2, l2⟩, ⟨o3, l3⟩⟩, h5⟩
  have XR5 := Lib.hid (XR4.out.nx h5)
  have r1 := XR5.out.cell 0 rfl
  have r2 := XR5.out.cell 1 rfl
  have r3 := XR5.out.cell 2 rfl
  have q1 := XR5.out.frozen 0
  have q2 := XR5.out.frozen 1
  have q3 := XR5.out.frozen 2
  have Z1 := XR5.out.put 0 (.slice (some ⟨a1, 0, none⟩) m1 d1)
  have Z2 := Z1.put 1 (.slice (some ⟨a2, 0, none⟩) m2 d2)
  have Z3 := Z2.put 2 (.slice (some ⟨a3, 0, none⟩) m3 d3)
  have z1 := Z1.cell 0 rfl
  have z2 := Z2.cell 1 rfl
  have z3 := Z3.cell 2 rfl
  have HL := Lib.hid hlt
  have O1 := Lib.hid (o1.low H4.out.size)
  have O2 := Lib.hid (o2.low H4.out.size)
  have O5 := Lib.hid (o3.low H4.out.size)
  have L1 := Lib.hid l1
  have L2 := Lib.hid l2
  have L3 := Lib.hid l3
  have E1 := Lib.hid (show w.heap.size + 1 + 1 < a1 by have h1 := o1.base_le; have h2 := XR4.out.lt; omega)
  have H5 := Lib.hid (H4.out.trans h5)
  clear Z1 Z2 Z3 o1 o2 o3 l1 l2 l3 h5 hlt
  go_wp2
  try simp only [Exit.inBlock, Exit.then]
  refine bodyPost_ret (by simp [results, Try.results60, go_sem, z1, z2, z3]; try rfl) rfl ?_
  have e1 := E1.out
  have hl := HL.out
  exact ⟨_, rfl, ⟨a1, a2, a3, d1, d2, d3, rfl, hl, ⟨((O1.out.far (by omega) _).far (by omega) _).far (by omega) _, L1.out⟩, ⟨((O2.out.far (by omega) _).far (by omega) _).far (by omega) _, L2.out⟩, ⟨((O5.out.far (by omega) _).far (by omega) _).far (by omega) _, L3.out⟩⟩,
    ((H5.out.set (by omega) _).set (by omega) _).set (by omega) _⟩

set_option maxHeartbeats 1600000 in
set_option maxRecDepth 100000 in
theorem write_no2 (A1 A2 A3 : Option Addr) (m1 m2 m3 c1 c2 c3 : Nat) (n : Int) (v : Bool) (hn : ¬ (0 ≤ n ∧ n < (m2 : Nat))) (w : World) :
    Calls Try.prog 60 #[.agg #[.slice A1 m1 c1, .slice A2 m2 c2, .slice A3 m3 c3], .agg #[.int .i64 2, .int .i64 n], .bool v] w fun e w' => e = .returned (.tuple #[zst, .int .i64 3]) ∧ Nx w w' := by
  have N0 := Lib.hid (show Nx w (((w.alloc (.cells #[.slice A1 m1 c1, .slice A2 m2 c2, .slice A3 m3 c3] 31)).alloc (.cells #[.int .i64 2, .int .i64 n] 26)).alloc (.cells #[.slice none 0 0, .slice none 0 0, .slice none 0 0] 31)) from ((Nx.one _ _).alloc _).alloc _)
  have XT := Lib.hid (((bx_new w 31 [.slice A1 m1 c1, .slice A2 m2 c2, .slice A3 m3 c3]).nx (Nx.one _ (.cells #[.int .i64 2, .int .i64 n] 26))).nx (Nx.one _ (.cells #[.slice none 0 0, .slice none 0 0, .slice none 0 0] 31)))
  have XA := Lib.hid ((bx_new (w.alloc (.cells #[.slice A1 m1 c1, .slice A2 m2 c2, .slice A3 m3 c3] 31)) 26 [.int .i64 2, .int .i64 n]).nx (Nx.one _ (.cells #[.slice none 0 0, .slice none 0 0, .slice none 0 0] 31)))
  rw [show (w.alloc (.cells #[.slice A1 m1 c1, .slice A2 m2 c2, .slice A3 m3 c3] 31)).heap.size = w.heap.size + 1 by simp] at XA
  have XR := Lib.hid (bx_new ((w.alloc (.cells #[.slice A1 m1 c1, .slice A2 m2 c2, .slice A3 m3 c3] 31)).alloc (.cells #[.int .i64 2, .int .i64 n] 26)) 31 [.slice none 0 0, .slice none 0 0, .slice none 0 0])
  rw [show ((w.alloc (.cells #[.slice A1 m1 c1, .slice A2 m2 c2, .slice A3 m3 c3] 31)).alloc (.cells #[.int .i64 2, .int .i64 n] 26)).heap.size = w.heap.size + 1 + 1 by simp] at XR
  have BW := Lib.hid (show (((w.alloc (.cells #[.slice A1 m1 c1, .slice A2 m2 c2, .slice A3 m3 c3] 31)).alloc (.cells #[.int .i64 2, .int .i64 n] 26)).alloc (.cells #[.slice none 0 0, .slice none 0 0, .slice none 0 0] 31)).heap.size = w.heap.size + 3 by simp)
  have ST := Lib.hid (fun w' (_ : Nx w w') => set_no A2 m2 c2 n v hn w')
  go_enter Try.func60, Try.ntmps60
  go_wp2_with fail
  generalize ((w.alloc (.cells #[.slice A1 m1 c1, .slice A2 m2 c2, .slice A3 m3 c3] 31)).alloc (.cells #[.int .i64 2, .int .i64 n] 26)).alloc (.cells #[.slice none 0 0, .slice none 0 0, .slice none 0 0] 31) = W at *
  refine (indexOf_any _ _).mono ?_
  rw [show ixI 2 = 1 from rfl, show ixB 2 = true from rfl]
  rintro e w' ⟨rfl, rfl⟩
  have t0 := XT.out.cell 0 rfl
  have t1 := XT.out.cell 1 rfl
  have t2 := XT.out.cell 2 rfl
  go_wp2_with fail
  clear t0 t1 t2
  refine (imagesOf_any _ _ _ _ _ _ _ _ _ _).mono ?_
  rintro e w1 ⟨rfl, h1⟩
  have XB := Lib.hid (bx_new w1 53 [.slice A1 m1 c1, .slice A2 m2 c2, .slice A3 m3 c3])
  have XA1 := Lib.hid (XA.out.nx (h1.alloc (.cells #[.slice A1 m1 c1, .slice A2 m2 c2, .slice A3 m3 c3] 53)))
  have XR1 := Lib.hid (XR.out.nx (h1.alloc (.cells #[.slice A1 m1 c1, .slice A2 m2 c2, .slice A3 m3 c3] 53)))
  have H1 := Lib.hid (N0.out.trans (h1.alloc (.cells #[.slice A1 m1 c1, .slice A2 m2 c2, .slice A3 m3 c3] 53)))
  have B1 := Lib.hid (show w.heap.size + 3 ≤ w1.heap.size by have := h1.size; rw [BW.out] at this; exact this)
  clear h1
  go_wp2_with fail
  have XB' : Bx (w1.alloc (.cells #[.slice A1 m1 c1, .slice A2 m2 c2, .slice A3 m3 c3] 53)) w1.heap.size 53 [.slice A1 m1 c1, .slice A2 m2 c2, .slice A3 m3 c3] := XB.out
  clear XB
  have XB := Lib.hid XB'
  clear XB'
  generalize w1.alloc (.cells #[.slice A1 m1 c1, .slice A2 m2 c2, .slice A3 m3 c3] 53) = W1 at *
  generalize hb1 : w1.heap.size = b at *
  have HS := Lib.hid (show ∀ w', Nx W1 w' → w'.cell? ⟨b, 1, none⟩ = some (.slice A2 m2 c2) ∧ w'.cell? ⟨w.heap.size + 1, 1, none⟩ = some (.int .i64 n) from fun w' h => ⟨(XB.out.nx h).cell 1 rfl, (XA1.out.nx h).cell 1 rfl⟩)
  obtain ⟨g1, g2⟩ := HS.out W1 (Nx.refl _)
  go_region_held3 (fun w' => w'.cell? ⟨b, 1, none⟩ = some (.slice A2 m2 c2) ∧ w'.cell? ⟨w.heap.size + 1, 1, none⟩ = some (.int .i64 n)) (first | exact HS.out _ (by repeat (first | exact Nx.refl _ | assumption | refine Nx.drew ?_ | refine Nx.drewN ?_ _ | refine Nx.alloc ?_ _ | refine Nx.trans ?_ (by assumption))) | go_keep)
    (first | (go_at_call 63; refine (ST.out _ (H1.out.drew)).mono ?_; rintro e w2 ⟨rfl, rfl⟩))
  have XR2 := XR1.out.nx ((Nx.refl W1).drew)
  have r0 := XR2.cell 0 rfl
  have r1 := XR2.cell 1 rfl
  have r2 := XR2.cell 2 rfl
  have q0 := XR2.frozen 0
  have q1 := XR2.frozen 1
  have q2 := XR2.frozen 2
  have z0 := (XR2.put 0 (.slice none 0 0)).cell 0 rfl
  have z1 := ((XR2.put 0 (.slice none 0 0)).put 1 (.slice none 0 0)).cell 1 rfl
  have z2 := (((XR2.put 0 (.slice none 0 0)).put 1 (.slice none 0 0)).put 2 (.slice none 0 0)).cell 2 rfl
  have H2 := H1.out.drew
  clear XR2 g1 g2
  generalize W1.drew = W2 at *
  go_wp2
  try simp only [Exit.inBlock, Exit.then]
  refine bodyPost_ret (by simp [results, Try.results60, go_sem, z0, z1, z2]; try rfl) rfl ?_
  exact ⟨rfl, ((H2.set (by omega) _).set (by omega) _).set (by omega) _⟩

set_option maxHeartbeats 1600000 in
set_option maxRecDepth 100000 in
theorem write_ok2 (A1 A2 A3 : Option Addr) (m1 m2 m3 c1 c2 c3 : Nat) (x1 x2 x3 : List Bool) (p : Nat) (v : Bool) (hp : p < m2) (hm1 : m1 ≤ 1000000) (hm2 : m2 ≤ 1000000) (hm3 : m3 ≤ 1000000) (w : World) (hx1 : Im w A1 m1 c1 x1) (hx2 : Im w A2 m2 c2 x2) (hx3 : Im w A3 m3 c3 x3) :
    Calls Try.prog 60 #[.agg #[.slice A1 m1 c1, .slice A2 m2 c2, .slice A3 m3 c3], .agg #[.int .i64 2, .int .i64 (p : Nat)], .bool v] w fun e w' => ∃ s, e = .returned (.tuple #[s, .int .i64 0]) ∧ OwS w' w.heap.size s m1 m2 m3 x1 (x2.set p v) x3 ∧ Nx w w' := by
  have N0 := Lib.hid (show Nx w (((w.alloc (.cells #[.slice A1 m1 c1, .slice A2 m2 c2, .slice A3 m3 c3] 31)).alloc (.cells #[.int .i64 2, .int .i64 (p : Nat)] 26)).alloc (.cells #[.slice none 0 0, .slice none 0 0, .slice none 0 0] 31)) from ((Nx.one _ _).alloc _).alloc _)
  have XT := Lib.hid (((bx_new w 31 [.slice A1 m1 c1, .slice A2 m2 c2, .slice A3 m3 c3]).nx (Nx.one _ (.cells #[.int .i64 2, .int .i64 (p : Nat)] 26))).nx (Nx.one _ (.cells #[.slice none 0 0, .slice none 0 0, .slice none 0 0] 31)))
  have XA := Lib.hid ((bx_new (w.alloc (.cells #[.slice A1 m1 c1, .slice A2 m2 c2, .slice A3 m3 c3] 31)) 26 [.int .i64 2, .int .i64 (p : Nat)]).nx (Nx.one _ (.cells #[.slice none 0 0, .slice none 0 0, .slice none 0 0] 31)))
  rw [show (w.alloc (.cells #[.slice A1 m1 c1, .slice A2 m2 c2, .slice A3 m3 c3] 31)).heap.size = w.heap.size + 1 by simp] at XA
  have XR := Lib.hid (bx_new ((w.alloc (.cells #[.slice A1 m1 c1, .slice A2 m2 c2, .slice A3 m3 c3] 31)).alloc (.cells #[.int .i64 2, .int .i64 (p : Nat)] 26)) 31 [.slice none 0 0, .slice none 0 0, .slice none 0 0])
  rw [show ((w.alloc (.cells #[.slice A1 m1 c1, .slice A2 m2 c2, .slice A3 m3 c3] 31)).alloc (.cells #[.int .i64 2, .int .i64 (p : Nat)] 26)).heap.size = w.heap.size + 1 + 1 by simp] at XR
  have BW := Lib.hid (show (((w.alloc (.cells #[.slice A1 m1 c1, .slice A2 m2 c2, .slice A3 m3 c3] 31)).alloc (.cells #[.int .i64 2, .int .i64 (p : Nat)] 26)).alloc (.cells #[.slice none 0 0, .slice none 0 0, .slice none 0 0] 31)).heap.size = w.heap.size + 3 by simp)
  have I1 := Lib.hid hx1
  have I2 := Lib.hid hx2
  have I3 := Lib.hid hx3
  have ST := Lib.hid (fun w' (k : Nx w w') => im_set_ok p v hp hm2 w' (hx2.nx k))
  clear hx1 hx2 hx3
  go_enter Try.func60, Try.ntmps60
  go_wp2_with fail
  generalize ((w.alloc (.cells #[.slice A1 m1 c1, .slice A2 m2 c2, .slice A3 m3 c3] 31)).alloc (.cells #[.int .i64 2, .int .i64 (p : Nat)] 26)).alloc (.cells #[.slice none 0 0, .slice none 0 0, .slice none 0 0] 31) = W at *
  refine (indexOf_any _ _).mono ?_
  rw [show ixI 2 = 1 from rfl, show ixB 2 = true from rfl]
  rintro e w' ⟨rfl, rfl⟩
  have t0 := XT.out.cell 0 rfl
  have t1 := XT.out.cell 1 rfl
  have t2 := XT.out.cell 2 rfl
  go_wp2_with fail
  clear t0 t1 t2
  refine (imagesOf_any _ _ _ _ _ _ _ _ _ _).mono ?_
  rintro e w1 ⟨rfl, h1⟩
  have XB := Lib.hid (bx_new w1 53 [.slice A1 m1 c1, .slice A2 m2 c2, .slice A3 m3 c3])
  have XA1 := Lib.hid (XA.out.nx (h1.alloc (.cells #[.slice A1 m1 c1, .slice A2 m2 c2, .slice A3 m3 c3] 53)))
  have XR1 := Lib.hid (XR.out.nx (h1.alloc (.cells #[.slice A1 m1 c1, .slice A2 m2 c2, .slice A3 m3 c3] 53)))
  have H1 := Lib.hid (N0.out.trans (h1.alloc (.cells #[.slice A1 m1 c1, .slice A2 m2 c2, .slice A3 m3 c3] 53)))
  have B1 := Lib.hid (show w.heap.size + 3 ≤ w1.heap.size by have := h1.size; rw [BW.out] at this; exact this)
  clear h1
  go_wp2_with fail
  have XB' : Bx (w1.alloc (.cells #[.slice A1 m1 c1, .slice A2 m2 c2, .slice A3 m3 c3] 53)) w1.heap.size 53 [.slice A1 m1 c1, .slice A2 m2 c2, .slice A3 m3 c3] := XB.out
  clear XB
  have XB := Lib.hid XB'
  clear XB'
  generalize w1.alloc (.cells #[.slice A1 m1 c1, .slice A2 m2 c2, .slice A3 m3 c3] 53) = W1 at *
  generalize hb1 : w1.heap.size = b at *
  have HS := Lib.hid (show ∀ w', Nx W1 w' → w'.cell? ⟨b, 1, none⟩ = some (.slice A2 m2 c2) ∧ w'.cell? ⟨w.heap.size + 1, 1, none⟩ = some (.int .i64 (p : Nat)) from fun w' h => ⟨(XB.out.nx h).cell 1 rfl, (XA1.out.nx h).cell 1 rfl⟩)
  obtain ⟨g1, g2⟩ := HS.out W1 (Nx.refl _)
  go_region_held3 (fun w' => w'.cell? ⟨b, 1, none⟩ = some (.slice A2 m2 c2) ∧ w'.cell? ⟨w.heap.size + 1, 1, none⟩ = some (.int .i64 (p : Nat))) (first | exact HS.out _ (by repeat (first | exact Nx.refl _ | assumption | refine Nx.drew ?_ | refine Nx.drewN ?_ _ | refine Nx.alloc ?_ _ | refine Nx.trans ?_ (by assumption))) | go_keep)
    (first | (go_at_call 63; refine (ST.out _ (H1.out.drew)).mono ?_; rintro e w2 ⟨g, cg, rfl, ho, h2⟩))
  clear g1 g2
  have h2' := (Nx.refl W1).drew.trans h2
  have Y := Lib.hid (XB.out.nx h2')
  have gg := Y.out.cell 1 rfl
  have f := Y.out.frozen 1
  have D := Lib.hid (show b < g by have h1 := ho.base_le; have h3 := XB.out.lt; have h4 : W1.heap.size = W1.drew.heap.size := rfl; omega)
  have XB3 := Lib.hid (Y.out.put 1 (.slice (some ⟨g, 0, none⟩) m2 cg))
  have XR3 := Lib.hid ((XR1.out.nx h2').far (b := b) (i := 1) (o := none) (by have := B1.out; omega) (.slice (some ⟨g, 0, none⟩) m2 cg))
  have H3 := Lib.hid ((H1.out.trans h2').set (g := b) (i := 1) (o := none) (by have := B1.out; omega) (.slice (some ⟨g, 0, none⟩) m2 cg))
  have O3 := Lib.hid (ho.far (b := b) (i := 1) (o := none) (by have := D.out; omega) (.slice (some ⟨g, 0, none⟩) m2 cg))
  clear h2 h2' ho
  have u0 := XB3.out.cell 0 rfl
  have u1 := XB3.out.cell 1 rfl
  have u2 := XB3.out.cell 2 rfl
  go_wp2_with fail
  clear gg f u0 u1 u2
  refine (stateOf_any _ _ _ _ _ _ _ _ _ _).mono ?_
  rintro e w4 ⟨rfl, h4⟩
  have CL := Lib.hid (clone_ok A1 (some ⟨g, 0, none⟩) A3 m1 m2 m3 c1 cg c3 _ _ _ hm1 hm2 hm3 w4 (I1.out.nx (H3.out.trans h4)) ((O3.out.nx h4).im (by rw [List.length_set]; exact I2.out.2.1)) (I3.out.nx (H3.out.trans h4)))
  have XR4 := Lib.hid (XR3.out.nx h4)
  have H4 := Lib.hid (H3.out.trans h4)
  clear h4
  go_wp2_with fail
  refine CL.out.mono ?_
  rintro e w5 ⟨s, rfl, ⟨a1, a2, a3, d1, d2, d3, rfl, hlt, ⟨o1, l1⟩, ⟨o2, l2⟩, ⟨o3, l3⟩⟩, h5⟩
  have XR5 := Lib.hid (XR4.out.nx h5)
  have r1 := XR5.out.cell 0 rfl
  have r2 := XR5.out.cell 1 rfl
  have r3 := XR5.out.cell 2 rfl
  have q1 := XR5.out.frozen 0
  have q2 := XR5.out.frozen 1
  have q3 := XR5.out.frozen 2
  have Z1 := XR5.out.put 0 (.slice (some ⟨a1, 0, none⟩) m1 d1)
  have Z2 := Z1.put 1 (.slice (some ⟨a2, 0, none⟩) m2 d2)
  have Z3 := Z2.put 2 (.slice (some ⟨a3, 0, none⟩) m3 d3)
  have z1 := Z1.cell 0 rfl
  have z2 := Z2.cell 1 rfl
  have z3 := Z3.cell 2 rfl
  have HL := Lib.hid hlt
  have O1 := Lib.hid (o1.low H4.out.size)
  have O2 := Lib.hid (o2.low H4.out.size)
  have O5 := Lib.hid (o3.low H4.out.size)
  have L1 := Lib.hid l1
  have L2 := Lib.hid l2
  have L3 := Lib.hid l3
  have E1 := Lib.hid (show w.heap.size + 1 + 1 < a1 by have h1 := o1.base_le; have h2 := XR4.out.lt; omega)
  have H5 := Lib.hid (H4.out.trans h5)
  clear Z1 Z2 Z3 o1 o2 o3 l1 l2 l3 h5 hlt
  go_wp2
  try simp only [Exit.inBlock, Exit.then]
  refine bodyPost_ret (by simp [results, Try.results60, go_sem, z1, z2, z3]; try rfl) rfl ?_
  have e1 := E1.out
  have hl := HL.out
  exact ⟨_, rfl, ⟨a1, a2, a3, d1, d2, d3, rfl, hl, ⟨((O1.out.far (by omega) _).far (by omega) _).far (by omega) _, L1.out⟩, ⟨((O2.out.far (by omega) _).far (by omega) _).far (by omega) _, L2.out⟩, ⟨((O5.out.far (by omega) _).far (by omega) _).far (by omega) _, L3.out⟩⟩,
    ((H5.out.set (by omega) _).set (by omega) _).set (by omega) _⟩
end
section
open Go.RowKit

theorem write_any (A1 A2 A3 : Option Addr) (m1 m2 m3 c1 c2 c3 : Nat) (x1 x2 x3 : List Bool) (k n : Int) (v : Bool) (hm1 : m1 ≤ 1000000) (hm2 : m2 ≤ 1000000) (hm3 : m3 ≤ 1000000) (w : World)
    (hx1 : Im w A1 m1 c1 x1) (hx2 : Im w A2 m2 c2 x2) (hx3 : Im w A3 m3 c3 x3) :
    Calls Try.prog 60 #[.agg #[.slice A1 m1 c1, .slice A2 m2 c2, .slice A3 m3 c3], .agg #[.int .i64 k, .int .i64 n], .bool v] w (WrP m1 m2 m3 x1 x2 x3 k n v w) := by
  unfold WrP
  by_cases k1 : k = 1
  · subst k1
    by_cases hn : 0 ≤ n ∧ n < (m1 : Int)
    · have e : wrE x1 x2 1 n = 0 := by unfold wrE rdE; rw [if_pos rfl, if_pos (by rw [hx1.2.1]; exact hn)]
      have hp : ((n.toNat : Nat) : Int) = n := Int.toNat_of_nonneg hn.1
      have := write_ok1 A1 A2 A3 m1 m2 m3 c1 c2 c3 x1 x2 x3 n.toNat v (by omega) hm1 hm2 hm3 w hx1 hx2 hx3
      rw [hp] at this
      refine this.mono ?_
      rintro en w' ⟨s, rfl, h1, h2⟩
      rw [e, show wrQ x1 1 n v = x1.set n.toNat v from if_pos rfl, show wrM x2 1 n v = x2 from if_neg (by decide)]
      exact ⟨fun h => absurd rfl h, fun _ => ⟨s, rfl, h1⟩, h2⟩
    · have e : wrE x1 x2 1 n = 3 := by unfold wrE rdE; rw [if_pos rfl, if_neg (by rw [hx1.2.1]; exact hn)]
      refine (write_no1 A1 A2 A3 m1 m2 m3 c1 c2 c3 n v hn w).mono ?_
      rintro en w' ⟨rfl, h2⟩
      rw [e]
      exact ⟨fun _ => rfl, fun h => by omega, h2⟩
  by_cases k2 : k = 2
  · subst k2
    by_cases hn : 0 ≤ n ∧ n < (m2 : Int)
    · have e : wrE x1 x2 2 n = 0 := by unfold wrE rdE; rw [if_neg (by decide), if_pos rfl, if_pos (by rw [hx2.2.1]; exact hn)]
      have hp : ((n.toNat : Nat) : Int) = n := Int.toNat_of_nonneg hn.1
      have := write_ok2 A1 A2 A3 m1 m2 m3 c1 c2 c3 x1 x2 x3 n.toNat v (by omega) hm1 hm2 hm3 w hx1 hx2 hx3
      rw [hp] at this
      refine this.mono ?_
      rintro en w' ⟨s, rfl, h1, h2⟩
      rw [e, show wrQ x1 2 n v = x1 from if_neg (by decide), show wrM x2 2 n v = x2.set n.toNat v from if_pos rfl]
      exact ⟨fun h => absurd rfl h, fun _ => ⟨s, rfl, h1⟩, h2⟩
    · have e : wrE x1 x2 2 n = 3 := by unfold wrE rdE; rw [if_neg (by decide), if_pos rfl, if_neg (by rw [hx2.2.1]; exact hn)]
      refine (write_no2 A1 A2 A3 m1 m2 m3 c1 c2 c3 n v hn w).mono ?_
      rintro en w' ⟨rfl, h2⟩
      rw [e]
      exact ⟨fun _ => rfl, fun h => by omega, h2⟩
  have e : wrE x1 x2 k n = 8 := by unfold wrE; rw [if_neg k1, if_neg k2]
  refine (write_kind A1 A2 A3 m1 m2 m3 c1 c2 c3 k n v k1 k2 w).mono ?_
  rintro en w' ⟨rfl, h2⟩
  rw [e]
  exact ⟨fun _ => rfl, fun h => by omega, h2⟩
end
section
open Go.RowKit

/-- A state whose images read so. -/
def ImS (w : World) (s : Value) (x1 x2 x3 : List Bool) : Prop := ∃ A1 A2 A3 c1 c2 c3, s = .agg #[.slice A1 x1.length c1, .slice A2 x2.length c2, .slice A3 x3.length c3] ∧ Im w A1 x1.length c1 x1 ∧ Im w A2 x2.length c2 x2 ∧ Im w A3 x3.length c3 x3
theorem ImS.nx {w w' : World} {s : Value} {x1 x2 x3 : List Bool} (h : ImS w s x1 x2 x3) (k : Nx w w') : ImS w' s x1 x2 x3 := by
  obtain ⟨A1, A2, A3, c1, c2, c3, rfl, h1, h2, h3⟩ := h
  exact ⟨A1, A2, A3, c1, c2, c3, rfl, h1.nx k, h2.nx k, h3.nx k⟩
/-- An image; what holds something lies from block B on. -/
def ImB (w : World) (B : Nat) (A : Option Addr) (m c : Nat) (x : List Bool) : Prop := Im w A m c x ∧ (0 < x.length → ∀ ad, A = some ad → B ≤ ad.block)
theorem ImB.low {w : World} {B B' : Nat} {A : Option Addr} {m c : Nat} {x : List Bool} (h : ImB w B A m c x) (hb : B' ≤ B) : ImB w B' A m c x := ⟨h.1, fun h0 ad e => Nat.le_trans hb (h.2 h0 ad e)⟩
theorem ImB.nx {w w' : World} {B : Nat} {A : Option Addr} {m c : Nat} {x : List Bool} (h : ImB w B A m c x) (k : Nx w w') : ImB w' B A m c x := ⟨h.1.nx k, h.2⟩
/-- A state whose images read so, and lie from block B on. -/
def ImSB (w : World) (B : Nat) (s : Value) (x1 x2 x3 : List Bool) : Prop := ∃ A1 A2 A3 c1 c2 c3, s = .agg #[.slice A1 x1.length c1, .slice A2 x2.length c2, .slice A3 x3.length c3] ∧ ImB w B A1 x1.length c1 x1 ∧ ImB w B A2 x2.length c2 x2 ∧ ImB w B A3 x3.length c3 x3
theorem ImSB.ims {w : World} {B : Nat} {s : Value} {x1 x2 x3 : List Bool} (h : ImSB w B s x1 x2 x3) : ImS w s x1 x2 x3 := by
  obtain ⟨A1, A2, A3, c1, c2, c3, rfl, h1, h2, h3⟩ := h
  exact ⟨A1, A2, A3, c1, c2, c3, rfl, h1.1, h2.1, h3.1⟩
theorem Ow.imB {w : World} {B : Nat} {v : Value} {x : List Bool} (h : Ow w B v x) : ∃ A c, v = .slice A x.length c ∧ ImB w B A x.length c x := by
  obtain ⟨A, c, rfl, hi⟩ := h.im
  refine ⟨A, c, rfl, hi, fun h0 ad e => ?_⟩
  subst e
  exact (World.ownsRow.lt h ad.block rfl).1
theorem OS.imsB {w : World} {B : Nat} {s : Value} {x1 x2 x3 : List Bool} (h : OS w B s x1 x2 x3) : ImSB w B s x1 x2 x3 := by
  obtain ⟨v1, v2, v3, rfl, h1, h2, h3⟩ := h
  obtain ⟨A1, c1, rfl, i1⟩ := h1.imB
  obtain ⟨A2, c2, rfl, i2⟩ := h2.imB
  obtain ⟨A3, c3, rfl, i3⟩ := h3.imB
  exact ⟨A1, A2, A3, c1, c2, c3, rfl, i1, i2, i3⟩
theorem OS.ims {w : World} {B : Nat} {s : Value} {x1 x2 x3 : List Bool} (h : OS w B s x1 x2 x3) : ImS w s x1 x2 x3 := by
  obtain ⟨v1, v2, v3, rfl, h1, h2, h3⟩ := h
  obtain ⟨A1, c1, rfl, i1⟩ := h1.im
  obtain ⟨A2, c2, rfl, i2⟩ := h2.im
  obtain ⟨A3, c3, rfl, i3⟩ := h3.im
  exact ⟨A1, A2, A3, c1, c2, c3, rfl, i1, i2, i3⟩
theorem OwS.ims {w : World} {B : Nat} {s : Value} {m1 m2 m3 : Nat} {x1 x2 x3 : List Bool} (h : OwS w B s m1 m2 m3 x1 x2 x3) : ImS w s x1 x2 x3 := by
  obtain ⟨g1, g2, g3, c1, c2, c3, rfl, _, ⟨o1, rfl⟩, ⟨o2, rfl⟩, ⟨o3, rfl⟩⟩ := h
  exact ⟨_, _, _, c1, c2, c3, rfl, o1.im rfl, o2.im rfl, o3.im rfl⟩
theorem ims_zero (w : World) : ImS w zst [] [] [] := ⟨none, none, none, 0, 0, 0, rfl, ⟨fun k b hk => by simp at hk, rfl, fun _ => rfl⟩, ⟨fun k b hk => by simp at hk, rfl, fun _ => rfl⟩, ⟨fun k b hk => by simp at hk, rfl, fun _ => rfl⟩⟩
def RwP (x1 x2 x3 : List Bool) (k n : Int) (v : Bool) (w : World) (e : Ending) (w' : World) : Prop :=
  (wrE x1 x2 k n ≠ 0 → e = .returned (.tuple #[zst, .int .i64 (wrE x1 x2 k n)])) ∧ (wrE x1 x2 k n = 0 → ∃ s, e = .returned (.tuple #[s, .int .i64 0]) ∧ ImSB w' w.heap.size s (wrQ x1 k n v) (wrM x2 k n v) x3) ∧ Nx w w'
theorem Ow.same {w w' : World} {B : Nat} {v : Value} {x : List Bool} (h : Ow w B v x) (hs : ∀ b, v.ownBlock = some b → B ≤ b → b < w.heap.size → w'.heap[b]? = w.heap[b]?) : Ow w' B v x := by
  refine ⟨h.1, ?_⟩
  rcases h.2 with hn | ⟨g, cap, cur, rfl, hb, hg, rest⟩
  · exact .inl hn
  · exact .inr ⟨g, cap, cur, rfl, hb, (hs g rfl hb (Array.getElem?_eq_some_iff.1 hg).1).trans hg, rest⟩
/-- A row's image, where another block alone has been written. -/
theorem Ow.off {w w' : World} {B g : Nat} {A : Option Addr} {c : Nat} {x : List Bool} (h : Ow w B (.slice A x.length c) x) (i : Im w A x.length c x) (hne : x ≠ [] → (Value.slice A x.length c).ownBlock ≠ some g) (k : ∀ b, b ≠ g → B ≤ b → b < w.heap.size → w'.heap[b]? = w.heap[b]?) : ImB w' B A x.length c x := by
  by_cases hx : x = []
  · subst hx
    exact ⟨⟨fun k b hk => by simp at hk, i.2⟩, fun h0 => absurd h0 (by simp)⟩
  · have h' : Ow w' B (.slice A x.length c) x := h.same (fun b e h1 h2 => k b (fun e' => hne hx (by rw [e, e'])) h1 h2)
    obtain ⟨A', c', e, i'⟩ := h'.im
    simp only [Value.slice.injEq] at e
    obtain ⟨rfl, _, rfl⟩ := e
    exact ⟨i', fun _ ad e => by subst e; exact (World.ownsRow.lt h ad.block rfl).1⟩

theorem four_far {w1 : World} {g p r : Nat} {u v0 v1 v2 : Value} {o : Obj} (b : Nat) (h1 : b ≠ g) (h2 : b ≠ r) (h3 : b < w1.heap.size) :
    (((((w1.setCell ⟨g, p, none⟩ u).alloc o).setCell ⟨r, 0, none⟩ v0).setCell ⟨r, 1, none⟩ v1).setCell ⟨r, 2, none⟩ v2).heap[b]? = w1.heap[b]? :=
  (Deep.blk_setCell_other _ ⟨r, 2, none⟩ _ b h2).trans ((Deep.blk_setCell_other _ ⟨r, 1, none⟩ _ b h2).trans ((Deep.blk_setCell_other _ ⟨r, 0, none⟩ _ b h2).trans ((Deep.blk_alloc_lt _ _ b (by rw [Deep.nblk_setCell]; exact h3)).trans (Deep.blk_setCell_other w1 ⟨g, p, none⟩ _ b h1))))
end
section
open Go.RowKit

/-- Are all three small? -/
def sm (m1 m2 m3 : Nat) : Prop := m1 ≤ 1000 ∧ m2 ≤ 1000 ∧ m3 ≤ 1000
set_option maxHeartbeats 1600000 in
set_option maxRecDepth 100000 in
theorem large1_no (g : Nat) (A1 A2 A3 : Option Addr) (m1 m2 m3 c1 c2 c3 : Nat) (h : sm m1 m2 m3) (w : World) (hb : Bx w g 31 [.slice A1 m1 c1, .slice A2 m2 c2, .slice A3 m3 c3]) : Calls Try.prog 14 #[.slice (some ⟨g, 0, none⟩) 1 1] w fun e w' => e = .returned (.int .i64 0) ∧ Nx w w' := by
  have XB := Lib.hid hb
  clear hb
  obtain ⟨h1, h2, h3⟩ := h
  have t0 : ¬ (1000 : Int) < (m1 : Int) := by omega
  have t1 : ¬ (1000 : Int) < (m2 : Int) := by omega
  have t2 : ¬ (1000 : Int) < (m3 : Int) := by omega
  have e0 := XB.out.cell 0 rfl
  have e1 := XB.out.cell 1 rfl
  have e2 := XB.out.cell 2 rfl
  clear XB
  go_enter Try.func14, Try.ntmps14
  go_wp2_with fail
  refine wp_loop_rounds 2 ?_
  rw [rounds_succ]
  go_wp2
  rw [rounds_succ]
  go_wp2
  go_ret
  exact ⟨rfl, (by repeat (first | exact Nx.refl _ | assumption | refine Nx.drewN ?_ _ | refine Nx.drew ?_ | refine Nx.alloc ?_ _ | refine Nx.set ?_ (by first | exact Nat.le_refl _ | (simp; done) | (simp; omega)) _))⟩

set_option maxHeartbeats 1600000 in
set_option maxRecDepth 100000 in
theorem large1_yes (g : Nat) (A1 A2 A3 : Option Addr) (m1 m2 m3 c1 c2 c3 : Nat) (h : ¬ sm m1 m2 m3) (w : World) (hb : Bx w g 31 [.slice A1 m1 c1, .slice A2 m2 c2, .slice A3 m3 c3]) : Calls Try.prog 14 #[.slice (some ⟨g, 0, none⟩) 1 1] w fun e w' => e = .returned (.int .i64 1) ∧ Nx w w' := by
  have XB := Lib.hid hb
  clear hb
  by_cases b0 : 1000 < m1
  · have t0 : (1000 : Int) < (m1 : Int) := by omega
    have e0 := XB.out.cell 0 rfl
    have e1 := XB.out.cell 1 rfl
    have e2 := XB.out.cell 2 rfl
    clear XB h
    go_enter Try.func14, Try.ntmps14
    go_wp2_with fail
    refine wp_loop_rounds 2 ?_
    rw [rounds_succ]
    go_wp2
    go_ret
    exact ⟨rfl, (by repeat (first | exact Nx.refl _ | assumption | refine Nx.drewN ?_ _ | refine Nx.drew ?_ | refine Nx.alloc ?_ _ | refine Nx.set ?_ (by first | exact Nat.le_refl _ | (simp; done) | (simp; omega)) _))⟩
  by_cases b1 : 1000 < m2
  · have t0 : ¬ (1000 : Int) < (m1 : Int) := by omega
    have t1 : (1000 : Int) < (m2 : Int) := by omega
    have e0 := XB.out.cell 0 rfl
    have e1 := XB.out.cell 1 rfl
    have e2 := XB.out.cell 2 rfl
    clear XB h
    go_enter Try.func14, Try.ntmps14
    go_wp2_with fail
    refine wp_loop_rounds 2 ?_
    rw [rounds_succ]
    go_wp2
    go_ret
    exact ⟨rfl, (by repeat (first | exact Nx.refl _ | assumption | refine Nx.drewN ?_ _ | refine Nx.drew ?_ | refine Nx.alloc ?_ _ | refine Nx.set ?_ (by first | exact Nat.le_refl _ | (simp; done) | (simp; omega)) _))⟩
  have b2 : 1000 < m3 := by unfold sm at h; omega
  have t0 : ¬ (1000 : Int) < (m1 : Int) := by omega
  have t1 : ¬ (1000 : Int) < (m2 : Int) := by omega
  have t2 : (1000 : Int) < (m3 : Int) := by omega
  have e0 := XB.out.cell 0 rfl
  have e1 := XB.out.cell 1 rfl
  have e2 := XB.out.cell 2 rfl
  clear XB h
  go_enter Try.func14, Try.ntmps14
  go_wp2_with fail
  refine wp_loop_rounds 2 ?_
  rw [rounds_succ]
  go_wp2
  go_ret
  exact ⟨rfl, (by repeat (first | exact Nx.refl _ | assumption | refine Nx.drewN ?_ _ | refine Nx.drew ?_ | refine Nx.alloc ?_ _ | refine Nx.set ?_ (by first | exact Nat.le_refl _ | (simp; done) | (simp; omega)) _))⟩

set_option maxHeartbeats 1600000 in
set_option maxRecDepth 100000 in
theorem large2_no (g : Nat) (A1 A2 A3 : Option Addr) (m1 m2 m3 c1 c2 c3 : Nat) (B1 B2 B3 : Option Addr) (n1 n2 n3 d1 d2 d3 : Nat) (h : sm m1 m2 m3 ∧ sm n1 n2 n3) (w : World) (hb : Bx w g 31 [.slice A1 m1 c1, .slice A2 m2 c2, .slice A3 m3 c3, .slice B1 n1 d1, .slice B2 n2 d2, .slice B3 n3 d3]) : Calls Try.prog 14 #[.slice (some ⟨g, 0, none⟩) 2 2] w fun e w' => e = .returned (.int .i64 0) ∧ Nx w w' := by
  have XB := Lib.hid hb
  clear hb
  obtain ⟨⟨h1, h2, h3⟩, ⟨h4, h5, h6⟩⟩ := h
  have t0 : ¬ (1000 : Int) < (m1 : Int) := by omega
  have t1 : ¬ (1000 : Int) < (m2 : Int) := by omega
  have t2 : ¬ (1000 : Int) < (m3 : Int) := by omega
  have t3 : ¬ (1000 : Int) < (n1 : Int) := by omega
  have t4 : ¬ (1000 : Int) < (n2 : Int) := by omega
  have t5 : ¬ (1000 : Int) < (n3 : Int) := by omega
  have e0 := XB.out.cell 0 rfl
  have e1 := XB.out.cell 1 rfl
  have e2 := XB.out.cell 2 rfl
  have e3 := XB.out.cell 3 rfl
  have e4 := XB.out.cell 4 rfl
  have e5 := XB.out.cell 5 rfl
  have f3 := (XB.out.nx (Nx.one w (.cells #[.slice A1 m1 c1, .slice A2 m2 c2, .slice A3 m3 c3] 31))).cell 3 rfl
  have f4 := (XB.out.nx (Nx.one w (.cells #[.slice A1 m1 c1, .slice A2 m2 c2, .slice A3 m3 c3] 31))).cell 4 rfl
  have f5 := (XB.out.nx (Nx.one w (.cells #[.slice A1 m1 c1, .slice A2 m2 c2, .slice A3 m3 c3] 31))).cell 5 rfl
  clear XB
  go_enter Try.func14, Try.ntmps14
  go_wp2_with fail
  refine wp_loop_rounds 3 ?_
  rw [rounds_succ]
  go_wp2
  rw [rounds_succ]
  go_wp2
  rw [rounds_succ]
  go_wp2
  go_ret
  exact ⟨rfl, (by repeat (first | exact Nx.refl _ | assumption | refine Nx.drewN ?_ _ | refine Nx.drew ?_ | refine Nx.alloc ?_ _ | refine Nx.set ?_ (by first | exact Nat.le_refl _ | (simp; done) | (simp; omega)) _))⟩

set_option maxHeartbeats 1600000 in
set_option maxRecDepth 100000 in
theorem large2_yes (g : Nat) (A1 A2 A3 : Option Addr) (m1 m2 m3 c1 c2 c3 : Nat) (B1 B2 B3 : Option Addr) (n1 n2 n3 d1 d2 d3 : Nat) (h : ¬ (sm m1 m2 m3 ∧ sm n1 n2 n3)) (w : World) (hb : Bx w g 31 [.slice A1 m1 c1, .slice A2 m2 c2, .slice A3 m3 c3, .slice B1 n1 d1, .slice B2 n2 d2, .slice B3 n3 d3]) : Calls Try.prog 14 #[.slice (some ⟨g, 0, none⟩) 2 2] w fun e w' => e = .returned (.int .i64 1) ∧ Nx w w' := by
  have XB := Lib.hid hb
  clear hb
  by_cases b0 : 1000 < m1
  · have t0 : (1000 : Int) < (m1 : Int) := by omega
    have e0 := XB.out.cell 0 rfl
    have e1 := XB.out.cell 1 rfl
    have e2 := XB.out.cell 2 rfl
    have e3 := XB.out.cell 3 rfl
    have e4 := XB.out.cell 4 rfl
    have e5 := XB.out.cell 5 rfl
    have f3 := (XB.out.nx (Nx.one w (.cells #[.slice A1 m1 c1, .slice A2 m2 c2, .slice A3 m3 c3] 31))).cell 3 rfl
    have f4 := (XB.out.nx (Nx.one w (.cells #[.slice A1 m1 c1, .slice A2 m2 c2, .slice A3 m3 c3] 31))).cell 4 rfl
    have f5 := (XB.out.nx (Nx.one w (.cells #[.slice A1 m1 c1, .slice A2 m2 c2, .slice A3 m3 c3] 31))).cell 5 rfl
    clear XB h
    go_enter Try.func14, Try.ntmps14
    go_wp2_with fail
    refine wp_loop_rounds 3 ?_
    rw [rounds_succ]
    go_wp2
    go_ret
    exact ⟨rfl, (by repeat (first | exact Nx.refl _ | assumption | refine Nx.drewN ?_ _ | refine Nx.drew ?_ | refine Nx.alloc ?_ _ | refine Nx.set ?_ (by first | exact Nat.le_refl _ | (simp; done) | (simp; omega)) _))⟩
  by_cases b1 : 1000 < m2
  · have t0 : ¬ (1000 : Int) < (m1 : Int) := by omega
    have t1 : (1000 : Int) < (m2 : Int) := by omega
    have e0 := XB.out.cell 0 rfl
    have e1 := XB.out.cell 1 rfl
    have e2 := XB.out.cell 2 rfl
    have e3 := XB.out.cell 3 rfl
    have e4 := XB.out.cell 4 rfl
    have e5 := XB.out.cell 5 rfl
    have f3 := (XB.out.nx (Nx.one w (.cells #[.slice A1 m1 c1, .slice A2 m2 c2, .slice A3 m3 c3] 31))).cell 3 rfl
    have f4 := (XB.out.nx (Nx.one w (.cells #[.slice A1 m1 c1, .slice A2 m2 c2, .slice A3 m3 c3] 31))).cell 4 rfl
    have f5 := (XB.out.nx (Nx.one w (.cells #[.slice A1 m1 c1, .slice A2 m2 c2, .slice A3 m3 c3] 31))).cell 5 rfl
    clear XB h
    go_enter Try.func14, Try.ntmps14
    go_wp2_with fail
    refine wp_loop_rounds 3 ?_
    rw [rounds_succ]
    go_wp2
    go_ret
    exact ⟨rfl, (by repeat (first | exact Nx.refl _ | assumption | refine Nx.drewN ?_ _ | refine Nx.drew ?_ | refine Nx.alloc ?_ _ | refine Nx.set ?_ (by first | exact Nat.le_refl _ | (simp; done) | (simp; omega)) _))⟩
  by_cases b2 : 1000 < m3
  · have t0 : ¬ (1000 : Int) < (m1 : Int) := by omega
    have t1 : ¬ (1000 : Int) < (m2 : Int) := by omega
    have t2 : (1000 : Int) < (m3 : Int) := by omega
    have e0 := XB.out.cell 0 rfl
    have e1 := XB.out.cell 1 rfl
    have e2 := XB.out.cell 2 rfl
    have e3 := XB.out.cell 3 rfl
    have e4 := XB.out.cell 4 rfl
    have e5 := XB.out.cell 5 rfl
    have f3 := (XB.out.nx (Nx.one w (.cells #[.slice A1 m1 c1, .slice A2 m2 c2, .slice A3 m3 c3] 31))).cell 3 rfl
    have f4 := (XB.out.nx (Nx.one w (.cells #[.slice A1 m1 c1, .slice A2 m2 c2, .slice A3 m3 c3] 31))).cell 4 rfl
    have f5 := (XB.out.nx (Nx.one w (.cells #[.slice A1 m1 c1, .slice A2 m2 c2, .slice A3 m3 c3] 31))).cell 5 rfl
    clear XB h
    go_enter Try.func14, Try.ntmps14
    go_wp2_with fail
    refine wp_loop_rounds 3 ?_
    rw [rounds_succ]
    go_wp2
    go_ret
    exact ⟨rfl, (by repeat (first | exact Nx.refl _ | assumption | refine Nx.drewN ?_ _ | refine Nx.drew ?_ | refine Nx.alloc ?_ _ | refine Nx.set ?_ (by first | exact Nat.le_refl _ | (simp; done) | (simp; omega)) _))⟩
  by_cases b3 : 1000 < n1
  · have t0 : ¬ (1000 : Int) < (m1 : Int) := by omega
    have t1 : ¬ (1000 : Int) < (m2 : Int) := by omega
    have t2 : ¬ (1000 : Int) < (m3 : Int) := by omega
    have t3 : (1000 : Int) < (n1 : Int) := by omega
    have e0 := XB.out.cell 0 rfl
    have e1 := XB.out.cell 1 rfl
    have e2 := XB.out.cell 2 rfl
    have e3 := XB.out.cell 3 rfl
    have e4 := XB.out.cell 4 rfl
    have e5 := XB.out.cell 5 rfl
    have f3 := (XB.out.nx (Nx.one w (.cells #[.slice A1 m1 c1, .slice A2 m2 c2, .slice A3 m3 c3] 31))).cell 3 rfl
    have f4 := (XB.out.nx (Nx.one w (.cells #[.slice A1 m1 c1, .slice A2 m2 c2, .slice A3 m3 c3] 31))).cell 4 rfl
    have f5 := (XB.out.nx (Nx.one w (.cells #[.slice A1 m1 c1, .slice A2 m2 c2, .slice A3 m3 c3] 31))).cell 5 rfl
    clear XB h
    go_enter Try.func14, Try.ntmps14
    go_wp2_with fail
    refine wp_loop_rounds 3 ?_
    rw [rounds_succ]
    go_wp2
    rw [rounds_succ]
    go_wp2
    go_ret
    exact ⟨rfl, (by repeat (first | exact Nx.refl _ | assumption | refine Nx.drewN ?_ _ | refine Nx.drew ?_ | refine Nx.alloc ?_ _ | refine Nx.set ?_ (by first | exact Nat.le_refl _ | (simp; done) | (simp; omega)) _))⟩
  by_cases b4 : 1000 < n2
  · have t0 : ¬ (1000 : Int) < (m1 : Int) := by omega
    have t1 : ¬ (1000 : Int) < (m2 : Int) := by omega
    have t2 : ¬ (1000 : Int) < (m3 : Int) := by omega
    have t3 : ¬ (1000 : Int) < (n1 : Int) := by omega
    have t4 : (1000 : Int) < (n2 : Int) := by omega
    have e0 := XB.out.cell 0 rfl
    have e1 := XB.out.cell 1 rfl
    have e2 := XB.out.cell 2 rfl
    have e3 := XB.out.cell 3 rfl
    have e4 := XB.out.cell 4 rfl
    have e5 := XB.out.cell 5 rfl
    have f3 := (XB.out.nx (Nx.one w (.cells #[.slice A1 m1 c1, .slice A2 m2 c2, .slice A3 m3 c3] 31))).cell 3 rfl
    have f4 := (XB.out.nx (Nx.one w (.cells #[.slice A1 m1 c1, .slice A2 m2 c2, .slice A3 m3 c3] 31))).cell 4 rfl
    have f5 := (XB.out.nx (Nx.one w (.cells #[.slice A1 m1 c1, .slice A2 m2 c2, .slice A3 m3 c3] 31))).cell 5 rfl
    clear XB h
    go_enter Try.func14, Try.ntmps14
    go_wp2_with fail
    refine wp_loop_rounds 3 ?_
    rw [rounds_succ]
    go_wp2
    rw [rounds_succ]
    go_wp2
    go_ret
    exact ⟨rfl, (by repeat (first | exact Nx.refl _ | assumption | refine Nx.drewN ?_ _ | refine Nx.drew ?_ | refine Nx.alloc ?_ _ | refine Nx.set ?_ (by first | exact Nat.le_refl _ | (simp; done) | (simp; omega)) _))⟩
  have b5 : 1000 < n3 := by unfold sm at h; omega
  have t0 : ¬ (1000 : Int) < (m1 : Int) := by omega
  have t1 : ¬ (1000 : Int) < (m2 : Int) := by omega
  have t2 : ¬ (1000 : Int) < (m3 : Int) := by omega
  have t3 : ¬ (1000 : Int) < (n1 : Int) := by omega
  have t4 : ¬ (1000 : Int) < (n2 : Int) := by omega
  have t5 : (1000 : Int) < (n3 : Int) := by omega
  have e0 := XB.out.cell 0 rfl
  have e1 := XB.out.cell 1 rfl
  have e2 := XB.out.cell 2 rfl
  have e3 := XB.out.cell 3 rfl
  have e4 := XB.out.cell 4 rfl
  have e5 := XB.out.cell 5 rfl
  have f3 := (XB.out.nx (Nx.one w (.cells #[.slice A1 m1 c1, .slice A2 m2 c2, .slice A3 m3 c3] 31))).cell 3 rfl
  have f4 := (XB.out.nx (Nx.one w (.cells #[.slice A1 m1 c1, .slice A2 m2 c2, .slice A3 m3 c3] 31))).cell 4 rfl
  have f5 := (XB.out.nx (Nx.one w (.cells #[.slice A1 m1 c1, .slice A2 m2 c2, .slice A3 m3 c3] 31))).cell 5 rfl
  clear XB h
  go_enter Try.func14, Try.ntmps14
  go_wp2_with fail
  refine wp_loop_rounds 3 ?_
  rw [rounds_succ]
  go_wp2
  rw [rounds_succ]
  go_wp2
  go_ret
  exact ⟨rfl, (by repeat (first | exact Nx.refl _ | assumption | refine Nx.drewN ?_ _ | refine Nx.drew ?_ | refine Nx.alloc ?_ _ | refine Nx.set ?_ (by first | exact Nat.le_refl _ | (simp; done) | (simp; omega)) _))⟩
end
section
open Go.RowKit
end
end Go.Proofs.Ytdpccnpaajhliaa
