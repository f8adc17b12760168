/- What the reference's Write returns. Conditions: images that read as lists of bools, of at most a million. -/
import Derived.Test.YtndapcbjcannhaaS11
namespace Go.Proofs.Ytndapcbjcannhaa
open Go.RowKit

/-- A state whose images read so. -/
def ImS (w : World) (s : Value) (x1 x2 x3 : List Bool) : Prop := ∃ A1 A2 A3 c1 c2 c3, s = .agg #[.slice A1 x1.length c1, .slice A2 x2.length c2, .slice A3 x3.length c3] ∧ Im w A1 x1.length c1 x1 ∧ Im w A2 x2.length c2 x2 ∧ Im w A3 x3.length c3 x3
theorem ImS.nx {w w' : World} {s : Value} {x1 x2 x3 : List Bool} (h : ImS w s x1 x2 x3) (k : Nx w w') : ImS w' s x1 x2 x3 := by
  obtain ⟨A1, A2, A3, c1, c2, c3, rfl, h1, h2, h3⟩ := h
  exact ⟨A1, A2, A3, c1, c2, c3, rfl, h1.nx k, h2.nx k, h3.nx k⟩
theorem OS.ims {w : World} {B : Nat} {s : Value} {x1 x2 x3 : List Bool} (h : OS w B s x1 x2 x3) : ImS w s x1 x2 x3 := by
  obtain ⟨v1, v2, v3, rfl, h1, h2, h3⟩ := h
  obtain ⟨A1, c1, rfl, i1⟩ := h1.im
  obtain ⟨A2, c2, rfl, i2⟩ := h2.im
  obtain ⟨A3, c3, rfl, i3⟩ := h3.im
  exact ⟨A1, A2, A3, c1, c2, c3, rfl, i1, i2, i3⟩
theorem OwS.ims {w : World} {B : Nat} {s : Value} {m1 m2 m3 : Nat} {x1 x2 x3 : List Bool} (h : OwS w B s m1 m2 m3 x1 x2 x3) : ImS w s x1 x2 x3 := by
  obtain ⟨g1, g2, g3, c1, c2, c3, rfl, _, ⟨o1, rfl⟩, ⟨o2, rfl⟩, ⟨o3, rfl⟩⟩ := h
  exact ⟨_, _, _, c1, c2, c3, rfl, o1.im rfl, o2.im rfl, o3.im rfl⟩
theorem ims_zero (w : World) : ImS w zst [] [] [] := ⟨none, none, none, 0, 0, 0, rfl, ⟨fun k b hk => by simp at hk, rfl, fun _ => rfl⟩, ⟨fun k b hk => by simp at hk, rfl, fun _ => rfl⟩, ⟨fun k b hk => by simp at hk, rfl, fun _ => rfl⟩⟩
def RwP (x1 x2 x3 : List Bool) (k n : Int) (v : Bool) (w : World) (e : Ending) (w' : World) : Prop :=
  (wrE x1 x2 k n ≠ 0 → e = .returned (.tuple #[zst, .int .i64 (wrE x1 x2 k n)])) ∧ (wrE x1 x2 k n = 0 → ∃ s, e = .returned (.tuple #[s, .int .i64 0]) ∧ ImS w' s (wrQ x1 k n v) (wrM x2 k n v) x3) ∧ Nx w w'
theorem Ow.same {w w' : World} {B : Nat} {v : Value} {x : List Bool} (h : Ow w B v x) (hs : ∀ b, v.ownBlock = some b → B ≤ b → b < w.heap.size → w'.heap[b]? = w.heap[b]?) : Ow w' B v x := by
  refine ⟨h.1, ?_⟩
  rcases h.2 with hn | ⟨g, cap, cur, rfl, hb, hg, rest⟩
  · exact .inl hn
  · exact .inr ⟨g, cap, cur, rfl, hb, (hs g rfl hb (Array.getElem?_eq_some_iff.1 hg).1).trans hg, rest⟩
/-- A row's image, where another block alone has been written. -/
theorem Ow.off {w w' : World} {B g : Nat} {A : Option Addr} {c : Nat} {x : List Bool} (h : Ow w B (.slice A x.length c) x) (i : Im w A x.length c x) (hne : x ≠ [] → (Value.slice A x.length c).ownBlock ≠ some g) (k : ∀ b, b ≠ g → B ≤ b → b < w.heap.size → w'.heap[b]? = w.heap[b]?) : Im w' A x.length c x := by
  by_cases hx : x = []
  · subst hx
    exact ⟨fun k b hk => by simp at hk, i.2⟩
  · have h' : Ow w' B (.slice A x.length c) x := h.same (fun b e h1 h2 => k b (fun e' => hne hx (by rw [e, e'])) h1 h2)
    obtain ⟨A', c', e, i'⟩ := h'.im
    simp only [Value.slice.injEq] at e
    obtain ⟨rfl, _, rfl⟩ := e
    exact i'

theorem four_far {w1 : World} {g p r : Nat} {u v0 v1 v2 : Value} {o : Obj} (b : Nat) (h1 : b ≠ g) (h2 : b ≠ r) (h3 : b < w1.heap.size) :
    (((((w1.setCell ⟨g, p, none⟩ u).alloc o).setCell ⟨r, 0, none⟩ v0).setCell ⟨r, 1, none⟩ v1).setCell ⟨r, 2, none⟩ v2).heap[b]? = w1.heap[b]? :=
  (Deep.blk_setCell_other _ ⟨r, 2, none⟩ _ b h2).trans ((Deep.blk_setCell_other _ ⟨r, 1, none⟩ _ b h2).trans ((Deep.blk_setCell_other _ ⟨r, 0, none⟩ _ b h2).trans ((Deep.blk_alloc_lt _ _ b (by rw [Deep.nblk_setCell]; exact h3)).trans (Deep.blk_setCell_other w1 ⟨g, p, none⟩ _ b h1))))

set_option maxHeartbeats 1600000 in
set_option maxRecDepth 100000 in
theorem refWrite_kind (A1 A2 A3 : Option Addr) (m1 m2 m3 c1 c2 c3 : Nat) (x1 x2 x3 : List Bool) (k n : Int) (v : Bool) (h1 : k ≠ 1) (h2 : k ≠ 2) (hm1 : m1 ≤ 1000000) (hm2 : m2 ≤ 1000000) (hm3 : m3 ≤ 1000000) (w : World) (hx1 : Im w A1 m1 c1 x1) (hx2 : Im w A2 m2 c2 x2) (hx3 : Im w A3 m3 c3 x3) :
    Calls Try.prog 22 #[.agg #[.slice A1 m1 c1, .slice A2 m2 c2, .slice A3 m3 c3], .agg #[.int .i64 k, .int .i64 n], .bool v] w fun e w' => e = .returned (.tuple #[zst, .int .i64 8]) ∧ Nx w w' := by
  have t1 : (k == 1) = false := by simpa using h1
  have t2 : (k == 2) = false := by simpa using h2
  clear h1 h2
  have L1 := Lib.hid hx1.2.1
  have L2 := Lib.hid hx2.2.1
  have L3 := Lib.hid hx3.2.1
  have N0 := Lib.hid (show Nx w (((w.alloc (.cells #[.slice A1 m1 c1, .slice A2 m2 c2, .slice A3 m3 c3] 26)).alloc (.cells #[.int .i64 k, .int .i64 n] 40)).alloc (.cells #[.slice none 0 0, .slice none 0 0, .slice none 0 0] 26)) from ((Nx.one _ _).alloc _).alloc _)
  have CL := Lib.hid (refClone_ok A1 A2 A3 m1 m2 m3 c1 c2 c3 x1 x2 x3 hm1 hm2 hm3 (((w.alloc (.cells #[.slice A1 m1 c1, .slice A2 m2 c2, .slice A3 m3 c3] 26)).alloc (.cells #[.int .i64 k, .int .i64 n] 40)).alloc (.cells #[.slice none 0 0, .slice none 0 0, .slice none 0 0] 26)) (hx1.nx N0.out) (hx2.nx N0.out) (hx3.nx N0.out))
  have XA := Lib.hid ((bx_new (w.alloc (.cells #[.slice A1 m1 c1, .slice A2 m2 c2, .slice A3 m3 c3] 26)) 40 [.int .i64 k, .int .i64 n]).nx (Nx.one _ (.cells #[.slice none 0 0, .slice none 0 0, .slice none 0 0] 26)))
  rw [show (w.alloc (.cells #[.slice A1 m1 c1, .slice A2 m2 c2, .slice A3 m3 c3] 26)).heap.size = w.heap.size + 1 by simp] at XA
  have XR := Lib.hid (bx_new ((w.alloc (.cells #[.slice A1 m1 c1, .slice A2 m2 c2, .slice A3 m3 c3] 26)).alloc (.cells #[.int .i64 k, .int .i64 n] 40)) 26 [.slice none 0 0, .slice none 0 0, .slice none 0 0])
  rw [show ((w.alloc (.cells #[.slice A1 m1 c1, .slice A2 m2 c2, .slice A3 m3 c3] 26)).alloc (.cells #[.int .i64 k, .int .i64 n] 40)).heap.size = w.heap.size + 1 + 1 by simp] at XR
  have BW := Lib.hid (show (((w.alloc (.cells #[.slice A1 m1 c1, .slice A2 m2 c2, .slice A3 m3 c3] 26)).alloc (.cells #[.int .i64 k, .int .i64 n] 40)).alloc (.cells #[.slice none 0 0, .slice none 0 0, .slice none 0 0] 26)).heap.size = w.heap.size + 3 by simp)
  clear hx1 hx2 hx3
  go_enter Try.func22, Try.ntmps22
  go_wp2_with fail
  generalize ((w.alloc (.cells #[.slice A1 m1 c1, .slice A2 m2 c2, .slice A3 m3 c3] 26)).alloc (.cells #[.int .i64 k, .int .i64 n] 40)).alloc (.cells #[.slice none 0 0, .slice none 0 0, .slice none 0 0] 26) = W at *
  refine CL.out.mono ?_
  rintro e w1 ⟨s, rfl, ⟨v1, v2, v3, rfl, ⟨o1, o2, o3⟩, pa⟩, h1⟩
  have B1 := Lib.hid (show w.heap.size + 3 ≤ w1.heap.size by have := h1.size; rw [BW.out] at this; exact this)
  obtain ⟨B1', d1, rfl, i1⟩ := o1.im
  obtain ⟨B2', d2, rfl, i2⟩ := o2.im
  obtain ⟨B3', d3, rfl, i3⟩ := o3.im
  rw [L1.out, L2.out, L3.out]
  clear o1 o2 o3 i1 i2 i3 pa
  have XA1 := Lib.hid (XA.out.nx (h1.alloc (.cells #[.slice B1' m1 d1, .slice B2' m2 d2, .slice B3' m3 d3] 26)))
  have XR1 := Lib.hid (XR.out.nx (h1.alloc (.cells #[.slice B1' m1 d1, .slice B2' m2 d2, .slice B3' m3 d3] 26)))
  have H1 := Lib.hid (N0.out.trans (h1.alloc (.cells #[.slice B1' m1 d1, .slice B2' m2 d2, .slice B3' m3 d3] 26)))
  have XO := Lib.hid (show Bx (w1.alloc (.cells #[.slice B1' m1 d1, .slice B2' m2 d2, .slice B3' m3 d3] 26)) w1.heap.size 26 [.slice B1' m1 d1, .slice B2' m2 d2, .slice B3' m3 d3] from bx_new w1 26 [.slice B1' m1 d1, .slice B2' m2 d2, .slice B3' m3 d3])
  have ka := XA1.out.cell 0 rfl
  have na := XA1.out.cell 1 rfl
  have u0 := XO.out.cell 0 rfl
  have u1 := XO.out.cell 1 rfl
  have u2 := XO.out.cell 2 rfl
  have r0 := XR1.out.cell 0 rfl
  have r1 := XR1.out.cell 1 rfl
  have r2 := XR1.out.cell 2 rfl
  have q0 := XR1.out.frozen 0
  have q1 := XR1.out.frozen 1
  have q2 := XR1.out.frozen 2
  have z0 := (XR1.out.put 0 (.slice none 0 0)).cell 0 rfl
  have z1 := ((XR1.out.put 0 (.slice none 0 0)).put 1 (.slice none 0 0)).cell 1 rfl
  have z2 := (((XR1.out.put 0 (.slice none 0 0)).put 1 (.slice none 0 0)).put 2 (.slice none 0 0)).cell 2 rfl
  clear h1
  go_wp2
  try simp only [Exit.inBlock, Exit.then]
  refine bodyPost_ret (by simp [results, Try.results22, go_sem, z0, z1, z2]; try rfl) rfl ?_
  exact ⟨rfl, ((H1.out.set (by omega) _).set (by omega) _).set (by omega) _⟩

set_option maxHeartbeats 1600000 in
set_option maxRecDepth 100000 in
theorem refWrite_no1 (A1 A2 A3 : Option Addr) (m1 m2 m3 c1 c2 c3 : Nat) (x1 x2 x3 : List Bool) (n : Int) (v : Bool) (hn : ¬ (0 ≤ n ∧ n < (m1 : Nat))) (hm1 : m1 ≤ 1000000) (hm2 : m2 ≤ 1000000) (hm3 : m3 ≤ 1000000) (w : World) (hx1 : Im w A1 m1 c1 x1) (hx2 : Im w A2 m2 c2 x2) (hx3 : Im w A3 m3 c3 x3) :
    Calls Try.prog 22 #[.agg #[.slice A1 m1 c1, .slice A2 m2 c2, .slice A3 m3 c3], .agg #[.int .i64 1, .int .i64 n], .bool v] w fun e w' => e = .returned (.tuple #[zst, .int .i64 3]) ∧ Nx w w' := by
  have L1 := Lib.hid hx1.2.1
  have L2 := Lib.hid hx2.2.1
  have L3 := Lib.hid hx3.2.1
  have N0 := Lib.hid (show Nx w (((w.alloc (.cells #[.slice A1 m1 c1, .slice A2 m2 c2, .slice A3 m3 c3] 26)).alloc (.cells #[.int .i64 1, .int .i64 n] 40)).alloc (.cells #[.slice none 0 0, .slice none 0 0, .slice none 0 0] 26)) from ((Nx.one _ _).alloc _).alloc _)
  have CL := Lib.hid (refClone_ok A1 A2 A3 m1 m2 m3 c1 c2 c3 x1 x2 x3 hm1 hm2 hm3 (((w.alloc (.cells #[.slice A1 m1 c1, .slice A2 m2 c2, .slice A3 m3 c3] 26)).alloc (.cells #[.int .i64 1, .int .i64 n] 40)).alloc (.cells #[.slice none 0 0, .slice none 0 0, .slice none 0 0] 26)) (hx1.nx N0.out) (hx2.nx N0.out) (hx3.nx N0.out))
  have XA := Lib.hid ((bx_new (w.alloc (.cells #[.slice A1 m1 c1, .slice A2 m2 c2, .slice A3 m3 c3] 26)) 40 [.int .i64 1, .int .i64 n]).nx (Nx.one _ (.cells #[.slice none 0 0, .slice none 0 0, .slice none 0 0] 26)))
  rw [show (w.alloc (.cells #[.slice A1 m1 c1, .slice A2 m2 c2, .slice A3 m3 c3] 26)).heap.size = w.heap.size + 1 by simp] at XA
  have XR := Lib.hid (bx_new ((w.alloc (.cells #[.slice A1 m1 c1, .slice A2 m2 c2, .slice A3 m3 c3] 26)).alloc (.cells #[.int .i64 1, .int .i64 n] 40)) 26 [.slice none 0 0, .slice none 0 0, .slice none 0 0])
  rw [show ((w.alloc (.cells #[.slice A1 m1 c1, .slice A2 m2 c2, .slice A3 m3 c3] 26)).alloc (.cells #[.int .i64 1, .int .i64 n] 40)).heap.size = w.heap.size + 1 + 1 by simp] at XR
  have BW := Lib.hid (show (((w.alloc (.cells #[.slice A1 m1 c1, .slice A2 m2 c2, .slice A3 m3 c3] 26)).alloc (.cells #[.int .i64 1, .int .i64 n] 40)).alloc (.cells #[.slice none 0 0, .slice none 0 0, .slice none 0 0] 26)).heap.size = w.heap.size + 3 by simp)
  clear hx1 hx2 hx3
  go_enter Try.func22, Try.ntmps22
  go_wp2_with fail
  generalize ((w.alloc (.cells #[.slice A1 m1 c1, .slice A2 m2 c2, .slice A3 m3 c3] 26)).alloc (.cells #[.int .i64 1, .int .i64 n] 40)).alloc (.cells #[.slice none 0 0, .slice none 0 0, .slice none 0 0] 26) = W at *
  refine CL.out.mono ?_
  rintro e w1 ⟨s, rfl, ⟨v1, v2, v3, rfl, ⟨o1, o2, o3⟩, pa⟩, h1⟩
  have B1 := Lib.hid (show w.heap.size + 3 ≤ w1.heap.size by have := h1.size; rw [BW.out] at this; exact this)
  obtain ⟨B1', d1, rfl, i1⟩ := o1.im
  obtain ⟨B2', d2, rfl, i2⟩ := o2.im
  obtain ⟨B3', d3, rfl, i3⟩ := o3.im
  rw [L1.out, L2.out, L3.out]
  clear o1 o2 o3 i1 i2 i3 pa
  have XA1 := Lib.hid (XA.out.nx (h1.alloc (.cells #[.slice B1' m1 d1, .slice B2' m2 d2, .slice B3' m3 d3] 26)))
  have XR1 := Lib.hid (XR.out.nx (h1.alloc (.cells #[.slice B1' m1 d1, .slice B2' m2 d2, .slice B3' m3 d3] 26)))
  have H1 := Lib.hid (N0.out.trans (h1.alloc (.cells #[.slice B1' m1 d1, .slice B2' m2 d2, .slice B3' m3 d3] 26)))
  have XO := Lib.hid (show Bx (w1.alloc (.cells #[.slice B1' m1 d1, .slice B2' m2 d2, .slice B3' m3 d3] 26)) w1.heap.size 26 [.slice B1' m1 d1, .slice B2' m2 d2, .slice B3' m3 d3] from bx_new w1 26 [.slice B1' m1 d1, .slice B2' m2 d2, .slice B3' m3 d3])
  have ka := XA1.out.cell 0 rfl
  have na := XA1.out.cell 1 rfl
  have u0 := XO.out.cell 0 rfl
  have u1 := XO.out.cell 1 rfl
  have u2 := XO.out.cell 2 rfl
  have r0 := XR1.out.cell 0 rfl
  have r1 := XR1.out.cell 1 rfl
  have r2 := XR1.out.cell 2 rfl
  have q0 := XR1.out.frozen 0
  have q1 := XR1.out.frozen 1
  have q2 := XR1.out.frozen 2
  have z0 := (XR1.out.put 0 (.slice none 0 0)).cell 0 rfl
  have z1 := ((XR1.out.put 0 (.slice none 0 0)).put 1 (.slice none 0 0)).cell 1 rfl
  have z2 := (((XR1.out.put 0 (.slice none 0 0)).put 1 (.slice none 0 0)).put 2 (.slice none 0 0)).cell 2 rfl
  clear h1
  by_cases hz : n < 0
  · clear hn
    go_wp2
    try simp only [Exit.inBlock, Exit.then]
    refine bodyPost_ret (by simp [results, Try.results22, go_sem, z0, z1, z2]; try rfl) rfl ?_
    exact ⟨rfl, ((H1.out.set (by omega) _).set (by omega) _).set (by omega) _⟩
  · have h3 : ¬ n < (m1 : Int) := by omega
    clear hn
    go_wp2
    try simp only [Exit.inBlock, Exit.then]
    refine bodyPost_ret (by simp [results, Try.results22, go_sem, z0, z1, z2]; try rfl) rfl ?_
    exact ⟨rfl, ((H1.out.set (by omega) _).set (by omega) _).set (by omega) _⟩

set_option maxHeartbeats 1600000 in
set_option maxRecDepth 100000 in
theorem refWrite_ok1 (A1 A2 A3 : Option Addr) (m1 m2 m3 c1 c2 c3 : Nat) (x1 x2 x3 : List Bool) (p : Nat) (v : Bool) (hp : p < m1) (hm1 : m1 ≤ 1000000) (hm2 : m2 ≤ 1000000) (hm3 : m3 ≤ 1000000) (w : World) (hx1 : Im w A1 m1 c1 x1) (hx2 : Im w A2 m2 c2 x2) (hx3 : Im w A3 m3 c3 x3) :
    Calls Try.prog 22 #[.agg #[.slice A1 m1 c1, .slice A2 m2 c2, .slice A3 m3 c3], .agg #[.int .i64 1, .int .i64 (p : Nat)], .bool v] w fun e w' => ∃ s, e = .returned (.tuple #[s, .int .i64 0]) ∧ ImS w' s (x1.set p v) x2 x3 ∧ Nx w w' := by
  have L1 := Lib.hid hx1.2.1
  have L2 := Lib.hid hx2.2.1
  have L3 := Lib.hid hx3.2.1
  have N0 := Lib.hid (show Nx w (((w.alloc (.cells #[.slice A1 m1 c1, .slice A2 m2 c2, .slice A3 m3 c3] 26)).alloc (.cells #[.int .i64 1, .int .i64 (p : Nat)] 40)).alloc (.cells #[.slice none 0 0, .slice none 0 0, .slice none 0 0] 26)) from ((Nx.one _ _).alloc _).alloc _)
  have CL := Lib.hid (refClone_ok A1 A2 A3 m1 m2 m3 c1 c2 c3 x1 x2 x3 hm1 hm2 hm3 (((w.alloc (.cells #[.slice A1 m1 c1, .slice A2 m2 c2, .slice A3 m3 c3] 26)).alloc (.cells #[.int .i64 1, .int .i64 (p : Nat)] 40)).alloc (.cells #[.slice none 0 0, .slice none 0 0, .slice none 0 0] 26)) (hx1.nx N0.out) (hx2.nx N0.out) (hx3.nx N0.out))
  have XA := Lib.hid ((bx_new (w.alloc (.cells #[.slice A1 m1 c1, .slice A2 m2 c2, .slice A3 m3 c3] 26)) 40 [.int .i64 1, .int .i64 (p : Nat)]).nx (Nx.one _ (.cells #[.slice none 0 0, .slice none 0 0, .slice none 0 0] 26)))
  rw [show (w.alloc (.cells #[.slice A1 m1 c1, .slice A2 m2 c2, .slice A3 m3 c3] 26)).heap.size = w.heap.size + 1 by simp] at XA
  have XR := Lib.hid (bx_new ((w.alloc (.cells #[.slice A1 m1 c1, .slice A2 m2 c2, .slice A3 m3 c3] 26)).alloc (.cells #[.int .i64 1, .int .i64 (p : Nat)] 40)) 26 [.slice none 0 0, .slice none 0 0, .slice none 0 0])
  rw [show ((w.alloc (.cells #[.slice A1 m1 c1, .slice A2 m2 c2, .slice A3 m3 c3] 26)).alloc (.cells #[.int .i64 1, .int .i64 (p : Nat)] 40)).heap.size = w.heap.size + 1 + 1 by simp] at XR
  have BW := Lib.hid (show (((w.alloc (.cells #[.slice A1 m1 c1, .slice A2 m2 c2, .slice A3 m3 c3] 26)).alloc (.cells #[.int .i64 1, .int .i64 (p : Nat)] 40)).alloc (.cells #[.slice none 0 0, .slice none 0 0, .slice none 0 0] 26)).heap.size = w.heap.size + 3 by simp)
  clear hx1 hx2 hx3
  go_enter Try.func22, Try.ntmps22
  go_wp2_with fail
  generalize ((w.alloc (.cells #[.slice A1 m1 c1, .slice A2 m2 c2, .slice A3 m3 c3] 26)).alloc (.cells #[.int .i64 1, .int .i64 (p : Nat)] 40)).alloc (.cells #[.slice none 0 0, .slice none 0 0, .slice none 0 0] 26) = W at *
  refine CL.out.mono ?_
  rintro e w1 ⟨s, rfl, ⟨v1, v2, v3, rfl, ⟨o1, o2, o3⟩, pa⟩, h1⟩
  have B1 := Lib.hid (show w.heap.size + 3 ≤ w1.heap.size by have := h1.size; rw [BW.out] at this; exact this)
  have hlen : 0 < x1.length := by rw [L1.out]; omega
  obtain ⟨g, dg, rfl, og⟩ := owB_form o1 hlen
  obtain ⟨B2', d2, rfl, i2⟩ := o2.im
  have F2 := Lib.hid (fun (w' : World) (k : ∀ b, b ≠ g → W.heap.size ≤ b → b < w1.heap.size → w'.heap[b]? = w1.heap[b]?) => Ow.off o2 i2 (fun hx e => pa.1 (List.length_pos_iff.1 hlen) hx e.symm) k)
  obtain ⟨B3', d3, rfl, i3⟩ := o3.im
  have F3 := Lib.hid (fun (w' : World) (k : ∀ b, b ≠ g → W.heap.size ≤ b → b < w1.heap.size → w'.heap[b]? = w1.heap[b]?) => Ow.off o3 i3 (fun hx e => pa.2.1 (List.length_pos_iff.1 hlen) hx e.symm) k)
  rw [L1.out, L2.out, L3.out]
  have XA1 := Lib.hid (XA.out.nx (h1.alloc (.cells #[.slice (some ⟨g, 0, none⟩) m1 dg, .slice B2' m2 d2, .slice B3' m3 d3] 26)))
  have XR1 := Lib.hid (XR.out.nx (h1.alloc (.cells #[.slice (some ⟨g, 0, none⟩) m1 dg, .slice B2' m2 d2, .slice B3' m3 d3] 26)))
  have H1 := Lib.hid (N0.out.trans (h1.alloc (.cells #[.slice (some ⟨g, 0, none⟩) m1 dg, .slice B2' m2 d2, .slice B3' m3 d3] 26)))
  have XO := Lib.hid (show Bx (w1.alloc (.cells #[.slice (some ⟨g, 0, none⟩) m1 dg, .slice B2' m2 d2, .slice B3' m3 d3] 26)) w1.heap.size 26 [.slice (some ⟨g, 0, none⟩) m1 dg, .slice B2' m2 d2, .slice B3' m3 d3] from bx_new w1 26 [.slice (some ⟨g, 0, none⟩) m1 dg, .slice B2' m2 d2, .slice B3' m3 d3])
  have ka := XA1.out.cell 0 rfl
  have na := XA1.out.cell 1 rfl
  have u0 := XO.out.cell 0 rfl
  have u1 := XO.out.cell 1 rfl
  have u2 := XO.out.cell 2 rfl
  have hgw : g < w1.heap.size := (World.ownsRow.lt og g rfl).2
  have hgb := og.base_le
  rw [BW.out] at hgb
  have OG := Lib.hid (og.nx (Nx.one w1 (.cells #[.slice (some ⟨g, 0, none⟩) m1 dg, .slice B2' m2 d2, .slice B3' m3 d3] 26)))
  obtain ⟨b, hb⟩ := at_some x1 p (by rw [L1.out]; exact hp)
  have gc := OG.out.cell hb
  have gf := OG.out.frozen p
  have hp3 : ¬ (m1 : Int) ≤ (p : Int) := by omega
  have hsz : (w1.setCell ⟨g, p, none⟩ (.bool v)).heap.size = w1.heap.size := Deep.nblk_setCell _ _ _
  have XO2 : Bx ((w1.setCell ⟨g, p, none⟩ (.bool v)).alloc (.cells #[.slice (some ⟨g, 0, none⟩) m1 dg, .slice B2' m2 d2, .slice B3' m3 d3] 26)) w1.heap.size 26 [.slice (some ⟨g, 0, none⟩) m1 dg, .slice B2' m2 d2, .slice B3' m3 d3] := by have := bx_new (w1.setCell ⟨g, p, none⟩ (.bool v)) 26 [.slice (some ⟨g, 0, none⟩) m1 dg, .slice B2' m2 d2, .slice B3' m3 d3]; rw [hsz] at this; exact this
  have w0 := XO2.cell 0 rfl
  have w1' := XO2.cell 1 rfl
  have w2' := XO2.cell 2 rfl
  have XR2 := ((XR.out.nx h1).far (b := g) (i := p) (o := none) (by omega) (.bool v)).nx (Nx.one _ (.cells #[.slice (some ⟨g, 0, none⟩) m1 dg, .slice B2' m2 d2, .slice B3' m3 d3] 26))
  have r0 := XR2.cell 0 rfl
  have r1 := XR2.cell 1 rfl
  have r2 := XR2.cell 2 rfl
  have q0 := XR2.frozen 0
  have q1 := XR2.frozen 1
  have q2 := XR2.frozen 2
  have OG2 := Lib.hid ((og.set p v).nx (Nx.one _ (.cells #[.slice (some ⟨g, 0, none⟩) m1 dg, .slice B2' m2 d2, .slice B3' m3 d3] 26)))
  have H2 := Lib.hid (((N0.out.trans h1).set (g := g) (i := p) (o := none) (by omega) (.bool v)).alloc (.cells #[.slice (some ⟨g, 0, none⟩) m1 dg, .slice B2' m2 d2, .slice B3' m3 d3] 26))
  have Z0 := XR2.put 0 (.slice (some ⟨g, 0, none⟩) m1 dg)
  have Z1 := Z0.put 1 (.slice B2' m2 d2)
  have Z2 := Z1.put 2 (.slice B3' m3 d3)
  have z0 := Z0.cell 0 rfl
  have z1 := Z1.cell 1 rfl
  have z2 := Z2.cell 2 rfl
  clear Z0 Z1 Z2
  clear h1 hb XO2 XR2 hsz og o1 o2 o3 pa hlen
  clear i2
  clear i3
  go_wp2
  try simp only [Exit.inBlock, Exit.then]
  refine bodyPost_ret (by simp [results, Try.results22, go_sem, z0, z1, z2]; try rfl) rfl ?_
  have bw := BW.out
  refine ⟨_, rfl, ?_, ((H2.out.set (by omega) _).set (by omega) _).set (by omega) _⟩
  exact ⟨(some ⟨g, 0, none⟩), B2', B3', dg, d2, d3, by rw [List.length_set, L1.out, L2.out, L3.out], (((OG2.out.far (by omega) _).far (by omega) _).far (by omega) _).im rfl, F2.out _ (fun b h1 h2 h3 => four_far b h1 (by omega) h3), F3.out _ (fun b h1 h2 h3 => four_far b h1 (by omega) h3)⟩

set_option maxHeartbeats 1600000 in
set_option maxRecDepth 100000 in
theorem refWrite_no2 (A1 A2 A3 : Option Addr) (m1 m2 m3 c1 c2 c3 : Nat) (x1 x2 x3 : List Bool) (n : Int) (v : Bool) (hn : ¬ (0 ≤ n ∧ n < (m2 : Nat))) (hm1 : m1 ≤ 1000000) (hm2 : m2 ≤ 1000000) (hm3 : m3 ≤ 1000000) (w : World) (hx1 : Im w A1 m1 c1 x1) (hx2 : Im w A2 m2 c2 x2) (hx3 : Im w A3 m3 c3 x3) :
    Calls Try.prog 22 #[.agg #[.slice A1 m1 c1, .slice A2 m2 c2, .slice A3 m3 c3], .agg #[.int .i64 2, .int .i64 n], .bool v] w fun e w' => e = .returned (.tuple #[zst, .int .i64 3]) ∧ Nx w w' := by
  have L1 := Lib.hid hx1.2.1
  have L2 := Lib.hid hx2.2.1
  have L3 := Lib.hid hx3.2.1
  have N0 := Lib.hid (show Nx w (((w.alloc (.cells #[.slice A1 m1 c1, .slice A2 m2 c2, .slice A3 m3 c3] 26)).alloc (.cells #[.int .i64 2, .int .i64 n] 40)).alloc (.cells #[.slice none 0 0, .slice none 0 0, .slice none 0 0] 26)) from ((Nx.one _ _).alloc _).alloc _)
  have CL := Lib.hid (refClone_ok A1 A2 A3 m1 m2 m3 c1 c2 c3 x1 x2 x3 hm1 hm2 hm3 (((w.alloc (.cells #[.slice A1 m1 c1, .slice A2 m2 c2, .slice A3 m3 c3] 26)).alloc (.cells #[.int .i64 2, .int .i64 n] 40)).alloc (.cells #[.slice none 0 0, .slice none 0 0, .slice none 0 0] 26)) (hx1.nx N0.out) (hx2.nx N0.out) (hx3.nx N0.out))
  have XA := Lib.hid ((bx_new (w.alloc (.cells #[.slice A1 m1 c1, .slice A2 m2 c2, .slice A3 m3 c3] 26)) 40 [.int .i64 2, .int .i64 n]).nx (Nx.one _ (.cells #[.slice none 0 0, .slice none 0 0, .slice none 0 0] 26)))
  rw [show (w.alloc (.cells #[.slice A1 m1 c1, .slice A2 m2 c2, .slice A3 m3 c3] 26)).heap.size = w.heap.size + 1 by simp] at XA
  have XR := Lib.hid (bx_new ((w.alloc (.cells #[.slice A1 m1 c1, .slice A2 m2 c2, .slice A3 m3 c3] 26)).alloc (.cells #[.int .i64 2, .int .i64 n] 40)) 26 [.slice none 0 0, .slice none 0 0, .slice none 0 0])
  rw [show ((w.alloc (.cells #[.slice A1 m1 c1, .slice A2 m2 c2, .slice A3 m3 c3] 26)).alloc (.cells #[.int .i64 2, .int .i64 n] 40)).heap.size = w.heap.size + 1 + 1 by simp] at XR
  have BW := Lib.hid (show (((w.alloc (.cells #[.slice A1 m1 c1, .slice A2 m2 c2, .slice A3 m3 c3] 26)).alloc (.cells #[.int .i64 2, .int .i64 n] 40)).alloc (.cells #[.slice none 0 0, .slice none 0 0, .slice none 0 0] 26)).heap.size = w.heap.size + 3 by simp)
  clear hx1 hx2 hx3
  go_enter Try.func22, Try.ntmps22
  go_wp2_with fail
  generalize ((w.alloc (.cells #[.slice A1 m1 c1, .slice A2 m2 c2, .slice A3 m3 c3] 26)).alloc (.cells #[.int .i64 2, .int .i64 n] 40)).alloc (.cells #[.slice none 0 0, .slice none 0 0, .slice none 0 0] 26) = W at *
  refine CL.out.mono ?_
  rintro e w1 ⟨s, rfl, ⟨v1, v2, v3, rfl, ⟨o1, o2, o3⟩, pa⟩, h1⟩
  have B1 := Lib.hid (show w.heap.size + 3 ≤ w1.heap.size by have := h1.size; rw [BW.out] at this; exact this)
  obtain ⟨B1', d1, rfl, i1⟩ := o1.im
  obtain ⟨B2', d2, rfl, i2⟩ := o2.im
  obtain ⟨B3', d3, rfl, i3⟩ := o3.im
  rw [L1.out, L2.out, L3.out]
  clear o1 o2 o3 i1 i2 i3 pa
  have XA1 := Lib.hid (XA.out.nx (h1.alloc (.cells #[.slice B1' m1 d1, .slice B2' m2 d2, .slice B3' m3 d3] 26)))
  have XR1 := Lib.hid (XR.out.nx (h1.alloc (.cells #[.slice B1' m1 d1, .slice B2' m2 d2, .slice B3' m3 d3] 26)))
  have H1 := Lib.hid (N0.out.trans (h1.alloc (.cells #[.slice B1' m1 d1, .slice B2' m2 d2, .slice B3' m3 d3] 26)))
  have XO := Lib.hid (show Bx (w1.alloc (.cells #[.slice B1' m1 d1, .slice B2' m2 d2, .slice B3' m3 d3] 26)) w1.heap.size 26 [.slice B1' m1 d1, .slice B2' m2 d2, .slice B3' m3 d3] from bx_new w1 26 [.slice B1' m1 d1, .slice B2' m2 d2, .slice B3' m3 d3])
  have ka := XA1.out.cell 0 rfl
  have na := XA1.out.cell 1 rfl
  have u0 := XO.out.cell 0 rfl
  have u1 := XO.out.cell 1 rfl
  have u2 := XO.out.cell 2 rfl
  have r0 := XR1.out.cell 0 rfl
  have r1 := XR1.out.cell 1 rfl
  have r2 := XR1.out.cell 2 rfl
  have q0 := XR1.out.frozen 0
  have q1 := XR1.out.frozen 1
  have q2 := XR1.out.frozen 2
  have z0 := (XR1.out.put 0 (.slice none 0 0)).cell 0 rfl
  have z1 := ((XR1.out.put 0 (.slice none 0 0)).put 1 (.slice none 0 0)).cell 1 rfl
  have z2 := (((XR1.out.put 0 (.slice none 0 0)).put 1 (.slice none 0 0)).put 2 (.slice none 0 0)).cell 2 rfl
  clear h1
  by_cases hz : n < 0
  · clear hn
    go_wp2
    try simp only [Exit.inBlock, Exit.then]
    refine bodyPost_ret (by simp [results, Try.results22, go_sem, z0, z1, z2]; try rfl) rfl ?_
    exact ⟨rfl, ((H1.out.set (by omega) _).set (by omega) _).set (by omega) _⟩
  · have h3 : ¬ n < (m2 : Int) := by omega
    clear hn
    go_wp2
    try simp only [Exit.inBlock, Exit.then]
    refine bodyPost_ret (by simp [results, Try.results22, go_sem, z0, z1, z2]; try rfl) rfl ?_
    exact ⟨rfl, ((H1.out.set (by omega) _).set (by omega) _).set (by omega) _⟩

set_option maxHeartbeats 1600000 in
set_option maxRecDepth 100000 in
theorem refWrite_ok2 (A1 A2 A3 : Option Addr) (m1 m2 m3 c1 c2 c3 : Nat) (x1 x2 x3 : List Bool) (p : Nat) (v : Bool) (hp : p < m2) (hm1 : m1 ≤ 1000000) (hm2 : m2 ≤ 1000000) (hm3 : m3 ≤ 1000000) (w : World) (hx1 : Im w A1 m1 c1 x1) (hx2 : Im w A2 m2 c2 x2) (hx3 : Im w A3 m3 c3 x3) :
    Calls Try.prog 22 #[.agg #[.slice A1 m1 c1, .slice A2 m2 c2, .slice A3 m3 c3], .agg #[.int .i64 2, .int .i64 (p : Nat)], .bool v] w fun e w' => ∃ s, e = .returned (.tuple #[s, .int .i64 0]) ∧ ImS w' s x1 (x2.set p v) x3 ∧ Nx w w' := by
  have L1 := Lib.hid hx1.2.1
  have L2 := Lib.hid hx2.2.1
  have L3 := Lib.hid hx3.2.1
  have N0 := Lib.hid (show Nx w (((w.alloc (.cells #[.slice A1 m1 c1, .slice A2 m2 c2, .slice A3 m3 c3] 26)).alloc (.cells #[.int .i64 2, .int .i64 (p : Nat)] 40)).alloc (.cells #[.slice none 0 0, .slice none 0 0, .slice none 0 0] 26)) from ((Nx.one _ _).alloc _).alloc _)
  have CL := Lib.hid (refClone_ok A1 A2 A3 m1 m2 m3 c1 c2 c3 x1 x2 x3 hm1 hm2 hm3 (((w.alloc (.cells #[.slice A1 m1 c1, .slice A2 m2 c2, .slice A3 m3 c3] 26)).alloc (.cells #[.int .i64 2, .int .i64 (p : Nat)] 40)).alloc (.cells #[.slice none 0 0, .slice none 0 0, .slice none 0 0] 26)) (hx1.nx N0.out) (hx2.nx N0.out) (hx3.nx N0.out))
  have XA := Lib.hid ((bx_new (w.alloc (.cells #[.slice A1 m1 c1, .slice A2 m2 c2, .slice A3 m3 c3] 26)) 40 [.int .i64 2, .int .i64 (p : Nat)]).nx (Nx.one _ (.cells #[.slice none 0 0, .slice none 0 0, .slice none 0 0] 26)))
  rw [show (w.alloc (.cells #[.slice A1 m1 c1, .slice A2 m2 c2, .slice A3 m3 c3] 26)).heap.size = w.heap.size + 1 by simp] at XA
  have XR := Lib.hid (bx_new ((w.alloc (.cells #[.slice A1 m1 c1, .slice A2 m2 c2, .slice A3 m3 c3] 26)).alloc (.cells #[.int .i64 2, .int .i64 (p : Nat)] 40)) 26 [.slice none 0 0, .slice none 0 0, .slice none 0 0])
  rw [show ((w.alloc (.cells #[.slice A1 m1 c1, .slice A2 m2 c2, .slice A3 m3 c3] 26)).alloc (.cells #[.int .i64 2, .int .i64 (p : Nat)] 40)).heap.size = w.heap.size + 1 + 1 by simp] at XR
  have BW := Lib.hid (show (((w.alloc (.cells #[.slice A1 m1 c1, .slice A2 m2 c2, .slice A3 m3 c3] 26)).alloc (.cells #[.int .i64 2, .int .i64 (p : Nat)] 40)).alloc (.cells #[.slice none 0 0, .slice none 0 0, .slice none 0 0] 26)).heap.size = w.heap.size + 3 by simp)
  clear hx1 hx2 hx3
  go_enter Try.func22, Try.ntmps22
  go_wp2_with fail
  generalize ((w.alloc (.cells #[.slice A1 m1 c1, .slice A2 m2 c2, .slice A3 m3 c3] 26)).alloc (.cells #[.int .i64 2, .int .i64 (p : Nat)] 40)).alloc (.cells #[.slice none 0 0, .slice none 0 0, .slice none 0 0] 26) = W at *
  refine CL.out.mono ?_
  rintro e w1 ⟨s, rfl, ⟨v1, v2, v3, rfl, ⟨o1, o2, o3⟩, pa⟩, h1⟩
  have B1 := Lib.hid (show w.heap.size + 3 ≤ w1.heap.size by have := h1.size; rw [BW.out] at this; exact this)
  have hlen : 0 < x2.length := by rw [L2.out]; omega
  obtain ⟨g, dg, rfl, og⟩ := owB_form o2 hlen
  obtain ⟨B1', d1, rfl, i1⟩ := o1.im
  have F1 := Lib.hid (fun (w' : World) (k : ∀ b, b ≠ g → W.heap.size ≤ b → b < w1.heap.size → w'.heap[b]? = w1.heap[b]?) => Ow.off o1 i1 (fun hx e => pa.1 hx (List.length_pos_iff.1 hlen) e) k)
  obtain ⟨B3', d3, rfl, i3⟩ := o3.im
  have F3 := Lib.hid (fun (w' : World) (k : ∀ b, b ≠ g → W.heap.size ≤ b → b < w1.heap.size → w'.heap[b]? = w1.heap[b]?) => Ow.off o3 i3 (fun hx e => pa.2.2 (List.length_pos_iff.1 hlen) hx e.symm) k)
  rw [L1.out, L2.out, L3.out]
  have XA1 := Lib.hid (XA.out.nx (h1.alloc (.cells #[.slice B1' m1 d1, .slice (some ⟨g, 0, none⟩) m2 dg, .slice B3' m3 d3] 26)))
  have XR1 := Lib.hid (XR.out.nx (h1.alloc (.cells #[.slice B1' m1 d1, .slice (some ⟨g, 0, none⟩) m2 dg, .slice B3' m3 d3] 26)))
  have H1 := Lib.hid (N0.out.trans (h1.alloc (.cells #[.slice B1' m1 d1, .slice (some ⟨g, 0, none⟩) m2 dg, .slice B3' m3 d3] 26)))
  have XO := Lib.hid (show Bx (w1.alloc (.cells #[.slice B1' m1 d1, .slice (some ⟨g, 0, none⟩) m2 dg, .slice B3' m3 d3] 26)) w1.heap.size 26 [.slice B1' m1 d1, .slice (some ⟨g, 0, none⟩) m2 dg, .slice B3' m3 d3] from bx_new w1 26 [.slice B1' m1 d1, .slice (some ⟨g, 0, none⟩) m2 dg, .slice B3' m3 d3])
  have ka := XA1.out.cell 0 rfl
  have na := XA1.out.cell 1 rfl
  have u0 := XO.out.cell 0 rfl
  have u1 := XO.out.cell 1 rfl
  have u2 := XO.out.cell 2 rfl
  have hgw : g < w1.heap.size := (World.ownsRow.lt og g rfl).2
  have hgb := og.base_le
  rw [BW.out] at hgb
  have OG := Lib.hid (og.nx (Nx.one w1 (.cells #[.slice B1' m1 d1, .slice (some ⟨g, 0, none⟩) m2 dg, .slice B3' m3 d3] 26)))
  obtain ⟨b, hb⟩ := at_some x2 p (by rw [L2.out]; exact hp)
  have gc := OG.out.cell hb
  have gf := OG.out.frozen p
  have hp3 : ¬ (m2 : Int) ≤ (p : Int) := by omega
  have hsz : (w1.setCell ⟨g, p, none⟩ (.bool v)).heap.size = w1.heap.size := Deep.nblk_setCell _ _ _
  have XO2 : Bx ((w1.setCell ⟨g, p, none⟩ (.bool v)).alloc (.cells #[.slice B1' m1 d1, .slice (some ⟨g, 0, none⟩) m2 dg, .slice B3' m3 d3] 26)) w1.heap.size 26 [.slice B1' m1 d1, .slice (some ⟨g, 0, none⟩) m2 dg, .slice B3' m3 d3] := by have := bx_new (w1.setCell ⟨g, p, none⟩ (.bool v)) 26 [.slice B1' m1 d1, .slice (some ⟨g, 0, none⟩) m2 dg, .slice B3' m3 d3]; rw [hsz] at this; exact this
  have w0 := XO2.cell 0 rfl
  have w1' := XO2.cell 1 rfl
  have w2' := XO2.cell 2 rfl
  have XR2 := ((XR.out.nx h1).far (b := g) (i := p) (o := none) (by omega) (.bool v)).nx (Nx.one _ (.cells #[.slice B1' m1 d1, .slice (some ⟨g, 0, none⟩) m2 dg, .slice B3' m3 d3] 26))
  have r0 := XR2.cell 0 rfl
  have r1 := XR2.cell 1 rfl
  have r2 := XR2.cell 2 rfl
  have q0 := XR2.frozen 0
  have q1 := XR2.frozen 1
  have q2 := XR2.frozen 2
  have OG2 := Lib.hid ((og.set p v).nx (Nx.one _ (.cells #[.slice B1' m1 d1, .slice (some ⟨g, 0, none⟩) m2 dg, .slice B3' m3 d3] 26)))
  have H2 := Lib.hid (((N0.out.trans h1).set (g := g) (i := p) (o := none) (by omega) (.bool v)).alloc (.cells #[.slice B1' m1 d1, .slice (some ⟨g, 0, none⟩) m2 dg, .slice B3' m3 d3] 26))
  have Z0 := XR2.put 0 (.slice B1' m1 d1)
  have Z1 := Z0.put 1 (.slice (some ⟨g, 0, none⟩) m2 dg)
  have Z2 := Z1.put 2 (.slice B3' m3 d3)
  have z0 := Z0.cell 0 rfl
  have z1 := Z1.cell 1 rfl
  have z2 := Z2.cell 2 rfl
  clear Z0 Z1 Z2
  clear h1 hb XO2 XR2 hsz og o1 o2 o3 pa hlen
  clear i1
  clear i3
  go_wp2
  try simp only [Exit.inBlock, Exit.then]
  refine bodyPost_ret (by simp [results, Try.results22, go_sem, z0, z1, z2]; try rfl) rfl ?_
  have bw := BW.out
  refine ⟨_, rfl, ?_, ((H2.out.set (by omega) _).set (by omega) _).set (by omega) _⟩
  exact ⟨B1', (some ⟨g, 0, none⟩), B3', d1, dg, d3, by rw [List.length_set, L1.out, L2.out, L3.out], F1.out _ (fun b h1 h2 h3 => four_far b h1 (by omega) h3), (((OG2.out.far (by omega) _).far (by omega) _).far (by omega) _).im rfl, F3.out _ (fun b h1 h2 h3 => four_far b h1 (by omega) h3)⟩

end Go.Proofs.Ytndapcbjcannhaa
