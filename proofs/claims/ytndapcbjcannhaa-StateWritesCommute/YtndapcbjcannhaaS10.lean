/- What package state's Write returns. Conditions: images that read as lists of bools, of at most a million. -/
import Derived.Test.YtndapcbjcannhaaS9
import Derived.Deep.RegionHeld3
namespace Go.Proofs.Ytndapcbjcannhaa
open Go.RowKit

/-- The error's number, and the images behind a write. -/
def wrE (q m : List Bool) (k n : Int) : Int := if k = 1 then rdE q n else if k = 2 then rdE m n else 8
def wrQ (q : List Bool) (k n : Int) (v : Bool) : List Bool := if k = 1 then q.set n.toNat v else q
def wrM (m : List Bool) (k n : Int) (v : Bool) : List Bool := if k = 2 then m.set n.toNat v else m
abbrev zst : Value := .agg #[.slice none 0 0, .slice none 0 0, .slice none 0 0]
def WrP (m1 m2 m3 : Nat) (x1 x2 x3 : List Bool) (k n : Int) (v : Bool) (w : World) (e : Ending) (w' : World) : Prop :=
  (wrE x1 x2 k n ≠ 0 → e = .returned (.tuple #[zst, .int .i64 (wrE x1 x2 k n)])) ∧ (wrE x1 x2 k n = 0 → ∃ s, e = .returned (.tuple #[s, .int .i64 0]) ∧ OwS w' w.heap.size s m1 m2 m3 (wrQ x1 k n v) (wrM x2 k n v) x3) ∧ Nx w w'

theorem im_set_ok {A : Option Addr} {m c : Nat} {xs : List Bool} (p : Nat) (v : Bool) (hp : p < m) (hm : m ≤ 1000000) (w : World) (h : Im w A m c xs) :
    Calls Try.prog 37 #[.slice A m c, .int .i64 p, .bool v] w fun e w' => ∃ g c', e = .returned (.tuple #[.slice (some ⟨g, 0, none⟩) m c', .int .i64 0]) ∧ OwB w' w.heap.size g c' (xs.set p v) ∧ Nx w w' := by
  obtain ⟨hr, hl, _⟩ := h
  refine (set_ok A xs m c p v hl hp hm w hr).mono ?_
  rintro e w' ⟨g, c', rfl, ho, hn⟩
  exact ⟨g, c', by rw [List.length_set, hl], ho, hn⟩

set_option maxHeartbeats 1600000 in
set_option maxRecDepth 100000 in
theorem write_kind (A1 A2 A3 : Option Addr) (m1 m2 m3 c1 c2 c3 : Nat) (k n : Int) (v : Bool) (h1 : k ≠ 1) (h2 : k ≠ 2) (w : World) :
    Calls Try.prog 21 #[.agg #[.slice A1 m1 c1, .slice A2 m2 c2, .slice A3 m3 c3], .agg #[.int .i64 k, .int .i64 n], .bool v] w fun e w' => e = .returned (.tuple #[zst, .int .i64 8]) ∧ Nx w w' := by
  have N0 := Lib.hid (show Nx w (((w.alloc (.cells #[.slice A1 m1 c1, .slice A2 m2 c2, .slice A3 m3 c3] 26)).alloc (.cells #[.int .i64 k, .int .i64 n] 40)).alloc (.cells #[.slice none 0 0, .slice none 0 0, .slice none 0 0] 26)) from ((Nx.one _ _).alloc _).alloc _)
  have XT := Lib.hid (((bx_new w 26 [.slice A1 m1 c1, .slice A2 m2 c2, .slice A3 m3 c3]).nx (Nx.one _ (.cells #[.int .i64 k, .int .i64 n] 40))).nx (Nx.one _ (.cells #[.slice none 0 0, .slice none 0 0, .slice none 0 0] 26)))
  have XA := Lib.hid ((bx_new (w.alloc (.cells #[.slice A1 m1 c1, .slice A2 m2 c2, .slice A3 m3 c3] 26)) 40 [.int .i64 k, .int .i64 n]).nx (Nx.one _ (.cells #[.slice none 0 0, .slice none 0 0, .slice none 0 0] 26)))
  rw [show (w.alloc (.cells #[.slice A1 m1 c1, .slice A2 m2 c2, .slice A3 m3 c3] 26)).heap.size = w.heap.size + 1 by simp] at XA
  have XR := Lib.hid (bx_new ((w.alloc (.cells #[.slice A1 m1 c1, .slice A2 m2 c2, .slice A3 m3 c3] 26)).alloc (.cells #[.int .i64 k, .int .i64 n] 40)) 26 [.slice none 0 0, .slice none 0 0, .slice none 0 0])
  rw [show ((w.alloc (.cells #[.slice A1 m1 c1, .slice A2 m2 c2, .slice A3 m3 c3] 26)).alloc (.cells #[.int .i64 k, .int .i64 n] 40)).heap.size = w.heap.size + 1 + 1 by simp] at XR
  have BW := Lib.hid (show (((w.alloc (.cells #[.slice A1 m1 c1, .slice A2 m2 c2, .slice A3 m3 c3] 26)).alloc (.cells #[.int .i64 k, .int .i64 n] 40)).alloc (.cells #[.slice none 0 0, .slice none 0 0, .slice none 0 0] 26)).heap.size = w.heap.size + 3 by simp)
  have e1 : ixI k = 0 := if_neg h2
  have e2 : ixB k = false := decide_eq_false (by omega)
  have IX := Lib.hid (indexOf_any k)
  rw [e1, e2] at IX
  clear h1 h2 e1 e2
  go_enter Try.func21, Try.ntmps21
  go_wp2_with fail
  generalize ((w.alloc (.cells #[.slice A1 m1 c1, .slice A2 m2 c2, .slice A3 m3 c3] 26)).alloc (.cells #[.int .i64 k, .int .i64 n] 40)).alloc (.cells #[.slice none 0 0, .slice none 0 0, .slice none 0 0] 26) = W at *
  refine (IX.out _).mono ?_
  rintro e w' ⟨rfl, rfl⟩
  have r0 := XR.out.cell 0 rfl
  have r1 := XR.out.cell 1 rfl
  have r2 := XR.out.cell 2 rfl
  have q0 := XR.out.frozen 0
  have q1 := XR.out.frozen 1
  have q2 := XR.out.frozen 2
  have z0 := (XR.out.put 0 (.slice none 0 0)).cell 0 rfl
  have z1 := ((XR.out.put 0 (.slice none 0 0)).put 1 (.slice none 0 0)).cell 1 rfl
  have z2 := (((XR.out.put 0 (.slice none 0 0)).put 1 (.slice none 0 0)).put 2 (.slice none 0 0)).cell 2 rfl
  go_wp2
  try simp only [Exit.inBlock, Exit.then]
  refine bodyPost_ret (by simp [results, Try.results21, go_sem, z0, z1, z2]; try rfl) rfl ?_
  exact ⟨rfl, ((N0.out.set (by omega) _).set (by omega) _).set (by omega) _⟩

set_option maxHeartbeats 1600000 in
set_option maxRecDepth 100000 in
theorem write_no1 (A1 A2 A3 : Option Addr) (m1 m2 m3 c1 c2 c3 : Nat) (n : Int) (v : Bool) (hn : ¬ (0 ≤ n ∧ n < (m1 : Nat))) (w : World) :
    Calls Try.prog 21 #[.agg #[.slice A1 m1 c1, .slice A2 m2 c2, .slice A3 m3 c3], .agg #[.int .i64 1, .int .i64 n], .bool v] w fun e w' => e = .returned (.tuple #[zst, .int .i64 3]) ∧ Nx w w' := by
  have N0 := Lib.hid (show Nx w (((w.alloc (.cells #[.slice A1 m1 c1, .slice A2 m2 c2, .slice A3 m3 c3] 26)).alloc (.cells #[.int .i64 1, .int .i64 n] 40)).alloc (.cells #[.slice none 0 0, .slice none 0 0, .slice none 0 0] 26)) from ((Nx.one _ _).alloc _).alloc _)
  have XT := Lib.hid (((bx_new w 26 [.slice A1 m1 c1, .slice A2 m2 c2, .slice A3 m3 c3]).nx (Nx.one _ (.cells #[.int .i64 1, .int .i64 n] 40))).nx (Nx.one _ (.cells #[.slice none 0 0, .slice none 0 0, .slice none 0 0] 26)))
  have XA := Lib.hid ((bx_new (w.alloc (.cells #[.slice A1 m1 c1, .slice A2 m2 c2, .slice A3 m3 c3] 26)) 40 [.int .i64 1, .int .i64 n]).nx (Nx.one _ (.cells #[.slice none 0 0, .slice none 0 0, .slice none 0 0] 26)))
  rw [show (w.alloc (.cells #[.slice A1 m1 c1, .slice A2 m2 c2, .slice A3 m3 c3] 26)).heap.size = w.heap.size + 1 by simp] at XA
  have XR := Lib.hid (bx_new ((w.alloc (.cells #[.slice A1 m1 c1, .slice A2 m2 c2, .slice A3 m3 c3] 26)).alloc (.cells #[.int .i64 1, .int .i64 n] 40)) 26 [.slice none 0 0, .slice none 0 0, .slice none 0 0])
  rw [show ((w.alloc (.cells #[.slice A1 m1 c1, .slice A2 m2 c2, .slice A3 m3 c3] 26)).alloc (.cells #[.int .i64 1, .int .i64 n] 40)).heap.size = w.heap.size + 1 + 1 by simp] at XR
  have BW := Lib.hid (show (((w.alloc (.cells #[.slice A1 m1 c1, .slice A2 m2 c2, .slice A3 m3 c3] 26)).alloc (.cells #[.int .i64 1, .int .i64 n] 40)).alloc (.cells #[.slice none 0 0, .slice none 0 0, .slice none 0 0] 26)).heap.size = w.heap.size + 3 by simp)
  have ST := Lib.hid (fun w' (_ : Nx w w') => set_no A1 m1 c1 n v hn w')
  go_enter Try.func21, Try.ntmps21
  go_wp2_with fail
  generalize ((w.alloc (.cells #[.slice A1 m1 c1, .slice A2 m2 c2, .slice A3 m3 c3] 26)).alloc (.cells #[.int .i64 1, .int .i64 n] 40)).alloc (.cells #[.slice none 0 0, .slice none 0 0, .slice none 0 0] 26) = W at *
  refine (indexOf_any _ _).mono ?_
  rw [show ixI 1 = 0 from rfl, show ixB 1 = true from rfl]
  rintro e w' ⟨rfl, rfl⟩
  have t0 := XT.out.cell 0 rfl
  have t1 := XT.out.cell 1 rfl
  have t2 := XT.out.cell 2 rfl
  go_wp2_with fail
  clear t0 t1 t2
  refine (imagesOf_any _ _ _ _ _ _ _ _ _ _).mono ?_
  rintro e w1 ⟨rfl, h1⟩
  have XB := Lib.hid (bx_new w1 60 [.slice A1 m1 c1, .slice A2 m2 c2, .slice A3 m3 c3])
  have XA1 := Lib.hid (XA.out.nx (h1.alloc (.cells #[.slice A1 m1 c1, .slice A2 m2 c2, .slice A3 m3 c3] 60)))
  have XR1 := Lib.hid (XR.out.nx (h1.alloc (.cells #[.slice A1 m1 c1, .slice A2 m2 c2, .slice A3 m3 c3] 60)))
  have H1 := Lib.hid (N0.out.trans (h1.alloc (.cells #[.slice A1 m1 c1, .slice A2 m2 c2, .slice A3 m3 c3] 60)))
  have B1 := Lib.hid (show w.heap.size + 3 ≤ w1.heap.size by have := h1.size; rw [BW.out] at this; exact this)
  clear h1
  go_wp2_with fail
  have XB' : Bx (w1.alloc (.cells #[.slice A1 m1 c1, .slice A2 m2 c2, .slice A3 m3 c3] 60)) w1.heap.size 60 [.slice A1 m1 c1, .slice A2 m2 c2, .slice A3 m3 c3] := XB.out
  clear XB
  have XB := Lib.hid XB'
  clear XB'
  generalize w1.alloc (.cells #[.slice A1 m1 c1, .slice A2 m2 c2, .slice A3 m3 c3] 60) = W1 at *
  generalize hb1 : w1.heap.size = b at *
  have HS := Lib.hid (show ∀ w', Nx W1 w' → w'.cell? ⟨b, 0, none⟩ = some (.slice A1 m1 c1) ∧ w'.cell? ⟨w.heap.size + 1, 1, none⟩ = some (.int .i64 n) from fun w' h => ⟨(XB.out.nx h).cell 0 rfl, (XA1.out.nx h).cell 1 rfl⟩)
  obtain ⟨g1, g2⟩ := HS.out W1 (Nx.refl _)
  go_region_held3 (fun w' => w'.cell? ⟨b, 0, none⟩ = some (.slice A1 m1 c1) ∧ w'.cell? ⟨w.heap.size + 1, 1, none⟩ = some (.int .i64 n)) (first | exact HS.out _ (by repeat (first | exact Nx.refl _ | assumption | refine Nx.drew ?_ | refine Nx.drewN ?_ _ | refine Nx.alloc ?_ _ | refine Nx.trans ?_ (by assumption))) | go_keep)
    (first | (go_at_call 37; refine (ST.out _ (H1.out.drew)).mono ?_; rintro e w2 ⟨rfl, rfl⟩))
  have XR2 := XR1.out.nx ((Nx.refl W1).drew)
  have r0 := XR2.cell 0 rfl
  have r1 := XR2.cell 1 rfl
  have r2 := XR2.cell 2 rfl
  have q0 := XR2.frozen 0
  have q1 := XR2.frozen 1
  have q2 := XR2.frozen 2
  have z0 := (XR2.put 0 (.slice none 0 0)).cell 0 rfl
  have z1 := ((XR2.put 0 (.slice none 0 0)).put 1 (.slice none 0 0)).cell 1 rfl
  have z2 := (((XR2.put 0 (.slice none 0 0)).put 1 (.slice none 0 0)).put 2 (.slice none 0 0)).cell 2 rfl
  have H2 := H1.out.drew
  clear XR2 g1 g2
  generalize W1.drew = W2 at *
  go_wp2
  try simp only [Exit.inBlock, Exit.then]
  refine bodyPost_ret (by simp [results, Try.results21, go_sem, z0, z1, z2]; try rfl) rfl ?_
  exact ⟨rfl, ((H2.set (by omega) _).set (by omega) _).set (by omega) _⟩

set_option maxHeartbeats 1600000 in
set_option maxRecDepth 100000 in
theorem write_ok1 (A1 A2 A3 : Option Addr) (m1 m2 m3 c1 c2 c3 : Nat) (x1 x2 x3 : List Bool) (p : Nat) (v : Bool) (hp : p < m1) (hm1 : m1 ≤ 1000000) (hm2 : m2 ≤ 1000000) (hm3 : m3 ≤ 1000000) (w : World) (hx1 : Im w A1 m1 c1 x1) (hx2 : Im w A2 m2 c2 x2) (hx3 : Im w A3 m3 c3 x3) :
    Calls Try.prog 21 #[.agg #[.slice A1 m1 c1, .slice A2 m2 c2, .slice A3 m3 c3], .agg #[.int .i64 1, .int .i64 (p : Nat)], .bool v] w fun e w' => ∃ s, e = .returned (.tuple #[s, .int .i64 0]) ∧ OwS w' w.heap.size s m1 m2 m3 (x1.set p v) x2 x3 ∧ Nx w w' := by
  have N0 := Lib.hid (show Nx w (((w.alloc (.cells #[.slice A1 m1 c1, .slice A2 m2 c2, .slice A3 m3 c3] 26)).alloc (.cells #[.int .i64 1, .int .i64 (p : Nat)] 40)).alloc (.cells #[.slice none 0 0, .slice none 0 0, .slice none 0 0] 26)) from ((Nx.one _ _).alloc _).alloc _)
  have XT := Lib.hid (((bx_new w 26 [.slice A1 m1 c1, .slice A2 m2 c2, .slice A3 m3 c3]).nx (Nx.one _ (.cells #[.int .i64 1, .int .i64 (p : Nat)] 40))).nx (Nx.one _ (.cells #[.slice none 0 0, .slice none 0 0, .slice none 0 0] 26)))
  have XA := Lib.hid ((bx_new (w.alloc (.cells #[.slice A1 m1 c1, .slice A2 m2 c2, .slice A3 m3 c3] 26)) 40 [.int .i64 1, .int .i64 (p : Nat)]).nx (Nx.one _ (.cells #[.slice none 0 0, .slice none 0 0, .slice none 0 0] 26)))
  rw [show (w.alloc (.cells #[.slice A1 m1 c1, .slice A2 m2 c2, .slice A3 m3 c3] 26)).heap.size = w.heap.size + 1 by simp] at XA
  have XR := Lib.hid (bx_new ((w.alloc (.cells #[.slice A1 m1 c1, .slice A2 m2 c2, .slice A3 m3 c3] 26)).alloc (.cells #[.int .i64 1, .int .i64 (p : Nat)] 40)) 26 [.slice none 0 0, .slice none 0 0, .slice none 0 0])
  rw [show ((w.alloc (.cells #[.slice A1 m1 c1, .slice A2 m2 c2, .slice A3 m3 c3] 26)).alloc (.cells #[.int .i64 1, .int .i64 (p : Nat)] 40)).heap.size = w.heap.size + 1 + 1 by simp] at XR
  have BW := Lib.hid (show (((w.alloc (.cells #[.slice A1 m1 c1, .slice A2 m2 c2, .slice A3 m3 c3] 26)).alloc (.cells #[.int .i64 1, .int .i64 (p : Nat)] 40)).alloc (.cells #[.slice none 0 0, .slice none 0 0, .slice none 0 0] 26)).heap.size = w.heap.size + 3 by simp)
  have I1 := Lib.hid hx1
  have I2 := Lib.hid hx2
  have I3 := Lib.hid hx3
  have ST := Lib.hid (fun w' (k : Nx w w') => im_set_ok p v hp hm1 w' (hx1.nx k))
  clear hx1 hx2 hx3
  go_enter Try.func21, Try.ntmps21
  go_wp2_with fail
  generalize ((w.alloc (.cells #[.slice A1 m1 c1, .slice A2 m2 c2, .slice A3 m3 c3] 26)).alloc (.cells #[.int .i64 1, .int .i64 (p : Nat)] 40)).alloc (.cells #[.slice none 0 0, .slice none 0 0, .slice none 0 0] 26) = W at *
  refine (indexOf_any _ _).mono ?_
  rw [show ixI 1 = 0 from rfl, show ixB 1 = true from rfl]
  rintro e w' ⟨rfl, rfl⟩
  have t0 := XT.out.cell 0 rfl
  have t1 := XT.out.cell 1 rfl
  have t2 := XT.out.cell 2 rfl
  go_wp2_with fail
  clear t0 t1 t2
  refine (imagesOf_any _ _ _ _ _ _ _ _ _ _).mono ?_
  rintro e w1 ⟨rfl, h1⟩
  have XB := Lib.hid (bx_new w1 60 [.slice A1 m1 c1, .slice A2 m2 c2, .slice A3 m3 c3])
  have XA1 := Lib.hid (XA.out.nx (h1.alloc (.cells #[.slice A1 m1 c1, .slice A2 m2 c2, .slice A3 m3 c3] 60)))
  have XR1 := Lib.hid (XR.out.nx (h1.alloc (.cells #[.slice A1 m1 c1, .slice A2 m2 c2, .slice A3 m3 c3] 60)))
  have H1 := Lib.hid (N0.out.trans (h1.alloc (.cells #[.slice A1 m1 c1, .slice A2 m2 c2, .slice A3 m3 c3] 60)))
  have B1 := Lib.hid (show w.heap.size + 3 ≤ w1.heap.size by have := h1.size; rw [BW.out] at this; exact this)
  clear h1
  go_wp2_with fail
  have XB' : Bx (w1.alloc (.cells #[.slice A1 m1 c1, .slice A2 m2 c2, .slice A3 m3 c3] 60)) w1.heap.size 60 [.slice A1 m1 c1, .slice A2 m2 c2, .slice A3 m3 c3] := XB.out
  clear XB
  have XB := Lib.hid XB'
  clear XB'
  generalize w1.alloc (.cells #[.slice A1 m1 c1, .slice A2 m2 c2, .slice A3 m3 c3] 60) = W1 at *
  generalize hb1 : w1.heap.size = b at *
  have HS := Lib.hid (show ∀ w', Nx W1 w' → w'.cell? ⟨b, 0, none⟩ = some (.slice A1 m1 c1) ∧ w'.cell? ⟨w.heap.size + 1, 1, none⟩ = some (.int .i64 (p : Nat)) from fun w' h => ⟨(XB.out.nx h).cell 0 rfl, (XA1.out.nx h).cell 1 rfl⟩)
  obtain ⟨g1, g2⟩ := HS.out W1 (Nx.refl _)
  go_region_held3 (fun w' => w'.cell? ⟨b, 0, none⟩ = some (.slice A1 m1 c1) ∧ w'.cell? ⟨w.heap.size + 1, 1, none⟩ = some (.int .i64 (p : Nat))) (first | exact HS.out _ (by repeat (first | exact Nx.refl _ | assumption | refine Nx.drew ?_ | refine Nx.drewN ?_ _ | refine Nx.alloc ?_ _ | refine Nx.trans ?_ (by assumption))) | go_keep)
    (first | (go_at_call 37; refine (ST.out _ (H1.out.drew)).mono ?_; rintro e w2 ⟨g, cg, rfl, ho, h2⟩))
  clear g1 g2
  have h2' := (Nx.refl W1).drew.trans h2
  have Y := Lib.hid (XB.out.nx h2')
  have gg := Y.out.cell 0 rfl
  have f := Y.out.frozen 0
  have D := Lib.hid (show b < g by have h1 := ho.base_le; have h3 := XB.out.lt; have h4 : W1.heap.size = W1.drew.heap.size := rfl; omega)
  have XB3 := Lib.hid (Y.out.put 0 (.slice (some ⟨g, 0, none⟩) m1 cg))
  have XR3 := Lib.hid ((XR1.out.nx h2').far (b := b) (i := 0) (o := none) (by have := B1.out; omega) (.slice (some ⟨g, 0, none⟩) m1 cg))
  have H3 := Lib.hid ((H1.out.trans h2').set (g := b) (i := 0) (o := none) (by have := B1.out; omega) (.slice (some ⟨g, 0, none⟩) m1 cg))
  have O3 := Lib.hid (ho.far (b := b) (i := 0) (o := none) (by have := D.out; omega) (.slice (some ⟨g, 0, none⟩) m1 cg))
  clear h2 h2' ho
  have u0 := XB3.out.cell 0 rfl
  have u1 := XB3.out.cell 1 rfl
  have u2 := XB3.out.cell 2 rfl
  go_wp2_with fail
  clear gg f u0 u1 u2
  refine (stateOf_any _ _ _ _ _ _ _ _ _ _).mono ?_
  rintro e w4 ⟨rfl, h4⟩
  have CL := Lib.hid (clone_ok (some ⟨g, 0, none⟩) A2 A3 m1 m2 m3 cg c2 c3 _ _ _ hm1 hm2 hm3 w4 ((O3.out.nx h4).im (by rw [List.length_set]; exact I1.out.2.1)) (I2.out.nx (H3.out.trans h4)) (I3.out.nx (H3.out.trans h4)))
  have XR4 := Lib.hid (XR3.out.nx h4)
  have H4 := Lib.hid (H3.out.trans h4)
  clear h4
  go_wp2_with fail
  refine CL.out.mono ?_
  rintro e w5 ⟨s, rfl, ⟨a1, a2, a3, d1, d2, d3, rfl, hlt, ⟨o1, l1⟩, ⟨o2, l2⟩, ⟨o3, l3⟩⟩, h5⟩
  have XR5 := Lib.hid (XR4.out.nx h5)
  have r1 := XR5.out.cell 0 rfl
  have r2 := XR5.out.cell 1 rfl
  have r3 := XR5.out.cell 2 rfl
  have q1 := XR5.out.frozen 0
  have q2 := XR5.out.frozen 1
  have q3 := XR5.out.frozen 2
  have Z1 := XR5.out.put 0 (.slice (some ⟨a1, 0, none⟩) m1 d1)
  have Z2 := Z1.put 1 (.slice (some ⟨a2, 0, none⟩) m2 d2)
  have Z3 := Z2.put 2 (.slice (some ⟨a3, 0, none⟩) m3 d3)
  have z1 := Z1.cell 0 rfl
  have z2 := Z2.cell 1 rfl
  have z3 := Z3.cell 2 rfl
  have HL := Lib.hid hlt
  have O1 := Lib.hid (o1.low H4.out.size)
  have O2 := Lib.hid (o2.low H4.out.size)
  have O5 := Lib.hid (o3.low H4.out.size)
  have L1 := Lib.hid l1
  have L2 := Lib.hid l2
  have L3 := Lib.hid l3
  have E1 := Lib.hid (show w.heap.size + 1 + 1 < a1 by have h1 := o1.base_le; have h2 := XR4.out.lt; omega)
  have H5 := Lib.hid (H4.out.trans h5)
  clear Z1 Z2 Z3 o1 o2 o3 l1 l2 l3 h5 hlt
  go_wp2
  try simp only [Exit.inBlock, Exit.then]
  refine bodyPost_ret (by simp [results, Try.results21, go_sem, z1, z2, z3]; try rfl) rfl ?_
  have e1 := E1.out
  have hl := HL.out
  exact ⟨_, rfl, ⟨a1, a2, a3, d1, d2, d3, rfl, hl, ⟨((O1.out.far (by omega) _).far (by omega) _).far (by omega) _, L1.out⟩, ⟨((O2.out.far (by omega) _).far (by omega) _).far (by omega) _, L2.out⟩, ⟨((O5.out.far (by omega) _).far (by omega) _).far (by omega) _, L3.out⟩⟩,
    ((H5.out.set (by omega) _).set (by omega) _).set (by omega) _⟩

set_option maxHeartbeats 1600000 in
set_option maxRecDepth 100000 in
theorem write_no2 (A1 A2 A3 : Option Addr) (m1 m2 m3 c1 c2 c3 : Nat) (n : Int) (v : Bool) (hn : ¬ (0 ≤ n ∧ n < (m2 : Nat))) (w : World) :
    Calls Try.prog 21 #[.agg #[.slice A1 m1 c1, .slice A2 m2 c2, .slice A3 m3 c3], .agg #[.int .i64 2, .int .i64 n], .bool v] w fun e w' => e = .returned (.tuple #[zst, .int .i64 3]) ∧ Nx w w' := by
  have N0 := Lib.hid (show Nx w (((w.alloc (.cells #[.slice A1 m1 c1, .slice A2 m2 c2, .slice A3 m3 c3] 26)).alloc (.cells #[.int .i64 2, .int .i64 n] 40)).alloc (.cells #[.slice none 0 0, .slice none 0 0, .slice none 0 0] 26)) from ((Nx.one _ _).alloc _).alloc _)
  have XT := Lib.hid (((bx_new w 26 [.slice A1 m1 c1, .slice A2 m2 c2, .slice A3 m3 c3]).nx (Nx.one _ (.cells #[.int .i64 2, .int .i64 n] 40))).nx (Nx.one _ (.cells #[.slice none 0 0, .slice none 0 0, .slice none 0 0] 26)))
  have XA := Lib.hid ((bx_new (w.alloc (.cells #[.slice A1 m1 c1, .slice A2 m2 c2, .slice A3 m3 c3] 26)) 40 [.int .i64 2, .int .i64 n]).nx (Nx.one _ (.cells #[.slice none 0 0, .slice none 0 0, .slice none 0 0] 26)))
  rw [show (w.alloc (.cells #[.slice A1 m1 c1, .slice A2 m2 c2, .slice A3 m3 c3] 26)).heap.size = w.heap.size + 1 by simp] at XA
  have XR := Lib.hid (bx_new ((w.alloc (.cells #[.slice A1 m1 c1, .slice A2 m2 c2, .slice A3 m3 c3] 26)).alloc (.cells #[.int .i64 2, .int .i64 n] 40)) 26 [.slice none 0 0, .slice none 0 0, .slice none 0 0])
  rw [show ((w.alloc (.cells #[.slice A1 m1 c1, .slice A2 m2 c2, .slice A3 m3 c3] 26)).alloc (.cells #[.int .i64 2, .int .i64 n] 40)).heap.size = w.heap.size + 1 + 1 by simp] at XR
  have BW := Lib.hid (show (((w.alloc (.cells #[.slice A1 m1 c1, .slice A2 m2 c2, .slice A3 m3 c3] 26)).alloc (.cells #[.int .i64 2, .int .i64 n] 40)).alloc (.cells #[.slice none 0 0, .slice none 0 0, .slice none 0 0] 26)).heap.size = w.heap.size + 3 by simp)
  have ST := Lib.hid (fun w' (_ : Nx w w') => set_no A2 m2 c2 n v hn w')
  go_enter Try.func21, Try.ntmps21
  go_wp2_with fail
  generalize ((w.alloc (.cells #[.slice A1 m1 c1, .slice A2 m2 c2, .slice A3 m3 c3] 26)).alloc (.cells #[.int .i64 2, .int .i64 n] 40)).alloc (.cells #[.slice none 0 0, .slice none 0 0, .slice none 0 0] 26) = W at *
  refine (indexOf_any _ _).mono ?_
  rw [show ixI 2 = 1 from rfl, show ixB 2 = true from rfl]
  rintro e w' ⟨rfl, rfl⟩
  have t0 := XT.out.cell 0 rfl
  have t1 := XT.out.cell 1 rfl
  have t2 := XT.out.cell 2 rfl
  go_wp2_with fail
  clear t0 t1 t2
  refine (imagesOf_any _ _ _ _ _ _ _ _ _ _).mono ?_
  rintro e w1 ⟨rfl, h1⟩
  have XB := Lib.hid (bx_new w1 60 [.slice A1 m1 c1, .slice A2 m2 c2, .slice A3 m3 c3])
  have XA1 := Lib.hid (XA.out.nx (h1.alloc (.cells #[.slice A1 m1 c1, .slice A2 m2 c2, .slice A3 m3 c3] 60)))
  have XR1 := Lib.hid (XR.out.nx (h1.alloc (.cells #[.slice A1 m1 c1, .slice A2 m2 c2, .slice A3 m3 c3] 60)))
  have H1 := Lib.hid (N0.out.trans (h1.alloc (.cells #[.slice A1 m1 c1, .slice A2 m2 c2, .slice A3 m3 c3] 60)))
  have B1 := Lib.hid (show w.heap.size + 3 ≤ w1.heap.size by have := h1.size; rw [BW.out] at this; exact this)
  clear h1
  go_wp2_with fail
  have XB' : Bx (w1.alloc (.cells #[.slice A1 m1 c1, .slice A2 m2 c2, .slice A3 m3 c3] 60)) w1.heap.size 60 [.slice A1 m1 c1, .slice A2 m2 c2, .slice A3 m3 c3] := XB.out
  clear XB
  have XB := Lib.hid XB'
  clear XB'
  generalize w1.alloc (.cells #[.slice A1 m1 c1, .slice A2 m2 c2, .slice A3 m3 c3] 60) = W1 at *
  generalize hb1 : w1.heap.size = b at *
  have HS := Lib.hid (show ∀ w', Nx W1 w' → w'.cell? ⟨b, 1, none⟩ = some (.slice A2 m2 c2) ∧ w'.cell? ⟨w.heap.size + 1, 1, none⟩ = some (.int .i64 n) from fun w' h => ⟨(XB.out.nx h).cell 1 rfl, (XA1.out.nx h).cell 1 rfl⟩)
  obtain ⟨g1, g2⟩ := HS.out W1 (Nx.refl _)
  go_region_held3 (fun w' => w'.cell? ⟨b, 1, none⟩ = some (.slice A2 m2 c2) ∧ w'.cell? ⟨w.heap.size + 1, 1, none⟩ = some (.int .i64 n)) (first | exact HS.out _ (by repeat (first | exact Nx.refl _ | assumption | refine Nx.drew ?_ | refine Nx.drewN ?_ _ | refine Nx.alloc ?_ _ | refine Nx.trans ?_ (by assumption))) | go_keep)
    (first | (go_at_call 37; refine (ST.out _ (H1.out.drew)).mono ?_; rintro e w2 ⟨rfl, rfl⟩))
  have XR2 := XR1.out.nx ((Nx.refl W1).drew)
  have r0 := XR2.cell 0 rfl
  have r1 := XR2.cell 1 rfl
  have r2 := XR2.cell 2 rfl
  have q0 := XR2.frozen 0
  have q1 := XR2.frozen 1
  have q2 := XR2.frozen 2
  have z0 := (XR2.put 0 (.slice none 0 0)).cell 0 rfl
  have z1 := ((XR2.put 0 (.slice none 0 0)).put 1 (.slice none 0 0)).cell 1 rfl
  have z2 := (((XR2.put 0 (.slice none 0 0)).put 1 (.slice none 0 0)).put 2 (.slice none 0 0)).cell 2 rfl
  have H2 := H1.out.drew
  clear XR2 g1 g2
  generalize W1.drew = W2 at *
  go_wp2
  try simp only [Exit.inBlock, Exit.then]
  refine bodyPost_ret (by simp [results, Try.results21, go_sem, z0, z1, z2]; try rfl) rfl ?_
  exact ⟨rfl, ((H2.set (by omega) _).set (by omega) _).set (by omega) _⟩

set_option maxHeartbeats 1600000 in
set_option maxRecDepth 100000 in
theorem write_ok2 (A1 A2 A3 : Option Addr) (m1 m2 m3 c1 c2 c3 : Nat) (x1 x2 x3 : List Bool) (p : Nat) (v : Bool) (hp : p < m2) (hm1 : m1 ≤ 1000000) (hm2 : m2 ≤ 1000000) (hm3 : m3 ≤ 1000000) (w : World) (hx1 : Im w A1 m1 c1 x1) (hx2 : Im w A2 m2 c2 x2) (hx3 : Im w A3 m3 c3 x3) :
    Calls Try.prog 21 #[.agg #[.slice A1 m1 c1, .slice A2 m2 c2, .slice A3 m3 c3], .agg #[.int .i64 2, .int .i64 (p : Nat)], .bool v] w fun e w' => ∃ s, e = .returned (.tuple #[s, .int .i64 0]) ∧ OwS w' w.heap.size s m1 m2 m3 x1 (x2.set p v) x3 ∧ Nx w w' := by
  have N0 := Lib.hid (show Nx w (((w.alloc (.cells #[.slice A1 m1 c1, .slice A2 m2 c2, .slice A3 m3 c3] 26)).alloc (.cells #[.int .i64 2, .int .i64 (p : Nat)] 40)).alloc (.cells #[.slice none 0 0, .slice none 0 0, .slice none 0 0] 26)) from ((Nx.one _ _).alloc _).alloc _)
  have XT := Lib.hid (((bx_new w 26 [.slice A1 m1 c1, .slice A2 m2 c2, .slice A3 m3 c3]).nx (Nx.one _ (.cells #[.int .i64 2, .int .i64 (p : Nat)] 40))).nx (Nx.one _ (.cells #[.slice none 0 0, .slice none 0 0, .slice none 0 0] 26)))
  have XA := Lib.hid ((bx_new (w.alloc (.cells #[.slice A1 m1 c1, .slice A2 m2 c2, .slice A3 m3 c3] 26)) 40 [.int .i64 2, .int .i64 (p : Nat)]).nx (Nx.one _ (.cells #[.slice none 0 0, .slice none 0 0, .slice none 0 0] 26)))
  rw [show (w.alloc (.cells #[.slice A1 m1 c1, .slice A2 m2 c2, .slice A3 m3 c3] 26)).heap.size = w.heap.size + 1 by simp] at XA
  have XR := Lib.hid (bx_new ((w.alloc (.cells #[.slice A1 m1 c1, .slice A2 m2 c2, .slice A3 m3 c3] 26)).alloc (.cells #[.int .i64 2, .int .i64 (p : Nat)] 40)) 26 [.slice none 0 0, .slice none 0 0, .slice none 0 0])
  rw [show ((w.alloc (.cells #[.slice A1 m1 c1, .slice A2 m2 c2, .slice A3 m3 c3] 26)).alloc (.cells #[.int .i64 2, .int .i64 (p : Nat)] 40)).heap.size = w.heap.size + 1 + 1 by simp] at XR
  have BW := Lib.hid (show (((w.alloc (.cells #[.slice A1 m1 c1, .slice A2 m2 c2, .slice A3 m3 c3] 26)).alloc (.cells #[.int .i64 2, .int .i64 (p : Nat)] 40)).alloc (.cells #[.slice none 0 0, .slice none 0 0, .slice none 0 0] 26)).heap.size = w.heap.size + 3 by simp)
  have I1 := Lib.hid hx1
  have I2 := Lib.hid hx2
  have I3 := Lib.hid hx3
  have ST := Lib.hid (fun w' (k : Nx w w') => im_set_ok p v hp hm2 w' (hx2.nx k))
  clear hx1 hx2 hx3
  go_enter Try.func21, Try.ntmps21
  go_wp2_with fail
  generalize ((w.alloc (.cells #[.slice A1 m1 c1, .slice A2 m2 c2, .slice A3 m3 c3] 26)).alloc (.cells #[.int .i64 2, .int .i64 (p : Nat)] 40)).alloc (.cells #[.slice none 0 0, .slice none 0 0, .slice none 0 0] 26) = W at *
  refine (indexOf_any _ _).mono ?_
  rw [show ixI 2 = 1 from rfl, show ixB 2 = true from rfl]
  rintro e w' ⟨rfl, rfl⟩
  have t0 := XT.out.cell 0 rfl
  have t1 := XT.out.cell 1 rfl
  have t2 := XT.out.cell 2 rfl
  go_wp2_with fail
  clear t0 t1 t2
  refine (imagesOf_any _ _ _ _ _ _ _ _ _ _).mono ?_
  rintro e w1 ⟨rfl, h1⟩
  have XB := Lib.hid (bx_new w1 60 [.slice A1 m1 c1, .slice A2 m2 c2, .slice A3 m3 c3])
  have XA1 := Lib.hid (XA.out.nx (h1.alloc (.cells #[.slice A1 m1 c1, .slice A2 m2 c2, .slice A3 m3 c3] 60)))
  have XR1 := Lib.hid (XR.out.nx (h1.alloc (.cells #[.slice A1 m1 c1, .slice A2 m2 c2, .slice A3 m3 c3] 60)))
  have H1 := Lib.hid (N0.out.trans (h1.alloc (.cells #[.slice A1 m1 c1, .slice A2 m2 c2, .slice A3 m3 c3] 60)))
  have B1 := Lib.hid (show w.heap.size + 3 ≤ w1.heap.size by have := h1.size; rw [BW.out] at this; exact this)
  clear h1
  go_wp2_with fail
  have XB' : Bx (w1.alloc (.cells #[.slice A1 m1 c1, .slice A2 m2 c2, .slice A3 m3 c3] 60)) w1.heap.size 60 [.slice A1 m1 c1, .slice A2 m2 c2, .slice A3 m3 c3] := XB.out
  clear XB
  have XB := Lib.hid XB'
  clear XB'
  generalize w1.alloc (.cells #[.slice A1 m1 c1, .slice A2 m2 c2, .slice A3 m3 c3] 60) = W1 at *
  generalize hb1 : w1.heap.size = b at *
  have HS := Lib.hid (show ∀ w', Nx W1 w' → w'.cell? ⟨b, 1, none⟩ = some (.slice A2 m2 c2) ∧ w'.cell? ⟨w.heap.size + 1, 1, none⟩ = some (.int .i64 (p : Nat)) from fun w' h => ⟨(XB.out.nx h).cell 1 rfl, (XA1.out.nx h).cell 1 rfl⟩)
  obtain ⟨g1, g2⟩ := HS.out W1 (Nx.refl _)
  go_region_held3 (fun w' => w'.cell? ⟨b, 1, none⟩ = some (.slice A2 m2 c2) ∧ w'.cell? ⟨w.heap.size + 1, 1, none⟩ = some (.int .i64 (p : Nat))) (first | exact HS.out _ (by repeat (first | exact Nx.refl _ | assumption | refine Nx.drew ?_ | refine Nx.drewN ?_ _ | refine Nx.alloc ?_ _ | refine Nx.trans ?_ (by assumption))) | go_keep)
    (first | (go_at_call 37; refine (ST.out _ (H1.out.drew)).mono ?_; rintro e w2 ⟨g, cg, rfl, ho, h2⟩))
  clear g1 g2
  have h2' := (Nx.refl W1).drew.trans h2
  have Y := Lib.hid (XB.out.nx h2')
  have gg := Y.out.cell 1 rfl
  have f := Y.out.frozen 1
  have D := Lib.hid (show b < g by have h1 := ho.base_le; have h3 := XB.out.lt; have h4 : W1.heap.size = W1.drew.heap.size := rfl; omega)
  have XB3 := Lib.hid (Y.out.put 1 (.slice (some ⟨g, 0, none⟩) m2 cg))
  have XR3 := Lib.hid ((XR1.out.nx h2').far (b := b) (i := 1) (o := none) (by have := B1.out; omega) (.slice (some ⟨g, 0, none⟩) m2 cg))
  have H3 := Lib.hid ((H1.out.trans h2').set (g := b) (i := 1) (o := none) (by have := B1.out; omega) (.slice (some ⟨g, 0, none⟩) m2 cg))
  have O3 := Lib.hid (ho.far (b := b) (i := 1) (o := none) (by have := D.out; omega) (.slice (some ⟨g, 0, none⟩) m2 cg))
  clear h2 h2' ho
  have u0 := XB3.out.cell 0 rfl
  have u1 := XB3.out.cell 1 rfl
  have u2 := XB3.out.cell 2 rfl
  go_wp2_with fail
  clear gg f u0 u1 u2
  refine (stateOf_any _ _ _ _ _ _ _ _ _ _).mono ?_
  rintro e w4 ⟨rfl, h4⟩
  have CL := Lib.hid (clone_ok A1 (some ⟨g, 0, none⟩) A3 m1 m2 m3 c1 cg c3 _ _ _ hm1 hm2 hm3 w4 (I1.out.nx (H3.out.trans h4)) ((O3.out.nx h4).im (by rw [List.length_set]; exact I2.out.2.1)) (I3.out.nx (H3.out.trans h4)))
  have XR4 := Lib.hid (XR3.out.nx h4)
  have H4 := Lib.hid (H3.out.trans h4)
  clear h4
  go_wp2_with fail
  refine CL.out.mono ?_
  rintro e w5 ⟨s, rfl, ⟨a1, a2, a3, d1, d2, d3, rfl, hlt, ⟨o1, l1⟩, ⟨o2, l2⟩, ⟨o3, l3⟩⟩, h5⟩
  have XR5 := Lib.hid (XR4.out.nx h5)
  have r1 := XR5.out.cell 0 rfl
  have r2 := XR5.out.cell 1 rfl
  have r3 := XR5.out.cell 2 rfl
  have q1 := XR5.out.frozen 0
  have q2 := XR5.out.frozen 1
  have q3 := XR5.out.frozen 2
  have Z1 := XR5.out.put 0 (.slice (some ⟨a1, 0, none⟩) m1 d1)
  have Z2 := Z1.put 1 (.slice (some ⟨a2, 0, none⟩) m2 d2)
  have Z3 := Z2.put 2 (.slice (some ⟨a3, 0, none⟩) m3 d3)
  have z1 := Z1.cell 0 rfl
  have z2 := Z2.cell 1 rfl
  have z3 := Z3.cell 2 rfl
  have HL := Lib.hid hlt
  have O1 := Lib.hid (o1.low H4.out.size)
  have O2 := Lib.hid (o2.low H4.out.size)
  have O5 := Lib.hid (o3.low H4.out.size)
  have L1 := Lib.hid l1
  have L2 := Lib.hid l2
  have L3 := Lib.hid l3
  have E1 := Lib.hid (show w.heap.size + 1 + 1 < a1 by have h1 := o1.base_le; have h2 := XR4.out.lt; omega)
  have H5 := Lib.hid (H4.out.trans h5)
  clear Z1 Z2 Z3 o1 o2 o3 l1 l2 l3 h5 hlt
  go_wp2
  try simp only [Exit.inBlock, Exit.then]
  refine bodyPost_ret (by simp [results, Try.results21, go_sem, z1, z2, z3]; try rfl) rfl ?_
  have e1 := E1.out
  have hl := HL.out
  exact ⟨_, rfl, ⟨a1, a2, a3, d1, d2, d3, rfl, hl, ⟨((O1.out.far (by omega) _).far (by omega) _).far (by omega) _, L1.out⟩, ⟨((O2.out.far (by omega) _).far (by omega) _).far (by omega) _, L2.out⟩, ⟨((O5.out.far (by omega) _).far (by omega) _).far (by omega) _, L3.out⟩⟩,
    ((H5.out.set (by omega) _).set (by omega) _).set (by omega) _⟩
end Go.Proofs.Ytndapcbjcannhaa
