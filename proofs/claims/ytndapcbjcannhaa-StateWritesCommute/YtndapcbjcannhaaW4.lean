/- The walk of StateReadWriteMatchReference. Conditions: images that read as lists of bools. -/
import Derived.Test.YtndapcbjcannhaaS16
import Derived.Test.YtndapcbjcannhaaS3
namespace Go.Proofs.Ytndapcbjcannhaa
open Go.RowKit

theorem eqB_self' (xs : List Bool) : eqB xs xs = true := decide_eq_true rfl
/-- The images of what a write returns. -/
def wq (x1 x2 : List Bool) (k n : Int) (v : Bool) : List Bool := if wrE x1 x2 k n = 0 then wrQ x1 k n v else []
def wm (x1 x2 : List Bool) (k n : Int) (v : Bool) : List Bool := if wrE x1 x2 k n = 0 then wrM x2 k n v else []
def we (x1 x2 x3 : List Bool) (k n : Int) : List Bool := if wrE x1 x2 k n = 0 then x3 else []
theorem wrQ_len (x : List Bool) (k n : Int) (v : Bool) : (wrQ x k n v).length = x.length := by unfold wrQ; split <;> simp
theorem wrM_len (x : List Bool) (k n : Int) (v : Bool) : (wrM x k n v).length = x.length := by unfold wrM; split <;> simp
theorem wq_len {x1 x2 : List Bool} {k n : Int} {v : Bool} (h : x1.length ≤ 1000000) : (wq x1 x2 k n v).length ≤ 1000000 := by unfold wq; split <;> simp [wrQ_len, h]
theorem wm_len {x1 x2 : List Bool} {k n : Int} {v : Bool} (h : x2.length ≤ 1000000) : (wm x1 x2 k n v).length ≤ 1000000 := by unfold wm; split <;> simp [wrM_len, h]
theorem we_len {x1 x2 x3 : List Bool} {k n : Int} (h : x3.length ≤ 1000000) : (we x1 x2 x3 k n).length ≤ 1000000 := by unfold we; split <;> simp [h]

theorem write_ims (A1 A2 A3 : Option Addr) (m1 m2 m3 c1 c2 c3 : Nat) (x1 x2 x3 : List Bool) (k n : Int) (v : Bool) (hm1 : m1 ≤ 1000000) (hm2 : m2 ≤ 1000000) (hm3 : m3 ≤ 1000000) (w : World)
    (hx1 : Im w A1 m1 c1 x1) (hx2 : Im w A2 m2 c2 x2) (hx3 : Im w A3 m3 c3 x3) :
    Calls Try.prog 21 #[.agg #[.slice A1 m1 c1, .slice A2 m2 c2, .slice A3 m3 c3], .agg #[.int .i64 k, .int .i64 n], .bool v] w fun e w' => ∃ s, e = .returned (.tuple #[s, .int .i64 (wrE x1 x2 k n)]) ∧ ImS w' s (wq x1 x2 k n v) (wm x1 x2 k n v) (we x1 x2 x3 k n) ∧ Nx w w' := by
  refine (write_any A1 A2 A3 m1 m2 m3 c1 c2 c3 x1 x2 x3 k n v hm1 hm2 hm3 w hx1 hx2 hx3).mono ?_
  rintro e w' ⟨h1, h2, hn⟩
  unfold wq wm we
  by_cases h : wrE x1 x2 k n = 0
  · obtain ⟨s, rfl, hs⟩ := h2 h
    rw [if_pos h, if_pos h, if_pos h, h]
    exact ⟨s, rfl, hs.ims, hn⟩
  · rw [h1 h, if_neg h, if_neg h, if_neg h]
    exact ⟨_, rfl, ims_zero w', hn⟩
theorem refWrite_ims (A1 A2 A3 : Option Addr) (m1 m2 m3 c1 c2 c3 : Nat) (x1 x2 x3 : List Bool) (k n : Int) (v : Bool) (hm1 : m1 ≤ 1000000) (hm2 : m2 ≤ 1000000) (hm3 : m3 ≤ 1000000) (w : World)
    (hx1 : Im w A1 m1 c1 x1) (hx2 : Im w A2 m2 c2 x2) (hx3 : Im w A3 m3 c3 x3) :
    Calls Try.prog 22 #[.agg #[.slice A1 m1 c1, .slice A2 m2 c2, .slice A3 m3 c3], .agg #[.int .i64 k, .int .i64 n], .bool v] w fun e w' => ∃ s, e = .returned (.tuple #[s, .int .i64 (wrE x1 x2 k n)]) ∧ ImS w' s (wq x1 x2 k n v) (wm x1 x2 k n v) (we x1 x2 x3 k n) ∧ Nx w w' := by
  refine (refWrite_any A1 A2 A3 m1 m2 m3 c1 c2 c3 x1 x2 x3 k n v hm1 hm2 hm3 w hx1 hx2 hx3).mono ?_
  rintro e w' ⟨h1, h2, hn⟩
  unfold wq wm we
  by_cases h : wrE x1 x2 k n = 0
  · obtain ⟨s, rfl, hs⟩ := h2 h
    rw [if_pos h, if_pos h, if_pos h, h]
    exact ⟨s, rfl, hs, hn⟩
  · rw [h1 h, if_neg h, if_neg h, if_neg h]
    exact ⟨_, rfl, ims_zero w', hn⟩

set_option maxHeartbeats 1600000 in
set_option maxRecDepth 100000 in
theorem law4_big (A0 : Option Addr) (m0 c0 : Nat) (A1 A2 A3 : Option Addr) (m1 m2 m3 c1 c2 c3 : Nat) (k n : Int) (w : World) (hs : ¬ sm m1 m2 m3) :
    Calls Try.prog 4 #[.slice A0 m0 c0, .agg #[.slice A1 m1 c1, .slice A2 m2 c2, .slice A3 m3 c3], .agg #[.int .i64 k, .int .i64 n]] w fun e w' => e = .returned (.bool true) ∧ Nx w w' := by
  have N0 := Lib.hid (show Nx w (((w.alloc (.cells #[.slice A1 m1 c1, .slice A2 m2 c2, .slice A3 m3 c3] 26)).alloc (.cells #[.int .i64 k, .int .i64 n] 40)).alloc (.cells #[.slice A1 m1 c1, .slice A2 m2 c2, .slice A3 m3 c3] 26)) from ((Nx.one _ _).alloc _).alloc _)
  have LG := Lib.hid (large1_yes (w.heap.size + 1 + 1) A1 A2 A3 m1 m2 m3 c1 c2 c3 hs (((w.alloc (.cells #[.slice A1 m1 c1, .slice A2 m2 c2, .slice A3 m3 c3] 26)).alloc (.cells #[.int .i64 k, .int .i64 n] 40)).alloc (.cells #[.slice A1 m1 c1, .slice A2 m2 c2, .slice A3 m3 c3] 26)) (by
    have := bx_new ((w.alloc (.cells #[.slice A1 m1 c1, .slice A2 m2 c2, .slice A3 m3 c3] 26)).alloc (.cells #[.int .i64 k, .int .i64 n] 40)) 26 [.slice A1 m1 c1, .slice A2 m2 c2, .slice A3 m3 c3]
    simpa using this))
  clear hs
  go_enter Try.func4, Try.ntmps4
  go_wp2_with fail
  refine LG.out.mono ?_
  rintro e w1 ⟨rfl, h1⟩
  have H1 := Lib.hid (N0.out.trans h1)
  clear h1
  go_wp2_with fail
  refine (alive_any _).mono ?_
  rintro e w2 ⟨rfl, h2⟩
  have H2 := Lib.hid (H1.out.trans h2)
  clear h2
  go_wp2
  go_ret
  exact ⟨rfl, H2.out⟩

set_option maxHeartbeats 1600000 in
set_option maxRecDepth 100000 in
theorem law4_long (A0 : Option Addr) (m0 c0 : Nat) (A1 A2 A3 : Option Addr) (m1 m2 m3 c1 c2 c3 : Nat) (k n : Int) (w : World) (hs : sm m1 m2 m3) (h0 : ¬ m0 ≤ 1000) :
    Calls Try.prog 4 #[.slice A0 m0 c0, .agg #[.slice A1 m1 c1, .slice A2 m2 c2, .slice A3 m3 c3], .agg #[.int .i64 k, .int .i64 n]] w fun e w' => e = .returned (.bool true) ∧ Nx w w' := by
  have N0 := Lib.hid (show Nx w (((w.alloc (.cells #[.slice A1 m1 c1, .slice A2 m2 c2, .slice A3 m3 c3] 26)).alloc (.cells #[.int .i64 k, .int .i64 n] 40)).alloc (.cells #[.slice A1 m1 c1, .slice A2 m2 c2, .slice A3 m3 c3] 26)) from ((Nx.one _ _).alloc _).alloc _)
  have LG := Lib.hid (large1_no (w.heap.size + 1 + 1) A1 A2 A3 m1 m2 m3 c1 c2 c3 hs (((w.alloc (.cells #[.slice A1 m1 c1, .slice A2 m2 c2, .slice A3 m3 c3] 26)).alloc (.cells #[.int .i64 k, .int .i64 n] 40)).alloc (.cells #[.slice A1 m1 c1, .slice A2 m2 c2, .slice A3 m3 c3] 26)) (by
    have := bx_new ((w.alloc (.cells #[.slice A1 m1 c1, .slice A2 m2 c2, .slice A3 m3 c3] 26)).alloc (.cells #[.int .i64 k, .int .i64 n] 40)) 26 [.slice A1 m1 c1, .slice A2 m2 c2, .slice A3 m3 c3]
    simpa using this))
  have hl : (1000 : Int) < (m0 : Int) := by omega
  clear hs h0
  go_enter Try.func4, Try.ntmps4
  go_wp2_with fail
  refine LG.out.mono ?_
  rintro e w1 ⟨rfl, h1⟩
  have H1 := Lib.hid (N0.out.trans h1)
  clear h1
  go_wp2_with fail
  refine (alive_any _).mono ?_
  rintro e w2 ⟨rfl, h2⟩
  have H2 := Lib.hid (H1.out.trans h2)
  clear h2
  go_wp2
  go_ret
  exact ⟨rfl, H2.out⟩

set_option maxHeartbeats 6400000 in
set_option maxRecDepth 100000 in
theorem law4_small (A0 : Option Addr) (m0 c0 : Nat) (A1 A2 A3 : Option Addr) (m1 m2 m3 c1 c2 c3 : Nat) (k n : Int) (x0 x1 x2 x3 : List Bool) (w : World) (hs : sm m1 m2 m3) (h0 : m0 ≤ 1000) (hx0 : Im w A0 m0 c0 x0) (hx1 : Im w A1 m1 c1 x1) (hx2 : Im w A2 m2 c2 x2) (hx3 : Im w A3 m3 c3 x3) :
    Calls Try.prog 4 #[.slice A0 m0 c0, .agg #[.slice A1 m1 c1, .slice A2 m2 c2, .slice A3 m3 c3], .agg #[.int .i64 k, .int .i64 n]] w fun e w' => e = .returned (.bool true) ∧ Nx w w' := by
  have N0 := Lib.hid (show Nx w (((w.alloc (.cells #[.slice A1 m1 c1, .slice A2 m2 c2, .slice A3 m3 c3] 26)).alloc (.cells #[.int .i64 k, .int .i64 n] 40)).alloc (.cells #[.slice A1 m1 c1, .slice A2 m2 c2, .slice A3 m3 c3] 26)) from ((Nx.one _ _).alloc _).alloc _)
  have LG := Lib.hid (large1_no (w.heap.size + 1 + 1) A1 A2 A3 m1 m2 m3 c1 c2 c3 hs (((w.alloc (.cells #[.slice A1 m1 c1, .slice A2 m2 c2, .slice A3 m3 c3] 26)).alloc (.cells #[.int .i64 k, .int .i64 n] 40)).alloc (.cells #[.slice A1 m1 c1, .slice A2 m2 c2, .slice A3 m3 c3] 26)) (by
    have := bx_new ((w.alloc (.cells #[.slice A1 m1 c1, .slice A2 m2 c2, .slice A3 m3 c3] 26)).alloc (.cells #[.int .i64 k, .int .i64 n] 40)) 26 [.slice A1 m1 c1, .slice A2 m2 c2, .slice A3 m3 c3]
    simpa using this))
  have hl : ¬ (1000 : Int) < (m0 : Int) := by omega
  obtain ⟨b1, b2, b3⟩ := hs
  have XA := Lib.hid (((bx_new w 26 [.slice A1 m1 c1, .slice A2 m2 c2, .slice A3 m3 c3]).nx (Nx.one _ (.cells #[.int .i64 k, .int .i64 n] 40))).nx (Nx.one _ (.cells #[.slice A1 m1 c1, .slice A2 m2 c2, .slice A3 m3 c3] 26)))
  have XK := Lib.hid ((bx_new (w.alloc (.cells #[.slice A1 m1 c1, .slice A2 m2 c2, .slice A3 m3 c3] 26)) 40 [.int .i64 k, .int .i64 n]).nx (Nx.one _ (.cells #[.slice A1 m1 c1, .slice A2 m2 c2, .slice A3 m3 c3] 26)))
  rw [show (w.alloc (.cells #[.slice A1 m1 c1, .slice A2 m2 c2, .slice A3 m3 c3] 26)).heap.size = w.heap.size + 1 by simp] at XK
  have RD := Lib.hid (fun w' (q : Nx w w') => read_any A0 m0 c0 A1 A2 A3 m1 m2 m3 c1 c2 c3 x0 x1 x2 k n w' (hx0.nx q) (hx1.nx q) (hx2.nx q))
  have RR := Lib.hid (fun w' (q : Nx w w') => refRead_any A0 m0 c0 A1 A2 A3 m1 m2 m3 c1 c2 c3 x0 x1 x2 k n w' (hx0.nx q) (hx1.nx q) (hx2.nx q))
  have WR := Lib.hid (fun w' v (q : Nx w w') => write_ims A1 A2 A3 m1 m2 m3 c1 c2 c3 x1 x2 x3 k n v (by omega) (by omega) (by omega) w' (hx1.nx q) (hx2.nx q) (hx3.nx q))
  have RW := Lib.hid (fun w' v (q : Nx w w') => refWrite_ims A1 A2 A3 m1 m2 m3 c1 c2 c3 x1 x2 x3 k n v (by omega) (by omega) (by omega) w' (hx1.nx q) (hx2.nx q) (hx3.nx q))
  have lq := fun v => wq_len (x1 := x1) (x2 := x2) (k := k) (n := n) (v := v) (by rw [hx1.2.1]; omega)
  have lm := fun v => wm_len (x1 := x1) (x2 := x2) (k := k) (n := n) (v := v) (by rw [hx2.2.1]; omega)
  have le := we_len (x1 := x1) (x2 := x2) (x3 := x3) (k := k) (n := n) (by rw [hx3.2.1]; omega)
  have LQ := Lib.hid lq
  have LM := Lib.hid lm
  have LE := Lib.hid le
  clear hx0 hx1 hx2 hx3 lq lm le h0
  generalize rdSV x0 x1 x2 k n = rv at *
  generalize rdSE x0 x1 x2 k n = re at *
  generalize wrE x1 x2 k n = we0 at *
  generalize wq x1 x2 k n = fq at *
  generalize wm x1 x2 k n = fm at *
  generalize we x1 x2 x3 k n = fe at *
  go_enter Try.func4, Try.ntmps4
  go_wp2_with fail
  generalize hh1 : w.heap.size + 1 = h1 at *
  generalize hh0 : w.heap.size = h0 at *
  generalize (((w.alloc (.cells #[.slice A1 m1 c1, .slice A2 m2 c2, .slice A3 m3 c3] 26)).alloc (.cells #[.int .i64 k, .int .i64 n] 40)).alloc (.cells #[.slice A1 m1 c1, .slice A2 m2 c2, .slice A3 m3 c3] 26)) = W at *
  have HS := Lib.hid (show ∀ w', Nx W w' → (w'.cell? ⟨h0, 0, none⟩ = some (.slice A1 m1 c1) ∧ w'.cell? ⟨h0, 1, none⟩ = some (.slice A2 m2 c2) ∧ w'.cell? ⟨h0, 2, none⟩ = some (.slice A3 m3 c3) ∧ w'.cell? ⟨h1, 0, none⟩ = some (.int .i64 k) ∧ w'.cell? ⟨h1, 1, none⟩ = some (.int .i64 n)) from fun w' h =>
    ⟨(XA.out.nx h).cell 0 rfl, (XA.out.nx h).cell 1 rfl, (XA.out.nx h).cell 2 rfl, (XK.out.nx h).cell 0 rfl, (XK.out.nx h).cell 1 rfl⟩)
  refine LG.out.mono ?_
  rintro e w1 ⟨rfl, k1⟩
  have H1 := Lib.hid k1
  clear k1
  obtain ⟨g1, g2, g3, g4, g5⟩ := HS.out w1 H1.out
  go_wp2_with fail
  clear g1 g2 g3 g4 g5
  refine (RD.out _ (N0.out.trans H1.out)).mono ?_
  rintro e w2 ⟨rfl, k2⟩
  have H2 := Lib.hid (H1.out.trans k2)
  clear k2
  obtain ⟨g1, g2, g3, g4, g5⟩ := HS.out w2 H2.out
  go_wp2_with fail
  clear g1 g2 g3 g4 g5
  refine (RR.out _ (N0.out.trans H2.out)).mono ?_
  rintro e w3 ⟨rfl, k3⟩
  have H3 := Lib.hid ((H2.out.trans k3).alloc (.cells #[.bool false, .bool true] 4))
  have X1 := Lib.hid (bx_new w3 4 [.bool false, .bool true])
  clear k3
  go_wp2_with fail
  generalize hb : w3.heap.size = b at *
  have X1' : Bx (w3.alloc (.cells #[.bool false, .bool true] 4)) b 4 [.bool false, .bool true] := X1.out
  clear X1
  have X1 := Lib.hid X1'
  clear X1'
  generalize w3.alloc (.cells #[.bool false, .bool true] 4) = u1 at *
  have G1 := Lib.hid H3.out
  refine wp_loop_rounds 3 ?_
  rw [rounds_succ]
  obtain ⟨g1, g2, g3, g4, g5⟩ := HS.out u1 G1.out
  have gx := X1.out.cell 0 rfl
  go_wp2_with fail
  clear g1 g2 g3 g4 g5 gx
  refine (WR.out _ false (N0.out.trans G1.out)).mono ?_
  rintro e p1 ⟨s, rfl, ⟨P1, P2, P3, e1, e2, e3, rfl, i1, i2, i3⟩, k1⟩
  have I1 := Lib.hid i1
  have I2 := Lib.hid i2
  have I3 := Lib.hid i3
  have NA := Lib.hid (k1.alloc (.cells #[.slice P1 (fq false).length e1, .slice P2 (fm false).length e2, .slice P3 fe.length e3] 26))
  have BP := Lib.hid (bx_new p1 26 [.slice P1 (fq false).length e1, .slice P2 (fm false).length e2, .slice P3 fe.length e3])
  clear k1 i1 i2 i3
  obtain ⟨g1, g2, g3, g4, g5⟩ := HS.out _ (G1.out.trans NA.out)
  go_wp2_with fail
  clear g1 g2 g3 g4 g5
  refine (RW.out _ false (N0.out.trans (G1.out.trans NA.out))).mono ?_
  rintro e q1 ⟨s, rfl, ⟨Q1, Q2, Q3, f1, f2, f3, rfl, i1, i2, i3⟩, k2⟩
  have NQ := Lib.hid (k2.alloc (.cells #[.slice Q1 (fq false).length f1, .slice Q2 (fm false).length f2, .slice Q3 fe.length f3] 26))
  have BQ := bx_new q1 26 [.slice Q1 (fq false).length f1, .slice Q2 (fm false).length f2, .slice Q3 fe.length f3]
  have BP2 := BP.out.nx NQ.out
  have EQ := Lib.hid (stRefEqual_any P1 P2 P3 _ _ _ e1 e2 e3 Q1 Q2 Q3 _ _ _ f1 f2 f3 (fq false) (fm false) fe (fq false) (fm false) fe (LQ.out false) (LM.out false) LE.out _
    (I1.out.nx ((Nx.one _ _).trans NQ.out)) (I2.out.nx ((Nx.one _ _).trans NQ.out)) (I3.out.nx ((Nx.one _ _).trans NQ.out)) (i1.nx (Nx.one _ (.cells #[.slice Q1 (fq false).length f1, .slice Q2 (fm false).length f2, .slice Q3 fe.length f3] 26))) (i2.nx (Nx.one _ _)) (i3.nx (Nx.one _ _)))
  simp only [eqB_self', Bool.and_self] at EQ
  have g1 := BP2.cell 0 rfl
  have g2 := BP2.cell 1 rfl
  have g3 := BP2.cell 2 rfl
  have g4 := BQ.cell 0 rfl
  have g5 := BQ.cell 1 rfl
  have g6 := BQ.cell 2 rfl
  have NN := Lib.hid ((NA.out.trans NQ.out))
  clear k2 i1 i2 i3 BP2 BQ
  go_wp2_with fail
  clear g1 g2 g3 g4 g5 g6
  refine EQ.out.mono ?_
  rintro e u2 ⟨rfl, k3⟩
  have G2 := Lib.hid (G1.out.trans (NN.out.trans k3))
  have X2 := Lib.hid (X1.out.nx (NN.out.trans k3))
  clear k3 I1 I2 I3 NA BP NQ EQ NN
  go_wp2
  rw [rounds_succ]
  obtain ⟨g1, g2, g3, g4, g5⟩ := HS.out u2 G2.out
  have gx := X2.out.cell 1 rfl
  go_wp2_with fail
  clear g1 g2 g3 g4 g5 gx
  refine (WR.out _ true (N0.out.trans G2.out)).mono ?_
  rintro e p2 ⟨s, rfl, ⟨P1, P2, P3, e1, e2, e3, rfl, i1, i2, i3⟩, k1⟩
  have I1 := Lib.hid i1
  have I2 := Lib.hid i2
  have I3 := Lib.hid i3
  have NA := Lib.hid (k1.alloc (.cells #[.slice P1 (fq true).length e1, .slice P2 (fm true).length e2, .slice P3 fe.length e3] 26))
  have BP := Lib.hid (bx_new p2 26 [.slice P1 (fq true).length e1, .slice P2 (fm true).length e2, .slice P3 fe.length e3])
  clear k1 i1 i2 i3
  obtain ⟨g1, g2, g3, g4, g5⟩ := HS.out _ (G2.out.trans NA.out)
  go_wp2_with fail
  clear g1 g2 g3 g4 g5
  refine (RW.out _ true (N0.out.trans (G2.out.trans NA.out))).mono ?_
  rintro e q2 ⟨s, rfl, ⟨Q1, Q2, Q3, f1, f2, f3, rfl, i1, i2, i3⟩, k2⟩
  have NQ := Lib.hid (k2.alloc (.cells #[.slice Q1 (fq true).length f1, .slice Q2 (fm true).length f2, .slice Q3 fe.length f3] 26))
  have BQ := bx_new q2 26 [.slice Q1 (fq true).length f1, .slice Q2 (fm true).length f2, .slice Q3 fe.length f3]
  have BP2 := BP.out.nx NQ.out
  have EQ := Lib.hid (stRefEqual_any P1 P2 P3 _ _ _ e1 e2 e3 Q1 Q2 Q3 _ _ _ f1 f2 f3 (fq true) (fm true) fe (fq true) (fm true) fe (LQ.out true) (LM.out true) LE.out _
    (I1.out.nx ((Nx.one _ _).trans NQ.out)) (I2.out.nx ((Nx.one _ _).trans NQ.out)) (I3.out.nx ((Nx.one _ _).trans NQ.out)) (i1.nx (Nx.one _ (.cells #[.slice Q1 (fq true).length f1, .slice Q2 (fm true).length f2, .slice Q3 fe.length f3] 26))) (i2.nx (Nx.one _ _)) (i3.nx (Nx.one _ _)))
  simp only [eqB_self', Bool.and_self] at EQ
  have g1 := BP2.cell 0 rfl
  have g2 := BP2.cell 1 rfl
  have g3 := BP2.cell 2 rfl
  have g4 := BQ.cell 0 rfl
  have g5 := BQ.cell 1 rfl
  have g6 := BQ.cell 2 rfl
  have NN := Lib.hid ((NA.out.trans NQ.out))
  clear k2 i1 i2 i3 BP2 BQ
  go_wp2_with fail
  clear g1 g2 g3 g4 g5 g6
  refine EQ.out.mono ?_
  rintro e u3 ⟨rfl, k3⟩
  have G3 := Lib.hid (G2.out.trans (NN.out.trans k3))
  have X3 := Lib.hid (X2.out.nx (NN.out.trans k3))
  clear k3 I1 I2 I3 NA BP NQ EQ NN
  go_wp2
  rw [rounds_succ]
  go_wp2_with fail
  refine (alive_any _).mono ?_
  rintro e v5 ⟨rfl, k5⟩
  have G4 := Lib.hid (G3.out.trans k5)
  clear k5
  go_wp2
  go_ret
  exact ⟨rfl, N0.out.trans G4.out⟩
end Go.Proofs.Ytndapcbjcannhaa
