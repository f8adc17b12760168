/- The walk of StateWritesCommute, where a write fails. Conditions: images that read as lists of bools, of at most a thousand. -/
import Derived.Test.YtndapcbjcannhaaW7a
namespace Go.Proofs.Ytndapcbjcannhaa
open Go.RowKit

set_option maxHeartbeats 6400000 in
set_option maxRecDepth 100000 in
theorem law7_f1 (A1 A2 A3 : Option Addr) (m1 m2 m3 c1 c2 c3 : Nat) (k n k' n' : Int) (va vb : Bool) (x1 x2 x3 : List Bool) (w : World) (hs : sm m1 m2 m3) (hx : Im w A1 m1 c1 x1 ∧ Im w A2 m2 c2 x2 ∧ Im w A3 m3 c3 x3) (he1 : wrE x1 x2 k n ≠ 0) :
    Calls Try.prog 7 #[.agg #[.slice A1 m1 c1, .slice A2 m2 c2, .slice A3 m3 c3], .agg #[.int .i64 k, .int .i64 n, .int .i64 k', .int .i64 n'], .agg #[.bool va, .bool vb]] w fun e w' => e = .returned (.bool true) ∧ Nx w w' := by
  have N0 := Lib.hid (show Nx w ((((w.alloc (.cells #[.slice A1 m1 c1, .slice A2 m2 c2, .slice A3 m3 c3] 26)).alloc (.cells #[.int .i64 k, .int .i64 n, .int .i64 k', .int .i64 n'] 48)).alloc (.cells #[.bool va, .bool vb] 55)).alloc (.cells #[.slice A1 m1 c1, .slice A2 m2 c2, .slice A3 m3 c3] 26)) from (((Nx.one _ _).alloc _).alloc _).alloc _)
  have XA := Lib.hid ((((bx_new w 26 [.slice A1 m1 c1, .slice A2 m2 c2, .slice A3 m3 c3]).nx (Nx.one _ (.cells #[.int .i64 k, .int .i64 n, .int .i64 k', .int .i64 n'] 48))).nx (Nx.one _ (.cells #[.bool va, .bool vb] 55))).nx (Nx.one _ (.cells #[.slice A1 m1 c1, .slice A2 m2 c2, .slice A3 m3 c3] 26)))
  have XT := Lib.hid (((bx_new (w.alloc (.cells #[.slice A1 m1 c1, .slice A2 m2 c2, .slice A3 m3 c3] 26)) 48 [.int .i64 k, .int .i64 n, .int .i64 k', .int .i64 n']).nx (Nx.one _ (.cells #[.bool va, .bool vb] 55))).nx (Nx.one _ (.cells #[.slice A1 m1 c1, .slice A2 m2 c2, .slice A3 m3 c3] 26)))
  rw [show (w.alloc (.cells #[.slice A1 m1 c1, .slice A2 m2 c2, .slice A3 m3 c3] 26)).heap.size = w.heap.size + 1 by simp] at XT
  have XV := Lib.hid ((bx_new ((w.alloc (.cells #[.slice A1 m1 c1, .slice A2 m2 c2, .slice A3 m3 c3] 26)).alloc (.cells #[.int .i64 k, .int .i64 n, .int .i64 k', .int .i64 n'] 48)) 55 [.bool va, .bool vb]).nx (Nx.one _ (.cells #[.slice A1 m1 c1, .slice A2 m2 c2, .slice A3 m3 c3] 26)))
  rw [show ((w.alloc (.cells #[.slice A1 m1 c1, .slice A2 m2 c2, .slice A3 m3 c3] 26)).alloc (.cells #[.int .i64 k, .int .i64 n, .int .i64 k', .int .i64 n'] 48)).heap.size = w.heap.size + 1 + 1 by simp] at XV
  have LG := Lib.hid (large1_no (w.heap.size + 1 + 1 + 1) A1 A2 A3 m1 m2 m3 c1 c2 c3 hs ((((w.alloc (.cells #[.slice A1 m1 c1, .slice A2 m2 c2, .slice A3 m3 c3] 26)).alloc (.cells #[.int .i64 k, .int .i64 n, .int .i64 k', .int .i64 n'] 48)).alloc (.cells #[.bool va, .bool vb] 55)).alloc (.cells #[.slice A1 m1 c1, .slice A2 m2 c2, .slice A3 m3 c3] 26)) (by
    have h := bx_new ((((w.alloc (.cells #[.slice A1 m1 c1, .slice A2 m2 c2, .slice A3 m3 c3] 26)).alloc (.cells #[.int .i64 k, .int .i64 n, .int .i64 k', .int .i64 n'] 48)).alloc (.cells #[.bool va, .bool vb] 55))) 26 [.slice A1 m1 c1, .slice A2 m2 c2, .slice A3 m3 c3]
    rw [show ((((w.alloc (.cells #[.slice A1 m1 c1, .slice A2 m2 c2, .slice A3 m3 c3] 26)).alloc (.cells #[.int .i64 k, .int .i64 n, .int .i64 k', .int .i64 n'] 48)).alloc (.cells #[.bool va, .bool vb] 55))).heap.size = w.heap.size + 1 + 1 + 1 by simp] at h
    exact h))
  have b1 : m1 ≤ 1000 := hs.1
  have b2 : m2 ≤ 1000 := hs.2.1
  have b3 : m3 ≤ 1000 := hs.2.2
  have I1 := Lib.hid hx.1
  have I2 := Lib.hid hx.2.1
  have I3 := Lib.hid hx.2.2
  have E1 := Lib.hid he1
  clear hs hx he1
  go_enter Try.func7, Try.ntmps7
  go_wp2_with fail
  generalize hh2 : w.heap.size + 1 + 1 = h2 at *
  generalize hh1 : w.heap.size + 1 = h1 at *
  generalize hh0 : w.heap.size = h0 at *
  generalize (((w.alloc (.cells #[.slice A1 m1 c1, .slice A2 m2 c2, .slice A3 m3 c3] 26)).alloc (.cells #[.int .i64 k, .int .i64 n, .int .i64 k', .int .i64 n'] 48)).alloc (.cells #[.bool va, .bool vb] 55)).alloc (.cells #[.slice A1 m1 c1, .slice A2 m2 c2, .slice A3 m3 c3] 26) = W at *
  have HS := Lib.hid (show ∀ w', Nx W w' → (w'.cell? ⟨h0, 0, none⟩ = some (.slice A1 m1 c1) ∧ w'.cell? ⟨h0, 1, none⟩ = some (.slice A2 m2 c2) ∧ w'.cell? ⟨h0, 2, none⟩ = some (.slice A3 m3 c3) ∧ w'.cell? ⟨h1, 0, none⟩ = some (.int .i64 k) ∧ w'.cell? ⟨h1, 1, none⟩ = some (.int .i64 n) ∧ w'.cell? ⟨h1, 2, none⟩ = some (.int .i64 k') ∧ w'.cell? ⟨h1, 3, none⟩ = some (.int .i64 n') ∧ w'.cell? ⟨h2, 0, none⟩ = some (.bool va) ∧ w'.cell? ⟨h2, 1, none⟩ = some (.bool vb)) from fun w' h => ⟨(XA.out.nx h).cell 0 rfl, (XA.out.nx h).cell 1 rfl, (XA.out.nx h).cell 2 rfl, (XT.out.nx h).cell 0 rfl, (XT.out.nx h).cell 1 rfl, (XT.out.nx h).cell 2 rfl, (XT.out.nx h).cell 3 rfl, (XV.out.nx h).cell 0 rfl, (XV.out.nx h).cell 1 rfl⟩)
  refine LG.out.mono ?_
  rintro e w1 ⟨rfl, q1⟩
  have H1 := Lib.hid q1
  clear q1 LG XA XT XV
  obtain ⟨g1, g2, g3, g4, g5, g6, g7, g8, g9⟩ := HS.out w1 H1.out
  go_wp2_with fail
  clear g1 g2 g3 g4 g5 g6 g7 g8 g9
  refine (write_no A1 A2 A3 m1 m2 m3 c1 c2 c3 x1 x2 x3 k n va (by omega) (by omega) (by omega) w1 (I1.out.nx (N0.out.trans H1.out)) (I2.out.nx (N0.out.trans H1.out)) (I3.out.nx (N0.out.trans H1.out)) E1.out).mono ?_
  rintro e w2 ⟨rfl, q2⟩
  have H2 := Lib.hid (H1.out.trans (q2.alloc (.cells #[.slice none 0 0, .slice none 0 0, .slice none 0 0] 26)))
  clear q2
  obtain ⟨g1, g2, g3, g4, g5, g6, g7, g8, g9⟩ := HS.out _ H2.out
  have t1 : (wrE x1 x2 k n == 0) = false := by rw [beq_eq_false_iff_ne]; exact E1.out
  have t2 : (wrE x1 x2 k n != 0) = true := by rw [bne_iff_ne]; exact E1.out
  go_wp2_with fail
  clear g1 g2 g3 g4 g5 g6 g7 g8 g9
  refine (write_ims A1 A2 A3 m1 m2 m3 c1 c2 c3 x1 x2 x3 k' n' vb (by omega) (by omega) (by omega) _ (I1.out.nx (N0.out.trans H2.out)) (I2.out.nx (N0.out.trans H2.out)) (I3.out.nx (N0.out.trans H2.out))).mono ?_
  rintro e w3 ⟨s, rfl, ⟨B1, B2, B3, d1, d2, d3, rfl, _⟩, q3⟩
  have H3 := Lib.hid (H2.out.trans q3)
  clear q3
  generalize wrE x1 x2 k n = er at *
  go_wp2_with fail
  refine (alive_any _).mono ?_
  rintro e w4 ⟨rfl, q4⟩
  have H4 := Lib.hid ((H3.out.alloc _).trans q4)
  clear q4
  go_wp2
  go_ret
  exact ⟨rfl, N0.out.trans H4.out⟩

set_option maxHeartbeats 6400000 in
set_option maxRecDepth 100000 in
theorem law7_f2 (A1 A2 A3 : Option Addr) (m1 m2 m3 c1 c2 c3 : Nat) (k n k' n' : Int) (va vb : Bool) (x1 x2 x3 : List Bool) (w : World) (hs : sm m1 m2 m3) (hx : Im w A1 m1 c1 x1 ∧ Im w A2 m2 c2 x2 ∧ Im w A3 m3 c3 x3) (he1 : wrE x1 x2 k n = 0) (he2 : wrE x1 x2 k' n' ≠ 0) :
    Calls Try.prog 7 #[.agg #[.slice A1 m1 c1, .slice A2 m2 c2, .slice A3 m3 c3], .agg #[.int .i64 k, .int .i64 n, .int .i64 k', .int .i64 n'], .agg #[.bool va, .bool vb]] w fun e w' => e = .returned (.bool true) ∧ Nx w w' := by
  have N0 := Lib.hid (show Nx w ((((w.alloc (.cells #[.slice A1 m1 c1, .slice A2 m2 c2, .slice A3 m3 c3] 26)).alloc (.cells #[.int .i64 k, .int .i64 n, .int .i64 k', .int .i64 n'] 48)).alloc (.cells #[.bool va, .bool vb] 55)).alloc (.cells #[.slice A1 m1 c1, .slice A2 m2 c2, .slice A3 m3 c3] 26)) from (((Nx.one _ _).alloc _).alloc _).alloc _)
  have XA := Lib.hid ((((bx_new w 26 [.slice A1 m1 c1, .slice A2 m2 c2, .slice A3 m3 c3]).nx (Nx.one _ (.cells #[.int .i64 k, .int .i64 n, .int .i64 k', .int .i64 n'] 48))).nx (Nx.one _ (.cells #[.bool va, .bool vb] 55))).nx (Nx.one _ (.cells #[.slice A1 m1 c1, .slice A2 m2 c2, .slice A3 m3 c3] 26)))
  have XT := Lib.hid (((bx_new (w.alloc (.cells #[.slice A1 m1 c1, .slice A2 m2 c2, .slice A3 m3 c3] 26)) 48 [.int .i64 k, .int .i64 n, .int .i64 k', .int .i64 n']).nx (Nx.one _ (.cells #[.bool va, .bool vb] 55))).nx (Nx.one _ (.cells #[.slice A1 m1 c1, .slice A2 m2 c2, .slice A3 m3 c3] 26)))
  rw [show (w.alloc (.cells #[.slice A1 m1 c1, .slice A2 m2 c2, .slice A3 m3 c3] 26)).heap.size = w.heap.size + 1 by simp] at XT
  have XV := Lib.hid ((bx_new ((w.alloc (.cells #[.slice A1 m1 c1, .slice A2 m2 c2, .slice A3 m3 c3] 26)).alloc (.cells #[.int .i64 k, .int .i64 n, .int .i64 k', .int .i64 n'] 48)) 55 [.bool va, .bool vb]).nx (Nx.one _ (.cells #[.slice A1 m1 c1, .slice A2 m2 c2, .slice A3 m3 c3] 26)))
  rw [show ((w.alloc (.cells #[.slice A1 m1 c1, .slice A2 m2 c2, .slice A3 m3 c3] 26)).alloc (.cells #[.int .i64 k, .int .i64 n, .int .i64 k', .int .i64 n'] 48)).heap.size = w.heap.size + 1 + 1 by simp] at XV
  have LG := Lib.hid (large1_no (w.heap.size + 1 + 1 + 1) A1 A2 A3 m1 m2 m3 c1 c2 c3 hs ((((w.alloc (.cells #[.slice A1 m1 c1, .slice A2 m2 c2, .slice A3 m3 c3] 26)).alloc (.cells #[.int .i64 k, .int .i64 n, .int .i64 k', .int .i64 n'] 48)).alloc (.cells #[.bool va, .bool vb] 55)).alloc (.cells #[.slice A1 m1 c1, .slice A2 m2 c2, .slice A3 m3 c3] 26)) (by
    have h := bx_new ((((w.alloc (.cells #[.slice A1 m1 c1, .slice A2 m2 c2, .slice A3 m3 c3] 26)).alloc (.cells #[.int .i64 k, .int .i64 n, .int .i64 k', .int .i64 n'] 48)).alloc (.cells #[.bool va, .bool vb] 55))) 26 [.slice A1 m1 c1, .slice A2 m2 c2, .slice A3 m3 c3]
    rw [show ((((w.alloc (.cells #[.slice A1 m1 c1, .slice A2 m2 c2, .slice A3 m3 c3] 26)).alloc (.cells #[.int .i64 k, .int .i64 n, .int .i64 k', .int .i64 n'] 48)).alloc (.cells #[.bool va, .bool vb] 55))).heap.size = w.heap.size + 1 + 1 + 1 by simp] at h
    exact h))
  have b1 : m1 ≤ 1000 := hs.1
  have b2 : m2 ≤ 1000 := hs.2.1
  have b3 : m3 ≤ 1000 := hs.2.2
  have I1 := Lib.hid hx.1
  have I2 := Lib.hid hx.2.1
  have I3 := Lib.hid hx.2.2
  have E1 := Lib.hid he1
  have E2 := Lib.hid he2
  clear hs hx he1 he2
  go_enter Try.func7, Try.ntmps7
  go_wp2_with fail
  generalize hh2 : w.heap.size + 1 + 1 = h2 at *
  generalize hh1 : w.heap.size + 1 = h1 at *
  generalize hh0 : w.heap.size = h0 at *
  generalize (((w.alloc (.cells #[.slice A1 m1 c1, .slice A2 m2 c2, .slice A3 m3 c3] 26)).alloc (.cells #[.int .i64 k, .int .i64 n, .int .i64 k', .int .i64 n'] 48)).alloc (.cells #[.bool va, .bool vb] 55)).alloc (.cells #[.slice A1 m1 c1, .slice A2 m2 c2, .slice A3 m3 c3] 26) = W at *
  have HS := Lib.hid (show ∀ w', Nx W w' → (w'.cell? ⟨h0, 0, none⟩ = some (.slice A1 m1 c1) ∧ w'.cell? ⟨h0, 1, none⟩ = some (.slice A2 m2 c2) ∧ w'.cell? ⟨h0, 2, none⟩ = some (.slice A3 m3 c3) ∧ w'.cell? ⟨h1, 0, none⟩ = some (.int .i64 k) ∧ w'.cell? ⟨h1, 1, none⟩ = some (.int .i64 n) ∧ w'.cell? ⟨h1, 2, none⟩ = some (.int .i64 k') ∧ w'.cell? ⟨h1, 3, none⟩ = some (.int .i64 n') ∧ w'.cell? ⟨h2, 0, none⟩ = some (.bool va) ∧ w'.cell? ⟨h2, 1, none⟩ = some (.bool vb)) from fun w' h => ⟨(XA.out.nx h).cell 0 rfl, (XA.out.nx h).cell 1 rfl, (XA.out.nx h).cell 2 rfl, (XT.out.nx h).cell 0 rfl, (XT.out.nx h).cell 1 rfl, (XT.out.nx h).cell 2 rfl, (XT.out.nx h).cell 3 rfl, (XV.out.nx h).cell 0 rfl, (XV.out.nx h).cell 1 rfl⟩)
  refine LG.out.mono ?_
  rintro e w1 ⟨rfl, q1⟩
  have H1 := Lib.hid q1
  clear q1 LG XA XT XV
  obtain ⟨g1, g2, g3, g4, g5, g6, g7, g8, g9⟩ := HS.out w1 H1.out
  go_wp2_with fail
  clear g1 g2 g3 g4 g5 g6 g7 g8 g9
  refine (write_yes A1 A2 A3 m1 m2 m3 c1 c2 c3 x1 x2 x3 k n va (by omega) (by omega) (by omega) w1 (I1.out.nx (N0.out.trans H1.out)) (I2.out.nx (N0.out.trans H1.out)) (I3.out.nx (N0.out.trans H1.out)) E1.out).mono ?_
  rintro e w2 ⟨B1, B2, B3, d1, d2, d3, rfl, _, q2⟩
  have H2 := Lib.hid (H1.out.trans (q2.alloc (.cells #[.slice B1 m1 d1, .slice B2 m2 d2, .slice B3 m3 d3] 26)))
  clear q2
  obtain ⟨g1, g2, g3, g4, g5, g6, g7, g8, g9⟩ := HS.out _ H2.out
  go_wp2_with fail
  clear g1 g2 g3 g4 g5 g6 g7 g8 g9
  refine (write_no A1 A2 A3 m1 m2 m3 c1 c2 c3 x1 x2 x3 k' n' vb (by omega) (by omega) (by omega) _ (I1.out.nx (N0.out.trans H2.out)) (I2.out.nx (N0.out.trans H2.out)) (I3.out.nx (N0.out.trans H2.out)) E2.out).mono ?_
  rintro e w3 ⟨rfl, q3⟩
  have H3 := Lib.hid (H2.out.trans q3)
  clear q3
  have t1 : (wrE x1 x2 k' n' == 0) = false := by rw [beq_eq_false_iff_ne]; exact E2.out
  have t2 : (wrE x1 x2 k' n' != 0) = true := by rw [bne_iff_ne]; exact E2.out
  generalize wrE x1 x2 k' n' = er at *
  go_wp2_with fail
  refine (alive_any _).mono ?_
  rintro e w4 ⟨rfl, q4⟩
  have H4 := Lib.hid ((H3.out.alloc _).trans q4)
  clear q4
  go_wp2
  go_ret
  exact ⟨rfl, N0.out.trans H4.out⟩
end Go.Proofs.Ytndapcbjcannhaa
