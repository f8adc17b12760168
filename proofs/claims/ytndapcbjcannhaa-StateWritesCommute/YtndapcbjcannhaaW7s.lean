/- The walk of StateWritesCommute, where both writes write. Conditions: images that read as lists of bools, of at most a thousand. -/
import Derived.Test.YtndapcbjcannhaaW7a
namespace Go.Proofs.Ytndapcbjcannhaa
open Go.RowKit

set_option maxHeartbeats 6400000 in
set_option maxRecDepth 100000 in
theorem law7_s (A1 A2 A3 : Option Addr) (m1 m2 m3 c1 c2 c3 : Nat) (k n k' n' : Int) (va vb : Bool) (x1 x2 x3 : List Bool) (w : World) (hs : sm m1 m2 m3) (hx : Im w A1 m1 c1 x1 ∧ Im w A2 m2 c2 x2 ∧ Im w A3 m3 c3 x3) (he1 : wrE x1 x2 k n = 0) (he2 : wrE x1 x2 k' n' = 0) (hab : (k = k' ∧ n = n') ∧ va = vb) :
    Calls Try.prog 7 #[.agg #[.slice A1 m1 c1, .slice A2 m2 c2, .slice A3 m3 c3], .agg #[.int .i64 k, .int .i64 n, .int .i64 k', .int .i64 n'], .agg #[.bool va, .bool vb]] w fun e w' => e = .returned (.bool true) ∧ Nx w w' := by
  have N0 := Lib.hid (show Nx w ((((w.alloc (.cells #[.slice A1 m1 c1, .slice A2 m2 c2, .slice A3 m3 c3] 26)).alloc (.cells #[.int .i64 k, .int .i64 n, .int .i64 k', .int .i64 n'] 48)).alloc (.cells #[.bool va, .bool vb] 55)).alloc (.cells #[.slice A1 m1 c1, .slice A2 m2 c2, .slice A3 m3 c3] 26)) from (((Nx.one _ _).alloc _).alloc _).alloc _)
  have XA := Lib.hid ((((bx_new w 26 [.slice A1 m1 c1, .slice A2 m2 c2, .slice A3 m3 c3]).nx (Nx.one _ (.cells #[.int .i64 k, .int .i64 n, .int .i64 k', .int .i64 n'] 48))).nx (Nx.one _ (.cells #[.bool va, .bool vb] 55))).nx (Nx.one _ (.cells #[.slice A1 m1 c1, .slice A2 m2 c2, .slice A3 m3 c3] 26)))
  have XT := Lib.hid (((bx_new (w.alloc (.cells #[.slice A1 m1 c1, .slice A2 m2 c2, .slice A3 m3 c3] 26)) 48 [.int .i64 k, .int .i64 n, .int .i64 k', .int .i64 n']).nx (Nx.one _ (.cells #[.bool va, .bool vb] 55))).nx (Nx.one _ (.cells #[.slice A1 m1 c1, .slice A2 m2 c2, .slice A3 m3 c3] 26)))
  rw [show (w.alloc (.cells #[.slice A1 m1 c1, .slice A2 m2 c2, .slice A3 m3 c3] 26)).heap.size = w.heap.size + 1 by simp] at XT
  have XV := Lib.hid ((bx_new ((w.alloc (.cells #[.slice A1 m1 c1, .slice A2 m2 c2, .slice A3 m3 c3] 26)).alloc (.cells #[.int .i64 k, .int .i64 n, .int .i64 k', .int .i64 n'] 48)) 55 [.bool va, .bool vb]).nx (Nx.one _ (.cells #[.slice A1 m1 c1, .slice A2 m2 c2, .slice A3 m3 c3] 26)))
  rw [show ((w.alloc (.cells #[.slice A1 m1 c1, .slice A2 m2 c2, .slice A3 m3 c3] 26)).alloc (.cells #[.int .i64 k, .int .i64 n, .int .i64 k', .int .i64 n'] 48)).heap.size = w.heap.size + 1 + 1 by simp] at XV
  have LG := Lib.hid (large1_no (w.heap.size + 1 + 1 + 1) A1 A2 A3 m1 m2 m3 c1 c2 c3 hs ((((w.alloc (.cells #[.slice A1 m1 c1, .slice A2 m2 c2, .slice A3 m3 c3] 26)).alloc (.cells #[.int .i64 k, .int .i64 n, .int .i64 k', .int .i64 n'] 48)).alloc (.cells #[.bool va, .bool vb] 55)).alloc (.cells #[.slice A1 m1 c1, .slice A2 m2 c2, .slice A3 m3 c3] 26)) (by
    have h := bx_new ((((w.alloc (.cells #[.slice A1 m1 c1, .slice A2 m2 c2, .slice A3 m3 c3] 26)).alloc (.cells #[.int .i64 k, .int .i64 n, .int .i64 k', .int .i64 n'] 48)).alloc (.cells #[.bool va, .bool vb] 55))) 26 [.slice A1 m1 c1, .slice A2 m2 c2, .slice A3 m3 c3]
    rw [show ((((w.alloc (.cells #[.slice A1 m1 c1, .slice A2 m2 c2, .slice A3 m3 c3] 26)).alloc (.cells #[.int .i64 k, .int .i64 n, .int .i64 k', .int .i64 n'] 48)).alloc (.cells #[.bool va, .bool vb] 55))).heap.size = w.heap.size + 1 + 1 + 1 by simp] at h
    exact h))
  have b1 : m1 ≤ 1000 := hs.1
  have b2 : m2 ≤ 1000 := hs.2.1
  have b3 : m3 ≤ 1000 := hs.2.2
  have I1 := Lib.hid hx.1
  have I2 := Lib.hid hx.2.1
  have I3 := Lib.hid hx.2.2
  have E1 := Lib.hid he1
  have E2 := Lib.hid he2
  have HAB := Lib.hid hab
  clear hs hx he1 he2 hab
  go_enter Try.func7, Try.ntmps7
  go_wp2_with fail
  generalize hh2 : w.heap.size + 1 + 1 = h2 at *
  generalize hh1 : w.heap.size + 1 = h1 at *
  generalize hh0 : w.heap.size = h0 at *
  generalize (((w.alloc (.cells #[.slice A1 m1 c1, .slice A2 m2 c2, .slice A3 m3 c3] 26)).alloc (.cells #[.int .i64 k, .int .i64 n, .int .i64 k', .int .i64 n'] 48)).alloc (.cells #[.bool va, .bool vb] 55)).alloc (.cells #[.slice A1 m1 c1, .slice A2 m2 c2, .slice A3 m3 c3] 26) = W at *
  have HS := Lib.hid (show ∀ w', Nx W w' → (w'.cell? ⟨h0, 0, none⟩ = some (.slice A1 m1 c1) ∧ w'.cell? ⟨h0, 1, none⟩ = some (.slice A2 m2 c2) ∧ w'.cell? ⟨h0, 2, none⟩ = some (.slice A3 m3 c3) ∧ w'.cell? ⟨h1, 0, none⟩ = some (.int .i64 k) ∧ w'.cell? ⟨h1, 1, none⟩ = some (.int .i64 n) ∧ w'.cell? ⟨h1, 2, none⟩ = some (.int .i64 k') ∧ w'.cell? ⟨h1, 3, none⟩ = some (.int .i64 n') ∧ w'.cell? ⟨h2, 0, none⟩ = some (.bool va) ∧ w'.cell? ⟨h2, 1, none⟩ = some (.bool vb)) from fun w' h => ⟨(XA.out.nx h).cell 0 rfl, (XA.out.nx h).cell 1 rfl, (XA.out.nx h).cell 2 rfl, (XT.out.nx h).cell 0 rfl, (XT.out.nx h).cell 1 rfl, (XT.out.nx h).cell 2 rfl, (XT.out.nx h).cell 3 rfl, (XV.out.nx h).cell 0 rfl, (XV.out.nx h).cell 1 rfl⟩)
  refine LG.out.mono ?_
  rintro e w1 ⟨rfl, q1⟩
  have H1 := Lib.hid q1
  clear q1 LG XA XT XV
  obtain ⟨g1, g2, g3, g4, g5, g6, g7, g8, g9⟩ := HS.out w1 H1.out
  go_wp2_with fail
  clear g1 g2 g3 g4 g5 g6 g7 g8 g9
  refine (write_yes A1 A2 A3 m1 m2 m3 c1 c2 c3 x1 x2 x3 k n va (by omega) (by omega) (by omega) w1 (I1.out.nx (N0.out.trans H1.out)) (I2.out.nx (N0.out.trans H1.out)) (I3.out.nx (N0.out.trans H1.out)) E1.out).mono ?_
  rintro e w2 ⟨B1, B2, B3, d1, d2, d3, rfl, ⟨i1, i2, i3⟩, q2⟩
  have P1 := Lib.hid (i1.nx (Nx.one w2 (.cells #[.slice B1 m1 d1, .slice B2 m2 d2, .slice B3 m3 d3] 26)))
  have P2 := Lib.hid (i2.nx (Nx.one w2 (.cells #[.slice B1 m1 d1, .slice B2 m2 d2, .slice B3 m3 d3] 26)))
  have P3 := Lib.hid (i3.nx (Nx.one w2 (.cells #[.slice B1 m1 d1, .slice B2 m2 d2, .slice B3 m3 d3] 26)))
  have XP := Lib.hid (bx_new w2 26 [.slice B1 m1 d1, .slice B2 m2 d2, .slice B3 m3 d3])
  have H2 := Lib.hid (H1.out.trans (q2.alloc (.cells #[.slice B1 m1 d1, .slice B2 m2 d2, .slice B3 m3 d3] 26)))
  clear q2 i1 i2 i3
  obtain ⟨g1, g2, g3, g4, g5, g6, g7, g8, g9⟩ := HS.out _ H2.out
  go_wp2_with fail
  clear g1 g2 g3 g4 g5 g6 g7 g8 g9
  generalize w2.heap.size = hp at *
  have XP' : Bx (w2.alloc (.cells #[.slice B1 m1 d1, .slice B2 m2 d2, .slice B3 m3 d3] 26)) hp 26 [.slice B1 m1 d1, .slice B2 m2 d2, .slice B3 m3 d3] := XP.out
  clear XP
  have XP := Lib.hid XP'
  clear XP'
  generalize w2.alloc (.cells #[.slice B1 m1 d1, .slice B2 m2 d2, .slice B3 m3 d3] 26) = V2 at *
  refine (write_yes A1 A2 A3 m1 m2 m3 c1 c2 c3 x1 x2 x3 k' n' vb (by omega) (by omega) (by omega) V2 (I1.out.nx (N0.out.trans H2.out)) (I2.out.nx (N0.out.trans H2.out)) (I3.out.nx (N0.out.trans H2.out)) E2.out).mono ?_
  rintro e w3 ⟨C1, C2, C3, f1, f2, f3, rfl, ⟨i1, i2, i3⟩, q3⟩
  have K3 := Lib.hid (q3.alloc (.cells #[.slice C1 m1 f1, .slice C2 m2 f2, .slice C3 m3 f3] 26))
  have Q1 := Lib.hid (i1.nx (Nx.one w3 (.cells #[.slice C1 m1 f1, .slice C2 m2 f2, .slice C3 m3 f3] 26)))
  have Q2 := Lib.hid (i2.nx (Nx.one w3 (.cells #[.slice C1 m1 f1, .slice C2 m2 f2, .slice C3 m3 f3] 26)))
  have Q3 := Lib.hid (i3.nx (Nx.one w3 (.cells #[.slice C1 m1 f1, .slice C2 m2 f2, .slice C3 m3 f3] 26)))
  have XQ := Lib.hid (bx_new w3 26 [.slice C1 m1 f1, .slice C2 m2 f2, .slice C3 m3 f3])
  have H3 := Lib.hid (H2.out.trans K3.out)
  have XP3 := Lib.hid (XP.out.nx K3.out)
  clear q3 i1 i2 i3
  obtain ⟨g1, g2, g3, g4, g5, g6, g7, g8, g9⟩ := HS.out _ H3.out
  have o1 := XP3.out.cell 0 rfl
  have o2 := XP3.out.cell 1 rfl
  have o3 := XP3.out.cell 2 rfl
  go_wp2_with fail
  clear g1 g2 g3 g4 g5 g6 g7 g8 g9 o1 o2 o3
  generalize w3.heap.size = hq at *
  have XQ' : Bx (w3.alloc (.cells #[.slice C1 m1 f1, .slice C2 m2 f2, .slice C3 m3 f3] 26)) hq 26 [.slice C1 m1 f1, .slice C2 m2 f2, .slice C3 m3 f3] := XQ.out
  clear XQ
  have XQ := Lib.hid XQ'
  clear XQ'
  generalize w3.alloc (.cells #[.slice C1 m1 f1, .slice C2 m2 f2, .slice C3 m3 f3] 26) = V3 at *
  refine (write_yes B1 B2 B3 m1 m2 m3 d1 d2 d3 _ _ x3 k' n' vb (by omega) (by omega) (by omega) V3 (P1.out.nx K3.out) (P2.out.nx K3.out) (P3.out.nx K3.out) (by rw [wrE_same]; exact E2.out)).mono ?_
  rintro e w4 ⟨D1, D2, D3, r1, r2, r3, rfl, ⟨i1, i2, i3⟩, q4⟩
  have K4 := Lib.hid (q4.alloc (.cells #[.slice D1 m1 r1, .slice D2 m2 r2, .slice D3 m3 r3] 26))
  have R1 := Lib.hid (i1.nx (Nx.one w4 (.cells #[.slice D1 m1 r1, .slice D2 m2 r2, .slice D3 m3 r3] 26)))
  have R2 := Lib.hid (i2.nx (Nx.one w4 (.cells #[.slice D1 m1 r1, .slice D2 m2 r2, .slice D3 m3 r3] 26)))
  have R3 := Lib.hid (i3.nx (Nx.one w4 (.cells #[.slice D1 m1 r1, .slice D2 m2 r2, .slice D3 m3 r3] 26)))
  have XR := Lib.hid (bx_new w4 26 [.slice D1 m1 r1, .slice D2 m2 r2, .slice D3 m3 r3])
  have H4 := Lib.hid (H3.out.trans K4.out)
  have XQ4 := Lib.hid (XQ.out.nx K4.out)
  clear q4 i1 i2 i3
  obtain ⟨g1, g2, g3, g4, g5, g6, g7, g8, g9⟩ := HS.out _ H4.out
  have o1 := XQ4.out.cell 0 rfl
  have o2 := XQ4.out.cell 1 rfl
  have o3 := XQ4.out.cell 2 rfl
  go_wp2_with fail
  clear g1 g2 g3 g4 g5 g6 g7 g8 g9 o1 o2 o3
  generalize w4.heap.size = hr at *
  have XR' : Bx (w4.alloc (.cells #[.slice D1 m1 r1, .slice D2 m2 r2, .slice D3 m3 r3] 26)) hr 26 [.slice D1 m1 r1, .slice D2 m2 r2, .slice D3 m3 r3] := XR.out
  clear XR
  have XR := Lib.hid XR'
  clear XR'
  generalize w4.alloc (.cells #[.slice D1 m1 r1, .slice D2 m2 r2, .slice D3 m3 r3] 26) = V4 at *
  refine (write_yes C1 C2 C3 m1 m2 m3 f1 f2 f3 _ _ x3 k n va (by omega) (by omega) (by omega) V4 (Q1.out.nx K4.out) (Q2.out.nx K4.out) (Q3.out.nx K4.out) (by rw [wrE_same]; exact E1.out)).mono ?_
  rintro e w5 ⟨F1, F2, F3, s1, s2, s3, rfl, ⟨i1, i2, i3⟩, q5⟩
  have K5 := Lib.hid (q5.alloc (.cells #[.slice F1 m1 s1, .slice F2 m2 s2, .slice F3 m3 s3] 26))
  have S1 := Lib.hid (i1.nx (Nx.one w5 (.cells #[.slice F1 m1 s1, .slice F2 m2 s2, .slice F3 m3 s3] 26)))
  have S2 := Lib.hid (i2.nx (Nx.one w5 (.cells #[.slice F1 m1 s1, .slice F2 m2 s2, .slice F3 m3 s3] 26)))
  have S3 := Lib.hid (i3.nx (Nx.one w5 (.cells #[.slice F1 m1 s1, .slice F2 m2 s2, .slice F3 m3 s3] 26)))
  have XS := Lib.hid (bx_new w5 26 [.slice F1 m1 s1, .slice F2 m2 s2, .slice F3 m3 s3])
  have H5 := Lib.hid (H4.out.trans K5.out)
  have XR5 := Lib.hid (XR.out.nx K5.out)
  clear q5 i1 i2 i3
  obtain ⟨g1, g2, g3, g4, g5, g6, g7, g8, g9⟩ := HS.out _ H5.out
  have o1 := XR5.out.cell 0 rfl
  have o2 := XR5.out.cell 1 rfl
  have o3 := XR5.out.cell 2 rfl
  go_wp2_with fail
  clear g1 g2 g3 g4 g5 g6 g7 g8 g9 o1 o2 o3
  generalize w5.heap.size = hs at *
  have XS' : Bx (w5.alloc (.cells #[.slice F1 m1 s1, .slice F2 m2 s2, .slice F3 m3 s3] 26)) hs 26 [.slice F1 m1 s1, .slice F2 m2 s2, .slice F3 m3 s3] := XS.out
  clear XS
  have XS := Lib.hid XS'
  clear XS'
  generalize w5.alloc (.cells #[.slice F1 m1 s1, .slice F2 m2 s2, .slice F3 m3 s3] 26) = V5 at *
  refine (read_any none 0 0 D1 D2 D3 m1 m2 m3 r1 r2 r3 [] _ _ k' n' V5 (im_nil V5) (R1.out.nx K5.out) (R2.out.nx K5.out)).mono ?_
  rw [(read_written (x0 := []) (v := vb) (show wrE (wrQ x1 k n va) (wrM x2 k n va) k' n' = 0 by rw [wrE_same]; exact E2.out)).1, (read_written (x0 := []) (v := vb) (show wrE (wrQ x1 k n va) (wrM x2 k n va) k' n' = 0 by rw [wrE_same]; exact E2.out)).2]
  rintro e w6 ⟨rfl, q6⟩
  have H6 := Lib.hid (H5.out.trans q6)
  have K6 := Lib.hid q6
  clear q6
  go_wp2_with fail
  refine (alive_any _).mono ?_
  rintro e w7 ⟨rfl, q7⟩
  have H7 := Lib.hid (H6.out.trans q7)
  have K7 := Lib.hid (K6.out.trans q7)
  clear q7
  obtain ⟨g1, g2, g3, g4, g5, g6, g7, g8, g9⟩ := HS.out _ H7.out
  have o1 := (XR5.out.nx K7.out).cell 0 rfl
  have o2 := (XR5.out.nx K7.out).cell 1 rfl
  have o3 := (XR5.out.nx K7.out).cell 2 rfl
  have o4 := (XS.out.nx K7.out).cell 0 rfl
  have o5 := (XS.out.nx K7.out).cell 1 rfl
  have o6 := (XS.out.nx K7.out).cell 2 rfl
  have EQ := Lib.hid (stEqual_any D1 D2 D3 m1 m2 m3 r1 r2 r3 F1 F2 F3 m1 m2 m3 s1 s2 s3 _ _ x3 _ _ x3 (by omega) (by omega) (by omega) w7 (R1.out.nx (K5.out.trans K7.out)) (R2.out.nx (K5.out.trans K7.out)) (R3.out.nx (K5.out.trans K7.out)) (S1.out.nx K7.out) (S2.out.nx K7.out) (S3.out.nx K7.out))
  rw [wrQ_comm (x := x1) (a := va) (b := vb) (wrE_in E1.out) (wrE_in E2.out) (Or.inr HAB.out.2), wrM_comm (x := x2) (a := va) (b := vb) (wrE_in E1.out) (wrE_in E2.out) (Or.inr HAB.out.2)] at EQ
  simp only [eqB_self', Bool.and_self] at EQ
  obtain ⟨⟨rfl, rfl⟩, rfl⟩ := HAB.out
  go_wp2_with fail
  refine EQ.out.mono ?_
  rintro e w8 ⟨rfl, q8⟩
  have H8 := Lib.hid (H7.out.trans q8)
  clear q8
  go_wp2
  go_ret
  exact ⟨rfl, N0.out.trans H8.out⟩
end Go.Proofs.Ytndapcbjcannhaa
