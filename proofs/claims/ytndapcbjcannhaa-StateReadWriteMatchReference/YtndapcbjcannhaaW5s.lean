/- The walk of StateWriteIsolated, small states. Conditions: images that read as lists of bools, of at most a thousand. -/
import Derived.Test.YtndapcbjcannhaaW5a
namespace Go.Proofs.Ytndapcbjcannhaa
open Go.RowKit

set_option maxHeartbeats 6400000 in
set_option maxRecDepth 100000 in
theorem law5_same (A0 : Option Addr) (m0 c0 : Nat) (A1 A2 A3 : Option Addr) (m1 m2 m3 c1 c2 c3 : Nat) (k n k' n' : Int) (x0 x1 x2 x3 : List Bool) (w : World) (hs : sm m1 m2 m3) (hm0 : m0 ≤ 1000) (hx0 : Im w A0 m0 c0 x0) (hx1 : Im w A1 m1 c1 x1) (hx2 : Im w A2 m2 c2 x2) (hx3 : Im w A3 m3 c3 x3) (her : wrE x1 x2 k n = 0) (hab : k = k' ∧ n = n') :
    Calls Try.prog 5 #[.slice A0 m0 c0, .agg #[.slice A1 m1 c1, .slice A2 m2 c2, .slice A3 m3 c3], .agg #[.int .i64 k, .int .i64 n, .int .i64 k', .int .i64 n']] w fun e w' => e = .returned (.bool true) ∧ Nx w w' := by
  have N0 := Lib.hid (show Nx w ((w.alloc (.cells #[.slice A1 m1 c1, .slice A2 m2 c2, .slice A3 m3 c3] 26)).alloc (.cells #[.int .i64 k, .int .i64 n, .int .i64 k', .int .i64 n'] 48)) from (Nx.one _ _).alloc _)
  have XA := Lib.hid ((bx_new w 26 [.slice A1 m1 c1, .slice A2 m2 c2, .slice A3 m3 c3]).nx (Nx.one _ (.cells #[.int .i64 k, .int .i64 n, .int .i64 k', .int .i64 n'] 48)))
  have XT := Lib.hid (bx_new (w.alloc (.cells #[.slice A1 m1 c1, .slice A2 m2 c2, .slice A3 m3 c3] 26)) 48 [.int .i64 k, .int .i64 n, .int .i64 k', .int .i64 n'])
  rw [show (w.alloc (.cells #[.slice A1 m1 c1, .slice A2 m2 c2, .slice A3 m3 c3] 26)).heap.size = w.heap.size + 1 by simp] at XT
  have hl : ¬ (1000 : Int) < (m0 : Int) := by omega
  have b1 : m1 ≤ 1000 := hs.1
  have b2 : m2 ≤ 1000 := hs.2.1
  have b3 : m3 ≤ 1000 := hs.2.2
  have I0 := Lib.hid hx0
  have I1 := Lib.hid hx1
  have I2 := Lib.hid hx2
  have I3 := Lib.hid hx3
  have HER := Lib.hid her
  have HAB := Lib.hid hab
  clear hx0 hx1 hx2 hx3 her hm0 hab
  go_enter Try.func5, Try.ntmps5
  go_wp2_with fail
  generalize hh1 : w.heap.size + 1 = h1 at *
  generalize hh0 : w.heap.size = h0 at *
  generalize ((w.alloc (.cells #[.slice A1 m1 c1, .slice A2 m2 c2, .slice A3 m3 c3] 26)).alloc (.cells #[.int .i64 k, .int .i64 n, .int .i64 k', .int .i64 n'] 48)) = W at *
  have HS := Lib.hid (show ∀ w', Nx W w' → (w'.cell? ⟨h1, 0, none⟩ = some (.int .i64 k) ∧ w'.cell? ⟨h1, 1, none⟩ = some (.int .i64 n) ∧ w'.cell? ⟨h1, 2, none⟩ = some (.int .i64 k') ∧ w'.cell? ⟨h1, 3, none⟩ = some (.int .i64 n')) from fun w' h => ⟨(XT.out.nx h).cell 0 rfl, (XT.out.nx h).cell 1 rfl, (XT.out.nx h).cell 2 rfl, (XT.out.nx h).cell 3 rfl⟩)
  go_cut [7, 8] (fun a b wx => ∃ g7 g8 : Nat, a = .pointer (some ⟨g7, 0, none⟩) ∧ b = .pointer (some ⟨g8, 0, none⟩) ∧ Bx wx g7 40 [.int .i64 k, .int .i64 n] ∧ Bx wx g8 40 [.int .i64 k', .int .i64 n'] ∧ Nx W wx)
  case first =>
    obtain ⟨u1, u2, u3, u4⟩ := HS.out W (Nx.refl _)
    go_region_held3 (fun w' => w'.cell? ⟨h1, 0, none⟩ = some (.int .i64 k) ∧ w'.cell? ⟨h1, 1, none⟩ = some (.int .i64 n) ∧ w'.cell? ⟨h1, 2, none⟩ = some (.int .i64 k') ∧ w'.cell? ⟨h1, 3, none⟩ = some (.int .i64 n')) (first | exact HS.out _ (by repeat (first | exact Nx.refl _ | assumption | refine Nx.drew ?_ | refine Nx.drewN ?_ _ | refine Nx.alloc ?_ _ | refine Nx.trans ?_ (by assumption))) | go_keep) (first | fail)
    all_goals go_wp2_with fail
    all_goals go_meet
    · exact ⟨_, _, rfl, rfl, (bx_new W 40 [.int .i64 k, .int .i64 n]).nx ((Nx.one _ _).drew), (by have h := bx_new (W.alloc (.cells #[.int .i64 k, .int .i64 n] 40)) 40 [.int .i64 k', .int .i64 n']; rw [show (W.alloc (.cells #[.int .i64 k, .int .i64 n] 40)).heap.size = W.heap.size + 1 by simp] at h; exact h), ((Nx.one _ _).alloc _).drew⟩
    · exact ⟨_, _, rfl, rfl, (by have h := bx_new (W.alloc (.cells #[.int .i64 k', .int .i64 n'] 40)) 40 [.int .i64 k, .int .i64 n]; rw [show (W.alloc (.cells #[.int .i64 k', .int .i64 n'] 40)).heap.size = W.heap.size + 1 by simp] at h; exact h), (bx_new W 40 [.int .i64 k', .int .i64 n']).nx ((Nx.one _ _).drew), ((Nx.one _ _).alloc _).drew⟩
  case rest =>
    obtain ⟨g7, g8, rfl, rfl, b7, b8, nx1⟩ := hcut
    have X7 := Lib.hid b7
    have X8 := Lib.hid b8
    have N1 := Lib.hid nx1
    clear b7 b8 nx1 HS
    have u1 := (XA.out.nx N1.out).cell 0 rfl
    have u2 := (XA.out.nx N1.out).cell 1 rfl
    have u3 := (XA.out.nx N1.out).cell 2 rfl
    have LG := Lib.hid (large1_no wc.heap.size A1 A2 A3 m1 m2 m3 c1 c2 c3 hs (wc.alloc (.cells #[.slice A1 m1 c1, .slice A2 m2 c2, .slice A3 m3 c3] 26)) (bx_new wc 26 [.slice A1 m1 c1, .slice A2 m2 c2, .slice A3 m3 c3]))
    go_wp2_with fail
    clear u1 u2 u3
    refine LG.out.mono ?_
    rintro e w1 ⟨rfl, h1'⟩
    have H1 := Lib.hid (N1.out.trans ((Nx.one _ _).trans h1'))
    have X7a := Lib.hid (X7.out.nx ((Nx.one _ _).trans h1'))
    have X8a := Lib.hid (X8.out.nx ((Nx.one _ _).trans h1'))
    clear h1'
    obtain ⟨u1, u2, u3⟩ : (w1.cell? ⟨h0, 0, none⟩ = some (.slice A1 m1 c1) ∧ w1.cell? ⟨h0, 1, none⟩ = some (.slice A2 m2 c2) ∧ w1.cell? ⟨h0, 2, none⟩ = some (.slice A3 m3 c3)) := ⟨(XA.out.nx H1.out).cell 0 rfl, (XA.out.nx H1.out).cell 1 rfl, (XA.out.nx H1.out).cell 2 rfl⟩
    go_wp2_with fail
    clear u1 u2 u3
    refine (refClone_ok A1 A2 A3 m1 m2 m3 c1 c2 c3 x1 x2 x3 (by omega) (by omega) (by omega) w1 (I1.out.nx (N0.out.trans H1.out)) (I2.out.nx (N0.out.trans H1.out)) (I3.out.nx (N0.out.trans H1.out))).mono ?_
    rintro e w2 ⟨v, rfl, hod, h2⟩
    obtain ⟨D1, D2, D3, d1, d2, d3, rfl, j1, j2, j3⟩ := hod.os.ims
    have U1 := Lib.hid (h2.alloc (.cells #[.slice D1 x1.length d1, .slice D2 x2.length d2, .slice D3 x3.length d3] 26))
    have XD := Lib.hid (bx_new w2 26 [.slice D1 x1.length d1, .slice D2 x2.length d2, .slice D3 x3.length d3])
    have J1 := Lib.hid (j1.nx (Nx.one w2 (.cells #[.slice D1 x1.length d1, .slice D2 x2.length d2, .slice D3 x3.length d3] 26)))
    have J2 := Lib.hid (j2.nx (Nx.one w2 (.cells #[.slice D1 x1.length d1, .slice D2 x2.length d2, .slice D3 x3.length d3] 26)))
    have J3 := Lib.hid (j3.nx (Nx.one w2 (.cells #[.slice D1 x1.length d1, .slice D2 x2.length d2, .slice D3 x3.length d3] 26)))
    clear hod h2 j1 j2 j3
    obtain ⟨u1, u2, u3⟩ : ((w2.alloc (.cells #[.slice D1 x1.length d1, .slice D2 x2.length d2, .slice D3 x3.length d3] 26)).cell? ⟨h0, 0, none⟩ = some (.slice A1 m1 c1) ∧ (w2.alloc (.cells #[.slice D1 x1.length d1, .slice D2 x2.length d2, .slice D3 x3.length d3] 26)).cell? ⟨h0, 1, none⟩ = some (.slice A2 m2 c2) ∧ (w2.alloc (.cells #[.slice D1 x1.length d1, .slice D2 x2.length d2, .slice D3 x3.length d3] 26)).cell? ⟨h0, 2, none⟩ = some (.slice A3 m3 c3)) := ⟨(XA.out.nx (H1.out.trans U1.out)).cell 0 rfl, (XA.out.nx (H1.out.trans U1.out)).cell 1 rfl, (XA.out.nx (H1.out.trans U1.out)).cell 2 rfl⟩
    go_wp2_with fail
    clear u1 u2 u3
    generalize hh9 : w2.heap.size = h9 at *
    have XD' : Bx (w2.alloc (.cells #[.slice D1 x1.length d1, .slice D2 x2.length d2, .slice D3 x3.length d3] 26)) h9 26 [.slice D1 x1.length d1, .slice D2 x2.length d2, .slice D3 x3.length d3] := XD.out
    clear XD
    have XD := Lib.hid XD'
    clear XD'
    generalize w2.alloc (.cells #[.slice D1 x1.length d1, .slice D2 x2.length d2, .slice D3 x3.length d3] 26) = U at *
    have HU := Lib.hid (H1.out.trans U1.out)
    have NU := Lib.hid (N0.out.trans HU.out)
    refine (clone_ok A1 A2 A3 m1 m2 m3 c1 c2 c3 x1 x2 x3 (by omega) (by omega) (by omega) U (I1.out.nx NU.out) (I2.out.nx NU.out) (I3.out.nx NU.out)).mono ?_
    rintro e w5 ⟨v, rfl, ⟨a1, a2, a3, k1, k2, k3, rfl, halt, ⟨o1, l1⟩, ⟨o2, l2⟩, ⟨o3, l3⟩⟩, h5⟩
    have LT := Lib.hid (show a1 < a2 ∧ a2 < a3 ∧ a3 < w5.heap.size from ⟨halt.1, halt.2, (World.ownsRow.lt o3 a3 rfl).2⟩)
    have R1 := Lib.hid (row_of o1 l1 (show m1 ≤ 1000000 by omega))
    have R2 := Lib.hid (row_of o2 l2 (show m2 ≤ 1000000 by omega))
    have R3 := Lib.hid (row_of o3 l3 (show m3 ≤ 1000000 by omega))
    have U5 := Lib.hid (h5.alloc (.cells #[.slice (some ⟨a1, 0, none⟩) m1 k1, .slice (some ⟨a2, 0, none⟩) m2 k2, .slice (some ⟨a3, 0, none⟩) m3 k3] 26))
    have XC := Lib.hid (bx_new w5 26 [.slice (some ⟨a1, 0, none⟩) m1 k1, .slice (some ⟨a2, 0, none⟩) m2 k2, .slice (some ⟨a3, 0, none⟩) m3 k3])
    clear halt o1 o2 o3 l1 l2 l3 h5
    obtain ⟨u1, u2, u3, u4, u5⟩ : ((w5.alloc (.cells #[.slice (some ⟨a1, 0, none⟩) m1 k1, .slice (some ⟨a2, 0, none⟩) m2 k2, .slice (some ⟨a3, 0, none⟩) m3 k3] 26)).cell? ⟨h0, 0, none⟩ = some (.slice A1 m1 c1) ∧ (w5.alloc (.cells #[.slice (some ⟨a1, 0, none⟩) m1 k1, .slice (some ⟨a2, 0, none⟩) m2 k2, .slice (some ⟨a3, 0, none⟩) m3 k3] 26)).cell? ⟨h0, 1, none⟩ = some (.slice A2 m2 c2) ∧ (w5.alloc (.cells #[.slice (some ⟨a1, 0, none⟩) m1 k1, .slice (some ⟨a2, 0, none⟩) m2 k2, .slice (some ⟨a3, 0, none⟩) m3 k3] 26)).cell? ⟨h0, 2, none⟩ = some (.slice A3 m3 c3) ∧ (w5.alloc (.cells #[.slice (some ⟨a1, 0, none⟩) m1 k1, .slice (some ⟨a2, 0, none⟩) m2 k2, .slice (some ⟨a3, 0, none⟩) m3 k3] 26)).cell? ⟨g7, 0, none⟩ = some (.int .i64 k) ∧ (w5.alloc (.cells #[.slice (some ⟨a1, 0, none⟩) m1 k1, .slice (some ⟨a2, 0, none⟩) m2 k2, .slice (some ⟨a3, 0, none⟩) m3 k3] 26)).cell? ⟨g7, 1, none⟩ = some (.int .i64 n)) := ⟨(XA.out.nx (HU.out.trans U5.out)).cell 0 rfl, (XA.out.nx (HU.out.trans U5.out)).cell 1 rfl, (XA.out.nx (HU.out.trans U5.out)).cell 2 rfl, (X7a.out.nx (U1.out.trans U5.out)).cell 0 rfl, (X7a.out.nx (U1.out.trans U5.out)).cell 1 rfl⟩
    go_wp2_with fail
    clear u1 u2 u3 u4 u5
    refine (write_any A1 A2 A3 m1 m2 m3 c1 c2 c3 x1 x2 x3 k n true (by omega) (by omega) (by omega) (w5.alloc (.cells #[.slice (some ⟨a1, 0, none⟩) m1 k1, .slice (some ⟨a2, 0, none⟩) m2 k2, .slice (some ⟨a3, 0, none⟩) m3 k3] 26)) (I1.out.nx (NU.out.trans U5.out)) (I2.out.nx (NU.out.trans U5.out)) (I3.out.nx (NU.out.trans U5.out))).mono ?_
    have XC' : Bx (w5.alloc (.cells #[.slice (some ⟨a1, 0, none⟩) m1 k1, .slice (some ⟨a2, 0, none⟩) m2 k2, .slice (some ⟨a3, 0, none⟩) m3 k3] 26)) w5.heap.size 26 [.slice (some ⟨a1, 0, none⟩) m1 k1, .slice (some ⟨a2, 0, none⟩) m2 k2, .slice (some ⟨a3, 0, none⟩) m3 k3] := XC.out
    clear XC
    have XC := Lib.hid XC'
    clear XC'
    have N5 := Lib.hid (Nx.one w5 (.cells #[.slice (some ⟨a1, 0, none⟩) m1 k1, .slice (some ⟨a2, 0, none⟩) m2 k2, .slice (some ⟨a3, 0, none⟩) m3 k3] 26))
    have B5 := Lib.hid (show (w5.alloc (.cells #[.slice (some ⟨a1, 0, none⟩) m1 k1, .slice (some ⟨a2, 0, none⟩) m2 k2, .slice (some ⟨a3, 0, none⟩) m3 k3] 26)).heap.size = w5.heap.size + 1 by simp)
    generalize hhA : w5.heap.size = hA at *
    generalize w5.alloc (.cells #[.slice (some ⟨a1, 0, none⟩) m1 k1, .slice (some ⟨a2, 0, none⟩) m2 k2, .slice (some ⟨a3, 0, none⟩) m3 k3] 26) = V at *
    rintro e w6 ⟨_, hyes, h6⟩
    obtain ⟨v, rfl, ⟨s1, s2, s3, e1, e2, e3, rfl, hlt, ⟨o1, l1⟩, ⟨o2, l2⟩, ⟨o3, l3⟩⟩⟩ := hyes HER.out
    have U6 := Lib.hid (h6.alloc (.cells #[.slice (some ⟨s1, 0, none⟩) m1 e1, .slice (some ⟨s2, 0, none⟩) m2 e2, .slice (some ⟨s3, 0, none⟩) m3 e3] 26))
    have XS0 := Lib.hid (bx_new w6 26 [.slice (some ⟨s1, 0, none⟩) m1 e1, .slice (some ⟨s2, 0, none⟩) m2 e2, .slice (some ⟨s3, 0, none⟩) m3 e3])
    have UX6 := Lib.hid (U5.out.trans U6.out)
    have S1 := Lib.hid ((o1.im l1).nx (Nx.one w6 (.cells #[.slice (some ⟨s1, 0, none⟩) m1 e1, .slice (some ⟨s2, 0, none⟩) m2 e2, .slice (some ⟨s3, 0, none⟩) m3 e3] 26)))
    have S2 := Lib.hid ((o2.im l2).nx (Nx.one w6 (.cells #[.slice (some ⟨s1, 0, none⟩) m1 e1, .slice (some ⟨s2, 0, none⟩) m2 e2, .slice (some ⟨s3, 0, none⟩) m3 e3] 26)))
    have hb1 := o1.base_le
    rw [B5.out] at hb1
    have RX6 := Lib.hid ((rows_six (R1.out.nx (N5.out.trans h6)) (R2.out.nx (N5.out.trans h6)) (R3.out.nx (N5.out.trans h6))
      (row_of (o1.low U5.out.size) l1 (show m1 ≤ 1000000 by omega)) (row_of (o2.low U5.out.size) l2 (show m2 ≤ 1000000 by omega)) (row_of (o3.low U5.out.size) l3 (show m3 ≤ 1000000 by omega))
      ⟨LT.out.1, LT.out.2.1, (by have := LT.out.2.2; omega), hlt.1, hlt.2⟩).nx (Nx.one w6 (.cells #[.slice (some ⟨s1, 0, none⟩) m1 e1, .slice (some ⟨s2, 0, none⟩) m2 e2, .slice (some ⟨s3, 0, none⟩) m3 e3] 26)))
    have Q1 := Lib.hid (read_written (x0 := x0) (v := true) HER.out)
    have QE := Lib.hid (read_other_E (x0 := x0) (x1 := x1) (x2 := x2) (k := k) (n := n) (k' := k') (n' := n') (v := true))
    have QV := Lib.hid (fun h => read_other_V (x0 := x0) (k' := k') (n' := n') (v := true) HER.out h)
    clear hyes h6 hlt o1 o2 o3 l1 l2 l3 hb1 R1 R2 R3
    obtain ⟨u1, u2, u3, u4, u5⟩ : ((w6.alloc (.cells #[.slice (some ⟨s1, 0, none⟩) m1 e1, .slice (some ⟨s2, 0, none⟩) m2 e2, .slice (some ⟨s3, 0, none⟩) m3 e3] 26)).cell? ⟨w6.heap.size, 0, none⟩ = some (.slice (some ⟨s1, 0, none⟩) m1 e1) ∧ (w6.alloc (.cells #[.slice (some ⟨s1, 0, none⟩) m1 e1, .slice (some ⟨s2, 0, none⟩) m2 e2, .slice (some ⟨s3, 0, none⟩) m3 e3] 26)).cell? ⟨w6.heap.size, 1, none⟩ = some (.slice (some ⟨s2, 0, none⟩) m2 e2) ∧ (w6.alloc (.cells #[.slice (some ⟨s1, 0, none⟩) m1 e1, .slice (some ⟨s2, 0, none⟩) m2 e2, .slice (some ⟨s3, 0, none⟩) m3 e3] 26)).cell? ⟨w6.heap.size, 2, none⟩ = some (.slice (some ⟨s3, 0, none⟩) m3 e3) ∧ (w6.alloc (.cells #[.slice (some ⟨s1, 0, none⟩) m1 e1, .slice (some ⟨s2, 0, none⟩) m2 e2, .slice (some ⟨s3, 0, none⟩) m3 e3] 26)).cell? ⟨g7, 0, none⟩ = some (.int .i64 k) ∧ (w6.alloc (.cells #[.slice (some ⟨s1, 0, none⟩) m1 e1, .slice (some ⟨s2, 0, none⟩) m2 e2, .slice (some ⟨s3, 0, none⟩) m3 e3] 26)).cell? ⟨g7, 1, none⟩ = some (.int .i64 n)) := ⟨XS0.out.cell 0 rfl, XS0.out.cell 1 rfl, XS0.out.cell 2 rfl, (X7a.out.nx (U1.out.trans UX6.out)).cell 0 rfl, (X7a.out.nx (U1.out.trans UX6.out)).cell 1 rfl⟩
    go_wp2_with fail
    clear u1 u2 u3 u4 u5
    have XS0' : Bx (w6.alloc (.cells #[.slice (some ⟨s1, 0, none⟩) m1 e1, .slice (some ⟨s2, 0, none⟩) m2 e2, .slice (some ⟨s3, 0, none⟩) m3 e3] 26)) w6.heap.size 26 [.slice (some ⟨s1, 0, none⟩) m1 e1, .slice (some ⟨s2, 0, none⟩) m2 e2, .slice (some ⟨s3, 0, none⟩) m3 e3] := XS0.out
    clear XS0
    have XS0 := Lib.hid XS0'
    clear XS0'
    generalize w6.alloc (.cells #[.slice (some ⟨s1, 0, none⟩) m1 e1, .slice (some ⟨s2, 0, none⟩) m2 e2, .slice (some ⟨s3, 0, none⟩) m3 e3] 26) = Y0 at *
    generalize hhS : w6.heap.size = hS at *
    refine (read_any A0 m0 c0 _ _ _ m1 m2 m3 e1 e2 e3 x0 _ _ k n Y0 (I0.out.nx (NU.out.trans UX6.out)) S1.out S2.out).mono ?_
    rw [Q1.out.1, Q1.out.2]
    rintro e w7 ⟨rfl, h7⟩
    have U7 := Lib.hid (UX6.out.trans h7)
    have Z7 := Lib.hid h7
    clear h7
    obtain ⟨u1, u2, u3, u4, u5⟩ : (w7.cell? ⟨h0, 0, none⟩ = some (.slice A1 m1 c1) ∧ w7.cell? ⟨h0, 1, none⟩ = some (.slice A2 m2 c2) ∧ w7.cell? ⟨h0, 2, none⟩ = some (.slice A3 m3 c3) ∧ w7.cell? ⟨g8, 0, none⟩ = some (.int .i64 k') ∧ w7.cell? ⟨g8, 1, none⟩ = some (.int .i64 n')) := ⟨(XA.out.nx (HU.out.trans U7.out)).cell 0 rfl, (XA.out.nx (HU.out.trans U7.out)).cell 1 rfl, (XA.out.nx (HU.out.trans U7.out)).cell 2 rfl, (X8a.out.nx (U1.out.trans U7.out)).cell 0 rfl, (X8a.out.nx (U1.out.trans U7.out)).cell 1 rfl⟩
    go_wp2_with fail
    clear u1 u2 u3 u4 u5
    refine (read_any A0 m0 c0 A1 A2 A3 m1 m2 m3 c1 c2 c3 x0 x1 x2 k' n' w7 (I0.out.nx (NU.out.trans U7.out)) (I1.out.nx (NU.out.trans U7.out)) (I2.out.nx (NU.out.trans U7.out))).mono ?_
    rintro e w8 ⟨rfl, h8⟩
    have Z8 := Lib.hid (Z7.out.trans h8)
    have U8 := Lib.hid (U7.out.trans h8)
    clear h8
    obtain ⟨u1, u2, u3, u4, u5⟩ : (w8.cell? ⟨hS, 0, none⟩ = some (.slice (some ⟨s1, 0, none⟩) m1 e1) ∧ w8.cell? ⟨hS, 1, none⟩ = some (.slice (some ⟨s2, 0, none⟩) m2 e2) ∧ w8.cell? ⟨hS, 2, none⟩ = some (.slice (some ⟨s3, 0, none⟩) m3 e3) ∧ w8.cell? ⟨g8, 0, none⟩ = some (.int .i64 k') ∧ w8.cell? ⟨g8, 1, none⟩ = some (.int .i64 n')) := ⟨(XS0.out.nx Z8.out).cell 0 rfl, (XS0.out.nx Z8.out).cell 1 rfl, (XS0.out.nx Z8.out).cell 2 rfl, (X8a.out.nx (U1.out.trans U8.out)).cell 0 rfl, (X8a.out.nx (U1.out.trans U8.out)).cell 1 rfl⟩
    go_wp2_with fail
    clear u1 u2 u3 u4 u5
    refine (read_any A0 m0 c0 _ _ _ m1 m2 m3 e1 e2 e3 x0 _ _ k' n' w8 (I0.out.nx (NU.out.trans U8.out)) (S1.out.nx Z8.out) (S2.out.nx Z8.out)).mono ?_
    rw [QE.out]
    rintro e w9 ⟨rfl, h9'⟩
    have Z9 := Lib.hid (Z8.out.trans h9')
    have UX := Lib.hid (U8.out.trans h9')
    clear h9'
    have RX := Lib.hid (RX6.out.nx Z9.out)
    have XCX := Lib.hid (XC.out.nx (U6.out.trans Z9.out))
    have XSX := Lib.hid (XS0.out.nx Z9.out)
    obtain ⟨y1, y2, y3, y4⟩ : (w9.cell? ⟨g7, 0, none⟩ = some (.int .i64 k) ∧ w9.cell? ⟨g7, 1, none⟩ = some (.int .i64 n) ∧ w9.cell? ⟨g8, 0, none⟩ = some (.int .i64 k') ∧ w9.cell? ⟨g8, 1, none⟩ = some (.int .i64 n')) := ⟨(X7a.out.nx (U1.out.trans UX.out)).cell 0 rfl, (X7a.out.nx (U1.out.trans UX.out)).cell 1 rfl, (X8a.out.nx (U1.out.trans UX.out)).cell 0 rfl, (X8a.out.nx (U1.out.trans UX.out)).cell 1 rfl⟩
    have c1' := XCX.out.cell 0 rfl
    have c2' := XCX.out.cell 1 rfl
    have c3' := XCX.out.cell 2 rfl
    have d1' := XSX.out.cell 0 rfl
    have d2' := XSX.out.cell 1 rfl
    have d3' := XSX.out.cell 2 rfl
    generalize rdSE x0 x1 x2 k' n' = re at *
    obtain ⟨rfl, rfl⟩ := HAB.out
    clear QV
    generalize rdSV x0 (wrQ x1 k n true) (wrM x2 k n true) k n = r1 at *
    generalize rdSV x0 x1 x2 k n = r2 at *
    go_wp2_with fail
    clear c1' c2' c3' d1' d2' d3' y1 y2 y3 y4 XSX Q1 QE
    generalize w9 = X at *
    have XL := Lib.hid (bx_new X 24 [.slice (some ⟨a1, 0, none⟩) m1 k1, .slice (some ⟨a2, 0, none⟩) m2 k2, .slice (some ⟨a3, 0, none⟩) m3 k3, .slice (some ⟨s1, 0, none⟩) m1 e1, .slice (some ⟨s2, 0, none⟩) m2 e2, .slice (some ⟨s3, 0, none⟩) m3 e3])
    have HG := Lib.hid (show ∀ v ∈ ([.slice (some ⟨a1, 0, none⟩) m1 k1, .slice (some ⟨a2, 0, none⟩) m2 k2, .slice (some ⟨a3, 0, none⟩) m3 k3, .slice (some ⟨s1, 0, none⟩) m1 e1, .slice (some ⟨s2, 0, none⟩) m2 e2, .slice (some ⟨s3, 0, none⟩) m3 e3] : List Value), v.ownBlock ≠ some X.heap.size from fun v hv e => by
      obtain ⟨_, _, _, _, _, _, _, ho⟩ := RX.out.1 v hv
      have := (ho.ge e).2
      omega)
    have RL := Lib.hid (RX.out.nx (Nx.one X (.cells #[.slice (some ⟨a1, 0, none⟩) m1 k1, .slice (some ⟨a2, 0, none⟩) m2 k2, .slice (some ⟨a3, 0, none⟩) m3 k3, .slice (some ⟨s1, 0, none⟩) m1 e1, .slice (some ⟨s2, 0, none⟩) m2 e2, .slice (some ⟨s3, 0, none⟩) m3 e3] 24)))
    have NY := Lib.hid (UX.out.alloc (.cells #[.slice (some ⟨a1, 0, none⟩) m1 k1, .slice (some ⟨a2, 0, none⟩) m2 k2, .slice (some ⟨a3, 0, none⟩) m3 k3, .slice (some ⟨s1, 0, none⟩) m1 e1, .slice (some ⟨s2, 0, none⟩) m2 e2, .slice (some ⟨s3, 0, none⟩) m3 e3] 24))
    generalize X.heap.size = gL at *
    have XL' : Bx (X.alloc (.cells #[.slice (some ⟨a1, 0, none⟩) m1 k1, .slice (some ⟨a2, 0, none⟩) m2 k2, .slice (some ⟨a3, 0, none⟩) m3 k3, .slice (some ⟨s1, 0, none⟩) m1 e1, .slice (some ⟨s2, 0, none⟩) m2 e2, .slice (some ⟨s3, 0, none⟩) m3 e3] 24)) gL 24 [.slice (some ⟨a1, 0, none⟩) m1 k1, .slice (some ⟨a2, 0, none⟩) m2 k2, .slice (some ⟨a3, 0, none⟩) m3 k3, .slice (some ⟨s1, 0, none⟩) m1 e1, .slice (some ⟨s2, 0, none⟩) m2 e2, .slice (some ⟨s3, 0, none⟩) m3 e3] := XL.out
    clear XL
    have XL := Lib.hid XL'
    clear XL' RX XCX UX
    generalize X.alloc (.cells #[.slice (some ⟨a1, 0, none⟩) m1 k1, .slice (some ⟨a2, 0, none⟩) m2 k2, .slice (some ⟨a3, 0, none⟩) m3 k3, .slice (some ⟨s1, 0, none⟩) m1 e1, .slice (some ⟨s2, 0, none⟩) m2 e2, .slice (some ⟨s3, 0, none⟩) m3 e3] 24) = Y at *
    generalize hLL : ([.slice (some ⟨a1, 0, none⟩) m1 k1, .slice (some ⟨a2, 0, none⟩) m2 k2, .slice (some ⟨a3, 0, none⟩) m3 k3, .slice (some ⟨s1, 0, none⟩) m1 e1, .slice (some ⟨s2, 0, none⟩) m2 e2, .slice (some ⟨s3, 0, none⟩) m3 e3] : List Value) = LL at *
    have L6 : LL.length = 6 := by rw [← hLL]; rfl
    clear hLL
    go_loopw [104] (fun i wr => ∃ q : Nat, q ≤ 6 ∧ i = .int .i64 q ∧ Bx wr gL 24 LL ∧ Rows wr U.heap.size LL ∧ Nx U wr) (fun i _ => 6 - (intOf i).toNat)
    case atStart => exact ⟨0, by omega, rfl, XL.out, RL.out, NY.out⟩
    case round =>
      obtain ⟨q, hq, rfl, hb, hr, hn⟩ := hrel
      have HB := Lib.hid hb
      have HR := Lib.hid hr
      have HN := Lib.hid hn
      clear hb hr hn
      by_cases hlt : q < 6
      · obtain ⟨v, hv⟩ : ∃ v, LL[q]? = some v := ⟨_, List.getElem?_eq_getElem (by omega)⟩
        have hmem := List.mem_of_getElem? hv
        obtain ⟨A, m, c, ys, rfl, hl', hm, ho⟩ := HR.out.1 v hmem
        have HM := Lib.hid hmem
        have HO := Lib.hid (show RowOK wr U.heap.size (.slice A m c) from ⟨A, m, c, ys, rfl, hl', hm, ho⟩)
        have HE := Lib.hid (fun b e => (ho.ge (b := b) e).1)
        have gq := HB.out.cell q hv
        have HNE := Lib.hid (HG.out _ hmem)
        clear ho hmem hv hl'
        go_wp2_with fail
        clear gq
        go_loopw [110] (fun i wr' => ∃ p : Nat, p ≤ m ∧ i = .int .i64 p ∧ wr.grownBy wr' (Value.slice A m c).ownBlock ∧ RowOK wr' U.heap.size (.slice A m c)) (fun i _ => m - (intOf i).toNat)
        case atStart => exact ⟨0, Nat.zero_le _, rfl, (Nx.refl _).grown _, HO.out⟩
        case round =>
          obtain ⟨p, hp, rfl, hgr, hrow⟩ := hrel
          have GR := Lib.hid hgr
          have ROW := Lib.hid hrow
          clear hgr hrow
          by_cases hpm : p < m
          · obtain ⟨zs, hzl, _, hzo⟩ := ROW.out.flip
            have hpos : 0 < zs.length := by omega
            obtain ⟨g, c', e, og⟩ := owB_form hzo hpos
            simp only [Value.slice.injEq] at e
            obtain ⟨rfl, _, rfl⟩ := e
            obtain ⟨b, hb'⟩ := at_some zs p (by omega)
            have g1 := og.cell hb'
            have g2 := og.frozen p
            have HS' := Lib.hid (row_of (og.set p (!b)) (by rw [List.length_set]; exact hzl) hm)
            clear og hzo hb' hzl hpos
            go_wp2
            go_roundw
            case rel => exact ⟨p + 1, by omega, by go_num, grown_trans GR.out (grown_set _ g p (.bool (!b))), HS'.out⟩
            case measure => simp [intOf]; omega
          · go_wp2
            go_roundw
            case rel =>
              exact ⟨q + 1, by omega, by go_num, (GR.out.block gL HB.out.lt (fun e => HNE.out e.symm)).trans HB.out, HR.out.step HM.out GR.out ROW.out, Below.grown HN.out GR.out HN.out.size (fun k e => HE.out k e)⟩
            case measure => simp [intOf]; omega
      · have hn := HN.out
        go_wp2_with fail
        refine (alive_any _).mono ?_
        rintro e wz ⟨rfl, hz9⟩
        have NZ := Lib.hid (hn.trans hz9)
        obtain ⟨u1, u2, u3, u4, u5, u6⟩ : (wz.cell? ⟨h0, 0, none⟩ = some (.slice A1 m1 c1) ∧ wz.cell? ⟨h0, 1, none⟩ = some (.slice A2 m2 c2) ∧ wz.cell? ⟨h0, 2, none⟩ = some (.slice A3 m3 c3) ∧ wz.cell? ⟨h9, 0, none⟩ = some (.slice D1 x1.length d1) ∧ wz.cell? ⟨h9, 1, none⟩ = some (.slice D2 x2.length d2) ∧ wz.cell? ⟨h9, 2, none⟩ = some (.slice D3 x3.length d3)) :=
          ⟨(XA.out.nx (HU.out.trans NZ.out)).cell 0 rfl, (XA.out.nx (HU.out.trans NZ.out)).cell 1 rfl, (XA.out.nx (HU.out.trans NZ.out)).cell 2 rfl, (XD.out.nx NZ.out).cell 0 rfl, (XD.out.nx NZ.out).cell 1 rfl, (XD.out.nx NZ.out).cell 2 rfl⟩
        have EQ := Lib.hid (stRefEqual_any A1 A2 A3 m1 m2 m3 c1 c2 c3 D1 D2 D3 _ _ _ d1 d2 d3 x1 x2 x3 x1 x2 x3 (by omega) (by omega) (by omega) wz (I1.out.nx (NU.out.trans NZ.out)) (I2.out.nx (NU.out.trans NZ.out)) (I3.out.nx (NU.out.trans NZ.out)) (J1.out.nx NZ.out) (J2.out.nx NZ.out) (J3.out.nx NZ.out))
        simp only [eqB_self', Bool.and_self] at EQ
        clear hz9 hn
        go_wp2_with fail
        clear u1 u2 u3 u4 u5 u6
        refine EQ.out.mono ?_
        rintro e wy ⟨rfl, hy9⟩
        have NF := Lib.hid ((NU.out.trans NZ.out).trans hy9)
        clear hy9
        go_wp2
        go_ret
        exact ⟨rfl, NF.out⟩
end Go.Proofs.Ytndapcbjcannhaa
