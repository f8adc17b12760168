/- The walk of StateWriteIsolated. Conditions: images that read as lists of bools. -/
import Derived.Test.YtndapcbjcannhaaW5a
namespace Go.Proofs.Ytndapcbjcannhaa
open Go.RowKit

set_option maxHeartbeats 6400000 in
set_option maxRecDepth 100000 in
theorem law5_big (A0 : Option Addr) (m0 c0 : Nat) (A1 A2 A3 : Option Addr) (m1 m2 m3 c1 c2 c3 : Nat) (k n k' n' : Int) (w : World) (hs : ¬ sm m1 m2 m3) :
    Calls Try.prog 5 #[.slice A0 m0 c0, .agg #[.slice A1 m1 c1, .slice A2 m2 c2, .slice A3 m3 c3], .agg #[.int .i64 k, .int .i64 n, .int .i64 k', .int .i64 n']] w fun e w' => e = .returned (.bool true) ∧ Nx w w' := by
  have N0 := Lib.hid (show Nx w ((w.alloc (.cells #[.slice A1 m1 c1, .slice A2 m2 c2, .slice A3 m3 c3] 26)).alloc (.cells #[.int .i64 k, .int .i64 n, .int .i64 k', .int .i64 n'] 48)) from (Nx.one _ _).alloc _)
  have XA := Lib.hid ((bx_new w 26 [.slice A1 m1 c1, .slice A2 m2 c2, .slice A3 m3 c3]).nx (Nx.one _ (.cells #[.int .i64 k, .int .i64 n, .int .i64 k', .int .i64 n'] 48)))
  have XT := Lib.hid (bx_new (w.alloc (.cells #[.slice A1 m1 c1, .slice A2 m2 c2, .slice A3 m3 c3] 26)) 48 [.int .i64 k, .int .i64 n, .int .i64 k', .int .i64 n'])
  rw [show (w.alloc (.cells #[.slice A1 m1 c1, .slice A2 m2 c2, .slice A3 m3 c3] 26)).heap.size = w.heap.size + 1 by simp] at XT
  go_enter Try.func5, Try.ntmps5
  go_wp2_with fail
  generalize hh1 : w.heap.size + 1 = h1 at *
  generalize hh0 : w.heap.size = h0 at *
  generalize ((w.alloc (.cells #[.slice A1 m1 c1, .slice A2 m2 c2, .slice A3 m3 c3] 26)).alloc (.cells #[.int .i64 k, .int .i64 n, .int .i64 k', .int .i64 n'] 48)) = W at *
  have HS := Lib.hid (show ∀ w', Nx W w' → (w'.cell? ⟨h1, 0, none⟩ = some (.int .i64 k) ∧ w'.cell? ⟨h1, 1, none⟩ = some (.int .i64 n) ∧ w'.cell? ⟨h1, 2, none⟩ = some (.int .i64 k') ∧ w'.cell? ⟨h1, 3, none⟩ = some (.int .i64 n')) from fun w' h => ⟨(XT.out.nx h).cell 0 rfl, (XT.out.nx h).cell 1 rfl, (XT.out.nx h).cell 2 rfl, (XT.out.nx h).cell 3 rfl⟩)
  go_cut [7, 8] (fun a b wx => ∃ g7 g8 : Nat, a = .pointer (some ⟨g7, 0, none⟩) ∧ b = .pointer (some ⟨g8, 0, none⟩) ∧ Bx wx g7 40 [.int .i64 k, .int .i64 n] ∧ Bx wx g8 40 [.int .i64 k', .int .i64 n'] ∧ Nx W wx)
  case first =>
    obtain ⟨u1, u2, u3, u4⟩ := HS.out W (Nx.refl _)
    go_region_held3 (fun w' => w'.cell? ⟨h1, 0, none⟩ = some (.int .i64 k) ∧ w'.cell? ⟨h1, 1, none⟩ = some (.int .i64 n) ∧ w'.cell? ⟨h1, 2, none⟩ = some (.int .i64 k') ∧ w'.cell? ⟨h1, 3, none⟩ = some (.int .i64 n')) (first | exact HS.out _ (by repeat (first | exact Nx.refl _ | assumption | refine Nx.drew ?_ | refine Nx.drewN ?_ _ | refine Nx.alloc ?_ _ | refine Nx.trans ?_ (by assumption))) | go_keep) (first | fail)
    all_goals go_wp2_with fail
    all_goals go_meet
    · exact ⟨_, _, rfl, rfl, (bx_new W 40 [.int .i64 k, .int .i64 n]).nx ((Nx.one _ _).drew), (by have h := bx_new (W.alloc (.cells #[.int .i64 k, .int .i64 n] 40)) 40 [.int .i64 k', .int .i64 n']; rw [show (W.alloc (.cells #[.int .i64 k, .int .i64 n] 40)).heap.size = W.heap.size + 1 by simp] at h; exact h), ((Nx.one _ _).alloc _).drew⟩
    · exact ⟨_, _, rfl, rfl, (by have h := bx_new (W.alloc (.cells #[.int .i64 k', .int .i64 n'] 40)) 40 [.int .i64 k, .int .i64 n]; rw [show (W.alloc (.cells #[.int .i64 k', .int .i64 n'] 40)).heap.size = W.heap.size + 1 by simp] at h; exact h), (bx_new W 40 [.int .i64 k', .int .i64 n']).nx ((Nx.one _ _).drew), ((Nx.one _ _).alloc _).drew⟩
  case rest =>
    obtain ⟨g7, g8, rfl, rfl, b7, b8, nx1⟩ := hcut
    have X7 := Lib.hid b7
    have X8 := Lib.hid b8
    have N1 := Lib.hid nx1
    clear b7 b8 nx1 HS
    have u1 := (XA.out.nx N1.out).cell 0 rfl
    have u2 := (XA.out.nx N1.out).cell 1 rfl
    have u3 := (XA.out.nx N1.out).cell 2 rfl
    have LG := Lib.hid (large1_yes wc.heap.size A1 A2 A3 m1 m2 m3 c1 c2 c3 hs (wc.alloc (.cells #[.slice A1 m1 c1, .slice A2 m2 c2, .slice A3 m3 c3] 26)) (bx_new wc 26 [.slice A1 m1 c1, .slice A2 m2 c2, .slice A3 m3 c3]))
    go_wp2_with fail
    clear u1 u2 u3
    refine LG.out.mono ?_
    rintro e w1 ⟨rfl, h1'⟩
    have H1 := Lib.hid (N1.out.trans ((Nx.one _ _).trans h1'))
    have X7a := Lib.hid (X7.out.nx ((Nx.one _ _).trans h1'))
    have X8a := Lib.hid (X8.out.nx ((Nx.one _ _).trans h1'))
    clear h1'
    go_wp2_with fail
    refine (alive_any _).mono ?_
    rintro e w2 ⟨rfl, h2⟩
    have H2 := Lib.hid (H1.out.trans h2)
    clear h2
    go_wp2
    go_ret
    exact ⟨rfl, N0.out.trans H2.out⟩

set_option maxHeartbeats 6400000 in
set_option maxRecDepth 100000 in
theorem law5_long (A0 : Option Addr) (m0 c0 : Nat) (A1 A2 A3 : Option Addr) (m1 m2 m3 c1 c2 c3 : Nat) (k n k' n' : Int) (w : World) (hs : sm m1 m2 m3) (h0 : ¬ m0 ≤ 1000) :
    Calls Try.prog 5 #[.slice A0 m0 c0, .agg #[.slice A1 m1 c1, .slice A2 m2 c2, .slice A3 m3 c3], .agg #[.int .i64 k, .int .i64 n, .int .i64 k', .int .i64 n']] w fun e w' => e = .returned (.bool true) ∧ Nx w w' := by
  have N0 := Lib.hid (show Nx w ((w.alloc (.cells #[.slice A1 m1 c1, .slice A2 m2 c2, .slice A3 m3 c3] 26)).alloc (.cells #[.int .i64 k, .int .i64 n, .int .i64 k', .int .i64 n'] 48)) from (Nx.one _ _).alloc _)
  have XA := Lib.hid ((bx_new w 26 [.slice A1 m1 c1, .slice A2 m2 c2, .slice A3 m3 c3]).nx (Nx.one _ (.cells #[.int .i64 k, .int .i64 n, .int .i64 k', .int .i64 n'] 48)))
  have XT := Lib.hid (bx_new (w.alloc (.cells #[.slice A1 m1 c1, .slice A2 m2 c2, .slice A3 m3 c3] 26)) 48 [.int .i64 k, .int .i64 n, .int .i64 k', .int .i64 n'])
  rw [show (w.alloc (.cells #[.slice A1 m1 c1, .slice A2 m2 c2, .slice A3 m3 c3] 26)).heap.size = w.heap.size + 1 by simp] at XT
  have hl : (1000 : Int) < (m0 : Int) := by omega
  clear h0
  go_enter Try.func5, Try.ntmps5
  go_wp2_with fail
  generalize hh1 : w.heap.size + 1 = h1 at *
  generalize hh0 : w.heap.size = h0 at *
  generalize ((w.alloc (.cells #[.slice A1 m1 c1, .slice A2 m2 c2, .slice A3 m3 c3] 26)).alloc (.cells #[.int .i64 k, .int .i64 n, .int .i64 k', .int .i64 n'] 48)) = W at *
  have HS := Lib.hid (show ∀ w', Nx W w' → (w'.cell? ⟨h1, 0, none⟩ = some (.int .i64 k) ∧ w'.cell? ⟨h1, 1, none⟩ = some (.int .i64 n) ∧ w'.cell? ⟨h1, 2, none⟩ = some (.int .i64 k') ∧ w'.cell? ⟨h1, 3, none⟩ = some (.int .i64 n')) from fun w' h => ⟨(XT.out.nx h).cell 0 rfl, (XT.out.nx h).cell 1 rfl, (XT.out.nx h).cell 2 rfl, (XT.out.nx h).cell 3 rfl⟩)
  go_cut [7, 8] (fun a b wx => ∃ g7 g8 : Nat, a = .pointer (some ⟨g7, 0, none⟩) ∧ b = .pointer (some ⟨g8, 0, none⟩) ∧ Bx wx g7 40 [.int .i64 k, .int .i64 n] ∧ Bx wx g8 40 [.int .i64 k', .int .i64 n'] ∧ Nx W wx)
  case first =>
    obtain ⟨u1, u2, u3, u4⟩ := HS.out W (Nx.refl _)
    go_region_held3 (fun w' => w'.cell? ⟨h1, 0, none⟩ = some (.int .i64 k) ∧ w'.cell? ⟨h1, 1, none⟩ = some (.int .i64 n) ∧ w'.cell? ⟨h1, 2, none⟩ = some (.int .i64 k') ∧ w'.cell? ⟨h1, 3, none⟩ = some (.int .i64 n')) (first | exact HS.out _ (by repeat (first | exact Nx.refl _ | assumption | refine Nx.drew ?_ | refine Nx.drewN ?_ _ | refine Nx.alloc ?_ _ | refine Nx.trans ?_ (by assumption))) | go_keep) (first | fail)
    all_goals go_wp2_with fail
    all_goals go_meet
    · exact ⟨_, _, rfl, rfl, (bx_new W 40 [.int .i64 k, .int .i64 n]).nx ((Nx.one _ _).drew), (by have h := bx_new (W.alloc (.cells #[.int .i64 k, .int .i64 n] 40)) 40 [.int .i64 k', .int .i64 n']; rw [show (W.alloc (.cells #[.int .i64 k, .int .i64 n] 40)).heap.size = W.heap.size + 1 by simp] at h; exact h), ((Nx.one _ _).alloc _).drew⟩
    · exact ⟨_, _, rfl, rfl, (by have h := bx_new (W.alloc (.cells #[.int .i64 k', .int .i64 n'] 40)) 40 [.int .i64 k, .int .i64 n]; rw [show (W.alloc (.cells #[.int .i64 k', .int .i64 n'] 40)).heap.size = W.heap.size + 1 by simp] at h; exact h), (bx_new W 40 [.int .i64 k', .int .i64 n']).nx ((Nx.one _ _).drew), ((Nx.one _ _).alloc _).drew⟩
  case rest =>
    obtain ⟨g7, g8, rfl, rfl, b7, b8, nx1⟩ := hcut
    have X7 := Lib.hid b7
    have X8 := Lib.hid b8
    have N1 := Lib.hid nx1
    clear b7 b8 nx1 HS
    have u1 := (XA.out.nx N1.out).cell 0 rfl
    have u2 := (XA.out.nx N1.out).cell 1 rfl
    have u3 := (XA.out.nx N1.out).cell 2 rfl
    have LG := Lib.hid (large1_no wc.heap.size A1 A2 A3 m1 m2 m3 c1 c2 c3 hs (wc.alloc (.cells #[.slice A1 m1 c1, .slice A2 m2 c2, .slice A3 m3 c3] 26)) (bx_new wc 26 [.slice A1 m1 c1, .slice A2 m2 c2, .slice A3 m3 c3]))
    go_wp2_with fail
    clear u1 u2 u3
    refine LG.out.mono ?_
    rintro e w1 ⟨rfl, h1'⟩
    have H1 := Lib.hid (N1.out.trans ((Nx.one _ _).trans h1'))
    have X7a := Lib.hid (X7.out.nx ((Nx.one _ _).trans h1'))
    have X8a := Lib.hid (X8.out.nx ((Nx.one _ _).trans h1'))
    clear h1'
    go_wp2_with fail
    refine (alive_any _).mono ?_
    rintro e w2 ⟨rfl, h2⟩
    have H2 := Lib.hid (H1.out.trans h2)
    clear h2
    go_wp2
    go_ret
    exact ⟨rfl, N0.out.trans H2.out⟩
end Go.Proofs.Ytndapcbjcannhaa
