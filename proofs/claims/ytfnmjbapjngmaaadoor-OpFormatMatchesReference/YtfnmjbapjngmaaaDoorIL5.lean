/- The walk of OpFormatMatchesReference. Conditions: the listed package-level variables hold what the program's text lays. -/
import Derived.Test.YtfnmjbapjngmaaaDoorIQF
import Derived.Test.YtfnmjbapjngmaaaDoorIQE
import Derived.Deep.RegionHeld3
namespace Go.Proofs.YtfnmjbapjngmaaaDoor
open Go.RowKit

set_option maxHeartbeats 6400000 in
set_option maxRecDepth 100000 in
theorem law5 (o k n N : Int) (s : ByteArray) (w : World) (he : Ev w) : Calls Tryd.prog 5 #[.agg #[.int .i64 o, .int .i64 k, .int .i64 n, .int .i64 N], .string s] w fun e w' => e = .returned (.bool true) ∧ Nx w w' := by
  have HE := Lib.hid he
  have N1 := Lib.hid (Nx.one w (.cells #[.int .i64 o, .int .i64 k, .int .i64 n, .int .i64 N] 35))
  have X1 := Lib.hid (bx_new w 35 [.int .i64 o, .int .i64 k, .int .i64 n, .int .i64 N])
  clear he
  by_cases hlen : 1000 < s.size
  · have h1 : (1000 : Int) < (s.size : Int) := by omega
    go_enter Tryd.func5, Tryd.ntmps5
    go_wp2_with fail
    refine (alive_any _ (HE.out.nx N1.out)).mono ?_
    rintro e w' ⟨rfl, h9⟩
    go_wp2
    go_ret
    exact ⟨rfl, N1.out.trans h9⟩
  · have h1 : ¬ (1000 : Int) < (s.size : Int) := by omega
    have P1 := Lib.hid (fun (w : World) (he : Ev w) => opParse_any s (by omega) w he)
    have P2 := Lib.hid (fun (w : World) => refOpParse_any s (by omega) w)
    have F1 := Lib.hid (opFormat_any o k n N)
    have F2 := Lib.hid (refOpFormat_any o k n N)
    generalize rs (opP (B s)) = p at *
    generalize opT o k n N = f at *
    obtain ⟨a, b, c, d, er⟩ := p
    go_enter Tryd.func5, Tryd.ntmps5
    go_wp2_with fail
    generalize hh0 : w.heap.size = h0 at *
    generalize w.alloc (.cells #[.int .i64 o, .int .i64 k, .int .i64 n, .int .i64 N] 35) = V at *
    refine (P1.out _ (HE.out.nx N1.out)).mono ?_
    rintro e w1 ⟨rfl, q1⟩
    have H1 := Lib.hid ((N1.out.trans q1).trans (Nx.one w1 (.cells #[.int .i64 a, .int .i64 b, .int .i64 c, .int .i64 d] 35)))
    have X2 := Lib.hid ((X1.out.nx q1).nx (Nx.one w1 (.cells #[.int .i64 a, .int .i64 b, .int .i64 c, .int .i64 d] 35)))
    have Y2 := Lib.hid (bx_new w1 35 [.int .i64 a, .int .i64 b, .int .i64 c, .int .i64 d])
    clear q1
    go_wp2_with fail
    generalize hh1 : w1.heap.size = h1' at *
    generalize w1.alloc (.cells #[.int .i64 a, .int .i64 b, .int .i64 c, .int .i64 d] 35) = w2 at *
    refine (P2.out _).mono ?_
    rintro e w3 ⟨rfl, q3⟩
    have N3 := (H1.out.trans q3).trans (Nx.one w3 (.cells #[.int .i64 a, .int .i64 b, .int .i64 c, .int .i64 d] 35))
    have X3 := Lib.hid ((X2.out.nx q3).nx (Nx.one w3 (.cells #[.int .i64 a, .int .i64 b, .int .i64 c, .int .i64 d] 35)))
    have Y3 := Lib.hid ((Y2.out.nx q3).nx (Nx.one w3 (.cells #[.int .i64 a, .int .i64 b, .int .i64 c, .int .i64 d] 35)))
    have Z3 := Lib.hid (bx_new w3 35 [.int .i64 a, .int .i64 b, .int .i64 c, .int .i64 d])
    clear q3
    go_wp2_with fail
    generalize hh2 : w3.heap.size = h2 at *
    generalize w3.alloc (.cells #[.int .i64 a, .int .i64 b, .int .i64 c, .int .i64 d] 35) = W3 at *
    have EV := HE.out.nx N3
    have HS := Lib.hid (show ∀ w', Nx W3 w' → w'.cell? ⟨h0, 0, none⟩ = some (.int .i64 o) ∧ w'.cell? ⟨h0, 1, none⟩ = some (.int .i64 k) ∧ w'.cell? ⟨h0, 2, none⟩ = some (.int .i64 n) ∧ w'.cell? ⟨h0, 3, none⟩ = some (.int .i64 N) ∧ w'.cell? ⟨h1', 0, none⟩ = some (.int .i64 a) ∧ w'.cell? ⟨h1', 1, none⟩ = some (.int .i64 b) ∧ w'.cell? ⟨h1', 2, none⟩ = some (.int .i64 c) ∧ w'.cell? ⟨h1', 3, none⟩ = some (.int .i64 d) ∧ w'.cell? ⟨h2, 0, none⟩ = some (.int .i64 a) ∧ w'.cell? ⟨h2, 1, none⟩ = some (.int .i64 b) ∧ w'.cell? ⟨h2, 2, none⟩ = some (.int .i64 c) ∧ w'.cell? ⟨h2, 3, none⟩ = some (.int .i64 d) from fun w' h => ⟨(X3.out.nx h).cell 0 rfl, (X3.out.nx h).cell 1 rfl, (X3.out.nx h).cell 2 rfl, (X3.out.nx h).cell 3 rfl, (Y3.out.nx h).cell 0 rfl, (Y3.out.nx h).cell 1 rfl, (Y3.out.nx h).cell 2 rfl, (Y3.out.nx h).cell 3 rfl, (Z3.out.nx h).cell 0 rfl, (Z3.out.nx h).cell 1 rfl, (Z3.out.nx h).cell 2 rfl, (Z3.out.nx h).cell 3 rfl⟩)
    clear X1 X2 X3 Y2 Y3 Z3 hh0 hh1 hh2 P1 P2 H1 N1 HE
    obtain ⟨g1, g2, g3, g4, g5, g6, g7, g8, g9, g10, g11, g12⟩ := HS.out W3 (Nx.refl _)
    go_region_held3 (fun w' => w'.cell? ⟨h0, 0, none⟩ = some (.int .i64 o) ∧ w'.cell? ⟨h0, 1, none⟩ = some (.int .i64 k) ∧ w'.cell? ⟨h0, 2, none⟩ = some (.int .i64 n) ∧ w'.cell? ⟨h0, 3, none⟩ = some (.int .i64 N) ∧ w'.cell? ⟨h1', 0, none⟩ = some (.int .i64 a) ∧ w'.cell? ⟨h1', 1, none⟩ = some (.int .i64 b) ∧ w'.cell? ⟨h1', 2, none⟩ = some (.int .i64 c) ∧ w'.cell? ⟨h1', 3, none⟩ = some (.int .i64 d) ∧ w'.cell? ⟨h2, 0, none⟩ = some (.int .i64 a) ∧ w'.cell? ⟨h2, 1, none⟩ = some (.int .i64 b) ∧ w'.cell? ⟨h2, 2, none⟩ = some (.int .i64 c) ∧ w'.cell? ⟨h2, 3, none⟩ = some (.int .i64 d)) (first | exact HS.out _ (by repeat (first | exact Nx.refl _ | assumption | refine Nx.drew ?_ | refine Nx.drewN ?_ _ | refine Nx.alloc ?_ _ | refine Nx.trans ?_ (by assumption))) | go_keep)
      (first
        | (go_at_call 13; refine (alive_any _ ?_).mono ?_; (focus (refine EV.nx ?_; (repeat (first | exact Nx.refl _ | assumption | refine Nx.drew ?_ | refine Nx.drewN ?_ _ | refine Nx.alloc ?_ _ | refine Nx.trans ?_ (by assumption))))); rintro e w4 ⟨rfl, h4⟩)
        | (go_at_call 19; refine (F1.out _ ?_).mono ?_; (focus (refine EV.nx ?_; (repeat (first | exact Nx.refl _ | assumption | refine Nx.drew ?_ | refine Nx.drewN ?_ _ | refine Nx.alloc ?_ _ | refine Nx.trans ?_ (by assumption))))); rintro e w5 ⟨rfl, h5⟩)
        | (go_at_call 20; refine (F2.out _).mono ?_; rintro e w6 ⟨rfl, h6⟩))
    all_goals go_wp2
    all_goals go_ret
    all_goals exact ⟨rfl, N3.trans (by repeat (first | exact Nx.refl _ | assumption | refine Nx.drew ?_ | refine Nx.drewN ?_ _ | refine Nx.alloc ?_ _ | refine Nx.trans ?_ (by assumption)))⟩
end Go.Proofs.YtfnmjbapjngmaaaDoor
