/- The walk of OpCheckMatchesReference. Conditions: the listed package-level variables hold what the program's text lays. -/
import Derived.Test.YtfnmjbapjngmaaaDoorIQF
import Derived.Test.YtfnmjbapjngmaaaDoorIQ6
import Derived.Deep.RegionHeld3
namespace Go.Proofs.YtfnmjbapjngmaaaDoor
open Go.RowKit

set_option maxHeartbeats 6400000 in
set_option maxRecDepth 100000 in
theorem law4 (i q m e o k n N a b : Int) (w : World) (he : Ev w) : Calls Tryd.prog 4 #[.agg #[.int .i64 i, .int .i64 q, .int .i64 m, .int .i64 e], .agg #[.int .i64 o, .int .i64 k, .int .i64 n, .int .i64 N], .agg #[.int .i64 a, .int .i64 b]] w fun e w' => e = .returned (.bool true) ∧ Nx w w' := by
  have F1 := Lib.hid (opCheck_any i q m e o k n N a b)
  have F2 := Lib.hid (refCheck_any i q m e o k n N a b)
  generalize chk i q m e o k n N a b = R at *
  have N3 := (((Nx.one w (.cells #[.int .i64 i, .int .i64 q, .int .i64 m, .int .i64 e] 31)).alloc (.cells #[.int .i64 o, .int .i64 k, .int .i64 n, .int .i64 N] 35)).alloc (.cells #[.int .i64 a, .int .i64 b] 36))
  have XS := Lib.hid (((bx_new w 31 [.int .i64 i, .int .i64 q, .int .i64 m, .int .i64 e]).nx (Nx.one _ (.cells #[.int .i64 o, .int .i64 k, .int .i64 n, .int .i64 N] 35))).nx (Nx.one _ (.cells #[.int .i64 a, .int .i64 b] 36)))
  have XI := Lib.hid ((bx_new (w.alloc (.cells #[.int .i64 i, .int .i64 q, .int .i64 m, .int .i64 e] 31)) 35 [.int .i64 o, .int .i64 k, .int .i64 n, .int .i64 N]).nx (Nx.one _ (.cells #[.int .i64 a, .int .i64 b] 36)))
  have XA := Lib.hid (bx_new ((w.alloc (.cells #[.int .i64 i, .int .i64 q, .int .i64 m, .int .i64 e] 31)).alloc (.cells #[.int .i64 o, .int .i64 k, .int .i64 n, .int .i64 N] 35)) 36 [.int .i64 a, .int .i64 b])
  rw [show (w.alloc (.cells #[.int .i64 i, .int .i64 q, .int .i64 m, .int .i64 e] 31)).heap.size = w.heap.size + 1 by simp] at XI
  rw [show ((w.alloc (.cells #[.int .i64 i, .int .i64 q, .int .i64 m, .int .i64 e] 31)).alloc (.cells #[.int .i64 o, .int .i64 k, .int .i64 n, .int .i64 N] 35)).heap.size = w.heap.size + 1 + 1 by simp] at XA
  have EV := he.nx N3
  clear he
  go_enter Tryd.func4, Tryd.ntmps4
  go_wp2_with fail
  generalize w.heap.size + 1 + 1 = h2 at *
  generalize w.heap.size + 1 = h1 at *
  generalize w.heap.size = h0 at *
  generalize ((w.alloc (.cells #[.int .i64 i, .int .i64 q, .int .i64 m, .int .i64 e] 31)).alloc (.cells #[.int .i64 o, .int .i64 k, .int .i64 n, .int .i64 N] 35)).alloc (.cells #[.int .i64 a, .int .i64 b] 36) = W3 at *
  have HS := Lib.hid (show ∀ w', Nx W3 w' → w'.cell? ⟨h0, 0, none⟩ = some (.int .i64 i) ∧ w'.cell? ⟨h0, 1, none⟩ = some (.int .i64 q) ∧ w'.cell? ⟨h0, 2, none⟩ = some (.int .i64 m) ∧ w'.cell? ⟨h0, 3, none⟩ = some (.int .i64 e) ∧ w'.cell? ⟨h1, 0, none⟩ = some (.int .i64 o) ∧ w'.cell? ⟨h1, 1, none⟩ = some (.int .i64 k) ∧ w'.cell? ⟨h1, 2, none⟩ = some (.int .i64 n) ∧ w'.cell? ⟨h1, 3, none⟩ = some (.int .i64 N) ∧ w'.cell? ⟨h2, 0, none⟩ = some (.int .i64 a) ∧ w'.cell? ⟨h2, 1, none⟩ = some (.int .i64 b) from fun w' h => ⟨(XS.out.nx h).cell 0 rfl, (XS.out.nx h).cell 1 rfl, (XS.out.nx h).cell 2 rfl, (XS.out.nx h).cell 3 rfl, (XI.out.nx h).cell 0 rfl, (XI.out.nx h).cell 1 rfl, (XI.out.nx h).cell 2 rfl, (XI.out.nx h).cell 3 rfl, (XA.out.nx h).cell 0 rfl, (XA.out.nx h).cell 1 rfl⟩)
  clear XS XI XA
  obtain ⟨g1, g2, g3, g4, g5, g6, g7, g8, g9, g0⟩ := HS.out W3 (Nx.refl _)
  go_region_held3 (fun w' => w'.cell? ⟨h0, 0, none⟩ = some (.int .i64 i) ∧ w'.cell? ⟨h0, 1, none⟩ = some (.int .i64 q) ∧ w'.cell? ⟨h0, 2, none⟩ = some (.int .i64 m) ∧ w'.cell? ⟨h0, 3, none⟩ = some (.int .i64 e) ∧ w'.cell? ⟨h1, 0, none⟩ = some (.int .i64 o) ∧ w'.cell? ⟨h1, 1, none⟩ = some (.int .i64 k) ∧ w'.cell? ⟨h1, 2, none⟩ = some (.int .i64 n) ∧ w'.cell? ⟨h1, 3, none⟩ = some (.int .i64 N) ∧ w'.cell? ⟨h2, 0, none⟩ = some (.int .i64 a) ∧ w'.cell? ⟨h2, 1, none⟩ = some (.int .i64 b)) (first | exact HS.out _ (by repeat (first | exact Nx.refl _ | assumption | refine Nx.drew ?_ | refine Nx.drewN ?_ _ | refine Nx.alloc ?_ _ | refine Nx.trans ?_ (by assumption))) | go_keep)
    (first
      | (go_at_call 13; refine (alive_any _ ?_).mono ?_; (focus (refine EV.nx ?_; (repeat (first | exact Nx.refl _ | assumption | refine Nx.drew ?_ | refine Nx.drewN ?_ _ | refine Nx.alloc ?_ _ | refine Nx.trans ?_ (by assumption))))); rintro e w4 ⟨rfl, h4⟩)
      | (go_at_call 15; refine (F1.out _ ?_).mono ?_; (focus (refine EV.nx ?_; (repeat (first | exact Nx.refl _ | assumption | refine Nx.drew ?_ | refine Nx.drewN ?_ _ | refine Nx.alloc ?_ _ | refine Nx.trans ?_ (by assumption))))); rintro e w5 ⟨rfl, h5⟩)
      | (go_at_call 16; refine (F2.out _).mono ?_; rintro e w6 ⟨rfl, h6⟩))
  all_goals go_wp2
  all_goals go_ret
  all_goals exact ⟨rfl, N3.trans (by repeat (first | exact Nx.refl _ | assumption | refine Nx.drew ?_ | refine Nx.drewN ?_ _ | refine Nx.alloc ?_ _ | refine Nx.trans ?_ (by assumption)))⟩
end Go.Proofs.YtfnmjbapjngmaaaDoor
