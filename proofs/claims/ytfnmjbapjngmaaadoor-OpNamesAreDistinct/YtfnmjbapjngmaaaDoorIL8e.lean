/- The walk of OpNamesAreDistinct, where neither has a name. Conditions: the listed package-level variables hold what the program's text lays. -/
import Derived.Test.YtfnmjbapjngmaaaDoorIL8h
namespace Go.Proofs.YtfnmjbapjngmaaaDoor
open Go.RowKit

set_option maxHeartbeats 12800000 in
set_option maxRecDepth 100000 in
theorem law8e (o k n N o' k' n' N' : Int) (hb : isOp o = false) (hb' : isOp o' = false) (w : World) (he : Ev w) : Calls Tryd.prog 8 #[.agg #[.int .i64 o, .int .i64 k, .int .i64 n, .int .i64 N], .agg #[.int .i64 o', .int .i64 k', .int .i64 n', .int .i64 N']] w fun e w' => e = .returned (.bool true) ∧ Nx w w' := by
  have NA := Lib.hid (opNam o)
  have NB := Lib.hid (opNam o')
  have FA := Lib.hid (opForm_any o)
  have FB := Lib.hid (opForm_any o')
  have TA := Lib.hid (opFormat_any o k n N)
  have TB := Lib.hid (opFormat_any o' k' n' N')
  have za := nam_zero hb
  have zb := nam_zero hb'
  have HAB := Lib.hid (fun h h' => nam_inj (o := o) (o' := o') h h')
  have hT := opT_head o k n N
  have HOO := Lib.hid (fun (h : o = o') => congrArg isOp h)
  have HTU := Lib.hid (fun h h' => opT_inj (o := o) (k := k) (n := n) (N := N) (o' := o') (k' := k') (n' := n') (N' := N') h h')
  have N3 := (Nx.one w (.cells #[.int .i64 o, .int .i64 k, .int .i64 n, .int .i64 N] 35)).alloc (.cells #[.int .i64 o', .int .i64 k', .int .i64 n', .int .i64 N'] 35)
  have XA := Lib.hid ((bx_new w 35 [.int .i64 o, .int .i64 k, .int .i64 n, .int .i64 N]).nx (Nx.one _ (.cells #[.int .i64 o', .int .i64 k', .int .i64 n', .int .i64 N'] 35)))
  have XB := Lib.hid (bx_new (w.alloc (.cells #[.int .i64 o, .int .i64 k, .int .i64 n, .int .i64 N] 35)) 35 [.int .i64 o', .int .i64 k', .int .i64 n', .int .i64 N'])
  rw [show (w.alloc (.cells #[.int .i64 o, .int .i64 k, .int .i64 n, .int .i64 N] 35)).heap.size = w.heap.size + 1 by simp] at XB
  have EV := he.nx N3
  clear he
  generalize (if isOp o = true then frm o else 0) = fo at *
  generalize (if isOp o' = true then frm o' else 0) = fo' at *
  generalize isOp o = b at *
  generalize isOp o' = b' at *
  generalize nam o = M at *
  generalize nam o' = M' at *
  generalize opT o k n N = T at *
  generalize opT o' k' n' N' = U at *
  go_enter Tryd.func8, Tryd.ntmps8
  go_wp2_with fail
  generalize w.heap.size + 1 = h1 at *
  generalize w.heap.size = h0 at *
  generalize (w.alloc (.cells #[.int .i64 o, .int .i64 k, .int .i64 n, .int .i64 N] 35)).alloc (.cells #[.int .i64 o', .int .i64 k', .int .i64 n', .int .i64 N'] 35) = W3 at *
  have HS := Lib.hid (show ∀ w', Nx W3 w' → w'.cell? ⟨h0, 0, none⟩ = some (.int .i64 o) ∧ w'.cell? ⟨h0, 1, none⟩ = some (.int .i64 k) ∧ w'.cell? ⟨h0, 2, none⟩ = some (.int .i64 n) ∧ w'.cell? ⟨h0, 3, none⟩ = some (.int .i64 N) ∧ w'.cell? ⟨h1, 0, none⟩ = some (.int .i64 o') ∧ w'.cell? ⟨h1, 1, none⟩ = some (.int .i64 k') ∧ w'.cell? ⟨h1, 2, none⟩ = some (.int .i64 n') ∧ w'.cell? ⟨h1, 3, none⟩ = some (.int .i64 N') from fun w' h => ⟨(XA.out.nx h).cell 0 rfl, (XA.out.nx h).cell 1 rfl, (XA.out.nx h).cell 2 rfl, (XA.out.nx h).cell 3 rfl, (XB.out.nx h).cell 0 rfl, (XB.out.nx h).cell 1 rfl, (XB.out.nx h).cell 2 rfl, (XB.out.nx h).cell 3 rfl⟩)
  clear XA XB
  obtain ⟨g1, g2, g3, g4, g5, g6, g7, g8⟩ := HS.out W3 (Nx.refl _)
  go_quiet (first
    | (go_at_call 14; (with_reducible refine Calls.quiet_of_same (NA.out _ ?_)); exact EV.nx (by repeat (first | exact Nx.refl _ | assumption | refine Nx.drew ?_ | refine Nx.drewN ?_ _ | refine Nx.alloc ?_ _ | refine Nx.trans ?_ (by assumption))))
    | (go_at_call 14; (with_reducible refine Calls.quiet_of_same (NB.out _ ?_)); exact EV.nx (by repeat (first | exact Nx.refl _ | assumption | refine Nx.drew ?_ | refine Nx.drewN ?_ _ | refine Nx.alloc ?_ _ | refine Nx.trans ?_ (by assumption)))))
  go_wp2_with fail
  refine (FA.out _ (EV.nx (by repeat (first | exact Nx.refl _ | assumption | refine Nx.drew ?_ | refine Nx.drewN ?_ _ | refine Nx.alloc ?_ _ | refine Nx.trans ?_ (by assumption))))).mono ?_
  rintro r w' ⟨rfl, rfl⟩
  go_wp2_with fail
  refine (FB.out _ (EV.nx (by repeat (first | exact Nx.refl _ | assumption | refine Nx.drew ?_ | refine Nx.drewN ?_ _ | refine Nx.alloc ?_ _ | refine Nx.trans ?_ (by assumption))))).mono ?_
  rintro r w' ⟨rfl, rfl⟩
  generalize hV : W3.drewN nq = V at *
  have H0 := Lib.hid (show Nx W3 V from hV ▸ (Nx.refl W3).drewN nq)
  clear hV NA NB FA FB g1 g2 g3 g4 g5 g6 g7 g8
  obtain ⟨g1, g2, g3, g4, g5, g6, g7, g8⟩ := HS.out V H0.out
  have E3 := Lib.hid EV
  clear EV
  have HN := Lib.hid N3
  clear N3
  subst hb hb'
  have ea := isEmpty_yes M za
  have eb := isEmpty_yes M' zb
  have t0 : T.size = 0 := by rcases hT with h | ⟨_, h, _⟩; exact h; cases h
  go_wp2_with fail
  go_cut [11, 12] (fun a' b' wx => a' = .string T ∧ b' = .string U ∧ Nx V wx)
  case first =>
    go_region_with (first
      | (go_at_call 19; (with_reducible refine Calls.mono (TA.out _ ?_) ?_); (focus (refine E3.out.nx ?_; refine Nx.trans H0.out ?_; (repeat (first | exact Nx.refl _ | assumption | refine Nx.drew ?_ | refine Nx.drewN ?_ _ | refine Nx.alloc ?_ _ | refine Nx.trans ?_ (by assumption))))); rintro r w4 ⟨rfl, h4⟩; have H4 := Lib.hid (show Nx V w4 from (by repeat (first | exact Nx.refl _ | assumption | refine Nx.drew ?_ | refine Nx.drewN ?_ _ | refine Nx.alloc ?_ _ | refine Nx.trans ?_ (by assumption)))); obtain ⟨c1, c2, c3, c4, c5, c6, c7, c8⟩ := HS.out w4 (H0.out.trans H4.out))
      | (go_at_call 19; (with_reducible refine Calls.mono (TB.out _ ?_) ?_); (focus (refine E3.out.nx ?_; refine Nx.trans H0.out ?_; (repeat (first | exact Nx.refl _ | assumption | refine Nx.drew ?_ | refine Nx.drewN ?_ _ | refine Nx.alloc ?_ _ | refine Nx.trans ?_ (by assumption))))); rintro r w4 ⟨rfl, h4⟩; have H4 := Lib.hid (show Nx V w4 from (by repeat (first | exact Nx.refl _ | assumption | refine Nx.drew ?_ | refine Nx.drewN ?_ _ | refine Nx.alloc ?_ _ | refine Nx.trans ?_ (by assumption)))); obtain ⟨c1, c2, c3, c4, c5, c6, c7, c8⟩ := HS.out w4 (H0.out.trans H4.out)))
    all_goals go_wp2_with fail
    all_goals go_meet
    all_goals exact ⟨rfl, rfl, (by repeat (first | exact Nx.refl _ | assumption | refine Nx.drew ?_ | refine Nx.drewN ?_ _ | refine Nx.alloc ?_ _ | refine Nx.trans ?_ (by assumption)))⟩
  case rest =>
    obtain ⟨rfl, rfl, hnx⟩ := hcut
    have H3 := Lib.hid (H0.out.trans hnx)
    clear hnx g1 g2 g3 g4 g5 g6 g7 g8
    have et := isEmpty_yes T t0
    go_wp2_with fail
    refine (alive_any _ (E3.out.nx H3.out)).mono ?_
    rintro r w9 ⟨rfl, q9⟩
    have H9 := Lib.hid (H3.out.trans q9)
    clear q9
    obtain ⟨g1, g2, g3, g4, g5, g6, g7, g8⟩ := HS.out w9 H9.out
    go_wp2
    go_ret
    exact ⟨rfl, HN.out.trans H9.out⟩
end Go.Proofs.YtfnmjbapjngmaaaDoor
