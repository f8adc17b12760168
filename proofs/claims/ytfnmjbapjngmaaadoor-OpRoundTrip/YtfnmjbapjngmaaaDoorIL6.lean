/- The walk of OpRoundTrip. Conditions: the listed package-level variables hold what the program's text lays. -/
import Derived.Test.YtfnmjbapjngmaaaDoorIQF
import Derived.Test.YtfnmjbapjngmaaaDoorIQ6
import Derived.Test.YtfnmjbapjngmaaaDoorILR
namespace Go.Proofs.YtfnmjbapjngmaaaDoor
open Go.RowKit

set_option maxHeartbeats 6400000 in
set_option maxRecDepth 100000 in
theorem law6 (i q m e o k n N : Int) (s : ByteArray) (w : World) (he : Ev w) : Calls Tryd.prog 6 #[.agg #[.int .i64 i, .int .i64 q, .int .i64 m, .int .i64 e], .agg #[.int .i64 o, .int .i64 k, .int .i64 n, .int .i64 N], .string s] w fun e w' => e = .returned (.bool true) ∧ Nx w w' := by
  have HE := Lib.hid he
  clear he
  have N3 := Lib.hid ((Nx.one w (.cells #[.int .i64 i, .int .i64 q, .int .i64 m, .int .i64 e] 31)).alloc (.cells #[.int .i64 o, .int .i64 k, .int .i64 n, .int .i64 N] 35))
  have XS := Lib.hid ((bx_new w 31 [.int .i64 i, .int .i64 q, .int .i64 m, .int .i64 e]).nx (Nx.one _ (.cells #[.int .i64 o, .int .i64 k, .int .i64 n, .int .i64 N] 35)))
  have XI := Lib.hid (bx_new (w.alloc (.cells #[.int .i64 i, .int .i64 q, .int .i64 m, .int .i64 e] 31)) 35 [.int .i64 o, .int .i64 k, .int .i64 n, .int .i64 N])
  rw [show (w.alloc (.cells #[.int .i64 i, .int .i64 q, .int .i64 m, .int .i64 e] 31)).heap.size = w.heap.size + 1 by simp] at XI
  by_cases hlen : 1000 < s.size
  · have h1 : (1000 : Int) < (s.size : Int) := by omega
    go_enter Tryd.func6, Tryd.ntmps6
    go_wp2_with fail
    refine (alive_any _ (HE.out.nx N3.out)).mono ?_
    rintro e w' ⟨rfl, h9⟩
    go_wp2
    go_ret
    exact ⟨rfl, N3.out.trans h9⟩
  have hl1 : ¬ (1000 : Int) < (s.size : Int) := by omega
  have P1 := Lib.hid (fun (w : World) (he : Ev w) => opParse_any s (by omega) w he)
  have F1 := Lib.hid (opFormat_any o k n N)
  have HC := Lib.hid (opCheck_any i q m e o k n N 0 65535)
  have HK := Lib.hid (fun h => chk_has (i := i) (q := q) (m := m) (e := e) (o := o) (k := k) (n := n) (N := N) h)
  have HI := Lib.hid (fun o' k' n' N' => opP_inv (l := B s) (o := o') (k := k') (n := n') (N := N'))
  have PT := Lib.hid (fun (w : World) (he : Ev w) => opParse_any (opT o k n N) (Nat.le_trans (opT_size o k n N) (by decide)) w he)
  go_enter Tryd.func6, Tryd.ntmps6
  go_wp2_with fail
  generalize w.heap.size + 1 = h1 at *
  generalize w.heap.size = h0 at *
  generalize (w.alloc (.cells #[.int .i64 i, .int .i64 q, .int .i64 m, .int .i64 e] 31)).alloc (.cells #[.int .i64 o, .int .i64 k, .int .i64 n, .int .i64 N] 35) = W3 at *
  have HS := Lib.hid (show ∀ w', Nx W3 w' → w'.cell? ⟨h0, 0, none⟩ = some (.int .i64 i) ∧ w'.cell? ⟨h0, 1, none⟩ = some (.int .i64 q) ∧ w'.cell? ⟨h0, 2, none⟩ = some (.int .i64 m) ∧ w'.cell? ⟨h0, 3, none⟩ = some (.int .i64 e) ∧ w'.cell? ⟨h1, 0, none⟩ = some (.int .i64 o) ∧ w'.cell? ⟨h1, 1, none⟩ = some (.int .i64 k) ∧ w'.cell? ⟨h1, 2, none⟩ = some (.int .i64 n) ∧ w'.cell? ⟨h1, 3, none⟩ = some (.int .i64 N) from fun w' h => ⟨(XS.out.nx h).cell 0 rfl, (XS.out.nx h).cell 1 rfl, (XS.out.nx h).cell 2 rfl, (XS.out.nx h).cell 3 rfl, (XI.out.nx h).cell 0 rfl, (XI.out.nx h).cell 1 rfl, (XI.out.nx h).cell 2 rfl, (XI.out.nx h).cell 3 rfl⟩)
  clear XS XI
  refine (F1.out _ (HE.out.nx N3.out)).mono ?_
  rintro r w4 ⟨rfl, q4⟩
  have H4 := Lib.hid q4
  clear q4
  obtain ⟨g1, g2, g3, g4, g5, g6, g7, g8⟩ := HS.out w4 H4.out
  by_cases hh : has (frm o) k n N
  · have hpos := opT_pos hh
    have hrt := opP_opT hh
    rw [hrt] at PT
    change Hid (∀ w, Ev w → Calls _ _ _ w fun e w' => e = .returned (.tuple #[.agg #[.int .i64 o, .int .i64 k, .int .i64 n, .int .i64 N], .int .i64 0]) ∧ Nx w w') at PT
    generalize opT o k n N = T at *
    have e0 := isEmpty_no T hpos
    clear HK HC hh hpos hrt
    go_wp2_with fail
    refine (PT.out _ (HE.out.nx (N3.out.trans H4.out))).mono ?_
    rintro r w5 ⟨rfl, q5⟩
    have H5 := Lib.hid (H4.out.trans (q5.trans (Nx.one w5 (.cells #[.int .i64 o, .int .i64 k, .int .i64 n, .int .i64 N] 35))))
    clear g1 g2 g3 g4 g5 g6 g7 g8 q5 H4
    obtain ⟨g1, g2, g3, g4, g5, g6, g7, g8⟩ := HS.out _ H5.out
    go_wp2_with fail
    generalize w5.alloc (.cells #[.int .i64 o, .int .i64 k, .int .i64 n, .int .i64 N] 35) = w6 at *
    clear g1 g2 g3 g4 g5 g6 g7 g8
    have hres : (opP (B s) = none) ∨ ∃ o' k' n' N', opP (B s) = some (o', k', n', N') ∧ opT o' k' n' N' = s := by
      cases hp : opP (B s) with
      | none => exact Or.inl rfl
      | some x =>
        obtain ⟨o', k', n', N'⟩ := x
        exact Or.inr ⟨o', k', n', N', rfl, B_inj (HI.out o' k' n' N' hp).2⟩
    clear HI
    rcases hres with hp | ⟨o', k', n', N', hp, hs⟩
    · rw [hp] at P1
      change Hid (∀ w, Ev w → Calls _ _ _ w fun e w' => e = .returned (.tuple #[.agg #[.int .i64 0, .int .i64 0, .int .i64 0, .int .i64 0], .int .i64 6]) ∧ Nx w w') at P1
      clear hp
      refine (P1.out _ (HE.out.nx (N3.out.trans H5.out))).mono ?_
      rintro r w7 ⟨rfl, q7⟩
      have H7 := Lib.hid (H5.out.trans (q7.trans (Nx.one w7 (.cells #[.int .i64 0, .int .i64 0, .int .i64 0, .int .i64 0] 35))))
      have Y7 := Lib.hid (bx_new w7 35 [.int .i64 0, .int .i64 0, .int .i64 0, .int .i64 0])
      clear q7 H5 P1
      go_wp2_with fail
      generalize w7.alloc (.cells #[.int .i64 0, .int .i64 0, .int .i64 0, .int .i64 0] 35) = w8 at *
      refine (alive_any _ (HE.out.nx (N3.out.trans H7.out))).mono ?_
      rintro r w9 ⟨rfl, q9⟩
      have y0 := (Y7.out.nx q9).cell 0 rfl
      have y1 := (Y7.out.nx q9).cell 1 rfl
      have y2 := (Y7.out.nx q9).cell 2 rfl
      have y3 := (Y7.out.nx q9).cell 3 rfl
      have H9 := Lib.hid (H7.out.trans q9)
      clear q9
      go_wp2
      go_ret
      exact ⟨rfl, N3.out.trans H9.out⟩
    · rw [hp] at P1
      change Hid (∀ w, Ev w → Calls _ _ _ w fun e w' => e = .returned (.tuple #[.agg #[.int .i64 o', .int .i64 k', .int .i64 n', .int .i64 N'], .int .i64 0]) ∧ Nx w w') at P1
      have F9 := Lib.hid (opFormat_any o' k' n' N')
      rw [hs] at F9
      clear hp hs
      refine (P1.out _ (HE.out.nx (N3.out.trans H5.out))).mono ?_
      rintro r w7 ⟨rfl, q7⟩
      have H7 := Lib.hid (H5.out.trans (q7.trans (Nx.one w7 (.cells #[.int .i64 o', .int .i64 k', .int .i64 n', .int .i64 N'] 35))))
      have Y7 := Lib.hid (bx_new w7 35 [.int .i64 o', .int .i64 k', .int .i64 n', .int .i64 N'])
      clear q7 H5 P1
      go_wp2_with fail
      generalize w7.alloc (.cells #[.int .i64 o', .int .i64 k', .int .i64 n', .int .i64 N'] 35) = w8 at *
      refine (alive_any _ (HE.out.nx (N3.out.trans H7.out))).mono ?_
      rintro r w9 ⟨rfl, q9⟩
      have y0 := (Y7.out.nx q9).cell 0 rfl
      have y1 := (Y7.out.nx q9).cell 1 rfl
      have y2 := (Y7.out.nx q9).cell 2 rfl
      have y3 := (Y7.out.nx q9).cell 3 rfl
      have H9 := Lib.hid (H7.out.trans q9)
      clear q9
      go_wp2_with fail
      refine (F9.out _ (HE.out.nx (N3.out.trans H9.out))).mono ?_
      rintro r w10 ⟨rfl, q10⟩
      have H10 := Lib.hid (H9.out.trans q10)
      clear q10
      go_wp2
      go_ret
      exact ⟨by first | rfl | simp, N3.out.trans H10.out⟩
  · have hn := opT_none hh
    have hk : chk i q m e o k n N 0 65535 ≠ 0 := fun h => hh (HK.out h)
    rw [hn]
    generalize chk i q m e o k n N 0 65535 = ck at *
    have t0 : (ck == 0) = false := by simpa using hk
    clear HK hh hn hk PT
    go_wp2_with fail
    refine (HC.out _ (HE.out.nx (N3.out.trans H4.out))).mono ?_
    rintro r w6 ⟨rfl, q6⟩
    have H5 := Lib.hid (H4.out.trans q6)
    clear g1 g2 g3 g4 g5 g6 g7 g8 q6 H4
    go_wp2_with fail
    have hres : (opP (B s) = none) ∨ ∃ o' k' n' N', opP (B s) = some (o', k', n', N') ∧ opT o' k' n' N' = s := by
      cases hp : opP (B s) with
      | none => exact Or.inl rfl
      | some x =>
        obtain ⟨o', k', n', N'⟩ := x
        exact Or.inr ⟨o', k', n', N', rfl, B_inj (HI.out o' k' n' N' hp).2⟩
    clear HI
    rcases hres with hp | ⟨o', k', n', N', hp, hs⟩
    · rw [hp] at P1
      change Hid (∀ w, Ev w → Calls _ _ _ w fun e w' => e = .returned (.tuple #[.agg #[.int .i64 0, .int .i64 0, .int .i64 0, .int .i64 0], .int .i64 6]) ∧ Nx w w') at P1
      clear hp
      refine (P1.out _ (HE.out.nx (N3.out.trans H5.out))).mono ?_
      rintro r w7 ⟨rfl, q7⟩
      have H7 := Lib.hid (H5.out.trans (q7.trans (Nx.one w7 (.cells #[.int .i64 0, .int .i64 0, .int .i64 0, .int .i64 0] 35))))
      have Y7 := Lib.hid (bx_new w7 35 [.int .i64 0, .int .i64 0, .int .i64 0, .int .i64 0])
      clear q7 H5 P1
      go_wp2_with fail
      generalize w7.alloc (.cells #[.int .i64 0, .int .i64 0, .int .i64 0, .int .i64 0] 35) = w8 at *
      refine (alive_any _ (HE.out.nx (N3.out.trans H7.out))).mono ?_
      rintro r w9 ⟨rfl, q9⟩
      have y0 := (Y7.out.nx q9).cell 0 rfl
      have y1 := (Y7.out.nx q9).cell 1 rfl
      have y2 := (Y7.out.nx q9).cell 2 rfl
      have y3 := (Y7.out.nx q9).cell 3 rfl
      have H9 := Lib.hid (H7.out.trans q9)
      clear q9
      go_wp2
      go_ret
      exact ⟨rfl, N3.out.trans H9.out⟩
    · rw [hp] at P1
      change Hid (∀ w, Ev w → Calls _ _ _ w fun e w' => e = .returned (.tuple #[.agg #[.int .i64 o', .int .i64 k', .int .i64 n', .int .i64 N'], .int .i64 0]) ∧ Nx w w') at P1
      have F9 := Lib.hid (opFormat_any o' k' n' N')
      rw [hs] at F9
      clear hp hs
      refine (P1.out _ (HE.out.nx (N3.out.trans H5.out))).mono ?_
      rintro r w7 ⟨rfl, q7⟩
      have H7 := Lib.hid (H5.out.trans (q7.trans (Nx.one w7 (.cells #[.int .i64 o', .int .i64 k', .int .i64 n', .int .i64 N'] 35))))
      have Y7 := Lib.hid (bx_new w7 35 [.int .i64 o', .int .i64 k', .int .i64 n', .int .i64 N'])
      clear q7 H5 P1
      go_wp2_with fail
      generalize w7.alloc (.cells #[.int .i64 o', .int .i64 k', .int .i64 n', .int .i64 N'] 35) = w8 at *
      refine (alive_any _ (HE.out.nx (N3.out.trans H7.out))).mono ?_
      rintro r w9 ⟨rfl, q9⟩
      have y0 := (Y7.out.nx q9).cell 0 rfl
      have y1 := (Y7.out.nx q9).cell 1 rfl
      have y2 := (Y7.out.nx q9).cell 2 rfl
      have y3 := (Y7.out.nx q9).cell 3 rfl
      have H9 := Lib.hid (H7.out.trans q9)
      clear q9
      go_wp2_with fail
      refine (F9.out _ (HE.out.nx (N3.out.trans H9.out))).mono ?_
      rintro r w10 ⟨rfl, q10⟩
      have H10 := Lib.hid (H9.out.trans q10)
      clear q10
      go_wp2
      go_ret
      exact ⟨by first | rfl | simp, N3.out.trans H10.out⟩
end Go.Proofs.YtfnmjbapjngmaaaDoor
