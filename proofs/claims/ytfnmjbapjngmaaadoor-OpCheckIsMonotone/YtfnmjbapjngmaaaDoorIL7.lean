/- The walk of OpCheckIsMonotone. Conditions: the listed package-level variables hold what the program's text lays. -/
import Derived.Test.YtfnmjbapjngmaaaDoorIQF
import Derived.Test.YtfnmjbapjngmaaaDoorIQ6
import Derived.Test.YtfnmjbapjngmaaaDoorILM
import Derived.BigQuiet
namespace Go.Proofs.YtfnmjbapjngmaaaDoor
open Go.RowKit

set_option maxHeartbeats 6400000 in
set_option maxRecDepth 100000 in
theorem law7 (i q m e o k n N a b : Int) (ha : 0 ≤ a ∧ a ≤ 255) (hb : 0 ≤ b ∧ b ≤ 255) (w : World) (he : Ev w) : Calls Tryd.prog 7 #[.agg #[.int .i64 i, .int .i64 q, .int .i64 m, .int .i64 e], .agg #[.int .i64 o, .int .i64 k, .int .i64 n, .int .i64 N], .agg #[.int .u8 a, .int .u8 b]] w fun e w' => e = .returned (.bool true) ∧ Nx w w' := by
  have HE := Lib.hid he
  clear he
  obtain ⟨ha0, ha1⟩ := ha
  obtain ⟨hb0, hb1⟩ := hb
  have C1 := Lib.hid (opCheck_any i q m e o k n N a b)
  have N3 := Lib.hid (((Nx.one w (.cells #[.int .i64 i, .int .i64 q, .int .i64 m, .int .i64 e] 31)).alloc (.cells #[.int .i64 o, .int .i64 k, .int .i64 n, .int .i64 N] 35)).alloc (.cells #[.int .u8 a, .int .u8 b] 48))
  have XS := Lib.hid (((bx_new w 31 [.int .i64 i, .int .i64 q, .int .i64 m, .int .i64 e]).nx (Nx.one _ (.cells #[.int .i64 o, .int .i64 k, .int .i64 n, .int .i64 N] 35))).nx (Nx.one _ (.cells #[.int .u8 a, .int .u8 b] 48)))
  have XI := Lib.hid ((bx_new (w.alloc (.cells #[.int .i64 i, .int .i64 q, .int .i64 m, .int .i64 e] 31)) 35 [.int .i64 o, .int .i64 k, .int .i64 n, .int .i64 N]).nx (Nx.one _ (.cells #[.int .u8 a, .int .u8 b] 48)))
  have XA := Lib.hid (bx_new ((w.alloc (.cells #[.int .i64 i, .int .i64 q, .int .i64 m, .int .i64 e] 31)).alloc (.cells #[.int .i64 o, .int .i64 k, .int .i64 n, .int .i64 N] 35)) 48 [.int .u8 a, .int .u8 b])
  rw [show (w.alloc (.cells #[.int .i64 i, .int .i64 q, .int .i64 m, .int .i64 e] 31)).heap.size = w.heap.size + 1 by simp] at XI
  rw [show ((w.alloc (.cells #[.int .i64 i, .int .i64 q, .int .i64 m, .int .i64 e] 31)).alloc (.cells #[.int .i64 o, .int .i64 k, .int .i64 n, .int .i64 N] 35)).heap.size = w.heap.size + 1 + 1 by simp] at XA
  go_enter Tryd.func7, Tryd.ntmps7
  go_wp2_with fail
  generalize w.heap.size + 1 + 1 = h2 at *
  generalize w.heap.size + 1 = h1 at *
  generalize w.heap.size = h0 at *
  generalize ((w.alloc (.cells #[.int .i64 i, .int .i64 q, .int .i64 m, .int .i64 e] 31)).alloc (.cells #[.int .i64 o, .int .i64 k, .int .i64 n, .int .i64 N] 35)).alloc (.cells #[.int .u8 a, .int .u8 b] 48) = W3 at *
  have HS := Lib.hid (show ∀ w', Nx W3 w' → w'.cell? ⟨h0, 0, none⟩ = some (.int .i64 i) ∧ w'.cell? ⟨h0, 1, none⟩ = some (.int .i64 q) ∧ w'.cell? ⟨h0, 2, none⟩ = some (.int .i64 m) ∧ w'.cell? ⟨h0, 3, none⟩ = some (.int .i64 e) ∧ w'.cell? ⟨h1, 0, none⟩ = some (.int .i64 o) ∧ w'.cell? ⟨h1, 1, none⟩ = some (.int .i64 k) ∧ w'.cell? ⟨h1, 2, none⟩ = some (.int .i64 n) ∧ w'.cell? ⟨h1, 3, none⟩ = some (.int .i64 N) from fun w' h => ⟨(XS.out.nx h).cell 0 rfl, (XS.out.nx h).cell 1 rfl, (XS.out.nx h).cell 2 rfl, (XS.out.nx h).cell 3 rfl, (XI.out.nx h).cell 0 rfl, (XI.out.nx h).cell 1 rfl, (XI.out.nx h).cell 2 rfl, (XI.out.nx h).cell 3 rfl⟩)
  have x0 := XA.out.cell 0 rfl
  have x1 := XA.out.cell 1 rfl
  clear XS XI XA
  obtain ⟨g1, g2, g3, g4, g5, g6, g7, g8⟩ := HS.out W3 (Nx.refl _)
  go_quiet (fail)
  go_wp2_with fail
  refine (C1.out _ (HE.out.nx (N3.out.trans ((Nx.refl W3).drewN nq)))).mono ?_
  rintro r w4 ⟨rfl, q4⟩
  have H4 := Lib.hid (((Nx.refl W3).drewN nq).trans q4)
  clear q4 g1 g2 g3 g4 g5 g6 g7 g8 x0 x1 C1
  obtain ⟨g1, g2, g3, g4, g5, g6, g7, g8⟩ := HS.out w4 H4.out
  by_cases hc : chk i q m e o k n N a b = 0
  rotate_left
  · generalize chk i q m e o k n N a b = ck at *
    have t0 : (ck == 0) = false := by simpa using hc
    clear hc
    go_wp2_with fail
    refine (alive_any _ (HE.out.nx (N3.out.trans H4.out))).mono ?_
    rintro r w5 ⟨rfl, q5⟩
    go_wp2
    go_ret
    exact ⟨rfl, N3.out.trans (H4.out.trans q5)⟩
  have HV := Lib.hid (valid_of hc)
  rw [hc]
  obtain ⟨⟨bi0, bi1⟩, ⟨bq0, bq1⟩, ⟨bm0, bm1⟩, ⟨be0, be1⟩⟩ := csz_ok HV.out.cs
  clear hc
  have hop : isOp o = true ∧ 0 ≤ frm o := by
    rcases op_in o with ⟨h, h'⟩ | ⟨h, h'⟩
    · exact ⟨h, by omega⟩
    · exact absurd h' HV.out.fr
  obtain ⟨i2, hi2⟩ : ∃ x, min (i + 1) 256 = x := ⟨_, rfl⟩
  obtain ⟨q2, hq2⟩ : ∃ x, min (q + 1) 256 = x := ⟨_, rfl⟩
  obtain ⟨m2, hm2⟩ : ∃ x, min (m + 1) 256 = x := ⟨_, rfl⟩
  obtain ⟨e2, he2⟩ : ∃ x, min (e + 1) 16384 = x := ⟨_, rfl⟩
  obtain ⟨c, hcm⟩ : ∃ x, max a N = x := ⟨_, rfl⟩
  have C2 := Lib.hid (opCheck_any i2 q2 m2 e2 o k n N a (b + 1))
  have C3 := Lib.hid (opCheck_any i2 q2 m2 e2 o k n N 0 (b + 1))
  have C4 := Lib.hid (opCheck_any i q m e o k n N c b)
  have v2 := chk_of (valid_up HV.out a (Int.le_refl a))
  have v3 := chk_of (valid_up HV.out 0 ha0)
  have v4 := chk_late HV.out c (by rw [← hcm]; exact Int.le_max_right a N)
  rw [up_min, up_min, up_min, up_min, hi2, hq2, hm2, he2] at v2 v3
  rw [v2] at C2
  rw [v3] at C3
  rw [v4] at C4
  have FM := Lib.hid (opForm_any o)
  rw [hop.1, if_pos rfl] at FM
  have h00 := hop.2
  clear v2 v3 v4 HV hop
  generalize frm o = f at *
  have H5 := Lib.hid (H4.out.trans (Nx.one w4 (.cells #[.int .i64 i2, .int .i64 q2, .int .i64 m2, .int .i64 e2] 31)))
  have T5 := Lib.hid (bx_new w4 31 [.int .i64 i2, .int .i64 q2, .int .i64 m2, .int .i64 e2])
  obtain ⟨k1, k2, k3, k4, k5, k6, k7, k8⟩ := HS.out _ H5.out
  go_wp2_with fail
  clear g1 g2 g3 g4 g5 g6 g7 g8 k1 k2 k3 k4 k5 k6 k7 k8
  generalize w4.alloc (.cells #[.int .i64 i2, .int .i64 q2, .int .i64 m2, .int .i64 e2] 31) = w5 at *
  generalize w4.heap.size = h3 at *
  refine (FM.out _ (HE.out.nx (N3.out.trans H5.out))).mono ?_
  rintro r w' ⟨rfl, rfl⟩
  go_wp2_with fail
  refine (alive_any _ (HE.out.nx (N3.out.trans H5.out))).mono ?_
  rintro r w6 ⟨rfl, q6⟩
  have H6 := Lib.hid (H5.out.trans q6)
  have T6 := Lib.hid (T5.out.nx q6)
  clear q6 H5 T5
  obtain ⟨k1, k2, k3, k4, k5, k6, k7, k8⟩ := HS.out _ H6.out
  have t0 := T6.out.cell 0 rfl
  have t1 := T6.out.cell 1 rfl
  have t2 := T6.out.cell 2 rfl
  have t3 := T6.out.cell 3 rfl
  go_wp2_with fail
  refine (C2.out _ (HE.out.nx (N3.out.trans H6.out))).mono ?_
  rintro r w7 ⟨rfl, q7⟩
  have H7 := Lib.hid (H6.out.trans q7)
  have T7 := Lib.hid (T6.out.nx q7)
  clear q7 H6 T6 k1 k2 k3 k4 k5 k6 k7 k8 t0 t1 t2 t3
  obtain ⟨k1, k2, k3, k4, k5, k6, k7, k8⟩ := HS.out _ H7.out
  have t0 := T7.out.cell 0 rfl
  have t1 := T7.out.cell 1 rfl
  have t2 := T7.out.cell 2 rfl
  have t3 := T7.out.cell 3 rfl
  go_wp2_with fail
  refine (C3.out _ (HE.out.nx (N3.out.trans H7.out))).mono ?_
  rintro r w8 ⟨rfl, q8⟩
  have H8 := Lib.hid (H7.out.trans q8)
  clear q8 H7 T7 k1 k2 k3 k4 k5 k6 k7 k8 t0 t1 t2 t3
  obtain ⟨k1, k2, k3, k4, k5, k6, k7, k8⟩ := HS.out _ H8.out
  go_wp2_with fail
  refine (C4.out _ (HE.out.nx (N3.out.trans H8.out))).mono ?_
  rintro r w9 ⟨rfl, q9⟩
  have H9 := Lib.hid (H8.out.trans q9)
  clear q9 H8 k1 k2 k3 k4 k5 k6 k7 k8
  by_cases hf : f = 4
  · subst hf
    rw [if_pos rfl]
    go_wp2
    go_ret
    exact ⟨rfl, N3.out.trans H9.out⟩
  · rw [if_neg hf]
    have tf : (f == 4) = false := by simpa using hf
    go_wp2
    go_ret
    exact ⟨rfl, N3.out.trans H9.out⟩
end Go.Proofs.YtfnmjbapjngmaaaDoor
