/- What Check of layer 4 returns. Conditions: the listed package-level variables hold what the program's text lays. -/
import Derived.Test.YtdiamajkfbejhaaDoorIY5
namespace Go.Proofs.YtdiamajkfbejhaaDoor
open Go.RowKit

theorem op_in (o : Int) : (isOp o = true ∧ (frm o = 0 ∨ frm o = 1 ∨ frm o = 2 ∨ frm o = 3 ∨ frm o = 4)) ∨ (isOp o = false ∧ frm o = -1) := by
  by_cases h : 0 ≤ o ∧ o ≤ 16
  · refine Or.inl ⟨decide_eq_true h, ?_⟩
    have := frm_pos o h
    rcases frm_in o with h | h | h | h | h | h <;> omega
  · exact Or.inr ⟨decide_eq_false h, frm_neg o h⟩

theorem hasOnly_3 (g m : Nat) (o k n N : Int) (w : World) (hb : Bx w g 107 (aOp (fv m))) : Calls Tryd.prog 55 #[.agg #[.int .i64 o, .int .i64 k, .int .i64 n, .int .i64 N], .slice (some ⟨g, 0, none⟩) 1 1] w fun e w' => e = .returned (.bool (cln 3 k n N)) ∧ Nx w w' := by
  rw [cln_3]; exact hasOnly_1 g m o k n N w hb

set_option maxHeartbeats 3200000 in
set_option maxRecDepth 100000 in
theorem opCheck_any (i q m e o k n N at' many : Int) (w : World) (he : Ev w) :
    Calls Tryd.prog 46 #[.agg #[.int .i64 i, .int .i64 q, .int .i64 m, .int .i64 e], .agg #[.int .i64 o, .int .i64 k, .int .i64 n, .int .i64 N], .int .i64 at', .int .i64 many] w fun r w' => r = .returned (.int .i64 (chk i q m e o k n N at' many)) ∧ Nx w w' := by
  have CS := Lib.hid (checkSize_any i q m e)
  have FM := Lib.hid (opForm_any o)
  have CR := Lib.hid (checkRead_any i q m e o k n N at' many)
  have CW := Lib.hid (checkWrite_any i q m e o k n N at' many)
  have CL := Lib.hid (checkSlot_any i q m e o k n N at' many)
  have CT := Lib.hid (checkTarget_any i q m e o k n N at' many)
  have HE := Lib.hid he
  clear he
  have hc := csz_in i q m e
  have hi := op_in o
  have HCA := Lib.hid (cad_in i q m k n)
  unfold chk
  generalize csz i q m e = cs at *
  generalize cad i q m k n = ca at *
  generalize frm o = f at *
  generalize isOp o = b at *
  obtain ⟨R, hR⟩ : ∃ R, chk1 cs f (cln f k n N) ca e k N at' many = R := ⟨_, rfl⟩
  rw [hR]
  have HR := Lib.hid hR
  clear hR
  have N0 := Lib.hid (show Nx w ((w.alloc (.cells #[.int .i64 i, .int .i64 q, .int .i64 m, .int .i64 e] 23)).alloc (.cells #[.int .i64 o, .int .i64 k, .int .i64 n, .int .i64 N] 46)) from (Nx.one _ _).alloc _)
  have XS := Lib.hid ((bx_new w 23 [.int .i64 i, .int .i64 q, .int .i64 m, .int .i64 e]).nx (Nx.one _ (.cells #[.int .i64 o, .int .i64 k, .int .i64 n, .int .i64 N] 46)))
  have XI := Lib.hid (bx_new (w.alloc (.cells #[.int .i64 i, .int .i64 q, .int .i64 m, .int .i64 e] 23)) 46 [.int .i64 o, .int .i64 k, .int .i64 n, .int .i64 N])
  rw [show (w.alloc (.cells #[.int .i64 i, .int .i64 q, .int .i64 m, .int .i64 e] 23)).heap.size = w.heap.size + 1 by simp] at XI
  have HI := Lib.hid hi
  clear hi
  go_enter Tryd.func46, Tryd.ntmps46
  go_wp2_with fail
  generalize hh1 : w.heap.size + 1 = h1 at *
  generalize hh0 : w.heap.size = h0 at *
  generalize (w.alloc (.cells #[.int .i64 i, .int .i64 q, .int .i64 m, .int .i64 e] 23)).alloc (.cells #[.int .i64 o, .int .i64 k, .int .i64 n, .int .i64 N] 46) = W at *
  have HS := Lib.hid (show ∀ w', Nx W w' → ((w'.cell? ⟨h0, 0, none⟩ = some (.int .i64 i) ∧ w'.cell? ⟨h0, 1, none⟩ = some (.int .i64 q) ∧ w'.cell? ⟨h0, 2, none⟩ = some (.int .i64 m) ∧ w'.cell? ⟨h0, 3, none⟩ = some (.int .i64 e)) ∧ (w'.cell? ⟨h1, 0, none⟩ = some (.int .i64 o) ∧ w'.cell? ⟨h1, 1, none⟩ = some (.int .i64 k) ∧ w'.cell? ⟨h1, 2, none⟩ = some (.int .i64 n) ∧ w'.cell? ⟨h1, 3, none⟩ = some (.int .i64 N))) from fun w' h =>
    ⟨⟨(XS.out.nx h).cell 0 rfl, (XS.out.nx h).cell 1 rfl, (XS.out.nx h).cell 2 rfl, (XS.out.nx h).cell 3 rfl⟩, ⟨(XI.out.nx h).cell 0 rfl, (XI.out.nx h).cell 1 rfl, (XI.out.nx h).cell 2 rfl, (XI.out.nx h).cell 3 rfl⟩⟩)
  clear XS XI hh1 hh0
  refine (CS.out _).mono ?_
  rintro r w1 ⟨rfl, q1⟩
  have H1 := Lib.hid q1
  clear q1
  rcases hc with rfl | rfl
  rotate_left
  · go_wp2
    go_ret
    exact ⟨ret_int (by rw [← HR.out]; simp [chk1]), N0.out.trans H1.out⟩
  obtain ⟨⟨a1, a2, a3, a4⟩, a5, a6, a7, a8⟩ := HS.out w1 H1.out
  go_wp2_with fail
  refine (FM.out _ (HE.out.nx (N0.out.trans H1.out))).mono ?_
  rintro r w' ⟨rfl, rfl⟩
  rcases HI.out with ⟨rfl, hf⟩ | ⟨rfl, rfl⟩
  rotate_left
  · go_wp2
    go_ret
    exact ⟨ret_int (by rw [← HR.out]; simp [chk1]), N0.out.trans H1.out⟩
  clear HI
  rcases hf with rfl | rfl | rfl | rfl | rfl
  · go_wp2_with fail
    refine (operandsOf_0 _).mono ?_
    rintro r w' ⟨rfl, rfl⟩
    have H3 := Lib.hid H1.out
    go_wp2_with fail
    refine (hasOnly_0 o k n N _).mono ?_
    rintro r w4 ⟨rfl, q4⟩
    have H4 := Lib.hid (H3.out.trans q4)
    clear a1 a2 a3 a4 a5 a6 a7 a8 q4
    cases hcl : cln 0 k n N
    · go_wp2
      go_ret
      exact ⟨ret_int (by rw [← HR.out, hcl]; simp [chk1]), N0.out.trans H4.out⟩
    rw [hcl] at HR
    clear hcl
    go_wp2_with fail
    refine wp_loop_rounds 1 ?_
    rw [rounds_succ]
    go_wp2_with fail
    go_ret
    exact ⟨ret_int (by rw [← HR.out]; simp [chk1, chk2]), N0.out.trans H4.out⟩
  · go_wp2_with fail
    refine (operandsOf_1 _).mono ?_
    rintro r w3 ⟨g, rfl, hbx, hg, q3⟩
    have H3 := Lib.hid (H1.out.trans q3)
    have HB := Lib.hid hbx
    clear a1 a2 a3 a4 a5 a6 a7 a8 hbx hg q3
    obtain ⟨⟨a1, a2, a3, a4⟩, a5, a6, a7, a8⟩ := HS.out w3 H3.out
    go_wp2_with fail
    refine (hasOnly_1 g 58 o k n N _ HB.out).mono ?_
    rintro r w4 ⟨rfl, q4⟩
    have H4 := Lib.hid (H3.out.trans q4)
    have HB4 := Lib.hid (HB.out.nx q4)
    clear a1 a2 a3 a4 a5 a6 a7 a8 q4
    cases hcl : cln 1 k n N
    · go_wp2
      go_ret
      exact ⟨ret_int (by rw [← HR.out, hcl]; simp [chk1]), N0.out.trans H4.out⟩
    rw [hcl] at HR
    clear hcl
    go_wp2_with fail
    refine wp_loop_rounds 2 ?_
    have d0 := HB4.out.cell 0 rfl
    have d1 := HB4.out.cell 1 rfl
    have d2 := HB4.out.cell 2 rfl
    have d3 := HB4.out.cell 3 rfl
    obtain ⟨⟨a1, a2, a3, a4⟩, a5, a6, a7, a8⟩ := HS.out _ (H4.out.trans (Nx.one w4 (.cells #[fv 63, fv 58, fv 64, fv 66] 107)))
    rw [rounds_succ]
    go_wp2_with fail
    refine (CR.out _).mono ?_
    rintro r w5 ⟨rfl, q5⟩
    have H5 := Lib.hid (H4.out.trans (Nx.trans (Nx.one w4 (.cells #[fv 63, fv 58, fv 64, fv 66] 107)) q5))
    clear d0 d1 d2 d3 a1 a2 a3 a4 a5 a6 a7 a8 q5
    rcases HCA.out with rfl | rfl | rfl
    · go_wp2_with fail
      rw [rounds_succ]
      go_wp2_with fail
      go_ret
      exact ⟨ret_int (by rw [← HR.out]; simp [chk1, chk2]), N0.out.trans H5.out⟩
    · go_wp2_with fail
      go_ret
      exact ⟨ret_int (by rw [← HR.out]; simp [chk1]), N0.out.trans H5.out⟩
    · go_wp2_with fail
      go_ret
      exact ⟨ret_int (by rw [← HR.out]; simp [chk1]), N0.out.trans H5.out⟩
  · go_wp2_with fail
    refine (operandsOf_2 _).mono ?_
    rintro r w3 ⟨g, rfl, hbx, hg, q3⟩
    have H3 := Lib.hid (H1.out.trans q3)
    have HB := Lib.hid hbx
    clear a1 a2 a3 a4 a5 a6 a7 a8 hbx hg q3
    obtain ⟨⟨a1, a2, a3, a4⟩, a5, a6, a7, a8⟩ := HS.out w3 H3.out
    go_wp2_with fail
    refine (hasOnly_2 g 58 60 o k n N _ HB.out).mono ?_
    rintro r w4 ⟨rfl, q4⟩
    have H4 := Lib.hid (H3.out.trans q4)
    have HB4 := Lib.hid (HB.out.nx q4)
    clear a1 a2 a3 a4 a5 a6 a7 a8 q4
    cases hcl : cln 2 k n N
    · go_wp2
      go_ret
      exact ⟨ret_int (by rw [← HR.out, hcl]; simp [chk1]), N0.out.trans H4.out⟩
    rw [hcl] at HR
    clear hcl
    go_wp2_with fail
    refine wp_loop_rounds 3 ?_
    have d0 := HB4.out.cell 0 rfl
    have d1 := HB4.out.cell 1 rfl
    have d2 := HB4.out.cell 2 rfl
    have d3 := HB4.out.cell 3 rfl
    obtain ⟨⟨a1, a2, a3, a4⟩, a5, a6, a7, a8⟩ := HS.out _ (H4.out.trans (Nx.one w4 (.cells #[fv 63, fv 58, fv 64, fv 66] 107)))
    rw [rounds_succ]
    go_wp2_with fail
    refine (CR.out _).mono ?_
    rintro r w5 ⟨rfl, q5⟩
    have hq := Nx.trans (Nx.one w4 (.cells #[fv 63, fv 58, fv 64, fv 66] 107)) q5
    have H5 := Lib.hid (H4.out.trans hq)
    have HB5 := Lib.hid (HB4.out.nx hq)
    clear d0 d1 d2 d3 a1 a2 a3 a4 a5 a6 a7 a8 q5 hq
    rcases HCA.out with rfl | rfl | rfl
    rotate_left
    · go_wp2_with fail
      go_ret
      exact ⟨ret_int (by rw [← HR.out]; simp [chk1]), N0.out.trans H5.out⟩
    · go_wp2_with fail
      go_ret
      exact ⟨ret_int (by rw [← HR.out]; simp [chk1]), N0.out.trans H5.out⟩
    go_wp2_with fail
    have d0 := HB5.out.cell 4 rfl
    have d1 := HB5.out.cell 5 rfl
    have d2 := HB5.out.cell 6 rfl
    have d3 := HB5.out.cell 7 rfl
    obtain ⟨⟨a1, a2, a3, a4⟩, a5, a6, a7, a8⟩ := HS.out _ (H5.out.trans (Nx.one w5 (.cells #[fv 69, fv 60, fv 70, fv 72] 107)))
    rw [rounds_succ]
    go_wp2_with fail
    refine (CL.out _).mono ?_
    rintro r w6 ⟨rfl, q6⟩
    have H6 := Lib.hid (H5.out.trans (Nx.trans (Nx.one w5 (.cells #[fv 69, fv 60, fv 70, fv 72] 107)) q6))
    clear d0 d1 d2 d3 a1 a2 a3 a4 a5 a6 a7 a8 q6
    have hx : (csl e N = 0 ∧ R = 0) ∨ (csl e N = 3 ∧ R = 3) := by
      rw [← HR.out]
      simp only [chk1, chk2, csl]
      by_cases h0 : N < 0 ∨ e ≤ N
      · right; simp [h0]
      · left; simp [h0]
    clear HR
    generalize csl e N = v at *
    rcases hx with ⟨rfl, rfl⟩ | ⟨rfl, rfl⟩
    · go_wp2_with fail
      rw [rounds_succ]
      go_wp2_with fail
      go_ret
      exact ⟨rfl, N0.out.trans H6.out⟩
    · go_wp2_with fail
      go_ret
      exact ⟨rfl, N0.out.trans H6.out⟩
  · go_wp2_with fail
    refine (operandsOf_3 _).mono ?_
    rintro r w3 ⟨g, rfl, hbx, hg, q3⟩
    have H3 := Lib.hid (H1.out.trans q3)
    have HB := Lib.hid hbx
    clear a1 a2 a3 a4 a5 a6 a7 a8 hbx hg q3
    obtain ⟨⟨a1, a2, a3, a4⟩, a5, a6, a7, a8⟩ := HS.out w3 H3.out
    go_wp2_with fail
    refine (hasOnly_3 g 61 o k n N _ HB.out).mono ?_
    rintro r w4 ⟨rfl, q4⟩
    have H4 := Lib.hid (H3.out.trans q4)
    have HB4 := Lib.hid (HB.out.nx q4)
    clear a1 a2 a3 a4 a5 a6 a7 a8 q4
    cases hcl : cln 3 k n N
    · go_wp2
      go_ret
      exact ⟨ret_int (by rw [← HR.out, hcl]; simp [chk1]), N0.out.trans H4.out⟩
    rw [hcl] at HR
    clear hcl
    go_wp2_with fail
    refine wp_loop_rounds 2 ?_
    have d0 := HB4.out.cell 0 rfl
    have d1 := HB4.out.cell 1 rfl
    have d2 := HB4.out.cell 2 rfl
    have d3 := HB4.out.cell 3 rfl
    obtain ⟨⟨a1, a2, a3, a4⟩, a5, a6, a7, a8⟩ := HS.out _ (H4.out.trans (Nx.one w4 (.cells #[fv 63, fv 61, fv 64, fv 66] 107)))
    rw [rounds_succ]
    go_wp2_with fail
    refine (CW.out _).mono ?_
    rintro r w5 ⟨rfl, q5⟩
    have H5 := Lib.hid (H4.out.trans (Nx.trans (Nx.one w4 (.cells #[fv 63, fv 61, fv 64, fv 66] 107)) q5))
    clear d0 d1 d2 d3 a1 a2 a3 a4 a5 a6 a7 a8 q5
    have hx : (cwr ca k = 0 ∧ R = 0) ∨ (cwr ca k = 3 ∧ R = 3) ∨ (cwr ca k = 8 ∧ R = 8) := by
      rw [← HR.out]
      rcases HCA.out with rfl | rfl | rfl
      · by_cases hk : k = 0
        · right; right; subst hk; exact ⟨rfl, by simp [chk1, chk2]⟩
        · left; exact ⟨by unfold cwr; rw [if_neg (by decide), if_neg hk], by simp [chk1, chk2, hk]⟩
      · right; left; exact ⟨rfl, by simp [chk1]⟩
      · right; right; exact ⟨rfl, by simp [chk1]⟩
    clear HR
    generalize cwr ca k = v at *
    rcases hx with ⟨rfl, rfl⟩ | ⟨rfl, rfl⟩ | ⟨rfl, rfl⟩
    · go_wp2_with fail
      rw [rounds_succ]
      go_wp2_with fail
      go_ret
      exact ⟨rfl, N0.out.trans H5.out⟩
    · go_wp2_with fail
      go_ret
      exact ⟨rfl, N0.out.trans H5.out⟩
    · go_wp2_with fail
      go_ret
      exact ⟨rfl, N0.out.trans H5.out⟩
  · go_wp2_with fail
    refine (operandsOf_4 _).mono ?_
    rintro r w3 ⟨g, rfl, hbx, hg, q3⟩
    have H3 := Lib.hid (H1.out.trans q3)
    have HB := Lib.hid hbx
    clear a1 a2 a3 a4 a5 a6 a7 a8 hbx hg q3
    obtain ⟨⟨a1, a2, a3, a4⟩, a5, a6, a7, a8⟩ := HS.out w3 H3.out
    go_wp2_with fail
    refine (hasOnly_4 g 62 o k n N _ HB.out).mono ?_
    rintro r w4 ⟨rfl, q4⟩
    have H4 := Lib.hid (H3.out.trans q4)
    have HB4 := Lib.hid (HB.out.nx q4)
    clear a1 a2 a3 a4 a5 a6 a7 a8 q4
    cases hcl : cln 4 k n N
    · go_wp2
      go_ret
      exact ⟨ret_int (by rw [← HR.out, hcl]; simp [chk1]), N0.out.trans H4.out⟩
    rw [hcl] at HR
    clear hcl
    go_wp2_with fail
    refine wp_loop_rounds 2 ?_
    have d0 := HB4.out.cell 0 rfl
    have d1 := HB4.out.cell 1 rfl
    have d2 := HB4.out.cell 2 rfl
    have d3 := HB4.out.cell 3 rfl
    obtain ⟨⟨a1, a2, a3, a4⟩, a5, a6, a7, a8⟩ := HS.out _ (H4.out.trans (Nx.one w4 (.cells #[fv 69, fv 62, fv 70, fv 72] 107)))
    rw [rounds_succ]
    go_wp2_with fail
    refine (CT.out _).mono ?_
    rintro r w5 ⟨rfl, q5⟩
    have H5 := Lib.hid (H4.out.trans (Nx.trans (Nx.one w4 (.cells #[fv 69, fv 62, fv 70, fv 72] 107)) q5))
    clear d0 d1 d2 d3 a1 a2 a3 a4 a5 a6 a7 a8 q5
    have hx : (ctg at' many N = 0 ∧ R = 0) ∨ (ctg at' many N = 3 ∧ R = 3) ∨ (ctg at' many N = 17 ∧ R = 17) := by
      rw [← HR.out]
      simp only [chk1, chk2, ctg]
      by_cases h0 : N < 0 ∨ many ≤ N
      · right; left; simp [h0]
      · by_cases h1 : N ≤ at'
        · right; right; simp [h0, h1]
        · left; simp [h0, h1]
    clear HR
    generalize ctg at' many N = v at *
    rcases hx with ⟨rfl, rfl⟩ | ⟨rfl, rfl⟩ | ⟨rfl, rfl⟩
    · go_wp2_with fail
      rw [rounds_succ]
      go_wp2_with fail
      go_ret
      exact ⟨rfl, N0.out.trans H5.out⟩
    · go_wp2_with fail
      go_ret
      exact ⟨rfl, N0.out.trans H5.out⟩
    · go_wp2_with fail
      go_ret
      exact ⟨rfl, N0.out.trans H5.out⟩
end Go.Proofs.YtdiamajkfbejhaaDoor
