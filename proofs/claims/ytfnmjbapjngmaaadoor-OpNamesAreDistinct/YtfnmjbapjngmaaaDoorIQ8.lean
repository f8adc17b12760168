/- What Format of layer 4 returns. Conditions: the listed package-level variables hold what the program's text lays. -/
import Derived.Test.YtfnmjbapjngmaaaDoorIQ7
namespace Go.Proofs.YtfnmjbapjngmaaaDoor
open Go.RowKit

set_option maxHeartbeats 3200000 in
set_option maxRecDepth 100000 in
theorem opFormat_any (o k n N : Int) (w : World) (he : Ev w) :
    Calls Tryd.prog 19 #[.agg #[.int .i64 o, .int .i64 k, .int .i64 n, .int .i64 N]] w fun r w' => r = .returned (.string (opT o k n N)) ∧ Nx w w' := by
  have FM := Lib.hid (opForm_any o)
  have NM := Lib.hid (opName_any o)
  have CA := Lib.hid (addrText_any o k n N)
  have CN := Lib.hid (numText_any o k n N)
  have HE := Lib.hid he
  clear he
  have HI := Lib.hid (op_in o)
  have NO := Lib.hid (opT_no o k n N)
  have YES := Lib.hid (opG_eq o k n N)
  have z1 := mnem_size o
  have z2 := fmtS_size k n
  have z3 := fnum_size N
  unfold opG at YES
  obtain ⟨R, hR⟩ : ∃ R, opT o k n N = R := ⟨_, rfl⟩
  rw [hR] at NO YES ⊢
  clear hR
  generalize frm o = f at *
  generalize mnem o = mn at *
  generalize fmtS k n = fs at *
  generalize fnum N = fn at *
  generalize isOp o = b at *
  have N0 := Lib.hid (show Nx w (w.alloc (.cells #[.int .i64 o, .int .i64 k, .int .i64 n, .int .i64 N] 35)) from Nx.one _ _)
  have XI := Lib.hid (bx_new w 35 [.int .i64 o, .int .i64 k, .int .i64 n, .int .i64 N])
  have sp : (ByteArray.mk #[32]).size = 1 := rfl
  have s1 : ∀ w : World, (Op.stringOp .add ⟨#[32]⟩ fs).run Tryd.prog w = .ok (.string (⟨#[32]⟩ ++ fs)) w := fun w => run_string_add_sum w _ _ (by omega)
  have y1 : (⟨#[32]⟩ ++ fs).size ≤ 31 := by rw [ByteArray.size_append]; omega
  have s2 : ∀ w : World, (Op.stringOp .add mn (⟨#[32]⟩ ++ fs)).run Tryd.prog w = .ok (.string (mn ++ (⟨#[32]⟩ ++ fs))) w := fun w => run_string_add_sum w _ _ (by omega)
  have y2 : (mn ++ (⟨#[32]⟩ ++ fs)).size ≤ 35 := by rw [ByteArray.size_append]; omega
  have s3 : ∀ w : World, (Op.stringOp .add ⟨#[32]⟩ fn).run Tryd.prog w = .ok (.string (⟨#[32]⟩ ++ fn)) w := fun w => run_string_add_sum w _ _ (by omega)
  have y3 : (⟨#[32]⟩ ++ fn).size ≤ 21 := by rw [ByteArray.size_append]; omega
  have s4 : ∀ w : World, (Op.stringOp .add mn (⟨#[32]⟩ ++ fn)).run Tryd.prog w = .ok (.string (mn ++ (⟨#[32]⟩ ++ fn))) w := fun w => run_string_add_sum w _ _ (by omega)
  have s5 : ∀ w : World, (Op.stringOp .add (mn ++ (⟨#[32]⟩ ++ fs)) (⟨#[32]⟩ ++ fn)).run Tryd.prog w = .ok (.string (mn ++ (⟨#[32]⟩ ++ fs) ++ (⟨#[32]⟩ ++ fn))) w := fun w => run_string_add_sum w _ _ (by omega)
  clear y1 y2 y3 z1 z2 z3 sp
  have W1 := Lib.hid (isEmpty_yes fs)
  have W2 := Lib.hid (isEmpty_no fs)
  have V1 := Lib.hid (isEmpty_yes fn)
  have V2 := Lib.hid (isEmpty_no fn)
  generalize ht1 : ByteArray.mk #[32] ++ fs = t1 at *
  generalize ht2 : mn ++ t1 = t2 at *
  generalize ht3 : ByteArray.mk #[32] ++ fn = t3 at *
  generalize ht4 : mn ++ t3 = t4 at *
  generalize ht5 : t2 ++ t3 = t5 at *
  clear ht1 ht2 ht3 ht4 ht5
  go_enter Tryd.func19, Tryd.ntmps19
  go_wp2_with fail
  generalize hh0 : w.heap.size = h0 at *
  generalize w.alloc (.cells #[.int .i64 o, .int .i64 k, .int .i64 n, .int .i64 N] 35) = W at *
  have HS := Lib.hid (show ∀ w', Nx W w' → (w'.cell? ⟨h0, 0, none⟩ = some (.int .i64 o) ∧ w'.cell? ⟨h0, 1, none⟩ = some (.int .i64 k) ∧ w'.cell? ⟨h0, 2, none⟩ = some (.int .i64 n) ∧ w'.cell? ⟨h0, 3, none⟩ = some (.int .i64 N)) from fun w' h =>
    ⟨(XI.out.nx h).cell 0 rfl, (XI.out.nx h).cell 1 rfl, (XI.out.nx h).cell 2 rfl, (XI.out.nx h).cell 3 rfl⟩)
  clear XI hh0
  refine (FM.out _ (HE.out.nx N0.out)).mono ?_
  rintro r w' ⟨rfl, rfl⟩
  rcases HI.out with ⟨rfl, hf⟩ | ⟨rfl, rfl⟩
  rotate_left
  · have e := NO.out (Or.inl rfl)
    subst e
    go_wp2
    go_ret
    exact ⟨rfl, N0.out⟩
  clear HI FM
  rcases hf with rfl | rfl | rfl | rfl | rfl
  · go_wp2_with fail
    refine (operandsOf_0 _).mono ?_
    rintro r w' ⟨rfl, rfl⟩
    have H3 := Lib.hid (Nx.refl W)
    obtain ⟨a5, a6, a7, a8⟩ := HS.out W H3.out
    go_wp2_with fail
    refine (hasOnly_0 o k n N _).mono ?_
    rintro r w4 ⟨rfl, q4⟩
    have H4 := Lib.hid (H3.out.trans q4)
    clear a5 a6 a7 a8 q4
    cases hcl : cln 0 k n N
    · have e := NO.out (Or.inr hcl)
      subst e
      go_wp2
      go_ret
      exact ⟨rfl, N0.out.trans H4.out⟩
    have HR := Lib.hid (YES.out 0 (by decide) rfl hcl)
    clear hcl NO YES
    obtain ⟨a5, a6, a7, a8⟩ := HS.out w4 H4.out
    go_wp2_with fail
    refine (NM.out _ (HE.out.nx (N0.out.trans H4.out))).mono ?_
    rintro r w' ⟨rfl, rfl⟩
    rw [if_pos trivial]
    go_wp2_with fail
    clear a5 a6 a7 a8
    refine wp_loop_rounds 1 ?_
    rw [rounds_succ]
    go_wp2_with fail
    go_ret
    exact ⟨by rw [HR.out]; rfl, N0.out.trans H4.out⟩
  · go_wp2_with fail
    refine (operandsOf_1 _).mono ?_
    rintro r w3 ⟨g, rfl, hbx, hg, q3⟩
    have H3 := Lib.hid q3
    have HB := Lib.hid hbx
    clear hbx hg q3
    obtain ⟨a5, a6, a7, a8⟩ := HS.out w3 H3.out
    go_wp2_with fail
    refine (hasOnly_1 g 37 o k n N _ HB.out).mono ?_
    rintro r w4 ⟨rfl, q4⟩
    have H4 := Lib.hid (H3.out.trans q4)
    have HB4 := Lib.hid (HB.out.nx q4)
    clear a5 a6 a7 a8 q4
    cases hcl : cln 1 k n N
    · have e := NO.out (Or.inr hcl)
      subst e
      go_wp2
      go_ret
      exact ⟨rfl, N0.out.trans H4.out⟩
    have HR := Lib.hid (YES.out 1 (by decide) rfl hcl)
    clear hcl NO YES
    obtain ⟨a5, a6, a7, a8⟩ := HS.out w4 H4.out
    go_wp2_with fail
    refine (NM.out _ (HE.out.nx (N0.out.trans H4.out))).mono ?_
    rintro r w' ⟨rfl, rfl⟩
    rw [if_pos trivial]
    go_wp2_with fail
    clear a5 a6 a7 a8
    refine wp_loop_rounds 2 ?_
    have d0 := HB4.out.cell 0 rfl
    have d1 := HB4.out.cell 1 rfl
    have d2 := HB4.out.cell 2 rfl
    have d3 := HB4.out.cell 3 rfl
    obtain ⟨a5, a6, a7, a8⟩ := HS.out _ (H4.out.trans (Nx.one w4 (.cells #[fv 44, fv 37, fv 45, fv 47] 62)))
    rw [rounds_succ]
    go_wp2_with fail
    refine (CA.out _ (HE.out.nx (N0.out.trans (H4.out.trans (Nx.one w4 (.cells #[fv 44, fv 37, fv 45, fv 47] 62))))).e).mono ?_
    rintro r w5 ⟨rfl, q5⟩
    have H5 := Lib.hid (H4.out.trans (Nx.trans (Nx.one w4 (.cells #[fv 44, fv 37, fv 45, fv 47] 62)) q5))
    clear d0 d1 d2 d3 a5 a6 a7 a8 q5
    by_cases hz : fs.size = 0
    · have e := W1.out hz
      go_wp2_with fail
      go_ret
      exact ⟨by rw [HR.out]; simp [hz], N0.out.trans H5.out⟩
    · have e := W2.out hz
      go_wp2_with fail
      rw [rounds_succ]
      go_wp2_with fail
      go_ret
      exact ⟨by rw [HR.out]; simp [hz], N0.out.trans H5.out⟩
  · go_wp2_with fail
    refine (operandsOf_2 _).mono ?_
    rintro r w3 ⟨g, rfl, hbx, hg, q3⟩
    have H3 := Lib.hid q3
    have HB := Lib.hid hbx
    clear hbx hg q3
    obtain ⟨a5, a6, a7, a8⟩ := HS.out w3 H3.out
    go_wp2_with fail
    refine (hasOnly_2 g 37 39 o k n N _ HB.out).mono ?_
    rintro r w4 ⟨rfl, q4⟩
    have H4 := Lib.hid (H3.out.trans q4)
    have HB4 := Lib.hid (HB.out.nx q4)
    clear a5 a6 a7 a8 q4
    cases hcl : cln 2 k n N
    · have e := NO.out (Or.inr hcl)
      subst e
      go_wp2
      go_ret
      exact ⟨rfl, N0.out.trans H4.out⟩
    have HR := Lib.hid (YES.out 2 (by decide) rfl hcl)
    clear hcl NO YES
    obtain ⟨a5, a6, a7, a8⟩ := HS.out w4 H4.out
    go_wp2_with fail
    refine (NM.out _ (HE.out.nx (N0.out.trans H4.out))).mono ?_
    rintro r w' ⟨rfl, rfl⟩
    rw [if_pos trivial]
    go_wp2_with fail
    clear a5 a6 a7 a8
    refine wp_loop_rounds 3 ?_
    have d0 := HB4.out.cell 0 rfl
    have d1 := HB4.out.cell 1 rfl
    have d2 := HB4.out.cell 2 rfl
    have d3 := HB4.out.cell 3 rfl
    obtain ⟨a5, a6, a7, a8⟩ := HS.out _ (H4.out.trans (Nx.one w4 (.cells #[fv 44, fv 37, fv 45, fv 47] 62)))
    rw [rounds_succ]
    go_wp2_with fail
    refine (CA.out _ (HE.out.nx (N0.out.trans (H4.out.trans (Nx.one w4 (.cells #[fv 44, fv 37, fv 45, fv 47] 62))))).e).mono ?_
    rintro r w5 ⟨rfl, q5⟩
    have hq := Nx.trans (Nx.one w4 (.cells #[fv 44, fv 37, fv 45, fv 47] 62)) q5
    have H5 := Lib.hid (H4.out.trans hq)
    have HB5 := Lib.hid (HB4.out.nx hq)
    clear d0 d1 d2 d3 a5 a6 a7 a8 q5 hq
    by_cases hz : fs.size = 0
    · have e := W1.out hz
      go_wp2_with fail
      go_ret
      exact ⟨by rw [HR.out]; simp [hz], N0.out.trans H5.out⟩
    have e := W2.out hz
    have HZ := Lib.hid hz
    clear hz
    go_wp2_with fail
    clear e
    have d0 := HB5.out.cell 4 rfl
    have d1 := HB5.out.cell 5 rfl
    have d2 := HB5.out.cell 6 rfl
    have d3 := HB5.out.cell 7 rfl
    obtain ⟨a5, a6, a7, a8⟩ := HS.out _ (H5.out.trans (Nx.one w5 (.cells #[fv 50, fv 39, fv 51, fv 53] 62)))
    rw [rounds_succ]
    go_wp2_with fail
    refine (CN.out _ (HE.out.nx (N0.out.trans (H5.out.trans (Nx.one w5 (.cells #[fv 50, fv 39, fv 51, fv 53] 62))))).e).mono ?_
    rintro r w6 ⟨rfl, q6⟩
    have H6 := Lib.hid (H5.out.trans (Nx.trans (Nx.one w5 (.cells #[fv 50, fv 39, fv 51, fv 53] 62)) q6))
    clear d0 d1 d2 d3 a5 a6 a7 a8 q6
    by_cases hz : fn.size = 0
    · have e := V1.out hz
      go_wp2_with fail
      go_ret
      exact ⟨by rw [HR.out]; simp [hz], N0.out.trans H6.out⟩
    · have e := V2.out hz
      have hz2 := HZ.out
      have HW := Lib.hid hz2
      clear hz2
      go_wp2_with fail
      rw [rounds_succ]
      go_wp2_with fail
      go_ret
      exact ⟨by rw [HR.out]; simp [hz, HW.out], N0.out.trans H6.out⟩
  · go_wp2_with fail
    refine (operandsOf_3 _).mono ?_
    rintro r w3 ⟨g, rfl, hbx, hg, q3⟩
    have H3 := Lib.hid q3
    have HB := Lib.hid hbx
    clear hbx hg q3
    obtain ⟨a5, a6, a7, a8⟩ := HS.out w3 H3.out
    go_wp2_with fail
    refine (hasOnly_3 g 40 o k n N _ HB.out).mono ?_
    rintro r w4 ⟨rfl, q4⟩
    have H4 := Lib.hid (H3.out.trans q4)
    have HB4 := Lib.hid (HB.out.nx q4)
    clear a5 a6 a7 a8 q4
    cases hcl : cln 3 k n N
    · have e := NO.out (Or.inr hcl)
      subst e
      go_wp2
      go_ret
      exact ⟨rfl, N0.out.trans H4.out⟩
    have HR := Lib.hid (YES.out 3 (by decide) rfl hcl)
    clear hcl NO YES
    obtain ⟨a5, a6, a7, a8⟩ := HS.out w4 H4.out
    go_wp2_with fail
    refine (NM.out _ (HE.out.nx (N0.out.trans H4.out))).mono ?_
    rintro r w' ⟨rfl, rfl⟩
    rw [if_pos trivial]
    go_wp2_with fail
    clear a5 a6 a7 a8
    refine wp_loop_rounds 2 ?_
    have d0 := HB4.out.cell 0 rfl
    have d1 := HB4.out.cell 1 rfl
    have d2 := HB4.out.cell 2 rfl
    have d3 := HB4.out.cell 3 rfl
    obtain ⟨a5, a6, a7, a8⟩ := HS.out _ (H4.out.trans (Nx.one w4 (.cells #[fv 44, fv 40, fv 45, fv 47] 62)))
    rw [rounds_succ]
    go_wp2_with fail
    refine (CA.out _ (HE.out.nx (N0.out.trans (H4.out.trans (Nx.one w4 (.cells #[fv 44, fv 40, fv 45, fv 47] 62))))).e).mono ?_
    rintro r w5 ⟨rfl, q5⟩
    have H5 := Lib.hid (H4.out.trans (Nx.trans (Nx.one w4 (.cells #[fv 44, fv 40, fv 45, fv 47] 62)) q5))
    clear d0 d1 d2 d3 a5 a6 a7 a8 q5
    by_cases hz : fs.size = 0
    · have e := W1.out hz
      go_wp2_with fail
      go_ret
      exact ⟨by rw [HR.out]; simp [hz], N0.out.trans H5.out⟩
    · have e := W2.out hz
      go_wp2_with fail
      rw [rounds_succ]
      go_wp2_with fail
      go_ret
      exact ⟨by rw [HR.out]; simp [hz], N0.out.trans H5.out⟩
  · go_wp2_with fail
    refine (operandsOf_4 _).mono ?_
    rintro r w3 ⟨g, rfl, hbx, hg, q3⟩
    have H3 := Lib.hid q3
    have HB := Lib.hid hbx
    clear hbx hg q3
    obtain ⟨a5, a6, a7, a8⟩ := HS.out w3 H3.out
    go_wp2_with fail
    refine (hasOnly_4 g 41 o k n N _ HB.out).mono ?_
    rintro r w4 ⟨rfl, q4⟩
    have H4 := Lib.hid (H3.out.trans q4)
    have HB4 := Lib.hid (HB.out.nx q4)
    clear a5 a6 a7 a8 q4
    cases hcl : cln 4 k n N
    · have e := NO.out (Or.inr hcl)
      subst e
      go_wp2
      go_ret
      exact ⟨rfl, N0.out.trans H4.out⟩
    have HR := Lib.hid (YES.out 4 (by decide) rfl hcl)
    clear hcl NO YES
    obtain ⟨a5, a6, a7, a8⟩ := HS.out w4 H4.out
    go_wp2_with fail
    refine (NM.out _ (HE.out.nx (N0.out.trans H4.out))).mono ?_
    rintro r w' ⟨rfl, rfl⟩
    rw [if_pos trivial]
    go_wp2_with fail
    clear a5 a6 a7 a8
    refine wp_loop_rounds 2 ?_
    have d0 := HB4.out.cell 0 rfl
    have d1 := HB4.out.cell 1 rfl
    have d2 := HB4.out.cell 2 rfl
    have d3 := HB4.out.cell 3 rfl
    obtain ⟨a5, a6, a7, a8⟩ := HS.out _ (H4.out.trans (Nx.one w4 (.cells #[fv 50, fv 41, fv 51, fv 53] 62)))
    rw [rounds_succ]
    go_wp2_with fail
    refine (CN.out _ (HE.out.nx (N0.out.trans (H4.out.trans (Nx.one w4 (.cells #[fv 50, fv 41, fv 51, fv 53] 62))))).e).mono ?_
    rintro r w5 ⟨rfl, q5⟩
    have H5 := Lib.hid (H4.out.trans (Nx.trans (Nx.one w4 (.cells #[fv 50, fv 41, fv 51, fv 53] 62)) q5))
    clear d0 d1 d2 d3 a5 a6 a7 a8 q5
    by_cases hz : fn.size = 0
    · have e := V1.out hz
      go_wp2_with fail
      go_ret
      exact ⟨by rw [HR.out]; simp [hz], N0.out.trans H5.out⟩
    · have e := V2.out hz
      go_wp2_with fail
      rw [rounds_succ]
      go_wp2_with fail
      go_ret
      exact ⟨by rw [HR.out]; simp [hz], N0.out.trans H5.out⟩
end Go.Proofs.YtfnmjbapjngmaaaDoor
