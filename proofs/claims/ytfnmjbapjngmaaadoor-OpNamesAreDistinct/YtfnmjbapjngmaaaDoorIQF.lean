/- The examples of the chapter hold. Conditions: the listed package-level variables hold what the program's text lays. -/
import Derived.Test.YtfnmjbapjngmaaaDoorIQ8
import Derived.Test.YtfnmjbapjngmaaaDoorIQC
namespace Go.Proofs.YtfnmjbapjngmaaaDoor
open Go.RowKit

theorem dec3 : dec 3 = ⟨#[51]⟩ := by unfold dec; rw [Lib.decDigits_one (by decide)]; rfl
theorem dec2 : dec 2 = ⟨#[50]⟩ := by unfold dec; rw [Lib.decDigits_one (by decide)]; rfl
theorem fmt03 : fmtS 0 3 = ⟨#[73, 51]⟩ := by
  unfold fmtS; rw [if_pos (by decide)]
  show lt 0 ++ dec 3 = _
  rw [dec3]
  exact B_inj (by rw [B_append]; rfl)
theorem fnum2 : fnum 2 = ⟨#[50]⟩ := by
  unfold fnum; rw [if_neg (by decide)]
  exact dec2
theorem ex1 : opT 6 0 3 2 = ⟨#[114, 105, 115, 101, 32, 73, 51, 32, 50]⟩ := by
  rw [opG_eq 6 0 3 2 2 (by decide) (by decide) (by decide)]
  unfold opG
  rw [if_neg (by decide), if_neg (by decide), if_pos rfl, fmt03, fnum2, if_neg (by decide), if_neg (by decide)]
  exact B_inj (by simp only [B_append]; rfl)
theorem ex2 : opT 8 0 0 0 = ⟨#[112, 117, 115, 104]⟩ := by
  rw [opG_eq 8 0 0 0 0 (by decide) (by decide) (by decide)]
  unfold opG
  rw [if_pos rfl]
  rfl
theorem ex3 : opP (B ⟨#[106, 109, 112, 99, 32, 55]⟩) = some (15, 0, 0, 7) := by decide +kernel

set_option maxHeartbeats 1600000 in
set_option maxRecDepth 100000 in
theorem alive_any (w : World) (he : Ev w) : Calls Tryd.prog 13 #[] w fun e w' => e = .returned (.bool true) ∧ Nx w w' := by
  have HE := Lib.hid he
  have P := Lib.hid (opParse_any ⟨#[106, 109, 112, 99, 32, 55]⟩ (by decide) w he)
  rw [ex3] at P
  change Hid (Calls _ _ _ w fun e w' => e = .returned (.tuple #[.agg #[.int .i64 15, .int .i64 0, .int .i64 0, .int .i64 7], .int .i64 0]) ∧ Nx w w') at P
  have F1 := Lib.hid (fun w => opFormat_any 6 0 3 2 w)
  have F2 := Lib.hid (fun w => opFormat_any 8 0 0 0 w)
  rw [ex1] at F1
  rw [ex2] at F2
  clear he
  go_enter Tryd.func13, Tryd.ntmps13
  go_wp2_with fail
  refine P.out.mono ?_
  rintro e w1 ⟨rfl, q1⟩
  have H1 := Lib.hid (q1.trans (Nx.one w1 (.cells #[.int .i64 15, .int .i64 0, .int .i64 0, .int .i64 7] 35)))
  have XB := Lib.hid (bx_new w1 35 [.int .i64 15, .int .i64 0, .int .i64 0, .int .i64 7])
  clear q1 P
  go_wp2_with fail
  generalize w1.alloc (.cells #[.int .i64 15, .int .i64 0, .int .i64 0, .int .i64 7] 35) = w2 at *
  generalize w1.heap.size = xb at *
  refine (F1.out _ (HE.out.nx H1.out)).mono ?_
  rintro e w3 ⟨rfl, q3⟩
  have H3 := Lib.hid (H1.out.trans q3)
  have X3 := Lib.hid (XB.out.nx q3)
  clear q3 H1 XB F1
  have c0 := X3.out.cell 0 rfl
  have c1 := X3.out.cell 1 rfl
  have c2 := X3.out.cell 2 rfl
  have c3 := X3.out.cell 3 rfl
  go_wp2_with fail
  refine (F2.out _ (HE.out.nx H3.out)).mono ?_
  rintro e w4 ⟨rfl, q4⟩
  have H4 := Lib.hid (H3.out.trans q4)
  clear q4
  go_wp2
  go_ret
  exact ⟨rfl, H4.out⟩
end Go.Proofs.YtfnmjbapjngmaaaDoor
