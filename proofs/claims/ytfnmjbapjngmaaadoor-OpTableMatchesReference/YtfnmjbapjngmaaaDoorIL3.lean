/- The walk of OpTableMatchesReference. Conditions: the listed package-level variables hold what the program's text lays. -/
import Derived.Test.YtfnmjbapjngmaaaDoorIQF
namespace Go.Proofs.YtfnmjbapjngmaaaDoor
open Go.RowKit

theorem isOp_frm (o : Int) : isOp o = decide (0 ≤ frm o) := by
  rcases op_in o with ⟨h, h1⟩ | ⟨h, h1⟩
  · rw [h]; symm; apply decide_eq_true; omega
  · rw [h, h1]; rfl
set_option maxHeartbeats 1600000 in
set_option maxRecDepth 100000 in
theorem law3 (o : Int) (w : World) (he : Ev w) : Calls Tryd.prog 3 #[.int .i64 o] w fun e w' => e = .returned (.bool true) ∧ Nx w w' := by
  have HE := Lib.hid he
  have FM := Lib.hid (opForm_any o w he)
  have RF := Lib.hid (refForm_any o)
  have NM := Lib.hid (opName_any o)
  clear he
  have hi := op_in o
  generalize hM : mnem o = M at *
  generalize hb : isOp o = b at *
  generalize hf : frm o = f at *
  rcases hi with ⟨rfl, h5⟩ | ⟨rfl, rfl⟩
  · have ho : 0 ≤ o ∧ o ≤ 16 := of_decide_eq_true hb
    have HN := Lib.hid (nmv_at ho)
    rw [hM] at HN
    have h0 : 0 ≤ f := by omega
    obtain ⟨k, rfl⟩ : ∃ k : Nat, o = (k : Int) := ⟨o.toNat, by omega⟩
    have hk : (k : Int) < 17 := by omega
    obtain ⟨p, rfl⟩ : ∃ p : Nat, f = (p : Int) := ⟨f.toNat, by omega⟩
    rw [if_pos rfl] at FM NM
    clear h5 ho hf hM hb
    go_enter Tryd.func3, Tryd.ntmps3
    go_wp2_with fail
    refine FM.out.mono ?_
    rintro e w' ⟨rfl, rfl⟩
    go_wp2_with fail
    refine (RF.out _).mono ?_
    rintro e w' ⟨rfl, rfl⟩
    go_wp2_with fail
    refine (refNames_any _).mono ?_
    rintro e w1 ⟨g, rfl, hbx, _, q1⟩
    have gc := hbx.cell k HN.out
    have Q1 := Lib.hid q1
    clear hbx q1
    go_wp2_with fail
    refine (alive_any _ (HE.out.nx Q1.out)).mono ?_
    rintro e w2 ⟨rfl, q2⟩
    have Q2 := Lib.hid (Q1.out.trans q2)
    clear q2 gc
    go_wp2_with fail
    refine (NM.out _ (HE.out.nx Q2.out)).mono ?_
    rintro e w' ⟨rfl, rfl⟩
    go_wp2
    all_goals go_ret
    exact ⟨rfl, Q2.out⟩
  · rw [if_neg (by decide)] at FM NM
    clear hM hb hf
    go_enter Tryd.func3, Tryd.ntmps3
    go_wp2_with fail
    refine FM.out.mono ?_
    rintro e w' ⟨rfl, rfl⟩
    go_wp2_with fail
    refine (RF.out _).mono ?_
    rintro e w' ⟨rfl, rfl⟩
    go_wp2_with fail
    refine (alive_any _ HE.out).mono ?_
    rintro e w2 ⟨rfl, q2⟩
    have Q2 := Lib.hid q2
    clear q2
    go_wp2_with fail
    refine (NM.out _ (HE.out.nx Q2.out)).mono ?_
    rintro e w' ⟨rfl, rfl⟩
    go_wp2
    all_goals go_ret
    exact ⟨rfl, Q2.out⟩
end Go.Proofs.YtfnmjbapjngmaaaDoor
