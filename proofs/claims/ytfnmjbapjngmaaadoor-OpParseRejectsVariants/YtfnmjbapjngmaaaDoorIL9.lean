/- The walk of OpParseRejectsVariants. Conditions: the listed package-level variables hold what the program's text lays. -/
import Derived.Test.YtfnmjbapjngmaaaDoorIQF
import Derived.Test.YtfnmjbapjngmaaaDoorILV
import Derived.Test.YtfnmjbapjngmaaaDoorIQD
namespace Go.Proofs.YtfnmjbapjngmaaaDoor
open Go.RowKit

theorem lsp_step (l : List UInt8) (k : Nat) (c : UInt8) (h : l[k]? = some c) : lsp l (k + 1) = if c = 32 then k else lsp l k := by
  rw [lsp, h]
  by_cases hc : c = 32
  · rw [if_pos hc, if_pos (by rw [hc])]
  · rw [if_neg hc, if_neg (fun e => hc (Option.some.inj e))]
/-- The six texts. -/
def odd (T : ByteArray) (j : Int) : ByteArray :=
  if j = 0 then T ++ ⟨#[32]⟩ else if j = 1 then ⟨#[32]⟩ ++ T else if j = 2 then T ++ ⟨#[32, 48]⟩ else if j = 3 then T.extract 0 (lsp (B T) T.size) else if j = 4 then ⟨#[88]⟩ ++ T else T ++ ⟨#[120]⟩
theorem odd_none {o k n N : Int} (h : has (frm o) k n N) (j : Int) (hj : 0 ≤ j ∧ j ≤ 5) : opP (B (odd (opT o k n N) j)) = none := by
  unfold odd
  rcases (by omega : j = 0 ∨ j = 1 ∨ j = 2 ∨ j = 3 ∨ j = 4 ∨ j = 5) with rfl | rfl | rfl | rfl | rfl | rfl
  · rw [if_pos rfl, B_append]; exact v_tail h [] (by simp)
  · rw [if_neg (by decide), if_pos rfl, B_append]; exact v_front _
  · rw [if_neg (by decide), if_neg (by decide), if_pos rfl, B_append]; exact v_tail h [48] (by decide)
  · rw [if_neg (by decide), if_neg (by decide), if_neg (by decide), if_pos rfl]
    have e := B_ext (opT o k n N) 0 (lsp (B (opT o k n N)) (opT o k n N).size)
    have e2 : B ((opT o k n N).extract 0 (lsp (B (opT o k n N)) (opT o k n N).size)) = (B (opT o k n N)).take (lsp (B (opT o k n N)) (opT o k n N).size) := e
    rw [e2, ← size_B]
    exact v_cut h
  · rw [if_neg (by decide), if_neg (by decide), if_neg (by decide), if_neg (by decide), if_pos rfl, B_append]; exact v_letter h
  · rw [if_neg (by decide), if_neg (by decide), if_neg (by decide), if_neg (by decide), if_neg (by decide), B_append]; exact v_end h
theorem odd_size (T : ByteArray) (j : Int) : (odd T j).size ≤ T.size + 2 := by
  have s1 : (ByteArray.mk #[32]).size = 1 := rfl
  have s2 : (ByteArray.mk #[32, 48]).size = 2 := rfl
  have s3 : (ByteArray.mk #[88]).size = 1 := rfl
  have s4 : (ByteArray.mk #[120]).size = 1 := rfl
  unfold odd
  split
  · rw [ByteArray.size_append]; omega
  · split
    · rw [ByteArray.size_append]; omega
    · split
      · rw [ByteArray.size_append]; omega
      · split
        · rw [ByteArray.size_extract]; omega
        · split
          · rw [ByteArray.size_append]; omega
          · rw [ByteArray.size_append]; omega
theorem odd_ne (T : ByteArray) (hT : T.size ≠ 0) (j : Int) : B (odd T j) ≠ B T := by
  have s1 : (ByteArray.mk #[32]).size = 1 := rfl
  have s2 : (ByteArray.mk #[32, 48]).size = 2 := rfl
  have s3 : (ByteArray.mk #[88]).size = 1 := rfl
  have s4 : (ByteArray.mk #[120]).size = 1 := rfl
  have hl := lsp_lt (B T) T.size (by omega)
  intro e
  have e2 : (odd T j).size = T.size := by rw [← size_B, ← size_B, e]
  unfold odd at e2
  split at e2
  · rw [ByteArray.size_append] at e2; omega
  · split at e2
    · rw [ByteArray.size_append] at e2; omega
    · split at e2
      · rw [ByteArray.size_append] at e2; omega
      · split at e2
        · rw [ByteArray.size_extract] at e2; omega
        · split at e2
          · rw [ByteArray.size_append] at e2; omega
          · rw [ByteArray.size_append] at e2; omega

set_option maxHeartbeats 6400000 in
set_option maxRecDepth 100000 in
theorem law9 (o k n N h : Int) (hh : 0 ≤ h ∧ h ≤ 255) (w : World) (he : Ev w) : Calls Tryd.prog 9 #[.agg #[.int .i64 o, .int .i64 k, .int .i64 n, .int .i64 N], .int .u8 h] w fun e w' => e = .returned (.bool true) ∧ Nx w w' := by
  have HE := Lib.hid he
  clear he
  have F1 := Lib.hid (opFormat_any o k n N)
  have N1 := Lib.hid (Nx.one w (.cells #[.int .i64 o, .int .i64 k, .int .i64 n, .int .i64 N] 35))
  by_cases hz : (opT o k n N).size = 0
  · have et := isEmpty_yes _ hz
    generalize opT o k n N = T at *
    go_enter Tryd.func9, Tryd.ntmps9
    go_wp2_with fail
    refine (F1.out _ (HE.out.nx N1.out)).mono ?_
    rintro e w1 ⟨rfl, q1⟩
    have H1 := Lib.hid (N1.out.trans q1)
    go_wp2_with fail
    refine (alive_any _ (HE.out.nx H1.out)).mono ?_
    rintro e w2 ⟨rfl, q2⟩
    go_wp2
    go_ret
    exact ⟨rfl, H1.out.trans q2⟩
  have et := isEmpty_no _ hz
  have HH := Lib.hid (has_of hz)
  have hsz := opT_size o k n N
  have ON := Lib.hid (fun j hj => odd_none HH.out j hj)
  have hp0 : 0 < (opT o k n N).size := by omega
  clear HH
  obtain ⟨hh0, hh1⟩ := hh
  generalize opT o k n N = T at *
  go_enter Tryd.func9, Tryd.ntmps9
  go_wp2_with fail
  refine (F1.out _ (HE.out.nx N1.out)).mono ?_
  rintro e w1 ⟨rfl, q1⟩
  have H1 := Lib.hid (N1.out.trans q1)
  clear q1 F1 N1
  go_wp2
  go_loopw [6, 18] (fun c i wr => ∃ k : Nat, k ≤ T.size ∧ i = .int .i64 k ∧ c = .int .i64 (lsp (B T) k) ∧ wr = w1) (fun _ i _ => T.size - (intOf i).toNat)
  case atStart => exact ⟨0, Nat.zero_le _, rfl, rfl, rfl⟩
  case round =>
    obtain ⟨k, hk, rfl, rfl, rfl⟩ := hrel
    by_cases hlt : k < T.size
    · have hst := lsp_step (B T) k T[k] (by rw [List.getElem?_eq_getElem (by rw [size_B]; exact hlt), getB T k hlt])
      by_cases hc : T[k] = 32
      · rw [if_pos hc] at hst
        have e0 : ((T[k].toNat : Int) == 32) = true := by rw [hc]; rfl
        have HS := Lib.hid hst
        clear hst hc
        go_wp2
        go_roundw
        case rel => exact ⟨k + 1, by omega, by go_num, by rw [HS.out], by first | exact rfl | exact trivial⟩
        case measure => simp [intOf]; omega
      · rw [if_neg hc] at hst
        have e0 : ((T[k].toNat : Int) == 32) = false := by
          rw [beq_eq_false_iff_ne]; intro e
          exact hc (UInt8.toNat.inj (by show T[k].toNat = 32; omega))
        have HS := Lib.hid hst
        clear hst hc
        go_wp2
        go_roundw
        case rel => exact ⟨k + 1, by omega, by go_num, by rw [HS.out], by first | exact rfl | exact trivial⟩
        case measure => simp [intOf]; omega
    · obtain rfl : k = T.size := by omega
      have hlw := lsp_lt (B T) T.size hp0
      have hlw0 : ((lsp (B T) T.size : Nat) : Int) ≤ (T.size : Int) := by omega
      have P1 := Lib.hid (fun j (w : World) (he : Ev w) => opParse_any (odd T j) (Nat.le_trans (odd_size T j) (by omega)) w he)
      have NE := Lib.hid (fun j => odd_ne T (by omega) j)
      have s1 : ∀ w : World, (Op.stringOp .add T ⟨#[32]⟩).run Tryd.prog w = .ok (.string (T ++ ⟨#[32]⟩)) w := fun w => run_string_add_sum w _ _ (by show T.size + 1 ≤ _; omega)
      have s2 : ∀ w : World, (Op.stringOp .add ⟨#[32]⟩ T).run Tryd.prog w = .ok (.string (⟨#[32]⟩ ++ T)) w := fun w => run_string_add_sum w _ _ (by show 1 + T.size ≤ _; omega)
      have s3 : ∀ w : World, (Op.stringOp .add T ⟨#[32, 48]⟩).run Tryd.prog w = .ok (.string (T ++ ⟨#[32, 48]⟩)) w := fun w => run_string_add_sum w _ _ (by show T.size + 2 ≤ _; omega)
      have s4 : ∀ w : World, (Op.stringOp .add ⟨#[88]⟩ T).run Tryd.prog w = .ok (.string (⟨#[88]⟩ ++ T)) w := fun w => run_string_add_sum w _ _ (by show 1 + T.size ≤ _; omega)
      have s5 : ∀ w : World, (Op.stringOp .add T ⟨#[120]⟩).run Tryd.prog w = .ok (.string (T ++ ⟨#[120]⟩)) w := fun w => run_string_add_sum w _ _ (by show T.size + 1 ≤ _; omega)
      have hj : h % 6 = 0 ∨ h % 6 = 1 ∨ h % 6 = 2 ∨ h % 6 = 3 ∨ h % 6 = 4 ∨ h % 6 = 5 := by omega
      have ht : h.tmod 6 = h % 6 := Int.tmod_eq_emod_of_nonneg hh0
      rcases hj with hj | hj | hj | hj | hj | hj
      · have hx : odd T 0 = T ++ ⟨#[32]⟩ := rfl
        have P := P1.out 0
        rw [ON.out 0 ⟨by decide, by decide⟩, hx] at P
        have HP := Lib.hid P
        change Hid (∀ w, Ev w → Calls _ _ _ w fun e w' => e = .returned (.tuple #[.agg #[.int .i64 0, .int .i64 0, .int .i64 0, .int .i64 0], .int .i64 6]) ∧ Nx w w') at HP
        have en := eq_no (NE.out 0)
        rw [hx] at en
        clear P P1 NE ON hx
        go_wp2_with fail
        refine (HP.out _ (HE.out.nx (H1.out.trans (Nx.one _ _)))).mono ?_
        rintro e w3 ⟨rfl, q3⟩
        have H3 := Lib.hid ((H1.out.trans ((Nx.one _ _).trans q3)).trans (Nx.one w3 (.cells #[.int .i64 0, .int .i64 0, .int .i64 0, .int .i64 0] 35)))
        have Y3 := Lib.hid (bx_new w3 35 [.int .i64 0, .int .i64 0, .int .i64 0, .int .i64 0])
        clear q3
        go_wp2_with fail
        generalize w3.alloc (.cells #[.int .i64 0, .int .i64 0, .int .i64 0, .int .i64 0] 35) = w4 at *
        refine (alive_any _ (HE.out.nx H3.out)).mono ?_
        rintro e w5 ⟨rfl, q5⟩
        have y0 := (Y3.out.nx q5).cell 0 rfl
        have y1 := (Y3.out.nx q5).cell 1 rfl
        have y2 := (Y3.out.nx q5).cell 2 rfl
        have y3 := (Y3.out.nx q5).cell 3 rfl
        have H5 := Lib.hid (H3.out.trans q5)
        clear q5
        go_wp2
        go_ret
        exact ⟨rfl, H5.out⟩
      · have hx : odd T 1 = ⟨#[32]⟩ ++ T := rfl
        have P := P1.out 1
        rw [ON.out 1 ⟨by decide, by decide⟩, hx] at P
        have HP := Lib.hid P
        change Hid (∀ w, Ev w → Calls _ _ _ w fun e w' => e = .returned (.tuple #[.agg #[.int .i64 0, .int .i64 0, .int .i64 0, .int .i64 0], .int .i64 6]) ∧ Nx w w') at HP
        have en := eq_no (NE.out 1)
        rw [hx] at en
        clear P P1 NE ON hx
        go_wp2_with fail
        refine (HP.out _ (HE.out.nx (H1.out.trans (Nx.one _ _)))).mono ?_
        rintro e w3 ⟨rfl, q3⟩
        have H3 := Lib.hid ((H1.out.trans ((Nx.one _ _).trans q3)).trans (Nx.one w3 (.cells #[.int .i64 0, .int .i64 0, .int .i64 0, .int .i64 0] 35)))
        have Y3 := Lib.hid (bx_new w3 35 [.int .i64 0, .int .i64 0, .int .i64 0, .int .i64 0])
        clear q3
        go_wp2_with fail
        generalize w3.alloc (.cells #[.int .i64 0, .int .i64 0, .int .i64 0, .int .i64 0] 35) = w4 at *
        refine (alive_any _ (HE.out.nx H3.out)).mono ?_
        rintro e w5 ⟨rfl, q5⟩
        have y0 := (Y3.out.nx q5).cell 0 rfl
        have y1 := (Y3.out.nx q5).cell 1 rfl
        have y2 := (Y3.out.nx q5).cell 2 rfl
        have y3 := (Y3.out.nx q5).cell 3 rfl
        have H5 := Lib.hid (H3.out.trans q5)
        clear q5
        go_wp2
        go_ret
        exact ⟨rfl, H5.out⟩
      · have hx : odd T 2 = T ++ ⟨#[32, 48]⟩ := rfl
        have P := P1.out 2
        rw [ON.out 2 ⟨by decide, by decide⟩, hx] at P
        have HP := Lib.hid P
        change Hid (∀ w, Ev w → Calls _ _ _ w fun e w' => e = .returned (.tuple #[.agg #[.int .i64 0, .int .i64 0, .int .i64 0, .int .i64 0], .int .i64 6]) ∧ Nx w w') at HP
        have en := eq_no (NE.out 2)
        rw [hx] at en
        clear P P1 NE ON hx
        go_wp2_with fail
        refine (HP.out _ (HE.out.nx (H1.out.trans (Nx.one _ _)))).mono ?_
        rintro e w3 ⟨rfl, q3⟩
        have H3 := Lib.hid ((H1.out.trans ((Nx.one _ _).trans q3)).trans (Nx.one w3 (.cells #[.int .i64 0, .int .i64 0, .int .i64 0, .int .i64 0] 35)))
        have Y3 := Lib.hid (bx_new w3 35 [.int .i64 0, .int .i64 0, .int .i64 0, .int .i64 0])
        clear q3
        go_wp2_with fail
        generalize w3.alloc (.cells #[.int .i64 0, .int .i64 0, .int .i64 0, .int .i64 0] 35) = w4 at *
        refine (alive_any _ (HE.out.nx H3.out)).mono ?_
        rintro e w5 ⟨rfl, q5⟩
        have y0 := (Y3.out.nx q5).cell 0 rfl
        have y1 := (Y3.out.nx q5).cell 1 rfl
        have y2 := (Y3.out.nx q5).cell 2 rfl
        have y3 := (Y3.out.nx q5).cell 3 rfl
        have H5 := Lib.hid (H3.out.trans q5)
        clear q5
        go_wp2
        go_ret
        exact ⟨rfl, H5.out⟩
      · have hx : odd T 3 = T.extract 0 (lsp (B T) T.size) := rfl
        have P := P1.out 3
        rw [ON.out 3 ⟨by decide, by decide⟩, hx] at P
        have HP := Lib.hid P
        change Hid (∀ w, Ev w → Calls _ _ _ w fun e w' => e = .returned (.tuple #[.agg #[.int .i64 0, .int .i64 0, .int .i64 0, .int .i64 0], .int .i64 6]) ∧ Nx w w') at HP
        have en := eq_no (NE.out 3)
        rw [hx] at en
        clear P P1 NE ON hx
        go_wp2_with fail
        refine (HP.out _ (HE.out.nx (H1.out.trans (Nx.one _ _)))).mono ?_
        rintro e w3 ⟨rfl, q3⟩
        have H3 := Lib.hid ((H1.out.trans ((Nx.one _ _).trans q3)).trans (Nx.one w3 (.cells #[.int .i64 0, .int .i64 0, .int .i64 0, .int .i64 0] 35)))
        have Y3 := Lib.hid (bx_new w3 35 [.int .i64 0, .int .i64 0, .int .i64 0, .int .i64 0])
        clear q3
        go_wp2_with fail
        generalize w3.alloc (.cells #[.int .i64 0, .int .i64 0, .int .i64 0, .int .i64 0] 35) = w4 at *
        refine (alive_any _ (HE.out.nx H3.out)).mono ?_
        rintro e w5 ⟨rfl, q5⟩
        have y0 := (Y3.out.nx q5).cell 0 rfl
        have y1 := (Y3.out.nx q5).cell 1 rfl
        have y2 := (Y3.out.nx q5).cell 2 rfl
        have y3 := (Y3.out.nx q5).cell 3 rfl
        have H5 := Lib.hid (H3.out.trans q5)
        clear q5
        go_wp2
        go_ret
        exact ⟨rfl, H5.out⟩
      · have hx : odd T 4 = ⟨#[88]⟩ ++ T := rfl
        have P := P1.out 4
        rw [ON.out 4 ⟨by decide, by decide⟩, hx] at P
        have HP := Lib.hid P
        change Hid (∀ w, Ev w → Calls _ _ _ w fun e w' => e = .returned (.tuple #[.agg #[.int .i64 0, .int .i64 0, .int .i64 0, .int .i64 0], .int .i64 6]) ∧ Nx w w') at HP
        have en := eq_no (NE.out 4)
        rw [hx] at en
        clear P P1 NE ON hx
        go_wp2_with fail
        refine (HP.out _ (HE.out.nx (H1.out.trans (Nx.one _ _)))).mono ?_
        rintro e w3 ⟨rfl, q3⟩
        have H3 := Lib.hid ((H1.out.trans ((Nx.one _ _).trans q3)).trans (Nx.one w3 (.cells #[.int .i64 0, .int .i64 0, .int .i64 0, .int .i64 0] 35)))
        have Y3 := Lib.hid (bx_new w3 35 [.int .i64 0, .int .i64 0, .int .i64 0, .int .i64 0])
        clear q3
        go_wp2_with fail
        generalize w3.alloc (.cells #[.int .i64 0, .int .i64 0, .int .i64 0, .int .i64 0] 35) = w4 at *
        refine (alive_any _ (HE.out.nx H3.out)).mono ?_
        rintro e w5 ⟨rfl, q5⟩
        have y0 := (Y3.out.nx q5).cell 0 rfl
        have y1 := (Y3.out.nx q5).cell 1 rfl
        have y2 := (Y3.out.nx q5).cell 2 rfl
        have y3 := (Y3.out.nx q5).cell 3 rfl
        have H5 := Lib.hid (H3.out.trans q5)
        clear q5
        go_wp2
        go_ret
        exact ⟨rfl, H5.out⟩
      · have hx : odd T 5 = T ++ ⟨#[120]⟩ := rfl
        have P := P1.out 5
        rw [ON.out 5 ⟨by decide, by decide⟩, hx] at P
        have HP := Lib.hid P
        change Hid (∀ w, Ev w → Calls _ _ _ w fun e w' => e = .returned (.tuple #[.agg #[.int .i64 0, .int .i64 0, .int .i64 0, .int .i64 0], .int .i64 6]) ∧ Nx w w') at HP
        have en := eq_no (NE.out 5)
        rw [hx] at en
        clear P P1 NE ON hx
        go_wp2_with fail
        refine (HP.out _ (HE.out.nx (H1.out.trans (Nx.one _ _)))).mono ?_
        rintro e w3 ⟨rfl, q3⟩
        have H3 := Lib.hid ((H1.out.trans ((Nx.one _ _).trans q3)).trans (Nx.one w3 (.cells #[.int .i64 0, .int .i64 0, .int .i64 0, .int .i64 0] 35)))
        have Y3 := Lib.hid (bx_new w3 35 [.int .i64 0, .int .i64 0, .int .i64 0, .int .i64 0])
        clear q3
        go_wp2_with fail
        generalize w3.alloc (.cells #[.int .i64 0, .int .i64 0, .int .i64 0, .int .i64 0] 35) = w4 at *
        refine (alive_any _ (HE.out.nx H3.out)).mono ?_
        rintro e w5 ⟨rfl, q5⟩
        have y0 := (Y3.out.nx q5).cell 0 rfl
        have y1 := (Y3.out.nx q5).cell 1 rfl
        have y2 := (Y3.out.nx q5).cell 2 rfl
        have y3 := (Y3.out.nx q5).cell 3 rfl
        have H5 := Lib.hid (H3.out.trans q5)
        clear q5
        go_wp2
        go_ret
        exact ⟨rfl, H5.out⟩
end Go.Proofs.YtfnmjbapjngmaaaDoor
