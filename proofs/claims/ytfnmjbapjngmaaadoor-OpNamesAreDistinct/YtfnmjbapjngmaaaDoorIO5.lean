/- What the reference's Format of layer 4 returns. Conditions: none. -/
import Derived.Test.YtfnmjbapjngmaaaDoorIO4
import Derived.Lib.ItoaLen
import Derived.Deep.RegionWith
namespace Go.Proofs.YtfnmjbapjngmaaaDoor
open Go.RowKit

theorem mnem_size (o : Int) : (mnem o).size ≤ 4 := by
  by_cases h : o.toNat < 17
  · have : ∀ m : Fin 17, (nms.getD m.val ⟨#[]⟩).size ≤ 4 := by decide
    exact this ⟨o.toNat, h⟩
  · unfold mnem
    have : nms[o.toNat]? = none := List.getElem?_eq_none (by show 17 ≤ o.toNat; omega)
    simp only [List.getD, this, Option.getD_none]
    decide
theorem dec_le (n : Nat) (h : n ≤ 65535) : (dec n).size ≤ 20 := by
  show (Lib.decDigits n).toArray.size ≤ 20
  rw [List.size_toArray, Lib.decDigits_length]
  exact Lib.nDigits_le20 n (by omega)
theorem fmtS_size (k n : Int) : (fmtS k n).size ≤ 30 := by
  unfold fmtS
  split
  · rw [ByteArray.size_append, lt_size]
    have := dec_le n.toNat (by omega)
    omega
  · decide

set_option maxHeartbeats 3200000 in
set_option maxRecDepth 100000 in
theorem refOpFormat_any (o k n N : Int) (w : World) : Calls Tryd.prog 20 #[.agg #[.int .i64 o, .int .i64 k, .int .i64 n, .int .i64 N]] w fun r w' => r = .returned (.string (opT o k n N)) ∧ Nx w w' := by
  have FM := Lib.hid (refForm_any o)
  have CL := Lib.hid (refClean_any o k n N)
  have hf := frm_in o
  have ho : frm o ≠ -1 → 0 ≤ o ∧ o ≤ 16 := by unfold frm; intro h; constructor <;> omega
  have HO := Lib.hid ho
  obtain ⟨R, hR⟩ : ∃ R, opT o k n N = R := ⟨_, rfl⟩
  rw [hR]
  unfold opT at hR
  generalize frm o = f at *
  generalize cln f k n N = cl at *
  have HR := Lib.hid hR
  have HF := Lib.hid hf
  clear hR hf ho
  have N0 := Lib.hid (show Nx w (w.alloc (.cells #[.int .i64 o, .int .i64 k, .int .i64 n, .int .i64 N] 35)) from Nx.one _ _)
  have XI := Lib.hid (bx_new w 35 [.int .i64 o, .int .i64 k, .int .i64 n, .int .i64 N])
  go_enter Tryd.func20, Tryd.ntmps20
  go_wp2_with fail
  refine (FM.out _).mono ?_
  rintro r w' ⟨rfl, rfl⟩
  have hF := HF.out
  by_cases hm : f = -1
  · subst hm
    go_wp2
    go_ret
    have e : R = ⟨#[]⟩ := by rw [← HR.out]; simp
    exact ⟨by rw [e]; rfl, N0.out⟩
  have hf0 : ¬ f < 0 := by omega
  have HM := Lib.hid hm
  clear hm hF
  go_wp2_with fail
  generalize hh0 : w.heap.size = h0 at *
  generalize w.alloc (.cells #[.int .i64 o, .int .i64 k, .int .i64 n, .int .i64 N] 35) = W at *
  refine (CL.out _).mono ?_
  rintro r w2 ⟨rfl, q2⟩
  have H2 := Lib.hid q2
  have HS := Lib.hid (show ∀ w', Nx W w' → (w'.cell? ⟨h0, 0, none⟩ = some (.int .i64 o) ∧ w'.cell? ⟨h0, 1, none⟩ = some (.int .i64 k) ∧ w'.cell? ⟨h0, 2, none⟩ = some (.int .i64 n) ∧ w'.cell? ⟨h0, 3, none⟩ = some (.int .i64 N)) from fun w' h => ⟨(XI.out.nx h).cell 0 rfl, (XI.out.nx h).cell 1 rfl, (XI.out.nx h).cell 2 rfl, (XI.out.nx h).cell 3 rfl⟩)
  clear q2 XI hh0
  obtain ⟨a5, a6, a7, a8⟩ := HS.out w2 H2.out
  cases cl
  · go_wp2
    go_ret
    have e : R = ⟨#[]⟩ := by rw [← HR.out]; simp
    exact ⟨by rw [e]; rfl, N0.out.trans H2.out⟩
  by_cases n0 : N < 0
  · go_wp2
    go_ret
    have e : R = ⟨#[]⟩ := by rw [← HR.out]; simp [n0]
    exact ⟨by rw [e]; rfl, N0.out.trans H2.out⟩
  by_cases n1 : 65535 < N
  · go_wp2
    go_ret
    have e : R = ⟨#[]⟩ := by rw [← HR.out]; simp [n1]
    exact ⟨by rw [e]; rfl, N0.out.trans H2.out⟩
  have HR2 := Lib.hid (show opF f o k n N = R by rw [← HR.out, if_neg]; rintro (h | h | h | h); exact HM.out h; cases h; exact n0 h; exact n1 h)
  clear HR
  obtain ⟨p, rfl, hp⟩ : ∃ p : Nat, o = (p : Int) ∧ p ≤ 16 := ⟨o.toNat, by have := HO.out HM.out; omega, by have := HO.out HM.out; omega⟩
  obtain ⟨u, rfl, hu⟩ : ∃ u : Nat, N = (u : Int) ∧ u ≤ 65535 := ⟨N.toNat, by omega, by omega⟩
  have HN := Lib.hid (show nmv[p]? = some (.string (mnem (p : Int))) from nmv_at (o := (p : Int)) ⟨by omega, by omega⟩)
  have z1 := mnem_size (p : Int)
  have z2 := fmtS_size k n
  have z3 := dec_le u hu
  have DC := Lib.hid (fun w => decimal_any u hu w)
  have FA := Lib.hid (aRefFormat_any k n)
  have hpb : (p : Int) < 17 := by omega
  unfold opF at HR2
  rw [show (u : Int).toNat = u from rfl] at HR2
  have sp : (ByteArray.mk #[32]).size = 1 := rfl
  change Hid (∀ w, Calls _ _ _ w fun e w' => e = .returned (.string (dec u)) ∧ Nx w w') at DC
  generalize mnem (p : Int) = mn at *
  generalize fmtS k n = fs at *
  generalize dec u = dc at *
  clear FM CL
  go_wp2_with fail
  go_cut [4] (fun a wx => a = .string mn ∧ Nx w2 wx)
  case first =>
    go_region_with (first | (go_at_call 12; refine (refNames_any _).mono ?_; rintro e w4 ⟨g, rfl, hb, _, h4⟩; have gc := hb.cell p HN.out; have H4 := Lib.hid (show Nx w2 w4 from (by repeat (first | exact Nx.refl _ | assumption | refine Nx.drew ?_ | refine Nx.drewN ?_ _ | refine Nx.alloc ?_ _ | refine Nx.trans ?_ (by assumption)))); have c5 := (HS.out w4 (H2.out.trans H4.out)).1; clear hb))
    all_goals go_wp2_with fail
    all_goals go_meet
    all_goals exact ⟨rfl, H4.out⟩
  case rest =>
    obtain ⟨rfl, hnx⟩ := hcut
    have H3 := Lib.hid (H2.out.trans hnx)
    clear hnx a5 a6 a7 a8
    obtain ⟨a5, a6, a7, a8⟩ := HS.out wc H3.out
    have s1 : ∀ w : World, (Op.stringOp .add mn ⟨#[32]⟩).run Tryd.prog w = .ok (.string (mn ++ ⟨#[32]⟩)) w := fun w => run_string_add_sum w _ _ (by omega)
    have y1 : (mn ++ ⟨#[32]⟩).size ≤ 5 := by rw [ByteArray.size_append]; omega
    have s2 : ∀ w : World, (Op.stringOp .add (mn ++ ⟨#[32]⟩) fs).run Tryd.prog w = .ok (.string (mn ++ ⟨#[32]⟩ ++ fs)) w := fun w => run_string_add_sum w _ _ (by omega)
    have y2 : (mn ++ ⟨#[32]⟩ ++ fs).size ≤ 35 := by rw [ByteArray.size_append]; omega
    have s3 : ∀ w : World, (Op.stringOp .add (mn ++ ⟨#[32]⟩ ++ fs) ⟨#[32]⟩).run Tryd.prog w = .ok (.string (mn ++ ⟨#[32]⟩ ++ fs ++ ⟨#[32]⟩)) w := fun w => run_string_add_sum w _ _ (by omega)
    have y3 : (mn ++ ⟨#[32]⟩ ++ fs ++ ⟨#[32]⟩).size ≤ 36 := by rw [ByteArray.size_append]; omega
    have s4 : ∀ w : World, (Op.stringOp .add (mn ++ ⟨#[32]⟩ ++ fs ++ ⟨#[32]⟩) dc).run Tryd.prog w = .ok (.string (mn ++ ⟨#[32]⟩ ++ fs ++ ⟨#[32]⟩ ++ dc)) w := fun w => run_string_add_sum w _ _ (by omega)
    have s5 : ∀ w : World, (Op.stringOp .add (mn ++ ⟨#[32]⟩) dc).run Tryd.prog w = .ok (.string (mn ++ ⟨#[32]⟩ ++ dc)) w := fun w => run_string_add_sum w _ _ (by omega)
    generalize ht1 : mn ++ ⟨#[32]⟩ = t1 at *
    generalize ht2 : t1 ++ fs = t2 at *
    generalize ht3 : t2 ++ ⟨#[32]⟩ = t3 at *
    generalize ht4 : t3 ++ dc = t4 at *
    generalize ht5 : t1 ++ dc = t5 at *
    clear y1 y2 y3 z1 z2 z3 sp ht1 ht2 ht3 ht4 ht5
    rcases HF.out with rfl | rfl | rfl | rfl | rfl | rfl
    · exact absurd rfl HM.out
    · have e : R = mn := by rw [← HR2.out]; simp
      go_wp2
      go_ret
      exact ⟨by first | rfl | (rw [e]; rfl), N0.out.trans H3.out⟩
    · go_wp2_with fail
      refine (FA.out _).mono ?_
      rintro r w5 ⟨rfl, q5⟩
      have H5 := Lib.hid (H3.out.trans q5)
      clear q5
      by_cases hs : fs.size = 0
      · have e : R = ⟨#[]⟩ := by rw [← HR2.out]; simp [hs]
        have he := isEmpty_yes fs hs
        go_wp2
        go_ret
        exact ⟨by rw [e]; rfl, N0.out.trans H5.out⟩
      have he := isEmpty_no fs hs
      have e : R = t2 := by rw [← HR2.out]; simp [hs]
      go_wp2
      go_ret
      exact ⟨by rw [e]; rfl, N0.out.trans H5.out⟩
    · go_wp2_with fail
      refine (FA.out _).mono ?_
      rintro r w5 ⟨rfl, q5⟩
      have H5 := Lib.hid (H3.out.trans q5)
      clear q5
      by_cases hs : fs.size = 0
      · have e : R = ⟨#[]⟩ := by rw [← HR2.out]; simp [hs]
        have he := isEmpty_yes fs hs
        go_wp2
        go_ret
        exact ⟨by rw [e]; rfl, N0.out.trans H5.out⟩
      have he := isEmpty_no fs hs
      have e : R = t4 := by rw [← HR2.out]; simp [hs]
      obtain ⟨c5, c6, c7, c8⟩ := HS.out w5 H5.out
      go_wp2_with fail
      refine (DC.out _).mono ?_
      rintro r w6 ⟨rfl, q6⟩
      have H6 := Lib.hid (H5.out.trans q6)
      clear q6
      go_wp2
      go_ret
      exact ⟨by rw [e]; rfl, N0.out.trans H6.out⟩
    · go_wp2_with fail
      refine (FA.out _).mono ?_
      rintro r w5 ⟨rfl, q5⟩
      have H5 := Lib.hid (H3.out.trans q5)
      clear q5
      by_cases hs : fs.size = 0
      · have e : R = ⟨#[]⟩ := by rw [← HR2.out]; simp [hs]
        have he := isEmpty_yes fs hs
        go_wp2
        go_ret
        exact ⟨by rw [e]; rfl, N0.out.trans H5.out⟩
      have he := isEmpty_no fs hs
      have e : R = t2 := by rw [← HR2.out]; simp [hs]
      go_wp2
      go_ret
      exact ⟨by rw [e]; rfl, N0.out.trans H5.out⟩
    · have e : R = t5 := by rw [← HR2.out]; simp
      go_wp2_with fail
      refine (DC.out _).mono ?_
      rintro r w6 ⟨rfl, q6⟩
      have H6 := Lib.hid (H3.out.trans q6)
      clear q6
      go_wp2
      go_ret
      exact ⟨by rw [e]; rfl, N0.out.trans H6.out⟩
end Go.Proofs.YtfnmjbapjngmaaaDoor
