/- The walk of StackMatchesReference. Condition: a slice whose cells read as a list of acts. -/
import Derived.Test.YtekhljgghjibmaaIKL
import Derived.Deep.RegionHeld3
import Derived.Deep.QuietTactic
import Derived.BigQuiet
namespace Go.Proofs.Ytekhljgghjibmaa
open Go.RowKit

def MR (w : World) (b1 b2 cap : Nat) (wr : World) : Prop := ∃ o1 o2 md l, Par w wr b1 b2 cap o1 o2 md l

set_option maxHeartbeats 6400000 in
set_option maxRecDepth 100000 in
theorem law3_main (n : Int) (A : Option Addr) (acts : List (Int × ByteArray)) (m c : Nat) (hz : acts.length = m) (hm : m ≤ 300) (w : World) (hr : RdA w A acts) :
    Calls Try.prog 3 #[.int .i64 n, .slice A m c] w fun e w' => e = .returned (.bool true) ∧ Nx w w' := by
  obtain ⟨cap, hcap⟩ : ∃ cap, mst n = cap := ⟨_, rfl⟩
  have HC1 := Lib.hid (show 1 ≤ cap by rw [← hcap]; exact mst_ge n)
  have HC2 := Lib.hid (show cap ≤ 4096 by rw [← hcap]; exact mst_le n)
  have HMO := Lib.hid (fun w => most_any n w)
  rw [hcap] at HMO
  have h1 : ¬ (300 : Int) < (m : Int) := by omega
  have HR := Lib.hid hr
  have HZ := Lib.hid hz
  clear hr hz hcap
  go_enter Try.func3, Try.ntmps3
  go_wp2_with fail
  refine (HMO.out _).mono ?_
  rintro e w0 ⟨rfl, rfl⟩
  go_wp2_with fail
  refine (new_ok_st cap HC1.out HC2.out w).mono ?_
  rintro e w1 ⟨rfl, hs, hn, _⟩
  have S1 := Lib.hid hs
  have N1 := Lib.hid hn
  clear hs hn
  go_wp2_with fail
  refine (alive5_any _).mono ?_
  rintro e w2 ⟨rfl, hn⟩
  have S2 := Lib.hid (S1.out.nx hn)
  have N2 := Lib.hid (N1.out.trans hn)
  clear hn S1 N1
  go_wp2_with fail
  refine (HMO.out _).mono ?_
  rintro e w3 ⟨rfl, rfl⟩
  have HT := Lib.hid (show Par w (w2.alloc (.cells #[.slice none 0 0, .int .i64 (cap : Int), .int .i64 0] 32)) w.heap.size w2.heap.size cap none none 0 [] from
    ⟨S2.out.nx (Nx.one _ _), (stk_new w2 32 9 cap).low N2.out.size, (by have := S2.out.lt; omega), (by simp), (by simp), (by simp), Nat.zero_le _, N2.out.alloc _⟩)
  clear S2 N2
  go_wp2
  go_loopw [52] (fun i wr => ∃ j : Nat, j ≤ m ∧ i = .int .i64 j ∧ MR w w.heap.size w2.heap.size cap wr) (fun i _ => m - (intOf i).toNat)
  case atStart => exact ⟨0, Nat.zero_le _, rfl, none, none, 0, [], HT.out⟩
  case round =>
    generalize hb1 : w.heap.size = b1 at *
    generalize w2.heap.size = b2 at *
    obtain ⟨j, hj, rfl, o1, o2, md, l, hP⟩ := hrel
    have HP := Lib.hid hP
    have HB1 := Lib.hid hb1
    clear HT hb1 w2
    by_cases hlt : j < m
    · obtain ⟨kd, x, ha⟩ := act_at acts j (by rw [HZ.out]; exact hlt)
      obtain ⟨ad, rfl, hc1, hc2⟩ := (HR.out.nx hP.nx).two j _ _ ha
      clear hP ha
      obtain ⟨W, hW⟩ : ∃ W, W = wr.alloc (.cells #[.int .i64 kd, .string x] 34) := ⟨_, rfl⟩
      have HPF := Lib.hid (fun w' (k : Nx W w') => HP.out.later ((hW ▸ Nx.one wr _ : Nx wr W).trans k))
      have HG := Lib.hid (HP.out.apart (Nat.le_refl _))
      have c0 : W.cell? ⟨wr.heap.size, 1, none⟩ = some (.string x) := by rw [hW]; exact (bx_new wr 34 [.int .i64 kd, .string x]).cell 1 rfl
      have HS := Lib.hid (fun w' (k : Nx W w') => k.cell c0)
      have HLE := Lib.hid (show l.length ≤ 4096 from Nat.le_trans HP.out.hl HC2.out)
      have HW := Lib.hid hW
      clear hW HP c0
      have hcase : (kd = 0 ∧ l.length < cap) ∨ (kd = 0 ∧ cap ≤ l.length) ∨ (¬ kd = 0 ∧ kd = 1 ∧ l = []) ∨ (¬ kd = 0 ∧ kd = 1 ∧ ∃ l' y, l = l' ++ [y]) ∨ (¬ kd = 0 ∧ ¬ kd = 1) := by
        have hlast : l = [] ∨ ∃ l' y, l = l' ++ [y] := by
          rcases List.eq_nil_or_concat l with h | ⟨l', y, h⟩
          · exact .inl h
          · exact .inr ⟨l', y, by rw [h, List.concat_eq_append]⟩
        by_cases k0 : kd = 0
        · by_cases hf : l.length < cap
          · exact .inl ⟨k0, hf⟩
          · exact .inr (.inl ⟨k0, by omega⟩)
        · by_cases k1 : kd = 1
          · rcases hlast with h | h
            · exact .inr (.inr (.inl ⟨k0, k1, h⟩))
            · exact .inr (.inr (.inr (.inl ⟨k0, k1, h⟩)))
          · exact .inr (.inr (.inr (.inr ⟨k0, k1⟩)))
      rcases hcase with ⟨rfl, hf⟩ | ⟨rfl, hf⟩ | ⟨_, rfl, rfl⟩ | ⟨_, rfl, l', y, rfl⟩ | ⟨k0, k1⟩
      · go_wp2_with fail
        rw [← HW.out]
        have c0 := HS.out W (Nx.refl _)
        clear HW
        generalize wr.heap.size = g at *
        have HF := Lib.hid (show (strs l).length < cap by rw [strs_len]; exact hf)
        have HF2 := Lib.hid hf
        clear hf
        go_region_held3 (fun w' => w'.cell? ⟨g, 1, none⟩ = some (.string x)) (first | go_keep | exact HS.out _ (Nx.refl _) | exact HS.out _ (Nx.refl _).drew | exact HS5.out _ (Nx.refl _) | exact HS6.out _ (Nx.refl _)) ((first
          | (go_at_call 11; (with_reducible refine (push_ok_st x _ _ _ _ _ _ _ (HPF.out _ (by repeat (first | exact Nx.refl _ | assumption | refine Nx.drewN ?_ _ | refine Nx.drew ?_ | refine Nx.alloc ?_ _ | refine Nx.set ?_ (by first | exact Nat.le_refl _ | (simp; done) | (simp; omega)) _))).s1 HF.out HC2.out).mono ?_); rintro e w5 ⟨rfl, o5, hs5, hq5, hm5⟩; have H5 := Lib.hid ((HPF.out _ (by repeat (first | exact Nx.refl _ | assumption | refine Nx.drewN ?_ _ | refine Nx.drew ?_ | refine Nx.alloc ?_ _ | refine Nx.set ?_ (by first | exact Nat.le_refl _ | (simp; done) | (simp; omega)) _))).push1 hs5 hq5 hm5); have HS5 := Lib.hid (fun w' (k : Nx w5 w') => k.cell (hm5.cell (HS.out _ (by repeat (first | exact Nx.refl _ | assumption | refine Nx.drewN ?_ _ | refine Nx.drew ?_ | refine Nx.alloc ?_ _ | refine Nx.set ?_ (by first | exact Nat.le_refl _ | (simp; done) | (simp; omega)) _))) HG.out.1 HG.out.2.2.1)); clear hs5 hq5 hm5)
          | (go_at_call 12; (with_reducible refine (refPush_ok x _ _ _ _ _ _ _ (H5.out.later (by repeat (first | exact Nx.refl _ | assumption | refine Nx.drewN ?_ _ | refine Nx.drew ?_ | refine Nx.alloc ?_ _ | refine Nx.set ?_ (by first | exact Nat.le_refl _ | (simp; done) | (simp; omega)) _))).s2 HF.out HC2.out (strs_one _)).mono ?_); rintro e w6 ⟨rfl, o6, hs6, hq6, hm6⟩; have H6 := Lib.hid ((H5.out.later (by repeat (first | exact Nx.refl _ | assumption | refine Nx.drewN ?_ _ | refine Nx.drew ?_ | refine Nx.alloc ?_ _ | refine Nx.set ?_ (by first | exact Nat.le_refl _ | (simp; done) | (simp; omega)) _))).push2 HF2.out hs6 hq6 hm6); have HS6 := Lib.hid (fun w' (k : Nx w6 w') => k.cell (hm6.cell (HS5.out _ (by repeat (first | exact Nx.refl _ | assumption | refine Nx.drewN ?_ _ | refine Nx.drew ?_ | refine Nx.alloc ?_ _ | refine Nx.set ?_ (by first | exact Nat.le_refl _ | (simp; done) | (simp; omega)) _))) HG.out.2.1 (by simp))); clear hs6 hq6 hm6)))
        have HM := Lib.hid (show MR w b1 b2 cap w6 from ⟨_, _, _, _, H6.out⟩)
        clear c0 HS HS5 HS6 H5 H6 HPF HG HLE
        go_wp2_with fail
        obtain ⟨p1, p2, M, L, hP⟩ := HM.out
        have HQ := Lib.hid hP
        clear HM hP
        have hL : L.length ≤ 4096 := Nat.le_trans HQ.out.hl HC2.out
        refine (all_st _ _ _ _ _ _ _ HQ.out.s1 (by rw [strs_len]; exact Nat.le_trans HQ.out.hl HC2.out) (strs_one _)).mono ?_
        rintro e w7 ⟨rfl, ho7, hn7⟩
        rw [strs_len] at ho7 ⊢
        have H7 := Lib.hid (HQ.out.later hn7)
        have O7 := Lib.hid ho7
        clear ho7 hn7 HQ
        obtain ⟨A7, c7, d0, d2, hc7⟩ := H7.out.read2
        have HC7 := Lib.hid hc7
        have hD := fun w' (k : Nx w7 w') => depth_st _ _ _ _ _ _ w' (H7.out.later k).s1
        simp only [strs_len] at hD
        have HD := Lib.hid (fun w' (k : Nx w7 w') => (hD w' k).mono (fun _ _ (h : _ ∧ _) => (⟨h.1, h.2.symm⟩ : _ ∧ _)))
        have HX := Lib.hid (fun w' (k : Nx w7 w') => (maxDepth_st _ _ _ _ _ _ w' (H7.out.later k).s1).mono (fun _ _ (h : _ ∧ _) => (⟨h.1, h.2.symm⟩ : _ ∧ _)))
        clear hc7 hD
        have e1 : ((L.length : Int) != (L.length : Int)) = false := by simp
        have e2 : ((M : Int) != (M : Int)) = false := by simp
        go_wp2_with fail
        go_quiet (first
          | (go_at_call 17; refine Calls.quiet_of_same (HD.out _ (by repeat (first | exact Nx.refl _ | assumption | refine Nx.drewN ?_ _ | refine Nx.drew ?_ | refine Nx.alloc ?_ _ | refine Nx.set ?_ (by first | exact Nat.le_refl _ | (simp; done) | (simp; omega)) _))))
          | (go_at_call 18; refine Calls.quiet_of_same (HX.out _ (by repeat (first | exact Nx.refl _ | assumption | refine Nx.drewN ?_ _ | refine Nx.drew ?_ | refine Nx.alloc ?_ _ | refine Nx.set ?_ (by first | exact Nat.le_refl _ | (simp; done) | (simp; omega)) _)))))
        go_wp2
        go_loopw [125] (fun i wr2 => ∃ q : Nat, q ≤ L.length ∧ i = .int .i64 q ∧ Nx w7 wr2) (fun i _ => L.length - (intOf i).toNat)
        case atStart => exact ⟨0, Nat.zero_le _, rfl, (by repeat (first | exact Nx.refl _ | assumption | refine Nx.drewN ?_ _ | refine Nx.drew ?_ | refine Nx.alloc ?_ _ | refine Nx.set ?_ (by first | exact Nat.le_refl _ | (simp; done) | (simp; omega)) _))⟩
        case round =>
          obtain ⟨q, hq, rfl, hnq⟩ := hrel
          have NQ := Lib.hid hnq
          by_cases hlq : q < L.length
          · obtain ⟨z, hz⟩ := str_at L q hlq
            obtain ⟨ad7, hA7, hcz⟩ := HC7.out q z hz
            subst hA7
            have k0 := hnq.cell hcz
            have k1 := hnq.cell d0
            have k2 := hnq.cell ((O7.out.cellAt q (by omega)).trans (strs_at hz))
            clear hnq hz hcz
            go_wp2
            go_quiet (fail)
            go_wp2
            go_roundw
            case rel => exact ⟨q + 1, by omega, by go_num, by first | exact NQ.out | exact NQ.out.drewN _⟩
            case measure => simp [intOf]; omega
          · clear hnq
            go_wp2
            go_roundw
            case rel => exact ⟨j + 1, by omega, by go_num, _, _, _, _, H7.out.later NQ.out⟩
            case measure => simp [intOf]; omega
      · go_wp2_with fail
        rw [← HW.out]
        have c0 := HS.out W (Nx.refl _)
        clear HW
        generalize wr.heap.size = g at *
        have HF := Lib.hid (show cap ≤ (strs l).length by rw [strs_len]; exact hf)
        clear hf
        go_region_held3 (fun w' => w'.cell? ⟨g, 1, none⟩ = some (.string x)) (first | go_keep | exact HS.out _ (Nx.refl _) | exact HS.out _ (Nx.refl _).drew | exact HS.out _ N5.out | exact HS.out _ N6.out) ((first
          | (go_at_call 11; (with_reducible refine (push_full_st x _ _ _ _ _ _ _ (HPF.out _ (by repeat (first | exact Nx.refl _ | assumption | refine Nx.drewN ?_ _ | refine Nx.drew ?_ | refine Nx.alloc ?_ _ | refine Nx.set ?_ (by first | exact Nat.le_refl _ | (simp; done) | (simp; omega)) _))).s1 HF.out).mono ?_); rintro e w5 ⟨rfl, hn5⟩; have N5 := Lib.hid (show Nx W w5 from (show Nx W _ from (by repeat (first | exact Nx.refl _ | assumption | refine Nx.drewN ?_ _ | refine Nx.drew ?_ | refine Nx.alloc ?_ _ | refine Nx.set ?_ (by first | exact Nat.le_refl _ | (simp; done) | (simp; omega)) _))).trans hn5); clear hn5)
          | (go_at_call 12; (with_reducible refine (refPush_full x _ _ _ _ _ _ _ (HPF.out _ (N5.out.trans (by repeat (first | exact Nx.refl _ | assumption | refine Nx.drewN ?_ _ | refine Nx.drew ?_ | refine Nx.alloc ?_ _ | refine Nx.set ?_ (by first | exact Nat.le_refl _ | (simp; done) | (simp; omega)) _)))).s2 HF.out).mono ?_); rintro e w6 ⟨rfl, hn6⟩; have N6 := Lib.hid (show Nx W w6 from (N5.out.trans (by repeat (first | exact Nx.refl _ | assumption | refine Nx.drewN ?_ _ | refine Nx.drew ?_ | refine Nx.alloc ?_ _ | refine Nx.set ?_ (by first | exact Nat.le_refl _ | (simp; done) | (simp; omega)) _))).trans hn6); clear hn6)))
        have HM := Lib.hid (show MR w b1 b2 cap w6 from ⟨_, _, _, _, HPF.out _ N6.out⟩)
        clear c0 HS N5 N6 HPF HG HLE
        go_wp2_with fail
        obtain ⟨p1, p2, M, L, hP⟩ := HM.out
        have HQ := Lib.hid hP
        clear HM hP
        have hL : L.length ≤ 4096 := Nat.le_trans HQ.out.hl HC2.out
        refine (all_st _ _ _ _ _ _ _ HQ.out.s1 (by rw [strs_len]; exact Nat.le_trans HQ.out.hl HC2.out) (strs_one _)).mono ?_
        rintro e w7 ⟨rfl, ho7, hn7⟩
        rw [strs_len] at ho7 ⊢
        have H7 := Lib.hid (HQ.out.later hn7)
        have O7 := Lib.hid ho7
        clear ho7 hn7 HQ
        obtain ⟨A7, c7, d0, d2, hc7⟩ := H7.out.read2
        have HC7 := Lib.hid hc7
        have hD := fun w' (k : Nx w7 w') => depth_st _ _ _ _ _ _ w' (H7.out.later k).s1
        simp only [strs_len] at hD
        have HD := Lib.hid (fun w' (k : Nx w7 w') => (hD w' k).mono (fun _ _ (h : _ ∧ _) => (⟨h.1, h.2.symm⟩ : _ ∧ _)))
        have HX := Lib.hid (fun w' (k : Nx w7 w') => (maxDepth_st _ _ _ _ _ _ w' (H7.out.later k).s1).mono (fun _ _ (h : _ ∧ _) => (⟨h.1, h.2.symm⟩ : _ ∧ _)))
        clear hc7 hD
        have e1 : ((L.length : Int) != (L.length : Int)) = false := by simp
        have e2 : ((M : Int) != (M : Int)) = false := by simp
        go_wp2_with fail
        go_quiet (first
          | (go_at_call 17; refine Calls.quiet_of_same (HD.out _ (by repeat (first | exact Nx.refl _ | assumption | refine Nx.drewN ?_ _ | refine Nx.drew ?_ | refine Nx.alloc ?_ _ | refine Nx.set ?_ (by first | exact Nat.le_refl _ | (simp; done) | (simp; omega)) _))))
          | (go_at_call 18; refine Calls.quiet_of_same (HX.out _ (by repeat (first | exact Nx.refl _ | assumption | refine Nx.drewN ?_ _ | refine Nx.drew ?_ | refine Nx.alloc ?_ _ | refine Nx.set ?_ (by first | exact Nat.le_refl _ | (simp; done) | (simp; omega)) _)))))
        go_wp2
        go_loopw [125] (fun i wr2 => ∃ q : Nat, q ≤ L.length ∧ i = .int .i64 q ∧ Nx w7 wr2) (fun i _ => L.length - (intOf i).toNat)
        case atStart => exact ⟨0, Nat.zero_le _, rfl, (by repeat (first | exact Nx.refl _ | assumption | refine Nx.drewN ?_ _ | refine Nx.drew ?_ | refine Nx.alloc ?_ _ | refine Nx.set ?_ (by first | exact Nat.le_refl _ | (simp; done) | (simp; omega)) _))⟩
        case round =>
          obtain ⟨q, hq, rfl, hnq⟩ := hrel
          have NQ := Lib.hid hnq
          by_cases hlq : q < L.length
          · obtain ⟨z, hz⟩ := str_at L q hlq
            obtain ⟨ad7, hA7, hcz⟩ := HC7.out q z hz
            subst hA7
            have k0 := hnq.cell hcz
            have k1 := hnq.cell d0
            have k2 := hnq.cell ((O7.out.cellAt q (by omega)).trans (strs_at hz))
            clear hnq hz hcz
            go_wp2
            go_quiet (fail)
            go_wp2
            go_roundw
            case rel => exact ⟨q + 1, by omega, by go_num, by first | exact NQ.out | exact NQ.out.drewN _⟩
            case measure => simp [intOf]; omega
          · clear hnq
            go_wp2
            go_roundw
            case rel => exact ⟨j + 1, by omega, by go_num, _, _, _, _, H7.out.later NQ.out⟩
            case measure => simp [intOf]; omega
      · go_wp2_with fail
        rw [← HW.out]
        clear HW HS
        generalize wr.heap.size = g at *
        refine (pop_none_st _ _ _ _ _ _ (show Stk W _ _ _ _ _ _ _ [] from (HPF.out W (Nx.refl _)).s1)).mono ?_
        rintro e w5 ⟨rfl, rfl⟩
        go_wp2_with fail
        refine (refPop_none _ _ _ _ _ _ (show Stk W _ _ _ _ _ _ _ [] from (HPF.out W (Nx.refl _)).s2)).mono ?_
        rintro e w6 ⟨rfl, rfl⟩
        have HM := Lib.hid (show MR w b1 b2 cap W from ⟨_, _, _, _, HPF.out W (Nx.refl _)⟩)
        clear HPF HG HLE
        go_wp2_with fail
        obtain ⟨p1, p2, M, L, hP⟩ := HM.out
        have HQ := Lib.hid hP
        clear HM hP
        have hL : L.length ≤ 4096 := Nat.le_trans HQ.out.hl HC2.out
        refine (all_st _ _ _ _ _ _ _ HQ.out.s1 (by rw [strs_len]; exact Nat.le_trans HQ.out.hl HC2.out) (strs_one _)).mono ?_
        rintro e w7 ⟨rfl, ho7, hn7⟩
        rw [strs_len] at ho7 ⊢
        have H7 := Lib.hid (HQ.out.later hn7)
        have O7 := Lib.hid ho7
        clear ho7 hn7 HQ
        obtain ⟨A7, c7, d0, d2, hc7⟩ := H7.out.read2
        have HC7 := Lib.hid hc7
        have hD := fun w' (k : Nx w7 w') => depth_st _ _ _ _ _ _ w' (H7.out.later k).s1
        simp only [strs_len] at hD
        have HD := Lib.hid (fun w' (k : Nx w7 w') => (hD w' k).mono (fun _ _ (h : _ ∧ _) => (⟨h.1, h.2.symm⟩ : _ ∧ _)))
        have HX := Lib.hid (fun w' (k : Nx w7 w') => (maxDepth_st _ _ _ _ _ _ w' (H7.out.later k).s1).mono (fun _ _ (h : _ ∧ _) => (⟨h.1, h.2.symm⟩ : _ ∧ _)))
        clear hc7 hD
        have e1 : ((L.length : Int) != (L.length : Int)) = false := by simp
        have e2 : ((M : Int) != (M : Int)) = false := by simp
        go_wp2_with fail
        go_quiet (first
          | (go_at_call 17; refine Calls.quiet_of_same (HD.out _ (by repeat (first | exact Nx.refl _ | assumption | refine Nx.drewN ?_ _ | refine Nx.drew ?_ | refine Nx.alloc ?_ _ | refine Nx.set ?_ (by first | exact Nat.le_refl _ | (simp; done) | (simp; omega)) _))))
          | (go_at_call 18; refine Calls.quiet_of_same (HX.out _ (by repeat (first | exact Nx.refl _ | assumption | refine Nx.drewN ?_ _ | refine Nx.drew ?_ | refine Nx.alloc ?_ _ | refine Nx.set ?_ (by first | exact Nat.le_refl _ | (simp; done) | (simp; omega)) _)))))
        go_wp2
        go_loopw [125] (fun i wr2 => ∃ q : Nat, q ≤ L.length ∧ i = .int .i64 q ∧ Nx w7 wr2) (fun i _ => L.length - (intOf i).toNat)
        case atStart => exact ⟨0, Nat.zero_le _, rfl, (by repeat (first | exact Nx.refl _ | assumption | refine Nx.drewN ?_ _ | refine Nx.drew ?_ | refine Nx.alloc ?_ _ | refine Nx.set ?_ (by first | exact Nat.le_refl _ | (simp; done) | (simp; omega)) _))⟩
        case round =>
          obtain ⟨q, hq, rfl, hnq⟩ := hrel
          have NQ := Lib.hid hnq
          by_cases hlq : q < L.length
          · obtain ⟨z, hz⟩ := str_at L q hlq
            obtain ⟨ad7, hA7, hcz⟩ := HC7.out q z hz
            subst hA7
            have k0 := hnq.cell hcz
            have k1 := hnq.cell d0
            have k2 := hnq.cell ((O7.out.cellAt q (by omega)).trans (strs_at hz))
            clear hnq hz hcz
            go_wp2
            go_quiet (fail)
            go_wp2
            go_roundw
            case rel => exact ⟨q + 1, by omega, by go_num, by first | exact NQ.out | exact NQ.out.drewN _⟩
            case measure => simp [intOf]; omega
          · clear hnq
            go_wp2
            go_roundw
            case rel => exact ⟨j + 1, by omega, by go_num, _, _, _, _, H7.out.later NQ.out⟩
            case measure => simp [intOf]; omega
      · go_wp2_with fail
        rw [← HW.out]
        clear HW HS
        generalize wr.heap.size = g at *
        have HL2 := Lib.hid (show (strs l').length ≤ 4096 by have := HLE.out; rw [List.length_append] at this; rw [strs_len]; omega)
        refine (pop_ok_st _ _ _ _ _ (strs l') (.string y) _ (by rw [strs_snoc]; exact (HPF.out W (Nx.refl _)).s1) HL2.out).mono ?_
        rintro e w5 ⟨rfl, hs5, hm5⟩
        have H5 := Lib.hid ((HPF.out W (Nx.refl _)).pop hs5 hm5)
        clear hs5 hm5
        go_wp2_with fail
        refine (refPop_ok _ _ _ _ _ (strs l') (.string y) _ H5.out.1 HL2.out).mono ?_
        rintro e w6 ⟨rfl, hs6, hm6⟩
        have HM := Lib.hid (show MR w b1 b2 cap w6 from ⟨_, _, _, _, H5.out.2.2 w6 hs6 hm6⟩)
        clear HPF HG HLE H5 hs6 hm6 HL2
        go_wp2_with fail
        obtain ⟨p1, p2, M, L, hP⟩ := HM.out
        have HQ := Lib.hid hP
        clear HM hP
        have hL : L.length ≤ 4096 := Nat.le_trans HQ.out.hl HC2.out
        refine (all_st _ _ _ _ _ _ _ HQ.out.s1 (by rw [strs_len]; exact Nat.le_trans HQ.out.hl HC2.out) (strs_one _)).mono ?_
        rintro e w7 ⟨rfl, ho7, hn7⟩
        rw [strs_len] at ho7 ⊢
        have H7 := Lib.hid (HQ.out.later hn7)
        have O7 := Lib.hid ho7
        clear ho7 hn7 HQ
        obtain ⟨A7, c7, d0, d2, hc7⟩ := H7.out.read2
        have HC7 := Lib.hid hc7
        have hD := fun w' (k : Nx w7 w') => depth_st _ _ _ _ _ _ w' (H7.out.later k).s1
        simp only [strs_len] at hD
        have HD := Lib.hid (fun w' (k : Nx w7 w') => (hD w' k).mono (fun _ _ (h : _ ∧ _) => (⟨h.1, h.2.symm⟩ : _ ∧ _)))
        have HX := Lib.hid (fun w' (k : Nx w7 w') => (maxDepth_st _ _ _ _ _ _ w' (H7.out.later k).s1).mono (fun _ _ (h : _ ∧ _) => (⟨h.1, h.2.symm⟩ : _ ∧ _)))
        clear hc7 hD
        have e1 : ((L.length : Int) != (L.length : Int)) = false := by simp
        have e2 : ((M : Int) != (M : Int)) = false := by simp
        go_wp2_with fail
        go_quiet (first
          | (go_at_call 17; refine Calls.quiet_of_same (HD.out _ (by repeat (first | exact Nx.refl _ | assumption | refine Nx.drewN ?_ _ | refine Nx.drew ?_ | refine Nx.alloc ?_ _ | refine Nx.set ?_ (by first | exact Nat.le_refl _ | (simp; done) | (simp; omega)) _))))
          | (go_at_call 18; refine Calls.quiet_of_same (HX.out _ (by repeat (first | exact Nx.refl _ | assumption | refine Nx.drewN ?_ _ | refine Nx.drew ?_ | refine Nx.alloc ?_ _ | refine Nx.set ?_ (by first | exact Nat.le_refl _ | (simp; done) | (simp; omega)) _)))))
        go_wp2
        go_loopw [125] (fun i wr2 => ∃ q : Nat, q ≤ L.length ∧ i = .int .i64 q ∧ Nx w7 wr2) (fun i _ => L.length - (intOf i).toNat)
        case atStart => exact ⟨0, Nat.zero_le _, rfl, (by repeat (first | exact Nx.refl _ | assumption | refine Nx.drewN ?_ _ | refine Nx.drew ?_ | refine Nx.alloc ?_ _ | refine Nx.set ?_ (by first | exact Nat.le_refl _ | (simp; done) | (simp; omega)) _))⟩
        case round =>
          obtain ⟨q, hq, rfl, hnq⟩ := hrel
          have NQ := Lib.hid hnq
          by_cases hlq : q < L.length
          · obtain ⟨z, hz⟩ := str_at L q hlq
            obtain ⟨ad7, hA7, hcz⟩ := HC7.out q z hz
            subst hA7
            have k0 := hnq.cell hcz
            have k1 := hnq.cell d0
            have k2 := hnq.cell ((O7.out.cellAt q (by omega)).trans (strs_at hz))
            clear hnq hz hcz
            go_wp2
            go_quiet (fail)
            go_wp2
            go_roundw
            case rel => exact ⟨q + 1, by omega, by go_num, by first | exact NQ.out | exact NQ.out.drewN _⟩
            case measure => simp [intOf]; omega
          · clear hnq
            go_wp2
            go_roundw
            case rel => exact ⟨j + 1, by omega, by go_num, _, _, _, _, H7.out.later NQ.out⟩
            case measure => simp [intOf]; omega
      · go_wp2_with fail
        rw [← HW.out]
        clear HW HS
        generalize wr.heap.size = g at *
        refine (clear_st _ _ _ _ _ _ _ (HPF.out W (Nx.refl _)).s1).mono ?_
        rintro e w5 ⟨rfl, hs5, hm5⟩
        obtain ⟨hp5, A5, n5, c5, d5, f5⟩ := (HPF.out W (Nx.refl _)).clear hs5 hm5
        have HM := Lib.hid (show MR w b1 b2 cap _ from ⟨_, _, _, _, hp5⟩)
        clear HPF HG HLE hs5 hm5 hp5
        go_wp2_with fail
        generalize w5.setCell ⟨b2, 0, none⟩ (.slice none 0 0) = w6 at *
        obtain ⟨p1, p2, M, L, hP⟩ := HM.out
        have HQ := Lib.hid hP
        clear HM hP
        have hL : L.length ≤ 4096 := Nat.le_trans HQ.out.hl HC2.out
        refine (all_st _ _ _ _ _ _ _ HQ.out.s1 (by rw [strs_len]; exact Nat.le_trans HQ.out.hl HC2.out) (strs_one _)).mono ?_
        rintro e w7 ⟨rfl, ho7, hn7⟩
        rw [strs_len] at ho7 ⊢
        have H7 := Lib.hid (HQ.out.later hn7)
        have O7 := Lib.hid ho7
        clear ho7 hn7 HQ
        obtain ⟨A7, c7, d0, d2, hc7⟩ := H7.out.read2
        have HC7 := Lib.hid hc7
        have hD := fun w' (k : Nx w7 w') => depth_st _ _ _ _ _ _ w' (H7.out.later k).s1
        simp only [strs_len] at hD
        have HD := Lib.hid (fun w' (k : Nx w7 w') => (hD w' k).mono (fun _ _ (h : _ ∧ _) => (⟨h.1, h.2.symm⟩ : _ ∧ _)))
        have HX := Lib.hid (fun w' (k : Nx w7 w') => (maxDepth_st _ _ _ _ _ _ w' (H7.out.later k).s1).mono (fun _ _ (h : _ ∧ _) => (⟨h.1, h.2.symm⟩ : _ ∧ _)))
        clear hc7 hD
        have e1 : ((L.length : Int) != (L.length : Int)) = false := by simp
        have e2 : ((M : Int) != (M : Int)) = false := by simp
        go_wp2_with fail
        go_quiet (first
          | (go_at_call 17; refine Calls.quiet_of_same (HD.out _ (by repeat (first | exact Nx.refl _ | assumption | refine Nx.drewN ?_ _ | refine Nx.drew ?_ | refine Nx.alloc ?_ _ | refine Nx.set ?_ (by first | exact Nat.le_refl _ | (simp; done) | (simp; omega)) _))))
          | (go_at_call 18; refine Calls.quiet_of_same (HX.out _ (by repeat (first | exact Nx.refl _ | assumption | refine Nx.drewN ?_ _ | refine Nx.drew ?_ | refine Nx.alloc ?_ _ | refine Nx.set ?_ (by first | exact Nat.le_refl _ | (simp; done) | (simp; omega)) _)))))
        go_wp2
        go_loopw [125] (fun i wr2 => ∃ q : Nat, q ≤ L.length ∧ i = .int .i64 q ∧ Nx w7 wr2) (fun i _ => L.length - (intOf i).toNat)
        case atStart => exact ⟨0, Nat.zero_le _, rfl, (by repeat (first | exact Nx.refl _ | assumption | refine Nx.drewN ?_ _ | refine Nx.drew ?_ | refine Nx.alloc ?_ _ | refine Nx.set ?_ (by first | exact Nat.le_refl _ | (simp; done) | (simp; omega)) _))⟩
        case round =>
          obtain ⟨q, hq, rfl, hnq⟩ := hrel
          have NQ := Lib.hid hnq
          by_cases hlq : q < L.length
          · obtain ⟨z, hz⟩ := str_at L q hlq
            obtain ⟨ad7, hA7, hcz⟩ := HC7.out q z hz
            subst hA7
            have k0 := hnq.cell hcz
            have k1 := hnq.cell d0
            have k2 := hnq.cell ((O7.out.cellAt q (by omega)).trans (strs_at hz))
            clear hnq hz hcz
            go_wp2
            go_quiet (fail)
            go_wp2
            go_roundw
            case rel => exact ⟨q + 1, by omega, by go_num, by first | exact NQ.out | exact NQ.out.drewN _⟩
            case measure => simp [intOf]; omega
          · clear hnq
            go_wp2
            go_roundw
            case rel => exact ⟨j + 1, by omega, by go_num, _, _, _, _, H7.out.later NQ.out⟩
            case measure => simp [intOf]; omega
    · clear hP
      go_wp2
      go_ret
      exact ⟨rfl, HP.out.nx⟩

set_option maxHeartbeats 800000 in
theorem law3 (n : Int) (A : Option Addr) (acts : List (Int × ByteArray)) (m c : Nat) (hz : acts.length = m) (w : World) (hr : RdA w A acts) :
    Calls Try.prog 3 #[.int .i64 n, .slice A m c] w fun e w' => e = .returned (.bool true) ∧ Nx w w' := by
  by_cases hm : m ≤ 300
  · exact law3_main n A acts m c hz hm w hr
  · have h1 : (300 : Int) < (m : Int) := by omega
    clear hr hz hm
    obtain ⟨cap, hcap⟩ : ∃ cap, mst n = cap := ⟨_, rfl⟩
    have HC1 := Lib.hid (show 1 ≤ cap by rw [← hcap]; exact mst_ge n)
    have HC2 := Lib.hid (show cap ≤ 4096 by rw [← hcap]; exact mst_le n)
    have HMO := Lib.hid (fun w => most_any n w)
    rw [hcap] at HMO
    clear hcap
    go_enter Try.func3, Try.ntmps3
    go_wp2_with fail
    refine (HMO.out _).mono ?_
    rintro e w0 ⟨rfl, rfl⟩
    go_wp2_with fail
    refine (new_ok_st cap HC1.out HC2.out w).mono ?_
    rintro e w1 ⟨rfl, _, hn, _⟩
    have N1 := Lib.hid hn
    clear hn
    go_wp2_with fail
    refine (alive5_any _).mono ?_
    rintro e w2 ⟨rfl, hn⟩
    have N2 := Lib.hid (N1.out.trans hn)
    clear hn
    go_wp2_with fail
    refine (alive5_any _).mono ?_
    rintro e w3 ⟨rfl, hn⟩
    have N3 := Lib.hid (N2.out.trans hn)
    clear hn
    go_wp2
    go_ret
    exact ⟨rfl, N3.out⟩
end Go.Proofs.Ytekhljgghjibmaa
