/- The walk of BytecodeEncodeMatchesReference. Condition: the table of opcodes holds what the program's text lays. -/
import Derived.Test.YtdiamajkfbejhaaDoorITI
import Derived.Test.YtdiamajkfbejhaaDoorITA
import Derived.Test.YtdiamajkfbejhaaDoorIT9
import Derived.Deep.DeepCutAuto
import Derived.Deep.RegionHeld3
namespace Go.Proofs.YtdiamajkfbejhaaDoor
open Go.RowKit

theorem szA_eq (i q m e : Int) (code : List In4) : szA i q m e code = (encA i q m e code).1.length := by
  unfold szA encA
  by_cases h : (ckA i q m e code).2.2 = 0
  · rw [if_pos h, if_pos h, enc_len]
  · rw [if_neg h, if_neg h]; rfl
set_option maxHeartbeats 12800000 in
set_option maxRecDepth 1000000 in
theorem law8_enc (i q m e : Int) (A : Option Addr) (code : List In4) (n c : Nat) (hn : code.length = n ∧ n ≤ maxLen) (i' q' m' e' : Int) (A' : Option Addr) (code' : List In4) (n' c' : Nat) (hn' : code'.length = n' ∧ n' ≤ maxLen) (w : World) (hr : RdC w A code) (hr' : RdC w A' code') (he : Ev w) :
    Calls Tryd.prog 3 #[pgV i q m e A n c, pgV i' q' m' e' A' n' c'] w fun r w' => r = .returned (.bool true) ∧ Nx w w' := by
  have HE := Lib.hid he
  have HC := Lib.hid hr
  have HC' := Lib.hid hr'
  have HL := Lib.hid hn.1
  have HM := Lib.hid hn.2
  have HL' := Lib.hid hn'.1
  have HM' := Lib.hid hn'.2
  have hnm := hn.2
  have hnm' := hn'.2
  unfold maxLen at hnm hnm'
  clear he hr hr' hn hn'
  have N0 := Lib.hid (show Nx w ((w.alloc (.cells #[.int .i64 i, .int .i64 q, .int .i64 m, .int .i64 e, .slice A n c] 26)).alloc (.cells #[.int .i64 i', .int .i64 q', .int .i64 m', .int .i64 e', .slice A' n' c'] 26)) from (Nx.one _ _).alloc _)
  have XP := Lib.hid (show Bx ((w.alloc (.cells #[.int .i64 i, .int .i64 q, .int .i64 m, .int .i64 e, .slice A n c] 26)).alloc (.cells #[.int .i64 i', .int .i64 q', .int .i64 m', .int .i64 e', .slice A' n' c'] 26)) w.heap.size 26 (pgC i q m e A n c) from (bx_new w 26 (pgC i q m e A n c)).nx (Nx.one _ _))
  have XQ := Lib.hid (show Bx ((w.alloc (.cells #[.int .i64 i, .int .i64 q, .int .i64 m, .int .i64 e, .slice A n c] 26)).alloc (.cells #[.int .i64 i', .int .i64 q', .int .i64 m', .int .i64 e', .slice A' n' c'] 26)) (w.heap.size + 1) 26 (pgC i' q' m' e' A' n' c') from bx_newB _ _ (by simp) 26 (pgC i' q' m' e' A' n' c'))
  unfold pgV
  go_enter Tryd.func3, Tryd.ntmps3
  go_upto_region 1 with fail
  generalize hV0 : (w.alloc (.cells #[.int .i64 i, .int .i64 q, .int .i64 m, .int .i64 e, .slice A n c] 26)).alloc (.cells #[.int .i64 i', .int .i64 q', .int .i64 m', .int .i64 e', .slice A' n' c'] 26) = V0 at *
  clear hV0
  generalize w.heap.size + 1 = g1 at *
  generalize w.heap.size = g at *
  have x4 := XP.out.cell 4 rfl
  have y4 := XQ.out.cell 4 rfl
  by_cases hb : 1000 < n
  · have hbi : (1000 : Int) < (n : Int) := by omega
    go_wp2_with fail
    refine (alive_any _ (HE.out.nx N0.out)).mono ?_
    rintro r w1 ⟨rfl, q1⟩
    go_wp2_with fail
    go_ret
    exact ⟨rfl, N0.out.trans q1⟩
  have hbi : ¬ (1000 : Int) < (n : Int) := by omega
  by_cases hb1 : 1000 < n'
  · have hbi1 : (1000 : Int) < (n' : Int) := by omega
    go_wp2_with fail
    refine (alive_any _ (HE.out.nx N0.out)).mono ?_
    rintro r w1 ⟨rfl, q1⟩
    go_wp2_with fail
    go_ret
    exact ⟨rfl, N0.out.trans q1⟩
  have hbi1 : ¬ (1000 : Int) < (n' : Int) := by omega
  have EN := Lib.hid (fun w' (h : Nx V0 w') => encode_any i q m e A code n c HL.out HM.out w' (HC.out.nx (N0.out.trans h)) (HE.out.nx (N0.out.trans h)))
  have ER := Lib.hid (fun w' (h : Nx V0 w') => refEncode_any i q m e A code n c HL.out HM.out w' (HC.out.nx (N0.out.trans h)))
  have SZ := Lib.hid (fun w' (h : Nx V0 w') => size_any i q m e A code n c HL.out HM.out w' (HC.out.nx (N0.out.trans h)) (HE.out.nx (N0.out.trans h)))
  have E1 := Lib.hid (fun w' (h : Nx V0 w') => equal_any i q m e A code n c i' q' m' e' A' code' n' c' HL.out HL'.out HM.out HM'.out w' (HC.out.nx (N0.out.trans h)) (HC'.out.nx (N0.out.trans h)))
  have E2 := Lib.hid (fun w' (h : Nx V0 w') => refEqual_any i q m e A code n c i' q' m' e' A' code' n' c' HL.out HL'.out HM.out HM'.out w' (HC.out.nx (N0.out.trans h)) (HC'.out.nx (N0.out.trans h)))
  have E3 := Lib.hid (fun w' (h : Nx V0 w') => equal_any i q m e A code n c i q m e A code n c HL.out HL.out HM.out HM.out w' (HC.out.nx (N0.out.trans h)) (HC.out.nx (N0.out.trans h)))
  have AL := Lib.hid (fun w' (h : Nx V0 w') => alive_any w' (HE.out.nx (N0.out.trans h)))
  rw [eqP_code, decide_eq_true (rfl : code = code)] at E3
  rw [szA_eq] at SZ
  obtain ⟨B, hB⟩ : ∃ B, eqP i q m e code i' q' m' e' code' = B := ⟨_, rfl⟩
  rw [hB] at E1 E2
  clear hB
  obtain ⟨R, hR⟩ : ∃ R, encA i q m e code = R := ⟨_, rfl⟩
  rw [hR] at EN ER SZ
  clear hR HC HC' HM HM' HE
  obtain ⟨bs, z⟩ := R
  obtain ⟨RL, hRL⟩ : ∃ RL, bs.length = RL := ⟨_, rfl⟩
  have HRL := Lib.hid hRL
  simp only at SZ
  rw [hRL] at SZ
  unfold pgV at EN ER SZ E1 E2 E3
  have x0 := XP.out.cell 0 rfl
  have x1 := XP.out.cell 1 rfl
  have x2 := XP.out.cell 2 rfl
  have x3 := XP.out.cell 3 rfl
  clear hRL
  go_wp2_with fail
  refine (EN.out _ (Nx.refl _)).mono ?_
  rintro r u1 ⟨A1, c1, rfl, hrd1, hnl1, _, k1⟩
  simp only at hrd1 hnl1 ⊢
  rw [HRL.out]
  have K1 := Lib.hid k1
  have HR1 := Lib.hid hrd1
  have HN1 := Lib.hid hnl1
  clear k1 hrd1 hnl1 x0 x1 x2 x3 x4 y4 EN
  have x0 := (XP.out.nx K1.out).cell 0 rfl
  have x1 := (XP.out.nx K1.out).cell 1 rfl
  have x2 := (XP.out.nx K1.out).cell 2 rfl
  have x3 := (XP.out.nx K1.out).cell 3 rfl
  have x4 := (XP.out.nx K1.out).cell 4 rfl
  go_wp2_with fail
  refine (ER.out _ K1.out).mono ?_
  rintro r u2 ⟨A2, c2, rfl, hrd2, hnl2, _, k2⟩
  simp only at hrd2 hnl2 ⊢
  rw [HRL.out]
  have K2 := Lib.hid (K1.out.trans k2)
  have CV1 := Lib.hid (fun w' (h : Nx u2 w') => conv_y' A1 bs RL c1 w' HRL.out (HR1.out.nx (k2.trans h)) (fun e => (HN1.out e).2))
  have CV2 := Lib.hid (fun w' (h : Nx u2 w') => conv_y' A2 bs RL c2 w' HRL.out (hrd2.nx h) (fun e => (hnl2 e).2))
  clear k2 hrd2 hnl2 x0 x1 x2 x3 x4 ER K1 HR1 HN1 HRL
  obtain ⟨T, hT⟩ : ∃ T : ByteArray, ⟨bs.toArray⟩ = T := ⟨_, rfl⟩
  rw [hT] at CV1 CV2
  clear hT
  have HS := Lib.hid (show ∀ w', Nx u2 w' → w'.cell? ⟨g, 0, none⟩ = some (.int .i64 i) ∧ w'.cell? ⟨g, 1, none⟩ = some (.int .i64 q) ∧ w'.cell? ⟨g, 2, none⟩ = some (.int .i64 m) ∧ w'.cell? ⟨g, 3, none⟩ = some (.int .i64 e) ∧ w'.cell? ⟨g, 4, none⟩ = some (.slice A n c)
      ∧ w'.cell? ⟨g1, 0, none⟩ = some (.int .i64 i') ∧ w'.cell? ⟨g1, 1, none⟩ = some (.int .i64 q') ∧ w'.cell? ⟨g1, 2, none⟩ = some (.int .i64 m') ∧ w'.cell? ⟨g1, 3, none⟩ = some (.int .i64 e') ∧ w'.cell? ⟨g1, 4, none⟩ = some (.slice A' n' c')
      ∧ (convert 28 9 (.slice A1 RL c1)).run Tryd.prog w' = .ok (.string T) w' ∧ (convert 28 9 (.slice A2 RL c2)).run Tryd.prog w' = .ok (.string T) w' from fun w' h =>
    ⟨(XP.out.nx (K2.out.trans h)).cell 0 rfl, (XP.out.nx (K2.out.trans h)).cell 1 rfl, (XP.out.nx (K2.out.trans h)).cell 2 rfl, (XP.out.nx (K2.out.trans h)).cell 3 rfl, (XP.out.nx (K2.out.trans h)).cell 4 rfl,
     (XQ.out.nx (K2.out.trans h)).cell 0 rfl, (XQ.out.nx (K2.out.trans h)).cell 1 rfl, (XQ.out.nx (K2.out.trans h)).cell 2 rfl, (XQ.out.nx (K2.out.trans h)).cell 3 rfl, (XQ.out.nx (K2.out.trans h)).cell 4 rfl, CV1.out w' h, CV2.out w' h⟩)
  have AL2 := Lib.hid (fun w' (h : Nx u2 w') => AL.out w' (K2.out.trans h))
  have SZ2 := Lib.hid (fun w' (h : Nx u2 w') => SZ.out w' (K2.out.trans h))
  have E12 := Lib.hid (fun w' (h : Nx u2 w') => E1.out w' (K2.out.trans h))
  have E22 := Lib.hid (fun w' (h : Nx u2 w') => E2.out w' (K2.out.trans h))
  have E32 := Lib.hid (fun w' (h : Nx u2 w') => E3.out w' (K2.out.trans h))
  have K3 := Lib.hid (N0.out.trans K2.out)
  clear AL SZ E1 E2 E3 K2 N0 XP XQ CV1 CV2
  obtain ⟨x0, x1, x2, x3, x4, y0, y1, y2, y3, y4, v1, v2⟩ := HS.out u2 (Nx.refl _)
  have t1 : (T.toList == T.toList) = true := by simp
  have t2 : ((RL : Int) == (RL : Int)) = true := by simp
  have t3 : (z == z) = true := by simp
  have t4 : (B == B) = true := by simp
  go_wp2_with fail
  go_region_held3 (fun w' => w'.cell? ⟨g, 0, none⟩ = some (.int .i64 i) ∧ w'.cell? ⟨g, 1, none⟩ = some (.int .i64 q) ∧ w'.cell? ⟨g, 2, none⟩ = some (.int .i64 m) ∧ w'.cell? ⟨g, 3, none⟩ = some (.int .i64 e) ∧ w'.cell? ⟨g, 4, none⟩ = some (.slice A n c)
      ∧ w'.cell? ⟨g1, 0, none⟩ = some (.int .i64 i') ∧ w'.cell? ⟨g1, 1, none⟩ = some (.int .i64 q') ∧ w'.cell? ⟨g1, 2, none⟩ = some (.int .i64 m') ∧ w'.cell? ⟨g1, 3, none⟩ = some (.int .i64 e') ∧ w'.cell? ⟨g1, 4, none⟩ = some (.slice A' n' c')
      ∧ (convert 28 9 (.slice A1 RL c1)).run Tryd.prog w' = .ok (.string T) w' ∧ (convert 28 9 (.slice A2 RL c2)).run Tryd.prog w' = .ok (.string T) w')
    (first | exact HS.out _ (by repeat (first | exact Nx.refl _ | assumption | refine Nx.drew ?_ | refine Nx.drewN ?_ _ | refine Nx.alloc ?_ _ | refine Nx.trans ?_ (by assumption))))
    (first
      | (go_at_call 9; refine (AL2.out _ (by repeat (first | exact Nx.refl _ | assumption | refine Nx.drew ?_ | refine Nx.drewN ?_ _ | refine Nx.alloc ?_ _ | refine Nx.trans ?_ (by assumption)))).mono ?_; rintro r5 w5 ⟨rfl, h5⟩)
      | (go_at_call 12; refine (SZ2.out _ (by repeat (first | exact Nx.refl _ | assumption | refine Nx.drew ?_ | refine Nx.drewN ?_ _ | refine Nx.alloc ?_ _ | refine Nx.trans ?_ (by assumption)))).mono ?_; rintro r6 w6 ⟨rfl, h6⟩)
      | (go_at_call 14; refine (E22.out _ (by repeat (first | exact Nx.refl _ | assumption | refine Nx.drew ?_ | refine Nx.drewN ?_ _ | refine Nx.alloc ?_ _ | refine Nx.trans ?_ (by assumption)))).mono ?_; rintro r7 w7 ⟨rfl, h7⟩)
      | (go_at_call 13; (with_reducible refine Calls.mono (E12.out _ ?_) ?_); exact (by repeat (first | exact Nx.refl _ | assumption | refine Nx.drew ?_ | refine Nx.drewN ?_ _ | refine Nx.alloc ?_ _ | refine Nx.trans ?_ (by assumption))); rintro r8 w8 ⟨rfl, h8⟩)
      | (go_at_call 13; (with_reducible refine Calls.mono (E32.out _ ?_) ?_); exact (by repeat (first | exact Nx.refl _ | assumption | refine Nx.drew ?_ | refine Nx.drewN ?_ _ | refine Nx.alloc ?_ _ | refine Nx.trans ?_ (by assumption))); rintro r9 w9 ⟨rfl, h9⟩))
  all_goals go_wp2_with fail
  all_goals go_ret
  all_goals exact ⟨rfl, K3.out.trans (by repeat (first | exact Nx.refl _ | assumption | refine Nx.drew ?_ | refine Nx.drewN ?_ _ | refine Nx.alloc ?_ _ | refine Nx.trans ?_ (by assumption)))⟩
end Go.Proofs.YtdiamajkfbejhaaDoor
