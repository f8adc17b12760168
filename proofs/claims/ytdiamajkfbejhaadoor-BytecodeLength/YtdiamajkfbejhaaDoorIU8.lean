/- The walk of BytecodeLength. Condition: the table of opcodes holds what the program's text lays. -/
import Derived.Test.YtdiamajkfbejhaaDoorIU3
namespace Go.Proofs.YtdiamajkfbejhaaDoor
open Go.RowKit

/-- How long an instruction's encoding is, by its opcode. -/
theorem need_op {o : Int} (h : 0 ≤ o ∧ o ≤ 16) : (need (frm o) : Int) = if o ≤ 5 then 2 else if o ≤ 7 then 4 else if 11 ≤ o ∧ o ≤ 15 then 2 else 0 := by
  obtain ⟨k, rfl⟩ : ∃ k : Nat, o = (k : Int) := ⟨o.toNat, by omega⟩
  have hk : k < 17 := by omega
  rcases seventeen hk with rfl|rfl|rfl|rfl|rfl|rfl|rfl|rfl|rfl|rfl|rfl|rfl|rfl|rfl|rfl|rfl|rfl <;> decide
theorem enc_same {i q m e : Int} {code : List In4} {i' q' m' e' : Int} {code' : List In4} (h : Vd i q m e code) (h' : Vd i' q' m' e' code') : decide (enc i q m e code = enc i' q' m' e' code') = eqP i q m e code i' q' m' e' code' := by
  unfold eqP
  by_cases he : enc i q m e code = enc i' q' m' e' code'
  · rw [decide_eq_true he, decide_eq_true (enc_inj h h' he)]
  · rw [decide_eq_false he, decide_eq_false (fun g => he (by obtain ⟨rfl, rfl, rfl, rfl, rfl⟩ := g; rfl))]
set_option maxHeartbeats 12800000 in
set_option maxRecDepth 1000000 in
theorem law8_len (i q m e : Int) (A : Option Addr) (code : List In4) (n c : Nat) (hn : code.length = n ∧ n ≤ maxLen) (i' q' m' e' : Int) (A' : Option Addr) (code' : List In4) (n' c' : Nat) (hn' : code'.length = n' ∧ n' ≤ maxLen) (w : World) (hr : RdC w A code) (hr' : RdC w A' code') (he : Ev w) :
    Calls Tryd.prog 8 #[pgV i q m e A n c, pgV i' q' m' e' A' n' c'] w fun r w' => r = .returned (.bool true) ∧ Nx w w' := by
  have HE := Lib.hid he
  have HC := Lib.hid hr
  have HC' := Lib.hid hr'
  have HL := Lib.hid hn.1
  have HM := Lib.hid hn.2
  have HL' := Lib.hid hn'.1
  have HM' := Lib.hid hn'.2
  have hnm := hn.2
  have hnm' := hn'.2
  unfold maxLen at hnm hnm'
  clear he hr hr' hn hn'
  have N0 := Lib.hid (show Nx w ((w.alloc (.cells #[.int .i64 i, .int .i64 q, .int .i64 m, .int .i64 e, .slice A n c] 26)).alloc (.cells #[.int .i64 i', .int .i64 q', .int .i64 m', .int .i64 e', .slice A' n' c'] 26)) from (Nx.one _ _).alloc _)
  have XP := Lib.hid (show Bx ((w.alloc (.cells #[.int .i64 i, .int .i64 q, .int .i64 m, .int .i64 e, .slice A n c] 26)).alloc (.cells #[.int .i64 i', .int .i64 q', .int .i64 m', .int .i64 e', .slice A' n' c'] 26)) w.heap.size 26 (pgC i q m e A n c) from (bx_new w 26 (pgC i q m e A n c)).nx (Nx.one _ _))
  have XQ := Lib.hid (show Bx ((w.alloc (.cells #[.int .i64 i, .int .i64 q, .int .i64 m, .int .i64 e, .slice A n c] 26)).alloc (.cells #[.int .i64 i', .int .i64 q', .int .i64 m', .int .i64 e', .slice A' n' c'] 26)) (w.heap.size + 1) 26 (pgC i' q' m' e' A' n' c') from bx_newB _ _ (by simp) 26 (pgC i' q' m' e' A' n' c'))
  unfold pgV
  go_enter Tryd.func8, Tryd.ntmps8
  go_upto_region 1 with fail
  generalize hV0 : (w.alloc (.cells #[.int .i64 i, .int .i64 q, .int .i64 m, .int .i64 e, .slice A n c] 26)).alloc (.cells #[.int .i64 i', .int .i64 q', .int .i64 m', .int .i64 e', .slice A' n' c'] 26) = V0 at *
  clear hV0
  generalize w.heap.size + 1 = g1 at *
  generalize w.heap.size = g at *
  have x4 := XP.out.cell 4 rfl
  have y4 := XQ.out.cell 4 rfl
  by_cases hb : 300 < n
  · have hbi : (300 : Int) < (n : Int) := by omega
    go_wp2_with fail
    refine (alive_any _ (HE.out.nx N0.out)).mono ?_
    rintro r w1 ⟨rfl, q1⟩
    go_wp2_with fail
    go_ret
    exact ⟨rfl, N0.out.trans q1⟩
  have hbi : ¬ (300 : Int) < (n : Int) := by omega
  by_cases hb1 : 300 < n'
  · have hbi1 : (300 : Int) < (n' : Int) := by omega
    go_wp2_with fail
    refine (alive_any _ (HE.out.nx N0.out)).mono ?_
    rintro r w1 ⟨rfl, q1⟩
    go_wp2_with fail
    go_ret
    exact ⟨rfl, N0.out.trans q1⟩
  have hbi1 : ¬ (300 : Int) < (n' : Int) := by omega
  have VP := Lib.hid (fun w' (h : Nx V0 w') => valid_any i q m e A code n c HL.out HM.out w' (HC.out.nx (N0.out.trans h)) (HE.out.nx (N0.out.trans h)))
  have VQ := Lib.hid (fun w' (h : Nx V0 w') => valid_any i' q' m' e' A' code' n' c' HL'.out HM'.out w' (HC'.out.nx (N0.out.trans h)) (HE.out.nx (N0.out.trans h)))
  have x0 := XP.out.cell 0 rfl
  have x1 := XP.out.cell 1 rfl
  have x2 := XP.out.cell 2 rfl
  have x3 := XP.out.cell 3 rfl
  unfold pgV at VP VQ
  by_cases hv : (ckA i q m e code).2.2 = 0
  rotate_left
  · rw [decide_eq_false hv] at VP
    clear hv
    go_wp2_with fail
    refine (VP.out _ (Nx.refl _)).mono ?_
    rintro r w1 ⟨rfl, q1⟩
    have Q1 := Lib.hid (N0.out.trans q1)
    clear q1
    go_wp2_with fail
    refine (alive_any _ (HE.out.nx Q1.out)).mono ?_
    rintro r w2 ⟨rfl, q2⟩
    go_wp2_with fail
    go_ret
    exact ⟨rfl, Q1.out.trans q2⟩
  rw [decide_eq_true hv] at VP
  have HVD := Lib.hid (Vd.of hv)
  have HZ := Lib.hid hv
  clear hv
  go_wp2_with fail
  refine (VP.out _ (Nx.refl _)).mono ?_
  rintro r w1 ⟨rfl, q1⟩
  have Q1 := Lib.hid q1
  clear q1 x0 x1 x2 x3 x4 y4
  have y0 := (XQ.out.nx Q1.out).cell 0 rfl
  have y1 := (XQ.out.nx Q1.out).cell 1 rfl
  have y2 := (XQ.out.nx Q1.out).cell 2 rfl
  have y3 := (XQ.out.nx Q1.out).cell 3 rfl
  have y4 := (XQ.out.nx Q1.out).cell 4 rfl
  by_cases hv : (ckA i' q' m' e' code').2.2 = 0
  rotate_left
  · rw [decide_eq_false hv] at VQ
    clear hv
    go_wp2_with fail
    refine (VQ.out _ Q1.out).mono ?_
    rintro r w2 ⟨rfl, q2⟩
    have Q2 := Lib.hid (N0.out.trans (Q1.out.trans q2))
    clear q2
    go_wp2_with fail
    refine (alive_any _ (HE.out.nx Q2.out)).mono ?_
    rintro r w3 ⟨rfl, q3⟩
    go_wp2_with fail
    go_ret
    exact ⟨rfl, Q2.out.trans q3⟩
  rw [decide_eq_true hv] at VQ
  have HVD' := Lib.hid (Vd.of hv)
  have HZ' := Lib.hid hv
  clear hv
  go_wp2_with fail
  refine (VQ.out _ Q1.out).mono ?_
  rintro r w2 ⟨rfl, q2⟩
  have Q2 := Lib.hid (Q1.out.trans q2)
  clear q2 y0 y1 y2 y3 y4 VP VQ Q1
  have x4 := (XP.out.nx Q2.out).cell 4 rfl
  go_wp2_with fail
  clear x4
  go_loopw [5, 36] (fun s j wr => ∃ k : Nat, k ≤ n ∧ j = .int .i64 k ∧ s = .int .i64 ((13 + (body (code.take k)).length : Nat) : Int) ∧ Nx V0 wr) (fun _ j _ => n - (intOf j).toNat)
  case atStart => exact ⟨0, Nat.zero_le _, rfl, rfl, Q2.out⟩
  case round =>
    obtain ⟨k, hk, rfl, rfl, hnx⟩ := hrel
    have HN := Lib.hid hnx
    clear hnx
    have hbd : (body (code.take k)).length ≤ 500000 := by
      have h1 := body_le (code.take k)
      have h2 := List.length_take_le k code
      have h3 := HL.out
      omega
    by_cases hlt : k < n
    · obtain ⟨x, hx⟩ := code_at code k (by rw [HL.out]; exact hlt)
      have hki : (k : Int) < (n : Int) := by omega
      have HS := Lib.hid (show (body (code.take (k + 1))).length = (body (code.take k)).length + (1 + need (frm x.op)) by rw [body_take hx, List.length_append, enc1_len])
      have hop := (HVD.out.okx hx).op
      have HND := Lib.hid (need_op hop)
      obtain ⟨ad, rfl, c0, c1, c2, c3⟩ := (HC.out.nx (N0.out.trans HN.out)).fr4 hx
      clear hx
      obtain ⟨op, kk, nn, t⟩ := x
      simp only at HS HND c0 c1 c2 c3 hop
      generalize (body (code.take k)).length = Lb at *
      generalize need (frm op) = nd at *
      have N1 := Lib.hid (show Nx V0 (wr.alloc (.cells #[.int .i64 op, .int .i64 kk, .int .i64 nn, .int .i64 t] 46)) from HN.out.alloc _)
      have XB := bx_new wr 46 [.int .i64 op, .int .i64 kk, .int .i64 nn, .int .i64 t]
      have b0 := XB.cell 0 rfl
      clear XB
      by_cases h5 : op ≤ 5
      · have HK := Lib.hid (show nd = 2 by have := HND.out; rw [if_pos h5] at this; omega)
        go_wp2_with fail
        go_roundw
        case rel => exact ⟨k + 1, by omega, by go_num, by rw [HS.out, HK.out]; go_num, N1.out⟩
        case measure => simp [intOf]; omega
      by_cases h7 : op ≤ 7
      · have HK := Lib.hid (show nd = 4 by have := HND.out; rw [if_neg h5, if_pos h7] at this; omega)
        have h11 : ¬ (11 : Int) ≤ op := by omega
        go_wp2_with fail
        go_roundw
        case rel => exact ⟨k + 1, by omega, by go_num, by rw [HS.out, HK.out]; go_num, N1.out⟩
        case measure => simp [intOf]; omega
      by_cases h11 : 11 ≤ op
      · have HK := Lib.hid (show nd = if op ≤ 15 then 2 else 0 by
          have := HND.out
          rw [if_neg h5, if_neg h7] at this
          by_cases h15 : op ≤ 15
          · rw [if_pos ⟨h11, h15⟩] at this; rw [if_pos h15]; omega
          · rw [if_neg (by omega)] at this; rw [if_neg h15]; omega)
        by_cases h14 : op ≤ 14
        · rw [if_pos (by omega)] at HK
          go_wp2_with fail
          go_roundw
          case rel => exact ⟨k + 1, by omega, by go_num, by rw [HS.out, HK.out]; go_num, N1.out⟩
          case measure => simp [intOf]; omega
        by_cases h15 : op = 15
        · subst h15
          rw [if_pos (by omega)] at HK
          go_wp2_with fail
          go_roundw
          case rel => exact ⟨k + 1, by omega, by go_num, by rw [HS.out, HK.out]; go_num, N1.out⟩
          case measure => simp [intOf]; omega
        · obtain rfl : op = 16 := by omega
          rw [if_neg (by omega)] at HK
          go_wp2_with fail
          go_roundw
          case rel => exact ⟨k + 1, by omega, by go_num, by rw [HS.out, HK.out]; go_num, N1.out⟩
          case measure => simp [intOf]; omega
      · have HK := Lib.hid (show nd = 0 by have := HND.out; rw [if_neg h5, if_neg h7, if_neg (by omega)] at this; omega)
        have h15 : (op == 15) = false := by rw [beq_eq_false_iff_ne]; omega
        go_wp2_with fail
        go_roundw
        case rel => exact ⟨k + 1, by omega, by go_num, by rw [HS.out, HK.out]; go_num, N1.out⟩
        case measure => simp [intOf]; omega
    · have hki : ¬ (k : Int) < (n : Int) := by omega
      have HLE := Lib.hid (show 13 + (body (code.take k)).length = (enc i q m e code).length by rw [List.take_of_length_le (by rw [HL.out]; omega), enc_len])
      rw [HLE.out]
      have EN := Lib.hid (fun w' (h : Nx V0 w') => encode_any i q m e A code n c HL.out HM.out w' (HC.out.nx (N0.out.trans h)) (HE.out.nx (N0.out.trans h)))
      have EQ := Lib.hid (fun w' (h : Nx V0 w') => encode_any i' q' m' e' A' code' n' c' HL'.out HM'.out w' (HC'.out.nx (N0.out.trans h)) (HE.out.nx (N0.out.trans h)))
      have SZ := Lib.hid (fun w' (h : Nx V0 w') => size_any i q m e A code n c HL.out HM.out w' (HC.out.nx (N0.out.trans h)) (HE.out.nx (N0.out.trans h)))
      have E1 := Lib.hid (fun w' (h : Nx V0 w') => equal_any i q m e A code n c i' q' m' e' A' code' n' c' HL.out HL'.out HM.out HM'.out w' (HC.out.nx (N0.out.trans h)) (HC'.out.nx (N0.out.trans h)))
      have AL := Lib.hid (fun w' (h : Nx V0 w') => alive_any w' (HE.out.nx (N0.out.trans h)))
      rw [szA_eq, encA_ok HZ.out] at SZ
      rw [encA_ok HZ.out] at EN
      rw [encA_ok HZ'.out] at EQ
      have HSM := Lib.hid (enc_same HVD.out HVD'.out)
      have HLL := Lib.hid (show (enc i q m e code).length ≤ 900000 by rw [← HLE.out]; omega)
      clear HLE hbd
      obtain ⟨B, hB⟩ : ∃ B, eqP i q m e code i' q' m' e' code' = B := ⟨_, rfl⟩
      rw [hB] at E1 HSM
      clear hB HC HC' HM HM' HE HVD HVD' HZ HZ'
      obtain ⟨bs, hbs⟩ : ∃ bs, enc i q m e code = bs := ⟨_, rfl⟩
      obtain ⟨bt, hbt⟩ : ∃ bt, enc i' q' m' e' code' = bt := ⟨_, rfl⟩
      rw [hbs] at EN SZ HSM HLL ⊢
      rw [hbt] at EQ HSM
      clear hbs hbt
      obtain ⟨RL, hRL⟩ : ∃ RL, bs.length = RL := ⟨_, rfl⟩
      have HRL := Lib.hid hRL
      obtain ⟨RM, hRM⟩ : ∃ RM, bt.length = RM := ⟨_, rfl⟩
      have HRM := Lib.hid hRM
      simp only at SZ
      rw [hRL] at SZ HLL ⊢
      unfold pgV at EN EQ SZ E1
      clear hRL hRM
      have hll := HLL.out
      have x0 := (XP.out.nx HN.out).cell 0 rfl
      have x1 := (XP.out.nx HN.out).cell 1 rfl
      have x2 := (XP.out.nx HN.out).cell 2 rfl
      have x3 := (XP.out.nx HN.out).cell 3 rfl
      have x4 := (XP.out.nx HN.out).cell 4 rfl
      go_wp2_with fail
      refine (EN.out _ HN.out).mono ?_
      rintro r u1 ⟨A1, c1, rfl, hrd1, hnl1, _, k1⟩
      simp only at hrd1 hnl1 ⊢
      rw [HRL.out]
      have K1 := Lib.hid (HN.out.trans k1)
      have HR1 := Lib.hid hrd1
      have HN1 := Lib.hid hnl1
      clear k1 hrd1 hnl1 x0 x1 x2 x3 x4 EN
      have y0 := (XQ.out.nx K1.out).cell 0 rfl
      have y1 := (XQ.out.nx K1.out).cell 1 rfl
      have y2 := (XQ.out.nx K1.out).cell 2 rfl
      have y3 := (XQ.out.nx K1.out).cell 3 rfl
      have y4 := (XQ.out.nx K1.out).cell 4 rfl
      go_wp2_with fail
      refine (EQ.out _ K1.out).mono ?_
      rintro r u2 ⟨A2, c2, rfl, hrd2, hnl2, _, k2⟩
      simp only at hrd2 hnl2 ⊢
      rw [HRM.out]
      have K2 := Lib.hid (K1.out.trans k2)
      have CV1 := Lib.hid (fun w' (h : Nx u2 w') => conv_y' A1 bs RL c1 w' HRL.out (HR1.out.nx (k2.trans h)) (fun e => (HN1.out e).2))
      have CV2 := Lib.hid (fun w' (h : Nx u2 w') => conv_y' A2 bt RM c2 w' HRM.out (hrd2.nx h) (fun e => (hnl2 e).2))
      have t1 : ((⟨bs.toArray⟩ : ByteArray).toList == (⟨bt.toArray⟩ : ByteArray).toList) = B := by rw [str_eq]; exact HSM.out
      clear k2 hrd2 hnl2 y0 y1 y2 y3 y4 EQ K1 HR1 HN1 HRL HRM HSM
      obtain ⟨T, hT⟩ : ∃ T : ByteArray, ⟨bs.toArray⟩ = T := ⟨_, rfl⟩
      obtain ⟨S, hS⟩ : ∃ S : ByteArray, ⟨bt.toArray⟩ = S := ⟨_, rfl⟩
      rw [hT] at CV1 t1
      rw [hS] at CV2 t1
      clear hT hS
      have HS := Lib.hid (show ∀ w', Nx u2 w' → w'.cell? ⟨g, 0, none⟩ = some (.int .i64 i) ∧ w'.cell? ⟨g, 1, none⟩ = some (.int .i64 q) ∧ w'.cell? ⟨g, 2, none⟩ = some (.int .i64 m) ∧ w'.cell? ⟨g, 3, none⟩ = some (.int .i64 e) ∧ w'.cell? ⟨g, 4, none⟩ = some (.slice A n c)
          ∧ w'.cell? ⟨g1, 0, none⟩ = some (.int .i64 i') ∧ w'.cell? ⟨g1, 1, none⟩ = some (.int .i64 q') ∧ w'.cell? ⟨g1, 2, none⟩ = some (.int .i64 m') ∧ w'.cell? ⟨g1, 3, none⟩ = some (.int .i64 e') ∧ w'.cell? ⟨g1, 4, none⟩ = some (.slice A' n' c')
          ∧ (convert 28 9 (.slice A1 RL c1)).run Tryd.prog w' = .ok (.string T) w' ∧ (convert 28 9 (.slice A2 RM c2)).run Tryd.prog w' = .ok (.string S) w' from fun w' h =>
        ⟨(XP.out.nx (K2.out.trans h)).cell 0 rfl, (XP.out.nx (K2.out.trans h)).cell 1 rfl, (XP.out.nx (K2.out.trans h)).cell 2 rfl, (XP.out.nx (K2.out.trans h)).cell 3 rfl, (XP.out.nx (K2.out.trans h)).cell 4 rfl,
         (XQ.out.nx (K2.out.trans h)).cell 0 rfl, (XQ.out.nx (K2.out.trans h)).cell 1 rfl, (XQ.out.nx (K2.out.trans h)).cell 2 rfl, (XQ.out.nx (K2.out.trans h)).cell 3 rfl, (XQ.out.nx (K2.out.trans h)).cell 4 rfl, CV1.out w' h, CV2.out w' h⟩)
      have AL2 := Lib.hid (fun w' (h : Nx u2 w') => AL.out w' (K2.out.trans h))
      have SZ2 := Lib.hid (fun w' (h : Nx u2 w') => SZ.out w' (K2.out.trans h))
      have E12 := Lib.hid (fun w' (h : Nx u2 w') => E1.out w' (K2.out.trans h))
      have K3 := Lib.hid (N0.out.trans K2.out)
      clear AL SZ E1 K2 N0 XP XQ CV1 CV2 HN Q2
      obtain ⟨x0, x1, x2, x3, x4, y0, y1, y2, y3, y4, v1, v2⟩ := HS.out u2 (Nx.refl _)
      have t2 : ((RL : Int) == (RL : Int)) = true := by simp
      have t4 : (B == B) = true := by simp
      go_wp2_with fail
      go_region_held3 (fun w' => w'.cell? ⟨g, 0, none⟩ = some (.int .i64 i) ∧ w'.cell? ⟨g, 1, none⟩ = some (.int .i64 q) ∧ w'.cell? ⟨g, 2, none⟩ = some (.int .i64 m) ∧ w'.cell? ⟨g, 3, none⟩ = some (.int .i64 e) ∧ w'.cell? ⟨g, 4, none⟩ = some (.slice A n c)
          ∧ w'.cell? ⟨g1, 0, none⟩ = some (.int .i64 i') ∧ w'.cell? ⟨g1, 1, none⟩ = some (.int .i64 q') ∧ w'.cell? ⟨g1, 2, none⟩ = some (.int .i64 m') ∧ w'.cell? ⟨g1, 3, none⟩ = some (.int .i64 e') ∧ w'.cell? ⟨g1, 4, none⟩ = some (.slice A' n' c')
          ∧ (convert 28 9 (.slice A1 RL c1)).run Tryd.prog w' = .ok (.string T) w' ∧ (convert 28 9 (.slice A2 RM c2)).run Tryd.prog w' = .ok (.string S) w')
        (first | exact HS.out _ (by repeat (first | exact Nx.refl _ | assumption | refine Nx.drew ?_ | refine Nx.drewN ?_ _ | refine Nx.alloc ?_ _ | refine Nx.trans ?_ (by assumption))))
        (first
          | (go_at_call 9; refine (AL2.out _ (by repeat (first | exact Nx.refl _ | assumption | refine Nx.drew ?_ | refine Nx.drewN ?_ _ | refine Nx.alloc ?_ _ | refine Nx.trans ?_ (by assumption)))).mono ?_; rintro r5 w5 ⟨rfl, h5⟩)
          | (go_at_call 12; refine (SZ2.out _ (by repeat (first | exact Nx.refl _ | assumption | refine Nx.drew ?_ | refine Nx.drewN ?_ _ | refine Nx.alloc ?_ _ | refine Nx.trans ?_ (by assumption)))).mono ?_; rintro r6 w6 ⟨rfl, h6⟩)
          | (go_at_call 13; refine (E12.out _ (by repeat (first | exact Nx.refl _ | assumption | refine Nx.drew ?_ | refine Nx.drewN ?_ _ | refine Nx.alloc ?_ _ | refine Nx.trans ?_ (by assumption)))).mono ?_; rintro r7 w7 ⟨rfl, h7⟩))
      all_goals go_wp2_with fail
      all_goals go_ret
      all_goals exact ⟨rfl, K3.out.trans (by repeat (first | exact Nx.refl _ | assumption | refine Nx.drew ?_ | refine Nx.drewN ?_ _ | refine Nx.alloc ?_ _ | refine Nx.trans ?_ (by assumption)))⟩
end Go.Proofs.YtdiamajkfbejhaaDoor
