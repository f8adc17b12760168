/- The walk of BytecodeRoundTrip. Condition: the table of opcodes holds what the program's text lays. -/
import Derived.Test.YtdiamajkfbejhaaDoorITI
import Derived.Test.YtdiamajkfbejhaaDoorITG
import Derived.Test.YtdiamajkfbejhaaDoorIT8
import Derived.Deep.DeepCutAuto
namespace Go.Proofs.YtdiamajkfbejhaaDoor
open Go.RowKit

set_option maxHeartbeats 12800000 in
set_option maxRecDepth 1000000 in
theorem law8_round (i q m e : Int) (A : Option Addr) (code : List In4) (n c : Nat) (hn : code.length = n ∧ n ≤ maxLen) (A1 : Option Addr) (bs1 : List UInt8) (n1 c1 : Nat) (hl1 : bs1.length = n1) (hc1 : n1 ≤ c1 ∧ c1 ≤ maxLen) (hn1 : A1 = none → c1 = 0) (w : World) (hr : RdC w A code) (hr1 : RdY w A1 bs1) (he : Ev w) :
    Calls Tryd.prog 5 #[pgV i q m e A n c, .slice A1 n1 c1] w fun r w' => r = .returned (.bool true) ∧ Nx w w' := by
  have HE := Lib.hid he
  have HC := Lib.hid hr
  have HR1 := Lib.hid hr1
  have HL := Lib.hid hn.1
  have HM := Lib.hid hn.2
  have HL1 := Lib.hid hl1
  have HC1 := Lib.hid hc1
  have HN1 := Lib.hid hn1
  have hnm := hn.2
  have hnm1 : n1 ≤ maxLen := Nat.le_trans hc1.1 hc1.2
  unfold maxLen at hnm hnm1
  clear he hr hr1 hn hl1 hc1 hn1
  have N0 := Lib.hid (Nx.one w (.cells #[.int .i64 i, .int .i64 q, .int .i64 m, .int .i64 e, .slice A n c] 26))
  have XP := Lib.hid (bx_new w 26 (pgC i q m e A n c))
  unfold pgV
  go_enter Tryd.func5, Tryd.ntmps5
  go_upto_region 1 with fail
  generalize hV0 : w.alloc (.cells #[.int .i64 i, .int .i64 q, .int .i64 m, .int .i64 e, .slice A n c] 26) = V0 at *
  rw [show w.alloc (.cells (pgC i q m e A n c).toArray 26) = V0 from hV0] at XP
  clear hV0
  generalize w.heap.size = g at *
  have x4 := XP.out.cell 4 rfl
  by_cases hb : 1000 < n
  · have hbi : (1000 : Int) < (n : Int) := by omega
    go_wp2_with fail
    refine (alive_any _ (HE.out.nx N0.out)).mono ?_
    rintro r w1 ⟨rfl, q1⟩
    go_wp2_with fail
    go_ret
    exact ⟨rfl, N0.out.trans q1⟩
  have hbi : ¬ (1000 : Int) < (n : Int) := by omega
  by_cases hb1 : 3000 < n1
  · have hbi1 : (3000 : Int) < (n1 : Int) := by omega
    go_wp2_with fail
    refine (alive_any _ (HE.out.nx N0.out)).mono ?_
    rintro r w1 ⟨rfl, q1⟩
    go_wp2_with fail
    go_ret
    exact ⟨rfl, N0.out.trans q1⟩
  have hbi1 : ¬ (3000 : Int) < (n1 : Int) := by omega
  have x0 := XP.out.cell 0 rfl
  have x1 := XP.out.cell 1 rfl
  have x2 := XP.out.cell 2 rfl
  have x3 := XP.out.cell 3 rfl
  have EN := Lib.hid (encode_any i q m e A code n c HL.out HM.out V0 (HC.out.nx N0.out) (HE.out.nx N0.out))
  unfold pgV at EN
  go_wp2_with fail
  refine EN.out.mono ?_
  rintro r u1 ⟨A', c', rfl, hrd, hnl, hcap, k1⟩
  have U1 := Lib.hid (N0.out.trans k1)
  have XP1 := Lib.hid (XP.out.nx k1)
  have HC1' := Lib.hid (HC.out.nx (N0.out.trans k1))
  have HRD := Lib.hid hrd
  have HNL := Lib.hid hnl
  clear k1 hrd hnl EN x0 x1 x2 x3 x4
  by_cases hz0 : (ckA i q m e code).2.2 = 0
  rotate_left
  · rw [encA_no hz0] at hcap ⊢
    have t0 : ((ckA i q m e code).2.2 == 0) = false := by simpa using hz0
    clear hz0 hcap HRD HNL
    generalize (ckA i q m e code).2.2 = z3 at *
    simp only
    have M0 := Lib.hid (U1.out)
    have DB := Lib.hid (decode_any A1 bs1 n1 c1 HL1.out HC1.out.1 HC1.out.2 HN1.out u1 (HR1.out.nx M0.out) (HE.out.nx M0.out))
    go_wp2_with fail
    refine DB.out.mono ?_
    rintro r v1 ⟨A2, c2, rfl, hc2, _, _, m1⟩
    have M1 := Lib.hid (M0.out.trans m1)
    have HC2 := Lib.hid hc2
    clear m1 hc2 DB
    by_cases hz : (decA bs1).err = 0
    rotate_left
    · obtain ⟨a, x, hD, hle⟩ := decA_bad hz
      rw [hD] at hz HC2 ⊢
      have hx : x ≠ 0 := hz
      have t1 : (x == 0) = false := by simpa using hx
      have t2 : (x != 0) = true := by simpa using hx
      clear hz hx hD
      have hle' : (a : Int) ≤ (n1 : Int) := by have := HL1.out; omega
      have hge : (0 : Int) ≤ (a : Int) := by omega
      unfold bad
      simp only
      unfold pgV
      rw [show ([] : List In4).length = 0 from rfl]
      have XQ := Lib.hid (bx_new v1 26 (pgC 0 0 0 0 A2 0 c2))
      have M2 := Lib.hid (M1.out.alloc (.cells #[.int .i64 0, .int .i64 0, .int .i64 0, .int .i64 0, .slice A2 0 c2] 26))
      go_upto_region 14 with fail
      generalize hV2 : v1.alloc (.cells #[.int .i64 0, .int .i64 0, .int .i64 0, .int .i64 0, .slice A2 0 c2] 26) = v2 at *
      rw [show v1.alloc (.cells (pgC 0 0 0 0 A2 0 c2).toArray 26) = v2 from hV2] at XQ
      clear hV2
      generalize v1.heap.size = qb at *
      go_wp2_with fail
      refine (alive_any _ (HE.out.nx M2.out)).mono ?_
      rintro r v3 ⟨rfl, m3⟩
      have M3 := Lib.hid (M2.out.trans m3)
      have y4 := (XQ.out.nx m3).cell 4 rfl
      clear m3
      go_wp2_with fail
      go_ret
      exact ⟨rfl, M3.out⟩
    obtain ⟨hvd, henc, hat⟩ := decA_inv hz
    have HVD := Lib.hid hvd
    have HEN := Lib.hid henc
    rcases hDD : decA bs1 with ⟨di, dq, dm, de, dc, da, dx⟩
    
    rw [hDD] at hz hat HVD HEN HC2
    try rw [hDD]
    simp only at hz hat HVD HEN HC2 ⊢
    subst hz
    clear hvd henc hDD
    have hdn : da = n1 := by rw [hat]; exact HL1.out
    subst hdn
    clear hat
    obtain ⟨dl, hdl⟩ : ∃ dl, dc.length = dl := ⟨_, rfl⟩
    have HDL := Lib.hid hdl
    have hdb : dl ≤ 65535 := by rw [← hdl]; exact HVD.out.big
    have hdm : dl ≤ maxLen := by unfold maxLen; omega
    rw [hdl]
    clear hdl
    unfold pgV
    have XQ := Lib.hid (bx_new v1 26 (pgC di dq dm de A2 dl c2))
    have M2 := Lib.hid (M1.out.alloc (.cells #[.int .i64 di, .int .i64 dq, .int .i64 dm, .int .i64 de, .slice A2 dl c2] 26))
    have HC3 := Lib.hid (HC2.out.nx (Nx.one v1 (.cells #[.int .i64 di, .int .i64 dq, .int .i64 dm, .int .i64 de, .slice A2 dl c2] 26)))
    go_upto_region 15 with fail
    generalize hV2 : v1.alloc (.cells #[.int .i64 di, .int .i64 dq, .int .i64 dm, .int .i64 de, .slice A2 dl c2] 26) = v2 at *
    rw [show v1.alloc (.cells (pgC di dq dm de A2 dl c2).toArray 26) = v2 from hV2] at XQ
    clear hV2
    generalize v1.heap.size = qb at *
    have EC := Lib.hid (encode_any di dq dm de A2 dc dl c2 HDL.out hdm v2 HC3.out (HE.out.nx M2.out))
    rw [encA_ok (show (ckA di dq dm de dc).2.2 = 0 by rw [HVD.out.ans]), HEN.out] at EC
    have VL := Lib.hid (fun w' (h : Nx v2 w') => valid_any di dq dm de A2 dc dl c2 HDL.out hdm w' (HC3.out.nx h) (HE.out.nx (M2.out.trans h)))
    rw [show (ckA di dq dm de dc).2.2 = 0 by rw [HVD.out.ans], decide_eq_true (show (0 : Int) = 0 from rfl)] at VL
    unfold pgV at EC VL
    clear hdm
    have x0 := XQ.out.cell 0 rfl
    have x1 := XQ.out.cell 1 rfl
    have x2 := XQ.out.cell 2 rfl
    have x3 := XQ.out.cell 3 rfl
    have x4 := XQ.out.cell 4 rfl
    go_wp2_with fail
    refine EC.out.mono ?_
    rintro r v3 ⟨A4, c4, rfl, hrd4, hnl4, _, m3⟩
    simp only at hrd4 hnl4 ⊢
    rw [HL1.out]
    have K3 := Lib.hid m3
    have M3 := Lib.hid (M2.out.trans m3)
    have HR4 := Lib.hid hrd4
    have HN4 := Lib.hid hnl4
    clear m3 hrd4 hnl4 x0 x1 x2 x3 x4 EC
    go_wp2_with fail
    refine (alive_any _ (HE.out.nx M3.out)).mono ?_
    rintro r v4 ⟨rfl, m4⟩
    have K4 := Lib.hid (K3.out.trans m4)
    have M4 := Lib.hid (M3.out.trans m4)
    have cv1 := conv_y' A4 bs1 da c4 v4 HL1.out (HR4.out.nx m4) (fun e => (HN4.out e).2)
    have cv2 := conv_y' A1 bs1 da c1 v4 HL1.out (HR1.out.nx M4.out) HN1.out
    have e1 : ((⟨bs1.toArray⟩ : ByteArray).toList == (⟨bs1.toArray⟩ : ByteArray).toList) = true := by simp
    have e2 : ((da : Int) == (da : Int)) = true := by simp
    have x0 := (XQ.out.nx K4.out).cell 0 rfl
    have x1 := (XQ.out.nx K4.out).cell 1 rfl
    have x2 := (XQ.out.nx K4.out).cell 2 rfl
    have x3 := (XQ.out.nx K4.out).cell 3 rfl
    have x4 := (XQ.out.nx K4.out).cell 4 rfl
    clear m4
    go_wp2_with fail
    refine (VL.out _ K4.out).mono ?_
    rintro r v5 ⟨rfl, m5⟩
    have M5 := Lib.hid (M4.out.trans m5)
    clear m5 x0 x1 x2 x3 x4 cv1 cv2 e1 e2
    go_wp2_with fail
    go_ret
    exact ⟨rfl, M5.out⟩
  have HVD0 := Lib.hid (Vd.of hz0)
  rw [encA_ok hz0] at HRD HNL hcap ⊢
  clear hz0
  simp only at HRD HNL hcap ⊢
  have HDE := Lib.hid (decA_enc HVD0.out)
  have HMO := Lib.hid (decA_more HVD0.out 0)
  have HCU := Lib.hid (fun k (h : k < (enc i q m e code).length) => decA_cut HVD0.out h)
  have HLE := Lib.hid (show 13 ≤ (enc i q m e code).length ∧ (enc i q m e code).length ≤ 400000 by
    have := body_le code
    have := HVD0.out.big
    rw [enc_len]; omega)
  obtain ⟨bs, hbs⟩ : ∃ bs, enc i q m e code = bs := ⟨_, rfl⟩
  rw [hbs] at HRD HNL hcap HDE HMO HCU HLE ⊢
  clear hbs HVD0
  obtain ⟨L, hL⟩ : ∃ L, bs.length = L := ⟨_, rfl⟩
  have HBL := Lib.hid hL
  rw [hL] at hcap HDE HMO HCU HLE ⊢
  clear hL
  obtain ⟨l, rfl⟩ : ∃ l, L = l + 1 := ⟨L - 1, by have := HLE.out; omega⟩
  have hle := HLE.out
  have CU := HCU.out l (by omega)
  rw [if_neg (by omega)] at CU
  have HCUT := Lib.hid CU
  clear CU HCU
  have hcap1 := hcap.1
  have hcap2 := hcap.2
  unfold maxLen at hcap2
  have D1 := Lib.hid (decode_any A' bs (l + 1) c' HBL.out hcap.1 hcap.2 (fun e => (HNL.out e).2) u1 HRD.out (HE.out.nx U1.out))
  rw [HDE.out] at D1
  obtain ⟨ad, rfl⟩ := HRD.out.atA (by rw [HBL.out]; omega)
  clear hcap
  go_wp2_with fail
  refine D1.out.mono ?_
  rintro r u2 ⟨A2, c2, rfl, hc2, _, _, k2⟩
  have K2 := Lib.hid k2
  have U2 := Lib.hid (U1.out.trans k2)
  have HC2 := Lib.hid hc2
  clear k2 hc2 D1
  unfold pgV
  simp only at HC2 ⊢
  rw [HL.out]
  have XQ := Lib.hid (bx_new u2 26 (pgC i q m e A2 n c2))
  have U3 := Lib.hid (U2.out.alloc (.cells #[.int .i64 i, .int .i64 q, .int .i64 m, .int .i64 e, .slice A2 n c2] 26))
  have K3 := Lib.hid (K2.out.alloc (.cells #[.int .i64 i, .int .i64 q, .int .i64 m, .int .i64 e, .slice A2 n c2] 26))
  have HC3 := Lib.hid (HC2.out.nx (Nx.one u2 (.cells #[.int .i64 i, .int .i64 q, .int .i64 m, .int .i64 e, .slice A2 n c2] 26)))
  go_upto_region 6 with fail
  generalize hV2 : u2.alloc (.cells #[.int .i64 i, .int .i64 q, .int .i64 m, .int .i64 e, .slice A2 n c2] 26) = u3 at *
  rw [show u2.alloc (.cells (pgC i q m e A2 n c2).toArray 26) = u3 from hV2] at XQ
  clear hV2 HC2
  generalize u2.heap.size = qb0 at *
  have EQ := Lib.hid (refEqual_any i q m e A code n c i q m e A2 code n c2 HL.out HL.out HM.out HM.out u3 (HC.out.nx U3.out) HC3.out)
  rw [eqP_code, decide_eq_true (rfl : code = code)] at EQ
  unfold pgV at EQ
  have x0 := (XP1.out.nx K3.out).cell 0 rfl
  have x1 := (XP1.out.nx K3.out).cell 1 rfl
  have x2 := (XP1.out.nx K3.out).cell 2 rfl
  have x3 := (XP1.out.nx K3.out).cell 3 rfl
  have x4 := (XP1.out.nx K3.out).cell 4 rfl
  have y0 := XQ.out.cell 0 rfl
  have y1 := XQ.out.cell 1 rfl
  have y2 := XQ.out.cell 2 rfl
  have y3 := XQ.out.cell 3 rfl
  have y4 := XQ.out.cell 4 rfl
  go_wp2_with fail
  refine EQ.out.mono ?_
  rintro r u4 ⟨rfl, k4⟩
  have K4 := Lib.hid (K3.out.trans k4)
  have U4 := Lib.hid (U3.out.trans k4)
  clear k4 x0 x1 x2 x3 x4 y0 y1 y2 y3 y4 EQ XQ HC3
  obtain ⟨i0, hi, hz0, hz1, hz2⟩ := info_parts info5
  have hlz : ¬ (l : Int) + 1 = 0 := by omega
  have SRC := Lib.hid (HRD.out.nx K4.out)
  go_wp2_with (first | (at_builtin; refine wpList_append_own _ rfl (.tmp 64) (.tmp 65) 28 rfl u4.heap.size 5 i0 (.int .u8 0) 1 1 Tryd.underlying28 hi hz0 hz1 hz2 rfl (by decide) _ _ _ rfl (World.ownsRow_lit (e := 5) (size := 1) u4 #[] 0 (Nat.le_refl _) (by unfold maxLen; omega) rfl) ad (l + 1) c' (byt bs) rfl (by rw [byt_len, HBL.out, Nat.mul_one]) (fun j u hj => (Nx.one u4 _).cell (SRC.out.src j u hj)) (byt_one _) (by unfold maxLen; omega) (by omega) (by simp) ?_))
  intro v5 w5 ho5 hg5 _
  have O5 := Lib.hid (show w5.ownsRow u4.heap.size 5 1 v5 (l + 1) (byt bs) by simpa using ho5)
  have B5 := Lib.hid (show Nx u4 w5 from Below.grown (Below.alloc (Below.refl _ _) (Nat.le_refl _) _) hg5 (by simp) (fun k hk => by simp [Value.ownBlock] at hk; omega))
  clear ho5 hg5
  go_wp2_with (first | (at_builtin; refine wpList_append_own _ rfl (.tmp 66) (.tmp 67) 28 rfl u4.heap.size 5 i0 (.int .u8 0) 1 1 Tryd.underlying28 hi hz0 hz1 hz2 rfl (by decide) v5 (l + 1) _ rfl (World.ownsRow.alloc O5.out _) ⟨w5.heap.size, 0, none⟩ 1 1 [.int .u8 0] rfl rfl (new_one _ _ _) (by intro u hu; simp at hu; subst hu; rfl) (by unfold maxLen; omega) (by omega) (by have := B5.out.size; simp; omega) ?_))
  intro v6 w6 ho6 hg6 _
  have O6 := Lib.hid (show OwY w6 u4.heap.size v6 (bs ++ [0]) by
    unfold OwY
    rw [byt_app, List.length_append, HBL.out]
    exact ho6)
  have B6 := Lib.hid (show Nx u4 w6 from Below.grown (B5.out.alloc _) hg6 (by have := B5.out.size; simp; omega) (fun k hk => (World.ownsRow.lt O5.out k hk).1))
  clear ho6 hg6 O5 B5
  obtain ⟨A6, c6, hv6, hr6, hn6, _, hl6⟩ := O6.out.rd
  subst hv6
  have HCP := Lib.hid O6.out.cap
  have HR6 := Lib.hid hr6
  have HLL6 := Lib.hid (show (bs ++ [0]).length = l + 2 by rw [List.length_append, HBL.out]; rfl)
  rw [HLL6.out] at hl6 ⊢
  have D6 := Lib.hid (decode_any A6 (bs ++ [0]) (l + 2) c6 HLL6.out hl6 HCP.out hn6 w6 HR6.out (HE.out.nx (U4.out.trans B6.out)))
  rw [HMO.out] at D6
  clear hr6 hn6 hl6 O6
  go_wp2_with fail
  refine D6.out.mono ?_
  rintro r u7 ⟨A7, c7, rfl, _, _, _, k7⟩
  have U7 := Lib.hid ((U4.out.trans B6.out).trans k7)
  have K7 := Lib.hid ((K4.out.trans B6.out).trans k7)
  clear k7 D6 B6
  unfold bad
  simp only
  unfold pgV
  rw [show ([] : List In4).length = 0 from rfl]
  have U8 := Lib.hid (U7.out.alloc (.cells #[.int .i64 0, .int .i64 0, .int .i64 0, .int .i64 0, .slice A7 0 c7] 26))
  have K8 := Lib.hid (K7.out.alloc (.cells #[.int .i64 0, .int .i64 0, .int .i64 0, .int .i64 0, .slice A7 0 c7] 26))
  go_upto_region 9 with fail
  generalize hV2 : u7.alloc (.cells #[.int .i64 0, .int .i64 0, .int .i64 0, .int .i64 0, .slice A7 0 c7] 26) = u8' at *
  clear hV2 U7 K7
  have hlc : (l : Int) ≤ (c' : Int) := by omega
  have TK := Lib.hid (show RdY u8' (some ad) (bs.take l) from fun k b hk => by
    rw [List.getElem?_take] at hk
    split at hk
    · exact (HRD.out.nx K8.out) k b hk
    · cases hk)
  have D9 := Lib.hid (decode_any (some ad) (bs.take l) l c' (by rw [List.length_take, HBL.out]; omega) (by omega) (by unfold maxLen; omega) (fun e => by cases e) u8' TK.out (HE.out.nx U8.out))
  rw [HCUT.out] at D9
  clear TK
  go_wp2_with fail
  refine D9.out.mono ?_
  rintro r u9 ⟨A9, c9, rfl, _, _, _, k9⟩
  have U9 := Lib.hid (U8.out.trans k9)
  clear k9 D9 K8
  unfold bad
  simp only
  unfold pgV
  rw [show ([] : List In4).length = 0 from rfl]
  have UA := Lib.hid (U9.out.alloc (.cells #[.int .i64 0, .int .i64 0, .int .i64 0, .int .i64 0, .slice A9 0 c9] 26))
  go_upto_region 10 with fail
  generalize hV2 : u9.alloc (.cells #[.int .i64 0, .int .i64 0, .int .i64 0, .int .i64 0, .slice A9 0 c9] 26) = uA at *
  clear hV2 U9 U8 SRC K4 K2 K3
  have M0 := Lib.hid (UA.out)
  have DB := Lib.hid (decode_any A1 bs1 n1 c1 HL1.out HC1.out.1 HC1.out.2 HN1.out uA (HR1.out.nx M0.out) (HE.out.nx M0.out))
  go_wp2_with fail
  refine DB.out.mono ?_
  rintro r v1 ⟨A2, c2, rfl, hc2, _, _, m1⟩
  have M1 := Lib.hid (M0.out.trans m1)
  have HC2 := Lib.hid hc2
  clear m1 hc2 DB
  by_cases hz : (decA bs1).err = 0
  rotate_left
  · obtain ⟨a, x, hD, hle⟩ := decA_bad hz
    rw [hD] at hz HC2 ⊢
    have hx : x ≠ 0 := hz
    have t1 : (x == 0) = false := by simpa using hx
    have t2 : (x != 0) = true := by simpa using hx
    clear hz hx hD
    have hle' : (a : Int) ≤ (n1 : Int) := by have := HL1.out; omega
    have hge : (0 : Int) ≤ (a : Int) := by omega
    unfold bad
    simp only
    unfold pgV
    rw [show ([] : List In4).length = 0 from rfl]
    have XQ := Lib.hid (bx_new v1 26 (pgC 0 0 0 0 A2 0 c2))
    have M2 := Lib.hid (M1.out.alloc (.cells #[.int .i64 0, .int .i64 0, .int .i64 0, .int .i64 0, .slice A2 0 c2] 26))
    go_upto_region 14 with fail
    generalize hV2 : v1.alloc (.cells #[.int .i64 0, .int .i64 0, .int .i64 0, .int .i64 0, .slice A2 0 c2] 26) = v2 at *
    rw [show v1.alloc (.cells (pgC 0 0 0 0 A2 0 c2).toArray 26) = v2 from hV2] at XQ
    clear hV2
    generalize v1.heap.size = qb at *
    go_wp2_with fail
    refine (alive_any _ (HE.out.nx M2.out)).mono ?_
    rintro r v3 ⟨rfl, m3⟩
    have M3 := Lib.hid (M2.out.trans m3)
    have y4 := (XQ.out.nx m3).cell 4 rfl
    clear m3
    go_wp2_with fail
    go_ret
    exact ⟨rfl, M3.out⟩
  obtain ⟨hvd, henc, hat⟩ := decA_inv hz
  have HVD := Lib.hid hvd
  have HEN := Lib.hid henc
  rcases hDD : decA bs1 with ⟨di, dq, dm, de, dc, da, dx⟩
  
  rw [hDD] at hz hat HVD HEN HC2
  try rw [hDD]
  simp only at hz hat HVD HEN HC2 ⊢
  subst hz
  clear hvd henc hDD
  have hdn : da = n1 := by rw [hat]; exact HL1.out
  subst hdn
  clear hat
  obtain ⟨dl, hdl⟩ : ∃ dl, dc.length = dl := ⟨_, rfl⟩
  have HDL := Lib.hid hdl
  have hdb : dl ≤ 65535 := by rw [← hdl]; exact HVD.out.big
  have hdm : dl ≤ maxLen := by unfold maxLen; omega
  rw [hdl]
  clear hdl
  unfold pgV
  have XQ := Lib.hid (bx_new v1 26 (pgC di dq dm de A2 dl c2))
  have M2 := Lib.hid (M1.out.alloc (.cells #[.int .i64 di, .int .i64 dq, .int .i64 dm, .int .i64 de, .slice A2 dl c2] 26))
  have HC3 := Lib.hid (HC2.out.nx (Nx.one v1 (.cells #[.int .i64 di, .int .i64 dq, .int .i64 dm, .int .i64 de, .slice A2 dl c2] 26)))
  go_upto_region 15 with fail
  generalize hV2 : v1.alloc (.cells #[.int .i64 di, .int .i64 dq, .int .i64 dm, .int .i64 de, .slice A2 dl c2] 26) = v2 at *
  rw [show v1.alloc (.cells (pgC di dq dm de A2 dl c2).toArray 26) = v2 from hV2] at XQ
  clear hV2
  generalize v1.heap.size = qb at *
  have EC := Lib.hid (encode_any di dq dm de A2 dc dl c2 HDL.out hdm v2 HC3.out (HE.out.nx M2.out))
  rw [encA_ok (show (ckA di dq dm de dc).2.2 = 0 by rw [HVD.out.ans]), HEN.out] at EC
  have VL := Lib.hid (fun w' (h : Nx v2 w') => valid_any di dq dm de A2 dc dl c2 HDL.out hdm w' (HC3.out.nx h) (HE.out.nx (M2.out.trans h)))
  rw [show (ckA di dq dm de dc).2.2 = 0 by rw [HVD.out.ans], decide_eq_true (show (0 : Int) = 0 from rfl)] at VL
  unfold pgV at EC VL
  clear hdm
  have x0 := XQ.out.cell 0 rfl
  have x1 := XQ.out.cell 1 rfl
  have x2 := XQ.out.cell 2 rfl
  have x3 := XQ.out.cell 3 rfl
  have x4 := XQ.out.cell 4 rfl
  go_wp2_with fail
  refine EC.out.mono ?_
  rintro r v3 ⟨A4, c4, rfl, hrd4, hnl4, _, m3⟩
  simp only at hrd4 hnl4 ⊢
  rw [HL1.out]
  have K3 := Lib.hid m3
  have M3 := Lib.hid (M2.out.trans m3)
  have HR4 := Lib.hid hrd4
  have HN4 := Lib.hid hnl4
  clear m3 hrd4 hnl4 x0 x1 x2 x3 x4 EC
  go_wp2_with fail
  refine (alive_any _ (HE.out.nx M3.out)).mono ?_
  rintro r v4 ⟨rfl, m4⟩
  have K4 := Lib.hid (K3.out.trans m4)
  have M4 := Lib.hid (M3.out.trans m4)
  have cv1 := conv_y' A4 bs1 da c4 v4 HL1.out (HR4.out.nx m4) (fun e => (HN4.out e).2)
  have cv2 := conv_y' A1 bs1 da c1 v4 HL1.out (HR1.out.nx M4.out) HN1.out
  have e1 : ((⟨bs1.toArray⟩ : ByteArray).toList == (⟨bs1.toArray⟩ : ByteArray).toList) = true := by simp
  have e2 : ((da : Int) == (da : Int)) = true := by simp
  have x0 := (XQ.out.nx K4.out).cell 0 rfl
  have x1 := (XQ.out.nx K4.out).cell 1 rfl
  have x2 := (XQ.out.nx K4.out).cell 2 rfl
  have x3 := (XQ.out.nx K4.out).cell 3 rfl
  have x4 := (XQ.out.nx K4.out).cell 4 rfl
  clear m4
  go_wp2_with fail
  refine (VL.out _ K4.out).mono ?_
  rintro r v5 ⟨rfl, m5⟩
  have M5 := Lib.hid (M4.out.trans m5)
  clear m5 x0 x1 x2 x3 x4 cv1 cv2 e1 e2
  go_wp2_with fail
  go_ret
  exact ⟨rfl, M5.out⟩
end Go.Proofs.YtdiamajkfbejhaaDoor
