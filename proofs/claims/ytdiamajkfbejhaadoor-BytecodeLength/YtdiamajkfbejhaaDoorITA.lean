/- What the reference's Encode of programs returns. Condition: a program that reads as a list. -/
import Derived.Test.YtdiamajkfbejhaaDoorIT7
import Derived.Test.YtdiamajkfbejhaaDoorIN7
import Derived.Test.YtdiamajkfbejhaaDoorIT9
namespace Go.Proofs.YtdiamajkfbejhaaDoor
open Go.RowKit

/-- A block that a slice literal made is a row of the call's own. -/
theorem own_bx {w : World} {g B n : Nat} {bs : List UInt8} (h : Bx w g 5 (byt bs)) (hB : B ≤ g) (hn : bs.length = n) (hl : n ≤ maxLen) : OwY w B (.slice (some ⟨g, 0, none⟩) n n) bs := by
  subst hn
  refine ⟨by rw [byt_len, Nat.mul_one], .inr ⟨g, _, _, rfl, hB, h, Nat.le_refl _, hl, by simp [byt], ?_⟩⟩
  show (byt bs).toArray.toList.take (bs.length * 1) = byt bs
  rw [Nat.mul_one, ← byt_len bs, List.toList_toArray, List.take_length]
theorem apx_two {B : Nat} {w w1 w' : World} {v v' : Value} {n : Nat} {bs cs : List UInt8} (k : Nx w w1) (hn : bs.length = n) (h : w'.ownsRow B 5 1 v' (n + 2) (byt bs ++ byt cs)) (hc : cs.length = 2)
    (hg : w1.grownBy w' v.ownBlock) (hl : v'.ownBlock = v.ownBlock ∨ v'.ownBlock = some w1.heap.size) : Apx B w w' v v' (bs ++ cs) :=
  Apx.nx k ⟨OwY.snoc (by rw [hn]; exact h) hc, hg, by
    rcases hl with e | e
    · exact .inl e
    · exact .inr ⟨_, e, Nat.le_refl _⟩⟩
set_option maxHeartbeats 6400000 in
set_option maxRecDepth 100000 in
theorem refEncode_any (i q m e : Int) (A : Option Addr) (code : List In4) (n c : Nat) (hn : code.length = n) (hl : n ≤ maxLen) (w : World) (hr : RdC w A code) :
    Calls Tryd.prog 11 #[pgV i q m e A n c] w (EnP (encA i q m e code) w) := by
  have HR := Lib.hid hr
  have HL := Lib.hid hn
  have N0 := Lib.hid (Nx.one w (.cells #[.int .i64 i, .int .i64 q, .int .i64 m, .int .i64 e, .slice A n c] 26))
  have XP := Lib.hid (bx_new w 26 (pgC i q m e A n c))
  have CK := Lib.hid (refCheck7_any i q m e A code n c hn hl (w.alloc (.cells #[.int .i64 i, .int .i64 q, .int .i64 m, .int .i64 e, .slice A n c] 26)) (hr.nx N0.out))
  obtain ⟨i0, hi, hz0, hz1, hz2⟩ := info_parts info5
  have HV := Lib.hid (show (ckA i q m e code).2.2 = 0 → Vd i q m e code from Vd.of)
  have HN0 := Lib.hid (fun h => encA_no (i := i) (q := q) (m := m) (e := e) (code := code) h)
  have HN1 := Lib.hid (fun h => encA_ok (i := i) (q := q) (m := m) (e := e) (code := code) h)
  clear hr hn hl
  obtain ⟨Z, hZ⟩ : ∃ Z, ckA i q m e code = Z := ⟨_, rfl⟩
  rw [hZ] at CK HV HN0 HN1
  obtain ⟨R, hR⟩ : ∃ R, encA i q m e code = R := ⟨_, rfl⟩
  rw [hR] at HN0 HN1 ⊢
  clear hZ hR
  obtain ⟨z1, z2, z3⟩ := Z
  simp only at CK HV HN0 HN1
  unfold pgV at CK ⊢
  have x0 := XP.out.cell 0 rfl
  have x1 := XP.out.cell 1 rfl
  have x2 := XP.out.cell 2 rfl
  have x3 := XP.out.cell 3 rfl
  have x4 := XP.out.cell 4 rfl
  go_enter Tryd.func11, Tryd.ntmps11
  go_wp2_with fail
  clear x0 x1 x2 x3 x4
  refine CK.out.mono ?_
  rintro r w1 ⟨rfl, q1⟩
  have K1 := Lib.hid (N0.out.trans q1)
  have X1 := Lib.hid (XP.out.nx q1)
  clear q1 CK
  by_cases hz : z3 = 0
  rotate_left
  · have t1 : (z3 == 0) = false := by simpa using hz
    have t2 : (z3 != 0) = true := by simpa using hz
    have HQ := Lib.hid (HN0.out hz)
    clear hz
    go_wp2_with fail
    go_ret2
    rw [HQ.out]
    exact ⟨none, 0, rfl, RdY.nil _ _, fun _ => ⟨rfl, rfl⟩, ⟨Nat.le_refl _, Nat.zero_le _⟩, K1.out⟩
  subst hz
  have HD := Lib.hid (HV.out rfl)
  have HQ := Lib.hid (HN1.out rfl)
  have hbig : n ≤ 65535 := by rw [← HL.out]; exact HD.out.big
  have hcs := csz_bounds HD.out.sz
  obtain ⟨I, rfl⟩ : ∃ I : Nat, i = (I : Int) := ⟨i.toNat, by omega⟩
  obtain ⟨Q, rfl⟩ : ∃ Q : Nat, q = (Q : Int) := ⟨q.toNat, by omega⟩
  obtain ⟨M, rfl⟩ : ∃ M : Nat, m = (M : Int) := ⟨m.toNat, by omega⟩
  obtain ⟨E, rfl⟩ : ∃ E : Nat, e = (E : Int) := ⟨e.toNat, by omega⟩
  have HBW := Lib.hid (show w.heap.size < w1.heap.size from X1.out.lt)
  obtain ⟨B, hB⟩ : ∃ B, w1.heap.size = B := ⟨_, rfl⟩
  have HB := Lib.hid hB
  rw [hB] at HBW
  clear hB
  have x0 := (X1.out.nx (Nx.one w1 (.cells #[.int .u8 66, .int .u8 66, .int .u8 49] 5))).cell 0 rfl
  have x1 := (X1.out.nx (Nx.one w1 (.cells #[.int .u8 66, .int .u8 66, .int .u8 49] 5))).cell 1 rfl
  have x2 := (X1.out.nx (Nx.one w1 (.cells #[.int .u8 66, .int .u8 66, .int .u8 49] 5))).cell 2 rfl
  have x3 := (X1.out.nx (Nx.one w1 (.cells #[.int .u8 66, .int .u8 66, .int .u8 49] 5))).cell 3 rfl
  have x4 := (X1.out.nx (Nx.one w1 (.cells #[.int .u8 66, .int .u8 66, .int .u8 49] 5))).cell 4 rfl
  go_wp2_with fail
  clear x0 x1 x2 x3 x4
  have XM := Lib.hid (show Bx ((w1.alloc (.cells #[.int .u8 66, .int .u8 66, .int .u8 49] 5)).alloc (.cells #[.int .i64 I, .int .i64 Q, .int .i64 M, .int .i64 E, .int .i64 n] 3)) w1.heap.size 5 (byt mgc) from (bx_new w1 5 (byt mgc)).nx (Nx.one _ _))
  have XH := Lib.hid (show Bx ((w1.alloc (.cells #[.int .u8 66, .int .u8 66, .int .u8 49] 5)).alloc (.cells #[.int .i64 I, .int .i64 Q, .int .i64 M, .int .i64 E, .int .i64 n] 3)) (w1.heap.size + 1) 3 [.int .i64 I, .int .i64 Q, .int .i64 M, .int .i64 E, .int .i64 n] from bx_newB _ _ (by simp) 3 _)
  have N2 := Lib.hid (show Nx w1 ((w1.alloc (.cells #[.int .u8 66, .int .u8 66, .int .u8 49] 5)).alloc (.cells #[.int .i64 I, .int .i64 Q, .int .i64 M, .int .i64 E, .int .i64 n] 3)) from (Nx.one _ _).alloc _)
  have HO0 := Lib.hid (own_bx XM.out (B := B) (by have := HB.out; omega) (show mgc.length = 3 from rfl) (by decide))
  have HNE := Lib.hid (show (Value.slice (some ⟨w1.heap.size, 0, none⟩) 3 3).ownBlock ≠ some (w1.heap.size + 1) by simp [Value.ownBlock])
  generalize (w1.alloc (.cells #[.int .u8 66, .int .u8 66, .int .u8 49] 5)).alloc (.cells #[.int .i64 I, .int .i64 Q, .int .i64 M, .int .i64 E, .int .i64 n] 3) = v0 at *
  have HH := Lib.hid (⟨XH.out, HNE.out⟩ : Bx v0 (w1.heap.size + 1) 3 [.int .i64 I, .int .i64 Q, .int .i64 M, .int .i64 E, .int .i64 n] ∧ _ ≠ _)
  have BB0 := Lib.hid (show Below B w1 v0 from by have := N2.out; unfold Nx at this; rwa [HB.out] at this)
  have HS0 := Lib.hid (show B ≤ v0.heap.size from by have := BB0.out.size; have := HB.out; omega)
  generalize w1.heap.size + 1 = hb at *
  obtain ⟨p0, hp0⟩ : ∃ p0, Value.slice (some ⟨w1.heap.size, 0, none⟩) 3 3 = p0 := ⟨_, rfl⟩
  rw [hp0] at HO0 HH ⊢
  clear hp0 XM XH HNE N2
  refine wp_loop_rounds 6 ?_
  rw [rounds_succ]
  have y0 := HH.out.1.cell 0 rfl
  go_wp2_with fail
  refine (two_any I (by omega) v0).mono ?_
  rintro r a0 ⟨ad0, rfl, rd0, k0⟩
  have HRD := Lib.hid rd0
  have HK := Lib.hid k0
  have HOa := Lib.hid (show a0.ownsRow B 5 1 p0 3 (byt mgc) from HO0.out.nx k0)
  have HSa := Lib.hid (show B ≤ a0.heap.size from Nat.le_trans HS0.out k0.size)
  clear rd0 k0 y0
  go_wp2_with (first | (at_builtin; refine wpList_append_own_at _ rfl (.tmp 45) (.tmp 50) 28 rfl B 5 i0 (.int .u8 0) 1 1 Tryd.underlying28 hi hz0 hz1 hz2 rfl (by decide) p0 3 _ rfl HOa.out ad0 2 2 (byt (two (I : Int))) rfl rfl HRD.out.src (byt_one _) (by decide) (by decide) HSa.out ?_))
  intro p1 v1 ho hg _ hl
  have AX := Lib.hid (show Apx B v0 v1 p0 p1 (mgc ++ two (I : Int)) from apx_two HK.out rfl ho rfl hg hl)
  clear ho hg hl
  have HO1 := Lib.hid AX.out.ow
  have HH1 := Lib.hid (AX.out.bx HH.out.1 HH.out.2)
  have BB1 := Lib.hid (BB0.out.trans (AX.out.below HO0.out HS0.out))
  have HS1 := Lib.hid (Nat.le_trans HS0.out AX.out.gr.size)
  clear AX HH HRD HOa HSa HK
  have HH := HH1
  clear HH1
  go_wp2_with fail
  rw [rounds_succ]
  have y1 := HH.out.1.cell 1 rfl
  go_wp2_with fail
  refine (two_any Q (by omega) v1).mono ?_
  rintro r a1 ⟨ad1, rfl, rd1, k1⟩
  have HRD := Lib.hid rd1
  have HK := Lib.hid k1
  have HOa := Lib.hid (show a1.ownsRow B 5 1 p1 5 (byt (mgc ++ two (I : Int))) from HO1.out.nx k1)
  have HSa := Lib.hid (show B ≤ a1.heap.size from Nat.le_trans HS1.out k1.size)
  clear rd1 k1 y1
  go_wp2_with (first | (at_builtin; refine wpList_append_own_at _ rfl (.tmp 45) (.tmp 50) 28 rfl B 5 i0 (.int .u8 0) 1 1 Tryd.underlying28 hi hz0 hz1 hz2 rfl (by decide) p1 5 _ rfl HOa.out ad1 2 2 (byt (two (Q : Int))) rfl rfl HRD.out.src (byt_one _) (by decide) (by decide) HSa.out ?_))
  intro p2 v2 ho hg _ hl
  have AX := Lib.hid (show Apx B v1 v2 p1 p2 ((mgc ++ two (I : Int)) ++ two (Q : Int)) from apx_two HK.out rfl ho rfl hg hl)
  clear ho hg hl
  have HO2 := Lib.hid AX.out.ow
  have HH2 := Lib.hid (AX.out.bx HH.out.1 HH.out.2)
  have BB2 := Lib.hid (BB1.out.trans (AX.out.below HO1.out HS1.out))
  have HS2 := Lib.hid (Nat.le_trans HS1.out AX.out.gr.size)
  clear AX HH HRD HOa HSa HK
  have HH := HH2
  clear HH2
  go_wp2_with fail
  rw [rounds_succ]
  have y2 := HH.out.1.cell 2 rfl
  go_wp2_with fail
  refine (two_any M (by omega) v2).mono ?_
  rintro r a2 ⟨ad2, rfl, rd2, k2⟩
  have HRD := Lib.hid rd2
  have HK := Lib.hid k2
  have HOa := Lib.hid (show a2.ownsRow B 5 1 p2 7 (byt ((mgc ++ two (I : Int)) ++ two (Q : Int))) from HO2.out.nx k2)
  have HSa := Lib.hid (show B ≤ a2.heap.size from Nat.le_trans HS2.out k2.size)
  clear rd2 k2 y2
  go_wp2_with (first | (at_builtin; refine wpList_append_own_at _ rfl (.tmp 45) (.tmp 50) 28 rfl B 5 i0 (.int .u8 0) 1 1 Tryd.underlying28 hi hz0 hz1 hz2 rfl (by decide) p2 7 _ rfl HOa.out ad2 2 2 (byt (two (M : Int))) rfl rfl HRD.out.src (byt_one _) (by decide) (by decide) HSa.out ?_))
  intro p3 v3 ho hg _ hl
  have AX := Lib.hid (show Apx B v2 v3 p2 p3 (((mgc ++ two (I : Int)) ++ two (Q : Int)) ++ two (M : Int)) from apx_two HK.out rfl ho rfl hg hl)
  clear ho hg hl
  have HO3 := Lib.hid AX.out.ow
  have HH3 := Lib.hid (AX.out.bx HH.out.1 HH.out.2)
  have BB3 := Lib.hid (BB2.out.trans (AX.out.below HO2.out HS2.out))
  have HS3 := Lib.hid (Nat.le_trans HS2.out AX.out.gr.size)
  clear AX HH HRD HOa HSa HK
  have HH := HH3
  clear HH3
  go_wp2_with fail
  rw [rounds_succ]
  have y3 := HH.out.1.cell 3 rfl
  go_wp2_with fail
  refine (two_any E (by omega) v3).mono ?_
  rintro r a3 ⟨ad3, rfl, rd3, k3⟩
  have HRD := Lib.hid rd3
  have HK := Lib.hid k3
  have HOa := Lib.hid (show a3.ownsRow B 5 1 p3 9 (byt (((mgc ++ two (I : Int)) ++ two (Q : Int)) ++ two (M : Int))) from HO3.out.nx k3)
  have HSa := Lib.hid (show B ≤ a3.heap.size from Nat.le_trans HS3.out k3.size)
  clear rd3 k3 y3
  go_wp2_with (first | (at_builtin; refine wpList_append_own_at _ rfl (.tmp 45) (.tmp 50) 28 rfl B 5 i0 (.int .u8 0) 1 1 Tryd.underlying28 hi hz0 hz1 hz2 rfl (by decide) p3 9 _ rfl HOa.out ad3 2 2 (byt (two (E : Int))) rfl rfl HRD.out.src (byt_one _) (by decide) (by decide) HSa.out ?_))
  intro p4 v4 ho hg _ hl
  have AX := Lib.hid (show Apx B v3 v4 p3 p4 ((((mgc ++ two (I : Int)) ++ two (Q : Int)) ++ two (M : Int)) ++ two (E : Int)) from apx_two HK.out rfl ho rfl hg hl)
  clear ho hg hl
  have HO4 := Lib.hid AX.out.ow
  have HH4 := Lib.hid (AX.out.bx HH.out.1 HH.out.2)
  have BB4 := Lib.hid (BB3.out.trans (AX.out.below HO3.out HS3.out))
  have HS4 := Lib.hid (Nat.le_trans HS3.out AX.out.gr.size)
  clear AX HH HRD HOa HSa HK
  have HH := HH4
  clear HH4
  go_wp2_with fail
  rw [rounds_succ]
  have y4 := HH.out.1.cell 4 rfl
  go_wp2_with fail
  refine (two_any n (by omega) v4).mono ?_
  rintro r a4 ⟨ad4, rfl, rd4, k4⟩
  have HRD := Lib.hid rd4
  have HK := Lib.hid k4
  have HOa := Lib.hid (show a4.ownsRow B 5 1 p4 11 (byt ((((mgc ++ two (I : Int)) ++ two (Q : Int)) ++ two (M : Int)) ++ two (E : Int))) from HO4.out.nx k4)
  have HSa := Lib.hid (show B ≤ a4.heap.size from Nat.le_trans HS4.out k4.size)
  clear rd4 k4 y4
  go_wp2_with (first | (at_builtin; refine wpList_append_own_at _ rfl (.tmp 45) (.tmp 50) 28 rfl B 5 i0 (.int .u8 0) 1 1 Tryd.underlying28 hi hz0 hz1 hz2 rfl (by decide) p4 11 _ rfl HOa.out ad4 2 2 (byt (two (n : Int))) rfl rfl HRD.out.src (byt_one _) (by decide) (by decide) HSa.out ?_))
  intro p5 v5 ho hg _ hl
  have AX := Lib.hid (show Apx B v4 v5 p4 p5 (((((mgc ++ two (I : Int)) ++ two (Q : Int)) ++ two (M : Int)) ++ two (E : Int)) ++ two (n : Int)) from apx_two HK.out rfl ho rfl hg hl)
  clear ho hg hl
  have HO5 := Lib.hid AX.out.ow
  have HH5 := Lib.hid (AX.out.bx HH.out.1 HH.out.2)
  have BB5 := Lib.hid (BB4.out.trans (AX.out.below HO4.out HS4.out))
  have HS5 := Lib.hid (Nat.le_trans HS4.out AX.out.gr.size)
  clear AX HH HRD HOa HSa HK
  have HH := HH5
  clear HH5
  go_wp2_with fail
  rw [rounds_succ]
  go_wp2_with fail
  have HOh := Lib.hid (show OwY v5 B p5 (head I Q M E n) by have := HO5.out; simp only [List.append_assoc] at this; exact this)
  have X5 := Lib.hid (show Bx v5 w.heap.size 26 (pgC I Q M E A n c) from (BB5.out.block _ HBW.out).trans X1.out)
  clear HO5 HO4 HO3 HO2 HO1 HO0 HH
  go_loopw [7, 10] (fun v j wr => ∃ k : Nat, k ≤ n ∧ j = .int .i64 k ∧ OwY wr B v (head I Q M E n ++ body (code.take k)) ∧ Below B v5 wr) (fun _ j _ => n - (intOf j).toNat)
  case atStart => exact ⟨0, Nat.zero_le _, rfl, by simpa [body] using HOh.out, Below.refl _ _⟩
  case round =>
    obtain ⟨k, hk, rfl, ho, hb'⟩ := hrel
    have HOk := Lib.hid ho
    have HBk := Lib.hid hb'
    have NW := Lib.hid (show Nx w wr from K1.out.trans (Below.mono (BB5.out.trans hb') (by rw [HB.out]; exact Nat.le_refl _)))
    have XW := Lib.hid (show Bx wr w.heap.size 26 (pgC I Q M E A n c) from (hb'.block _ HBW.out).trans X5.out)
    have hbr : B ≤ wr.heap.size := Nat.le_trans HS5.out hb'.size
    have HBR := Lib.hid hbr
    clear hbr ho hb'
    have p4 := XW.out.cell 4 rfl
    by_cases hlt : k < n
    · obtain ⟨x, hx⟩ := code_at code k (by rw [HL.out]; exact hlt)
      have hki : (k : Int) < (n : Int) := by omega
      have HT := Lib.hid (body_take hx)
      have HOX := Lib.hid (HD.out.okx hx)
      obtain ⟨ad, rfl, c0, c1, c2, c3⟩ := (HR.out.nx NW.out).fr4 hx
      clear hx
      obtain ⟨op, kk, nn, t⟩ := x
      have HEN := Lib.hid (show enc1 ⟨op, kk, nn, t⟩ = [u8 op] ++ ((if hA (frm op) then [u8 kk, u8 nn] else []) ++ (if hN (frm op) then two t else [])) from rfl)
      have HOX' := Lib.hid (show (hN (frm op) = true → 0 ≤ t ∧ t < 65536) ∧ frm op ≠ -1 from ⟨HOX.out.n1, by have h1 := HOX.out.op; simp only at h1; unfold frm; rw [if_neg (by omega)]; split; omega; split; omega; split; omega; split <;> omega⟩)
      simp only at c0 c1 c2 c3
      have FM := Lib.hid (refForm_any op)
      have hfi := frm_in op
      have H1 := Lib.hid (byt_1 op)
      have H2 := Lib.hid (byt_2 kk nn)
      clear HOX
      generalize frm op = f at *
      have XB0 := Lib.hid (bx_new wr 46 [.int .i64 op, .int .i64 kk, .int .i64 nn, .int .i64 t])
      have y0 := XB0.out.cell 0 rfl
      have hlen : (head I Q M E n ++ body (code.take k)).length ≤ 900000 := by
        have h1 := body_le (code.take k)
        have h2 := List.length_take_le k code
        rw [List.length_append, head_len]
        omega
      obtain ⟨bs, hbs⟩ : ∃ bs, head I Q M E n ++ body (code.take k) = bs := ⟨_, rfl⟩
      have HBS := Lib.hid hbs
      rw [hbs] at HOk hlen
      clear hbs
      have HO6 := Lib.hid (show (wr.alloc (.cells #[.int .i64 op, .int .i64 kk, .int .i64 nn, .int .i64 t] 46)).ownsRow B 5 1 u7 bs.length (byt bs) from World.ownsRow.alloc HOk.out _)
      have HNE := Lib.hid (HOk.out.away (Nat.le_refl _))
      have K6 := Lib.hid (Below.alloc HBk.out HBR.out (.cells #[.int .i64 op, .int .i64 kk, .int .i64 nn, .int .i64 t] 46))
      go_wp2_with fail
      refine (FM.out _).mono ?_
      rintro r w2 ⟨rfl, rfl⟩
      go_wp2_with (first | (at_builtin; refine wpList_append_lies _ rfl (.tmp 67) (.tmp 71) 28 rfl B 5 i0 (.int .u8 0) 1 1 Tryd.underlying28 hi hz0 hz1 hz2 rfl (by decide) u7 _ _ rfl (World.ownsRow.alloc HO6.out _) ⟨wr.heap.size + 1, 0, none⟩ 1 1 [.int .u8 (op % 256)] rfl rfl (new_oneB _ (wr.heap.size + 1) (by simp) _ _) (by rw [← H1.out]; exact byt_one _) (by decide) (by unfold maxLen; omega) (by omega) (by have := HBR.out; simp; omega) (wr.heap.size + 1 + 1) (by simp) ?_))
      intro g cap w6 ho1 hg hl' _
      have A1 := Lib.hid (show Apx B (wr.alloc (.cells #[.int .i64 op, .int .i64 kk, .int .i64 nn, .int .i64 t] 46)) w6 u7 (.slice (some ⟨g, 0, none⟩) (bs.length + 1) cap) (bs ++ [u8 op]) from apx_of rfl rfl (by rw [H1.out]; exact ho1) hg hl' (by simp))
      clear ho1 hg y0 hl' c0 c1 c2 c3 p4
      have HX6 := Lib.hid (A1.out.bx XB0.out HNE.out)
      have B6 := Lib.hid (show Below B v5 w6 from K6.out.trans (A1.out.below (cs := bs) HO6.out (by have := HBR.out; simp; omega)))
      have HO7 := Lib.hid A1.out.ow
      have HB6 := Lib.hid (show B ≤ w6.heap.size from Nat.le_trans (Nat.le_trans HS5.out HBk.out.size) (Nat.le_trans (by simp) A1.out.gr.size))
      have HL7 := Lib.hid (show (bs ++ [u8 op]).length = bs.length + 1 by simp)
      obtain ⟨q1, hq1⟩ : ∃ q1, Value.slice (some ⟨g, 0, none⟩) (bs.length + 1) cap = q1 := ⟨_, rfl⟩
      rw [hq1] at HO7 HX6 ⊢
      clear hq1 A1 XB0 HO6
      have HO7' := Lib.hid (show w6.ownsRow B 5 1 q1 (bs.length + 1) (byt (bs ++ [u8 op])) by have := HO7.out; unfold OwY at this; rwa [HL7.out] at this)
      have y1 := HX6.out.1.cell 1 rfl
      have y2 := HX6.out.1.cell 2 rfl
      have y3 := HX6.out.1.cell 3 rfl
      have hf5 : f = 0 ∨ f = 1 ∨ f = 3 ∨ f = 2 ∨ f = 4 := by have := HOX'.out.2; omega
      clear hfi
      rcases hf5 with rfl | rfl | rfl | rfl | rfl
      · rw [show hA 0 = false from rfl, show hN 0 = false from rfl, if_neg (by decide), if_neg (by decide), List.append_nil, List.append_nil] at HEN
        go_wp2_with fail
        go_roundw
        case rel => exact ⟨k + 1, by omega, by go_num, by rw [HT.out, ← List.append_assoc, HBS.out, HEN.out]; exact HO7.out, B6.out⟩
        case measure => simp [intOf]; omega
      · rw [show hA 1 = true from rfl, show hN 1 = false from rfl, if_pos rfl, if_neg (by decide), List.append_nil] at HEN
        go_wp2_with (first | (at_builtin; refine wpList_append_lies _ rfl (.tmp 83) (.tmp 92) 28 rfl B 5 i0 (.int .u8 0) 1 1 Tryd.underlying28 hi hz0 hz1 hz2 rfl (by decide) q1 _ _ rfl (World.ownsRow.alloc HO7'.out _) ⟨w6.heap.size, 0, none⟩ 2 2 [.int .u8 (kk % 256), .int .u8 (nn % 256)] rfl rfl (new_two _ _ _ _) (by rw [← H2.out]; exact byt_one _) (by decide) (by unfold maxLen; omega) (by omega) (by have := HB6.out; simp; omega) (w6.heap.size + 1) (by simp) ?_))
        intro g cap w7 ho2 hg hl' _
        have A2 := Lib.hid (show Apx B w6 w7 q1 (.slice (some ⟨g, 0, none⟩) (bs.length + 1 + 2) cap) ((bs ++ [u8 op]) ++ [u8 kk, u8 nn]) from apx_of HL7.out rfl (by rw [H2.out]; exact ho2) hg hl' rfl)
        clear ho2 hg y1 y2 y3 hl'
        have HX7 := Lib.hid (A2.out.bx HX6.out.1 HX6.out.2)
        have B7 := Lib.hid (show Below B v5 w7 from B6.out.trans (A2.out.below HO7.out HB6.out))
        have HO9 := Lib.hid A2.out.ow
        have HB7 := Lib.hid (show B ≤ w7.heap.size from Nat.le_trans HB6.out A2.out.gr.size)
        have HL9 := Lib.hid (show ((bs ++ [u8 op]) ++ [u8 kk, u8 nn]).length = bs.length + 1 + 2 by simp)
        obtain ⟨q2, hq2⟩ : ∃ q2, Value.slice (some ⟨g, 0, none⟩) (bs.length + 1 + 2) cap = q2 := ⟨_, rfl⟩
        rw [hq2] at HO9 HX7 ⊢
        clear hq2 A2
        go_wp2_with fail
        go_roundw
        case rel => exact ⟨k + 1, by omega, by go_num, by rw [HT.out, ← List.append_assoc, HBS.out, HEN.out, ← List.append_assoc]; exact HO9.out, B7.out⟩
        case measure => simp [intOf]; omega
      · rw [show hA 3 = true from rfl, show hN 3 = false from rfl, if_pos rfl, if_neg (by decide), List.append_nil] at HEN
        go_wp2_with (first | (at_builtin; refine wpList_append_lies _ rfl (.tmp 83) (.tmp 92) 28 rfl B 5 i0 (.int .u8 0) 1 1 Tryd.underlying28 hi hz0 hz1 hz2 rfl (by decide) q1 _ _ rfl (World.ownsRow.alloc HO7'.out _) ⟨w6.heap.size, 0, none⟩ 2 2 [.int .u8 (kk % 256), .int .u8 (nn % 256)] rfl rfl (new_two _ _ _ _) (by rw [← H2.out]; exact byt_one _) (by decide) (by unfold maxLen; omega) (by omega) (by have := HB6.out; simp; omega) (w6.heap.size + 1) (by simp) ?_))
        intro g cap w7 ho2 hg hl' _
        have A2 := Lib.hid (show Apx B w6 w7 q1 (.slice (some ⟨g, 0, none⟩) (bs.length + 1 + 2) cap) ((bs ++ [u8 op]) ++ [u8 kk, u8 nn]) from apx_of HL7.out rfl (by rw [H2.out]; exact ho2) hg hl' rfl)
        clear ho2 hg y1 y2 y3 hl'
        have HX7 := Lib.hid (A2.out.bx HX6.out.1 HX6.out.2)
        have B7 := Lib.hid (show Below B v5 w7 from B6.out.trans (A2.out.below HO7.out HB6.out))
        have HO9 := Lib.hid A2.out.ow
        have HB7 := Lib.hid (show B ≤ w7.heap.size from Nat.le_trans HB6.out A2.out.gr.size)
        have HL9 := Lib.hid (show ((bs ++ [u8 op]) ++ [u8 kk, u8 nn]).length = bs.length + 1 + 2 by simp)
        obtain ⟨q2, hq2⟩ : ∃ q2, Value.slice (some ⟨g, 0, none⟩) (bs.length + 1 + 2) cap = q2 := ⟨_, rfl⟩
        rw [hq2] at HO9 HX7 ⊢
        clear hq2 A2
        go_wp2_with fail
        go_roundw
        case rel => exact ⟨k + 1, by omega, by go_num, by rw [HT.out, ← List.append_assoc, HBS.out, HEN.out, ← List.append_assoc]; exact HO9.out, B7.out⟩
        case measure => simp [intOf]; omega
      · rw [show hA 2 = true from rfl, show hN 2 = true from rfl, if_pos rfl, if_pos rfl] at HEN
        go_wp2_with (first | (at_builtin; refine wpList_append_lies _ rfl (.tmp 83) (.tmp 92) 28 rfl B 5 i0 (.int .u8 0) 1 1 Tryd.underlying28 hi hz0 hz1 hz2 rfl (by decide) q1 _ _ rfl (World.ownsRow.alloc HO7'.out _) ⟨w6.heap.size, 0, none⟩ 2 2 [.int .u8 (kk % 256), .int .u8 (nn % 256)] rfl rfl (new_two _ _ _ _) (by rw [← H2.out]; exact byt_one _) (by decide) (by unfold maxLen; omega) (by omega) (by have := HB6.out; simp; omega) (w6.heap.size + 1) (by simp) ?_))
        intro g cap w7 ho2 hg hl' _
        have A2 := Lib.hid (show Apx B w6 w7 q1 (.slice (some ⟨g, 0, none⟩) (bs.length + 1 + 2) cap) ((bs ++ [u8 op]) ++ [u8 kk, u8 nn]) from apx_of HL7.out rfl (by rw [H2.out]; exact ho2) hg hl' rfl)
        clear ho2 hg y1 y2 y3 hl'
        have HX7 := Lib.hid (A2.out.bx HX6.out.1 HX6.out.2)
        have B7 := Lib.hid (show Below B v5 w7 from B6.out.trans (A2.out.below HO7.out HB6.out))
        have HO9 := Lib.hid A2.out.ow
        have HB7 := Lib.hid (show B ≤ w7.heap.size from Nat.le_trans HB6.out A2.out.gr.size)
        have HL9 := Lib.hid (show ((bs ++ [u8 op]) ++ [u8 kk, u8 nn]).length = bs.length + 1 + 2 by simp)
        obtain ⟨q2, hq2⟩ : ∃ q2, Value.slice (some ⟨g, 0, none⟩) (bs.length + 1 + 2) cap = q2 := ⟨_, rfl⟩
        rw [hq2] at HO9 HX7 ⊢
        clear hq2 A2
        have y3 := HX7.out.1.cell 3 rfl
        obtain ⟨T, rfl⟩ : ∃ T : Nat, t = (T : Int) := ⟨t.toNat, by have := HOX'.out.1 rfl; omega⟩
        have hT : T ≤ 1000000000 := by have := HOX'.out.1 rfl; omega
        go_wp2_with fail
        refine (two_any T hT w7).mono ?_
        rintro r a8 ⟨ad8, rfl, rd8, k8⟩
        have HRD := Lib.hid rd8
        have HK := Lib.hid k8
        have HOa := Lib.hid (show a8.ownsRow B 5 1 q2 (bs.length + 1 + 2) (byt ((bs ++ [u8 op]) ++ [u8 kk, u8 nn])) by have := HO9.out.nx k8; unfold OwY at this; rwa [HL9.out] at this)
        have HSa := Lib.hid (show B ≤ a8.heap.size from Nat.le_trans HB7.out k8.size)
        clear rd8 k8 y3
        go_wp2_with (first | (at_builtin; refine wpList_append_own_at _ rfl (.tmp 100) (.tmp 103) 28 rfl B 5 i0 (.int .u8 0) 1 1 Tryd.underlying28 hi hz0 hz1 hz2 rfl (by decide) q2 (bs.length + 1 + 2) _ rfl HOa.out ad8 2 2 (byt (two (T : Int))) rfl rfl HRD.out.src (byt_one _) (by unfold maxLen; omega) (by omega) HSa.out ?_))
        intro q8 w8 ho hg _ hl
        have AX := Lib.hid (show Apx B w7 w8 q2 q8 (((bs ++ [u8 op]) ++ [u8 kk, u8 nn]) ++ two (T : Int)) from apx_two HK.out (HL9.out) (by rw [show bs ++ [u8 op] ++ [u8 kk, u8 nn] = bs ++ [u8 op, u8 kk, u8 nn] by simp]; exact ho) rfl hg hl)
        clear ho hg hl
        have HO8 := Lib.hid AX.out.ow
        have B8 := Lib.hid (B7.out.trans (AX.out.below HO9.out HB7.out))
        clear AX HRD HOa HSa HK
        go_wp2_with fail
        go_roundw
        case rel => exact ⟨k + 1, by omega, by go_num, by rw [HT.out, ← List.append_assoc, HBS.out, HEN.out, ← List.append_assoc, ← List.append_assoc]; exact HO8.out, B8.out⟩
        case measure => simp [intOf]; omega
      · rw [show hA 4 = false from rfl, show hN 4 = true from rfl, if_neg (by decide), if_pos rfl, List.nil_append] at HEN
        obtain ⟨T, rfl⟩ : ∃ T : Nat, t = (T : Int) := ⟨t.toNat, by have := HOX'.out.1 rfl; omega⟩
        have hT : T ≤ 1000000000 := by have := HOX'.out.1 rfl; omega
        go_wp2_with fail
        refine (two_any T hT w6).mono ?_
        rintro r a8 ⟨ad8, rfl, rd8, k8⟩
        have HRD := Lib.hid rd8
        have HK := Lib.hid k8
        have HOa := Lib.hid (show a8.ownsRow B 5 1 q1 (bs.length + 1) (byt (bs ++ [u8 op])) by have := HO7.out.nx k8; unfold OwY at this; rwa [HL7.out] at this)
        have HSa := Lib.hid (show B ≤ a8.heap.size from Nat.le_trans HB6.out k8.size)
        clear rd8 k8 y1 y2 y3
        go_wp2_with (first | (at_builtin; refine wpList_append_own_at _ rfl (.tmp 100) (.tmp 103) 28 rfl B 5 i0 (.int .u8 0) 1 1 Tryd.underlying28 hi hz0 hz1 hz2 rfl (by decide) q1 (bs.length + 1) _ rfl HOa.out ad8 2 2 (byt (two (T : Int))) rfl rfl HRD.out.src (byt_one _) (by unfold maxLen; omega) (by omega) HSa.out ?_))
        intro q8 w8 ho hg _ hl
        have AX := Lib.hid (show Apx B w6 w8 q1 q8 ((bs ++ [u8 op]) ++ two (T : Int)) from apx_two HK.out (HL7.out) ho rfl hg hl)
        clear ho hg hl
        have HO8 := Lib.hid AX.out.ow
        have B8 := Lib.hid (B6.out.trans (AX.out.below HO7.out HB6.out))
        clear AX HRD HOa HSa HK
        go_wp2_with fail
        go_roundw
        case rel => exact ⟨k + 1, by omega, by go_num, by rw [HT.out, ← List.append_assoc, HBS.out, HEN.out, ← List.append_assoc]; exact HO8.out, B8.out⟩
        case measure => simp [intOf]; omega
    · have hki : ¬ (k : Int) < (n : Int) := by omega
      have HF := Lib.hid (show OwY wr B _ (enc I Q M E code) by
        have := HOk.out
        rw [List.take_of_length_le (by rw [HL.out]; omega)] at this
        unfold enc; rw [HL.out]; exact this)
      clear HOk
      go_wp2_with fail
      go_ret2
      obtain ⟨A', c', rfl, h1, h2, _, h4⟩ := HF.out.rd
      rw [HQ.out]
      refine ⟨A', c', rfl, h1, fun hA' => ?_, ⟨h4, HF.out.cap⟩, NW.out⟩
      exfalso
      have h0 : 0 < (enc I Q M E code).length := by rw [enc_len]; omega
      obtain ⟨ad, ha, _⟩ := h1 0 _ (List.getElem?_eq_getElem h0)
      rw [hA'] at ha; cases ha
end Go.Proofs.YtdiamajkfbejhaaDoor
