/- What Encode of the program returns. Condition: the table of opcodes holds what the program's text lays; a program that reads as a list. -/
import Derived.Test.YtdiamajkfbejhaaDoorIT6
import Derived.Test.YtdiamajkfbejhaaDoorIN5
namespace Go.Proofs.YtdiamajkfbejhaaDoor
open Go.RowKit

theorem Ev.pos {w : World} (h : Ev w) : 0 < w.heap.size := World.block_lt_of_cell? w _ (h.tb 1 _ (tbl_form 0 (by decide)))
theorem OwY.cap {w : World} {B : Nat} {A : Option Addr} {n c : Nat} {bs : List UInt8} (h : OwY w B (.slice A n c) bs) : c ≤ maxLen := by
  rcases h.2 with ⟨e, _⟩ | ⟨g, cap, cur, e, _, _, _, hc, _⟩
  · simp only [Value.slice.injEq] at e; rw [e.2.2]; exact Nat.zero_le _
  · simp only [Value.slice.injEq] at e; rw [e.2.2]; exact hc
/-- What an encoder leaves. -/
def EnP (R : List UInt8 × Int) (w : World) (r : Ending) (w' : World) : Prop :=
  ∃ A' c', r = .returned (.tuple #[.slice A' R.1.length c', .int .i64 R.2]) ∧ RdY w' A' R.1 ∧ (A' = none → R.1 = [] ∧ c' = 0) ∧ (R.1.length ≤ c' ∧ c' ≤ maxLen) ∧ Nx w w'
theorem encA_no {i q m e : Int} {code : List In4} (h : (ckA i q m e code).2.2 ≠ 0) : encA i q m e code = ([], (ckA i q m e code).2.2) := by unfold encA; rw [if_neg h]
theorem encA_ok {i q m e : Int} {code : List In4} (h : (ckA i q m e code).2.2 = 0) : encA i q m e code = (enc i q m e code, 0) := by unfold encA; rw [if_pos h]
set_option maxHeartbeats 3200000 in
set_option maxRecDepth 100000 in
theorem encode_any (i q m e : Int) (A : Option Addr) (code : List In4) (n c : Nat) (hn : code.length = n) (hl : n ≤ maxLen) (w : World) (hr : RdC w A code) (he : Ev w) :
    Calls Tryd.prog 10 #[pgV i q m e A n c] w (EnP (encA i q m e code) w) := by
  have HR := Lib.hid hr
  have HL := Lib.hid hn
  have HE := Lib.hid he
  have N0 := Lib.hid (Nx.one w (.cells #[.int .i64 i, .int .i64 q, .int .i64 m, .int .i64 e, .slice A n c] 26))
  have XP := Lib.hid (bx_new w 26 (pgC i q m e A n c))
  have CK := Lib.hid (check_any i q m e A code n c hn hl (w.alloc (.cells #[.int .i64 i, .int .i64 q, .int .i64 m, .int .i64 e, .slice A n c] 26)) (hr.nx N0.out) (he.nx N0.out))
  obtain ⟨i0, hi, hz0, hz1, hz2⟩ := info_parts info5
  have HV := Lib.hid (show (ckA i q m e code).2.2 = 0 → Vd i q m e code from Vd.of)
  have HN0 := Lib.hid (fun h => encA_no (i := i) (q := q) (m := m) (e := e) (code := code) h)
  have HN1 := Lib.hid (fun h => encA_ok (i := i) (q := q) (m := m) (e := e) (code := code) h)
  clear hr hn he hl
  obtain ⟨Z, hZ⟩ : ∃ Z, ckA i q m e code = Z := ⟨_, rfl⟩
  rw [hZ] at CK HV HN0 HN1
  obtain ⟨R, hR⟩ : ∃ R, encA i q m e code = R := ⟨_, rfl⟩
  rw [hR] at HN0 HN1 ⊢
  clear hZ hR
  obtain ⟨z1, z2, z3⟩ := Z
  simp only at CK HV HN0 HN1
  unfold pgV at CK ⊢
  have x0 := XP.out.cell 0 rfl
  have x1 := XP.out.cell 1 rfl
  have x2 := XP.out.cell 2 rfl
  have x3 := XP.out.cell 3 rfl
  have x4 := XP.out.cell 4 rfl
  go_enter Tryd.func10, Tryd.ntmps10
  go_wp2_with fail
  clear x0 x1 x2 x3 x4
  refine CK.out.mono ?_
  rintro r w1 ⟨rfl, q1⟩
  have K1 := Lib.hid (N0.out.trans q1)
  have X1 := Lib.hid (XP.out.nx q1)
  clear q1 CK
  by_cases hz : z3 = 0
  rotate_left
  · have t1 : (z3 == 0) = false := by simpa using hz
    have t2 : (z3 != 0) = true := by simpa using hz
    have HQ := Lib.hid (HN0.out hz)
    clear hz
    go_wp2_with fail
    go_ret2
    rw [HQ.out]
    exact ⟨none, 0, rfl, RdY.nil _ _, fun _ => ⟨rfl, rfl⟩, ⟨Nat.le_refl _, Nat.zero_le _⟩, K1.out⟩
  subst hz
  have HD := Lib.hid (HV.out rfl)
  have HQ := Lib.hid (HN1.out rfl)
  have hbig : n ≤ 65535 := by rw [← HL.out]; exact HD.out.big
  have hbl := body_le code
  rw [HL.out] at hbl
  have HC1 := Lib.hid (HR.out.nx K1.out)
  have HE1 := Lib.hid (HE.out.nx K1.out)
  have x4 := X1.out.cell 4 rfl
  go_wp2_with fail
  refine (encodedSize_any A code n c HL.out (by omega) (fun k x hx => (HD.out.okx hx).op) w1 HC1.out HE1.out).mono ?_
  rintro r w2 ⟨rfl, q2⟩
  have K2 := Lib.hid (K1.out.trans q2)
  have X2 := Lib.hid (X1.out.nx q2)
  clear q2 x4
  have HBW := Lib.hid (show w.heap.size ≤ w2.heap.size from K2.out.size)
  have HB0 := Lib.hid (show 0 < w2.heap.size from Nat.lt_of_lt_of_le HE.out.pos HBW.out)
  obtain ⟨B, hB⟩ : ∃ B, w2.heap.size = B := ⟨_, rfl⟩
  have HB := Lib.hid hB
  rw [hB] at HB0 HBW
  clear hB
  obtain ⟨L, hL⟩ : ∃ L, (body code).length = L := ⟨_, rfl⟩
  rw [hL] at hbl ⊢
  clear hL
  go_wp2_with (first | (refine wpList_make_own _ rfl (.const (.int .i64 0)) (.tmp 21) 28 rfl B 5 i0 (.int .u8 0) 1 Tryd.underlying28 hi hz0 hz1 .i64 .i64 (13 + (L : Int)) (13 + L) rfl rfl (by omega) (by rw [hz2]; omega) (by unfold maxLen; omega) (by have := HB.out; omega) ?_))
  intro w3 ho3 hg3
  have B3 := Lib.hid (show Below B w2 w3 from Below.grown (Below.refl _ _) hg3 (by have := HB.out; omega) (fun k hk => by cases hk))
  have HO3 := Lib.hid (show OwY w3 B _ [] from ho3)
  have X3 := Lib.hid (show Bx w3 w.heap.size 26 (pgC i q m e A n c) from (hg3.block _ X2.out.lt (by simp)).trans X2.out)
  have HXB := Lib.hid (show w.heap.size < B by have := X2.out.lt; have := HB.out; omega)
  have HB3 := Lib.hid (show B ≤ w3.heap.size by have := hg3.size; have := HB.out; omega)
  clear ho3 hg3
  have x0 := X3.out.cell 0 rfl
  have x1 := X3.out.cell 1 rfl
  have x2 := X3.out.cell 2 rfl
  have x3 := X3.out.cell 3 rfl
  have x4 := X3.out.cell 4 rfl
  go_wp2_with fail
  refine (appendHeader_any B _ i q m e n w3 HO3.out HB3.out).mono ?_
  rintro r w4 ⟨v4, rfl, o4, b4⟩
  have B4 := Lib.hid (B3.out.trans b4)
  have HO4 := Lib.hid o4
  have X4 := Lib.hid (show Bx w4 w.heap.size 26 (pgC i q m e A n c) from (b4.block _ HXB.out).trans X3.out)
  have HB4 := Lib.hid (show B ≤ w4.heap.size from Nat.le_trans HB3.out b4.size)
  clear b4 o4 x0 x1 x2 x3 x4
  have x4 := X4.out.cell 4 rfl
  go_wp2_with fail
  clear x4
  go_loopw [7, 33] (fun v j wr => ∃ k : Nat, k ≤ n ∧ j = .int .i64 k ∧ OwY wr B v (head i q m e n ++ body (code.take k)) ∧ Below B w4 wr) (fun _ j _ => n - (intOf j).toNat)
  case atStart => exact ⟨0, Nat.zero_le _, rfl, by simpa [body] using HO4.out, Below.refl _ _⟩
  case round =>
    obtain ⟨k, hk, rfl, ho, hb⟩ := hrel
    have HOk := Lib.hid ho
    have HBk := Lib.hid hb
    have NW := Lib.hid (show Nx w wr from K2.out.trans (Below.mono (B4.out.trans hb) (by rw [HB.out]; exact Nat.le_refl _)))
    clear ho hb
    have hbr : B ≤ wr.heap.size := Nat.le_trans HB4.out HBk.out.size
    have HBR := Lib.hid hbr
    clear hbr
    by_cases hlt : k < n
    · obtain ⟨x, hx⟩ := code_at code k (by rw [HL.out]; exact hlt)
      have hki : (k : Int) < (n : Int) := by omega
      have HT := Lib.hid (body_take hx)
      have HOP := Lib.hid (HD.out.okx hx).op
      obtain ⟨ad, rfl, c0, c1, c2, c3⟩ := (HR.out.nx NW.out).fr4 hx
      clear hx
      obtain ⟨op, kk, nn, t⟩ := x
      simp only at HOP c0 c1 c2 c3
      have XB := bx_new wr 46 [.int .i64 op, .int .i64 kk, .int .i64 nn, .int .i64 t]
      have y0 := XB.cell 0 rfl
      have y1 := XB.cell 1 rfl
      have y2 := XB.cell 2 rfl
      have y3 := XB.cell 3 rfl
      have HO5 := Lib.hid (show OwY (wr.alloc (.cells #[.int .i64 op, .int .i64 kk, .int .i64 nn, .int .i64 t] 46)) B _ _ from World.ownsRow.alloc HOk.out _)
      have HE5 := Lib.hid (show Ev (wr.alloc (.cells #[.int .i64 op, .int .i64 kk, .int .i64 nn, .int .i64 t] 46)) from HE.out.nx (NW.out.alloc _))
      have B5 := Lib.hid (show Below B w4 (wr.alloc (.cells #[.int .i64 op, .int .i64 kk, .int .i64 nn, .int .i64 t] 46)) from Below.alloc HBk.out HBR.out _)
      have hlen : (head i q m e n ++ body (code.take k)).length ≤ 900000 := by
        have h1 := body_le (code.take k)
        have h2 := List.length_take_le k code
        rw [List.length_append, head_len]
        omega
      have HLE := Lib.hid hlen
      clear hlen
      have HSZ := Lib.hid (show B ≤ (wr.alloc (.cells #[.int .i64 op, .int .i64 kk, .int .i64 nn, .int .i64 t] 46)).heap.size by have := HBR.out; simp; omega)
      go_wp2_with fail
      refine (appendIns_any B _ _ ⟨op, kk, nn, t⟩ HOP.out _ HO5.out HSZ.out HB0.out HLE.out HE5.out).mono ?_
      rintro r w6 ⟨v6, rfl, o6, b6⟩
      have HO6 := Lib.hid o6
      have B6 := Lib.hid (B5.out.trans b6)
      clear o6 b6 y0 y1 y2 y3 XB c0 c1 c2 c3
      go_wp2_with fail
      go_roundw
      case rel => exact ⟨k + 1, by omega, by go_num, by rw [HT.out, ← List.append_assoc]; exact HO6.out, B6.out⟩
      case measure => simp [intOf]; omega
    · have hki : ¬ (k : Int) < (n : Int) := by omega
      have HF := Lib.hid (show OwY wr B _ (enc i q m e code) by
        have := HOk.out
        rw [List.take_of_length_le (by rw [HL.out]; omega)] at this
        unfold enc; rw [HL.out]; exact this)
      clear HOk
      go_wp2_with fail
      go_ret2
      obtain ⟨A', c', rfl, h1, h2, _, h4⟩ := HF.out.rd
      rw [HQ.out]
      refine ⟨A', c', rfl, h1, fun hA' => ?_, ⟨h4, HF.out.cap⟩, NW.out⟩
      exfalso
      have h0 : 0 < (enc i q m e code).length := by rw [enc_len]; omega
      obtain ⟨ad, ha, _⟩ := h1 0 _ (List.getElem?_eq_getElem h0)
      rw [hA'] at ha; cases ha
end Go.Proofs.YtdiamajkfbejhaaDoor
