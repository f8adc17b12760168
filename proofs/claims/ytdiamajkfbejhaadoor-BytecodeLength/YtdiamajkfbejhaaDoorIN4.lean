/- What checkParts of layer 7 returns. Conditions: the table of opcodes holds what the program's text lays; a program that reads as a list. -/
import Derived.Test.YtdiamajkfbejhaaDoorIN2
import Derived.Test.YtdiamajkfbejhaaDoorIY6
namespace Go.Proofs.YtdiamajkfbejhaaDoor
open Go.RowKit

/-- A program and its sizes as one value. -/
def pgV (i q m e : Int) (A : Option Addr) (n c : Nat) : Value := .agg #[.int .i64 i, .int .i64 q, .int .i64 m, .int .i64 e, .slice A n c]
def pgC (i q m e : Int) (A : Option Addr) (n c : Nat) : List Value := [.int .i64 i, .int .i64 q, .int .i64 m, .int .i64 e, .slice A n c]

set_option maxHeartbeats 3200000 in
set_option maxRecDepth 100000 in
theorem checkParts_any (i q m e : Int) (A : Option Addr) (code : List In4) (n c : Nat) (hn : code.length = n) (hl : n ≤ maxLen) (w : World) (hr : RdC w A code) (he : Ev w) :
    Calls Tryd.prog 29 #[pgV i q m e A n c] w fun r w' => r = .returned (.tuple #[.int .i64 (ptA i q m e code).1, .int .i64 (ptA i q m e code).2]) ∧ Nx w w' := by
  unfold maxLen at hl
  have HR := Lib.hid hr
  have HL := Lib.hid hn
  have HE := Lib.hid he
  have CS := Lib.hid (checkSize_any i q m e)
  have OC := Lib.hid (fun o k n N (a many : Int) => opCheck_any i q m e o k n N a many)
  have N0 := Lib.hid (Nx.one w (.cells #[.int .i64 i, .int .i64 q, .int .i64 m, .int .i64 e, .slice A n c] 26))
  have XP := Lib.hid (bx_new w 26 (pgC i q m e A n c))
  obtain ⟨P, hP⟩ : ∃ P, ptA i q m e code = P := ⟨_, rfl⟩
  rw [hP]
  have HP := Lib.hid hP
  clear hr hn he hP
  unfold pgV
  go_enter Tryd.func29, Tryd.ntmps29
  have x0 := XP.out.cell 0 rfl
  have x1 := XP.out.cell 1 rfl
  have x2 := XP.out.cell 2 rfl
  have x3 := XP.out.cell 3 rfl
  go_wp2_with fail
  clear x0 x1 x2 x3
  rw [show (w.alloc (.cells (pgC i q m e A n c).toArray 26)) = w.alloc (.cells #[.int .i64 i, .int .i64 q, .int .i64 m, .int .i64 e, .slice A n c] 26) from rfl] at XP
  generalize w.alloc (.cells #[.int .i64 i, .int .i64 q, .int .i64 m, .int .i64 e, .slice A n c] 26) = W at *
  generalize hb : w.heap.size = b at *
  clear hb
  refine (CS.out W).mono ?_
  rintro r w1 ⟨rfl, q1⟩
  have N1 := Lib.hid (N0.out.trans q1)
  have K1 := Lib.hid q1
  clear q1
  rcases csz_in i q m e with h0 | h0
  rotate_left
  · have HQ := Lib.hid (show P = (0, 3) by rw [← HP.out]; unfold ptA; rw [if_pos (by omega), h0])
    rw [h0]
    clear h0
    go_wp2
    go_ret2
    rw [HQ.out]
    exact ⟨rfl, N1.out⟩
  have H0 := Lib.hid h0
  rw [h0]
  clear h0
  have x4 := (XP.out.nx K1.out).cell 4 rfl
  by_cases hz : n = 0
  · have HQ := Lib.hid (show P = (0, 4) by rw [← HP.out]; unfold ptA; rw [if_neg (by rw [H0.out]; decide), if_pos (by rw [HL.out]; exact hz)])
    subst hz
    go_wp2
    go_ret2
    rw [HQ.out]
    exact ⟨rfl, N1.out⟩
  have t0 : ((n : Int) == 0) = false := by rw [beq_eq_false_iff_ne]; omega
  by_cases hb : 65535 < n
  · have HQ := Lib.hid (show P = (0, 7) by rw [← HP.out]; unfold ptA; rw [if_neg (by rw [H0.out]; decide), if_neg (by rw [HL.out]; exact hz), if_pos (by rw [HL.out]; exact hb)])
    have hbi : (65535 : Int) < (n : Int) := by omega
    go_wp2
    go_ret2
    rw [HQ.out]
    exact ⟨rfl, N1.out⟩
  have hbi : ¬ (65535 : Int) < (n : Int) := by omega
  have HQ := Lib.hid (show P = (fst (ckF i q m e code) code.length, if fst (ckF i q m e code) code.length < code.length then ckF i q m e code (fst (ckF i q m e code) code.length) else 0) by
    rw [← HP.out]; unfold ptA; rw [if_neg (by rw [H0.out]; decide), if_neg (by rw [HL.out]; exact hz), if_neg (by rw [HL.out]; exact hb)])
  have HZ0 := Lib.hid hz
  go_wp2
  clear t0 hbi x4 hz
  go_loopw [25] (fun j wr => ∃ k : Nat, k ≤ n ∧ j = .int .i64 k ∧ (∀ j, j < k → ckF i q m e code j = 0) ∧ Nx W wr) (fun j _ => n - (intOf j).toNat)
  case atStart => exact ⟨0, Nat.zero_le _, rfl, fun j hj => absurd hj (by omega), K1.out⟩
  case round =>
    obtain ⟨k, hk, rfl, hz, hnx⟩ := hrel
    have HZ := Lib.hid hz
    have HN := Lib.hid hnx
    clear hz hnx
    by_cases hlt : k < n
    · obtain ⟨x, hx⟩ := code_at code k (by rw [HL.out]; exact hlt)
      have hki : (k : Int) < (n : Int) := by omega
      obtain ⟨ad, rfl, c0, c1, c2, c3⟩ := (HR.out.nx (N0.out.trans HN.out)).fr4 hx
      have HX := Lib.hid hx
      clear hx
      have N2 := Lib.hid (show Nx wr (wr.alloc (.cells #[.int .i64 x.op, .int .i64 x.k, .int .i64 x.n, .int .i64 x.t] 46)) from Nx.one _ _)
      have XB := Lib.hid (bx_new wr 46 [.int .i64 x.op, .int .i64 x.k, .int .i64 x.n, .int .i64 x.t])
      have y0 := XB.out.cell 0 rfl
      have y1 := XB.out.cell 1 rfl
      have y2 := XB.out.cell 2 rfl
      have y3 := XB.out.cell 3 rfl
      have x0 := (XP.out.nx (HN.out.trans N2.out)).cell 0 rfl
      have x1 := (XP.out.nx (HN.out.trans N2.out)).cell 1 rfl
      have x2 := (XP.out.nx (HN.out.trans N2.out)).cell 2 rfl
      have x3 := (XP.out.nx (HN.out.trans N2.out)).cell 3 rfl
      go_wp2_with fail
      clear c0 c1 c2 c3 y0 y1 y2 y3 x0 x1 x2 x3
      have HV := Lib.hid (show Ev (wr.alloc (.cells #[.int .i64 x.op, .int .i64 x.k, .int .i64 x.n, .int .i64 x.t] 46)) from HE.out.nx (N0.out.trans (HN.out.trans N2.out)))
      have HC := Lib.hid (show ckF i q m e code k = chk i q m e x.op x.k x.n x.t k n by rw [ckF_at HX.out, HL.out])
      refine (OC.out x.op x.k x.n x.t k n _ HV.out).mono ?_
      rintro r w3 ⟨rfl, q3⟩
      have N3 := Lib.hid (HN.out.trans (N2.out.trans q3))
      clear q3
      generalize chk i q m e x.op x.k x.n x.t k n = R at *
      by_cases hz : R = 0
      · subst hz
        have HZ2 := Lib.hid (show ∀ j, j < k + 1 → ckF i q m e code j = 0 from fun j hj => by
          rcases Nat.lt_or_ge j k with h | h
          · exact HZ.out j h
          · obtain rfl : j = k := by omega
            exact HC.out)
        go_wp2_with fail
        go_roundw
        case rel => exact ⟨k + 1, by omega, by go_num, HZ2.out, N3.out⟩
        case measure => simp [intOf]; omega
      · have t1 : (R == 0) = false := by simpa using hz
        have t2 : (R != 0) = true := by simpa using hz
        have HF := Lib.hid (show fst (ckF i q m e code) code.length = k from fst_at (by rw [HL.out]; exact hlt) HZ.out (by rw [HC.out]; exact hz))
        clear hz
        go_wp2_with fail
        go_ret2
        rw [HQ.out, HF.out, HL.out, if_pos hlt, HC.out]
        exact ⟨rfl, N0.out.trans N3.out⟩
    · obtain rfl : k = n := by omega
      have HF := Lib.hid (show fst (ckF i q m e code) code.length = code.length from fst_none (by rw [HL.out]; exact HZ.out))
      have hki : ¬ (k : Int) < (k : Int) := by omega
      have x4 := (XP.out.nx HN.out).cell 4 rfl
      clear hki
      go_wp2_with fail
      go_ret2
      rw [HQ.out, HF.out, if_neg (by omega), HL.out]
      exact ⟨rfl, N0.out.trans HN.out⟩
end Go.Proofs.YtdiamajkfbejhaaDoor
