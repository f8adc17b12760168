/- What appendIns and encodedSize of the encoding return. Condition: the table of opcodes holds what the program's text lays. -/
import Derived.Test.YtdiamajkfbejhaaDoorIT5
import Derived.Test.YtdiamajkfbejhaaDoorIT2
import Derived.Test.YtdiamajkfbejhaaDoorIN2
namespace Go.Proofs.YtdiamajkfbejhaaDoor
open Go.RowKit

theorem new_oneB (w : World) (b : Nat) (hb : w.heap.size = b) (u : Value) (t : TypeId) : ∀ j v, [u][j]? = some v → (w.alloc (.cells #[u] t)).cell? ((⟨b, 0, none⟩ : Addr).add j) = some v := by
  subst hb; exact new_one w u t
theorem isOp_yes {o : Int} (h : 0 ≤ o ∧ o ≤ 16) : isOp o = true := decide_eq_true h
theorem byt_1 (n : Int) : byt [u8 n] = [.int .u8 (n % 256)] := by simp [byt, u8_nat]
theorem byt_2 (a b : Int) : byt [u8 a, u8 b] = [.int .u8 (a % 256), .int .u8 (b % 256)] := by simp [byt, u8_nat]
set_option maxHeartbeats 1600000 in
set_option maxRecDepth 100000 in
theorem appendIns_any (B : Nat) (v : Value) (bs : List UInt8) (x : In4) (hx : 0 ≤ x.op ∧ x.op ≤ 16) (w : World) (ho : OwY w B v bs) (hB : B ≤ w.heap.size) (hB0 : 0 < B) (hl : bs.length ≤ 900000) (he : Ev w) :
    Calls Tryd.prog 22 #[v, .agg #[.int .i64 x.op, .int .i64 x.k, .int .i64 x.n, .int .i64 x.t]] w fun r w' => ∃ v', r = .returned v' ∧ OwY w' B v' (bs ++ enc1 x) ∧ Below B w w' := by
  obtain ⟨i0, hi, hz0, hz1, hz2⟩ := info_parts info5
  obtain ⟨op, kk, nn, t⟩ := x
  simp only at hx ⊢
  have HO := Lib.hid (show (w.alloc (.cells #[.int .i64 op, .int .i64 kk, .int .i64 nn, .int .i64 t] 46)).ownsRow B 5 1 v bs.length (byt bs) from World.ownsRow.alloc ho _)
  have HX := Lib.hid (bx_new w 46 [.int .i64 op, .int .i64 kk, .int .i64 nn, .int .i64 t])
  have HNE := Lib.hid (ho.away (Nat.le_refl _))
  have HI := Lib.hid (isOp_yes hx)
  have K0 := Lib.hid (Below.alloc (Below.refl B w) hB (.cells #[.int .i64 op, .int .i64 kk, .int .i64 nn, .int .i64 t] 46))
  have FM := Lib.hid (fun w he => opForm_any op w he)
  have HE := Lib.hid he
  have H1 := Lib.hid (byt_1 op)
  have H2 := Lib.hid (byt_2 kk nn)
  have HEN := Lib.hid (show enc1 ⟨op, kk, nn, t⟩ = [u8 op] ++ ((if hA (frm op) then [u8 kk, u8 nn] else []) ++ (if hN (frm op) then two t else [])) from rfl)
  rw [HI.out, if_pos rfl] at FM
  generalize frm op = f at *
  clear ho he hx
  have x0 := HX.out.cell 0 rfl
  go_enter Tryd.func22, Tryd.ntmps22
  go_wp2_with (first | (at_builtin; go_loud (refine wpList_append_lies _ rfl (.tmp 7) (.tmp 11) 28 rfl B 5 i0 (.int .u8 0) 1 1 Tryd.underlying28 hi hz0 hz1 hz2 rfl (by decide) v _ _ rfl (World.ownsRow.alloc HO.out _) ⟨w.heap.size + 1, 0, none⟩ 1 1 [.int .u8 (op % 256)] rfl rfl (new_oneB (w.alloc (.cells #[.int .i64 op, .int .i64 kk, .int .i64 nn, .int .i64 t] 46)) (w.heap.size + 1) (by simp) _ _) (by rw [← H1.out]; exact byt_one _) (by decide) (by unfold maxLen; omega) (by omega) (by simp; omega) (w.heap.size + 1 + 1) (by simp) ?_)))
  intro g cap w1 ho1 hg hl' _
  have A1 := Lib.hid (show Apx B (w.alloc (.cells #[.int .i64 op, .int .i64 kk, .int .i64 nn, .int .i64 t] 46)) w1 v (.slice (some ⟨g, 0, none⟩) (bs.length + 1) cap) (bs ++ [u8 op]) from apx_of rfl rfl (by rw [H1.out]; exact ho1) hg hl' (by simp))
  clear ho1 hg x0 hl'
  have HX1 := Lib.hid (A1.out.bx HX.out HNE.out)
  have B1 := Lib.hid (show Below B w w1 from K0.out.trans (A1.out.below (cs := bs) HO.out (by simp; omega)))
  have HO1 := Lib.hid A1.out.ow
  have HB1 := Lib.hid (show B ≤ w1.heap.size from Nat.le_trans hB B1.out.size)
  have HE1 := Lib.hid (HE.out.below B1.out hB0)
  have HL1 := Lib.hid (show (bs ++ [u8 op]).length = bs.length + 1 by simp)
  obtain ⟨v1, hv1⟩ : ∃ v1, Value.slice (some ⟨g, 0, none⟩) (bs.length + 1) cap = v1 := ⟨_, rfl⟩
  rw [hv1] at HO1 HX1 ⊢
  clear hv1 A1
  have x0 := HX1.out.1.cell 0 rfl
  go_wp2_with fail
  refine (FM.out w1 HE1.out).mono ?_
  rintro r w2 ⟨rfl, rfl⟩
  go_wp2_with fail
  refine (hasAddr_any f w1).mono ?_
  rintro r w2 ⟨rfl, rfl⟩
  cases hh : hA f
  · rw [hh, if_neg (by decide), List.nil_append] at HEN
    clear hh
    go_wp2_with fail
    refine (hasNumber_any f w1).mono ?_
    rintro r w2 ⟨rfl, rfl⟩
    cases hn : hN f
    · rw [hn, if_neg (by decide), List.append_nil] at HEN
      clear hn
      go_wp2_with fail
      go_ret
      rw [HEN.out]
      exact ⟨_, rfl, HO1.out, B1.out⟩
    · rw [hn, if_pos rfl] at HEN
      clear hn
      have x3 := HX1.out.1.cell 3 rfl
      go_wp2_with fail
      refine (appendNumber_any B v1 _ t w1 HO1.out HB1.out (by rw [HL1.out]; omega)).mono ?_
      rintro r w2 ⟨v2, rfl, a2⟩
      have B2 := Lib.hid (B1.out.trans (a2.below HO1.out HB1.out))
      have HO2 := Lib.hid a2.ow
      clear a2 x3 x0
      go_wp2_with fail
      go_ret
      rw [HEN.out, ← List.append_assoc]
      exact ⟨_, rfl, HO2.out, B2.out⟩
  · rw [hh, if_pos rfl] at HEN
    clear hh
    have x1 := HX1.out.1.cell 1 rfl
    have x2 := HX1.out.1.cell 2 rfl
    have HO1' := Lib.hid (show w1.ownsRow B 5 1 v1 (bs.length + 1) (byt (bs ++ [u8 op])) by have := HO1.out; unfold OwY at this; rwa [HL1.out] at this)
    go_wp2_with (first | (at_builtin; refine wpList_append_lies _ rfl (.tmp 21) (.tmp 30) 28 rfl B 5 i0 (.int .u8 0) 1 1 Tryd.underlying28 hi hz0 hz1 hz2 rfl (by decide) v1 _ _ rfl (World.ownsRow.alloc HO1'.out _) ⟨w1.heap.size, 0, none⟩ 2 2 [.int .u8 (kk % 256), .int .u8 (nn % 256)] rfl rfl (new_two _ _ _ _) (by rw [← H2.out]; exact byt_one _) (by decide) (by unfold maxLen; omega) (by omega) (by have := HB1.out; simp; omega) (w1.heap.size + 1) (by simp) ?_))
    intro g cap w2 ho2 hg hl' _
    have A2 := Lib.hid (show Apx B w1 w2 v1 (.slice (some ⟨g, 0, none⟩) (bs.length + 1 + 2) cap) ((bs ++ [u8 op]) ++ [u8 kk, u8 nn]) from apx_of HL1.out rfl (by rw [H2.out]; exact ho2) hg hl' rfl)
    clear ho2 hg x0 x1 x2 hl'
    have HX2 := Lib.hid (A2.out.bx HX1.out.1 HX1.out.2)
    have B2 := Lib.hid (show Below B w w2 from B1.out.trans (A2.out.below HO1.out HB1.out))
    have HO2 := Lib.hid A2.out.ow
    have HB2 := Lib.hid (show B ≤ w2.heap.size from Nat.le_trans hB B2.out.size)
    have HL2 := Lib.hid (show ((bs ++ [u8 op]) ++ [u8 kk, u8 nn]).length = (bs ++ [u8 op]).length + 2 by simp)
    obtain ⟨v2, hv2⟩ : ∃ v2, Value.slice (some ⟨g, 0, none⟩) (bs.length + 1 + 2) cap = v2 := ⟨_, rfl⟩
    rw [hv2] at HO2 HX2 ⊢
    clear hv2 A2
    go_wp2_with fail
    refine (hasNumber_any f w2).mono ?_
    rintro r w3 ⟨rfl, rfl⟩
    cases hn : hN f
    · rw [hn, if_neg (by decide), List.append_nil] at HEN
      clear hn
      go_wp2_with fail
      go_ret
      rw [HEN.out, ← List.append_assoc]
      exact ⟨_, rfl, HO2.out, B2.out⟩
    · rw [hn, if_pos rfl] at HEN
      clear hn
      have x3 := HX2.out.1.cell 3 rfl
      go_wp2_with fail
      refine (appendNumber_any B v2 _ t w2 HO2.out HB2.out (by rw [HL2.out, HL1.out]; omega)).mono ?_
      rintro r w3 ⟨v3, rfl, a3⟩
      have B3 := Lib.hid (B2.out.trans (a3.below HO2.out HB2.out))
      have HO3 := Lib.hid a3.ow
      clear a3 x3
      go_wp2_with fail
      go_ret
      rw [HEN.out, ← List.append_assoc, ← List.append_assoc]
      exact ⟨_, rfl, HO3.out, B3.out⟩

theorem body_take {code : List In4} {k : Nat} {x : In4} (h : code[k]? = some x) : body (code.take (k + 1)) = body (code.take k) ++ enc1 x := by
  rw [take_snoc code k x h, body_snoc]
set_option maxHeartbeats 1600000 in
set_option maxRecDepth 100000 in
theorem encodedSize_any (A : Option Addr) (code : List In4) (n c : Nat) (hn : code.length = n) (hl : n ≤ 100000) (hop : ∀ (k : Nat) (x : In4), code[k]? = some x → 0 ≤ x.op ∧ x.op ≤ 16) (w : World) (hr : RdC w A code) (he : Ev w) :
    Calls Tryd.prog 20 #[.slice A n c] w fun r w' => r = .returned (.int .i64 ((13 + (body code).length : Nat) : Int)) ∧ Nx w w' := by
  have HR := Lib.hid hr
  have HL := Lib.hid hn
  have HP := Lib.hid hop
  have HE := Lib.hid he
  clear hr hn hop he
  go_enter Tryd.func20, Tryd.ntmps20
  go_wp2
  go_loopw [3, 10] (fun s i wr => ∃ k : Nat, k ≤ n ∧ i = .int .i64 k ∧ s = .int .i64 ((13 + (body (code.take k)).length : Nat) : Int) ∧ Nx w wr) (fun _ i _ => n - (intOf i).toNat)
  case atStart => exact ⟨0, Nat.zero_le _, rfl, rfl, Nx.refl _⟩
  case round =>
    obtain ⟨k, hk, rfl, rfl, hnx⟩ := hrel
    have HN := Lib.hid hnx
    clear hnx
    have hb : (body (code.take k)).length ≤ 500000 := by
      have h1 := body_le (code.take k)
      have h2 := List.length_take_le k code
      omega
    by_cases hlt : k < n
    · obtain ⟨x, hx⟩ := code_at code k (by rw [HL.out]; exact hlt)
      have hki : (k : Int) < (n : Int) := by omega
      have HS := Lib.hid (show (body (code.take (k + 1))).length = (body (code.take k)).length + (1 + need (frm x.op)) by rw [body_take hx, List.length_append, enc1_len])
      have HI := Lib.hid (isOp_yes (HP.out k x hx))
      obtain ⟨ad, rfl, c0, c1, c2, c3⟩ := (HR.out.nx HN.out).fr4 hx
      clear hx
      obtain ⟨op, kk, nn, t⟩ := x
      simp only at HS HI c0 c1 c2 c3
      have FM := Lib.hid (fun w he => opForm_any op w he)
      rw [HI.out, if_pos rfl] at FM
      have hnd := need_le (frm op)
      generalize frm op = f at *
      generalize (body (code.take k)).length = L at *
      have N1 := Lib.hid (show Nx w (wr.alloc (.cells #[.int .i64 op, .int .i64 kk, .int .i64 nn, .int .i64 t] 46)) from HN.out.alloc _)
      have XB := bx_new wr 46 [.int .i64 op, .int .i64 kk, .int .i64 nn, .int .i64 t]
      have x0 := XB.cell 0 rfl
      go_wp2_with fail
      refine (FM.out _ (HE.out.nx N1.out)).mono ?_
      rintro r w2 ⟨rfl, rfl⟩
      go_wp2_with fail
      refine (operandSize_any f _).mono ?_
      rintro r w2 ⟨rfl, rfl⟩
      go_wp2_with fail
      go_roundw
      case rel => exact ⟨k + 1, by omega, by go_num, by rw [HS.out]; go_num, N1.out⟩
      case measure => simp [intOf]; omega
    · have hki : ¬ (k : Int) < (n : Int) := by omega
      go_wp2_with fail
      go_ret
      refine ⟨ret_int ?_, HN.out⟩
      rw [List.take_of_length_le (by rw [HL.out]; omega)]
end Go.Proofs.YtdiamajkfbejhaaDoor
