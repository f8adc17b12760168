/- What the reference's Depths of layer 7 returns. Condition: a program that reads as a list. -/
import Derived.Test.YtdiamajkfbejhaaDoorIN2
namespace Go.Proofs.YtdiamajkfbejhaaDoor
open Go.RowKit

/-- The first depths. -/
def dK (code : List In4) (k : Nat) : List Nat := (List.range k).map (dAt code)
theorem dK_len (code : List In4) (k : Nat) : (dK code k).length = k := by simp [dK]
theorem dK_succ (code : List In4) (k : Nat) : dK code (k + 1) = dK code k ++ [dAt code k] := by simp [dK, List.range_succ]
theorem dK_all (code : List In4) : dK code code.length = dps code := rfl
def DrPost (code : List In4) (w : World) (e : Ending) (w' : World) : Prop :=
  Nx w w' ∧ ((fst (dFl code) code.length = code.length ∧ ∃ A c, e = .returned (.tuple #[.slice A code.length c, .int .i64 code.length, .int .i64 0]) ∧ RdI w' A (dps code)) ∨
    (∃ k : Nat, fst (dFl code) code.length = k ∧ k < code.length ∧ e = .returned (.tuple #[.slice none 0 0, .int .i64 k, .int .i64 (dFl code k)])))
theorem dEr_ref {d : Nat} {o : Int} (hd : d ≤ 64) : dEr d o = if o = 8 then (if 64 ≤ d then 16 else 0) else if o = 9 ∨ o = 10 then (if d = 0 then 18 else 0) else 0 := by
  unfold dEr
  by_cases h : o = 8
  · rw [if_pos h, if_pos h]
    by_cases h2 : d = 64
    · rw [if_pos h2, if_pos (by omega)]
    · rw [if_neg h2, if_neg (by omega)]
  · rw [if_neg h, if_neg h]
theorem own_ints' {w : World} {base n : Nat} {v : Value} {xs : List Nat} (h : w.ownsRow base 3 1 v n (ints xs)) (hn : xs.length = n) : ∃ A c, v = .slice A n c ∧ RdI w A xs := by
  subst hn
  exact own_ints h

set_option maxHeartbeats 3200000 in
set_option maxRecDepth 100000 in
theorem refDepths_any (A : Option Addr) (code : List In4) (n c : Nat) (hn : code.length = n) (hl : n ≤ 1000000) (w : World) (hr : RdC w A code) :
    Calls Tryd.prog 40 #[.slice A n c] w (DrPost code w) := by
  obtain ⟨i0, hi, hz0, hz1, hz2⟩ := info_parts info3
  have HR := Lib.hid hr
  have HL := Lib.hid hn
  clear hr hn
  go_enter Tryd.func40, Tryd.ntmps40
  go_wp2
  go_loopw [5, 6, 7] (fun v d i wr => ∃ k : Nat, k ≤ n ∧ i = .int .i64 k ∧ d = .int .i64 (dAt code k) ∧ (∀ j, j < k → dFl code j = 0) ∧ wr.ownsRow w.heap.size 3 1 v k (ints (dK code k)) ∧ Nx w wr) (fun _ _ i _ => n - (intOf i).toNat)
  case atStart => exact ⟨0, Nat.zero_le _, rfl, rfl, fun j hj => absurd hj (by omega), World.ownsRow_nil _ _ _ _, Nx.refl _⟩
  case round =>
    obtain ⟨k, hk, rfl, rfl, hz, ho, hnx⟩ := hrel
    have hd := dAt_le (by rw [HL.out]; exact hk) hz
    have HZ := Lib.hid hz
    have HO := Lib.hid ho
    have HN := Lib.hid hnx
    have HD := Lib.hid hd
    clear hz ho hnx hd
    by_cases hlt : k < n
    · obtain ⟨x, hx⟩ := code_at code k (by rw [HL.out]; exact hlt)
      have hki : (k : Int) < (n : Int) := by omega
      go_wp2_with (first | (at_builtin; refine wpList_append_own _ rfl (.tmp 14) (.tmp 16) 59 rfl w.heap.size 3 i0 (.int .i64 0) 1 8 Tryd.underlying59 hi hz0 hz1 hz2 rfl (by decide) _ _ _ rfl (World.ownsRow.alloc HO.out _) ⟨wr.heap.size, 0, none⟩ 1 1 [.int .i64 (dAt code k : Int)] rfl rfl (new_one _ _ _) (by intro u hu; simp at hu; subst hu; rfl) (by unfold maxLen; omega) (by omega) (by have := HN.out.size; simp; omega) ?_))
      intro v' w1 ho1 hg _
      have HO1 := Lib.hid (show w1.ownsRow w.heap.size 3 1 v' (k + 1) (ints (dK code (k + 1))) by rw [dK_succ, ints_snoc]; exact ho1)
      have N1 := Lib.hid (show Nx w w1 from grown_nx (HN.out.alloc _) hg (World.ownsRow.alloc HO.out _) (Nat.le_refl _))
      obtain ⟨ad, rfl, c0, c1, c2, c3⟩ := (HR.out.nx N1.out).fr4 hx
      have HX := Lib.hid hx
      have HE := Lib.hid (show dFl code k = dEr (dAt code k) x.op from dFl_at hx)
      have HS := Lib.hid (show dAt code (k + 1) = dNx (dAt code k) x.op from dAt_succ hx)
      clear hx ho1 hg HO
      obtain ⟨op, kk, nn, t⟩ := x
      simp only at c0 c1 c2 c3
      have HB := Lib.hid (show dFl code k = if op = 8 then (if 64 ≤ dAt code k then 16 else 0) else if op = 9 ∨ op = 10 then (if dAt code k = 0 then 18 else 0) else 0 from HE.out.trans (dEr_ref HD.out))
      clear c1 c2 c3 HE
      obtain ⟨D, hD⟩ : ∃ D, dAt code k = D := ⟨_, rfl⟩
      rw [hD] at HB HS
      rw [hD]
      have hD64 : D ≤ 64 := by rw [← hD]; exact HD.out
      have HDD := Lib.hid hD
      clear hD HD
      have HZ2 := Lib.hid (show dFl code k = 0 → ∀ j, j < k + 1 → dFl code j = 0 from fun h0 j hj => by
          rcases Nat.lt_or_ge j k with h | h
          · exact HZ.out j h
          · obtain rfl : j = k := by omega
            exact h0)
      have HF := Lib.hid (show dFl code k ≠ 0 → fst (dFl code) code.length = k from fun h => fst_at (by rw [HL.out]; exact hlt) HZ.out h)
      by_cases h8 : op = 8
      · subst h8
        by_cases h64 : 64 ≤ D
        · have h64' : (64 : Int) ≤ (D : Int) := by omega
          have hv : dFl code k = 16 := by rw [HB.out, if_pos rfl, if_pos h64]
          have HV := Lib.hid hv
          clear hv
          go_wp2_with fail
          go_ret3
          refine ⟨N1.out, .inr ⟨k, HF.out (by rw [HV.out]; decide), by rw [HL.out]; exact hlt, ?_⟩⟩
          rw [HV.out]
          rfl
        · have h64' : ¬ (64 : Int) ≤ (D : Int) := by omega
          have HV := Lib.hid (show dFl code k = 0 by rw [HB.out, if_pos rfl, if_neg h64])
          have HS2 := Lib.hid (show dAt code (k + 1) = D + 1 by rw [HS.out]; rfl)
          go_wp2_with fail
          go_roundw
          case rel => exact ⟨k + 1, by omega, by go_num, by rw [HS2.out]; go_num, HZ2.out HV.out, HO1.out, N1.out⟩
          case measure => simp [intOf]; omega
      · have t8 : (op == 8) = false := by simpa using h8
        by_cases h9 : op = 9 ∨ op = 10
        · by_cases h0 : D = 0
          · subst h0
            have HV := Lib.hid (show dFl code k = 18 by rw [HB.out, if_neg h8, if_pos h9, if_pos rfl])
            clear h8
            rcases h9 with rfl | rfl
            all_goals
              go_wp2_with fail
              go_ret3
              refine ⟨N1.out, .inr ⟨k, HF.out (by rw [HV.out]; decide), by rw [HL.out]; exact hlt, ?_⟩⟩
              rw [HV.out]
              rfl
          · have e1 : ((D : Int) == 0) = false := by rw [beq_eq_false_iff_ne]; omega
            have HV := Lib.hid (show dFl code k = 0 by rw [HB.out, if_neg h8, if_pos h9, if_neg h0])
            have HS2 := Lib.hid (show dAt code (k + 1) = D - 1 by rw [HS.out]; unfold dNx; rw [if_neg h8, if_pos h9])
            clear h8
            rcases h9 with rfl | rfl
            all_goals
              go_wp2_with fail
              go_roundw
              case rel => exact ⟨k + 1, by omega, by go_num, by rw [HS2.out]; congr 1; omega, HZ2.out HV.out, HO1.out, N1.out⟩
              case measure => simp [intOf]; omega
        · have t9 : (op == 9) = false := by simp; omega
          have t10 : (op == 10) = false := by simp; omega
          have HV := Lib.hid (show dFl code k = 0 by rw [HB.out, if_neg h8, if_neg h9])
          have HS2 := Lib.hid (show dAt code (k + 1) = D by rw [HS.out]; unfold dNx; rw [if_neg h8, if_neg h9])
          clear h8 h9
          go_wp2_with fail
          go_roundw
          case rel => exact ⟨k + 1, by omega, by go_num, by rw [HS2.out], HZ2.out HV.out, HO1.out, N1.out⟩
          case measure => simp [intOf]; omega
    · obtain rfl : k = n := by omega
      have hki : ¬ (k : Int) < (k : Int) := by omega
      have HF := Lib.hid (show fst (dFl code) code.length = code.length from fst_none (by rw [HL.out]; exact HZ.out))
      obtain ⟨A', c', rfl, hrd⟩ := own_ints' HO.out (dK_len code k)
      have HP := Lib.hid (show RdI wr A' (dps code) by rw [← dK_all, HL.out]; exact hrd)
      clear hrd hki
      go_wp2_with fail
      go_ret3
      refine ⟨HN.out, .inl ⟨HF.out, A', c', ?_, HP.out⟩⟩
      rw [HL.out]
      rfl
end Go.Proofs.YtdiamajkfbejhaaDoor
