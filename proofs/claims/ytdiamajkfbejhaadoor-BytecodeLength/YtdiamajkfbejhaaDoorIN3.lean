/- What failingJump of layer 7 returns. Conditions: a program that reads as a list, its depths as a list, every jump's target an index. -/
import Derived.Test.YtdiamajkfbejhaaDoorIN2
import Derived.WalkMore
namespace Go.Proofs.YtdiamajkfbejhaaDoor
open Go.RowKit

theorem RdI.lit {w : World} {g : Nat} {xs : List Nat} (h : RdI w (some ⟨g, 0, none⟩) xs) {k v : Nat} (hk : xs[k]? = some v) : w.cell? ⟨g, k, none⟩ = some (.int .i64 v) := by
  obtain ⟨ad, e, hc⟩ := h k v hk
  obtain rfl := Option.some.inj e
  rwa [Addr.add_lit, Nat.zero_add] at hc
set_option maxHeartbeats 3200000 in
set_option maxRecDepth 100000 in
theorem failingJump_any (A : Option Addr) (code : List In4) (n c g d : Nat) (hn : code.length = n) (hl : n ≤ 1000000) (w : World) (hr : RdC w A code) (hd : RdI w (some ⟨g, 0, none⟩) (dps code))
    (hj : ∀ (k : Nat) (x : In4), code[k]? = some x → x.op = 15 → 0 ≤ x.t ∧ x.t < (code.length : Int)) :
    Calls Tryd.prog 31 #[.slice A n c, .slice (some ⟨g, 0, none⟩) n d] w fun r w' => r = .returned (.int .i64 (fst (jpF code) code.length)) ∧ Nx w w' := by
  have HR := Lib.hid hr
  have HL := Lib.hid hn
  have HD := Lib.hid hd
  have HJ := Lib.hid hj
  clear hr hn hd hj
  go_enter Tryd.func31, Tryd.ntmps31
  go_wp2
  go_step3
  go_wp2
  go_step3
  go_wp2
  go_loopw [5, 14] (fun fv j wr => ∃ k : Nat, k ≤ n ∧ fv = .int .i64 n ∧ j = .int .i64 k ∧ (∀ j, j < k → jpF code j = 0) ∧ Nx w wr) (fun _ j _ => n - (intOf j).toNat)
  case atStart => exact ⟨0, Nat.zero_le _, rfl, rfl, fun j hj => absurd hj (by omega), Nx.refl _⟩
  case round =>
    obtain ⟨k, hk, rfl, rfl, hz, hnx⟩ := hrel
    have HZ := Lib.hid hz
    have HN := Lib.hid hnx
    clear hz hnx
    by_cases hlt : k < n
    · obtain ⟨x, hx⟩ := code_at code k (by rw [HL.out]; exact hlt)
      have HT := Lib.hid (HJ.out k x hx)
      have HP := Lib.hid (jpF_at hx)
      have hki : (k : Int) < (n : Int) := by omega
      obtain ⟨ad, rfl, c0, c1, c2, c3⟩ := (HR.out.nx HN.out).fr4 hx
      obtain ⟨op, kk, nn, t⟩ := x
      simp only at c0 c1 c2 c3
      clear hx
      have N2 := Lib.hid (show Nx wr (wr.alloc (.cells #[.int .i64 op, .int .i64 kk, .int .i64 nn, .int .i64 t] 46)) from Nx.one _ _)
      have XB := Lib.hid (bx_new wr 46 [.int .i64 op, .int .i64 kk, .int .i64 nn, .int .i64 t])
      have y0 := XB.out.cell 0 rfl
      have y3 := XB.out.cell 3 rfl
      by_cases ho : op = 15
      · subst ho
        obtain ⟨h0, h1⟩ := HT.out rfl
        obtain ⟨T, rfl⟩ : ∃ T : Nat, t = T := ⟨t.toNat, by simp at h0; omega⟩
        simp only at h0 h1
        have hTn : T < n := by have := HL.out; omega
        have d0 := (HD.out.nx (HN.out.trans N2.out)).lit (dps_at (show k < code.length by rw [HL.out]; exact hlt))
        have d1 := (HD.out.nx (HN.out.trans N2.out)).lit (dps_at (show T < code.length by rw [HL.out]; exact hTn))
        have HP2 := Lib.hid (show jpF code k = if dAt code k ≠ 0 ∨ dAt code T ≠ 0 then 11 else 0 by rw [HP.out]; simp)
        clear h0 h1 HT HP
        have hTi : (T : Int) < (n : Int) := by omega
        go_wp2_with fail
        have i0 : ∀ w', (Instr.index 90 (.agg #[.int .i64 k, .int .i64 T]) (.int .i64 0)).run Tryd.prog w' = .ok (.int .i64 k) w' := fun w' => by kernel_rfl
        have i1 : ∀ w', (Instr.index 90 (.agg #[.int .i64 k, .int .i64 T]) (.int .i64 1)).run Tryd.prog w' = .ok (.int .i64 T) w' := fun w' => by kernel_rfl
        refine wp_loop_rounds 3 ?_
        rw [rounds_succ]
        by_cases hz0 : dAt code k = 0
        · rw [hz0] at d0
          go_wp2_with fail
          rw [rounds_succ]
          by_cases hz1 : dAt code T = 0
          · rw [hz1] at d1
            go_wp2_with fail
            rw [rounds_succ]
            go_wp2_with fail
            have HZ2 := Lib.hid (show ∀ j, j < k + 1 → jpF code j = 0 from fun j hj => by
              rcases Nat.lt_or_ge j k with h | h
              · exact HZ.out j h
              · obtain rfl : j = k := by omega
                rw [HP2.out, if_neg (by omega)])
            go_roundw
            case rel => exact ⟨k + 1, by omega, rfl, by go_num, HZ2.out, HN.out.trans N2.out⟩
            case measure => simp [intOf]; omega
          · have t0 : ((dAt code T : Int) == 0) = false := by rw [beq_eq_false_iff_ne]; omega
            have t1 : ((dAt code T : Int) != 0) = true := by rw [bne_iff_ne]; omega
            have HF := Lib.hid (show fst (jpF code) code.length = k from fst_at (by rw [HL.out]; exact hlt) HZ.out (by rw [HP2.out, if_pos (Or.inr hz1)]; decide))
            go_wp2_with fail
            rw [Exit.noGoto_ret]
            go_ret
            rw [HF.out]
            exact ⟨rfl, HN.out.trans N2.out⟩
        · have t0 : ((dAt code k : Int) == 0) = false := by rw [beq_eq_false_iff_ne]; omega
          have t1 : ((dAt code k : Int) != 0) = true := by rw [bne_iff_ne]; omega
          have HF := Lib.hid (show fst (jpF code) code.length = k from fst_at (by rw [HL.out]; exact hlt) HZ.out (by rw [HP2.out, if_pos (Or.inl hz0)]; decide))
          go_wp2_with fail
          rw [Exit.noGoto_ret]
          go_ret
          rw [HF.out]
          exact ⟨rfl, HN.out.trans N2.out⟩
      · have t1 : (op == 15) = false := by simpa using ho
        have t2 : (op != 15) = true := by simpa using ho
        have HZ2 := Lib.hid (show ∀ j, j < k + 1 → jpF code j = 0 from fun j hj => by
          rcases Nat.lt_or_ge j k with h | h
          · exact HZ.out j h
          · obtain rfl : j = k := by omega
            rw [HP.out, if_neg (fun h => ho h.1)])
        clear HT HP ho
        go_wp2_with fail
        go_roundw
        case rel => exact ⟨k + 1, by omega, rfl, by go_num, HZ2.out, HN.out.trans N2.out⟩
        case measure => simp [intOf]; omega
    · obtain rfl : k = n := by omega
      have HF := Lib.hid (show fst (jpF code) code.length = code.length from fst_none (by rw [HL.out]; exact HZ.out))
      have hki : ¬ (k : Int) < (k : Int) := by omega
      clear hki
      go_wp2_with fail
      rw [Exit.noGoto_ret]
      go_ret
      rw [HF.out, HL.out]
      exact ⟨rfl, HN.out⟩
end Go.Proofs.YtdiamajkfbejhaaDoor
