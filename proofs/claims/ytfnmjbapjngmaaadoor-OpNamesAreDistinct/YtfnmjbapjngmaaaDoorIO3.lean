/- What the reference's Number returns, whatever the greatest number. Conditions: texts of at most the model's greatest length; a greatest number of at most 65535. -/
import Derived.Test.YtfnmjbapjngmaaaDoorJA
namespace Go.Proofs.YtfnmjbapjngmaaaDoor
open Go.RowKit

def pnumU (most : Int) (l : List UInt8) : Int × Int := if isDec l then (if most < val l then (0, 3) else (val l, 0)) else (0, 6)
theorem pnumU_no (most : Int) (l : List UInt8) (h : isDec l = false) : pnumU most l = (0, 6) := by unfold pnumU; rw [h]; rfl
theorem pnumU_big {most : Int} (l : List UInt8) (h : isDec l = true) (hv : most < val l) : pnumU most l = (0, 3) := by unfold pnumU; rw [if_pos h, if_pos hv]
theorem pnumU_ok {most : Int} (l : List UInt8) (h : isDec l = true) (hv : ¬ most < val l) : pnumU most l = (val l, 0) := by unfold pnumU; rw [if_pos h, if_neg hv]

set_option maxHeartbeats 400000 in
theorem number_upto (most : Int) (q0 : 0 ≤ most) (q1 : most ≤ 65535) (s : ByteArray) (hs : s.size ≤ maxLen) (w : World) :
    Calls Tryd.prog 32 #[.string s, .int .i64 most] w fun e w' => e = .returned (.tuple #[.int .i64 (pnumU most (B s)).1, .int .i64 (pnumU most (B s)).2]) ∧ w = w' := by
  unfold maxLen at hs
  by_cases h0 : s.size = 0
  · have he := isEmpty_yes s h0
    have HR := Lib.hid (pnumU_no most _ (isDec_nil s h0))
    go_enter Tryd.func32, Tryd.ntmps32
    go_wp2
    go_ret2
    exact ⟨ret_ii HR.out, rfl⟩
  · have he := isEmpty_no s h0
    have hp : 0 < s.size := by omega
    go_enter Tryd.func32, Tryd.ntmps32
    go_wp2
    go_loop [6, 7] (fun n i => ∃ k : Nat, ∃ m : Int, k ≤ s.size ∧ i = .int .i64 k ∧ n = .int .i64 m ∧ ((B s).take k).all dgt = true ∧ 0 ≤ m ∧ m ≤ 655359 ∧ (m ≤ most → m = val ((B s).take k)) ∧ (most < m → most < val ((B s).take k))) (fun _ i => s.size - (intOf i).toNat)
    case atStart => exact ⟨0, 0, Nat.zero_le _, rfl, rfl, rfl, by omega, by omega, fun _ => by simp [val], fun h => by omega⟩
    case round =>
      obtain ⟨k, m, hk, rfl, rfl, ha, hm0, hm1, hm2, hm3⟩ := hrel
      by_cases hlt : k < s.size
      · by_cases hd : 48 ≤ (s[k].toNat : Int) ∧ (s[k].toNat : Int) ≤ 57
        · obtain ⟨hd1, hd2⟩ := hd
          have HS := Lib.hid (all_take_succ s k hlt ha ((dgt_iff _).2 ⟨hd1, hd2⟩))
          have HV := Lib.hid (val_succ s k hlt)
          have HM2 := Lib.hid hm2
          have HM3 := Lib.hid hm3
          clear ha hm2 hm3
          by_cases hm : m ≤ most
          · go_wp2
            go_round
            case rel => exact ⟨k + 1, _, by omega, by go_num, rfl, HS.out, by omega, by omega, fun _ => by rw [HV.out, ← HM2.out hm]; omega, fun h => by rw [HV.out, ← HM2.out hm]; omega⟩
            case measure => simp [intOf]; omega
          · go_wp2
            go_round
            case rel => exact ⟨k + 1, _, by omega, by go_num, rfl, HS.out, by omega, by omega, fun _ => by omega, fun h => by rw [HV.out]; have := HM3.out (by omega); omega⟩
            case measure => simp [intOf]; omega
        · have hf := all_false s k hlt (dgt_no s[k] (by omega))
          have HR := Lib.hid (pnumU_no most (B s) (by unfold isDec; rw [hf]; simp))
          have hor : (s[k].toNat : Int) < 48 ∨ (57 : Int) < (s[k].toNat : Int) := by omega
          clear hd hf ha hm2 hm3
          rcases hor with hor | hor
          all_goals
            go_wp2
            go_ret2
            exact ⟨ret_ii HR.out, rfl⟩
      · rw [List.take_of_length_le (by rw [size_B]; omega)] at ha hm2 hm3
        by_cases hz : 1 < s.size ∧ s[0].toNat = 48
        · have HR := Lib.hid (pnumU_no most (B s) (isDec_zero s hz.1 hz.2))
          have h1 : (1 : Int) < (s.size : Int) := by omega
          have h2 : ((s[0].toNat : Int) == 48) = true := by simp; omega
          clear ha hm2 hm3
          go_wp2
          go_ret2
          exact ⟨ret_ii HR.out, rfl⟩
        · have hdec : isDec (B s) = true := by rw [isDec_else s hp (by omega)]; exact ha
          have hm : m ≤ most ∧ pnumU most (B s) = (m, 0) ∨ most < m ∧ pnumU most (B s) = (0, 3) := by
            by_cases h : m ≤ most
            · left; exact ⟨h, by rw [pnumU_ok _ hdec (by rw [← hm2 h]; omega), ← hm2 h]⟩
            · right; exact ⟨by omega, pnumU_big _ hdec (hm3 (by omega))⟩
          have hc : (1 : Int) < (s.size : Int) ∧ ((s[0].toNat : Int) == 48) = false ∨ ¬ (1 : Int) < (s.size : Int) := by
            by_cases h1 : 1 < s.size
            · left; refine ⟨by omega, ?_⟩; simp; omega
            · right; omega
          clear ha hm2 hm3 hz hdec
          rcases hm with ⟨hm, hr⟩ | ⟨hm, hr⟩
          all_goals
            have HR := Lib.hid hr
            clear hr
            rcases hc with ⟨hc1, hc2⟩ | hc1
            all_goals
              go_wp2
              all_goals go_ret2
              all_goals exact ⟨ret_ii HR.out, rfl⟩
end Go.Proofs.YtfnmjbapjngmaaaDoor
