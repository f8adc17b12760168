/- What isDecimal, parseNumber and the reference's Number return. Conditions: texts of at most the model's greatest length. -/
import Derived.Test.YtfnmjbapjngmaaaDoorIA
import Derived.Test.YtfnmjbapjngmaaaDoorJPlain
import Derived.WalkKit
import Derived.WalkSpells
import Derived.WalkLawsBesides
import Derived.BigFrame
import Derived.Lib.Hide
namespace Go.Proofs.YtfnmjbapjngmaaaDoor
open Go.RowKit

set_option maxHeartbeats 400000 in
theorem isDecimal_any (s : ByteArray) (hs : s.size ≤ maxLen) (w : World) :
    Calls Tryd.prog 69 #[.string s] w fun e w' => e = .returned (.bool (isDec (B s))) ∧ w = w' := by
  unfold maxLen at hs
  by_cases h0 : s.size = 0
  · have he := isEmpty_yes s h0
    have hr := isDec_nil s h0
    go_enter Tryd.func69, Tryd.ntmps69
    go_wp2
    go_ret
    exact ⟨ret_bool hr.symm, rfl⟩
  · have he := isEmpty_no s h0
    have hp : 0 < s.size := by omega
    by_cases hz : 1 < s.size ∧ s[0].toNat = 48
    · have hr := isDec_zero s hz.1 hz.2
      have h1 : (1 : Int) < (s.size : Int) := by omega
      have h2 : ((s[0].toNat : Int) == 48) = true := by simp; omega
      go_enter Tryd.func69, Tryd.ntmps69
      go_wp2
      go_ret
      exact ⟨ret_bool hr.symm, rfl⟩
    · have hr := isDec_else s hp (by omega)
      have hloop : 1 < s.size ∧ ((s[0].toNat : Int) == 48) = false ∨ s.size = 1 := by
        by_cases h1 : 1 < s.size
        · left; refine ⟨h1, ?_⟩; simp; omega
        · right; omega
      have HR := Lib.hid hr
      clear hr hz
      have h1' : (1 : Int) < (s.size : Int) ∧ ((s[0].toNat : Int) == 48) = false ∨ ¬ (1 : Int) < (s.size : Int) := by
        rcases hloop with ⟨h1, h2⟩ | h1
        · left; exact ⟨by omega, h2⟩
        · right; omega
      clear hloop
      rcases h1' with ⟨h1, h2⟩ | h1
      all_goals
        go_enter Tryd.func69, Tryd.ntmps69
        go_wp2
        go_loop [3] (fun i => ∃ k : Nat, k ≤ s.size ∧ i = .int .i64 k ∧ ((B s).take k).all dgt = true) (fun i => s.size - (intOf i).toNat)
        case atStart => exact ⟨0, Nat.zero_le _, rfl, rfl⟩
        case round =>
          obtain ⟨k, hk, rfl, ha⟩ := hrel
          by_cases hlt : k < s.size
          · have hsucc := all_take_succ s k hlt ha
            have hfal := all_false s k hlt
            have HS := Lib.hid hsucc
            have HF := Lib.hid hfal
            clear hsucc hfal ha
            by_cases hd : 48 ≤ (s[k].toNat : Int) ∧ (s[k].toNat : Int) ≤ 57
            · obtain ⟨hd1, hd2⟩ := hd
              go_wp2
              go_round
              case rel => exact ⟨k + 1, by omega, by go_num, HS.out ((dgt_iff _).2 ⟨hd1, hd2⟩)⟩
              case measure => simp [intOf]; omega
            · have hd' := dgt_no s[k] (by omega)
              have HD := Lib.hid hd'
              have hor : (s[k].toNat : Int) < 48 ∨ (57 : Int) < (s[k].toNat : Int) := by omega
              clear hd hd'
              rcases hor with hor | hor
              all_goals
                go_wp2
                go_ret
                exact ⟨ret_bool (by rw [HR.out, HF.out HD.out]), rfl⟩
          · go_wp2
            go_ret
            exact ⟨ret_bool (by rw [HR.out]; rw [List.take_of_length_le (by rw [size_B]; omega)] at ha; exact ha.symm), rfl⟩

theorem ret_ii {a b : Int} {p : Int × Int} (h : p = (a, b)) : Ending.returned (.tuple #[.int .i64 a, .int .i64 b]) = .returned (.tuple #[.int .i64 p.1, .int .i64 p.2]) := by rw [h]

set_option maxHeartbeats 400000 in
theorem parseNumber_any (s : ByteArray) (hs : s.size ≤ maxLen) (w : World) :
    Calls Tryd.prog 61 #[.string s] w fun e w' => e = .returned (.tuple #[.int .i64 (pnum (B s)).1, .int .i64 (pnum (B s)).2]) ∧ w = w' := by
  have hs' := hs
  unfold maxLen at hs
  cases hd : isDec (B s)
  · have hr := pnum_no _ hd
    have HR := Lib.hid hr
    have HD := Lib.hid hd
    clear hr hd
    go_enter Tryd.func61, Tryd.ntmps61
    go_wp2_with (go_at_call 69; refine (isDecimal_any s hs' _).mono ?_; rw [HD.out]; rintro e w' ⟨rfl, rfl⟩)
    go_ret2
    exact ⟨ret_ii HR.out, rfl⟩
  · have ha := isDec_all _ hd
    have HD := Lib.hid hd
    have HA := Lib.hid ha
    clear ha hd
    go_enter Tryd.func61, Tryd.ntmps61
    go_wp2_with (go_at_call 69; refine (isDecimal_any s hs' _).mono ?_; rw [HD.out]; rintro e w' ⟨rfl, rfl⟩)
    go_loop [4, 5] (fun n i => ∃ k : Nat, k ≤ s.size ∧ i = .int .i64 k ∧ n = .int .i64 (val ((B s).take k)) ∧ val ((B s).take k) < 256) (fun _ i => s.size - (intOf i).toNat)
    case atStart => exact ⟨0, Nat.zero_le _, rfl, rfl, by simp [val]⟩
    case round =>
      obtain ⟨k, hk, rfl, rfl, hv⟩ := hrel
      have hn := val_nonneg _ (all_take (B s) k HA.out)
      by_cases hlt : k < s.size
      · obtain ⟨hd1, hd2⟩ := dgt_at s k hlt HA.out
        have hsucc := val_succ s k hlt
        have hle := val_take_le (B s) (k + 1) HA.out
        by_cases hb : 10 * val ((B s).take k) + ((s[k].toNat : Int) - 48) < 256
        · have HS := Lib.hid hsucc
          clear hsucc hle
          go_wp2
          go_round
          case rel => exact ⟨k + 1, by omega, by go_num, by rw [HS.out], by rw [HS.out]; exact hb⟩
          case measure => simp [intOf]; omega
        · have hr := pnum_big _ HD.out (by omega)
          have HR := Lib.hid hr
          clear hsucc hle hr
          go_wp2
          go_ret2
          exact ⟨ret_ii HR.out, rfl⟩
      · rw [List.take_of_length_le (by rw [size_B]; omega)] at hv hn ⊢
        have HR := Lib.hid (pnum_ok _ HD.out hv)
        go_wp2
        go_ret2
        exact ⟨ret_ii HR.out, rfl⟩

set_option maxHeartbeats 400000 in
theorem number_any (s : ByteArray) (hs : s.size ≤ maxLen) (w : World) :
    Calls Tryd.prog 32 #[.string s, .int .i64 255] w fun e w' => e = .returned (.tuple #[.int .i64 (pnum (B s)).1, .int .i64 (pnum (B s)).2]) ∧ w = w' := by
  unfold maxLen at hs
  by_cases h0 : s.size = 0
  · have he := isEmpty_yes s h0
    have HR := Lib.hid (pnum_no _ (isDec_nil s h0))
    go_enter Tryd.func32, Tryd.ntmps32
    go_wp2
    go_ret2
    exact ⟨ret_ii HR.out, rfl⟩
  · have he := isEmpty_no s h0
    have hp : 0 < s.size := by omega
    go_enter Tryd.func32, Tryd.ntmps32
    go_wp2
    go_loop [6, 7] (fun n i => ∃ k : Nat, ∃ m : Int, k ≤ s.size ∧ i = .int .i64 k ∧ n = .int .i64 m ∧ ((B s).take k).all dgt = true ∧ 0 ≤ m ∧ m ≤ 2569 ∧ (m ≤ 255 → m = val ((B s).take k)) ∧ (255 < m → 256 ≤ val ((B s).take k))) (fun _ i => s.size - (intOf i).toNat)
    case atStart => exact ⟨0, 0, Nat.zero_le _, rfl, rfl, rfl, by omega, by omega, fun _ => by simp [val], fun h => by omega⟩
    case round =>
      obtain ⟨k, m, hk, rfl, rfl, ha, hm0, hm1, hm2, hm3⟩ := hrel
      by_cases hlt : k < s.size
      · by_cases hd : 48 ≤ (s[k].toNat : Int) ∧ (s[k].toNat : Int) ≤ 57
        · obtain ⟨hd1, hd2⟩ := hd
          have HS := Lib.hid (all_take_succ s k hlt ha ((dgt_iff _).2 ⟨hd1, hd2⟩))
          have HV := Lib.hid (val_succ s k hlt)
          have HM2 := Lib.hid hm2
          have HM3 := Lib.hid hm3
          clear ha hm2 hm3
          by_cases hm : m ≤ 255
          · go_wp2
            go_round
            case rel => exact ⟨k + 1, _, by omega, by go_num, rfl, HS.out, by omega, by omega, fun _ => by rw [HV.out, ← HM2.out hm]; omega, fun h => by rw [HV.out, ← HM2.out hm]; omega⟩
            case measure => simp [intOf]; omega
          · go_wp2
            go_round
            case rel => exact ⟨k + 1, _, by omega, by go_num, rfl, HS.out, by omega, by omega, fun _ => by omega, fun h => by rw [HV.out]; have := HM3.out (by omega); omega⟩
            case measure => simp [intOf]; omega
        · have hf := all_false s k hlt (dgt_no s[k] (by omega))
          have HR := Lib.hid (pnum_no (B s) (by unfold isDec; rw [hf]; simp))
          have hor : (s[k].toNat : Int) < 48 ∨ (57 : Int) < (s[k].toNat : Int) := by omega
          clear hd hf ha hm2 hm3
          rcases hor with hor | hor
          all_goals
            go_wp2
            go_ret2
            exact ⟨ret_ii HR.out, rfl⟩
      · rw [List.take_of_length_le (by rw [size_B]; omega)] at ha hm2 hm3
        by_cases hz : 1 < s.size ∧ s[0].toNat = 48
        · have HR := Lib.hid (pnum_no (B s) (isDec_zero s hz.1 hz.2))
          have h1 : (1 : Int) < (s.size : Int) := by omega
          have h2 : ((s[0].toNat : Int) == 48) = true := by simp; omega
          clear ha hm2 hm3
          go_wp2
          go_ret2
          exact ⟨ret_ii HR.out, rfl⟩
        · have hdec : isDec (B s) = true := by rw [isDec_else s hp (by omega)]; exact ha
          have hm : m ≤ 255 ∧ pnum (B s) = (m, 0) ∨ 255 < m ∧ pnum (B s) = (0, 3) := by
            by_cases h : m ≤ 255
            · left; exact ⟨h, by rw [pnum_ok _ hdec (by rw [← hm2 h]; omega), ← hm2 h]⟩
            · right; exact ⟨by omega, pnum_big _ hdec (hm3 (by omega))⟩
          have hc : (1 : Int) < (s.size : Int) ∧ ((s[0].toNat : Int) == 48) = false ∨ ¬ (1 : Int) < (s.size : Int) := by
            by_cases h1 : 1 < s.size
            · left; refine ⟨by omega, ?_⟩; simp; omega
            · right; omega
          clear ha hm2 hm3 hz hdec
          rcases hm with ⟨hm, hr⟩ | ⟨hm, hr⟩
          all_goals
            have HR := Lib.hid hr
            clear hr
            rcases hc with ⟨hc1, hc2⟩ | hc1
            all_goals
              go_wp2
              all_goals go_ret2
              all_goals exact ⟨ret_ii HR.out, rfl⟩
end Go.Proofs.YtfnmjbapjngmaaaDoor
