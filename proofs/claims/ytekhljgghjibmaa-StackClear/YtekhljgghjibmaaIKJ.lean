/- The walk of StackClear. Condition: slices whose cells read as lists of integers. -/
import Derived.Test.YtekhljgghjibmaaIKI
namespace Go.Proofs.Ytekhljgghjibmaa
open Go.RowKit

theorem own_rdv {w : World} {base g n c : Nat} {E : TypeId} {xs : List Value} (h : w.ownsRow base E 1 (.slice (some ⟨g, 0, none⟩) n c) n xs) : RdV w (some ⟨g, 0, none⟩) xs := fun k u hu => ⟨_, rfl, h.cells (g := g) rfl k u hu⟩

set_option maxHeartbeats 3200000 in
theorem law7_main (A A2 : Option Addr) (zs ys : List Int) (m n c d : Nat) (hz : zs.length = m) (hy : ys.length = n) (hm : m ≤ 200) (hn : n ≤ 200) (w : World) (hr : RdV w A (vals .i16 zs)) (hs : RdV w A2 (vals .i16 ys)) :
    Calls Try.prog 7 #[.slice A m c, .slice A2 n d] w fun e w' => e = .returned (.bool true) ∧ Nx w w' := by
  have h1 : ¬ (200 : Int) < (m : Int) := by omega
  have h2 : ¬ (200 : Int) < (n : Int) := by omega
  have HR := Lib.hid hr
  have HS := Lib.hid hs
  have HZ := Lib.hid hz
  have HY := Lib.hid hy
  clear hr hz hs hy
  go_enter Try.func7, Try.ntmps7
  go_wp2_with fail
  refine (show Calls Try.prog 33 #[.int .i64 4096] w _ from new_ok_h 4096 (by omega) (by omega) w).mono ?_
  rintro e w1 ⟨rfl, hs, hn1, _⟩
  have S1 := Lib.hid hs
  have N1 := Lib.hid hn1
  clear hs hn1
  go_wp2_with fail
  refine (alive5_any _).mono ?_
  rintro e w2 ⟨rfl, hn2⟩
  have HT := Lib.hid (show Own1 w w2 88 71 w.heap.size 0 (vals .i16 (zs.take 0)) from ⟨none, S1.out.nx hn2, N1.out.trans hn2⟩)
  clear hn2 S1 N1
  generalize hb : w.heap.size = b at *
  have HB := Lib.hid hb
  clear hb
  go_wp2
  go_loopw [42] (fun i wr => ∃ j : Nat, j ≤ m ∧ i = .int .i64 j ∧ Own1 w wr 88 71 b j (vals .i16 (zs.take j))) (fun i _ => m - (intOf i).toNat)
  case atStart => exact ⟨0, Nat.zero_le _, rfl, HT.out⟩
  case round =>
    obtain ⟨j, hj, rfl, o, hs, hnn⟩ := hrel
    have S := Lib.hid hs
    have NN := Lib.hid hnn
    have OW := Lib.hid (fun i hi => (hs.own_lt i hi).1)
    clear HT
    by_cases hlt : j < m
    · obtain ⟨z, hz⟩ := int_at zs j (by rw [HZ.out]; exact hlt)
      obtain ⟨ad, rfl, hc⟩ := (HR.out.nx hnn) j _ (vals_at hz)
      have HZZ := Lib.hid hz
      clear hs hnn hz
      go_wp2_with fail
      refine (push_ok_h z _ _ _ _ _ _ _ S.out (by rw [vals_len _ _ _ (by rw [HZ.out]; omega)]; omega) (by omega)).mono ?_
      rintro e w4 ⟨rfl, o4, hs4, _, hm4⟩
      rw [vals_len _ _ _ (by rw [HZ.out]; omega), show max j (j + 1) = j + 1 by omega, vals_snoc HZZ.out] at hs4
      have S4 := Lib.hid (show Own1 w w4 88 71 b (j + 1) (vals .i16 (zs.take (j + 1))) from own1_push NN.out OW.out hs4 hm4)
      clear hs4 hm4
      go_wp2
      go_roundw
      case rel => exact ⟨j + 1, by omega, by go_num, S4.out⟩
      case measure => simp [intOf]; omega
    · obtain rfl : j = m := by omega
      clear hs hnn
      go_wp2_with fail
      refine (clear_h _ _ _ _ _ _ _ S.out).mono ?_
      rintro e w4 ⟨rfl, hs4, hm4⟩
      have S4 := Lib.hid hs4
      have N4 := Lib.hid (NN.out.mv hm4 hs4.base_le OW.out)
      clear hs4 hm4
      go_wp2_with fail
      refine (pop_none_h _ _ _ _ _ _ S4.out).mono ?_
      rintro e w5 ⟨rfl, rfl⟩
      go_wp2_with fail
      refine (show Calls Try.prog 37 _ w4 (fun e w' => e = .returned (.int .i64 0) ∧ w4 = w') from depth_h _ _ _ _ _ _ _ S4.out).mono ?_
      rintro e w5 ⟨rfl, rfl⟩
      have HT := Lib.hid (show Own1 w w4 88 71 b (max j 0) (vals .i16 (ys.take 0)) from ⟨none, by rw [Nat.max_zero]; exact S4.out, N4.out⟩)
      clear S4 N4 S NN OW
      go_wp2
      go_loopw [66] (fun i wr => ∃ q : Nat, q ≤ n ∧ i = .int .i64 q ∧ Own1 w wr 88 71 b (max j q) (vals .i16 (ys.take q))) (fun i _ => n - (intOf i).toNat)
      case atStart => exact ⟨0, Nat.zero_le _, rfl, HT.out⟩
      case round =>
        obtain ⟨q, hq, rfl, o, hs, hnn⟩ := hrel
        have S := Lib.hid hs
        have NN := Lib.hid hnn
        have OW := Lib.hid (fun i hi => (hs.own_lt i hi).1)
        clear HT
        by_cases hlq : q < n
        · obtain ⟨z, hz⟩ := int_at ys q (by rw [HY.out]; exact hlq)
          obtain ⟨ad, rfl, hc⟩ := (HS.out.nx hnn) q _ (vals_at hz)
          have HZZ := Lib.hid hz
          clear hs hnn hz
          go_wp2_with fail
          refine (push_ok_h z _ _ _ _ _ _ _ S.out (by rw [vals_len _ _ _ (by rw [HY.out]; omega)]; omega) (by omega)).mono ?_
          rintro e w6 ⟨rfl, o6, hs6, _, hm6⟩
          rw [vals_len _ _ _ (by rw [HY.out]; omega), show max (max j q) (q + 1) = max j (q + 1) by omega, vals_snoc HZZ.out] at hs6
          have S6 := Lib.hid (show Own1 w w6 88 71 b (max j (q + 1)) (vals .i16 (ys.take (q + 1))) from own1_push NN.out OW.out hs6 hm6)
          clear hs6 hm6
          go_wp2
          go_roundw
          case rel => exact ⟨q + 1, by omega, by go_num, S6.out⟩
          case measure => simp [intOf]; omega
        · obtain rfl : q = n := by omega
          rw [List.take_of_length_le (by rw [HY.out]; exact Nat.le_refl _)] at hs
          have hl : (vals .i16 ys).length = q := by simp [vals, HY.out]
          have SY := Lib.hid hs
          clear hs hnn S
          go_wp2_with fail
          refine (all_h _ _ _ _ _ _ _ SY.out (by rw [hl]; omega) (vals_one _ _)).mono ?_
          rintro e w6 ⟨rfl, ho6, hn6⟩
          rw [hl] at ho6 ⊢
          have O6 := Lib.hid ho6
          have S6 := Lib.hid (SY.out.nx hn6)
          have N6 := Lib.hid (NN.out.trans hn6)
          clear ho6 hn6 hl
          have HM := Lib.hid (maxDepth_h _ _ _ _ _ _ _ S6.out)
          obtain ⟨M, hM⟩ : ∃ M, M = max j q := ⟨_, rfl⟩
          rw [← hM] at HM
          have hM2 : (j < q ∧ M = q) ∨ (¬ j < q ∧ M = j) := by omega
          rcases hM2 with ⟨hjq, hMq⟩ | ⟨hjq, hMq⟩
          all_goals
            rw [hMq] at HM
            clear hM hMq
            go_wp2_with fail
            refine (HM.out).mono ?_
            rintro e w7 ⟨rfl, rfl⟩
            go_wp2
            go_loopw [93] (fun i wr => ∃ p : Nat, p ≤ q ∧ i = .int .i64 p ∧ Nx w6 wr) (fun i _ => q - (intOf i).toNat)
            case atStart => exact ⟨0, Nat.zero_le _, rfl, Nx.refl _⟩
            case round =>
              obtain ⟨p, hp, rfl, hnp⟩ := hrel
              have NP := Lib.hid hnp
              by_cases hlp : p < q
              · obtain ⟨z, hz⟩ := int_at ys p (by rw [HY.out]; exact hlp)
                obtain ⟨ad, rfl, hc⟩ := (HS.out.nx (N6.out.trans hnp)) p _ (vals_at hz)
                have c1 := hnp.cell ((O6.out.cellAt p (by omega)).trans (vals_at hz))
                clear hnp hz
                go_wp2
                go_quiet (fail)
                go_wp2
                go_roundw
                case rel => exact ⟨p + 1, by omega, by go_num, by first | exact NP.out | exact NP.out.drewN _⟩
                case measure => simp [intOf]; omega
              · clear hnp
                go_wp2
                go_ret
                exact ⟨rfl, N6.out.trans NP.out⟩

set_option maxHeartbeats 800000 in
theorem law7 (A A2 : Option Addr) (zs ys : List Int) (m n c d : Nat) (hz : zs.length = m) (hy : ys.length = n) (w : World) (hr : RdV w A (vals .i16 zs)) (hs : RdV w A2 (vals .i16 ys)) :
    Calls Try.prog 7 #[.slice A m c, .slice A2 n d] w fun e w' => e = .returned (.bool true) ∧ Nx w w' := by
  by_cases hmn : m ≤ 200 ∧ n ≤ 200
  · exact law7_main A A2 zs ys m n c d hz hy hmn.1 hmn.2 w hr hs
  · have h1 : (200 : Int) < (m : Int) ∨ (¬ (200 : Int) < (m : Int) ∧ (200 : Int) < (n : Int)) := by omega
    clear hr hz hy hs hmn
    rcases h1 with h1 | ⟨h1, h2⟩
    all_goals
      go_enter Try.func7, Try.ntmps7
      go_wp2_with fail
      refine (show Calls Try.prog 33 #[.int .i64 4096] w _ from new_ok_h 4096 (by omega) (by omega) w).mono ?_
      rintro e w1 ⟨rfl, _, hn, _⟩
      have N1 := Lib.hid hn
      clear hn
      go_wp2_with fail
      refine (alive5_any _).mono ?_
      rintro e w2 ⟨rfl, hn⟩
      have N2 := Lib.hid (N1.out.trans hn)
      clear hn
      go_wp2_with fail
      refine (alive5_any _).mono ?_
      rintro e w3 ⟨rfl, hn⟩
      have N3 := Lib.hid (N2.out.trans hn)
      clear hn
      go_wp2
      go_ret
      exact ⟨rfl, N3.out⟩
end Go.Proofs.Ytekhljgghjibmaa
