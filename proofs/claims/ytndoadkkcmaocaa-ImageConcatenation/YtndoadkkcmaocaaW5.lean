/- The walk of ImageDiffMatchesReference. Conditions: slices that read as lists of bools. -/
import Derived.Test.YtndoadkkcmaocaaH
namespace Go.Proofs.Ytndoadkkcmaocaa
open Go.RowKit

theorem dif_le (xs ys : List Bool) : (dif xs ys).length ≤ xs.length := difK_le _ _ _

set_option maxHeartbeats 1600000 in
theorem law5 (A A2 : Option Addr) (xs ys : List Bool) (m n c d : Nat) (hx : xs.length = m) (hy : ys.length = n) (w : World) (hr : Rd w A xs) (hs : Rd w A2 ys) :
    Calls Try.prog 5 #[.slice A m c, .slice A2 n d] w fun e w' => e = .returned (.bool true) ∧ Nx w w' := by
  by_cases hm : 2000 < m
  · have h1 : (2000 : Int) < (m : Int) := by omega
    clear hr hx hy hs
    go_enter Try.func5, Try.ntmps5
    go_wp2_with (go_at_call 10; refine (alive_any _).mono ?_; rintro e w' ⟨rfl, h9⟩)
    go_ret
    exact ⟨rfl, h9⟩
  by_cases hn : 2000 < n
  · have h1 : ¬ (2000 : Int) < (m : Int) := by omega
    have h2 : (2000 : Int) < (n : Int) := by omega
    clear hr hx hy hs
    go_enter Try.func5, Try.ntmps5
    go_wp2_with (go_at_call 10; refine (alive_any _).mono ?_; rintro e w' ⟨rfl, h9⟩)
    go_ret
    exact ⟨rfl, h9⟩
  have h1 : ¬ (2000 : Int) < (m : Int) := by omega
  have h2 : ¬ (2000 : Int) < (n : Int) := by omega
  have HR := Lib.hid hr
  have HS := Lib.hid hs
  have hl : m ≤ 1000000 := by omega
  have hD := dif_le xs ys
  have HD1 := Lib.hid (fun w => diff_any A A2 xs ys m n c d hx hy hl w)
  have HD2 := Lib.hid (fun w => refDiff_any A A2 xs ys m n c d hx hy hl w)
  have HE1 := Lib.hid (fun w => equal_any A A2 xs ys m n c d hx hy hl w)
  have HE2 := Lib.hid (fun w => refEqual_any A A2 xs ys m n c d hx hy hl w)
  have HC1 := Lib.hid (fun (w : World) hr => by have := count_any A xs c (by omega) w hr; rwa [hx] at this)
  have HC2 := Lib.hid (fun (w : World) hr => by have := refCount_any A xs c (by omega) w hr; rwa [hx] at this)
  have hD' : (dif xs ys).length ≤ 2000 := by omega
  clear hr hs hx hy hD
  go_enter Try.func5, Try.ntmps5
  go_wp2_with fail
  refine (HD1.out _ HR.out HS.out).mono ?_
  rintro e w1 (⟨hne, rfl, hn1⟩ | ⟨heq, A1, c1, rfl, hr1, hn1⟩)
  · have HN1 := Lib.hid hn1
    clear hn1
    go_wp2_with fail
    refine (HD2.out _ (HR.out.nx HN1.out) (HS.out.nx HN1.out)).mono ?_
    rintro e w2 (⟨-, rfl, hn2⟩ | ⟨heq, -⟩)
    rotate_left
    · exact absurd heq hne
    have HN2 := Lib.hid (HN1.out.trans hn2)
    clear hn2 hne
    generalize eqB xs ys = q at *
    generalize cnt xs = t at *
    go_wp2_with (first
      | (go_at_call 21; refine (HE1.out _ (HR.out.nx HN2.out) (HS.out.nx HN2.out)).mono ?_; rintro e w3 ⟨rfl, hn3⟩; have HN3 := Lib.hid (HN2.out.trans hn3); clear hn3)
      | (go_at_call 15; refine (HE2.out _ (HR.out.nx HN3.out) (HS.out.nx HN3.out)).mono ?_; rintro e w4 ⟨rfl, hn4⟩; have HN4 := Lib.hid (HN3.out.trans hn4); clear hn4)
      | (go_at_call 22; refine (HC1.out _ (HR.out.nx HN4.out)).mono ?_; rintro e w5 ⟨rfl, rfl⟩)
      | (go_at_call 23; refine (HC2.out _ (HR.out.nx HN4.out)).mono ?_; rintro e w5 ⟨rfl, rfl⟩))
    refine wp_loop_rounds 1 ?_
    rw [rounds_succ]
    go_wp2_with (go_at_call 10; refine (alive_any _).mono ?_; rintro e w6 ⟨rfl, h9⟩)
    go_ret
    exact ⟨rfl, HN4.out.trans h9⟩
  · have HN1 := Lib.hid hn1
    have HR1 := Lib.hid hr1
    clear hn1 hr1
    go_wp2_with fail
    refine (HD2.out _ (HR.out.nx HN1.out) (HS.out.nx HN1.out)).mono ?_
    rintro e w2 (⟨hne, -⟩ | ⟨-, A2', c2, rfl, hr2, hn2⟩)
    · exact absurd heq hne
    have HN2 := Lib.hid hn2
    have HR2 := Lib.hid hr2
    clear hn2 hr2 heq
    generalize eqB xs ys = q at *
    generalize cnt xs = t at *
    generalize dif xs ys = D at *
    go_wp2_with (first
      | (go_at_call 21; refine (HE1.out _ (HR.out.nx (HN1.out.trans HN2.out)) (HS.out.nx (HN1.out.trans HN2.out))).mono ?_; rintro e w3 ⟨rfl, hn3⟩; have HN3 := Lib.hid hn3; clear hn3)
      | (go_at_call 15; refine (HE2.out _ (HR.out.nx ((HN1.out.trans HN2.out).trans HN3.out)) (HS.out.nx ((HN1.out.trans HN2.out).trans HN3.out))).mono ?_; rintro e w4 ⟨rfl, hn4⟩; have HN4 := Lib.hid ((HN2.out.trans HN3.out).trans hn4); have HN5 := Lib.hid (HN3.out.trans hn4); clear hn4)
      | (go_at_call 22; refine (HC1.out _ (HR.out.nx (HN1.out.trans HN4.out))).mono ?_; rintro e w5 ⟨rfl, rfl⟩)
      | (go_at_call 23; refine (HC2.out _ (HR.out.nx (HN1.out.trans HN4.out))).mono ?_; rintro e w5 ⟨rfl, rfl⟩))
    go_loopw [59] (fun i wr => ∃ k : Nat, k ≤ D.length ∧ i = .int .i64 k ∧ Nx w4 wr) (fun i _ => D.length - (intOf i).toNat)
    case atStart => exact ⟨0, Nat.zero_le _, rfl, Nx.refl _⟩
    case round =>
      obtain ⟨k, hk, rfl, hnx⟩ := hrel
      have HX := Lib.hid hnx
      by_cases hlt : k < D.length
      · obtain ⟨u, hu⟩ : ∃ u, D[k]? = some u := ⟨D[k], List.getElem?_eq_getElem hlt⟩
        obtain ⟨ad, rfl, hc⟩ := (HR1.out.nx (HN4.out.trans hnx)) k u hu
        obtain ⟨bd, rfl, hd⟩ := (HR2.out.nx (HN5.out.trans hnx)) k u hu
        clear hnx
        have HU := Lib.hid hu
        clear hu
        go_wp2
        go_quiet (fail)
        go_wp2
        go_roundw
        case rel => exact ⟨k + 1, by omega, by go_num, by first | exact HX.out | exact HX.out.drewN _⟩
        case measure => simp [intOf]; omega
      · have HY := Lib.hid (HN1.out.trans (HN4.out.trans hnx))
        clear hnx
        go_wp2_with (go_at_call 10; refine (alive_any _).mono ?_; rintro e w6 ⟨rfl, h9⟩)
        go_ret
        exact ⟨rfl, HY.out.trans h9⟩
end Go.Proofs.Ytndoadkkcmaocaa
