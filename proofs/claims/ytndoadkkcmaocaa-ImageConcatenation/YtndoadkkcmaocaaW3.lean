/- The walk of ImageFormatMatchesReference. Conditions: a slice that reads as a list of bools. -/
import Derived.Test.YtndoadkkcmaocaaH
namespace Go.Proofs.Ytndoadkkcmaocaa
open Go.RowKit

theorem eqB_self (xs : List Bool) : eqB xs xs = true := decide_eq_true rfl

set_option maxHeartbeats 800000 in
theorem law3 (A : Option Addr) (xs : List Bool) (m c : Nat) (hx : xs.length = m) (s : ByteArray) (w : World) (hr : Rd w A xs) :
    Calls Try.prog 3 #[.slice A m c, .string s] w fun e w' => e = .returned (.bool true) ∧ Nx w w' := by
  by_cases hm : 2000 < m
  · have h1 : (2000 : Int) < (m : Int) := by omega
    clear hr hx
    go_enter Try.func3, Try.ntmps3
    go_wp2_with (go_at_call 10; refine (alive_any _).mono ?_; rintro e w' ⟨rfl, h9⟩)
    go_ret
    exact ⟨rfl, h9⟩
  by_cases hs : 2000 < s.size
  · have h1 : ¬ (2000 : Int) < (m : Int) := by omega
    have h2 : (2000 : Int) < (s.size : Int) := by omega
    clear hr hx
    go_enter Try.func3, Try.ntmps3
    go_wp2_with (go_at_call 10; refine (alive_any _).mono ?_; rintro e w' ⟨rfl, h9⟩)
    go_ret
    exact ⟨rfl, h9⟩
  have h1 : ¬ (2000 : Int) < (m : Int) := by omega
  have h2 : ¬ (2000 : Int) < (s.size : Int) := by omega
  have HR := Lib.hid hr
  have hl : xs.length ≤ 1000000 := by omega
  have HF := Lib.hid (fun (w : World) hr => by have := format_any A xs c hl w hr; rwa [hx] at this)
  have HF' := Lib.hid (fun (w : World) hr => by have := refFormat_any A xs c hl w hr; rwa [hx] at this)
  have hsz : (px s).length ≤ 1000000 := by
    unfold px; split
    · simp
    · rw [List.length_map, size_B]; omega
  have HQ := Lib.hid (eqB_self (px s))
  have HP1 := Lib.hid (fun w => parse_any s w)
  have HP2 := Lib.hid (fun w => refParse_any s w)
  clear hr hx hl
  go_enter Try.func3, Try.ntmps3
  go_wp2_with fail
  refine (HP1.out _).mono ?_
  rintro e w1 ⟨A1, c1, rfl, hr1, hn1⟩
  have HN1 := Lib.hid hn1
  have HR1 := Lib.hid hr1
  clear hn1 hr1
  go_wp2_with fail
  refine (HP2.out _).mono ?_
  rintro e w2 ⟨A2, c2, rfl, hr2, hn2⟩
  have HN2 := Lib.hid hn2
  have HR2 := Lib.hid hr2
  clear hn2 hr2
  generalize px s = p at *
  generalize pc s = q at *
  generalize txt xs = tt at *
  go_wp2_with (first
    | (go_at_call 10; refine (alive_any _).mono ?_; rintro e w3 ⟨rfl, hn3⟩; have HN3 := Lib.hid hn3; clear hn3)
    | (go_at_call 13; refine (HF.out _ (HR.out.nx ((HN1.out.trans HN2.out).trans HN3.out))).mono ?_; rintro e w4 ⟨rfl, hn4⟩; have HN4 := Lib.hid hn4; clear hn4)
    | (go_at_call 14; refine (HF'.out _ (HR.out.nx (((HN1.out.trans HN2.out).trans HN3.out).trans HN4.out))).mono ?_; rintro e w5 ⟨rfl, rfl⟩)
    | (go_at_call 15; refine (refEqual_any A1 A2 p p _ _ _ _ rfl rfl hsz _ (HR1.out.nx ((HN2.out.trans HN3.out).trans HN4.out)) (HR2.out.nx (HN3.out.trans HN4.out))).mono ?_; rw [HQ.out]; rintro e w6 ⟨rfl, hn6⟩; have HN6 := Lib.hid hn6; clear hn6))
  go_ret
  exact ⟨rfl, (((HN1.out.trans HN2.out).trans HN3.out).trans HN4.out).trans HN6.out⟩
end Go.Proofs.Ytndoadkkcmaocaa
