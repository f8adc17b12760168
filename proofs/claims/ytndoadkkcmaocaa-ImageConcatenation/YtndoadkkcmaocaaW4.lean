/- The walk of ImageGetSet. Conditions: a slice that reads as a list of bools. -/
import Derived.Test.YtndoadkkcmaocaaW3
namespace Go.Proofs.Ytndoadkkcmaocaa
open Go.RowKit

theorem set_m (A : Option Addr) (xs : List Bool) (m c n : Nat) (v : Bool) (hx : xs.length = m) (hn : n < m) (hl : m ≤ 1000000) (w : World) (hr : Rd w A xs) :
    Calls Try.prog 17 #[.slice A m c, .int .i64 n, .bool v] w fun e w' => ∃ g cc, e = .returned (.tuple #[.slice (some ⟨g, 0, none⟩) m cc, .int .i64 0]) ∧ OwB w' w.heap.size g cc (xs.set n v) ∧ Nx w w' :=
  (set_ok A xs m c n v hx hn hl w hr).mono fun e w' ⟨g, cc, he, ho, hn⟩ => ⟨g, cc, by rw [he, List.length_set, hx], ho, hn⟩
theorem refSet_m (A : Option Addr) (xs : List Bool) (m c n : Nat) (v : Bool) (hx : xs.length = m) (hn : n < m) (hl : m ≤ 1000000) (w : World) (hr : Rd w A xs) :
    Calls Try.prog 18 #[.slice A m c, .int .i64 n, .bool v] w fun e w' => ∃ g cc, e = .returned (.slice (some ⟨g, 0, none⟩) m cc) ∧ OwB w' w.heap.size g cc (xs.set n v) ∧ Nx w w' :=
  (refSet_ok A xs m c n v hx hn hl w hr).mono fun e w' ⟨g, cc, he, ho, hn⟩ => ⟨g, cc, by rw [he, List.length_set, hx], ho, hn⟩

set_option maxHeartbeats 1600000 in
theorem law4_no (A : Option Addr) (xs : List Bool) (m c : Nat) (hx : xs.length = m) (hm : m ≤ 2000) (n : Int) (hn : n < 0 ∨ (0 ≤ n ∧ (m : Int) ≤ n)) (v : Bool) (w : World) (hr : Rd w A xs) :
    Calls Try.prog 4 #[.slice A m c, .int .i64 n, .bool v] w fun e w' => e = .returned (.bool true) ∧ Nx w w' := by
  have h1 : ¬ (2000 : Int) < (m : Int) := by omega
  have HR := Lib.hid hr
  have HF := Lib.hid (fun (w : World) hr => by have := refFormat_any A xs c (by omega) w hr; rwa [hx] at this)
  have HG := Lib.hid (fun w => get_no A m c n (by omega) w)
  have HT := Lib.hid (fun w => set_no A m c n v (by omega) w)
  clear hr hx
  rcases hn with hn | ⟨hn, hn2⟩
  all_goals
    go_enter Try.func4, Try.ntmps4
    go_wp2_with (first
      | (go_at_call 14; refine (HF.out _ HR.out).mono ?_; rintro e w1 ⟨rfl, rfl⟩)
      | (go_at_call 16; refine (HG.out _).mono ?_; rintro e w1 ⟨rfl, rfl⟩)
      | (go_at_call 17; refine (HT.out _).mono ?_; rintro e w1 ⟨rfl, rfl⟩)
      | (go_at_call 10; refine (alive_any _).mono ?_; rintro e w1 ⟨rfl, h9⟩))
    go_ret
    exact ⟨rfl, h9⟩

set_option maxHeartbeats 1600000 in
theorem law4_ok (A : Option Addr) (xs : List Bool) (m c : Nat) (hx : xs.length = m) (hm : m ≤ 2000) (n : Nat) (hn : n < m) (v : Bool) (w : World) (hr : Rd w A xs) :
    Calls Try.prog 4 #[.slice A m c, .int .i64 n, .bool v] w fun e w' => e = .returned (.bool true) ∧ Nx w w' := by
  have h1 : ¬ (2000 : Int) < (m : Int) := by omega
  have HR := Lib.hid hr
  obtain ⟨b, hb⟩ := at_some xs n (by rw [hx]; exact hn)
  obtain ⟨ad, hA, hc⟩ := hr n b hb
  have HC := Lib.hid hc
  have HF := Lib.hid (fun (w : World) hr => by have := refFormat_any A xs c (by omega) w hr; rwa [hx] at this)
  have HG := Lib.hid (fun (w : World) hr => by have := get_ok A xs c n b hb w hr; rwa [hx] at this)
  have HT := Lib.hid (fun (w : World) hr => set_m A xs m c n v hx hn (by omega) w hr)
  have HT' := Lib.hid (fun (w : World) hr => refSet_m A xs m c n v hx hn (by omega) w hr)
  have HL := Lib.hid (show (xs.set n v).length = m by rw [List.length_set, hx])
  have HQ := Lib.hid (eqB_self (xs.set n v))
  have hbb : (b == b) = true := by simp
  have hbn : (b != b) = false := by simp
  subst hA
  clear hr hx hb hc
  generalize txt xs = tt at *
  generalize xs.set n v = zs at *
  go_enter Try.func4, Try.ntmps4
  go_wp2_with (first
    | (go_at_call 14; refine (HF.out _ HR.out).mono ?_; rintro e w1 ⟨rfl, rfl⟩)
    | (go_at_call 16; refine (HG.out _ HR.out).mono ?_; rintro e w1 ⟨rfl, rfl⟩)
    | (go_at_call 17; refine (HT.out _ HR.out).mono ?_; rintro e w1 ⟨g, cc, rfl, ho, hn1⟩; have HO := Lib.hid ho; have HN1 := Lib.hid hn1; have hc1 := hn1.cell HC.out; clear ho hn1)
    | (go_at_call 18; refine (HT'.out _ (HR.out.nx HN1.out)).mono ?_; rintro e w2 ⟨g2, cc2, rfl, ho, hn1⟩; have HO2 := Lib.hid ho; have HN2 := Lib.hid hn1; clear ho hn1)
    | (go_at_call 15; refine (refEqual_any _ _ zs zs _ _ _ _ HL.out HL.out (by omega) _ (HO.out.nx HN2.out).rd HO2.out.rd).mono ?_; rw [HQ.out]; rintro e w3 ⟨rfl, hn1⟩; have HN3 := Lib.hid hn1; clear hn1))
  have HO3 := Lib.hid ((HO.out.nx HN2.out).nx HN3.out)
  have HB := Lib.hid HO.out.base_le
  clear hc1
  go_loopw [83] (fun i wr => ∃ (k : Nat) (ys : List Bool), k ≤ m ∧ i = .int .i64 k ∧ ys.length = m ∧ OwB wr w.heap.size g cc ys ∧ Nx w wr) (fun i _ => m - (intOf i).toNat)
  case atStart => exact ⟨0, zs, Nat.zero_le _, rfl, HL.out, HO3.out, (HN1.out.trans HN2.out).trans HN3.out⟩
  case round =>
    obtain ⟨k, ys, hk, rfl, hy, hown, hnx⟩ := hrel
    have HY := Lib.hid hy
    have HX := Lib.hid hnx
    have HW := Lib.hid hown
    by_cases hlt : k < m
    · obtain ⟨u, hu⟩ := at_some ys k (by rw [hy]; exact hlt)
      have h2 := hown.cell hu
      have h3 := hown.frozen k
      clear hu hown hnx hy
      go_wp2
      go_roundw
      case rel => exact ⟨k + 1, ys.set k (!u), by omega, by go_num, by rw [List.length_set, HY.out], HW.out.set k (!u), HX.out.setCell HB.out _⟩
      case measure => simp [intOf]; omega
    · clear hown hnx hy
      go_wp2_with (first
        | (go_at_call 10; refine (alive_any _).mono ?_; rintro e w5 ⟨rfl, h9⟩; have H9 := Lib.hid h9; clear h9)
        | (go_at_call 14; refine (HF.out _ (HR.out.nx (HX.out.trans H9.out))).mono ?_; rintro e w1 ⟨rfl, rfl⟩))
      go_ret
      exact ⟨rfl, HX.out.trans H9.out⟩

set_option maxHeartbeats 800000 in
theorem law4 (A : Option Addr) (xs : List Bool) (m c : Nat) (hx : xs.length = m) (n : Int) (v : Bool) (w : World) (hr : Rd w A xs) :
    Calls Try.prog 4 #[.slice A m c, .int .i64 n, .bool v] w fun e w' => e = .returned (.bool true) ∧ Nx w w' := by
  by_cases hm : 2000 < m
  · have h1 : (2000 : Int) < (m : Int) := by omega
    clear hr hx
    go_enter Try.func4, Try.ntmps4
    go_wp2_with (go_at_call 10; refine (alive_any _).mono ?_; rintro e w' ⟨rfl, h9⟩)
    go_ret
    exact ⟨rfl, h9⟩
  by_cases hn : 0 ≤ n ∧ n < m
  · obtain ⟨k, rfl⟩ := Int.eq_ofNat_of_zero_le hn.1
    exact law4_ok A xs m c hx (by omega) k (by omega) v w hr
  · exact law4_no A xs m c hx (by omega) n (by omega) v w hr
end Go.Proofs.Ytndoadkkcmaocaa
