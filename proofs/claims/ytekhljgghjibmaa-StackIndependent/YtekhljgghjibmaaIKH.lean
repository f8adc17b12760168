/- The walk of StackIndependent. Condition: the first argument is a byte. -/
import Derived.Test.YtekhljgghjibmaaIKF
namespace Go.Proofs.Ytekhljgghjibmaa
open Go.RowKit

/-- Two stacks side by side: one at a with elements xs, an empty one at b. -/
def Two (w wr : World) (T a b k md : Nat) (xs : List Value) : Prop :=
  ∃ o, Stk wr T 3 w.heap.size a o k md xs ∧ Stk wr T 3 w.heap.size b none k 0 [] ∧ o ≠ some b ∧ a ≠ b ∧ Nx w wr
theorem Two.step {w wr w' : World} {T a b k md' : Nat} {o o' : Option Nat} {xs : List Value} (h2 : Stk wr T 3 w.heap.size b none k 0 []) (ho : o ≠ some b) (hab : a ≠ b) (hn : Nx w wr) (hown : ∀ j, o = some j → w.heap.size ≤ j) (hs : Stk w' T 3 w.heap.size a o' k md' xs)
    (hq : o' = o ∨ ∀ j, o' = some j → wr.heap.size ≤ j) (hm : Mv a o wr w') : Two w w' T a b k md' xs := by
  refine ⟨o', hs, h2.mv hm (Ne.symm hab) ho (by simp) (fun j hj => by cases hj), ?_, hab, hn.mv hm hs.base_le hown⟩
  rcases hq with rfl | hq
  · exact ho
  · intro e; have := hq b e; have := h2.lt; omega
theorem rep_snoc (j : Nat) (v : Value) : List.replicate j v ++ [v] = List.replicate (j + 1) v := by rw [List.replicate_succ']

set_option maxHeartbeats 3200000 in
theorem law6 (n x y : Int) (h0 : 0 ≤ n) (w : World) : Calls Try.prog 6 #[.int .u8 n, .int .i64 x, .int .i64 y] w fun e w' => e = .returned (.bool true) ∧ Nx w w' := by
  obtain ⟨k', hk'⟩ : ∃ k' : Nat, n % 40 = (k' : Int) := ⟨(n % 40).toNat, by omega⟩
  obtain ⟨k, hk⟩ : ∃ k : Nat, k = k' + 1 := ⟨_, rfl⟩
  have ht : n.tmod 40 = (k' : Int) := by rw [Int.tmod_eq_emod_of_nonneg h0, hk']
  have h2 : 1 + (k' : Int) = (k : Int) := by omega
  have hk40 : k ≤ 40 := by omega
  have HK := Lib.hid hk
  clear hk' hk
  go_enter Try.func6, Try.ntmps6
  go_wp2_with fail
  refine (new_ok_i k (by have := HK.out; omega) (by omega) w).mono ?_
  rintro e w1 ⟨rfl, hs, hn, hz⟩
  have S1 := Lib.hid hs
  have N1 := Lib.hid hn
  have Z1 := Lib.hid hz
  clear hs hn hz
  go_wp2_with fail
  refine (new_ok_i k (by have := HK.out; omega) (by omega) w1).mono ?_
  rintro e w2 ⟨rfl, hs, hn, hz⟩
  have S2 := Lib.hid (S1.out.nx hn)
  have R2 := Lib.hid (hs.low (base' := w.heap.size) N1.out.size)
  have N2 := Lib.hid (N1.out.trans hn)
  clear hs hn hz
  go_wp2_with fail
  refine (alive5_any _).mono ?_
  rintro e w3 ⟨rfl, hn⟩
  have HT := Lib.hid (show Two w w3 86 w.heap.size w1.heap.size k 0 (List.replicate 0 (.int .i64 x)) from ⟨none, S2.out.nx hn, R2.out.nx hn, (by simp), (by have := Z1.out; omega), N2.out.trans hn⟩)
  clear hn S1 S2 R2 N1 N2 Z1
  generalize w.heap.size = p at *
  generalize w1.heap.size = q at *
  go_wp2
  go_loopw [49] (fun i wr => ∃ j : Nat, j ≤ k ∧ i = .int .i64 j ∧ Two w wr 86 p q k j (List.replicate j (.int .i64 x))) (fun i _ => k - (intOf i).toNat)
  case atStart => exact ⟨0, Nat.zero_le _, rfl, HT.out⟩
  case round =>
    obtain ⟨j, hj, rfl, o, hs, hb, ho, hab, hn⟩ := hrel
    have S := Lib.hid hs
    have R := Lib.hid hb
    have O := Lib.hid ho
    have AB := Lib.hid hab
    have NN := Lib.hid hn
    have OW := Lib.hid (fun i hi => (hs.own_lt i hi).1)
    clear hs hb ho hab hn HT
    by_cases hlt : j < k
    · go_wp2_with fail
      refine (push_ok_i x _ _ _ _ _ _ _ S.out (by rw [List.length_replicate]; exact hlt) (by omega)).mono ?_
      rintro e w4 ⟨rfl, o4, hs4, hq4, hm4⟩
      rw [List.length_replicate, show max j (j + 1) = j + 1 by omega, rep_snoc] at hs4
      have HT4 := Lib.hid (Two.step R.out O.out AB.out NN.out OW.out hs4 hq4 hm4)
      clear hs4 hq4 hm4
      go_wp2
      go_roundw
      case rel => exact ⟨j + 1, by omega, by go_num, HT4.out⟩
      case measure => simp [intOf]; omega
    · obtain rfl : j = k := by omega
      go_wp2_with fail
      refine (push_full_i y _ _ _ _ _ _ _ S.out (by rw [List.length_replicate]; exact Nat.le_refl _)).mono ?_
      rintro e w4 ⟨rfl, h4⟩
      have S4 := Lib.hid (show Stk w4 86 3 w.heap.size p o j j (List.replicate k' (.int .i64 x) ++ [.int .i64 x]) by rw [rep_snoc, ← HK.out]; exact S.out.nx h4)
      have R4 := Lib.hid (R.out.nx h4)
      have N4 := Lib.hid (NN.out.trans h4)
      clear h4
      go_wp2_with fail
      refine (depth_i _ _ _ _ _ _ _ R4.out).mono ?_
      rintro e w5 ⟨rfl, rfl⟩
      go_wp2_with fail
      refine (pop_ok_i _ _ _ _ _ _ _ _ S4.out (by rw [List.length_replicate]; omega)).mono ?_
      rintro e w6 ⟨rfl, hs6, hm6⟩
      have S6 := Lib.hid hs6
      have R6 := Lib.hid (R4.out.mv hm6 (Ne.symm AB.out) O.out (by simp) (fun i hi => by cases hi))
      have N6 := Lib.hid (N4.out.mv hm6 S4.out.base_le OW.out)
      clear hs6 hm6
      go_wp2_with fail
      refine (push_ok_i y _ _ _ _ _ _ _ S6.out (by rw [List.length_replicate]; have := HK.out; omega) (by omega)).mono ?_
      rintro e w7 ⟨rfl, o7, hs7, hq7, hm7⟩
      rw [List.length_replicate, ← HK.out, Nat.max_self] at hs7
      have S7 := Lib.hid hs7
      have R7 := Lib.hid (R6.out.mv hm7 (Ne.symm AB.out) O.out (by simp) (fun i hi => by cases hi))
      have N7 := Lib.hid (N6.out.mv hm7 S6.out.base_le OW.out)
      have O7 := Lib.hid (show o7 ≠ some q by
        rcases hq7 with rfl | hq7
        · exact O.out
        · intro e; have := hq7 q e; have := R6.out.lt; omega)
      clear hs7 hm7 hq7
      go_wp2_with fail
      refine (pop_ok_i _ _ _ _ _ _ _ _ S7.out (by rw [List.length_replicate]; omega)).mono ?_
      rintro e w8 ⟨rfl, hs8, hm8⟩
      have S8 := Lib.hid hs8
      have R8 := Lib.hid (R7.out.mv hm8 (Ne.symm AB.out) O7.out (by simp) (fun i hi => by cases hi))
      have N8 := Lib.hid (N7.out.mv hm8 S7.out.base_le (fun i hi => (S7.out.own_lt i hi).1))
      clear hs8 hm8
      have hd : (k' : Int) = (j : Int) - 1 := by have := HK.out; omega
      have hd8 := depth_i _ _ _ _ _ _ _ S8.out
      rw [List.length_replicate] at hd8
      have HD := Lib.hid hd8
      clear hd8
      go_wp2_with fail
      refine (HD.out).mono ?_
      rintro e w9 ⟨rfl, rfl⟩
      go_wp2_with fail
      refine (maxDepth_i _ _ _ _ _ _ _ S8.out).mono ?_
      rintro e w9 ⟨rfl, rfl⟩
      go_wp2_with fail
      refine (maxDepth_i _ _ _ _ _ _ _ R8.out).mono ?_
      rintro e w9 ⟨rfl, rfl⟩
      go_wp2
      go_ret
      exact ⟨rfl, N8.out⟩
end Go.Proofs.Ytekhljgghjibmaa
