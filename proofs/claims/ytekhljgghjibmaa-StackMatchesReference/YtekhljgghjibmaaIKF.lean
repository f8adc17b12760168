/- What the helpers of the statements of layer 5 return: alive, most. No condition. -/
import Derived.Test.YtekhljgghjibmaaIKE
namespace Go.Proofs.Ytekhljgghjibmaa
open Go.RowKit

set_option maxHeartbeats 1600000 in
theorem alive5_any (w : World) : Calls Try.prog 10 #[] w fun e w' => e = .returned (.bool true) ∧ Nx w w' := by
  go_enter Try.func10, Try.ntmps10
  go_wp2_with fail
  refine (show Calls Try.prog 28 #[.int .i64 2] w _ from new_ok_i 2 (by omega) (by omega) w).mono ?_
  rintro e w1 ⟨rfl, hs, hn, _⟩
  have S1 := Lib.hid hs
  have N1 := Lib.hid hn
  clear hs hn
  go_wp2_with fail
  refine (push_ok_i 1 _ _ _ _ _ _ _ S1.out (by decide) (by omega)).mono ?_
  rintro e w2 ⟨rfl, o2, hs, _, hm⟩
  have S2 := Lib.hid (show Stk w2 86 3 w.heap.size w.heap.size o2 2 1 [.int .i64 1] from hs)
  have N2 := Lib.hid (N1.out.mv hm (Nat.le_refl _) (fun j hj => (S1.out.own_lt j hj).1))
  clear hs hm
  go_wp2_with fail
  refine (push_ok_i 2 _ _ _ _ _ _ _ S2.out (by decide) (by omega)).mono ?_
  rintro e w3 ⟨rfl, o3, hs, _, hm⟩
  have S3 := Lib.hid (show Stk w3 86 3 w.heap.size w.heap.size o3 2 2 ([.int .i64 1] ++ [.int .i64 2]) from hs)
  have N3 := Lib.hid (N2.out.mv hm (Nat.le_refl _) (fun j hj => (S2.out.own_lt j hj).1))
  clear hs hm
  go_wp2_with fail
  refine (push_full_i 3 _ _ _ _ _ _ _ S3.out (by decide)).mono ?_
  rintro e w4 ⟨rfl, hm⟩
  have S4 := Lib.hid (S3.out.nx hm)
  have N4 := Lib.hid (N3.out.trans hm)
  clear hm
  go_wp2_with fail
  refine (pop_ok_i _ _ _ _ _ _ _ _ S4.out (by decide)).mono ?_
  rintro e w5 ⟨rfl, hs, hm⟩
  have S5 := Lib.hid (show Stk w5 86 3 w.heap.size w.heap.size o3 2 2 ([] ++ [.int .i64 1]) from hs)
  have N5 := Lib.hid (N4.out.mv hm (Nat.le_refl _) (fun j hj => (S4.out.own_lt j hj).1))
  clear hs hm
  go_wp2_with fail
  refine (pop_ok_i _ _ _ _ _ _ _ _ S5.out (by decide)).mono ?_
  rintro e w6 ⟨rfl, hs, hm⟩
  have S6 := Lib.hid hs
  have N6 := Lib.hid (N5.out.mv hm (Nat.le_refl _) (fun j hj => (S5.out.own_lt j hj).1))
  clear hs hm
  go_wp2_with fail
  refine (pop_none_i _ _ _ _ _ _ S6.out).mono ?_
  rintro e w7 ⟨rfl, rfl⟩
  go_wp2_with fail
  refine (maxDepth_i _ _ _ _ _ _ _ S6.out).mono ?_
  rintro e w8 ⟨rfl, rfl⟩
  go_wp2
  go_ret
  exact ⟨rfl, N6.out⟩

/-- What most yields. -/
def mst (n : Int) : Nat := 1 + (n % 4096).toNat
theorem mst_ge (n : Int) : 1 ≤ mst n := by unfold mst; omega
theorem mst_le (n : Int) : mst n ≤ 4096 := by unfold mst; omega
set_option maxHeartbeats 800000 in
theorem most_any (n : Int) (w : World) : Calls Try.prog 9 #[.int .i64 n] w fun e w' => e = .returned (.int .i64 (mst n : Int)) ∧ w = w' := by
  have h1 : (IntKind.u64.wrap n).tmod 4096 = n % 4096 := by
    have e : IntKind.u64.wrap n = n % 18446744073709551616 := rfl
    rw [e, Int.tmod_eq_emod_of_nonneg (by omega)]
    omega
  have h2 : 1 + n % 4096 = (mst n : Int) := by unfold mst; omega
  go_enter Try.func9, Try.ntmps9
  go_wp2
  go_ret
  exact ⟨rfl, rfl⟩
end Go.Proofs.Ytekhljgghjibmaa
