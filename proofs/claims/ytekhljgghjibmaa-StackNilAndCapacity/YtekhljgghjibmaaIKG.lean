/- What the methods of a nil stack return; the walk of StackNilAndCapacity. No condition. -/
import Derived.Test.YtekhljgghjibmaaIKF
namespace Go.Proofs.Ytekhljgghjibmaa
open Go.RowKit

set_option maxHeartbeats 400000 in
theorem clear_nil_st (w : World) : Calls Try.prog 15 #[.pointer none] w fun e w' => e = .returned (.tuple #[]) ∧ w = w' := by
  go_enter Try.func15, Try.ntmps15
  go_wp2
  go_returns
  exact ⟨rfl, rfl⟩
set_option maxHeartbeats 400000 in
theorem pop_nil_st (w : World) : Calls Try.prog 13 #[.pointer none] w fun e w' => e = .returned (.tuple #[.string ⟨#[]⟩, .int .i64 1]) ∧ w = w' := by
  go_enter Try.func13, Try.ntmps13
  go_wp2
  go_ret2
  exact ⟨rfl, rfl⟩
set_option maxHeartbeats 400000 in
theorem push_nil_st (x : ByteArray) (w : World) : Calls Try.prog 11 #[.pointer none, .string x] w fun e w' => e = .returned (.int .i64 1) ∧ w = w' := by
  go_enter Try.func11, Try.ntmps11
  go_wp2
  go_ret
  exact ⟨rfl, rfl⟩
set_option maxHeartbeats 400000 in
theorem depth_nil_st (w : World) : Calls Try.prog 17 #[.pointer none] w fun e w' => e = .returned (.int .i64 0) ∧ w = w' := by
  go_enter Try.func17, Try.ntmps17
  go_wp2
  go_ret
  exact ⟨rfl, rfl⟩
set_option maxHeartbeats 400000 in
theorem maxDepth_nil_st (w : World) : Calls Try.prog 18 #[.pointer none] w fun e w' => e = .returned (.int .i64 0) ∧ w = w' := by
  go_enter Try.func18, Try.ntmps18
  go_wp2
  go_ret
  exact ⟨rfl, rfl⟩
set_option maxHeartbeats 400000 in
theorem all_nil_st (w : World) : Calls Try.prog 16 #[.pointer none] w fun e w' => e = .returned (.slice none 0 0) ∧ w = w' := by
  go_enter Try.func16, Try.ntmps16
  go_wp2
  go_ret
  exact ⟨rfl, rfl⟩

set_option maxHeartbeats 3200000 in
theorem law4 (n : Int) (x : ByteArray) (w : World) : Calls Try.prog 4 #[.int .i64 n, .string x] w fun e w' => e = .returned (.bool true) ∧ Nx w w' := by
  by_cases hn : n < 1 ∨ 4096 < n
  · have HN := Lib.hid (new_no_sl n hn w)
    have ht : n < 1 ∨ (¬ n < 1 ∧ 4096 < n) := by omega
    rcases ht with h1 | ⟨h1, h2⟩
    all_goals
      clear hn
      go_enter Try.func4, Try.ntmps4
      go_wp2_with (first
        | (go_at_call 15; (with_reducible refine (clear_nil_st _).mono ?_); rintro e w' ⟨rfl, rfl⟩)
        | (go_at_call 13; (with_reducible refine (pop_nil_st _).mono ?_); rintro e w' ⟨rfl, rfl⟩)
        | (go_at_call 11; (with_reducible refine (push_nil_st _ _).mono ?_); rintro e w' ⟨rfl, rfl⟩)
        | (go_at_call 17; (with_reducible refine (depth_nil_st _).mono ?_); rintro e w' ⟨rfl, rfl⟩)
        | (go_at_call 18; (with_reducible refine (maxDepth_nil_st _).mono ?_); rintro e w' ⟨rfl, rfl⟩)
        | (go_at_call 16; (with_reducible refine (all_nil_st _).mono ?_); rintro e w' ⟨rfl, rfl⟩)
        | (go_at_call 19; (with_reducible refine (HN.out).mono ?_); rintro e w' ⟨rfl, rfl⟩)
        | (go_at_call 10; (with_reducible refine (alive5_any _).mono ?_); rintro e w1 ⟨rfl, hn1⟩; have N1 := Lib.hid hn1; clear hn1))
      go_ret
      exact ⟨rfl, N1.out⟩
  · obtain ⟨cap, rfl⟩ : ∃ cap : Nat, n = (cap : Int) := ⟨n.toNat, by omega⟩
    have h1 : ¬ (cap : Int) < 1 := by omega
    have h2 : ¬ 4096 < (cap : Int) := by omega
    have HC1 := Lib.hid (show ([] : List Value).length < cap by show 0 < cap; omega)
    have HC2 := Lib.hid (show cap ≤ 4096 by omega)
    have HN := Lib.hid (new_ok_sl cap (by omega) (by omega) w)
    clear hn
    go_enter Try.func4, Try.ntmps4
    go_wp2_with (first
        | (go_at_call 15; (with_reducible refine (clear_nil_st _).mono ?_); rintro e w' ⟨rfl, rfl⟩)
        | (go_at_call 13; (with_reducible refine (pop_nil_st _).mono ?_); rintro e w' ⟨rfl, rfl⟩)
        | (go_at_call 11; (with_reducible refine (push_nil_st _ _).mono ?_); rintro e w' ⟨rfl, rfl⟩)
        | (go_at_call 17; (with_reducible refine (depth_nil_st _).mono ?_); rintro e w' ⟨rfl, rfl⟩)
        | (go_at_call 18; (with_reducible refine (maxDepth_nil_st _).mono ?_); rintro e w' ⟨rfl, rfl⟩)
        | (go_at_call 16; (with_reducible refine (all_nil_st _).mono ?_); rintro e w' ⟨rfl, rfl⟩)
        | (go_at_call 19; (with_reducible refine (HN.out).mono ?_); rintro e w1 ⟨rfl, hs, hn1, _⟩; have S1 := Lib.hid hs; have N1 := Lib.hid hn1; clear hs hn1)
        | (go_at_call 10; (with_reducible refine (alive5_any _).mono ?_); rintro e w2 ⟨rfl, hn2⟩; have S2 := Lib.hid (S1.out.nx hn2); have N2 := Lib.hid (N1.out.trans hn2); clear hn2)
        | (go_at_call 20; (with_reducible refine (depth_sl _ _ _ _ _ _ _ S2.out).mono ?_); rintro e w3 ⟨rfl, rfl⟩)
        | (go_at_call 21; (with_reducible refine (push_ok_sl _ _ _ _ _ _ _ _ _ _ (S2.out.nx (Nx.one _ _)) HC1.out HC2.out).mono ?_); rintro e w4 ⟨rfl, o4, hs, _, hm⟩; have N4 := Lib.hid ((N2.out.alloc _).mv hm (Nat.le_refl _) (fun j hj => (S2.out.own_lt j hj).1)); clear hs hm))
    go_ret
    exact ⟨rfl, N4.out⟩
end Go.Proofs.Ytekhljgghjibmaa
