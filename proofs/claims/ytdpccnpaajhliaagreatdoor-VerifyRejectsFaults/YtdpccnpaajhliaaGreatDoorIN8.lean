/- The chapter's example holds. Condition: the table of opcodes holds what the program's text lays. -/
import Derived.Test.YtdpccnpaajhliaaGreatDoorIN5
namespace Go.Proofs.YtdpccnpaajhliaaGreatDoor
open Go.RowKit

theorem RdC.bx {w : World} {g : Nat} {code : List In4} {T : TypeId} (h : Bx w g T (ins code)) : RdC w (some ⟨g, 0, none⟩) code := fun k x hk => by
  obtain ⟨h1, h2, h3, h4⟩ := ins_get code k x hk
  refine ⟨_, rfl, ?_, ?_, ?_, ?_⟩
  · rw [Addr.add_lit, Nat.zero_add]; exact h.cell _ h1
  · rw [Addr.add_lit, Nat.zero_add]; exact h.cell _ h2
  · rw [Addr.add_lit, Nat.zero_add]; exact h.cell _ h3
  · rw [Addr.add_lit, Nat.zero_add]; exact h.cell _ h4
def exC : List In4 := [⟨0, 0, 0, 0⟩, ⟨16, 0, 0, 0⟩]
theorem ex7 : ckA 1 0 0 0 exC = (0, 2, 0) := by decide +kernel
set_option maxHeartbeats 1600000 in
set_option maxRecDepth 100000 in
theorem alive7_any (w : World) (he : Ev w) : Calls Tryz.prog 6 #[] w fun e w' => e = .returned (.bool true) ∧ Nx w w' := by
  have N0 := Lib.hid (Nx.one w (.cells #[.int .i64 0, .int .i64 0, .int .i64 0, .int .i64 0, .int .i64 16, .int .i64 0, .int .i64 0, .int .i64 0] 42))
  have CK := Lib.hid (check_any 1 0 0 0 (some ⟨w.heap.size, 0, none⟩) exC 2 2 rfl (by unfold maxLen; omega) (w.alloc (.cells #[.int .i64 0, .int .i64 0, .int .i64 0, .int .i64 0, .int .i64 16, .int .i64 0, .int .i64 0, .int .i64 0] 42))
    (RdC.bx (T := 42) (bx_new w 42 (ins exC))) (he.nx N0.out))
  rw [ex7] at CK
  unfold pgV at CK
  clear he
  go_enter Tryz.func6, Tryz.ntmps6
  go_wp2_with fail
  refine CK.out.mono ?_
  rintro r w1 ⟨rfl, q1⟩
  have K1 := Lib.hid (N0.out.trans q1)
  clear q1 CK
  go_wp2_with fail
  go_ret
  exact ⟨rfl, K1.out⟩
end Go.Proofs.YtdpccnpaajhliaaGreatDoor
