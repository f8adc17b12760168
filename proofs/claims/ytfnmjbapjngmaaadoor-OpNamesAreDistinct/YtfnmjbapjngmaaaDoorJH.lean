/- What the reference's Format returns. Conditions: none. -/
import Derived.Test.YtfnmjbapjngmaaaDoorJG
import Derived.IntWalk
namespace Go.Proofs.YtfnmjbapjngmaaaDoor
open Go.RowKit

set_option maxHeartbeats 800000 in
set_option maxRecDepth 100000 in
theorem refFormat_ok (k n : Nat) (hk : k < 3) (hn : n ≤ 255) (w : World) :
    Calls Tryd.prog 33 #[.agg #[.int .i64 k, .int .i64 n]] w fun e w' => e = .returned (.string (lt k ++ dec n)) ∧ Nx w w' := by
  have HS := Lib.hid (show ∀ w1, Nx (w.alloc (.cells #[.int .i64 k, .int .i64 n] 33)) w1 → w1.cell? ⟨w.heap.size, 0, none⟩ = some (.int .i64 k) ∧ w1.cell? ⟨w.heap.size, 1, none⟩ = some (.int .i64 n) from
    fun w1 h => ⟨h.cell (by simp), h.cell (by simp)⟩)
  have HI := Lib.hid (show ∀ w, Calls Tryd.prog 34 #[.int .i64 n] w fun e w' => e = .returned (.string (dec n)) ∧ Nx w w' from fun w => decimal_any n (Nat.le_trans hn (by decide)) w)
  have hsz : (lt k).size + (dec n).size ≤ 10 := by have := lt_size k; have := dec_size n hn; unfold dec; omega
  have c1 : (0 : Int) ≤ (k : Int) + 1 := by omega
  have c2 : (k : Int) + 1 ≤ 3 := by omega
  have c3 : (k : Int) ≤ (k : Int) + 1 := by omega
  have c4 : ((k : Int) + 1).toNat = k + 1 := by omega
  have hex : ({ data := #[73, 81, 77] } : ByteArray).extract k (k + 1) = lt k := by
    rcases (by omega : k = 0 ∨ k = 1 ∨ k = 2) with rfl | rfl | rfl <;> rfl
  have b1 : (0 : Int) ≤ (k : Int) := by omega
  have b2 : (k : Int) < 3 := by omega
  have b3 : (0 : Int) ≤ (n : Int) := by omega
  have b4 : (n : Int) ≤ 255 := by omega
  go_enter Tryd.func33, Tryd.ntmps33
  go_wp2
  have hw : IntKind.i64.wrap ((k : Int) + 1) = (k : Int) + 1 := IntWalk.i64_in _ ⟨by omega, by omega⟩
  have hcat : ∀ w : World, (Op.stringOp .add (lt k) (dec n)).run Tryd.prog w = .ok (.string (lt k ++ dec n)) w := fun w => run_string_add_sum w _ _ (by omega)
  go_region_held3 (fun w' => w'.cell? ⟨w.heap.size, 0, none⟩ = some (.int .i64 k) ∧ w'.cell? ⟨w.heap.size, 1, none⟩ = some (.int .i64 n)) (first | go_keep | exact HS.out _ hnx | exact HS.out _ ((Nx.refl _).drew.trans hnx)) ((go_at_call 34; refine (HI.out _).mono ?_; rintro e w1 ⟨rfl, hnx⟩))
  all_goals go_wp2
  all_goals go_ret
  all_goals exact ⟨rfl, (Nx.one _ _).trans (by first | exact hnx | exact (Nx.refl _).drew.trans hnx)⟩

set_option maxHeartbeats 800000 in
set_option maxRecDepth 100000 in
theorem refFormat_no (k n : Int) (h : ¬ (0 ≤ k ∧ k < 3 ∧ 0 ≤ n ∧ n ≤ 255)) (w : World) :
    Calls Tryd.prog 33 #[.agg #[.int .i64 k, .int .i64 n]] w fun e w' => e = .returned (.string ⟨#[]⟩) ∧ Nx w w' := by
  have h' : k < 0 ∨ (0 ≤ k ∧ 2 < k) ∨ (0 ≤ k ∧ k ≤ 2 ∧ n < 0) ∨ (0 ≤ k ∧ k ≤ 2 ∧ 0 ≤ n ∧ 255 < n) := by omega
  clear h
  rcases h' with h1 | ⟨h1, h2⟩ | ⟨h1, h2, h3⟩ | ⟨h1, h2, h3, h4⟩
  all_goals
    go_enter Tryd.func33, Tryd.ntmps33
    go_wp2
    go_ret
    exact ⟨rfl, Nx.one _ _⟩
end Go.Proofs.YtfnmjbapjngmaaaDoor
