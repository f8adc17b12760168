/- What Format and isSpace return. Conditions: the tables are laid. -/
import Derived.Test.YtfnmjbapjngmaaaDoorJF
import Derived.Deep.RegionHeld3
import Derived.Test.YtfnmjbapjngmaaaDoorIK
namespace Go.Proofs.YtfnmjbapjngmaaaDoor
open Go.RowKit

/-- The letter of an address space. -/
def lt (k : Nat) : ByteArray := if k = 0 then sI else if k = 1 then sQ else sM
theorem Env.ltr {w : World} (h : Env w) (k : Nat) (hk : k < 3) : w.cell? ⟨1, k, none⟩ = some (.string (lt k)) := by
  match k, hk with
  | 0, _ => exact h.c0
  | 1, _ => exact h.c1
  | 2, _ => exact h.c2

theorem Nx.grow (w : World) (k : Nat) (os : Array Obj) : Nx w (Go.Sort.grow (w.drewN k) os) :=
  ⟨rfl, rfl, rfl, by show w.heap.size ≤ (w.heap ++ os).size; simp, fun i hi => by
    show (w.heap ++ os)[i]? = _
    rw [Array.getElem?_append_left hi]⟩
/-- What Itoa says, in the words of these walks. -/
theorem itoa_any (n : Nat) (h : n ≤ 255) (w : World) (he : Env w) :
    Calls Tryd.prog 59 #[.int .i64 n] w fun e w' => e = .returned (.string ⟨(Lib.decDigits n).toArray⟩) ∧ Nx w w' := by
  refine (Tryd.strconv_Itoa n (by omega) (by omega) w he.pow).mono ?_
  rintro e w' ⟨rfl, k, os, rfl⟩
  exact ⟨by rw [Lib.itoa_nonneg], Nx.grow _ _ _⟩

theorem lt_size (k : Nat) : (lt k).size = 1 := by unfold lt; split; rfl; split <;> rfl
theorem dec_size (n : Nat) (h : n ≤ 255) : (ByteArray.mk (Lib.decDigits n).toArray).size ≤ 3 := by
  show (Lib.decDigits n).toArray.size ≤ 3
  rw [List.size_toArray, Lib.decDigits_length]
  have : ∀ m : Fin 256, Lib.nDigits m.val ≤ 3 := by decide +kernel
  exact this ⟨n, by omega⟩
/-- The texts of an address: the letter and the number. -/
def dec (n : Nat) : ByteArray := ⟨(Lib.decDigits n).toArray⟩

set_option maxHeartbeats 800000 in
set_option maxRecDepth 100000 in
theorem format_ok (k n : Nat) (hk : k < 3) (hn : n ≤ 255) (w : World) (he : Env w) :
    Calls Tryd.prog 46 #[.agg #[.int .i64 k, .int .i64 n]] w fun e w' => e = .returned (.string (lt k ++ dec n)) ∧ Nx w w' := by
  have e1 := he.nx (Nx.one w (.cells #[.int .i64 k, .int .i64 n] 33))
  have hl := e1.ltr k hk
  have E1 := Lib.hid e1
  have HS := Lib.hid (show ∀ w1, Nx (w.alloc (.cells #[.int .i64 k, .int .i64 n] 33)) w1 → w1.cell? ⟨w.heap.size, 0, none⟩ = some (.int .i64 k) ∧ w1.cell? ⟨w.heap.size, 1, none⟩ = some (.int .i64 n) ∧ w1.cell? ⟨1, k, none⟩ = some (.string (lt k)) from
    fun w1 h => ⟨h.cell (by simp), h.cell (by simp), h.cell hl⟩)
  have HSP := Lib.hid (show isSp (k : Int) = true from decide_eq_true (by omega))
  have HI := Lib.hid (show ∀ w, Env w → Calls Tryd.prog 59 #[.int .i64 n] w fun e w' => e = .returned (.string (dec n)) ∧ Nx w w' from fun w he => itoa_any n hn w he)
  have hsz : (lt k).size + (dec n).size ≤ 10 := by have := lt_size k; have := dec_size n hn; unfold dec; omega
  have b1 : (0 : Int) ≤ (k : Int) := by omega
  have b2 : (k : Int) < 3 := by omega
  have b3 : (0 : Int) ≤ (n : Int) := by omega
  have b4 : (n : Int) ≤ 255 := by omega
  have HL := Lib.hid hl
  clear e1 hl
  go_enter Tryd.func46, Tryd.ntmps46
  go_wp2_with (go_at_call 58; refine (isSpace_any _ _).mono ?_; rw [HSP.out]; rintro e w' ⟨rfl, rfl⟩)
  have hl := HL.out
  have hcat : ∀ w : World, (Op.stringOp .add (lt k) (dec n)).run Tryd.prog w = .ok (.string (lt k ++ dec n)) w := fun w => run_string_add_sum w _ _ (by omega)
  go_region_held3 (fun w' => w'.cell? ⟨w.heap.size, 0, none⟩ = some (.int .i64 k) ∧ w'.cell? ⟨w.heap.size, 1, none⟩ = some (.int .i64 n) ∧ w'.cell? ⟨1, k, none⟩ = some (.string (lt k))) (first | go_keep | exact HS.out _ hnx | exact HS.out _ ((Nx.refl _).drew.trans hnx)) ((go_at_call 59; refine (HI.out _ ?_).mono ?_; (focus (first | exact E1.out | exact E1.out.nx (Nx.refl _).drew)); rintro e w1 ⟨rfl, hnx⟩))
  all_goals go_wp2
  all_goals go_ret
  all_goals exact ⟨rfl, (Nx.one _ _).trans (by first | exact hnx | exact (Nx.refl _).drew.trans hnx)⟩

set_option maxHeartbeats 800000 in
set_option maxRecDepth 100000 in
theorem format_no (k n : Int) (h : ¬ (0 ≤ k ∧ k < 3 ∧ 0 ≤ n ∧ n ≤ 255)) (w : World) :
    Calls Tryd.prog 46 #[.agg #[.int .i64 k, .int .i64 n]] w fun e w' => e = .returned (.string ⟨#[]⟩) ∧ Nx w w' := by
  by_cases hk : 0 ≤ k ∧ k < 3
  · have HSP := Lib.hid (show isSp (k : Int) = true from decide_eq_true (by omega))
    have h' : n < 0 ∨ 255 < n := by omega
    clear h hk
    rcases h' with h' | h'
    all_goals
      go_enter Tryd.func46, Tryd.ntmps46
      go_wp2_with (go_at_call 58; refine (isSpace_any _ _).mono ?_; rw [HSP.out]; rintro e w' ⟨rfl, rfl⟩)
      go_ret
      exact ⟨rfl, Nx.one _ _⟩
  · have HSP := Lib.hid (show isSp (k : Int) = false from decide_eq_false (by omega))
    clear h hk
    go_enter Tryd.func46, Tryd.ntmps46
    go_wp2_with (go_at_call 58; refine (isSpace_any _ _).mono ?_; rw [HSP.out]; rintro e w' ⟨rfl, rfl⟩)
    go_ret
    exact ⟨rfl, Nx.one _ _⟩
end Go.Proofs.YtfnmjbapjngmaaaDoor
