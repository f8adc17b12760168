/- What address, number and operandsOf return: the operands of a form. Conditions: none. -/
import Derived.Test.YtdiamajkfbejhaaDoorIY1
namespace Go.Proofs.YtdiamajkfbejhaaDoor
open Go.RowKit

/-- A function by its number, as a value. -/
abbrev fv (n : Nat) : Value := .func (.func n) #[] #[]
/-- The cells of the operand that is an address, of the operand that is a number; c checks it. -/
abbrev aOp (c : Value) : List Value := [fv 63, c, fv 64, fv 66]
abbrev nOp (c : Value) : List Value := [fv 69, c, fv 70, fv 72]

set_option maxHeartbeats 400000 in
theorem address_any (n : Nat) (w : World) : Calls Tryd.prog 57 #[fv n] w fun e w' => e = .returned (.agg (aOp (fv n)).toArray) ∧ Nx w w' := by
  go_enter Tryd.func57, Tryd.ntmps57
  go_wp2
  go_returns
  exact ⟨rfl, (by repeat (first | exact Nx.refl _ | assumption | refine Nx.drewN ?_ _ | refine Nx.drew ?_ | refine Nx.alloc ?_ _ | refine Nx.set ?_ (by first | exact Nat.le_refl _ | (simp; done) | (simp; omega)) _))⟩
set_option maxHeartbeats 400000 in
theorem number_of_any (n : Nat) (w : World) : Calls Tryd.prog 59 #[fv n] w fun e w' => e = .returned (.agg (nOp (fv n)).toArray) ∧ Nx w w' := by
  go_enter Tryd.func59, Tryd.ntmps59
  go_wp2
  go_returns
  exact ⟨rfl, (by repeat (first | exact Nx.refl _ | assumption | refine Nx.drewN ?_ _ | refine Nx.drew ?_ | refine Nx.alloc ?_ _ | refine Nx.set ?_ (by first | exact Nat.le_refl _ | (simp; done) | (simp; omega)) _))⟩
set_option maxHeartbeats 400000 in
theorem operandsOf_0 (w : World) : Calls Tryd.prog 54 #[.int .i64 0] w fun e w' => e = .returned (.slice none 0 0) ∧ w = w' := by
  go_enter Tryd.func54, Tryd.ntmps54
  go_wp2
  go_ret
  exact ⟨rfl, rfl⟩

set_option maxHeartbeats 400000 in
theorem operandsOf_1 (w : World) : Calls Tryd.prog 54 #[.int .i64 1] w fun e w' => ∃ g, e = .returned (.slice (some ⟨g, 0, none⟩) 1 1) ∧ Bx w' g 107 (aOp (fv 58)) ∧ w.heap.size ≤ g ∧ Nx w w' := by
  go_enter Tryd.func54, Tryd.ntmps54
  go_wp2_with (go_at_call 57; refine (address_any _ _).mono ?_; rintro e w' ⟨rfl, hb⟩)
  go_ret
  exact ⟨_, rfl, bx_new _ _ _, Below.size hb, (by repeat (first | exact Nx.refl _ | assumption | refine Nx.drewN ?_ _ | refine Nx.drew ?_ | refine Nx.alloc ?_ _ | refine Nx.set ?_ (by first | exact Nat.le_refl _ | (simp; done) | (simp; omega)) _))⟩

set_option maxHeartbeats 400000 in
theorem operandsOf_3 (w : World) : Calls Tryd.prog 54 #[.int .i64 3] w fun e w' => ∃ g, e = .returned (.slice (some ⟨g, 0, none⟩) 1 1) ∧ Bx w' g 107 (aOp (fv 61)) ∧ w.heap.size ≤ g ∧ Nx w w' := by
  go_enter Tryd.func54, Tryd.ntmps54
  go_wp2_with (go_at_call 57; refine (address_any _ _).mono ?_; rintro e w' ⟨rfl, hb⟩)
  go_ret
  exact ⟨_, rfl, bx_new _ _ _, Below.size hb, (by repeat (first | exact Nx.refl _ | assumption | refine Nx.drewN ?_ _ | refine Nx.drew ?_ | refine Nx.alloc ?_ _ | refine Nx.set ?_ (by first | exact Nat.le_refl _ | (simp; done) | (simp; omega)) _))⟩

set_option maxHeartbeats 400000 in
theorem operandsOf_4 (w : World) : Calls Tryd.prog 54 #[.int .i64 4] w fun e w' => ∃ g, e = .returned (.slice (some ⟨g, 0, none⟩) 1 1) ∧ Bx w' g 107 (nOp (fv 62)) ∧ w.heap.size ≤ g ∧ Nx w w' := by
  go_enter Tryd.func54, Tryd.ntmps54
  go_wp2_with (go_at_call 59; refine (number_of_any _ _).mono ?_; rintro e w' ⟨rfl, hb⟩)
  go_ret
  exact ⟨_, rfl, bx_new _ _ _, Below.size hb, (by repeat (first | exact Nx.refl _ | assumption | refine Nx.drewN ?_ _ | refine Nx.drew ?_ | refine Nx.alloc ?_ _ | refine Nx.set ?_ (by first | exact Nat.le_refl _ | (simp; done) | (simp; omega)) _))⟩

set_option maxHeartbeats 800000 in
theorem operandsOf_2 (w : World) : Calls Tryd.prog 54 #[.int .i64 2] w fun e w' => ∃ g, e = .returned (.slice (some ⟨g, 0, none⟩) 2 2) ∧ Bx w' g 107 (aOp (fv 58) ++ nOp (fv 60)) ∧ w.heap.size ≤ g ∧ Nx w w' := by
  go_enter Tryd.func54, Tryd.ntmps54
  go_wp2_with (first | (go_at_call 57; refine (address_any _ _).mono ?_; rintro e w1 ⟨rfl, hb1⟩) | (go_at_call 59; refine (number_of_any _ _).mono ?_; rintro e w' ⟨rfl, hb2⟩))
  rename_i w1 hb1
  go_ret
  have hb3 : Nx w w' := Nx.trans hb1 hb2
  exact ⟨_, rfl, bx_new _ _ _, Below.size hb3, hb3.alloc _⟩
end Go.Proofs.YtdiamajkfbejhaaDoor
