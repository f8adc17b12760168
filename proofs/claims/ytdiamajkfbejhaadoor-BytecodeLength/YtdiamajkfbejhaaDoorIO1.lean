/- What the reference's Form, clean and CheckAddr of layers 1 and 4 return. Conditions: none. -/
import Derived.Test.YtdiamajkfbejhaaDoorIS1
namespace Go.Proofs.YtdiamajkfbejhaaDoor
open Go.RowKit

/-- The operand form of an opcode, or -1. -/
def frm (o : Int) : Int := if o < 0 ∨ 16 < o then -1 else if o ≤ 5 then 1 else if o ≤ 7 then 2 else if 11 ≤ o ∧ o ≤ 14 then 3 else if o = 15 then 4 else 0
theorem frm_in (o : Int) : frm o = -1 ∨ frm o = 0 ∨ frm o = 1 ∨ frm o = 2 ∨ frm o = 3 ∨ frm o = 4 := by
  unfold frm; split; omega; split; omega; split; omega; split; omega; split <;> omega
set_option maxHeartbeats 800000 in
theorem refForm_any (o : Int) (w : World) : Calls Tryd.prog 25 #[.int .i64 o] w fun e w' => e = .returned (.int .i64 (frm o)) ∧ w = w' := by
  by_cases h0 : o < 0
  · have HR := Lib.hid (show frm o = -1 by unfold frm; omega)
    go_enter Tryd.func25, Tryd.ntmps25
    go_wp2
    go_ret
    exact ⟨ret_int HR.out.symm, rfl⟩
  by_cases h1 : 16 < o
  · have HR := Lib.hid (show frm o = -1 by unfold frm; omega)
    go_enter Tryd.func25, Tryd.ntmps25
    go_wp2
    go_ret
    exact ⟨ret_int HR.out.symm, rfl⟩
  by_cases h2 : o ≤ 5
  · have HR := Lib.hid (show frm o = 1 by unfold frm; omega)
    go_enter Tryd.func25, Tryd.ntmps25
    go_wp2
    go_ret
    exact ⟨ret_int HR.out.symm, rfl⟩
  by_cases h3 : o ≤ 7
  · have HR := Lib.hid (show frm o = 2 by unfold frm; omega)
    go_enter Tryd.func25, Tryd.ntmps25
    go_wp2
    go_ret
    exact ⟨ret_int HR.out.symm, rfl⟩
  by_cases h4 : 11 ≤ o
  · by_cases h5 : o ≤ 14
    · have HR := Lib.hid (show frm o = 3 by unfold frm; omega)
      go_enter Tryd.func25, Tryd.ntmps25
      go_wp2
      go_ret
      exact ⟨ret_int HR.out.symm, rfl⟩
    by_cases h6 : o = 15
    · subst h6
      have HR := Lib.hid (show frm 15 = 4 by unfold frm; omega)
      go_enter Tryd.func25, Tryd.ntmps25
      go_wp2
      go_ret
      exact ⟨ret_int HR.out.symm, rfl⟩
    have t : (o == 15) = false := by simpa using h6
    have HR := Lib.hid (show frm o = 0 by unfold frm; omega)
    go_enter Tryd.func25, Tryd.ntmps25
    go_wp2
    go_ret
    exact ⟨ret_int HR.out.symm, rfl⟩
  have t : (o == 15) = false := by rw [beq_eq_false_iff_ne]; omega
  have HR := Lib.hid (show frm o = 0 by unfold frm; omega)
  go_enter Tryd.func25, Tryd.ntmps25
  go_wp2
  go_ret
  exact ⟨ret_int HR.out.symm, rfl⟩

/-- Are the operands that the form lacks zero? -/
def cln (f k n N : Int) : Bool := (decide (f = 1 ∨ f = 2 ∨ f = 3) || (decide (k = 0) && decide (n = 0))) && (decide (f = 2 ∨ f = 4) || decide (N = 0))
set_option maxHeartbeats 1600000 in
set_option maxRecDepth 100000 in
theorem refClean_any (o k n N : Int) (w : World) : Calls Tryd.prog 49 #[.agg #[.int .i64 o, .int .i64 k, .int .i64 n, .int .i64 N]] w fun e w' => e = .returned (.bool (cln (frm o) k n N)) ∧ Nx w w' := by
  have FM := Lib.hid (refForm_any o)
  have hf := frm_in o
  generalize frm o = f at *
  by_cases hk : k = 0
  rotate_left
  · have tk : (k == 0) = false := by simpa using hk
    by_cases hN : N = 0
    · have tN : (N == 0) = true := by simpa using hN
      rcases hf with rfl | rfl | rfl | rfl | rfl | rfl
      all_goals
        go_enter Tryd.func49, Tryd.ntmps49
        go_wp2_with (go_at_call 25; refine (FM.out _).mono ?_; rintro e w' ⟨rfl, rfl⟩)
        all_goals go_ret
        all_goals exact ⟨ret_bool (by unfold cln; simp [*]), (by repeat (first | exact Nx.refl _ | assumption | refine Nx.drewN ?_ _ | refine Nx.drew ?_ | refine Nx.alloc ?_ _ | refine Nx.set ?_ (by first | exact Nat.le_refl _ | (simp; done) | (simp; omega)) _))⟩
    have tN : (N == 0) = false := by simpa using hN
    rcases hf with rfl | rfl | rfl | rfl | rfl | rfl
    all_goals
      go_enter Tryd.func49, Tryd.ntmps49
      go_wp2_with (go_at_call 25; refine (FM.out _).mono ?_; rintro e w' ⟨rfl, rfl⟩)
      all_goals go_ret
      all_goals exact ⟨ret_bool (by unfold cln; simp [*]), (by repeat (first | exact Nx.refl _ | assumption | refine Nx.drewN ?_ _ | refine Nx.drew ?_ | refine Nx.alloc ?_ _ | refine Nx.set ?_ (by first | exact Nat.le_refl _ | (simp; done) | (simp; omega)) _))⟩
  have tk : (k == 0) = true := by simpa using hk
  by_cases hn : n = 0
  rotate_left
  · have tn : (n == 0) = false := by simpa using hn
    by_cases hN : N = 0
    · have tN : (N == 0) = true := by simpa using hN
      rcases hf with rfl | rfl | rfl | rfl | rfl | rfl
      all_goals
        go_enter Tryd.func49, Tryd.ntmps49
        go_wp2_with (go_at_call 25; refine (FM.out _).mono ?_; rintro e w' ⟨rfl, rfl⟩)
        all_goals go_ret
        all_goals exact ⟨ret_bool (by unfold cln; simp [*]), (by repeat (first | exact Nx.refl _ | assumption | refine Nx.drewN ?_ _ | refine Nx.drew ?_ | refine Nx.alloc ?_ _ | refine Nx.set ?_ (by first | exact Nat.le_refl _ | (simp; done) | (simp; omega)) _))⟩
    have tN : (N == 0) = false := by simpa using hN
    rcases hf with rfl | rfl | rfl | rfl | rfl | rfl
    all_goals
      go_enter Tryd.func49, Tryd.ntmps49
      go_wp2_with (go_at_call 25; refine (FM.out _).mono ?_; rintro e w' ⟨rfl, rfl⟩)
      all_goals go_ret
      all_goals exact ⟨ret_bool (by unfold cln; simp [*]), (by repeat (first | exact Nx.refl _ | assumption | refine Nx.drewN ?_ _ | refine Nx.drew ?_ | refine Nx.alloc ?_ _ | refine Nx.set ?_ (by first | exact Nat.le_refl _ | (simp; done) | (simp; omega)) _))⟩
  have tn : (n == 0) = true := by simpa using hn
  by_cases hN : N = 0
  · have tN : (N == 0) = true := by simpa using hN
    rcases hf with rfl | rfl | rfl | rfl | rfl | rfl
    all_goals
      go_enter Tryd.func49, Tryd.ntmps49
      go_wp2_with (go_at_call 25; refine (FM.out _).mono ?_; rintro e w' ⟨rfl, rfl⟩)
      all_goals go_ret
      all_goals exact ⟨ret_bool (by unfold cln; simp [*]), (by repeat (first | exact Nx.refl _ | assumption | refine Nx.drewN ?_ _ | refine Nx.drew ?_ | refine Nx.alloc ?_ _ | refine Nx.set ?_ (by first | exact Nat.le_refl _ | (simp; done) | (simp; omega)) _))⟩
  have tN : (N == 0) = false := by simpa using hN
  rcases hf with rfl | rfl | rfl | rfl | rfl | rfl
  all_goals
    go_enter Tryd.func49, Tryd.ntmps49
    go_wp2_with (go_at_call 25; refine (FM.out _).mono ?_; rintro e w' ⟨rfl, rfl⟩)
    all_goals go_ret
    all_goals exact ⟨ret_bool (by unfold cln; simp [*]), (by repeat (first | exact Nx.refl _ | assumption | refine Nx.drewN ?_ _ | refine Nx.drew ?_ | refine Nx.alloc ?_ _ | refine Nx.set ?_ (by first | exact Nat.le_refl _ | (simp; done) | (simp; omega)) _))⟩

set_option maxHeartbeats 400000 in
set_option maxRecDepth 100000 in
theorem refWidth_any (i q m e k : Int) (w : World) : Calls Tryd.prog 56 #[.agg #[.int .i64 i, .int .i64 q, .int .i64 m, .int .i64 e], .int .i64 k] w fun r w' => r = .returned (.int .i64 (wid i q m k)) ∧ Nx w w' := by
  by_cases h0 : k = 0
  · subst h0
    go_enter Tryd.func56, Tryd.ntmps56
    go_wp2
    go_ret
    exact ⟨rfl, Nx.one _ _⟩
  by_cases h1 : k = 1
  · subst h1
    go_enter Tryd.func56, Tryd.ntmps56
    go_wp2
    go_ret
    exact ⟨rfl, Nx.one _ _⟩
  by_cases h2 : k = 2
  · subst h2
    go_enter Tryd.func56, Tryd.ntmps56
    go_wp2
    go_ret
    exact ⟨rfl, Nx.one _ _⟩
  have HR := Lib.hid (show wid i q m k = 0 by unfold wid; rw [if_neg h0, if_neg h1, if_neg h2])
  have t0 : (k == 0) = false := by simpa using h0
  have t1 : (k == 1) = false := by simpa using h1
  have t2 : (k == 2) = false := by simpa using h2
  clear h0 h1 h2
  go_enter Tryd.func56, Tryd.ntmps56
  go_wp2
  go_ret
  exact ⟨ret_int HR.out.symm, Nx.one _ _⟩

set_option maxHeartbeats 1600000 in
set_option maxRecDepth 100000 in
theorem refCheckAddr_any (i q m e k n : Int) (w : World) : Calls Tryd.prog 50 #[.agg #[.int .i64 i, .int .i64 q, .int .i64 m, .int .i64 e], .agg #[.int .i64 k, .int .i64 n]] w fun r w' => r = .returned (.int .i64 (cad i q m k n)) ∧ Nx w w' := by
  have WD := Lib.hid (refWidth_any i q m e k)
  unfold cad
  by_cases hk : 0 ≤ k ∧ k < 3
  rotate_left
  · have HB := Lib.hid (show isSp k = false from decide_eq_false hk)
    rw [HB.out]
    by_cases hz : k < 0
    · go_enter Tryd.func50, Tryd.ntmps50
      go_wp2
      go_ret
      exact ⟨rfl, (by repeat (first | exact Nx.refl _ | assumption | refine Nx.drewN ?_ _ | refine Nx.drew ?_ | refine Nx.alloc ?_ _ | refine Nx.set ?_ (by first | exact Nat.le_refl _ | (simp; done) | (simp; omega)) _))⟩
    · have h2 : 2 < k := by omega
      go_enter Tryd.func50, Tryd.ntmps50
      go_wp2
      go_ret
      exact ⟨rfl, (by repeat (first | exact Nx.refl _ | assumption | refine Nx.drewN ?_ _ | refine Nx.drew ?_ | refine Nx.alloc ?_ _ | refine Nx.set ?_ (by first | exact Nat.le_refl _ | (simp; done) | (simp; omega)) _))⟩
  have HB := Lib.hid (show isSp k = true from decide_eq_true hk)
  rw [HB.out]
  have z1 : ¬ k < 0 := by omega
  have z2 : ¬ 2 < k := by omega
  clear hk
  generalize wid i q m k = wd at *
  have S0 : ∀ w1, Nx ((w.alloc (.cells #[.int .i64 i, .int .i64 q, .int .i64 m, .int .i64 e] 23)).alloc (.cells #[.int .i64 k, .int .i64 n] 44)) w1 →
      w1.cell? ⟨w.heap.size, 0, none⟩ = some (.int .i64 i) ∧ w1.cell? ⟨w.heap.size, 1, none⟩ = some (.int .i64 q) ∧ w1.cell? ⟨w.heap.size, 2, none⟩ = some (.int .i64 m) ∧ w1.cell? ⟨w.heap.size, 3, none⟩ = some (.int .i64 e) ∧
      w1.cell? ⟨w.heap.size + 1, 0, none⟩ = some (.int .i64 k) ∧ w1.cell? ⟨w.heap.size + 1, 1, none⟩ = some (.int .i64 n) := fun w1 h =>
    have h' := (Nx.one (w.alloc (.cells #[.int .i64 i, .int .i64 q, .int .i64 m, .int .i64 e] 23)) (.cells #[.int .i64 k, .int .i64 n] 44)).trans h
    ⟨h'.cell (by simp), h'.cell (by simp), h'.cell (by simp), h'.cell (by simp), h.cell (by simp), h.cell (by simp)⟩
  have HS := Lib.hid S0
  clear S0
  have N0 := Lib.hid ((Nx.one w (.cells #[.int .i64 i, .int .i64 q, .int .i64 m, .int .i64 e] 23)).alloc (.cells #[.int .i64 k, .int .i64 n] 44))
  have hn : (0 ≤ n ∧ n < wd) ∨ (0 ≤ n ∧ ¬ n < wd) ∨ n < 0 := by omega
  rcases hn with ⟨h0, h1⟩ | ⟨h0, h1⟩ | h0
  · have HF := Lib.hid (show (if 0 ≤ n ∧ n < wd then (0 : Int) else 3) = 0 from if_pos ⟨h0, h1⟩)
    have hd : decide (n < 0) = false := by simp; omega
    generalize (if 0 ≤ n ∧ n < wd then (0 : Int) else 3) = r0 at *
    go_enter Tryd.func50, Tryd.ntmps50
    go_wp2
    go_region_held3 (fun w1 => w1.cell? ⟨w.heap.size, 0, none⟩ = some (.int .i64 i) ∧ w1.cell? ⟨w.heap.size, 1, none⟩ = some (.int .i64 q) ∧ w1.cell? ⟨w.heap.size, 2, none⟩ = some (.int .i64 m) ∧ w1.cell? ⟨w.heap.size, 3, none⟩ = some (.int .i64 e) ∧
      w1.cell? ⟨w.heap.size + 1, 0, none⟩ = some (.int .i64 k) ∧ w1.cell? ⟨w.heap.size + 1, 1, none⟩ = some (.int .i64 n)) (first | go_keep | exact HS.out _ (by repeat (first | exact Nx.refl _ | assumption | refine Nx.drew ?_ | refine Nx.drewN ?_ _ | refine Nx.alloc ?_ _ | refine Nx.trans ?_ (by assumption))))
      (first | (go_at_call 56; refine (WD.out _).mono ?_; rintro e w4 ⟨rfl, h4⟩))
    all_goals go_wp2
    all_goals go_ret
    all_goals exact ⟨ret_int HF.out.symm, N0.out.trans (by repeat (first | exact Nx.refl _ | assumption | refine Nx.drew ?_ | refine Nx.drewN ?_ _ | refine Nx.alloc ?_ _ | refine Nx.trans ?_ (by assumption)))⟩
  · have HF := Lib.hid (show (if 0 ≤ n ∧ n < wd then (0 : Int) else 3) = 3 from if_neg (by omega))
    have hd : decide (n < 0) = false := by simp; omega
    generalize (if 0 ≤ n ∧ n < wd then (0 : Int) else 3) = r0 at *
    go_enter Tryd.func50, Tryd.ntmps50
    go_wp2
    go_region_held3 (fun w1 => w1.cell? ⟨w.heap.size, 0, none⟩ = some (.int .i64 i) ∧ w1.cell? ⟨w.heap.size, 1, none⟩ = some (.int .i64 q) ∧ w1.cell? ⟨w.heap.size, 2, none⟩ = some (.int .i64 m) ∧ w1.cell? ⟨w.heap.size, 3, none⟩ = some (.int .i64 e) ∧
      w1.cell? ⟨w.heap.size + 1, 0, none⟩ = some (.int .i64 k) ∧ w1.cell? ⟨w.heap.size + 1, 1, none⟩ = some (.int .i64 n)) (first | go_keep | exact HS.out _ (by repeat (first | exact Nx.refl _ | assumption | refine Nx.drew ?_ | refine Nx.drewN ?_ _ | refine Nx.alloc ?_ _ | refine Nx.trans ?_ (by assumption))))
      (first | (go_at_call 56; refine (WD.out _).mono ?_; rintro e w4 ⟨rfl, h4⟩))
    all_goals go_wp2
    all_goals go_ret
    all_goals exact ⟨ret_int HF.out.symm, N0.out.trans (by repeat (first | exact Nx.refl _ | assumption | refine Nx.drew ?_ | refine Nx.drewN ?_ _ | refine Nx.alloc ?_ _ | refine Nx.trans ?_ (by assumption)))⟩
  · have HF := Lib.hid (show (if 0 ≤ n ∧ n < wd then (0 : Int) else 3) = 3 from if_neg (by omega))
    generalize (if 0 ≤ n ∧ n < wd then (0 : Int) else 3) = r0 at *
    have hd : decide (n < 0) = true := by simp; omega
    go_enter Tryd.func50, Tryd.ntmps50
    go_wp2
    go_quiet (fail)
    go_wp2
    go_ret
    exact ⟨ret_int HF.out.symm, N0.out.trans (by repeat (first | exact Nx.refl _ | assumption | refine Nx.drewN ?_ _ | refine Nx.drew ?_ | refine Nx.alloc ?_ _ | refine Nx.set ?_ (by first | exact Nat.le_refl _ | (simp; done) | (simp; omega)) _))⟩
end Go.Proofs.YtdiamajkfbejhaaDoor
