/- What hasOnly returns for each form. Conditions: none. -/
import Derived.Test.YtdiamajkfbejhaaDoorIY3
namespace Go.Proofs.YtdiamajkfbejhaaDoor
open Go.RowKit

set_option maxHeartbeats 3200000 in
set_option maxRecDepth 100000 in
theorem hasOnly_0 (o k n N : Int) (w : World) : Calls Tryd.prog 55 #[.agg #[.int .i64 o, .int .i64 k, .int .i64 n, .int .i64 N], .slice none 0 0] w fun e w' => e = .returned (.bool (cln 0 k n N)) ∧ Nx w w' := by
  by_cases hk : k = 0
  · subst hk
    by_cases hn : n = 0
    · subst hn
      by_cases hN : N = 0
      · subst hN
        go_enter Tryd.func55, Tryd.ntmps55
        go_wp2
        go_rounds 1
        all_goals go_ret
        all_goals exact ⟨ret_bool (by unfold cln; simp [*]), (by repeat (first | exact Nx.refl _ | assumption | refine Nx.drewN ?_ _ | refine Nx.drew ?_ | refine Nx.alloc ?_ _ | refine Nx.set ?_ (by first | exact Nat.le_refl _ | (simp; done) | (simp; omega)) _))⟩
      · have tN : (N == 0) = false := by simpa using hN
        go_enter Tryd.func55, Tryd.ntmps55
        go_wp2
        go_rounds 1
        all_goals go_ret
        all_goals exact ⟨ret_bool (by unfold cln; simp [*]), (by repeat (first | exact Nx.refl _ | assumption | refine Nx.drewN ?_ _ | refine Nx.drew ?_ | refine Nx.alloc ?_ _ | refine Nx.set ?_ (by first | exact Nat.le_refl _ | (simp; done) | (simp; omega)) _))⟩
    · have tn : (n == 0) = false := by simpa using hn
      by_cases hN : N = 0
      · subst hN
        go_enter Tryd.func55, Tryd.ntmps55
        go_wp2
        go_rounds 1
        all_goals go_ret
        all_goals exact ⟨ret_bool (by unfold cln; simp [*]), (by repeat (first | exact Nx.refl _ | assumption | refine Nx.drewN ?_ _ | refine Nx.drew ?_ | refine Nx.alloc ?_ _ | refine Nx.set ?_ (by first | exact Nat.le_refl _ | (simp; done) | (simp; omega)) _))⟩
      · have tN : (N == 0) = false := by simpa using hN
        go_enter Tryd.func55, Tryd.ntmps55
        go_wp2
        go_rounds 1
        all_goals go_ret
        all_goals exact ⟨ret_bool (by unfold cln; simp [*]), (by repeat (first | exact Nx.refl _ | assumption | refine Nx.drewN ?_ _ | refine Nx.drew ?_ | refine Nx.alloc ?_ _ | refine Nx.set ?_ (by first | exact Nat.le_refl _ | (simp; done) | (simp; omega)) _))⟩
  · have tk : (k == 0) = false := by simpa using hk
    by_cases hn : n = 0
    · subst hn
      by_cases hN : N = 0
      · subst hN
        go_enter Tryd.func55, Tryd.ntmps55
        go_wp2
        go_rounds 1
        all_goals go_ret
        all_goals exact ⟨ret_bool (by unfold cln; simp [*]), (by repeat (first | exact Nx.refl _ | assumption | refine Nx.drewN ?_ _ | refine Nx.drew ?_ | refine Nx.alloc ?_ _ | refine Nx.set ?_ (by first | exact Nat.le_refl _ | (simp; done) | (simp; omega)) _))⟩
      · have tN : (N == 0) = false := by simpa using hN
        go_enter Tryd.func55, Tryd.ntmps55
        go_wp2
        go_rounds 1
        all_goals go_ret
        all_goals exact ⟨ret_bool (by unfold cln; simp [*]), (by repeat (first | exact Nx.refl _ | assumption | refine Nx.drewN ?_ _ | refine Nx.drew ?_ | refine Nx.alloc ?_ _ | refine Nx.set ?_ (by first | exact Nat.le_refl _ | (simp; done) | (simp; omega)) _))⟩
    · have tn : (n == 0) = false := by simpa using hn
      by_cases hN : N = 0
      · subst hN
        go_enter Tryd.func55, Tryd.ntmps55
        go_wp2
        go_rounds 1
        all_goals go_ret
        all_goals exact ⟨ret_bool (by unfold cln; simp [*]), (by repeat (first | exact Nx.refl _ | assumption | refine Nx.drewN ?_ _ | refine Nx.drew ?_ | refine Nx.alloc ?_ _ | refine Nx.set ?_ (by first | exact Nat.le_refl _ | (simp; done) | (simp; omega)) _))⟩
      · have tN : (N == 0) = false := by simpa using hN
        go_enter Tryd.func55, Tryd.ntmps55
        go_wp2
        go_rounds 1
        all_goals go_ret
        all_goals exact ⟨ret_bool (by unfold cln; simp [*]), (by repeat (first | exact Nx.refl _ | assumption | refine Nx.drewN ?_ _ | refine Nx.drew ?_ | refine Nx.alloc ?_ _ | refine Nx.set ?_ (by first | exact Nat.le_refl _ | (simp; done) | (simp; omega)) _))⟩

set_option maxHeartbeats 3200000 in
set_option maxRecDepth 100000 in
theorem hasOnly_1 (g m : Nat) (o k n N : Int) (w : World) (hb : Bx w g 107 (aOp (fv m))) : Calls Tryd.prog 55 #[.agg #[.int .i64 o, .int .i64 k, .int .i64 n, .int .i64 N], .slice (some ⟨g, 0, none⟩) 1 1] w fun e w' => e = .returned (.bool (cln 1 k n N)) ∧ Nx w w' := by
  by_cases hN : N = 0
  · subst hN
    have hlt := hb.lt
    have hne : g ≠ w.heap.size := by omega
    have HB := Lib.hid (hb.nx (Nx.one w (Obj.cells #[.int .i64 o, .int .i64 k, .int .i64 n, .int .i64 0] 46)))
    have d0 := HB.out.cell 0 rfl
    have d1 := HB.out.cell 1 rfl
    have d2 := HB.out.cell 2 rfl
    have d3 := HB.out.cell 3 rfl
    clear hb
    go_enter Tryd.func55, Tryd.ntmps55
    go_wp2
    go_rounds 2
    all_goals go_ret
    all_goals exact ⟨ret_bool (by unfold cln; simp [*]), (by repeat (first | exact Nx.refl _ | assumption | refine Nx.drewN ?_ _ | refine Nx.drew ?_ | refine Nx.alloc ?_ _ | refine Nx.set ?_ (by first | exact Nat.le_refl _ | (simp; done) | (simp; omega)) _))⟩
  · have tN : (N == 0) = false := by simpa using hN
    have hlt := hb.lt
    have hne : g ≠ w.heap.size := by omega
    have HB := Lib.hid (hb.nx (Nx.one w (Obj.cells #[.int .i64 o, .int .i64 k, .int .i64 n, .int .i64 N] 46)))
    have d0 := HB.out.cell 0 rfl
    have d1 := HB.out.cell 1 rfl
    have d2 := HB.out.cell 2 rfl
    have d3 := HB.out.cell 3 rfl
    clear hb
    go_enter Tryd.func55, Tryd.ntmps55
    go_wp2
    go_rounds 2
    all_goals go_ret
    all_goals exact ⟨ret_bool (by unfold cln; simp [*]), (by repeat (first | exact Nx.refl _ | assumption | refine Nx.drewN ?_ _ | refine Nx.drew ?_ | refine Nx.alloc ?_ _ | refine Nx.set ?_ (by first | exact Nat.le_refl _ | (simp; done) | (simp; omega)) _))⟩

set_option maxHeartbeats 3200000 in
set_option maxRecDepth 100000 in
theorem hasOnly_4 (g m : Nat) (o k n N : Int) (w : World) (hb : Bx w g 107 (nOp (fv m))) : Calls Tryd.prog 55 #[.agg #[.int .i64 o, .int .i64 k, .int .i64 n, .int .i64 N], .slice (some ⟨g, 0, none⟩) 1 1] w fun e w' => e = .returned (.bool (cln 4 k n N)) ∧ Nx w w' := by
  by_cases hk : k = 0
  · subst hk
    by_cases hn : n = 0
    · subst hn
      have hlt := hb.lt
      have hne : g ≠ w.heap.size := by omega
      have HB := Lib.hid (hb.nx (Nx.one w (Obj.cells #[.int .i64 o, .int .i64 0, .int .i64 0, .int .i64 N] 46)))
      have d0 := HB.out.cell 0 rfl
      have d1 := HB.out.cell 1 rfl
      have d2 := HB.out.cell 2 rfl
      have d3 := HB.out.cell 3 rfl
      clear hb
      go_enter Tryd.func55, Tryd.ntmps55
      go_wp2
      go_rounds 2
      all_goals go_ret
      all_goals exact ⟨ret_bool (by unfold cln; simp [*]), (by repeat (first | exact Nx.refl _ | assumption | refine Nx.drewN ?_ _ | refine Nx.drew ?_ | refine Nx.alloc ?_ _ | refine Nx.set ?_ (by first | exact Nat.le_refl _ | (simp; done) | (simp; omega)) _))⟩
    · have tn : (n == 0) = false := by simpa using hn
      have hlt := hb.lt
      have hne : g ≠ w.heap.size := by omega
      have HB := Lib.hid (hb.nx (Nx.one w (Obj.cells #[.int .i64 o, .int .i64 0, .int .i64 n, .int .i64 N] 46)))
      have d0 := HB.out.cell 0 rfl
      have d1 := HB.out.cell 1 rfl
      have d2 := HB.out.cell 2 rfl
      have d3 := HB.out.cell 3 rfl
      clear hb
      go_enter Tryd.func55, Tryd.ntmps55
      go_wp2
      go_rounds 2
      all_goals go_ret
      all_goals exact ⟨ret_bool (by unfold cln; simp [*]), (by repeat (first | exact Nx.refl _ | assumption | refine Nx.drewN ?_ _ | refine Nx.drew ?_ | refine Nx.alloc ?_ _ | refine Nx.set ?_ (by first | exact Nat.le_refl _ | (simp; done) | (simp; omega)) _))⟩
  · have tk : (k == 0) = false := by simpa using hk
    by_cases hn : n = 0
    · subst hn
      have hlt := hb.lt
      have hne : g ≠ w.heap.size := by omega
      have HB := Lib.hid (hb.nx (Nx.one w (Obj.cells #[.int .i64 o, .int .i64 k, .int .i64 0, .int .i64 N] 46)))
      have d0 := HB.out.cell 0 rfl
      have d1 := HB.out.cell 1 rfl
      have d2 := HB.out.cell 2 rfl
      have d3 := HB.out.cell 3 rfl
      clear hb
      go_enter Tryd.func55, Tryd.ntmps55
      go_wp2
      go_rounds 2
      all_goals go_ret
      all_goals exact ⟨ret_bool (by unfold cln; simp [*]), (by repeat (first | exact Nx.refl _ | assumption | refine Nx.drewN ?_ _ | refine Nx.drew ?_ | refine Nx.alloc ?_ _ | refine Nx.set ?_ (by first | exact Nat.le_refl _ | (simp; done) | (simp; omega)) _))⟩
    · have tn : (n == 0) = false := by simpa using hn
      have hlt := hb.lt
      have hne : g ≠ w.heap.size := by omega
      have HB := Lib.hid (hb.nx (Nx.one w (Obj.cells #[.int .i64 o, .int .i64 k, .int .i64 n, .int .i64 N] 46)))
      have d0 := HB.out.cell 0 rfl
      have d1 := HB.out.cell 1 rfl
      have d2 := HB.out.cell 2 rfl
      have d3 := HB.out.cell 3 rfl
      clear hb
      go_enter Tryd.func55, Tryd.ntmps55
      go_wp2
      go_rounds 2
      all_goals go_ret
      all_goals exact ⟨ret_bool (by unfold cln; simp [*]), (by repeat (first | exact Nx.refl _ | assumption | refine Nx.drewN ?_ _ | refine Nx.drew ?_ | refine Nx.alloc ?_ _ | refine Nx.set ?_ (by first | exact Nat.le_refl _ | (simp; done) | (simp; omega)) _))⟩

set_option maxHeartbeats 3200000 in
set_option maxRecDepth 100000 in
theorem hasOnly_2 (g m l : Nat) (o k n N : Int) (w : World) (hb : Bx w g 107 (aOp (fv m) ++ nOp (fv l))) : Calls Tryd.prog 55 #[.agg #[.int .i64 o, .int .i64 k, .int .i64 n, .int .i64 N], .slice (some ⟨g, 0, none⟩) 2 2] w fun e w' => e = .returned (.bool (cln 2 k n N)) ∧ Nx w w' := by
  have hlt := hb.lt
  have hne : g ≠ w.heap.size := by omega
  have HB := Lib.hid (hb.nx (Nx.one w (Obj.cells #[.int .i64 o, .int .i64 k, .int .i64 n, .int .i64 N] 46)))
  have d0 := HB.out.cell 0 rfl
  have d1 := HB.out.cell 1 rfl
  have d2 := HB.out.cell 2 rfl
  have d3 := HB.out.cell 3 rfl
  have HC := Lib.hid (((hb.nx (Nx.one w (Obj.cells #[.int .i64 o, .int .i64 0, .int .i64 0, .int .i64 N] 46)))).nx (Nx.one _ (Obj.cells #[fv 63, fv m, fv 64, fv 66] 107)))
  have e4 := HC.out.cell 4 rfl
  have e5 := HC.out.cell 5 rfl
  have e6 := HC.out.cell 6 rfl
  have e7 := HC.out.cell 7 rfl
  clear hb
  go_enter Tryd.func55, Tryd.ntmps55
  go_wp2
  go_rounds 3
  all_goals go_ret
  all_goals exact ⟨ret_bool (by unfold cln; simp [*]), (by repeat (first | exact Nx.refl _ | assumption | refine Nx.drewN ?_ _ | refine Nx.drew ?_ | refine Nx.alloc ?_ _ | refine Nx.set ?_ (by first | exact Nat.le_refl _ | (simp; done) | (simp; omega)) _))⟩

theorem cln_3 (k n N : Int) : cln 3 k n N = cln 1 k n N := by unfold cln; simp
end Go.Proofs.YtdiamajkfbejhaaDoor
