/- What CheckSize, CheckAddr, Width, Compare and the reference's Compare return. Conditions: none. -/
import Derived.Test.YtdiamajkfbejhaaDoorIA
import Derived.Deep.RegionHeld3
import Derived.Deep.QuietTactic
import Derived.BigQuiet
import Derived.IntWalk
namespace Go.Proofs.YtdiamajkfbejhaaDoor
open Go.RowKit


def isSp (k : Int) : Bool := decide (0 ≤ k ∧ k < 3)
set_option maxHeartbeats 400000 in
theorem isSpace_any (k : Int) (w : World) : Calls Tryd.prog 74 #[.int .i64 k] w fun e w' => e = .returned (.bool (isSp k)) ∧ w = w' := by
  by_cases h0 : 0 ≤ k
  · by_cases h1 : k < 3
    · have hr : isSp k = true := decide_eq_true ⟨h0, h1⟩
      have HR := Lib.hid hr
      clear hr
      go_enter Tryd.func74, Tryd.ntmps74
      go_wp2
      go_ret
      exact ⟨ret_bool HR.out.symm, rfl⟩
    · have hr : isSp k = false := decide_eq_false (by omega)
      have HR := Lib.hid hr
      clear hr
      go_enter Tryd.func74, Tryd.ntmps74
      go_wp2
      go_ret
      exact ⟨ret_bool HR.out.symm, rfl⟩
  · have hr : isSp k = false := decide_eq_false (by omega)
    have HR := Lib.hid hr
    clear hr
    go_enter Tryd.func74, Tryd.ntmps74
    go_wp2
    go_ret
    exact ⟨ret_bool HR.out.symm, rfl⟩

def inB (n most : Int) : Bool := decide (0 ≤ n ∧ n ≤ most)
theorem inB_yes {n most : Int} (h : 0 ≤ n ∧ n ≤ most) : inB n most = true := decide_eq_true h
theorem inB_no {n most : Int} (h : ¬ (0 ≤ n ∧ n ≤ most)) : inB n most = false := decide_eq_false h
set_option maxHeartbeats 400000 in
theorem within_any (n most : Int) (w : World) : Calls Tryd.prog 53 #[.int .i64 n, .int .i64 most] w fun e w' => e = .returned (.bool (inB n most)) ∧ w = w' := by
  by_cases h0 : 0 ≤ n
  · by_cases h1 : n ≤ most
    · have HR := Lib.hid (inB_yes ⟨h0, h1⟩)
      go_enter Tryd.func53, Tryd.ntmps53
      go_wp2
      go_ret
      exact ⟨ret_bool HR.out.symm, rfl⟩
    · have HR := Lib.hid (inB_no (n := n) (most := most) (by omega))
      go_enter Tryd.func53, Tryd.ntmps53
      go_wp2
      go_ret
      exact ⟨ret_bool HR.out.symm, rfl⟩
  · have HR := Lib.hid (inB_no (n := n) (most := most) (by omega))
    go_enter Tryd.func53, Tryd.ntmps53
    go_wp2
    go_ret
    exact ⟨ret_bool HR.out.symm, rfl⟩

/-- Are the sizes valid? -/
def sizeOK (i q m e : Int) : Prop := (0 ≤ i ∧ i ≤ 256) ∧ (0 ≤ q ∧ q ≤ 256) ∧ (0 ≤ m ∧ m ≤ 256) ∧ (0 ≤ e ∧ e ≤ 16384)
def csz (i q m e : Int) : Int := if inB i 256 && inB q 256 && inB m 256 && inB e 16384 then 0 else 3
set_option maxHeartbeats 400000 in
set_option maxRecDepth 100000 in
theorem checkSize_any (i q m e : Int) (w : World) : Calls Tryd.prog 45 #[.agg #[.int .i64 i, .int .i64 q, .int .i64 m, .int .i64 e]] w fun r w' => r = .returned (.int .i64 (csz i q m e)) ∧ Nx w w' := by
  have W1 := Lib.hid (within_any i 256)
  have W2 := Lib.hid (within_any q 256)
  have W3 := Lib.hid (within_any m 256)
  have W4 := Lib.hid (within_any e 16384)
  unfold csz
  generalize inB i 256 = b1 at *
  generalize inB q 256 = b2 at *
  generalize inB m 256 = b3 at *
  generalize inB e 16384 = b4 at *
  cases b1
  · go_enter Tryd.func45, Tryd.ntmps45
    go_wp2_with fail
    refine (W1.out _).mono ?_
    rintro r w' ⟨rfl, rfl⟩
    go_wp2
    go_ret
    exact ⟨rfl, Nx.one _ _⟩
  · cases b2
    · go_enter Tryd.func45, Tryd.ntmps45
      go_wp2_with fail
      refine (W1.out _).mono ?_
      rintro r w' ⟨rfl, rfl⟩
      go_wp2_with fail
      refine (W2.out _).mono ?_
      rintro r w' ⟨rfl, rfl⟩
      go_wp2
      go_ret
      exact ⟨rfl, Nx.one _ _⟩
    · cases b3
      · go_enter Tryd.func45, Tryd.ntmps45
        go_wp2_with fail
        refine (W1.out _).mono ?_
        rintro r w' ⟨rfl, rfl⟩
        go_wp2_with fail
        refine (W2.out _).mono ?_
        rintro r w' ⟨rfl, rfl⟩
        go_wp2_with fail
        refine (W3.out _).mono ?_
        rintro r w' ⟨rfl, rfl⟩
        go_wp2
        go_ret
        exact ⟨rfl, Nx.one _ _⟩
      · cases b4
        all_goals
          go_enter Tryd.func45, Tryd.ntmps45
          go_wp2_with fail
          refine (W1.out _).mono ?_
          rintro r w' ⟨rfl, rfl⟩
          go_wp2_with fail
          refine (W2.out _).mono ?_
          rintro r w' ⟨rfl, rfl⟩
          go_wp2_with fail
          refine (W3.out _).mono ?_
          rintro r w' ⟨rfl, rfl⟩
          go_wp2_with fail
          refine (W4.out _).mono ?_
          rintro r w' ⟨rfl, rfl⟩
          go_wp2
          go_ret
          exact ⟨rfl, Nx.one _ _⟩

/-- The width of a space. -/
def wid (i q m k : Int) : Int := if k = 0 then i else if k = 1 then q else if k = 2 then m else 0
set_option maxHeartbeats 400000 in
set_option maxRecDepth 100000 in
theorem width_any (i q m e k : Int) (w : World) : Calls Tryd.prog 78 #[.agg #[.int .i64 i, .int .i64 q, .int .i64 m, .int .i64 e], .int .i64 k] w fun r w' => r = .returned (.int .i64 (wid i q m k)) ∧ Nx w w' := by
  by_cases h0 : k = 0
  · have HR := Lib.hid (show wid i q m k = i by unfold wid; rw [if_pos h0])
    have t0 : (k == 0) = true := by simpa using h0
    clear h0
    go_enter Tryd.func78, Tryd.ntmps78
    go_wp2
    go_ret
    exact ⟨ret_int HR.out.symm, Nx.one _ _⟩
  · have t0 : (k == 0) = false := by simpa using h0
    by_cases h1 : k = 1
    · have HR := Lib.hid (show wid i q m k = q by unfold wid; rw [if_neg h0, if_pos h1])
      have t1 : (k == 1) = true := by simpa using h1
      clear h0 h1
      go_enter Tryd.func78, Tryd.ntmps78
      go_wp2
      go_ret
      exact ⟨ret_int HR.out.symm, Nx.one _ _⟩
    · have t1 : (k == 1) = false := by simpa using h1
      by_cases h2 : k = 2
      · have HR := Lib.hid (show wid i q m k = m by unfold wid; rw [if_neg h0, if_neg h1, if_pos h2])
        have t2 : (k == 2) = true := by simpa using h2
        clear h0 h1 h2
        go_enter Tryd.func78, Tryd.ntmps78
        go_wp2
        go_ret
        exact ⟨ret_int HR.out.symm, Nx.one _ _⟩
      · have HR := Lib.hid (show wid i q m k = 0 by unfold wid; rw [if_neg h0, if_neg h1, if_neg h2])
        have t2 : (k == 2) = false := by simpa using h2
        clear h0 h1 h2
        go_enter Tryd.func78, Tryd.ntmps78
        go_wp2
        go_ret
        exact ⟨ret_int HR.out.symm, Nx.one _ _⟩

/-- What CheckAddr answers. -/
def cad (i q m k n : Int) : Int := if isSp k then (if 0 ≤ n ∧ n < wid i q m k then 0 else 3) else 8
set_option maxHeartbeats 800000 in
set_option maxRecDepth 100000 in
theorem checkAddr_any (i q m e k n : Int) (w : World) : Calls Tryd.prog 68 #[.agg #[.int .i64 i, .int .i64 q, .int .i64 m, .int .i64 e], .agg #[.int .i64 k, .int .i64 n]] w fun r w' => r = .returned (.int .i64 (cad i q m k n)) ∧ Nx w w' := by
  have WD := Lib.hid (width_any i q m e k)
  have SP := Lib.hid (isSpace_any k)
  unfold cad
  generalize isSp k = b at *
  generalize wid i q m k = wd at *
  cases b
  · go_enter Tryd.func68, Tryd.ntmps68
    go_wp2_with fail
    refine (SP.out _).mono ?_
    rintro r w' ⟨rfl, rfl⟩
    go_wp2
    go_ret
    exact ⟨rfl, (Nx.one _ _).alloc _⟩
  · have S0 : ∀ w1, Nx ((w.alloc (.cells #[.int .i64 i, .int .i64 q, .int .i64 m, .int .i64 e] 23)).alloc (.cells #[.int .i64 k, .int .i64 n] 44)) w1 →
        w1.cell? ⟨w.heap.size, 0, none⟩ = some (.int .i64 i) ∧ w1.cell? ⟨w.heap.size, 1, none⟩ = some (.int .i64 q) ∧ w1.cell? ⟨w.heap.size, 2, none⟩ = some (.int .i64 m) ∧ w1.cell? ⟨w.heap.size, 3, none⟩ = some (.int .i64 e) ∧
        w1.cell? ⟨w.heap.size + 1, 0, none⟩ = some (.int .i64 k) ∧ w1.cell? ⟨w.heap.size + 1, 1, none⟩ = some (.int .i64 n) := fun w1 h =>
      have h' := (Nx.one (w.alloc (.cells #[.int .i64 i, .int .i64 q, .int .i64 m, .int .i64 e] 23)) (.cells #[.int .i64 k, .int .i64 n] 44)).trans h
      ⟨h'.cell (by simp), h'.cell (by simp), h'.cell (by simp), h'.cell (by simp), h.cell (by simp), h.cell (by simp)⟩
    have HS := Lib.hid S0
    clear S0
    have N0 := Lib.hid ((Nx.one w (.cells #[.int .i64 i, .int .i64 q, .int .i64 m, .int .i64 e] 23)).alloc (.cells #[.int .i64 k, .int .i64 n] 44))
    have hn : (0 ≤ n ∧ n < wd) ∨ (0 ≤ n ∧ ¬ n < wd) ∨ n < 0 := by omega
    rcases hn with ⟨h0, h1⟩ | ⟨h0, h1⟩ | h0
    · have HF := Lib.hid (show (if 0 ≤ n ∧ n < wd then (0 : Int) else 3) = 0 from if_pos ⟨h0, h1⟩)
      generalize (if 0 ≤ n ∧ n < wd then (0 : Int) else 3) = r0 at *
      have hd : decide (n < 0) = false := by simp; omega
      go_enter Tryd.func68, Tryd.ntmps68
      go_wp2_with fail
      refine (SP.out _).mono ?_
      rintro r w' ⟨rfl, rfl⟩
      go_wp2
      go_region_held3 (fun w1 => w1.cell? ⟨w.heap.size, 0, none⟩ = some (.int .i64 i) ∧ w1.cell? ⟨w.heap.size, 1, none⟩ = some (.int .i64 q) ∧ w1.cell? ⟨w.heap.size, 2, none⟩ = some (.int .i64 m) ∧ w1.cell? ⟨w.heap.size, 3, none⟩ = some (.int .i64 e) ∧
        w1.cell? ⟨w.heap.size + 1, 0, none⟩ = some (.int .i64 k) ∧ w1.cell? ⟨w.heap.size + 1, 1, none⟩ = some (.int .i64 n)) (first | go_keep | exact HS.out _ (by repeat (first | exact Nx.refl _ | assumption | refine Nx.drew ?_ | refine Nx.drewN ?_ _ | refine Nx.alloc ?_ _ | refine Nx.trans ?_ (by assumption))))
        (first | (go_at_call 78; refine (WD.out _).mono ?_; rintro e w4 ⟨rfl, h4⟩))
      all_goals go_wp2
      all_goals go_ret
      all_goals exact ⟨ret_int HF.out.symm, N0.out.trans (by repeat (first | exact Nx.refl _ | assumption | refine Nx.drew ?_ | refine Nx.drewN ?_ _ | refine Nx.alloc ?_ _ | refine Nx.trans ?_ (by assumption)))⟩
    · have HF := Lib.hid (show (if 0 ≤ n ∧ n < wd then (0 : Int) else 3) = 3 from if_neg (by omega))
      generalize (if 0 ≤ n ∧ n < wd then (0 : Int) else 3) = r0 at *
      have hd : decide (n < 0) = false := by simp; omega
      go_enter Tryd.func68, Tryd.ntmps68
      go_wp2_with fail
      refine (SP.out _).mono ?_
      rintro r w' ⟨rfl, rfl⟩
      go_wp2
      go_region_held3 (fun w1 => w1.cell? ⟨w.heap.size, 0, none⟩ = some (.int .i64 i) ∧ w1.cell? ⟨w.heap.size, 1, none⟩ = some (.int .i64 q) ∧ w1.cell? ⟨w.heap.size, 2, none⟩ = some (.int .i64 m) ∧ w1.cell? ⟨w.heap.size, 3, none⟩ = some (.int .i64 e) ∧
        w1.cell? ⟨w.heap.size + 1, 0, none⟩ = some (.int .i64 k) ∧ w1.cell? ⟨w.heap.size + 1, 1, none⟩ = some (.int .i64 n)) (first | go_keep | exact HS.out _ (by repeat (first | exact Nx.refl _ | assumption | refine Nx.drew ?_ | refine Nx.drewN ?_ _ | refine Nx.alloc ?_ _ | refine Nx.trans ?_ (by assumption))))
        (first | (go_at_call 78; refine (WD.out _).mono ?_; rintro e w4 ⟨rfl, h4⟩))
      all_goals go_wp2
      all_goals go_ret
      all_goals exact ⟨ret_int HF.out.symm, N0.out.trans (by repeat (first | exact Nx.refl _ | assumption | refine Nx.drew ?_ | refine Nx.drewN ?_ _ | refine Nx.alloc ?_ _ | refine Nx.trans ?_ (by assumption)))⟩
    · have HF := Lib.hid (show (if 0 ≤ n ∧ n < wd then (0 : Int) else 3) = 3 from if_neg (by omega))
      generalize (if 0 ≤ n ∧ n < wd then (0 : Int) else 3) = r0 at *
      have hd : decide (n < 0) = true := by simp; omega
      go_enter Tryd.func68, Tryd.ntmps68
      go_wp2_with fail
      refine (SP.out _).mono ?_
      rintro r w' ⟨rfl, rfl⟩
      go_wp2
      go_quiet (fail)
      go_wp2
      go_ret
      exact ⟨ret_int HF.out.symm, N0.out.trans (by repeat (first | exact Nx.refl _ | assumption | refine Nx.drew ?_ | refine Nx.drewN ?_ _ | refine Nx.alloc ?_ _ | refine Nx.trans ?_ (by assumption)))⟩

/-- cmp.Compare on ints. -/
def cmpI (a b : Int) : Int := if a < b then -1 else if b < a then 1 else 0
/-- Compare on addresses. -/
def cmpA (k n k' n' : Int) : Int := if cmpI k k' = 0 then cmpI n n' else cmpI k k'
theorem cmpA_lt {k n k' n' : Int} (h : k < k' ∨ k = k' ∧ n < n') : cmpA k n k' n' = -1 := by unfold cmpA cmpI; split <;> split <;> (try split) <;> (try split) <;> omega
theorem cmpA_eq {k n k' n' : Int} (h : k = k' ∧ n = n') : cmpA k n k' n' = 0 := by unfold cmpA cmpI; split <;> split <;> (try split) <;> (try split) <;> omega
theorem cmpA_gt {k n k' n' : Int} (h : k' < k ∨ k = k' ∧ n' < n) : cmpA k n k' n' = 1 := by unfold cmpA cmpI; split <;> split <;> (try split) <;> (try split) <;> omega

end Go.Proofs.YtdiamajkfbejhaaDoor
