/- What CheckSize, CheckAddr, Width, Compare and the reference's Compare return. Conditions: none. -/
import Derived.Test.YtndapcbjcannhaaIA
import Derived.Deep.RegionHeld3
import Derived.IntWalk
namespace Go.Proofs.Ytndapcbjcannhaa
open Go.RowKit


def isSp (k : Int) : Bool := decide (0 ≤ k ∧ k < 3)
def inB (n most : Int) : Bool := decide (0 ≤ n ∧ n ≤ most)
theorem inB_yes {n most : Int} (h : 0 ≤ n ∧ n ≤ most) : inB n most = true := decide_eq_true h
theorem inB_no {n most : Int} (h : ¬ (0 ≤ n ∧ n ≤ most)) : inB n most = false := decide_eq_false h
set_option maxHeartbeats 400000 in
theorem within_any (n most : Int) (w : World) : Calls Try.prog 38 #[.int .i64 n, .int .i64 most] w fun e w' => e = .returned (.bool (inB n most)) ∧ w = w' := by
  by_cases h0 : 0 ≤ n
  · by_cases h1 : n ≤ most
    · have HR := Lib.hid (inB_yes ⟨h0, h1⟩)
      go_enter Try.func38, Try.ntmps38
      go_wp2
      go_ret
      exact ⟨ret_bool HR.out.symm, rfl⟩
    · have HR := Lib.hid (inB_no (n := n) (most := most) (by omega))
      go_enter Try.func38, Try.ntmps38
      go_wp2
      go_ret
      exact ⟨ret_bool HR.out.symm, rfl⟩
  · have HR := Lib.hid (inB_no (n := n) (most := most) (by omega))
    go_enter Try.func38, Try.ntmps38
    go_wp2
    go_ret
    exact ⟨ret_bool HR.out.symm, rfl⟩

/-- Are the sizes valid? -/
def sizeOK (i q m e : Int) : Prop := (0 ≤ i ∧ i ≤ 256) ∧ (0 ≤ q ∧ q ≤ 256) ∧ (0 ≤ m ∧ m ≤ 256) ∧ (0 ≤ e ∧ e ≤ 16384)
def csz (i q m e : Int) : Int := if inB i 256 && inB q 256 && inB m 256 && inB e 16384 then 0 else 3
set_option maxHeartbeats 400000 in
set_option maxRecDepth 100000 in
theorem checkSize_any (i q m e : Int) (w : World) : Calls Try.prog 24 #[.agg #[.int .i64 i, .int .i64 q, .int .i64 m, .int .i64 e]] w fun r w' => r = .returned (.int .i64 (csz i q m e)) ∧ Nx w w' := by
  have W1 := Lib.hid (within_any i 256)
  have W2 := Lib.hid (within_any q 256)
  have W3 := Lib.hid (within_any m 256)
  have W4 := Lib.hid (within_any e 16384)
  unfold csz
  generalize inB i 256 = b1 at *
  generalize inB q 256 = b2 at *
  generalize inB m 256 = b3 at *
  generalize inB e 16384 = b4 at *
  cases b1
  · go_enter Try.func24, Try.ntmps24
    go_wp2_with fail
    refine (W1.out _).mono ?_
    rintro r w' ⟨rfl, rfl⟩
    go_wp2
    go_ret
    exact ⟨rfl, Nx.one _ _⟩
  · cases b2
    · go_enter Try.func24, Try.ntmps24
      go_wp2_with fail
      refine (W1.out _).mono ?_
      rintro r w' ⟨rfl, rfl⟩
      go_wp2_with fail
      refine (W2.out _).mono ?_
      rintro r w' ⟨rfl, rfl⟩
      go_wp2
      go_ret
      exact ⟨rfl, Nx.one _ _⟩
    · cases b3
      · go_enter Try.func24, Try.ntmps24
        go_wp2_with fail
        refine (W1.out _).mono ?_
        rintro r w' ⟨rfl, rfl⟩
        go_wp2_with fail
        refine (W2.out _).mono ?_
        rintro r w' ⟨rfl, rfl⟩
        go_wp2_with fail
        refine (W3.out _).mono ?_
        rintro r w' ⟨rfl, rfl⟩
        go_wp2
        go_ret
        exact ⟨rfl, Nx.one _ _⟩
      · cases b4
        all_goals
          go_enter Try.func24, Try.ntmps24
          go_wp2_with fail
          refine (W1.out _).mono ?_
          rintro r w' ⟨rfl, rfl⟩
          go_wp2_with fail
          refine (W2.out _).mono ?_
          rintro r w' ⟨rfl, rfl⟩
          go_wp2_with fail
          refine (W3.out _).mono ?_
          rintro r w' ⟨rfl, rfl⟩
          go_wp2_with fail
          refine (W4.out _).mono ?_
          rintro r w' ⟨rfl, rfl⟩
          go_wp2
          go_ret
          exact ⟨rfl, Nx.one _ _⟩

/-- The width of a space. -/
def wid (i q m k : Int) : Int := if k = 0 then i else if k = 1 then q else if k = 2 then m else 0
/-- What CheckAddr answers. -/
def cad (i q m k n : Int) : Int := if isSp k then (if 0 ≤ n ∧ n < wid i q m k then 0 else 3) else 8
/-- cmp.Compare on ints. -/
def cmpI (a b : Int) : Int := if a < b then -1 else if b < a then 1 else 0
/-- Compare on addresses. -/
def cmpA (k n k' n' : Int) : Int := if cmpI k k' = 0 then cmpI n n' else cmpI k k'
theorem cmpA_lt {k n k' n' : Int} (h : k < k' ∨ k = k' ∧ n < n') : cmpA k n k' n' = -1 := by unfold cmpA cmpI; split <;> split <;> (try split) <;> (try split) <;> omega
theorem cmpA_eq {k n k' n' : Int} (h : k = k' ∧ n = n') : cmpA k n k' n' = 0 := by unfold cmpA cmpI; split <;> split <;> (try split) <;> (try split) <;> omega
theorem cmpA_gt {k n k' n' : Int} (h : k' < k ∨ k = k' ∧ n' < n) : cmpA k n k' n' = 1 := by unfold cmpA cmpI; split <;> split <;> (try split) <;> (try split) <;> omega

end Go.Proofs.Ytndapcbjcannhaa
