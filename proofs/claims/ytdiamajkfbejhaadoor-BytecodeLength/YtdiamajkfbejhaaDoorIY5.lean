/- What the checks of the operands return. Conditions: none. -/
import Derived.Test.YtdiamajkfbejhaaDoorIY4
import Derived.Test.YtdiamajkfbejhaaDoorIO2
namespace Go.Proofs.YtdiamajkfbejhaaDoor
open Go.RowKit

theorem cad_in (i q m k n : Int) : cad i q m k n = 0 ∨ cad i q m k n = 3 ∨ cad i q m k n = 8 := by
  unfold cad; split
  · split
    · exact Or.inl rfl
    · exact Or.inr (Or.inl rfl)
  · exact Or.inr (Or.inr rfl)
def cwr (ca k : Int) : Int := if ca ≠ 0 then ca else if k = 0 then 8 else 0
def csl (e N : Int) : Int := if N < 0 ∨ e ≤ N then 3 else 0
def ctg (at' many N : Int) : Int := if N < 0 ∨ many ≤ N then 3 else if N ≤ at' then 17 else 0

set_option maxHeartbeats 800000 in
set_option maxRecDepth 100000 in
theorem checkRead_any (i q m e o k n N at' many : Int) (w : World) : Calls Tryd.prog 58 #[.agg #[.int .i64 o, .int .i64 k, .int .i64 n, .int .i64 N], .agg #[.int .i64 i, .int .i64 q, .int .i64 m, .int .i64 e, .int .i64 at', .int .i64 many]] w fun r w' => r = .returned (.int .i64 (cad i q m k n)) ∧ Nx w w' := by
  have CA := Lib.hid (checkAddr_any i q m e k n)
  generalize cad i q m k n = ca at *
  go_enter Tryd.func58, Tryd.ntmps58
  go_wp2_with (go_at_call 68; refine (CA.out _).mono ?_; rintro r w' ⟨rfl, h⟩)
  go_ret
  exact ⟨rfl, Nx.trans ((Nx.one _ _).alloc _) h⟩

set_option maxHeartbeats 800000 in
set_option maxRecDepth 100000 in
theorem checkWrite_any (i q m e o k n N at' many : Int) (w : World) : Calls Tryd.prog 61 #[.agg #[.int .i64 o, .int .i64 k, .int .i64 n, .int .i64 N], .agg #[.int .i64 i, .int .i64 q, .int .i64 m, .int .i64 e, .int .i64 at', .int .i64 many]] w fun r w' => r = .returned (.int .i64 (cwr (cad i q m k n) k)) ∧ Nx w w' := by
  have CA := Lib.hid (checkAddr_any i q m e k n)
  have hc := cad_in i q m k n
  generalize cad i q m k n = ca at *
  have N0 := Lib.hid (show Nx w ((w.alloc (.cells #[.int .i64 o, .int .i64 k, .int .i64 n, .int .i64 N] 46)).alloc (.cells #[.int .i64 i, .int .i64 q, .int .i64 m, .int .i64 e, .int .i64 at', .int .i64 many] 109)) from (Nx.one _ _).alloc _)
  have XI := Lib.hid ((bx_new w 46 [.int .i64 o, .int .i64 k, .int .i64 n, .int .i64 N]).nx (Nx.one _ (.cells #[.int .i64 i, .int .i64 q, .int .i64 m, .int .i64 e, .int .i64 at', .int .i64 many] 109)))
  obtain ⟨R, hR⟩ : ∃ R, cwr ca k = R := ⟨_, rfl⟩
  rw [hR]
  have HR := Lib.hid hR
  clear hR
  go_enter Tryd.func61, Tryd.ntmps61
  go_wp2_with fail
  refine (CA.out _).mono ?_
  rintro r w1 ⟨rfl, h⟩
  have c1 := (XI.out.nx h).cell 1 rfl
  have H := Lib.hid h
  clear XI h
  rcases hc with rfl | rfl | rfl
  · by_cases hk : k = 0
    · subst hk
      go_wp2
      go_ret
      exact ⟨ret_int (by rw [← HR.out]; rfl), N0.out.trans H.out⟩
    · have tk : (k == 0) = false := by simpa using hk
      go_wp2
      go_ret
      exact ⟨ret_int (by rw [← HR.out]; unfold cwr; rw [if_neg (by decide), if_neg hk]), N0.out.trans H.out⟩
  · go_wp2
    go_ret
    exact ⟨ret_int (by rw [← HR.out]; rfl), N0.out.trans H.out⟩
  · go_wp2
    go_ret
    exact ⟨ret_int (by rw [← HR.out]; rfl), N0.out.trans H.out⟩

set_option maxHeartbeats 800000 in
set_option maxRecDepth 100000 in
theorem checkSlot_any (i q m e o k n N at' many : Int) (w : World) : Calls Tryd.prog 60 #[.agg #[.int .i64 o, .int .i64 k, .int .i64 n, .int .i64 N], .agg #[.int .i64 i, .int .i64 q, .int .i64 m, .int .i64 e, .int .i64 at', .int .i64 many]] w fun r w' => r = .returned (.int .i64 (csl e N)) ∧ Nx w w' := by
  by_cases h0 : N < 0
  · have HR := Lib.hid (show csl e N = 3 by unfold csl; rw [if_pos (Or.inl h0)])
    go_enter Tryd.func60, Tryd.ntmps60
    go_wp2
    go_ret
    exact ⟨ret_int HR.out.symm, (by repeat (first | exact Nx.refl _ | assumption | refine Nx.drewN ?_ _ | refine Nx.drew ?_ | refine Nx.alloc ?_ _ | refine Nx.set ?_ (by first | exact Nat.le_refl _ | (simp; done) | (simp; omega)) _))⟩
  by_cases h1 : e ≤ N
  · have HR := Lib.hid (show csl e N = 3 by unfold csl; rw [if_pos (Or.inr h1)])
    go_enter Tryd.func60, Tryd.ntmps60
    go_wp2
    go_ret
    exact ⟨ret_int HR.out.symm, (by repeat (first | exact Nx.refl _ | assumption | refine Nx.drewN ?_ _ | refine Nx.drew ?_ | refine Nx.alloc ?_ _ | refine Nx.set ?_ (by first | exact Nat.le_refl _ | (simp; done) | (simp; omega)) _))⟩
  have HR := Lib.hid (show csl e N = 0 by unfold csl; rw [if_neg (by omega)])
  go_enter Tryd.func60, Tryd.ntmps60
  go_wp2
  go_ret
  exact ⟨ret_int HR.out.symm, (by repeat (first | exact Nx.refl _ | assumption | refine Nx.drewN ?_ _ | refine Nx.drew ?_ | refine Nx.alloc ?_ _ | refine Nx.set ?_ (by first | exact Nat.le_refl _ | (simp; done) | (simp; omega)) _))⟩

set_option maxHeartbeats 800000 in
set_option maxRecDepth 100000 in
theorem checkTarget_any (i q m e o k n N at' many : Int) (w : World) : Calls Tryd.prog 62 #[.agg #[.int .i64 o, .int .i64 k, .int .i64 n, .int .i64 N], .agg #[.int .i64 i, .int .i64 q, .int .i64 m, .int .i64 e, .int .i64 at', .int .i64 many]] w fun r w' => r = .returned (.int .i64 (ctg at' many N)) ∧ Nx w w' := by
  by_cases h0 : N < 0
  · have HR := Lib.hid (show ctg at' many N = 3 by unfold ctg; rw [if_pos (Or.inl h0)])
    go_enter Tryd.func62, Tryd.ntmps62
    go_wp2
    go_ret
    exact ⟨ret_int HR.out.symm, (by repeat (first | exact Nx.refl _ | assumption | refine Nx.drewN ?_ _ | refine Nx.drew ?_ | refine Nx.alloc ?_ _ | refine Nx.set ?_ (by first | exact Nat.le_refl _ | (simp; done) | (simp; omega)) _))⟩
  by_cases h1 : many ≤ N
  · have HR := Lib.hid (show ctg at' many N = 3 by unfold ctg; rw [if_pos (Or.inr h1)])
    go_enter Tryd.func62, Tryd.ntmps62
    go_wp2
    go_ret
    exact ⟨ret_int HR.out.symm, (by repeat (first | exact Nx.refl _ | assumption | refine Nx.drewN ?_ _ | refine Nx.drew ?_ | refine Nx.alloc ?_ _ | refine Nx.set ?_ (by first | exact Nat.le_refl _ | (simp; done) | (simp; omega)) _))⟩
  by_cases h2 : N ≤ at'
  · have HR := Lib.hid (show ctg at' many N = 17 by unfold ctg; rw [if_neg (by omega), if_pos h2])
    go_enter Tryd.func62, Tryd.ntmps62
    go_wp2
    go_ret
    exact ⟨ret_int HR.out.symm, (by repeat (first | exact Nx.refl _ | assumption | refine Nx.drewN ?_ _ | refine Nx.drew ?_ | refine Nx.alloc ?_ _ | refine Nx.set ?_ (by first | exact Nat.le_refl _ | (simp; done) | (simp; omega)) _))⟩
  have HR := Lib.hid (show ctg at' many N = 0 by unfold ctg; rw [if_neg (by omega), if_neg h2])
  go_enter Tryd.func62, Tryd.ntmps62
  go_wp2
  go_ret
  exact ⟨ret_int HR.out.symm, (by repeat (first | exact Nx.refl _ | assumption | refine Nx.drewN ?_ _ | refine Nx.drew ?_ | refine Nx.alloc ?_ _ | refine Nx.set ?_ (by first | exact Nat.le_refl _ | (simp; done) | (simp; omega)) _))⟩
end Go.Proofs.YtdiamajkfbejhaaDoor
