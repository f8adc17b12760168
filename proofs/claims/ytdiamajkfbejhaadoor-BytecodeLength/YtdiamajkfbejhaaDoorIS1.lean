/- What the small functions of package state return: imagesOf, stateOf, sizesOf, indexOf, copyOf. Conditions: copyOf's slice reads as a list of bools of at most a million. -/
import Derived.Test.YtdiamajkfbejhaaDoorIS0
import Derived.Test.YtdiamajkfbejhaaDoorIC
import Derived.Test.YtdiamajkfbejhaaDoorIK
namespace Go.Proofs.YtdiamajkfbejhaaDoor
open Go.RowKit

/-- The place of a space's image, and whether there is one. -/
def ixI (k : Int) : Int := if k = 2 then 1 else 0
def ixB (k : Int) : Bool := decide (k = 1 ∨ k = 2)
theorem csz_yes {i q m e : Int} (h : sizeOK i q m e) : csz i q m e = 0 := by
  unfold csz; rw [inB_yes h.1, inB_yes h.2.1, inB_yes h.2.2.1, inB_yes h.2.2.2]; rfl
theorem csz_no {i q m e : Int} (h : ¬ sizeOK i q m e) : csz i q m e = 3 := by
  unfold csz
  rw [if_neg]
  intro h2
  simp only [Bool.and_eq_true, inB, decide_eq_true_eq] at h2
  exact h ⟨h2.1.1.1, h2.1.1.2, h2.1.2, h2.2⟩
set_option maxHeartbeats 1600000 in
set_option maxRecDepth 100000 in
theorem refCheckSize_any (i q m e : Int) (w : World) : Calls Tryd.prog 38 #[.agg #[.int .i64 i, .int .i64 q, .int .i64 m, .int .i64 e]] w fun r w' => r = .returned (.int .i64 (csz i q m e)) ∧ Nx w w' := by
  by_cases h0 : i < 0
  · have HR := Lib.hid (csz_no (show ¬ sizeOK i q m e by unfold sizeOK; omega))
    go_enter Tryd.func38, Tryd.ntmps38
    go_wp2
    go_ret
    exact ⟨ret_int HR.out.symm, (by repeat (first | exact Nx.refl _ | assumption | refine Nx.drewN ?_ _ | refine Nx.drew ?_ | refine Nx.alloc ?_ _ | refine Nx.set ?_ (by first | exact Nat.le_refl _ | (simp; done) | (simp; omega)) _))⟩
  by_cases h1 : 256 < i
  · have HR := Lib.hid (csz_no (show ¬ sizeOK i q m e by unfold sizeOK; omega))
    go_enter Tryd.func38, Tryd.ntmps38
    go_wp2
    go_ret
    exact ⟨ret_int HR.out.symm, (by repeat (first | exact Nx.refl _ | assumption | refine Nx.drewN ?_ _ | refine Nx.drew ?_ | refine Nx.alloc ?_ _ | refine Nx.set ?_ (by first | exact Nat.le_refl _ | (simp; done) | (simp; omega)) _))⟩
  by_cases h2 : q < 0
  · have HR := Lib.hid (csz_no (show ¬ sizeOK i q m e by unfold sizeOK; omega))
    go_enter Tryd.func38, Tryd.ntmps38
    go_wp2
    go_ret
    exact ⟨ret_int HR.out.symm, (by repeat (first | exact Nx.refl _ | assumption | refine Nx.drewN ?_ _ | refine Nx.drew ?_ | refine Nx.alloc ?_ _ | refine Nx.set ?_ (by first | exact Nat.le_refl _ | (simp; done) | (simp; omega)) _))⟩
  by_cases h3 : 256 < q
  · have HR := Lib.hid (csz_no (show ¬ sizeOK i q m e by unfold sizeOK; omega))
    go_enter Tryd.func38, Tryd.ntmps38
    go_wp2
    go_ret
    exact ⟨ret_int HR.out.symm, (by repeat (first | exact Nx.refl _ | assumption | refine Nx.drewN ?_ _ | refine Nx.drew ?_ | refine Nx.alloc ?_ _ | refine Nx.set ?_ (by first | exact Nat.le_refl _ | (simp; done) | (simp; omega)) _))⟩
  by_cases h4 : m < 0
  · have HR := Lib.hid (csz_no (show ¬ sizeOK i q m e by unfold sizeOK; omega))
    go_enter Tryd.func38, Tryd.ntmps38
    go_wp2
    go_ret
    exact ⟨ret_int HR.out.symm, (by repeat (first | exact Nx.refl _ | assumption | refine Nx.drewN ?_ _ | refine Nx.drew ?_ | refine Nx.alloc ?_ _ | refine Nx.set ?_ (by first | exact Nat.le_refl _ | (simp; done) | (simp; omega)) _))⟩
  by_cases h5 : 256 < m
  · have HR := Lib.hid (csz_no (show ¬ sizeOK i q m e by unfold sizeOK; omega))
    go_enter Tryd.func38, Tryd.ntmps38
    go_wp2
    go_ret
    exact ⟨ret_int HR.out.symm, (by repeat (first | exact Nx.refl _ | assumption | refine Nx.drewN ?_ _ | refine Nx.drew ?_ | refine Nx.alloc ?_ _ | refine Nx.set ?_ (by first | exact Nat.le_refl _ | (simp; done) | (simp; omega)) _))⟩
  by_cases h6 : e < 0
  · have HR := Lib.hid (csz_no (show ¬ sizeOK i q m e by unfold sizeOK; omega))
    go_enter Tryd.func38, Tryd.ntmps38
    go_wp2
    go_ret
    exact ⟨ret_int HR.out.symm, (by repeat (first | exact Nx.refl _ | assumption | refine Nx.drewN ?_ _ | refine Nx.drew ?_ | refine Nx.alloc ?_ _ | refine Nx.set ?_ (by first | exact Nat.le_refl _ | (simp; done) | (simp; omega)) _))⟩
  by_cases h7 : 16384 < e
  · have HR := Lib.hid (csz_no (show ¬ sizeOK i q m e by unfold sizeOK; omega))
    go_enter Tryd.func38, Tryd.ntmps38
    go_wp2
    go_ret
    exact ⟨ret_int HR.out.symm, (by repeat (first | exact Nx.refl _ | assumption | refine Nx.drewN ?_ _ | refine Nx.drew ?_ | refine Nx.alloc ?_ _ | refine Nx.set ?_ (by first | exact Nat.le_refl _ | (simp; done) | (simp; omega)) _))⟩
  have HR := Lib.hid (csz_yes (show sizeOK i q m e by unfold sizeOK; omega))
  go_enter Tryd.func38, Tryd.ntmps38
  go_wp2
  go_ret
  exact ⟨ret_int HR.out.symm, (by repeat (first | exact Nx.refl _ | assumption | refine Nx.drewN ?_ _ | refine Nx.drew ?_ | refine Nx.alloc ?_ _ | refine Nx.set ?_ (by first | exact Nat.le_refl _ | (simp; done) | (simp; omega)) _))⟩

end Go.Proofs.YtdiamajkfbejhaaDoor
