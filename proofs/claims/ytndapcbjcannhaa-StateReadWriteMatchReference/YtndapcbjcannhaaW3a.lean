/- The walk of StateMatchesReference. Conditions: images that read as lists of bools. -/
import Derived.Test.YtndapcbjcannhaaS16
import Derived.Test.YtndapcbjcannhaaS3
import Derived.Test.YtndapcbjcannhaaS8
import Derived.Deep.RegionHeld3
namespace Go.Proofs.Ytndapcbjcannhaa
open Go.RowKit

theorem eqB_self (xs : List Bool) : eqB xs xs = true := decide_eq_true rfl
/-- The images of a new state. -/
def zr (si sq sm se x : Int) : List Bool := if csz si sq sm se = 0 then List.replicate x.toNat false else []
theorem sizeOK_of {si sq sm se : Int} : sizeOK si sq sm se ∨ ¬ sizeOK si sq sm se := Classical.em _
theorem zr_len {si sq sm se x : Int} (h : sizeOK si sq sm se → x ≤ 16384) : (zr si sq sm se x).length ≤ 1000000 := by
  unfold zr
  rcases sizeOK_of (si := si) (sq := sq) (sm := sm) (se := se) with ho | ho
  · rw [if_pos (csz_yes ho)]
    have := h ho
    simp
    omega
  · rw [csz_no ho]
    simp
theorem new_ims (si sq sm se : Int) (w : World) : Calls Try.prog 10 #[.agg #[.int .i64 si, .int .i64 sq, .int .i64 sm, .int .i64 se]] w fun r w' => ∃ v, r = .returned (.tuple #[v, .int .i64 (csz si sq sm se)]) ∧ ImS w' v (zr si sq sm se sq) (zr si sq sm se sm) (zr si sq sm se se) ∧ Nx w w' := by
  rcases sizeOK_of (si := si) (sq := sq) (sm := sm) (se := se) with ho | ho
  · have h := new_ok si.toNat sq.toNat sm.toNat se.toNat (by unfold sizeOK at ho; omega) (by unfold sizeOK at ho; omega) (by unfold sizeOK at ho; omega) (by unfold sizeOK at ho; omega) w
    rw [Int.toNat_of_nonneg ho.1.1, Int.toNat_of_nonneg ho.2.1.1, Int.toNat_of_nonneg ho.2.2.1.1, Int.toNat_of_nonneg ho.2.2.2.1] at h
    refine h.mono ?_
    rintro r w' ⟨v, rfl, hs, hn⟩
    unfold zr
    simp only [csz_yes ho, if_true]
    exact ⟨v, rfl, hs.ims, hn⟩
  · refine (new_no si sq sm se ho w).mono ?_
    rintro r w' ⟨rfl, hn⟩
    unfold zr
    rw [csz_no ho]
    exact ⟨_, rfl, ims_zero w', hn⟩
theorem refNew_ims (si sq sm se : Int) (w : World) : Calls Try.prog 11 #[.agg #[.int .i64 si, .int .i64 sq, .int .i64 sm, .int .i64 se]] w fun r w' => ∃ v, r = .returned (.tuple #[v, .int .i64 (csz si sq sm se)]) ∧ ImS w' v (zr si sq sm se sq) (zr si sq sm se sm) (zr si sq sm se se) ∧ Nx w w' := by
  rcases sizeOK_of (si := si) (sq := sq) (sm := sm) (se := se) with ho | ho
  · have h := refNew_ok si.toNat sq.toNat sm.toNat se.toNat (by unfold sizeOK at ho; omega) (by unfold sizeOK at ho; omega) (by unfold sizeOK at ho; omega) (by unfold sizeOK at ho; omega) w
    rw [Int.toNat_of_nonneg ho.1.1, Int.toNat_of_nonneg ho.2.1.1, Int.toNat_of_nonneg ho.2.2.1.1, Int.toNat_of_nonneg ho.2.2.2.1] at h
    refine h.mono ?_
    rintro r w' ⟨v, rfl, hs, hn⟩
    unfold zr
    simp only [csz_yes ho, if_true]
    exact ⟨v, rfl, hs.ims, hn⟩
  · refine (refNew_no si sq sm se ho w).mono ?_
    rintro r w' ⟨rfl, hn⟩
    unfold zr
    rw [csz_no ho]
    exact ⟨_, rfl, ims_zero w', hn⟩

set_option maxHeartbeats 1600000 in
set_option maxRecDepth 100000 in
theorem law3_big (si sq s3 se : Int) (A1 A2 A3 : Option Addr) (m1 m2 m3 c1 c2 c3 : Nat) (B1 B2 B3 : Option Addr) (n1 n2 n3 d1 d2 d3 : Nat) (w : World) (h : ¬ (sm m1 m2 m3 ∧ sm n1 n2 n3)) :
    Calls Try.prog 3 #[.agg #[.int .i64 si, .int .i64 sq, .int .i64 s3, .int .i64 se], .agg #[.slice A1 m1 c1, .slice A2 m2 c2, .slice A3 m3 c3], .agg #[.slice B1 n1 d1, .slice B2 n2 d2, .slice B3 n3 d3]] w fun e w' => e = .returned (.bool true) ∧ Nx w w' := by
  have N0 := Lib.hid (show Nx w ((((w.alloc (.cells #[.int .i64 si, .int .i64 sq, .int .i64 s3, .int .i64 se] 23)).alloc (.cells #[.slice A1 m1 c1, .slice A2 m2 c2, .slice A3 m3 c3] 26)).alloc (.cells #[.slice B1 n1 d1, .slice B2 n2 d2, .slice B3 n3 d3] 26)).alloc (.cells #[.slice A1 m1 c1, .slice A2 m2 c2, .slice A3 m3 c3, .slice B1 n1 d1, .slice B2 n2 d2, .slice B3 n3 d3] 26)) from (((Nx.one _ _).alloc _).alloc _).alloc _)
  have LG := Lib.hid (large2_yes (w.heap.size + 1 + 1 + 1) A1 A2 A3 m1 m2 m3 c1 c2 c3 B1 B2 B3 n1 n2 n3 d1 d2 d3 h ((((w.alloc (.cells #[.int .i64 si, .int .i64 sq, .int .i64 s3, .int .i64 se] 23)).alloc (.cells #[.slice A1 m1 c1, .slice A2 m2 c2, .slice A3 m3 c3] 26)).alloc (.cells #[.slice B1 n1 d1, .slice B2 n2 d2, .slice B3 n3 d3] 26)).alloc (.cells #[.slice A1 m1 c1, .slice A2 m2 c2, .slice A3 m3 c3, .slice B1 n1 d1, .slice B2 n2 d2, .slice B3 n3 d3] 26)) (by
    have := bx_new (((w.alloc (.cells #[.int .i64 si, .int .i64 sq, .int .i64 s3, .int .i64 se] 23)).alloc (.cells #[.slice A1 m1 c1, .slice A2 m2 c2, .slice A3 m3 c3] 26)).alloc (.cells #[.slice B1 n1 d1, .slice B2 n2 d2, .slice B3 n3 d3] 26)) 26 [.slice A1 m1 c1, .slice A2 m2 c2, .slice A3 m3 c3, .slice B1 n1 d1, .slice B2 n2 d2, .slice B3 n3 d3]
    simpa using this))
  clear h
  go_enter Try.func3, Try.ntmps3
  go_wp2_with fail
  refine LG.out.mono ?_
  rintro e w1 ⟨rfl, h1⟩
  have H1 := Lib.hid (N0.out.trans h1)
  clear h1
  go_wp2_with fail
  refine (alive_any _).mono ?_
  rintro e w2 ⟨rfl, h2⟩
  have H2 := Lib.hid (H1.out.trans h2)
  clear h2
  go_wp2
  go_ret
  exact ⟨rfl, H2.out⟩
end Go.Proofs.Ytndapcbjcannhaa
