/- What the small functions of package state return: imagesOf, stateOf, sizesOf, indexOf, copyOf. Conditions: copyOf's slice reads as a list of bools of at most a million. -/
import Derived.Test.YtndapcbjcannhaaS0
import Derived.Test.YtndapcbjcannhaaIC
import Derived.Test.YtndapcbjcannhaaIK
namespace Go.Proofs.Ytndapcbjcannhaa
open Go.RowKit

set_option maxHeartbeats 400000 in
set_option maxRecDepth 100000 in
theorem imagesOf_any (A1 A2 A3 : Option Addr) (m1 m2 m3 c1 c2 c3 : Nat) (w : World) : Calls Try.prog 28 #[.agg #[.slice A1 m1 c1, .slice A2 m2 c2, .slice A3 m3 c3]] w fun e w' => e = .returned (.agg #[.slice A1 m1 c1, .slice A2 m2 c2, .slice A3 m3 c3]) ∧ Nx w w' := by
  go_enter Try.func28, Try.ntmps28
  go_wp2
  go_returns
  exact ⟨rfl, (by repeat (first | exact Nx.refl _ | assumption | refine Nx.drewN ?_ _ | refine Nx.drew ?_ | refine Nx.alloc ?_ _ | refine Nx.set ?_ (by first | exact Nat.le_refl _ | (simp; done) | (simp; omega)) _))⟩

set_option maxHeartbeats 400000 in
set_option maxRecDepth 100000 in
theorem stateOf_any (A1 A2 A3 : Option Addr) (m1 m2 m3 c1 c2 c3 : Nat) (w : World) : Calls Try.prog 26 #[.agg #[.slice A1 m1 c1, .slice A2 m2 c2, .slice A3 m3 c3]] w fun e w' => e = .returned (.agg #[.slice A1 m1 c1, .slice A2 m2 c2, .slice A3 m3 c3]) ∧ Nx w w' := by
  go_enter Try.func26, Try.ntmps26
  go_wp2
  go_returns
  exact ⟨rfl, (by repeat (first | exact Nx.refl _ | assumption | refine Nx.drewN ?_ _ | refine Nx.drew ?_ | refine Nx.alloc ?_ _ | refine Nx.set ?_ (by first | exact Nat.le_refl _ | (simp; done) | (simp; omega)) _))⟩

set_option maxHeartbeats 400000 in
set_option maxRecDepth 100000 in
theorem sizesOf_any (i q m e : Int) (w : World) : Calls Try.prog 25 #[.agg #[.int .i64 i, .int .i64 q, .int .i64 m, .int .i64 e]] w fun r w' => r = .returned (.agg #[.int .i64 q, .int .i64 m, .int .i64 e]) ∧ Nx w w' := by
  go_enter Try.func25, Try.ntmps25
  go_wp2
  go_returns
  exact ⟨rfl, (by repeat (first | exact Nx.refl _ | assumption | refine Nx.drewN ?_ _ | refine Nx.drew ?_ | refine Nx.alloc ?_ _ | refine Nx.set ?_ (by first | exact Nat.le_refl _ | (simp; done) | (simp; omega)) _))⟩

/-- The place of a space's image, and whether there is one. -/
def ixI (k : Int) : Int := if k = 2 then 1 else 0
def ixB (k : Int) : Bool := decide (k = 1 ∨ k = 2)
set_option maxHeartbeats 400000 in
theorem indexOf_any (k : Int) (w : World) : Calls Try.prog 36 #[.int .i64 k] w fun e w' => e = .returned (.tuple #[.int .i64 (ixI k), .bool (ixB k)]) ∧ w = w' := by
  by_cases h1 : k = 1
  · subst h1
    go_enter Try.func36, Try.ntmps36
    go_wp2
    go_ret2
    exact ⟨rfl, rfl⟩
  by_cases h2 : k = 2
  · subst h2
    go_enter Try.func36, Try.ntmps36
    go_wp2
    go_ret2
    exact ⟨rfl, rfl⟩
  have t1 : (k == 1) = false := by simpa using h1
  have t2 : (k == 2) = false := by simpa using h2
  have HI := Lib.hid (show ixI k = 0 from if_neg h2)
  have HB := Lib.hid (show ixB k = false from decide_eq_false (by omega))
  clear h1 h2
  go_enter Try.func36, Try.ntmps36
  go_wp2
  go_ret2
  exact ⟨by rw [HI.out, HB.out]; rfl, rfl⟩

theorem csz_yes {i q m e : Int} (h : sizeOK i q m e) : csz i q m e = 0 := by
  unfold csz; rw [inB_yes h.1, inB_yes h.2.1, inB_yes h.2.2.1, inB_yes h.2.2.2]; rfl
theorem csz_no {i q m e : Int} (h : ¬ sizeOK i q m e) : csz i q m e = 3 := by
  unfold csz
  rw [if_neg]
  intro h2
  simp only [Bool.and_eq_true, inB, decide_eq_true_eq] at h2
  exact h ⟨h2.1.1.1, h2.1.1.2, h2.1.2, h2.2⟩
set_option maxHeartbeats 1600000 in
set_option maxRecDepth 100000 in
theorem refCheckSize_any (i q m e : Int) (w : World) : Calls Try.prog 27 #[.agg #[.int .i64 i, .int .i64 q, .int .i64 m, .int .i64 e]] w fun r w' => r = .returned (.int .i64 (csz i q m e)) ∧ Nx w w' := by
  by_cases h0 : i < 0
  · have HR := Lib.hid (csz_no (show ¬ sizeOK i q m e by unfold sizeOK; omega))
    go_enter Try.func27, Try.ntmps27
    go_wp2
    go_ret
    exact ⟨ret_int HR.out.symm, (by repeat (first | exact Nx.refl _ | assumption | refine Nx.drewN ?_ _ | refine Nx.drew ?_ | refine Nx.alloc ?_ _ | refine Nx.set ?_ (by first | exact Nat.le_refl _ | (simp; done) | (simp; omega)) _))⟩
  by_cases h1 : 256 < i
  · have HR := Lib.hid (csz_no (show ¬ sizeOK i q m e by unfold sizeOK; omega))
    go_enter Try.func27, Try.ntmps27
    go_wp2
    go_ret
    exact ⟨ret_int HR.out.symm, (by repeat (first | exact Nx.refl _ | assumption | refine Nx.drewN ?_ _ | refine Nx.drew ?_ | refine Nx.alloc ?_ _ | refine Nx.set ?_ (by first | exact Nat.le_refl _ | (simp; done) | (simp; omega)) _))⟩
  by_cases h2 : q < 0
  · have HR := Lib.hid (csz_no (show ¬ sizeOK i q m e by unfold sizeOK; omega))
    go_enter Try.func27, Try.ntmps27
    go_wp2
    go_ret
    exact ⟨ret_int HR.out.symm, (by repeat (first | exact Nx.refl _ | assumption | refine Nx.drewN ?_ _ | refine Nx.drew ?_ | refine Nx.alloc ?_ _ | refine Nx.set ?_ (by first | exact Nat.le_refl _ | (simp; done) | (simp; omega)) _))⟩
  by_cases h3 : 256 < q
  · have HR := Lib.hid (csz_no (show ¬ sizeOK i q m e by unfold sizeOK; omega))
    go_enter Try.func27, Try.ntmps27
    go_wp2
    go_ret
    exact ⟨ret_int HR.out.symm, (by repeat (first | exact Nx.refl _ | assumption | refine Nx.drewN ?_ _ | refine Nx.drew ?_ | refine Nx.alloc ?_ _ | refine Nx.set ?_ (by first | exact Nat.le_refl _ | (simp; done) | (simp; omega)) _))⟩
  by_cases h4 : m < 0
  · have HR := Lib.hid (csz_no (show ¬ sizeOK i q m e by unfold sizeOK; omega))
    go_enter Try.func27, Try.ntmps27
    go_wp2
    go_ret
    exact ⟨ret_int HR.out.symm, (by repeat (first | exact Nx.refl _ | assumption | refine Nx.drewN ?_ _ | refine Nx.drew ?_ | refine Nx.alloc ?_ _ | refine Nx.set ?_ (by first | exact Nat.le_refl _ | (simp; done) | (simp; omega)) _))⟩
  by_cases h5 : 256 < m
  · have HR := Lib.hid (csz_no (show ¬ sizeOK i q m e by unfold sizeOK; omega))
    go_enter Try.func27, Try.ntmps27
    go_wp2
    go_ret
    exact ⟨ret_int HR.out.symm, (by repeat (first | exact Nx.refl _ | assumption | refine Nx.drewN ?_ _ | refine Nx.drew ?_ | refine Nx.alloc ?_ _ | refine Nx.set ?_ (by first | exact Nat.le_refl _ | (simp; done) | (simp; omega)) _))⟩
  by_cases h6 : e < 0
  · have HR := Lib.hid (csz_no (show ¬ sizeOK i q m e by unfold sizeOK; omega))
    go_enter Try.func27, Try.ntmps27
    go_wp2
    go_ret
    exact ⟨ret_int HR.out.symm, (by repeat (first | exact Nx.refl _ | assumption | refine Nx.drewN ?_ _ | refine Nx.drew ?_ | refine Nx.alloc ?_ _ | refine Nx.set ?_ (by first | exact Nat.le_refl _ | (simp; done) | (simp; omega)) _))⟩
  by_cases h7 : 16384 < e
  · have HR := Lib.hid (csz_no (show ¬ sizeOK i q m e by unfold sizeOK; omega))
    go_enter Try.func27, Try.ntmps27
    go_wp2
    go_ret
    exact ⟨ret_int HR.out.symm, (by repeat (first | exact Nx.refl _ | assumption | refine Nx.drewN ?_ _ | refine Nx.drew ?_ | refine Nx.alloc ?_ _ | refine Nx.set ?_ (by first | exact Nat.le_refl _ | (simp; done) | (simp; omega)) _))⟩
  have HR := Lib.hid (csz_yes (show sizeOK i q m e by unfold sizeOK; omega))
  go_enter Try.func27, Try.ntmps27
  go_wp2
  go_ret
  exact ⟨ret_int HR.out.symm, (by repeat (first | exact Nx.refl _ | assumption | refine Nx.drewN ?_ _ | refine Nx.drew ?_ | refine Nx.alloc ?_ _ | refine Nx.set ?_ (by first | exact Nat.le_refl _ | (simp; done) | (simp; omega)) _))⟩

set_option maxHeartbeats 1600000 in
theorem copyOf_ok (A : Option Addr) (xs : List Bool) (m c : Nat) (hx : xs.length = m) (hl : m ≤ 1000000) (w : World) (hr : Rd w A xs) :
    Calls Try.prog 29 #[.slice A m c] w fun e w' => ∃ g, e = .returned (.slice (some ⟨g, 0, none⟩) m m) ∧ OwB w' w.heap.size g m xs ∧ Nx w w' := by
  have hmk := run_make_row' (P := Try.prog) 24 4 (.bool false) 1 Try.underlying24 info4 rfl .i64 .i64 m (by omega) (by omega)
  have HX := Lib.hid hx
  have hsz : (Try.prog.info? 4).map (·.size) = some 1 := by kernel_rfl
  have HSZ := Lib.hid hsz
  have hsrc : 0 < (bools xs).length → ∃ ad0, A = some ad0 ∧ ∀ j u, (bools xs)[j]? = some u → (w.alloc (.cells (madeCells #[.bool false] m) 4)).cell? (ad0.add j) = some u := by
    intro hp
    obtain ⟨b, hb⟩ := at_some xs 0 (by rwa [bools_length] at hp)
    obtain ⟨ad0, rfl, _⟩ := hr 0 b hb
    exact ⟨ad0, rfl, src_of (hr.nx (Nx.one _ _))⟩
  have HSRC := Lib.hid hsrc
  have HBL := Lib.hid (show (w.alloc (.cells (madeCells #[.bool false] m) 4)).heap[w.heap.size]? = some (.cells (List.replicate m (Value.bool false)).toArray 4 (0, 0)) by
    rw [← toList_madeCells_one]; exact heap_alloc_new w _)
  clear hr hx hsz hsrc
  go_enter Try.func29, Try.ntmps29
  go_wp2_with (
    (refine wpList_copy_splice rfl (.tmp 7) (.tmp 8) 24 24 rfl 4 Try.underlying24 HSZ.out (some ⟨w.heap.size, 0, none⟩) A m m m c rfl rfl w.heap.size 0 (List.replicate m (Value.bool false)) 4 HBL.out (bools xs) (by rw [bools_length, HX.out]; simp) (fun hp => ⟨rfl, HSRC.out hp⟩) (by rw [bools_length, HX.out, List.length_replicate]; omega) (bools_one xs) w.heap.size w (Below.alloc (Below.refl _ _) (Nat.le_refl _) _) (Nat.le_refl _) ?_
     intro w2 hg2 hb2
     have HO := Lib.hid (own_of_block (base := w.heap.size) HX.out (Nat.le_refl _) (by have := hg2.out; rwa [splice_all m xs HX.out] at this) hl)
     have HN := Lib.hid (show Nx w w2 from hb2)
     clear hg2 hb2))
  go_ret
  exact ⟨w.heap.size, rfl, HO.out, HN.out⟩

end Go.Proofs.Ytndapcbjcannhaa
