/- What package state's Fits returns, and the reference's Fits and Equal. Conditions: for Equal images that read as lists of bools, of at most a million. -/
import Derived.Test.YtndapcbjcannhaaS2
namespace Go.Proofs.Ytndapcbjcannhaa
open Go.RowKit

def fitsB (si sq sm se : Int) (l1 l2 l3 : Nat) : Bool := decide (((0 ≤ si ∧ si ≤ 256) ∧ (0 ≤ sq ∧ sq ≤ 256) ∧ (0 ≤ sm ∧ sm ≤ 256) ∧ (0 ≤ se ∧ se ≤ 16384)) ∧ (l1 : Int) = sq ∧ (l2 : Int) = sm ∧ (l3 : Int) = se)
theorem fits_yes {si sq sm se : Int} {l1 l2 l3 : Nat} (h : sizeOK si sq sm se ∧ (l1 : Int) = sq ∧ (l2 : Int) = sm ∧ (l3 : Int) = se) : fitsB si sq sm se l1 l2 l3 = true := by unfold sizeOK at h; exact decide_eq_true h
theorem fits_no {si sq sm se : Int} {l1 l2 l3 : Nat} (h : ¬ (sizeOK si sq sm se ∧ (l1 : Int) = sq ∧ (l2 : Int) = sm ∧ (l3 : Int) = se)) : fitsB si sq sm se l1 l2 l3 = false := by unfold sizeOK at h; exact decide_eq_false h

set_option maxHeartbeats 1600000 in
set_option maxRecDepth 100000 in
theorem stFits_any (si sq sm se : Int) (A1 A2 A3 : Option Addr) (m1 m2 m3 c1 c2 c3 : Nat) (w : World) :
    Calls Try.prog 14 #[.agg #[.int .i64 si, .int .i64 sq, .int .i64 sm, .int .i64 se], .agg #[.slice A1 m1 c1, .slice A2 m2 c2, .slice A3 m3 c3]] w fun e w' => e = .returned (.bool (fitsB si sq sm se m1 m2 m3)) ∧ Nx w w' := by
  have N0 := Lib.hid (show Nx w ((w.alloc (.cells #[.int .i64 si, .int .i64 sq, .int .i64 sm, .int .i64 se] 23)).alloc (.cells #[.slice A1 m1 c1, .slice A2 m2 c2, .slice A3 m3 c3] 26)) from (Nx.one _ _).alloc _)
  have XS := Lib.hid ((bx_new w 23 [.int .i64 si, .int .i64 sq, .int .i64 sm, .int .i64 se]).nx (Nx.one _ (.cells #[.slice A1 m1 c1, .slice A2 m2 c2, .slice A3 m3 c3] 26)))
  have XT := Lib.hid (bx_new (w.alloc (.cells #[.int .i64 si, .int .i64 sq, .int .i64 sm, .int .i64 se] 23)) 26 [.slice A1 m1 c1, .slice A2 m2 c2, .slice A3 m3 c3])
  rw [show (w.alloc (.cells #[.int .i64 si, .int .i64 sq, .int .i64 sm, .int .i64 se] 23)).heap.size = w.heap.size + 1 by simp] at XT
  have CS := Lib.hid (checkSize_any si sq sm se)
  have CR := Lib.hid (refCheckSize_any si sq sm se)
  have i0 : ∀ w, (Instr.index 60 (.agg #[.slice A1 m1 c1, .slice A2 m2 c2, .slice A3 m3 c3]) (.int .i64 0)).run Try.prog w = .ok (.slice A1 m1 c1) w := fun _ => by kernel_rfl
  have i1 : ∀ w, (Instr.index 60 (.agg #[.slice A1 m1 c1, .slice A2 m2 c2, .slice A3 m3 c3]) (.int .i64 1)).run Try.prog w = .ok (.slice A2 m2 c2) w := fun _ => by kernel_rfl
  have i2 : ∀ w, (Instr.index 60 (.agg #[.slice A1 m1 c1, .slice A2 m2 c2, .slice A3 m3 c3]) (.int .i64 2)).run Try.prog w = .ok (.slice A3 m3 c3) w := fun _ => by kernel_rfl
  by_cases ho : sizeOK si sq sm se
  rotate_left
  · have HR := Lib.hid (show fitsB si sq sm se m1 m2 m3 = false from fits_no (fun h => ho h.1))
    rw [csz_no ho] at CS
    clear ho
    go_enter Try.func14, Try.ntmps14
    go_wp2_with fail
    refine (CS.out _).mono ?_
    rintro e w1 ⟨rfl, h1⟩
    have H1 := Lib.hid (N0.out.trans h1)
    clear h1
    go_wp2
    go_ret
    exact ⟨ret_bool HR.out.symm, H1.out⟩
  rw [csz_yes ho] at CS
  go_enter Try.func14, Try.ntmps14
  go_wp2_with fail
  refine (CS.out _).mono ?_
  rintro e w1 ⟨rfl, h1⟩
  have XT1 := Lib.hid (XT.out.nx h1)
  have s0 := (XS.out.nx h1).cell 0 rfl
  have s1 := (XS.out.nx h1).cell 1 rfl
  have s2 := (XS.out.nx h1).cell 2 rfl
  have s3 := (XS.out.nx h1).cell 3 rfl
  have H1 := Lib.hid (N0.out.trans h1)
  clear h1
  go_wp2_with fail
  refine (sizesOf_any _ _ _ _ _).mono ?_
  rintro e w2 ⟨rfl, h2⟩
  have t0 := (XT1.out.nx (h2.alloc (.cells #[.int .i64 sq, .int .i64 sm, .int .i64 se] 61))).cell 0 rfl
  have t1 := (XT1.out.nx (h2.alloc (.cells #[.int .i64 sq, .int .i64 sm, .int .i64 se] 61))).cell 1 rfl
  have t2 := (XT1.out.nx (h2.alloc (.cells #[.int .i64 sq, .int .i64 sm, .int .i64 se] 61))).cell 2 rfl
  have H2 := Lib.hid (H1.out.trans h2)
  clear h2 s0 s1 s2 s3
  go_wp2_with fail
  refine (imagesOf_any _ _ _ _ _ _ _ _ _ _).mono ?_
  rintro e w3 ⟨rfl, h3⟩
  have XB := Lib.hid ((bx_new w2 61 [.int .i64 sq, .int .i64 sm, .int .i64 se]).nx h3)
  have g0 := XB.out.cell 0 rfl
  have g1 := XB.out.cell 1 rfl
  have g2 := XB.out.cell 2 rfl
  have H3 := Lib.hid ((H2.out.alloc _).trans h3)
  clear h3 t0 t1 t2
  go_wp2_with fail
  refine wp_loop_rounds 4 ?_
  by_cases k0 : ((m1 : Nat) : Int) = sq
  rotate_left
  · have e0 : (((m1 : Nat) : Int) == sq) = false := by simpa using k0
    have n0 : (((m1 : Nat) : Int) != sq) = true := by simpa using k0
    have HR := Lib.hid (show fitsB si sq sm se m1 m2 m3 = false from fits_no (fun h => k0 h.2.1))
    clear k0 ho
    rw [rounds_succ]
    go_wp2
    go_ret
    exact ⟨ret_bool HR.out.symm, H3.out⟩
  have e0 : (((m1 : Nat) : Int) == sq) = true := by simpa using k0
  have n0 : (((m1 : Nat) : Int) != sq) = false := by simpa using k0
  by_cases k1 : ((m2 : Nat) : Int) = sm
  rotate_left
  · have e1 : (((m2 : Nat) : Int) == sm) = false := by simpa using k1
    have n1 : (((m2 : Nat) : Int) != sm) = true := by simpa using k1
    have HR := Lib.hid (show fitsB si sq sm se m1 m2 m3 = false from fits_no (fun h => k1 h.2.2.1))
    clear k0 k1 ho
    rw [rounds_succ]
    go_wp2
    rw [rounds_succ]
    go_wp2
    go_ret
    exact ⟨ret_bool HR.out.symm, H3.out⟩
  have e1 : (((m2 : Nat) : Int) == sm) = true := by simpa using k1
  have n1 : (((m2 : Nat) : Int) != sm) = false := by simpa using k1
  by_cases k2 : ((m3 : Nat) : Int) = se
  rotate_left
  · have e2 : (((m3 : Nat) : Int) == se) = false := by simpa using k2
    have n2 : (((m3 : Nat) : Int) != se) = true := by simpa using k2
    have HR := Lib.hid (show fitsB si sq sm se m1 m2 m3 = false from fits_no (fun h => k2 h.2.2.2))
    clear k0 k1 k2 ho
    rw [rounds_succ]
    go_wp2
    rw [rounds_succ]
    go_wp2
    rw [rounds_succ]
    go_wp2
    go_ret
    exact ⟨ret_bool HR.out.symm, H3.out⟩
  have e2 : (((m3 : Nat) : Int) == se) = true := by simpa using k2
  have n2 : (((m3 : Nat) : Int) != se) = false := by simpa using k2
  have HR := Lib.hid (show fitsB si sq sm se m1 m2 m3 = true from fits_yes ⟨ho, k0, k1, k2⟩)
  clear k0 k1 k2 ho
  rw [rounds_succ]
  go_wp2
  rw [rounds_succ]
  go_wp2
  rw [rounds_succ]
  go_wp2
  rw [rounds_succ]
  go_wp2
  go_ret
  exact ⟨ret_bool HR.out.symm, H3.out⟩

set_option maxHeartbeats 1600000 in
set_option maxRecDepth 100000 in
theorem refFits_any (si sq sm se : Int) (A1 A2 A3 : Option Addr) (m1 m2 m3 c1 c2 c3 : Nat) (w : World) :
    Calls Try.prog 15 #[.agg #[.int .i64 si, .int .i64 sq, .int .i64 sm, .int .i64 se], .agg #[.slice A1 m1 c1, .slice A2 m2 c2, .slice A3 m3 c3]] w fun e w' => e = .returned (.bool (fitsB si sq sm se m1 m2 m3)) ∧ Nx w w' := by
  have N0 := Lib.hid (show Nx w ((w.alloc (.cells #[.int .i64 si, .int .i64 sq, .int .i64 sm, .int .i64 se] 23)).alloc (.cells #[.slice A1 m1 c1, .slice A2 m2 c2, .slice A3 m3 c3] 26)) from (Nx.one _ _).alloc _)
  have XS := Lib.hid ((bx_new w 23 [.int .i64 si, .int .i64 sq, .int .i64 sm, .int .i64 se]).nx (Nx.one _ (.cells #[.slice A1 m1 c1, .slice A2 m2 c2, .slice A3 m3 c3] 26)))
  have XT := Lib.hid (bx_new (w.alloc (.cells #[.int .i64 si, .int .i64 sq, .int .i64 sm, .int .i64 se] 23)) 26 [.slice A1 m1 c1, .slice A2 m2 c2, .slice A3 m3 c3])
  rw [show (w.alloc (.cells #[.int .i64 si, .int .i64 sq, .int .i64 sm, .int .i64 se] 23)).heap.size = w.heap.size + 1 by simp] at XT
  have CS := Lib.hid (checkSize_any si sq sm se)
  have CR := Lib.hid (refCheckSize_any si sq sm se)
  by_cases ho : sizeOK si sq sm se
  rotate_left
  · have HR := Lib.hid (show fitsB si sq sm se m1 m2 m3 = false from fits_no (fun h => ho h.1))
    rw [csz_no ho] at CR
    clear ho
    go_enter Try.func15, Try.ntmps15
    go_wp2_with fail
    refine (CR.out _).mono ?_
    rintro e w1 ⟨rfl, h1⟩
    have H1 := Lib.hid (N0.out.trans h1)
    clear h1
    go_wp2
    go_ret
    exact ⟨ret_bool HR.out.symm, H1.out⟩
  rw [csz_yes ho] at CR
  go_enter Try.func15, Try.ntmps15
  go_wp2_with fail
  refine (CR.out _).mono ?_
  rintro e w1 ⟨rfl, h1⟩
  have s1 := (XS.out.nx h1).cell 1 rfl
  have s2 := (XS.out.nx h1).cell 2 rfl
  have s3 := (XS.out.nx h1).cell 3 rfl
  have t0 := (XT.out.nx h1).cell 0 rfl
  have t1 := (XT.out.nx h1).cell 1 rfl
  have t2 := (XT.out.nx h1).cell 2 rfl
  have H1 := Lib.hid (N0.out.trans h1)
  clear h1
  by_cases k0 : ((m1 : Nat) : Int) = sq
  rotate_left
  · have e0 : (((m1 : Nat) : Int) == sq) = false := by simpa using k0
    have n0 : (((m1 : Nat) : Int) != sq) = true := by simpa using k0
    have HR := Lib.hid (show fitsB si sq sm se m1 m2 m3 = false from fits_no (fun h => k0 h.2.1))
    clear k0 ho
    go_wp2
    go_ret
    exact ⟨ret_bool HR.out.symm, H1.out⟩
  have e0 : (((m1 : Nat) : Int) == sq) = true := by simpa using k0
  have n0 : (((m1 : Nat) : Int) != sq) = false := by simpa using k0
  by_cases k1 : ((m2 : Nat) : Int) = sm
  rotate_left
  · have e1 : (((m2 : Nat) : Int) == sm) = false := by simpa using k1
    have n1 : (((m2 : Nat) : Int) != sm) = true := by simpa using k1
    have HR := Lib.hid (show fitsB si sq sm se m1 m2 m3 = false from fits_no (fun h => k1 h.2.2.1))
    clear k0 k1 ho
    go_wp2
    go_ret
    exact ⟨ret_bool HR.out.symm, H1.out⟩
  have e1 : (((m2 : Nat) : Int) == sm) = true := by simpa using k1
  have n1 : (((m2 : Nat) : Int) != sm) = false := by simpa using k1
  by_cases k2 : ((m3 : Nat) : Int) = se
  rotate_left
  · have e2 : (((m3 : Nat) : Int) == se) = false := by simpa using k2
    have n2 : (((m3 : Nat) : Int) != se) = true := by simpa using k2
    have HR := Lib.hid (show fitsB si sq sm se m1 m2 m3 = false from fits_no (fun h => k2 h.2.2.2))
    clear k0 k1 k2 ho
    go_wp2
    go_ret
    exact ⟨ret_bool HR.out.symm, H1.out⟩
  have e2 : (((m3 : Nat) : Int) == se) = true := by simpa using k2
  have n2 : (((m3 : Nat) : Int) != se) = false := by simpa using k2
  have HR := Lib.hid (show fitsB si sq sm se m1 m2 m3 = true from fits_yes ⟨ho, k0, k1, k2⟩)
  clear k0 k1 k2 ho
  go_wp2
  go_ret
  exact ⟨ret_bool HR.out.symm, H1.out⟩

set_option maxHeartbeats 1600000 in
set_option maxRecDepth 100000 in
theorem stRefEqual_any (A1 A2 A3 : Option Addr) (m1 m2 m3 c1 c2 c3 : Nat) (B1 B2 B3 : Option Addr) (n1 n2 n3 d1 d2 d3 : Nat) (x1 x2 x3 y1 y2 y3 : List Bool) (hm1 : m1 ≤ 1000000) (hm2 : m2 ≤ 1000000) (hm3 : m3 ≤ 1000000) (w : World)
    (hx1 : Im w A1 m1 c1 x1) (hx2 : Im w A2 m2 c2 x2) (hx3 : Im w A3 m3 c3 x3) (hy1 : Im w B1 n1 d1 y1) (hy2 : Im w B2 n2 d2 y2) (hy3 : Im w B3 n3 d3 y3) :
    Calls Try.prog 13 #[.agg #[.slice A1 m1 c1, .slice A2 m2 c2, .slice A3 m3 c3], .agg #[.slice B1 n1 d1, .slice B2 n2 d2, .slice B3 n3 d3]] w fun e w' => e = .returned (.bool (eqB x1 y1 && eqB x2 y2 && eqB x3 y3)) ∧ Nx w w' := by
  have E1 := Lib.hid (fun w' (k : Nx w w') => imRefEqual_any hm1 (hx1.nx k) (hy1.nx k))
  have E2 := Lib.hid (fun w' (k : Nx w w') => imRefEqual_any hm2 (hx2.nx k) (hy2.nx k))
  have E3 := Lib.hid (fun w' (k : Nx w w') => imRefEqual_any hm3 (hx3.nx k) (hy3.nx k))
  generalize eqB x1 y1 = b1 at *
  generalize eqB x2 y2 = b2 at *
  generalize eqB x3 y3 = b3 at *
  clear hx1 hx2 hx3 hy1 hy2 hy3
  have N0 := Lib.hid (show Nx w ((w.alloc (.cells #[.slice A1 m1 c1, .slice A2 m2 c2, .slice A3 m3 c3] 26)).alloc (.cells #[.slice B1 n1 d1, .slice B2 n2 d2, .slice B3 n3 d3] 26)) from (Nx.one _ _).alloc _)
  have XA := Lib.hid ((bx_new w 26 [.slice A1 m1 c1, .slice A2 m2 c2, .slice A3 m3 c3]).nx (Nx.one _ (.cells #[.slice B1 n1 d1, .slice B2 n2 d2, .slice B3 n3 d3] 26)))
  have XB := Lib.hid (bx_new (w.alloc (.cells #[.slice A1 m1 c1, .slice A2 m2 c2, .slice A3 m3 c3] 26)) 26 [.slice B1 n1 d1, .slice B2 n2 d2, .slice B3 n3 d3])
  rw [show (w.alloc (.cells #[.slice A1 m1 c1, .slice A2 m2 c2, .slice A3 m3 c3] 26)).heap.size = w.heap.size + 1 by simp] at XB
  go_enter Try.func13, Try.ntmps13
  go_wp2_with fail
  refine (E1.out _ N0.out).mono ?_
  rintro e w1 ⟨rfl, h1⟩
  have H1 := Lib.hid (N0.out.trans h1)
  have XA1 := Lib.hid (XA.out.nx h1)
  have XB1 := Lib.hid (XB.out.nx h1)
  clear h1
  cases b1
  · go_wp2
    go_ret
    exact ⟨rfl, H1.out⟩
  have a1 := XA1.out.cell 1 rfl
  have b1 := XB1.out.cell 1 rfl
  go_wp2_with fail
  refine (E2.out _ H1.out).mono ?_
  rintro e w2 ⟨rfl, h2⟩
  have H2 := Lib.hid (H1.out.trans h2)
  have a2 := (XA1.out.nx h2).cell 2 rfl
  have b2' := (XB1.out.nx h2).cell 2 rfl
  clear h2 a1 b1
  cases b2
  · go_wp2
    go_ret
    exact ⟨rfl, H2.out⟩
  go_wp2_with fail
  refine (E3.out _ H2.out).mono ?_
  rintro e w3 ⟨rfl, h3⟩
  have H3 := Lib.hid (H2.out.trans h3)
  clear h3 a2 b2'
  go_wp2
  go_ret
  exact ⟨by simp, H3.out⟩
end Go.Proofs.Ytndapcbjcannhaa
