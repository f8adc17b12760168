/- What TooLarge returns. Conditions: none but that the slice's cells are there. -/
import Derived.Test.YtndapcbjcannhaaS12
namespace Go.Proofs.Ytndapcbjcannhaa
open Go.RowKit

/-- Are all three small? -/
def sm (m1 m2 m3 : Nat) : Prop := m1 ≤ 1000 ∧ m2 ≤ 1000 ∧ m3 ≤ 1000
set_option maxHeartbeats 1600000 in
set_option maxRecDepth 100000 in
theorem large1_no (g : Nat) (A1 A2 A3 : Option Addr) (m1 m2 m3 c1 c2 c3 : Nat) (h : sm m1 m2 m3) (w : World) (hb : Bx w g 26 [.slice A1 m1 c1, .slice A2 m2 c2, .slice A3 m3 c3]) : Calls Try.prog 8 #[.slice (some ⟨g, 0, none⟩) 1 1] w fun e w' => e = .returned (.int .i64 0) ∧ Nx w w' := by
  have XB := Lib.hid hb
  clear hb
  obtain ⟨h1, h2, h3⟩ := h
  have t0 : ¬ (1000 : Int) < (m1 : Int) := by omega
  have t1 : ¬ (1000 : Int) < (m2 : Int) := by omega
  have t2 : ¬ (1000 : Int) < (m3 : Int) := by omega
  have e0 := XB.out.cell 0 rfl
  have e1 := XB.out.cell 1 rfl
  have e2 := XB.out.cell 2 rfl
  clear XB
  go_enter Try.func8, Try.ntmps8
  go_wp2_with fail
  refine wp_loop_rounds 2 ?_
  rw [rounds_succ]
  go_wp2
  rw [rounds_succ]
  go_wp2
  go_ret
  exact ⟨rfl, (by repeat (first | exact Nx.refl _ | assumption | refine Nx.drewN ?_ _ | refine Nx.drew ?_ | refine Nx.alloc ?_ _ | refine Nx.set ?_ (by first | exact Nat.le_refl _ | (simp; done) | (simp; omega)) _))⟩

set_option maxHeartbeats 1600000 in
set_option maxRecDepth 100000 in
theorem large1_yes (g : Nat) (A1 A2 A3 : Option Addr) (m1 m2 m3 c1 c2 c3 : Nat) (h : ¬ sm m1 m2 m3) (w : World) (hb : Bx w g 26 [.slice A1 m1 c1, .slice A2 m2 c2, .slice A3 m3 c3]) : Calls Try.prog 8 #[.slice (some ⟨g, 0, none⟩) 1 1] w fun e w' => e = .returned (.int .i64 1) ∧ Nx w w' := by
  have XB := Lib.hid hb
  clear hb
  by_cases b0 : 1000 < m1
  · have t0 : (1000 : Int) < (m1 : Int) := by omega
    have e0 := XB.out.cell 0 rfl
    have e1 := XB.out.cell 1 rfl
    have e2 := XB.out.cell 2 rfl
    clear XB h
    go_enter Try.func8, Try.ntmps8
    go_wp2_with fail
    refine wp_loop_rounds 2 ?_
    rw [rounds_succ]
    go_wp2
    go_ret
    exact ⟨rfl, (by repeat (first | exact Nx.refl _ | assumption | refine Nx.drewN ?_ _ | refine Nx.drew ?_ | refine Nx.alloc ?_ _ | refine Nx.set ?_ (by first | exact Nat.le_refl _ | (simp; done) | (simp; omega)) _))⟩
  by_cases b1 : 1000 < m2
  · have t0 : ¬ (1000 : Int) < (m1 : Int) := by omega
    have t1 : (1000 : Int) < (m2 : Int) := by omega
    have e0 := XB.out.cell 0 rfl
    have e1 := XB.out.cell 1 rfl
    have e2 := XB.out.cell 2 rfl
    clear XB h
    go_enter Try.func8, Try.ntmps8
    go_wp2_with fail
    refine wp_loop_rounds 2 ?_
    rw [rounds_succ]
    go_wp2
    go_ret
    exact ⟨rfl, (by repeat (first | exact Nx.refl _ | assumption | refine Nx.drewN ?_ _ | refine Nx.drew ?_ | refine Nx.alloc ?_ _ | refine Nx.set ?_ (by first | exact Nat.le_refl _ | (simp; done) | (simp; omega)) _))⟩
  have b2 : 1000 < m3 := by unfold sm at h; omega
  have t0 : ¬ (1000 : Int) < (m1 : Int) := by omega
  have t1 : ¬ (1000 : Int) < (m2 : Int) := by omega
  have t2 : (1000 : Int) < (m3 : Int) := by omega
  have e0 := XB.out.cell 0 rfl
  have e1 := XB.out.cell 1 rfl
  have e2 := XB.out.cell 2 rfl
  clear XB h
  go_enter Try.func8, Try.ntmps8
  go_wp2_with fail
  refine wp_loop_rounds 2 ?_
  rw [rounds_succ]
  go_wp2
  go_ret
  exact ⟨rfl, (by repeat (first | exact Nx.refl _ | assumption | refine Nx.drewN ?_ _ | refine Nx.drew ?_ | refine Nx.alloc ?_ _ | refine Nx.set ?_ (by first | exact Nat.le_refl _ | (simp; done) | (simp; omega)) _))⟩

set_option maxHeartbeats 1600000 in
set_option maxRecDepth 100000 in
theorem large2_no (g : Nat) (A1 A2 A3 : Option Addr) (m1 m2 m3 c1 c2 c3 : Nat) (B1 B2 B3 : Option Addr) (n1 n2 n3 d1 d2 d3 : Nat) (h : sm m1 m2 m3 ∧ sm n1 n2 n3) (w : World) (hb : Bx w g 26 [.slice A1 m1 c1, .slice A2 m2 c2, .slice A3 m3 c3, .slice B1 n1 d1, .slice B2 n2 d2, .slice B3 n3 d3]) : Calls Try.prog 8 #[.slice (some ⟨g, 0, none⟩) 2 2] w fun e w' => e = .returned (.int .i64 0) ∧ Nx w w' := by
  have XB := Lib.hid hb
  clear hb
  obtain ⟨⟨h1, h2, h3⟩, ⟨h4, h5, h6⟩⟩ := h
  have t0 : ¬ (1000 : Int) < (m1 : Int) := by omega
  have t1 : ¬ (1000 : Int) < (m2 : Int) := by omega
  have t2 : ¬ (1000 : Int) < (m3 : Int) := by omega
  have t3 : ¬ (1000 : Int) < (n1 : Int) := by omega
  have t4 : ¬ (1000 : Int) < (n2 : Int) := by omega
  have t5 : ¬ (1000 : Int) < (n3 : Int) := by omega
  have e0 := XB.out.cell 0 rfl
  have e1 := XB.out.cell 1 rfl
  have e2 := XB.out.cell 2 rfl
  have e3 := XB.out.cell 3 rfl
  have e4 := XB.out.cell 4 rfl
  have e5 := XB.out.cell 5 rfl
  have f3 := (XB.out.nx (Nx.one w (.cells #[.slice A1 m1 c1, .slice A2 m2 c2, .slice A3 m3 c3] 26))).cell 3 rfl
  have f4 := (XB.out.nx (Nx.one w (.cells #[.slice A1 m1 c1, .slice A2 m2 c2, .slice A3 m3 c3] 26))).cell 4 rfl
  have f5 := (XB.out.nx (Nx.one w (.cells #[.slice A1 m1 c1, .slice A2 m2 c2, .slice A3 m3 c3] 26))).cell 5 rfl
  clear XB
  go_enter Try.func8, Try.ntmps8
  go_wp2_with fail
  refine wp_loop_rounds 3 ?_
  rw [rounds_succ]
  go_wp2
  rw [rounds_succ]
  go_wp2
  rw [rounds_succ]
  go_wp2
  go_ret
  exact ⟨rfl, (by repeat (first | exact Nx.refl _ | assumption | refine Nx.drewN ?_ _ | refine Nx.drew ?_ | refine Nx.alloc ?_ _ | refine Nx.set ?_ (by first | exact Nat.le_refl _ | (simp; done) | (simp; omega)) _))⟩

set_option maxHeartbeats 1600000 in
set_option maxRecDepth 100000 in
theorem large2_yes (g : Nat) (A1 A2 A3 : Option Addr) (m1 m2 m3 c1 c2 c3 : Nat) (B1 B2 B3 : Option Addr) (n1 n2 n3 d1 d2 d3 : Nat) (h : ¬ (sm m1 m2 m3 ∧ sm n1 n2 n3)) (w : World) (hb : Bx w g 26 [.slice A1 m1 c1, .slice A2 m2 c2, .slice A3 m3 c3, .slice B1 n1 d1, .slice B2 n2 d2, .slice B3 n3 d3]) : Calls Try.prog 8 #[.slice (some ⟨g, 0, none⟩) 2 2] w fun e w' => e = .returned (.int .i64 1) ∧ Nx w w' := by
  have XB := Lib.hid hb
  clear hb
  by_cases b0 : 1000 < m1
  · have t0 : (1000 : Int) < (m1 : Int) := by omega
    have e0 := XB.out.cell 0 rfl
    have e1 := XB.out.cell 1 rfl
    have e2 := XB.out.cell 2 rfl
    have e3 := XB.out.cell 3 rfl
    have e4 := XB.out.cell 4 rfl
    have e5 := XB.out.cell 5 rfl
    have f3 := (XB.out.nx (Nx.one w (.cells #[.slice A1 m1 c1, .slice A2 m2 c2, .slice A3 m3 c3] 26))).cell 3 rfl
    have f4 := (XB.out.nx (Nx.one w (.cells #[.slice A1 m1 c1, .slice A2 m2 c2, .slice A3 m3 c3] 26))).cell 4 rfl
    have f5 := (XB.out.nx (Nx.one w (.cells #[.slice A1 m1 c1, .slice A2 m2 c2, .slice A3 m3 c3] 26))).cell 5 rfl
    clear XB h
    go_enter Try.func8, Try.ntmps8
    go_wp2_with fail
    refine wp_loop_rounds 3 ?_
    rw [rounds_succ]
    go_wp2
    go_ret
    exact ⟨rfl, (by repeat (first | exact Nx.refl _ | assumption | refine Nx.drewN ?_ _ | refine Nx.drew ?_ | refine Nx.alloc ?_ _ | refine Nx.set ?_ (by first | exact Nat.le_refl _ | (simp; done) | (simp; omega)) _))⟩
  by_cases b1 : 1000 < m2
  · have t0 : ¬ (1000 : Int) < (m1 : Int) := by omega
    have t1 : (1000 : Int) < (m2 : Int) := by omega
    have e0 := XB.out.cell 0 rfl
    have e1 := XB.out.cell 1 rfl
    have e2 := XB.out.cell 2 rfl
    have e3 := XB.out.cell 3 rfl
    have e4 := XB.out.cell 4 rfl
    have e5 := XB.out.cell 5 rfl
    have f3 := (XB.out.nx (Nx.one w (.cells #[.slice A1 m1 c1, .slice A2 m2 c2, .slice A3 m3 c3] 26))).cell 3 rfl
    have f4 := (XB.out.nx (Nx.one w (.cells #[.slice A1 m1 c1, .slice A2 m2 c2, .slice A3 m3 c3] 26))).cell 4 rfl
    have f5 := (XB.out.nx (Nx.one w (.cells #[.slice A1 m1 c1, .slice A2 m2 c2, .slice A3 m3 c3] 26))).cell 5 rfl
    clear XB h
    go_enter Try.func8, Try.ntmps8
    go_wp2_with fail
    refine wp_loop_rounds 3 ?_
    rw [rounds_succ]
    go_wp2
    go_ret
    exact ⟨rfl, (by repeat (first | exact Nx.refl _ | assumption | refine Nx.drewN ?_ _ | refine Nx.drew ?_ | refine Nx.alloc ?_ _ | refine Nx.set ?_ (by first | exact Nat.le_refl _ | (simp; done) | (simp; omega)) _))⟩
  by_cases b2 : 1000 < m3
  · have t0 : ¬ (1000 : Int) < (m1 : Int) := by omega
    have t1 : ¬ (1000 : Int) < (m2 : Int) := by omega
    have t2 : (1000 : Int) < (m3 : Int) := by omega
    have e0 := XB.out.cell 0 rfl
    have e1 := XB.out.cell 1 rfl
    have e2 := XB.out.cell 2 rfl
    have e3 := XB.out.cell 3 rfl
    have e4 := XB.out.cell 4 rfl
    have e5 := XB.out.cell 5 rfl
    have f3 := (XB.out.nx (Nx.one w (.cells #[.slice A1 m1 c1, .slice A2 m2 c2, .slice A3 m3 c3] 26))).cell 3 rfl
    have f4 := (XB.out.nx (Nx.one w (.cells #[.slice A1 m1 c1, .slice A2 m2 c2, .slice A3 m3 c3] 26))).cell 4 rfl
    have f5 := (XB.out.nx (Nx.one w (.cells #[.slice A1 m1 c1, .slice A2 m2 c2, .slice A3 m3 c3] 26))).cell 5 rfl
    clear XB h
    go_enter Try.func8, Try.ntmps8
    go_wp2_with fail
    refine wp_loop_rounds 3 ?_
    rw [rounds_succ]
    go_wp2
    go_ret
    exact ⟨rfl, (by repeat (first | exact Nx.refl _ | assumption | refine Nx.drewN ?_ _ | refine Nx.drew ?_ | refine Nx.alloc ?_ _ | refine Nx.set ?_ (by first | exact Nat.le_refl _ | (simp; done) | (simp; omega)) _))⟩
  by_cases b3 : 1000 < n1
  · have t0 : ¬ (1000 : Int) < (m1 : Int) := by omega
    have t1 : ¬ (1000 : Int) < (m2 : Int) := by omega
    have t2 : ¬ (1000 : Int) < (m3 : Int) := by omega
    have t3 : (1000 : Int) < (n1 : Int) := by omega
    have e0 := XB.out.cell 0 rfl
    have e1 := XB.out.cell 1 rfl
    have e2 := XB.out.cell 2 rfl
    have e3 := XB.out.cell 3 rfl
    have e4 := XB.out.cell 4 rfl
    have e5 := XB.out.cell 5 rfl
    have f3 := (XB.out.nx (Nx.one w (.cells #[.slice A1 m1 c1, .slice A2 m2 c2, .slice A3 m3 c3] 26))).cell 3 rfl
    have f4 := (XB.out.nx (Nx.one w (.cells #[.slice A1 m1 c1, .slice A2 m2 c2, .slice A3 m3 c3] 26))).cell 4 rfl
    have f5 := (XB.out.nx (Nx.one w (.cells #[.slice A1 m1 c1, .slice A2 m2 c2, .slice A3 m3 c3] 26))).cell 5 rfl
    clear XB h
    go_enter Try.func8, Try.ntmps8
    go_wp2_with fail
    refine wp_loop_rounds 3 ?_
    rw [rounds_succ]
    go_wp2
    rw [rounds_succ]
    go_wp2
    go_ret
    exact ⟨rfl, (by repeat (first | exact Nx.refl _ | assumption | refine Nx.drewN ?_ _ | refine Nx.drew ?_ | refine Nx.alloc ?_ _ | refine Nx.set ?_ (by first | exact Nat.le_refl _ | (simp; done) | (simp; omega)) _))⟩
  by_cases b4 : 1000 < n2
  · have t0 : ¬ (1000 : Int) < (m1 : Int) := by omega
    have t1 : ¬ (1000 : Int) < (m2 : Int) := by omega
    have t2 : ¬ (1000 : Int) < (m3 : Int) := by omega
    have t3 : ¬ (1000 : Int) < (n1 : Int) := by omega
    have t4 : (1000 : Int) < (n2 : Int) := by omega
    have e0 := XB.out.cell 0 rfl
    have e1 := XB.out.cell 1 rfl
    have e2 := XB.out.cell 2 rfl
    have e3 := XB.out.cell 3 rfl
    have e4 := XB.out.cell 4 rfl
    have e5 := XB.out.cell 5 rfl
    have f3 := (XB.out.nx (Nx.one w (.cells #[.slice A1 m1 c1, .slice A2 m2 c2, .slice A3 m3 c3] 26))).cell 3 rfl
    have f4 := (XB.out.nx (Nx.one w (.cells #[.slice A1 m1 c1, .slice A2 m2 c2, .slice A3 m3 c3] 26))).cell 4 rfl
    have f5 := (XB.out.nx (Nx.one w (.cells #[.slice A1 m1 c1, .slice A2 m2 c2, .slice A3 m3 c3] 26))).cell 5 rfl
    clear XB h
    go_enter Try.func8, Try.ntmps8
    go_wp2_with fail
    refine wp_loop_rounds 3 ?_
    rw [rounds_succ]
    go_wp2
    rw [rounds_succ]
    go_wp2
    go_ret
    exact ⟨rfl, (by repeat (first | exact Nx.refl _ | assumption | refine Nx.drewN ?_ _ | refine Nx.drew ?_ | refine Nx.alloc ?_ _ | refine Nx.set ?_ (by first | exact Nat.le_refl _ | (simp; done) | (simp; omega)) _))⟩
  have b5 : 1000 < n3 := by unfold sm at h; omega
  have t0 : ¬ (1000 : Int) < (m1 : Int) := by omega
  have t1 : ¬ (1000 : Int) < (m2 : Int) := by omega
  have t2 : ¬ (1000 : Int) < (m3 : Int) := by omega
  have t3 : ¬ (1000 : Int) < (n1 : Int) := by omega
  have t4 : ¬ (1000 : Int) < (n2 : Int) := by omega
  have t5 : (1000 : Int) < (n3 : Int) := by omega
  have e0 := XB.out.cell 0 rfl
  have e1 := XB.out.cell 1 rfl
  have e2 := XB.out.cell 2 rfl
  have e3 := XB.out.cell 3 rfl
  have e4 := XB.out.cell 4 rfl
  have e5 := XB.out.cell 5 rfl
  have f3 := (XB.out.nx (Nx.one w (.cells #[.slice A1 m1 c1, .slice A2 m2 c2, .slice A3 m3 c3] 26))).cell 3 rfl
  have f4 := (XB.out.nx (Nx.one w (.cells #[.slice A1 m1 c1, .slice A2 m2 c2, .slice A3 m3 c3] 26))).cell 4 rfl
  have f5 := (XB.out.nx (Nx.one w (.cells #[.slice A1 m1 c1, .slice A2 m2 c2, .slice A3 m3 c3] 26))).cell 5 rfl
  clear XB h
  go_enter Try.func8, Try.ntmps8
  go_wp2_with fail
  refine wp_loop_rounds 3 ?_
  rw [rounds_succ]
  go_wp2
  rw [rounds_succ]
  go_wp2
  go_ret
  exact ⟨rfl, (by repeat (first | exact Nx.refl _ | assumption | refine Nx.drewN ?_ _ | refine Nx.drew ?_ | refine Nx.alloc ?_ _ | refine Nx.set ?_ (by first | exact Nat.le_refl _ | (simp; done) | (simp; omega)) _))⟩

end Go.Proofs.Ytndapcbjcannhaa
