/- What package state's Read returns, and the reference's. Conditions: images that read as lists of bools. -/
import Derived.Test.YtndapcbjcannhaaS7
import Derived.Deep.QuietTactic
import Derived.BigQuiet
namespace Go.Proofs.Ytndapcbjcannhaa
open Go.RowKit

/-- Bit n of an image, and the error's number. -/
def rdV (xs : List Bool) (n : Int) : Bool := if 0 ≤ n ∧ n < (xs.length : Int) then xs.getD n.toNat false else false
def rdE (xs : List Bool) (n : Int) : Int := if 0 ≤ n ∧ n < (xs.length : Int) then 0 else 3
def rdSV (i q m : List Bool) (k n : Int) : Bool := if k = 0 then rdV i n else if k = 1 then rdV q n else if k = 2 then rdV m n else false
def rdSE (i q m : List Bool) (k n : Int) : Int := if k = 0 then rdE i n else if k = 1 then rdE q n else if k = 2 then rdE m n else 8
theorem im_get {A : Option Addr} {m c : Nat} {xs : List Bool} (n : Int) (w : World) (h : Im w A m c xs) :
    Calls Try.prog 35 #[.slice A m c, .int .i64 n] w fun e w' => e = .returned (.tuple #[.bool (rdV xs n), .int .i64 (rdE xs n)]) ∧ w = w' := by
  obtain ⟨hr, hl, _⟩ := h
  unfold rdV rdE
  by_cases hn : 0 ≤ n ∧ n < (xs.length : Int)
  · rw [if_pos hn, if_pos hn]
    obtain ⟨b, hb⟩ := at_some xs n.toNat (by omega)
    have := get_ok A xs c n.toNat b hb w hr
    rw [Int.toNat_of_nonneg hn.1, hl] at this
    rwa [show xs.getD n.toNat false = b by simp [List.getD, hb]]
  · rw [if_neg hn, if_neg hn]
    exact get_no A m c n (by omega) w

theorem im_get' {A : Option Addr} {m c : Nat} {xs : List Bool} (n : Int) (w : World) (h : Im w A m c xs) :
    Calls Try.prog 35 #[.slice A m c, .int .i64 n] w fun e w' => e = .returned (.tuple #[.bool (rdV xs n), .int .i64 (rdE xs n)]) ∧ w' = w := (im_get n w h).mono fun _ _ h => ⟨h.1, h.2.symm⟩

theorem refGet_facts {w : World} {A : Option Addr} {m c : Nat} {xs : List Bool} (h : Im w A m c xs) (n : Int) (hn : 0 ≤ n ∧ n < (m : Int)) :
    ∃ (p : Nat) (b : Bool), n = (p : Int) ∧ p < m ∧ ∃ ad, A = some ad ∧ w.cell? (ad.add p) = some (.bool b) ∧ rdV xs (p : Int) = b ∧ rdE xs (p : Int) = 0 := by
  obtain ⟨hr, hl, _⟩ := h
  refine ⟨n.toNat, ?_⟩
  obtain ⟨b, hb⟩ := at_some xs n.toNat (by omega)
  obtain ⟨ad, hA, hc⟩ := hr n.toNat b hb
  have e : ((n.toNat : Nat) : Int) = n := Int.toNat_of_nonneg hn.1
  refine ⟨b, e.symm, by omega, ad, hA, hc, ?_, ?_⟩
  · unfold rdV; rw [e, if_pos (by omega)]; simp [List.getD, hb]
  · unfold rdE; rw [e, if_pos (by omega)]

set_option maxHeartbeats 1600000 in
set_option maxRecDepth 100000 in
theorem read_any (A0 : Option Addr) (m0 c0 : Nat) (A1 A2 A3 : Option Addr) (m1 m2 m3 c1 c2 c3 : Nat) (x0 x1 x2 : List Bool) (k n : Int) (w : World) (h0 : Im w A0 m0 c0 x0) (h1 : Im w A1 m1 c1 x1) (h2 : Im w A2 m2 c2 x2) :
    Calls Try.prog 19 #[.slice A0 m0 c0, .agg #[.slice A1 m1 c1, .slice A2 m2 c2, .slice A3 m3 c3], .agg #[.int .i64 k, .int .i64 n]] w fun e w' => e = .returned (.tuple #[.bool (rdSV x0 x1 x2 k n), .int .i64 (rdSE x0 x1 x2 k n)]) ∧ Nx w w' := by
  have I0 := Lib.hid h0
  have I1 := Lib.hid h1
  have I2 := Lib.hid h2
  clear h0 h1 h2
  by_cases hk : 0 ≤ k ∧ k < 3
  rotate_left
  · have HV := Lib.hid (show rdSV x0 x1 x2 k n = false by unfold rdSV; rw [if_neg (by omega), if_neg (by omega), if_neg (by omega)])
    have HE := Lib.hid (show rdSE x0 x1 x2 k n = 8 by unfold rdSE; rw [if_neg (by omega), if_neg (by omega), if_neg (by omega)])
    by_cases hz : k < 0
    · go_enter Try.func19, Try.ntmps19
      go_wp2
      go_ret2
      exact ⟨by rw [HV.out, HE.out]; rfl, (by repeat (first | exact Nx.refl _ | assumption | refine Nx.drewN ?_ _ | refine Nx.drew ?_ | refine Nx.alloc ?_ _ | refine Nx.set ?_ (by first | exact Nat.le_refl _ | (simp; done) | (simp; omega)) _))⟩
    · have h3 : ¬ k < 3 := by omega
      go_enter Try.func19, Try.ntmps19
      go_wp2
      go_ret2
      exact ⟨by rw [HV.out, HE.out]; rfl, (by repeat (first | exact Nx.refl _ | assumption | refine Nx.drewN ?_ _ | refine Nx.drew ?_ | refine Nx.alloc ?_ _ | refine Nx.set ?_ (by first | exact Nat.le_refl _ | (simp; done) | (simp; omega)) _))⟩
  have hk3 : k = 0 ∨ k = 1 ∨ k = 2 := by omega
  rcases hk3 with rfl | rfl | rfl
  · go_enter Try.func19, Try.ntmps19
    go_wp2
    go_quiet (first | (go_at_call 35; refine Calls.quiet_of_same (im_get' n _ (I0.out.nx (by repeat (first | exact Nx.refl _ | assumption | refine Nx.drewN ?_ _ | refine Nx.drew ?_ | refine Nx.alloc ?_ _ | refine Nx.set ?_ (by first | exact Nat.le_refl _ | (simp; done) | (simp; omega)) _))))))
    go_wp2
    go_ret2
    exact ⟨rfl, (by repeat (first | exact Nx.refl _ | assumption | refine Nx.drewN ?_ _ | refine Nx.drew ?_ | refine Nx.alloc ?_ _ | refine Nx.set ?_ (by first | exact Nat.le_refl _ | (simp; done) | (simp; omega)) _))⟩
  · go_enter Try.func19, Try.ntmps19
    go_wp2
    go_quiet (first | (go_at_call 35; refine Calls.quiet_of_same (im_get' n _ (I1.out.nx (by repeat (first | exact Nx.refl _ | assumption | refine Nx.drewN ?_ _ | refine Nx.drew ?_ | refine Nx.alloc ?_ _ | refine Nx.set ?_ (by first | exact Nat.le_refl _ | (simp; done) | (simp; omega)) _))))))
    go_wp2
    go_ret2
    exact ⟨rfl, (by repeat (first | exact Nx.refl _ | assumption | refine Nx.drewN ?_ _ | refine Nx.drew ?_ | refine Nx.alloc ?_ _ | refine Nx.set ?_ (by first | exact Nat.le_refl _ | (simp; done) | (simp; omega)) _))⟩
  · go_enter Try.func19, Try.ntmps19
    go_wp2
    go_quiet (first | (go_at_call 35; refine Calls.quiet_of_same (im_get' n _ (I2.out.nx (by repeat (first | exact Nx.refl _ | assumption | refine Nx.drewN ?_ _ | refine Nx.drew ?_ | refine Nx.alloc ?_ _ | refine Nx.set ?_ (by first | exact Nat.le_refl _ | (simp; done) | (simp; omega)) _))))))
    go_wp2
    go_ret2
    exact ⟨rfl, (by repeat (first | exact Nx.refl _ | assumption | refine Nx.drewN ?_ _ | refine Nx.drew ?_ | refine Nx.alloc ?_ _ | refine Nx.set ?_ (by first | exact Nat.le_refl _ | (simp; done) | (simp; omega)) _))⟩
set_option maxHeartbeats 1600000 in
set_option maxRecDepth 100000 in
theorem refRead_any (A0 : Option Addr) (m0 c0 : Nat) (A1 A2 A3 : Option Addr) (m1 m2 m3 c1 c2 c3 : Nat) (x0 x1 x2 : List Bool) (k n : Int) (w : World) (h0 : Im w A0 m0 c0 x0) (h1 : Im w A1 m1 c1 x1) (h2 : Im w A2 m2 c2 x2) :
    Calls Try.prog 20 #[.slice A0 m0 c0, .agg #[.slice A1 m1 c1, .slice A2 m2 c2, .slice A3 m3 c3], .agg #[.int .i64 k, .int .i64 n]] w fun e w' => e = .returned (.tuple #[.bool (rdSV x0 x1 x2 k n), .int .i64 (rdSE x0 x1 x2 k n)]) ∧ Nx w w' := by
  have I0 := Lib.hid h0
  have I1 := Lib.hid h1
  have I2 := Lib.hid h2
  clear h0 h1 h2
  by_cases hk : 0 ≤ k ∧ k < 3
  rotate_left
  · have HV := Lib.hid (show rdSV x0 x1 x2 k n = false by unfold rdSV; rw [if_neg (by omega), if_neg (by omega), if_neg (by omega)])
    have HE := Lib.hid (show rdSE x0 x1 x2 k n = 8 by unfold rdSE; rw [if_neg (by omega), if_neg (by omega), if_neg (by omega)])
    have t0 : (k == 0) = false := by rw [beq_eq_false_iff_ne]; omega
    have t1 : (k == 1) = false := by rw [beq_eq_false_iff_ne]; omega
    have t2 : (k == 2) = false := by rw [beq_eq_false_iff_ne]; omega
    clear hk
    go_enter Try.func20, Try.ntmps20
    go_wp2
    go_ret2
    exact ⟨by rw [HV.out, HE.out]; rfl, (by repeat (first | exact Nx.refl _ | assumption | refine Nx.drewN ?_ _ | refine Nx.drew ?_ | refine Nx.alloc ?_ _ | refine Nx.set ?_ (by first | exact Nat.le_refl _ | (simp; done) | (simp; omega)) _))⟩
  have hk3 : k = 0 ∨ k = 1 ∨ k = 2 := by omega
  have R0 := Lib.hid (refGet_facts I0.out n)
  have R1 := Lib.hid (refGet_facts I1.out n)
  have R2 := Lib.hid (refGet_facts I2.out n)
  rcases hk3 with rfl | rfl | rfl
  · by_cases a0 : n < 0
    · have HV := Lib.hid (show rdV x0 n = false by unfold rdV; rw [if_neg (by omega)])
      have HE := Lib.hid (show rdE x0 n = 3 by unfold rdE; rw [if_neg (by omega)])
      go_enter Try.func20, Try.ntmps20
      go_wp2
      go_ret2
      exact ⟨by show Ending.returned (.tuple #[.bool false, .int .i64 3]) = Ending.returned (.tuple #[.bool (rdV x0 n), .int .i64 (rdE x0 n)]); rw [HV.out, HE.out], (by repeat (first | exact Nx.refl _ | assumption | refine Nx.drewN ?_ _ | refine Nx.drew ?_ | refine Nx.alloc ?_ _ | refine Nx.set ?_ (by first | exact Nat.le_refl _ | (simp; done) | (simp; omega)) _))⟩
    by_cases a1 : n < (m0 : Int)
    · obtain ⟨p, b, rfl, hp, ad, rfl, hc, hv, he⟩ := R0.out ⟨by omega, a1⟩
      have HV := Lib.hid hv
      have HE := Lib.hid he
      have HC := Lib.hid hc
      have hc1 := (Nx.cell (w' := (w.alloc (.cells #[.slice A1 m1 c1, .slice A2 m2 c2, .slice A3 m3 c3] 26)).alloc (.cells #[.int .i64 0, .int .i64 (p : Nat)] 40)) (by repeat (first | exact Nx.refl _ | assumption | refine Nx.drewN ?_ _ | refine Nx.drew ?_ | refine Nx.alloc ?_ _ | refine Nx.set ?_ (by first | exact Nat.le_refl _ | (simp; done) | (simp; omega)) _)) hc)
      clear hv he hc R0 R1 R2 hk
      go_enter Try.func20, Try.ntmps20
      go_wp2
      go_ret2
      exact ⟨by show Ending.returned (.tuple #[.bool b, .int .i64 0]) = Ending.returned (.tuple #[.bool (rdV x0 (p : Int)), .int .i64 (rdE x0 (p : Int))]); rw [HV.out, HE.out], (by repeat (first | exact Nx.refl _ | assumption | refine Nx.drewN ?_ _ | refine Nx.drew ?_ | refine Nx.alloc ?_ _ | refine Nx.set ?_ (by first | exact Nat.le_refl _ | (simp; done) | (simp; omega)) _))⟩
    · have HV := Lib.hid (show rdV x0 n = false by unfold rdV; rw [if_neg (by have := I0.out.2.1; omega)])
      have HE := Lib.hid (show rdE x0 n = 3 by unfold rdE; rw [if_neg (by have := I0.out.2.1; omega)])
      go_enter Try.func20, Try.ntmps20
      go_wp2
      go_ret2
      exact ⟨by show Ending.returned (.tuple #[.bool false, .int .i64 3]) = Ending.returned (.tuple #[.bool (rdV x0 n), .int .i64 (rdE x0 n)]); rw [HV.out, HE.out], (by repeat (first | exact Nx.refl _ | assumption | refine Nx.drewN ?_ _ | refine Nx.drew ?_ | refine Nx.alloc ?_ _ | refine Nx.set ?_ (by first | exact Nat.le_refl _ | (simp; done) | (simp; omega)) _))⟩
  · by_cases a0 : n < 0
    · have HV := Lib.hid (show rdV x1 n = false by unfold rdV; rw [if_neg (by omega)])
      have HE := Lib.hid (show rdE x1 n = 3 by unfold rdE; rw [if_neg (by omega)])
      go_enter Try.func20, Try.ntmps20
      go_wp2
      go_ret2
      exact ⟨by show Ending.returned (.tuple #[.bool false, .int .i64 3]) = Ending.returned (.tuple #[.bool (rdV x1 n), .int .i64 (rdE x1 n)]); rw [HV.out, HE.out], (by repeat (first | exact Nx.refl _ | assumption | refine Nx.drewN ?_ _ | refine Nx.drew ?_ | refine Nx.alloc ?_ _ | refine Nx.set ?_ (by first | exact Nat.le_refl _ | (simp; done) | (simp; omega)) _))⟩
    by_cases a1 : n < (m1 : Int)
    · obtain ⟨p, b, rfl, hp, ad, rfl, hc, hv, he⟩ := R1.out ⟨by omega, a1⟩
      have HV := Lib.hid hv
      have HE := Lib.hid he
      have HC := Lib.hid hc
      have hc1 := (Nx.cell (w' := (w.alloc (.cells #[.slice (some ad) m1 c1, .slice A2 m2 c2, .slice A3 m3 c3] 26)).alloc (.cells #[.int .i64 1, .int .i64 (p : Nat)] 40)) (by repeat (first | exact Nx.refl _ | assumption | refine Nx.drewN ?_ _ | refine Nx.drew ?_ | refine Nx.alloc ?_ _ | refine Nx.set ?_ (by first | exact Nat.le_refl _ | (simp; done) | (simp; omega)) _)) hc)
      clear hv he hc R0 R1 R2 hk
      go_enter Try.func20, Try.ntmps20
      go_wp2
      go_ret2
      exact ⟨by show Ending.returned (.tuple #[.bool b, .int .i64 0]) = Ending.returned (.tuple #[.bool (rdV x1 (p : Int)), .int .i64 (rdE x1 (p : Int))]); rw [HV.out, HE.out], (by repeat (first | exact Nx.refl _ | assumption | refine Nx.drewN ?_ _ | refine Nx.drew ?_ | refine Nx.alloc ?_ _ | refine Nx.set ?_ (by first | exact Nat.le_refl _ | (simp; done) | (simp; omega)) _))⟩
    · have HV := Lib.hid (show rdV x1 n = false by unfold rdV; rw [if_neg (by have := I1.out.2.1; omega)])
      have HE := Lib.hid (show rdE x1 n = 3 by unfold rdE; rw [if_neg (by have := I1.out.2.1; omega)])
      go_enter Try.func20, Try.ntmps20
      go_wp2
      go_ret2
      exact ⟨by show Ending.returned (.tuple #[.bool false, .int .i64 3]) = Ending.returned (.tuple #[.bool (rdV x1 n), .int .i64 (rdE x1 n)]); rw [HV.out, HE.out], (by repeat (first | exact Nx.refl _ | assumption | refine Nx.drewN ?_ _ | refine Nx.drew ?_ | refine Nx.alloc ?_ _ | refine Nx.set ?_ (by first | exact Nat.le_refl _ | (simp; done) | (simp; omega)) _))⟩
  · by_cases a0 : n < 0
    · have HV := Lib.hid (show rdV x2 n = false by unfold rdV; rw [if_neg (by omega)])
      have HE := Lib.hid (show rdE x2 n = 3 by unfold rdE; rw [if_neg (by omega)])
      go_enter Try.func20, Try.ntmps20
      go_wp2
      go_ret2
      exact ⟨by show Ending.returned (.tuple #[.bool false, .int .i64 3]) = Ending.returned (.tuple #[.bool (rdV x2 n), .int .i64 (rdE x2 n)]); rw [HV.out, HE.out], (by repeat (first | exact Nx.refl _ | assumption | refine Nx.drewN ?_ _ | refine Nx.drew ?_ | refine Nx.alloc ?_ _ | refine Nx.set ?_ (by first | exact Nat.le_refl _ | (simp; done) | (simp; omega)) _))⟩
    by_cases a1 : n < (m2 : Int)
    · obtain ⟨p, b, rfl, hp, ad, rfl, hc, hv, he⟩ := R2.out ⟨by omega, a1⟩
      have HV := Lib.hid hv
      have HE := Lib.hid he
      have HC := Lib.hid hc
      have hc1 := (Nx.cell (w' := (w.alloc (.cells #[.slice A1 m1 c1, .slice (some ad) m2 c2, .slice A3 m3 c3] 26)).alloc (.cells #[.int .i64 2, .int .i64 (p : Nat)] 40)) (by repeat (first | exact Nx.refl _ | assumption | refine Nx.drewN ?_ _ | refine Nx.drew ?_ | refine Nx.alloc ?_ _ | refine Nx.set ?_ (by first | exact Nat.le_refl _ | (simp; done) | (simp; omega)) _)) hc)
      clear hv he hc R0 R1 R2 hk
      go_enter Try.func20, Try.ntmps20
      go_wp2
      go_ret2
      exact ⟨by show Ending.returned (.tuple #[.bool b, .int .i64 0]) = Ending.returned (.tuple #[.bool (rdV x2 (p : Int)), .int .i64 (rdE x2 (p : Int))]); rw [HV.out, HE.out], (by repeat (first | exact Nx.refl _ | assumption | refine Nx.drewN ?_ _ | refine Nx.drew ?_ | refine Nx.alloc ?_ _ | refine Nx.set ?_ (by first | exact Nat.le_refl _ | (simp; done) | (simp; omega)) _))⟩
    · have HV := Lib.hid (show rdV x2 n = false by unfold rdV; rw [if_neg (by have := I2.out.2.1; omega)])
      have HE := Lib.hid (show rdE x2 n = 3 by unfold rdE; rw [if_neg (by have := I2.out.2.1; omega)])
      go_enter Try.func20, Try.ntmps20
      go_wp2
      go_ret2
      exact ⟨by show Ending.returned (.tuple #[.bool false, .int .i64 3]) = Ending.returned (.tuple #[.bool (rdV x2 n), .int .i64 (rdE x2 n)]); rw [HV.out, HE.out], (by repeat (first | exact Nx.refl _ | assumption | refine Nx.drewN ?_ _ | refine Nx.drew ?_ | refine Nx.alloc ?_ _ | refine Nx.set ?_ (by first | exact Nat.le_refl _ | (simp; done) | (simp; omega)) _))⟩
end Go.Proofs.Ytndapcbjcannhaa
