/- What package state's Write returns, all cases. Conditions: images that read as lists of bools, of at most a million. -/
import Derived.Test.YtndapcbjcannhaaS10
namespace Go.Proofs.Ytndapcbjcannhaa
open Go.RowKit

theorem write_any (A1 A2 A3 : Option Addr) (m1 m2 m3 c1 c2 c3 : Nat) (x1 x2 x3 : List Bool) (k n : Int) (v : Bool) (hm1 : m1 ≤ 1000000) (hm2 : m2 ≤ 1000000) (hm3 : m3 ≤ 1000000) (w : World)
    (hx1 : Im w A1 m1 c1 x1) (hx2 : Im w A2 m2 c2 x2) (hx3 : Im w A3 m3 c3 x3) :
    Calls Try.prog 21 #[.agg #[.slice A1 m1 c1, .slice A2 m2 c2, .slice A3 m3 c3], .agg #[.int .i64 k, .int .i64 n], .bool v] w (WrP m1 m2 m3 x1 x2 x3 k n v w) := by
  unfold WrP
  by_cases k1 : k = 1
  · subst k1
    by_cases hn : 0 ≤ n ∧ n < (m1 : Int)
    · have e : wrE x1 x2 1 n = 0 := by unfold wrE rdE; rw [if_pos rfl, if_pos (by rw [hx1.2.1]; exact hn)]
      have hp : ((n.toNat : Nat) : Int) = n := Int.toNat_of_nonneg hn.1
      have := write_ok1 A1 A2 A3 m1 m2 m3 c1 c2 c3 x1 x2 x3 n.toNat v (by omega) hm1 hm2 hm3 w hx1 hx2 hx3
      rw [hp] at this
      refine this.mono ?_
      rintro en w' ⟨s, rfl, h1, h2⟩
      rw [e, show wrQ x1 1 n v = x1.set n.toNat v from if_pos rfl, show wrM x2 1 n v = x2 from if_neg (by decide)]
      exact ⟨fun h => absurd rfl h, fun _ => ⟨s, rfl, h1⟩, h2⟩
    · have e : wrE x1 x2 1 n = 3 := by unfold wrE rdE; rw [if_pos rfl, if_neg (by rw [hx1.2.1]; exact hn)]
      refine (write_no1 A1 A2 A3 m1 m2 m3 c1 c2 c3 n v hn w).mono ?_
      rintro en w' ⟨rfl, h2⟩
      rw [e]
      exact ⟨fun _ => rfl, fun h => by omega, h2⟩
  by_cases k2 : k = 2
  · subst k2
    by_cases hn : 0 ≤ n ∧ n < (m2 : Int)
    · have e : wrE x1 x2 2 n = 0 := by unfold wrE rdE; rw [if_neg (by decide), if_pos rfl, if_pos (by rw [hx2.2.1]; exact hn)]
      have hp : ((n.toNat : Nat) : Int) = n := Int.toNat_of_nonneg hn.1
      have := write_ok2 A1 A2 A3 m1 m2 m3 c1 c2 c3 x1 x2 x3 n.toNat v (by omega) hm1 hm2 hm3 w hx1 hx2 hx3
      rw [hp] at this
      refine this.mono ?_
      rintro en w' ⟨s, rfl, h1, h2⟩
      rw [e, show wrQ x1 2 n v = x1 from if_neg (by decide), show wrM x2 2 n v = x2.set n.toNat v from if_pos rfl]
      exact ⟨fun h => absurd rfl h, fun _ => ⟨s, rfl, h1⟩, h2⟩
    · have e : wrE x1 x2 2 n = 3 := by unfold wrE rdE; rw [if_neg (by decide), if_pos rfl, if_neg (by rw [hx2.2.1]; exact hn)]
      refine (write_no2 A1 A2 A3 m1 m2 m3 c1 c2 c3 n v hn w).mono ?_
      rintro en w' ⟨rfl, h2⟩
      rw [e]
      exact ⟨fun _ => rfl, fun h => by omega, h2⟩
  have e : wrE x1 x2 k n = 8 := by unfold wrE; rw [if_neg k1, if_neg k2]
  refine (write_kind A1 A2 A3 m1 m2 m3 c1 c2 c3 k n v k1 k2 w).mono ?_
  rintro en w' ⟨rfl, h2⟩
  rw [e]
  exact ⟨fun _ => rfl, fun h => by omega, h2⟩
end Go.Proofs.Ytndapcbjcannhaa
