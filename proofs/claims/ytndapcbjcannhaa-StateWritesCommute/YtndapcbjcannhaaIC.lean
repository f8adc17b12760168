/- What image.Equal and the reference's Equal return. Conditions: slices whose cells read as lists of bools, of at most a million. -/
import Derived.Test.YtndapcbjcannhaaIB
import Derived.Deep.QuietTactic
import Derived.BigQuiet
namespace Go.Proofs.Ytndapcbjcannhaa
open Go.RowKit

def eqB (xs ys : List Bool) : Bool := decide (xs = ys)
theorem ne_at {xs ys : List Bool} {k : Nat} {a b : Bool} (ha : xs[k]? = some a) (hb : ys[k]? = some b) (h : a ≠ b) : eqB xs ys = false := by
  refine decide_eq_false fun e => h ?_
  rw [e, hb] at ha; exact (Option.some.inj ha).symm
theorem eq_of_take {xs ys : List Bool} (hl : xs.length = ys.length) (h : xs.take xs.length = ys.take xs.length) : eqB xs ys = true := by
  rw [List.take_length, hl, List.take_length] at h
  exact decide_eq_true h

set_option maxHeartbeats 800000 in
theorem equal_len (A B : Option Addr) (m n c d : Nat) (h : m ≠ n) (w : World) :
    Calls Try.prog 31 #[.slice A m c, .slice B n d] w fun e w' => e = .returned (.bool false) ∧ w = w' := by
  have h1 : ((m : Int) == n) = false := by rw [beq_eq_false_iff_ne]; omega
  have h2 : ((m : Int) != n) = true := by rw [bne_iff_ne]; omega
  go_enter Try.func31, Try.ntmps31
  go_wp2
  go_ret
  exact ⟨rfl, rfl⟩

set_option maxHeartbeats 800000 in
theorem equal_same (A B : Option Addr) (xs ys : List Bool) (n c d : Nat) (hx : xs.length = n) (hy : ys.length = n) (hl : n ≤ 1000000) (w : World) (hr : Rd w A xs) (hs : Rd w B ys) :
    Calls Try.prog 31 #[.slice A n c, .slice B n d] w fun e w' => e = .returned (.bool (eqB xs ys)) ∧ Nx w w' := by
  have HR := Lib.hid hr
  have HS := Lib.hid hs
  have HX := Lib.hid hx
  have HY := Lib.hid hy
  clear hr hs hx hy
  go_enter Try.func31, Try.ntmps31
  go_wp2
  go_loopw [13] (fun i wr => ∃ k : Nat, k ≤ n ∧ i = .int .i64 k ∧ xs.take k = ys.take k ∧ Nx w wr) (fun i _ => n - (intOf i).toNat)
  case atStart => exact ⟨0, Nat.zero_le _, rfl, rfl, Nx.refl _⟩
  case round =>
    obtain ⟨k, hk, rfl, htk, hnx⟩ := hrel
    have HT := Lib.hid htk
    have HN := Lib.hid hnx
    by_cases hlt : k < n
    · obtain ⟨a, ha⟩ := at_some xs k (by rw [HX.out]; exact hlt)
      obtain ⟨b, hb⟩ := at_some ys k (by rw [HY.out]; exact hlt)
      obtain ⟨ad, rfl, hc⟩ := (HR.out.nx hnx) k a ha
      obtain ⟨bd, rfl, hd⟩ := (HS.out.nx hnx) k b hb
      have HA := Lib.hid ha
      have HB := Lib.hid hb
      clear ha hb htk hnx
      by_cases he : a = b
      · subst he
        have HK := Lib.hid (show xs.take (k + 1) = ys.take (k + 1) by rw [take_snoc xs k a HA.out, take_snoc ys k a HB.out, HT.out])
        have e1 : (a == a) = true := by simp
        have e2 : (a != a) = false := by simp
        go_wp2
        go_quiet (fail)
        go_wp2
        go_roundw
        case rel => exact ⟨k + 1, by omega, by go_num, HK.out, by first | exact HN.out | exact HN.out.drewN _⟩
        case measure => simp [intOf]; omega
      · have e1 : (a == b) = false := by simpa using he
        have e2 : (a != b) = true := by simpa using he
        have HQ := Lib.hid (ne_at HA.out HB.out he)
        clear he
        go_wp2
        go_quiet (fail)
        go_wp2
        go_ret
        exact ⟨ret_bool HQ.out.symm, by first | exact HN.out | exact HN.out.drewN _⟩
    · have hkn : k = n := by omega
      have HQ := Lib.hid (eq_of_take (xs := xs) (ys := ys) (by rw [HX.out, HY.out]) (by rw [HX.out, ← hkn]; exact htk))
      clear htk hnx hkn
      go_wp2
      go_ret
      exact ⟨ret_bool HQ.out.symm, HN.out⟩
set_option maxHeartbeats 800000 in
theorem refEqual_len (A B : Option Addr) (m n c d : Nat) (h : m ≠ n) (w : World) :
    Calls Try.prog 30 #[.slice A m c, .slice B n d] w fun e w' => e = .returned (.bool false) ∧ w = w' := by
  have h1 : ((m : Int) == n) = false := by rw [beq_eq_false_iff_ne]; omega
  have h2 : ((m : Int) != n) = true := by rw [bne_iff_ne]; omega
  go_enter Try.func30, Try.ntmps30
  go_wp2
  go_ret
  exact ⟨rfl, rfl⟩

set_option maxHeartbeats 800000 in
theorem refEqual_same (A B : Option Addr) (xs ys : List Bool) (n c d : Nat) (hx : xs.length = n) (hy : ys.length = n) (hl : n ≤ 1000000) (w : World) (hr : Rd w A xs) (hs : Rd w B ys) :
    Calls Try.prog 30 #[.slice A n c, .slice B n d] w fun e w' => e = .returned (.bool (eqB xs ys)) ∧ Nx w w' := by
  have HR := Lib.hid hr
  have HS := Lib.hid hs
  have HX := Lib.hid hx
  have HY := Lib.hid hy
  clear hr hs hx hy
  go_enter Try.func30, Try.ntmps30
  go_wp2
  go_loopw [5] (fun i wr => ∃ k : Nat, k ≤ n ∧ i = .int .i64 k ∧ xs.take k = ys.take k ∧ Nx w wr) (fun i _ => n - (intOf i).toNat)
  case atStart => exact ⟨0, Nat.zero_le _, rfl, rfl, Nx.refl _⟩
  case round =>
    obtain ⟨k, hk, rfl, htk, hnx⟩ := hrel
    have HT := Lib.hid htk
    have HN := Lib.hid hnx
    by_cases hlt : k < n
    · obtain ⟨a, ha⟩ := at_some xs k (by rw [HX.out]; exact hlt)
      obtain ⟨b, hb⟩ := at_some ys k (by rw [HY.out]; exact hlt)
      obtain ⟨ad, rfl, hc⟩ := (HR.out.nx hnx) k a ha
      obtain ⟨bd, rfl, hd⟩ := (HS.out.nx hnx) k b hb
      have HA := Lib.hid ha
      have HB := Lib.hid hb
      clear ha hb htk hnx
      by_cases he : a = b
      · subst he
        have HK := Lib.hid (show xs.take (k + 1) = ys.take (k + 1) by rw [take_snoc xs k a HA.out, take_snoc ys k a HB.out, HT.out])
        have e1 : (a == a) = true := by simp
        have e2 : (a != a) = false := by simp
        go_wp2
        go_quiet (fail)
        go_wp2
        go_roundw
        case rel => exact ⟨k + 1, by omega, by go_num, HK.out, by first | exact HN.out | exact HN.out.drewN _⟩
        case measure => simp [intOf]; omega
      · have e1 : (a == b) = false := by simpa using he
        have e2 : (a != b) = true := by simpa using he
        have HQ := Lib.hid (ne_at HA.out HB.out he)
        clear he
        go_wp2
        go_quiet (fail)
        go_wp2
        go_ret
        exact ⟨ret_bool HQ.out.symm, by first | exact HN.out | exact HN.out.drewN _⟩
    · have hkn : k = n := by omega
      have HQ := Lib.hid (eq_of_take (xs := xs) (ys := ys) (by rw [HX.out, HY.out]) (by rw [HX.out, ← hkn]; exact htk))
      clear htk hnx hkn
      go_wp2
      go_ret
      exact ⟨ret_bool HQ.out.symm, HN.out⟩
theorem eqB_len {xs ys : List Bool} (h : xs.length ≠ ys.length) : eqB xs ys = false := decide_eq_false fun e => h (by rw [e])
theorem equal_any (A B : Option Addr) (xs ys : List Bool) (m n c d : Nat) (hx : xs.length = m) (hy : ys.length = n) (hl : m ≤ 1000000) (w : World) (hr : Rd w A xs) (hs : Rd w B ys) :
    Calls Try.prog 31 #[.slice A m c, .slice B n d] w fun e w' => e = .returned (.bool (eqB xs ys)) ∧ Nx w w' := by
  by_cases h : m = n
  · subst h; exact equal_same A B xs ys m c d hx hy hl w hr hs
  · rw [eqB_len (by rw [hx, hy]; exact h)]
    exact (equal_len A B m n c d h w).mono fun e w' ⟨he, hw⟩ => ⟨he, hw ▸ Nx.refl _⟩
theorem refEqual_any (A B : Option Addr) (xs ys : List Bool) (m n c d : Nat) (hx : xs.length = m) (hy : ys.length = n) (hl : m ≤ 1000000) (w : World) (hr : Rd w A xs) (hs : Rd w B ys) :
    Calls Try.prog 30 #[.slice A m c, .slice B n d] w fun e w' => e = .returned (.bool (eqB xs ys)) ∧ Nx w w' := by
  by_cases h : m = n
  · subst h; exact refEqual_same A B xs ys m c d hx hy hl w hr hs
  · rw [eqB_len (by rw [hx, hy]; exact h)]
    exact (refEqual_len A B m n c d h w).mono fun e w' ⟨he, hw⟩ => ⟨he, hw ▸ Nx.refl _⟩
end Go.Proofs.Ytndapcbjcannhaa
