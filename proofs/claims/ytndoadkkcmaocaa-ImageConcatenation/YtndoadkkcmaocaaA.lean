/- The words for images in memory, and what isIndex, digit, Get and Count return. Conditions: slices whose cells read as a list of bools. -/
import Derived.Test.YtndoadkkcmaocaaProg
import Derived.WalkKit
import Derived.WalkSpells
import Derived.WalkLawsBesides
import Derived.BigFrame
import Derived.Lib.Hide
import Derived.Handy
namespace Go.Proofs.Ytndoadkkcmaocaa
open Go.RowKit

/-- Nothing that was there has turned: new blocks and draws alone. -/
def Nx (w w' : World) : Prop := Below w.heap.size w w'
theorem Nx.refl (w : World) : Nx w w := Below.refl _ _
theorem Nx.trans {a b c : World} (h : Nx a b) (k : Nx b c) : Nx a c := Below.trans h (Below.mono k h.size)
theorem Nx.alloc {a b : World} (h : Nx a b) (o : Obj) : Nx a (b.alloc o) := Below.alloc h h.size o
theorem Nx.drew {a b : World} (h : Nx a b) : Nx a b.drew := Below.drew h
theorem Nx.drewN {a b : World} (h : Nx a b) (n : Nat) : Nx a (b.drewN n) := Below.trans h ⟨rfl, rfl, rfl, Nat.le_refl _, fun _ _ => rfl⟩
theorem Nx.cell {w w' : World} (h : Nx w w') {p : Addr} {v : Value} (hc : w.cell? p = some v) : w'.cell? p = some v :=
  (Below.cell h (World.block_lt_of_cell? w p hc)).trans hc
theorem Nx.one (w : World) (o : Obj) : Nx w (w.alloc o) := (Nx.refl w).alloc o
theorem Nx.setCell {a b : World} (h : Nx a b) {p : Addr} (hp : a.heap.size ≤ p.block) (u : Value) : Nx a (b.setCell p u) := Below.setCell h hp u

/-- The cells of a slice read as the list xs of bools. -/
def Rd (w : World) (A : Option Addr) (xs : List Bool) : Prop := ∀ (k : Nat) (b : Bool), xs[k]? = some b → ∃ ad, A = some ad ∧ w.cell? (ad.add k) = some (.bool b)
theorem Rd.nx {w w' : World} {A : Option Addr} {xs : List Bool} (h : Rd w A xs) (k : Nx w w') : Rd w' A xs := fun i b hi => by
  obtain ⟨ad, e, hc⟩ := h i b hi
  exact ⟨ad, e, k.cell hc⟩
theorem Rd.drew {w : World} {A : Option Addr} {xs : List Bool} (h : Rd w A xs) : Rd w.drew A xs := h
theorem at_some (xs : List Bool) (k : Nat) (h : k < xs.length) : ∃ b, xs[k]? = some b := ⟨xs[k], List.getElem?_eq_getElem h⟩
theorem ret_bool {a b : Bool} (h : a = b) : Ending.returned (.bool a) = .returned (.bool b) := by rw [h]
theorem ret_int {k : IntKind} {a b : Int} (h : a = b) : Ending.returned (.int k a) = .returned (.int k b) := by rw [h]

def isIdx (n : Int) (m : Nat) : Bool := decide (0 ≤ n ∧ n < m)
set_option maxHeartbeats 400000 in
theorem isIndex_any (A : Option Addr) (m c : Nat) (n : Int) (w : World) :
    Calls Try.prog 26 #[.slice A m c, .int .i64 n] w fun e w' => e = .returned (.bool (isIdx n m)) ∧ w = w' := by
  by_cases h0 : 0 ≤ n
  · by_cases h1 : n < m
    · have HR := Lib.hid (show isIdx n m = true from decide_eq_true ⟨h0, h1⟩)
      go_enter Try.func26, Try.ntmps26
      go_wp2
      go_ret
      exact ⟨ret_bool HR.out.symm, rfl⟩
    · have HR := Lib.hid (show isIdx n m = false from decide_eq_false (by omega))
      go_enter Try.func26, Try.ntmps26
      go_wp2
      go_ret
      exact ⟨ret_bool HR.out.symm, rfl⟩
  · have HR := Lib.hid (show isIdx n m = false from decide_eq_false (by omega))
    go_enter Try.func26, Try.ntmps26
    go_wp2
    go_ret
    exact ⟨ret_bool HR.out.symm, rfl⟩

def dig (b : Bool) : Int := if b then 49 else 48
set_option maxHeartbeats 400000 in
theorem digit_any (b : Bool) (w : World) : Calls Try.prog 25 #[.bool b] w fun e w' => e = .returned (.int .u8 (dig b)) ∧ w = w' := by
  cases b
  all_goals
    go_enter Try.func25, Try.ntmps25
    go_wp2
    go_ret
    exact ⟨rfl, rfl⟩

set_option maxHeartbeats 400000 in
theorem get_ok (A : Option Addr) (xs : List Bool) (c n : Nat) (b : Bool) (hb : xs[n]? = some b) (w : World) (hr : Rd w A xs) :
    Calls Try.prog 16 #[.slice A xs.length c, .int .i64 n] w fun e w' => e = .returned (.tuple #[.bool b, .int .i64 0]) ∧ w = w' := by
  have hn : n < xs.length := (List.getElem?_eq_some_iff.1 hb).1
  obtain ⟨ad, rfl, hc⟩ := hr n b hb
  have HI := Lib.hid (show isIdx (n : Int) xs.length = true from decide_eq_true (by omega))
  clear hr hb
  go_enter Try.func16, Try.ntmps16
  go_wp2_with (go_at_call 26; refine (isIndex_any _ _ _ _ _).mono ?_; rw [HI.out]; rintro e w' ⟨rfl, rfl⟩)
  go_ret2
  exact ⟨rfl, rfl⟩
set_option maxHeartbeats 400000 in
theorem get_no (A : Option Addr) (m c : Nat) (n : Int) (h : ¬ (0 ≤ n ∧ n < m)) (w : World) :
    Calls Try.prog 16 #[.slice A m c, .int .i64 n] w fun e w' => e = .returned (.tuple #[.bool false, .int .i64 3]) ∧ w = w' := by
  have HI := Lib.hid (show isIdx n m = false from decide_eq_false h)
  clear h
  go_enter Try.func16, Try.ntmps16
  go_wp2_with (go_at_call 26; refine (isIndex_any _ _ _ _ _).mono ?_; rw [HI.out]; rintro e w' ⟨rfl, rfl⟩)
  go_ret2
  exact ⟨rfl, rfl⟩

/-- How many bits are true. -/
def cnt (xs : List Bool) : Nat := xs.countP id
theorem cnt_le (xs : List Bool) : cnt xs ≤ xs.length := List.countP_le_length
theorem take_snoc {α : Type} (xs : List α) (k : Nat) (b : α) (h : xs[k]? = some b) : xs.take (k + 1) = xs.take k ++ [b] := by
  rw [List.take_add_one, h]; rfl
theorem cnt_snoc (xs : List Bool) (b : Bool) : cnt (xs ++ [b]) = cnt xs + (if b then 1 else 0) := by
  unfold cnt; rw [List.countP_append]; cases b <;> rfl

set_option maxHeartbeats 400000 in
theorem count_any (A : Option Addr) (xs : List Bool) (c : Nat) (hl : xs.length ≤ 1000000) (w : World) (hr : Rd w A xs) :
    Calls Try.prog 22 #[.slice A xs.length c] w fun e w' => e = .returned (.int .i64 (cnt xs)) ∧ w = w' := by
  have HR := Lib.hid hr
  clear hr
  go_enter Try.func22, Try.ntmps22
  go_wp2
  go_loop [3, 7] (fun n i => ∃ k : Nat, k ≤ xs.length ∧ i = .int .i64 k ∧ n = .int .i64 (cnt (xs.take k))) (fun _ i => xs.length - (intOf i).toNat)
  case atStart => exact ⟨0, Nat.zero_le _, rfl, rfl⟩
  case round =>
    obtain ⟨k, hk, rfl, rfl⟩ := hrel
    have hle := cnt_le (xs.take k)
    have hl' : (xs.take k).length ≤ k := List.length_take_le _ _
    by_cases hlt : k < xs.length
    · obtain ⟨b, hb⟩ := at_some xs k hlt
      obtain ⟨ad, rfl, hc⟩ := HR.out k b hb
      have HS := Lib.hid (by have := cnt_snoc (xs.take k) b; rwa [← take_snoc xs k b hb] at this)
      clear hb
      generalize cnt (xs.take k) = m at *
      cases b
      all_goals
        go_wp2
        go_round
        case rel => exact ⟨k + 1, by omega, by go_num, by rw [HS.out]; go_num⟩
        case measure => simp [intOf]; omega
    · go_wp2
      go_ret
      exact ⟨ret_int (by rw [List.take_of_length_le (by omega)]), rfl⟩
set_option maxHeartbeats 400000 in
theorem refCount_any (A : Option Addr) (xs : List Bool) (c : Nat) (hl : xs.length ≤ 1000000) (w : World) (hr : Rd w A xs) :
    Calls Try.prog 23 #[.slice A xs.length c] w fun e w' => e = .returned (.int .i64 (cnt xs)) ∧ w = w' := by
  have HR := Lib.hid hr
  clear hr
  go_enter Try.func23, Try.ntmps23
  go_wp2
  go_loop [3, 4] (fun n i => ∃ k : Nat, k ≤ xs.length ∧ i = .int .i64 k ∧ n = .int .i64 (cnt (xs.take k))) (fun _ i => xs.length - (intOf i).toNat)
  case atStart => exact ⟨0, Nat.zero_le _, rfl, rfl⟩
  case round =>
    obtain ⟨k, hk, rfl, rfl⟩ := hrel
    have hle := cnt_le (xs.take k)
    have hl' : (xs.take k).length ≤ k := List.length_take_le _ _
    by_cases hlt : k < xs.length
    · obtain ⟨b, hb⟩ := at_some xs k hlt
      obtain ⟨ad, rfl, hc⟩ := HR.out k b hb
      have HS := Lib.hid (by have := cnt_snoc (xs.take k) b; rwa [← take_snoc xs k b hb] at this)
      clear hb
      generalize cnt (xs.take k) = m at *
      cases b
      all_goals
        go_wp2
        go_round
        case rel => exact ⟨k + 1, by omega, by go_num, by rw [HS.out]; go_num⟩
        case measure => simp [intOf]; omega
    · go_wp2
      go_ret
      exact ⟨ret_int (by rw [List.take_of_length_le (by omega)]), rfl⟩
end Go.Proofs.Ytndoadkkcmaocaa
