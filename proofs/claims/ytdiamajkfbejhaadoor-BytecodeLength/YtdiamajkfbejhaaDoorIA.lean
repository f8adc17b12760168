/- The words for images in memory, and what isIndex, digit, Get and Count return. Conditions: slices whose cells read as a list of bools. -/
import Derived.Test.YtdiamajkfbejhaaDoorProg
import Derived.WalkKit
import Derived.WalkSpells
import Derived.WalkLawsBesides
import Derived.BigFrame
import Derived.Lib.Hide
import Derived.Handy
namespace Go.Proofs.YtdiamajkfbejhaaDoor
open Go.RowKit

/-- Nothing that was there has turned: new blocks and draws alone. -/
def Nx (w w' : World) : Prop := Below w.heap.size w w'
theorem Nx.refl (w : World) : Nx w w := Below.refl _ _
theorem Nx.trans {a b c : World} (h : Nx a b) (k : Nx b c) : Nx a c := Below.trans h (Below.mono k h.size)
theorem Nx.alloc {a b : World} (h : Nx a b) (o : Obj) : Nx a (b.alloc o) := Below.alloc h h.size o
theorem Nx.drew {a b : World} (h : Nx a b) : Nx a b.drew := Below.drew h
theorem Nx.drewN {a b : World} (h : Nx a b) (n : Nat) : Nx a (b.drewN n) := Below.trans h ⟨rfl, rfl, rfl, Nat.le_refl _, fun _ _ => rfl⟩
theorem Nx.cell {w w' : World} (h : Nx w w') {p : Addr} {v : Value} (hc : w.cell? p = some v) : w'.cell? p = some v :=
  (Below.cell h (World.block_lt_of_cell? w p hc)).trans hc
theorem Nx.one (w : World) (o : Obj) : Nx w (w.alloc o) := (Nx.refl w).alloc o
theorem Nx.setCell {a b : World} (h : Nx a b) {p : Addr} (hp : a.heap.size ≤ p.block) (u : Value) : Nx a (b.setCell p u) := Below.setCell h hp u

/-- The cells of a slice read as the list xs of bools. -/
def Rd (w : World) (A : Option Addr) (xs : List Bool) : Prop := ∀ (k : Nat) (b : Bool), xs[k]? = some b → ∃ ad, A = some ad ∧ w.cell? (ad.add k) = some (.bool b)
theorem Rd.nx {w w' : World} {A : Option Addr} {xs : List Bool} (h : Rd w A xs) (k : Nx w w') : Rd w' A xs := fun i b hi => by
  obtain ⟨ad, e, hc⟩ := h i b hi
  exact ⟨ad, e, k.cell hc⟩
theorem Rd.drew {w : World} {A : Option Addr} {xs : List Bool} (h : Rd w A xs) : Rd w.drew A xs := h
theorem at_some (xs : List Bool) (k : Nat) (h : k < xs.length) : ∃ b, xs[k]? = some b := ⟨xs[k], List.getElem?_eq_getElem h⟩
theorem ret_bool {a b : Bool} (h : a = b) : Ending.returned (.bool a) = .returned (.bool b) := by rw [h]
theorem ret_int {k : IntKind} {a b : Int} (h : a = b) : Ending.returned (.int k a) = .returned (.int k b) := by rw [h]

def isIdx (n : Int) (m : Nat) : Bool := decide (0 ≤ n ∧ n < m)
def dig (b : Bool) : Int := if b then 49 else 48
/-- How many bits are true. -/
def cnt (xs : List Bool) : Nat := xs.countP id
theorem cnt_le (xs : List Bool) : cnt xs ≤ xs.length := List.countP_le_length
theorem take_snoc {α : Type} (xs : List α) (k : Nat) (b : α) (h : xs[k]? = some b) : xs.take (k + 1) = xs.take k ++ [b] := by
  rw [List.take_add_one, h]; rfl
theorem cnt_snoc (xs : List Bool) (b : Bool) : cnt (xs ++ [b]) = cnt xs + (if b then 1 else 0) := by
  unfold cnt; rw [List.countP_append]; cases b <;> rfl

end Go.Proofs.YtdiamajkfbejhaaDoor
