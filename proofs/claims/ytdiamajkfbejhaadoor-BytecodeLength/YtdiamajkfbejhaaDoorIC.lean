/- What image.Equal and the reference's Equal return. Conditions: slices whose cells read as lists of bools, of at most a million. -/
import Derived.Test.YtdiamajkfbejhaaDoorIB
import Derived.Deep.QuietTactic
import Derived.BigQuiet
namespace Go.Proofs.YtdiamajkfbejhaaDoor
open Go.RowKit

def eqB (xs ys : List Bool) : Bool := decide (xs = ys)
theorem ne_at {xs ys : List Bool} {k : Nat} {a b : Bool} (ha : xs[k]? = some a) (hb : ys[k]? = some b) (h : a ≠ b) : eqB xs ys = false := by
  refine decide_eq_false fun e => h ?_
  rw [e, hb] at ha; exact (Option.some.inj ha).symm
theorem eq_of_take {xs ys : List Bool} (hl : xs.length = ys.length) (h : xs.take xs.length = ys.take xs.length) : eqB xs ys = true := by
  rw [List.take_length, hl, List.take_length] at h
  exact decide_eq_true h

theorem eqB_len {xs ys : List Bool} (h : xs.length ≠ ys.length) : eqB xs ys = false := decide_eq_false fun e => h (by rw [e])
end Go.Proofs.YtdiamajkfbejhaaDoor
