/- What image.Format and the reference's Format return. Conditions: slices whose cells read as a list of bools, of at most a million. -/
import Derived.Test.YtdiamajkfbejhaaDoorIA
import Derived.Deep.OwnRows
import Derived.Laws.IdiomStrings
namespace Go.Proofs.YtdiamajkfbejhaaDoor
open Go.RowKit

theorem info5 : (Tryd.prog.info? 5).map (fun i => (i.zero, i.size, i.bytes)) = some (some (.int .u8 0), 1, 1) := by kernel_rfl
theorem info4 : (Tryd.prog.info? 4).map (fun i => (i.zero, i.size, i.bytes)) = some (some (.bool false), 1, 1) := by kernel_rfl
theorem info3 : (Tryd.prog.info? 3).map (fun i => (i.zero, i.size, i.bytes)) = some (some (.int .i64 0), 1, 8) := by kernel_rfl

def dg (b : Bool) : UInt8 := if b then 49 else 48
theorem dig_dg (b : Bool) : dig b = ((dg b).toNat : Int) := by cases b <;> rfl
/-- The text of an image. -/
def tx (xs : List Bool) : ByteArray := ⟨(xs.map dg).toArray⟩
def txt (xs : List Bool) : ByteArray := if xs.isEmpty then ⟨#[45]⟩ else tx xs
theorem txt_nil {xs : List Bool} (h : xs.length = 0) : txt xs = ⟨#[45]⟩ := by
  obtain rfl := List.eq_nil_of_length_eq_zero h; rfl
theorem txt_pos {xs : List Bool} (h : 0 < xs.length) : txt xs = tx xs := by
  cases xs with
  | nil => simp at h
  | cons a l => rfl
theorem getD_some {xs : List Bool} {k : Nat} {b : Bool} (h : xs[k]? = some b) : xs.getD k false = b := by simp [List.getD, h]

def row (xs : List Bool) (k : Nat) : Nat → Value := fun j => .int .u8 (if j < k then dig (xs.getD j false) else 0)
theorem row_step (xs : List Bool) (k n : Nat) (b : Bool) (hb : xs[k]? = some b) (j : Nat) (_ : j < n) : (if j = k then Value.int .u8 (dig b) else row xs k j) = row xs (k + 1) j := by
  unfold row
  by_cases h : j = k
  · subst h; rw [if_pos rfl, if_pos (by omega), getD_some hb]
  · rw [if_neg h]
    by_cases h2 : j < k
    · rw [if_pos h2, if_pos (by omega)]
    · rw [if_neg h2, if_neg (by omega)]

theorem conv_row (xs : List Bool) (B : Nat) (wr : World) (h : wr.rowIs B 5 xs.length (fun j => .int .u8 (dig (xs.getD j false)))) :
    (convert 28 9 (.slice (some ⟨B, 0, none⟩) xs.length xs.length)).run Tryd.prog wr = .ok (.string (tx xs)) wr := by
  have e : (xs.map dg).length = xs.length := List.length_map _
  have := run_convert_bytes_back (P := Tryd.prog) wr 28 9 5 ⟨B, 0, none⟩ xs.length (xs.map dg) Tryd.underlying28 Tryd.underlying5 Tryd.underlying9 (fun j hj => by
    rw [e] at hj
    have := h.cell hj
    rw [Addr.add_lit]
    simp only [Nat.zero_add]
    rw [this]
    simp only [List.getElem_map, ← dig_dg]
    congr 3
    simp [List.getD, hj])
  rw [e] at this
  exact this

theorem tx_take (xs : List Bool) (k : Nat) (b : Bool) (hb : xs[k]? = some b) : tx (xs.take (k + 1)) = tx (xs.take k) ++ ⟨#[dg b]⟩ := by
  rw [take_snoc xs k b hb]
  unfold tx
  apply ByteArray.ext
  simp
theorem size_tx (xs : List Bool) : (tx xs).size = xs.length := by unfold tx; show ((xs.map dg).toArray).size = _; simp
theorem tx_toList (xs : List Bool) : (tx xs).toList = xs.map dg := by rw [ByteArray.toList_eq]; rfl

end Go.Proofs.YtdiamajkfbejhaaDoor
