/- What isOpcode and Form return. Conditions: the listed package-level variables hold what the program's text lays. -/
import Derived.Test.YtdiamajkfbejhaaDoorIO2
import Derived.Laws.EntriesVeiled
namespace Go.Proofs.YtdiamajkfbejhaaDoor
open Go.RowKit

/-- The table of opcodes, cell by cell. -/
def tbl : List Value := [.string ⟨#[108, 100]⟩, .int .i64 1, .string ⟨#[108, 100, 110]⟩, .int .i64 1, .string ⟨#[97, 110, 100]⟩, .int .i64 1, .string ⟨#[97, 110, 100, 110]⟩, .int .i64 1, .string ⟨#[111, 114]⟩, .int .i64 1, .string ⟨#[111, 114, 110]⟩, .int .i64 1, .string ⟨#[114, 105, 115, 101]⟩, .int .i64 2, .string ⟨#[102, 97, 108, 108]⟩, .int .i64 2, .string ⟨#[112, 117, 115, 104]⟩, .int .i64 0, .string ⟨#[97, 110, 100, 112]⟩, .int .i64 0, .string ⟨#[111, 114, 112]⟩, .int .i64 0, .string ⟨#[115, 116]⟩, .int .i64 3, .string ⟨#[115, 116, 110]⟩, .int .i64 3, .string ⟨#[115, 101, 116]⟩, .int .i64 3, .string ⟨#[114, 115, 116]⟩, .int .i64 3, .string ⟨#[106, 109, 112, 99]⟩, .int .i64 4, .string ⟨#[101, 110, 100]⟩, .int .i64 0]
def fms : List Int := [1, 1, 1, 1, 1, 1, 2, 2, 0, 0, 0, 3, 3, 3, 3, 4, 0]
/-- What the walks lean on in a world. -/
structure Ev (w : World) : Prop where
  tb : ∀ (i : Nat) (v : Value), tbl[i]? = some v → w.cell? ⟨0, i, none⟩ = some v
theorem Ev.nx {w w' : World} (h : Ev w) (k : Nx w w') : Ev w' where
  tb := fun i v hv => k.cell (h.tb i v hv)
theorem seventeen {k : Nat} (h : k < 17) : k = 0 ∨ k = 1 ∨ k = 2 ∨ k = 3 ∨ k = 4 ∨ k = 5 ∨ k = 6 ∨ k = 7 ∨ k = 8 ∨ k = 9 ∨ k = 10 ∨ k = 11 ∨ k = 12 ∨ k = 13 ∨ k = 14 ∨ k = 15 ∨ k = 16 := by omega
theorem tbl_form (k : Nat) (h : k < 17) : tbl[k * 2 + 1]? = some (.int .i64 (frm (k : Int))) := by
  rcases seventeen h with rfl|rfl|rfl|rfl|rfl|rfl|rfl|rfl|rfl|rfl|rfl|rfl|rfl|rfl|rfl|rfl|rfl <;> kernel_rfl
theorem frm_pos (o : Int) (h : 0 ≤ o ∧ o ≤ 16) : 0 ≤ frm o := by
  unfold frm; rw [if_neg (by omega)]; split; omega; split; omega; split; omega; split <;> omega
theorem frm_neg (o : Int) (h : ¬ (0 ≤ o ∧ o ≤ 16)) : frm o = -1 := by unfold frm; rw [if_pos (by omega)]

def isOp (o : Int) : Bool := decide (0 ≤ o ∧ o ≤ 16)
set_option maxHeartbeats 400000 in
theorem isOpcode_any (o : Int) (w : World) : Calls Tryd.prog 48 #[.int .i64 o] w fun e w' => e = .returned (.bool (isOp o)) ∧ w = w' := by
  by_cases h0 : 0 ≤ o
  · by_cases h1 : o < 17
    · have HR := Lib.hid (show isOp o = true from decide_eq_true (by omega))
      go_enter Tryd.func48, Tryd.ntmps48
      go_wp2
      go_ret
      exact ⟨ret_bool HR.out.symm, rfl⟩
    · have HR := Lib.hid (show isOp o = false from decide_eq_false (by omega))
      go_enter Tryd.func48, Tryd.ntmps48
      go_wp2
      go_ret
      exact ⟨ret_bool HR.out.symm, rfl⟩
  · have HR := Lib.hid (show isOp o = false from decide_eq_false (by omega))
    go_enter Tryd.func48, Tryd.ntmps48
    go_wp2
    go_ret
    exact ⟨ret_bool HR.out.symm, rfl⟩

set_option maxHeartbeats 800000 in
theorem opForm_any (o : Int) (w : World) (he : Ev w) : Calls Tryd.prog 33 #[.int .i64 o] w fun e w' => e = .returned (.tuple #[.int .i64 (if isOp o then frm o else 0), .bool (isOp o)]) ∧ w = w' := by
  by_cases h : 0 ≤ o ∧ o ≤ 16
  · obtain ⟨k, rfl⟩ : ∃ k : Nat, o = (k : Int) := ⟨o.toNat, by omega⟩
    have hk : k < 17 := by omega
    have hc := he.tb _ _ (tbl_form k hk)
    have HI := Lib.hid (show isOp (k : Int) = true from decide_eq_true (by omega))
    rw [if_pos HI.out]
    generalize frm (k : Int) = f at *
    clear he h
    go_enter Tryd.func33, Tryd.ntmps33
    go_wp2_with (go_at_call 48; refine (isOpcode_any _ _).mono ?_; rw [HI.out]; rintro e w' ⟨rfl, rfl⟩)
    go_ret2
    exact ⟨by rw [HI.out]; rfl, rfl⟩
  · have HI := Lib.hid (show isOp o = false from decide_eq_false h)
    rw [if_neg (by rw [HI.out]; decide)]
    clear he h
    go_enter Tryd.func33, Tryd.ntmps33
    go_wp2_with (go_at_call 48; refine (isOpcode_any _ _).mono ?_; rw [HI.out]; rintro e w' ⟨rfl, rfl⟩)
    go_ret2
    exact ⟨by rw [HI.out]; rfl, rfl⟩
end Go.Proofs.YtdiamajkfbejhaaDoor
