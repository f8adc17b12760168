/- What spaceOf returns for a text of one byte. Conditions: the table of letters is laid. -/
import Derived.Test.YtfnmjbapjngmaaaDoorJA
import Derived.Handy
namespace Go.Proofs.YtfnmjbapjngmaaaDoor
open Go.RowKit

theorem B_inj {a b : ByteArray} (h : B a = B b) : a = b := by
  cases a; cases b; simp [B] at h; rw [h]
theorem eqL (a b : ByteArray) : (a.toList == b.toList) = decide (B a = B b) := by
  rw [ByteArray.toList_eq, ByteArray.toList_eq, Bool.eq_iff_iff, beq_iff_eq, decide_eq_true_iff]
theorem eq_yes {a b : ByteArray} (h : B a = B b) : (a.toList == b.toList) = true := by rw [eqL]; exact decide_eq_true h
theorem eq_no {a b : ByteArray} (h : B a ≠ B b) : (a.toList == b.toList) = false := by rw [eqL]; exact decide_eq_false h

/-- The three cells of the table of letters. -/
def sI : ByteArray := ⟨#[73]⟩
def sQ : ByteArray := ⟨#[81]⟩
def sM : ByteArray := ⟨#[77]⟩
structure Tab (w : World) : Prop where
  c0 : w.cell? ⟨1, 0, none⟩ = some (.string sI)
  c1 : w.cell? ⟨1, 1, none⟩ = some (.string sQ)
  c2 : w.cell? ⟨1, 2, none⟩ = some (.string sM)

def spO (c : UInt8) : Int × Bool := if c = 73 then (0, true) else if c = 81 then (1, true) else if c = 77 then (2, true) else (0, false)
theorem ret_ib {a : Int} {b : Bool} {p : Int × Bool} (h : p = (a, b)) : Ending.returned (.tuple #[.int .i64 a, .bool b]) = .returned (.tuple #[.int .i64 p.1, .bool p.2]) := by rw [h]

set_option maxHeartbeats 400000 in
theorem spaceOf_any (s : ByteArray) (c : UInt8) (hs : B s = [c]) (w : World) (ht : Tab w) :
    Calls Tryd.prog 60 #[.string s] w fun e w' => e = .returned (.tuple #[.int .i64 (spO c).1, .bool (spO c).2]) ∧ w = w' := by
  obtain ⟨c0, c1, c2⟩ := ht
  have i0 : ∀ w, (Instr.index 87 (.agg #[.string sI, .string sQ, .string sM]) (.int .i64 0)).run Tryd.prog w = .ok (.string sI) w := fun _ => by kernel_rfl
  have i1 : ∀ w, (Instr.index 87 (.agg #[.string sI, .string sQ, .string sM]) (.int .i64 1)).run Tryd.prog w = .ok (.string sQ) w := fun _ => by kernel_rfl
  have i2 : ∀ w, (Instr.index 87 (.agg #[.string sI, .string sQ, .string sM]) (.int .i64 2)).run Tryd.prog w = .ok (.string sM) w := fun _ => by kernel_rfl
  have eI : B sI = [73] := rfl
  have eQ : B sQ = [81] := rfl
  have eM : B sM = [77] := rfl
  have go : ∀ (a0 a1 a2 : Bool) (p : Int × Bool), (sI.toList == s.toList) = a0 → (sQ.toList == s.toList) = a1 → (sM.toList == s.toList) = a2 →
      p = (if a0 then (0, true) else if a1 then (1, true) else if a2 then (2, true) else (0, false)) →
      Calls Tryd.prog 60 #[.string s] w fun e w' => e = .returned (.tuple #[.int .i64 p.1, .bool p.2]) ∧ w = w' := by
    intro a0 a1 a2 p h0 h1 h2 hp
    have HP := Lib.hid hp
    clear hp eI eQ eM hs
    cases a0
    · cases a1
      · cases a2
        all_goals
          go_enter Tryd.func60, Tryd.ntmps60
          go_wp2
          go_rounds 4
          go_ret2
          exact ⟨ret_ib HP.out, rfl⟩
      · go_enter Tryd.func60, Tryd.ntmps60
        go_wp2
        go_rounds 4
        go_ret2
        exact ⟨ret_ib HP.out, rfl⟩
    · go_enter Tryd.func60, Tryd.ntmps60
      go_wp2
      go_rounds 4
      go_ret2
      exact ⟨ret_ib HP.out, rfl⟩
  refine go _ _ _ (spO c) (eqL _ _) (eqL _ _) (eqL _ _) ?_
  rw [hs, eI, eQ, eM]
  unfold spO
  simp [eq_comm]
end Go.Proofs.YtfnmjbapjngmaaaDoor
