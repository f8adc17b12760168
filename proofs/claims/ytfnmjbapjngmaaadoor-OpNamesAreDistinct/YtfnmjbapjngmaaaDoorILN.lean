/- Plain facts on mnemonics and texts: different opcodes have different mnemonics, different instructions different texts. Conditions: none. -/
import Derived.Test.YtfnmjbapjngmaaaDoorILR
import Derived.Test.YtfnmjbapjngmaaaDoorIQD
namespace Go.Proofs.YtfnmjbapjngmaaaDoor
open Go.RowKit

/-- The name of an opcode, or the empty text. -/
def nam (o : Int) : ByteArray := if isOp o then mnem o else ⟨#[]⟩
theorem nam_yes {o : Int} (h : isOp o = true) : nam o = mnem o := by unfold nam; rw [if_pos h]
theorem nam_size (o : Int) : (isOp o = true ∧ (nam o).size ≠ 0) ∨ (isOp o = false ∧ (nam o).size = 0) := by
  cases h : isOp o with
  | true => exact Or.inl ⟨rfl, by rw [nam_yes h]; exact mnem_pos (of_decide_eq_true h)⟩
  | false => exact Or.inr ⟨rfl, by unfold nam; rw [h]; rfl⟩
theorem nam_inj {o o' : Int} (h : isOp o = true) (h' : isOp o' = true) : nam o = nam o' ↔ o = o' := by
  constructor
  · intro e
    rw [nam_yes h, nam_yes h'] at e
    rw [← ixm_mnem o (of_decide_eq_true h), e, ixm_mnem o' (of_decide_eq_true h')]
  · intro e; rw [e]
theorem wof_head (f o k n N : Int) (h : f = 0 ∨ f = 1 ∨ f = 2 ∨ f = 3 ∨ f = 4) : ∃ r, jn (wof f o k n N) = B (mnem o) ++ r := by
  unfold wof
  rcases h with rfl | rfl | rfl | rfl | rfl
  · exact ⟨[], by simp [jn]⟩
  · exact ⟨_, rfl⟩
  · exact ⟨_, rfl⟩
  · exact ⟨_, rfl⟩
  · exact ⟨_, rfl⟩
theorem opT_head (o k n N : Int) : (opT o k n N).size = 0 ∨ ((opT o k n N).size ≠ 0 ∧ isOp o = true ∧ (nam o).size ≤ (opT o k n N).size ∧ (opT o k n N).extract 0 (nam o).size = nam o) := by
  by_cases hz : (opT o k n N).size = 0
  · exact Or.inl hz
  · have hh := has_of hz
    have ho : isOp o = true := decide_eq_true (frm_op hh.1)
    obtain ⟨r, hr⟩ := wof_head (frm o) o k n N (five hh.1)
    have hb := opT_words hh
    rw [hr] at hb
    have hs : (opT o k n N).size = (mnem o).size + r.length := by rw [← size_B, hb, List.length_append, size_B]
    refine Or.inr ⟨hz, ho, by rw [nam_yes ho]; omega, ?_⟩
    rw [nam_yes ho]
    refine B_inj ?_
    have e := B_ext (opT o k n N) 0 (mnem o).size
    rw [hb] at e
    rw [List.drop_zero, ← size_B, List.take_left] at e
    rw [← size_B]
    exact e
theorem opT_inj {o k n N o' k' n' N' : Int} (h : (opT o k n N).size ≠ 0) (h' : (opT o' k' n' N').size ≠ 0) : opT o k n N = opT o' k' n' N' ↔ (o = o' ∧ k = k' ∧ n = n' ∧ N = N') := by
  constructor
  · intro e
    have a := opP_opT (has_of h)
    have b := opP_opT (has_of h')
    rw [e, b] at a
    injection a with a; injection a with a1 a; injection a with a2 a; injection a with a3 a4
    exact ⟨a1.symm, a2.symm, a3.symm, a4.symm⟩
  · rintro ⟨rfl, rfl, rfl, rfl⟩; rfl
end Go.Proofs.YtfnmjbapjngmaaaDoor
