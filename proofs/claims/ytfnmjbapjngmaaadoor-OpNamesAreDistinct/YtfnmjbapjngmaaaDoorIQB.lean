/- What the words of SplitN are for Parse of layer 4. Conditions: none. -/
import Derived.Test.YtfnmjbapjngmaaaDoorIQA
namespace Go.Proofs.YtfnmjbapjngmaaaDoor
open Go.RowKit

abbrev sp1 : ByteArray := ⟨#[32]⟩
theorem piece_le : ∀ (k : Nat) (s x : ByteArray), x ∈ Lib.splitB sp1 0 k s → x.size ≤ s.size := by
  intro k
  induction k with
  | zero => intro s x hx; simp [Lib.splitB] at hx; subst hx; exact Nat.le_refl _
  | succ k ih =>
    intro s x hx
    unfold Lib.splitB at hx
    split at hx
    · simp at hx; subst hx; exact Nat.le_refl _
    · rcases List.mem_cons.1 hx with rfl | hx
      · rw [ByteArray.size_extract]; omega
      · have := ih _ x hx
        rw [ByteArray.size_extract] at this
        omega
theorem split_ok (t : ByteArray) : ∃ a r, Lib.splitB sp1 0 (min 4 (t.size + 1) - 1) t = a :: r ∧ r.length ≤ 3 ∧ r.length + 1 ≤ min 4 (t.size + 1) ∧ opL ((a :: r).map B) = opP (B t) ∧ (∀ x ∈ a :: r, x.size ≤ t.size) := by
  have h1 := Lib.splitB_data sp1 0 (min 4 (t.size + 1) - 1) t
  have hle := Lib.splitB_length_le sp1 0 (min 4 (t.size + 1) - 1) t
  have hp := piece_le (min 4 (t.size + 1) - 1) t
  obtain ⟨w1, w2, w3⟩ := split_wds (min 4 (t.size + 1) - 1) (B t)
  have hw := wds_len (B t)
  rw [size_B] at hw
  cases hs : Lib.splitB sp1 0 (min 4 (t.size + 1) - 1) t with
  | nil =>
    rw [hs] at h1
    have hn : (Lib.splitK [32] 0 (min 4 (t.size + 1) - 1) (B t)).length = 0 := by
      have : Lib.splitK [32] 0 (min 4 (t.size + 1) - 1) (B t) = [] := h1.symm
      rw [this]; rfl
    have : 1 ≤ (wds (B t)).length := by
      cases h : wds (B t) with
      | nil => exact absurd h (wds_ne _)
      | cons a t => simp
    omega
  | cons a r =>
    rw [hs] at h1 hle hp
    have h1 : (a :: r).map B = Lib.splitK [32] 0 (min 4 (t.size + 1) - 1) (B t) := h1
    have hl : (a :: r).length = min (min 4 (t.size + 1) - 1 + 1) (wds (B t)).length := by rw [← w1, ← h1, List.length_map]
    simp only [List.length_cons] at hl hle
    refine ⟨a, r, rfl, by omega, by omega, ?_, hp⟩
    by_cases h : (wds (B t)).length ≤ min 4 (t.size + 1) - 1 + 1
    · rw [h1, w3 h]; rfl
    · unfold opP
      rw [opL_long (wds (B t)) (by omega), opL_long]
      simp only [List.length_map, List.length_cons]; omega

/-- How many operands a form has. -/
def nop (f : Int) : Nat := if f = 0 then 0 else if f = 2 then 2 else 1
theorem opL_bad (a : List UInt8) (r : List (List UInt8)) (h : ixm a = -1 ∨ r.length ≠ nop (frm (ixm a))) : opL (a :: r) = none := by
  have h0 : frm (-1) = -1 := frm_m1
  match r, h with
  | [], h =>
    simp only [opL]
    rw [if_neg]
    intro e
    rcases h with h | h
    · rw [h, h0] at e; cases e
    · rw [e] at h; exact h rfl
  | [b], h =>
    simp only [opL]
    rcases h with h | h
    · rw [h, h0]; simp
    · rw [if_neg, if_neg]
      · intro e; rw [e] at h; exact h rfl
      · rintro (e | e) <;> (rw [e] at h; exact h rfl)
  | [b, c], h =>
    simp only [opL]
    rw [if_neg]
    rintro ⟨e, -, -⟩
    rcases h with h | h
    · rw [h, h0] at e; cases e
    · rw [e] at h; exact h rfl
  | b :: c :: d :: t, _ => rfl
theorem opL_0 (a : List UInt8) (h : frm (ixm a) = 0) : opL [a] = some (ixm a, 0, 0, 0) := by simp only [opL]; rw [if_pos h]
theorem opL_1 (a b : List UInt8) (h : frm (ixm a) = 1 ∨ frm (ixm a) = 3) : opL [a, b] = if (parL b).2.2 = 0 then some (ixm a, (parL b).1, (parL b).2.1, 0) else none := by simp only [opL]; rw [if_pos h]
theorem opL_4 (a b : List UInt8) (h : frm (ixm a) = 4) : opL [a, b] = if (dnum b).2 = true then some (ixm a, 0, 0, (dnum b).1) else none := by
  simp only [opL]; rw [if_neg (by rw [h]; decide), if_pos h]
  unfold dnum
  by_cases hp : (pnumU 65535 b).2 = 0
  · simp [hp]
  · simp [hp]
theorem opL_2 (a b c : List UInt8) (h : frm (ixm a) = 2) : opL [a, b, c] = if (parL b).2.2 = 0 ∧ (dnum c).2 = true then some (ixm a, (parL b).1, (parL b).2.1, (dnum c).1) else none := by
  simp only [opL]
  unfold dnum
  by_cases hp : (pnumU 65535 c).2 = 0
  · simp [hp, h]
  · simp [hp]
theorem ret_rs {a b c d e : Int} {p : Int × Int × Int × Int × Int} (h : p = (a, b, c, d, e)) : Ending.returned (.tuple #[.agg #[.int .i64 a, .int .i64 b, .int .i64 c, .int .i64 d], .int .i64 e]) = .returned (.tuple #[.agg #[.int .i64 p.1, .int .i64 p.2.1, .int .i64 p.2.2.1, .int .i64 p.2.2.2.1], .int .i64 p.2.2.2.2]) := by rw [h]
/-- Four cells stored anew. -/
theorem Put.four {w w1 : World} {x : Nat} {T : TypeId} {a b c d : Value} (h : Put w w1 x T [a, b, c, d]) (a' b' c' d' : Value) :
    Put w ((((w1.setCell ⟨x, 0, none⟩ a').setCell ⟨x, 1, none⟩ b').setCell ⟨x, 2, none⟩ c').setCell ⟨x, 3, none⟩ d') x T [a', b', c', d'] := (((h.put (i := 0) a').put (i := 1) b').put (i := 2) c').put (i := 3) d'
end Go.Proofs.YtfnmjbapjngmaaaDoor
