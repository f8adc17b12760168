/- Plain facts on assembly texts: a text spells one instruction, and an instruction has one text. Conditions: none. -/
import Derived.Test.YtfnmjbapjngmaaaDoorIQB
namespace Go.Proofs.YtfnmjbapjngmaaaDoor
open Go.RowKit

theorem pnum_d (n : Nat) (h : n ≤ 255) : pnum (Lib.decDigits n) = ((n : Int), 0) := by
  rw [pnum_ok _ (isDec_d n) (by rw [val_d]; omega), val_d]
/-- The byte of a space's letter. -/
def lc (k : Nat) : UInt8 := if k = 0 then 73 else if k = 1 then 81 else 77
theorem B_lt (k : Nat) : B (lt k) = [lc k] := by
  unfold lt lc; split
  · rfl
  · split <;> rfl
theorem spO_lc (k : Nat) (h : k < 3) : spO (lc k) = ((k : Int), true) := by
  rcases (by omega : k = 0 ∨ k = 1 ∨ k = 2) with rfl | rfl | rfl <;> decide
theorem spO_inv (c : UInt8) (h : (spO c).2 = true) : ∃ k : Nat, k < 3 ∧ c = lc k ∧ (spO c).1 = k := by
  unfold spO at h ⊢
  by_cases h0 : c = 73
  · exact ⟨0, by omega, h0, by rw [if_pos h0]; rfl⟩
  · by_cases h1 : c = 81
    · exact ⟨1, by omega, h1, by rw [if_neg h0, if_pos h1]; rfl⟩
    · by_cases h2 : c = 77
      · exact ⟨2, by omega, h2, by rw [if_neg h0, if_neg h1, if_pos h2]; rfl⟩
      · rw [if_neg h0, if_neg h1, if_neg h2] at h; cases h
theorem B_dec (n : Nat) : B (dec n) = Lib.decDigits n := rfl
theorem B_fmt (k n : Nat) : B (lt k ++ dec n) = lc k :: Lib.decDigits n := by
  rw [B_append, B_lt]; rfl
theorem parL_fmt (k n : Nat) (hk : k < 3) (hn : n ≤ 255) : parL (B (lt k ++ dec n)) = ((k : Int), (n : Int), 0) := by
  rw [B_fmt]; simp [parL, spO_lc k hk, pnum_d n hn]
theorem pnum_inv (l : List UInt8) (h : (pnum l).2 = 0) : isDec l = true ∧ val l < 256 ∧ (pnum l).1 = val l := by
  unfold pnum at h ⊢
  by_cases h1 : isDec l = true
  · rw [if_pos h1] at h ⊢
    by_cases h2 : 256 ≤ val l
    · rw [if_pos h2] at h; simp at h
    · rw [if_neg h2]; exact ⟨h1, by omega, rfl⟩
  · rw [if_neg h1] at h; simp at h
/-- What parses is the form of what it parses to. -/
theorem parL_inv (l : List UInt8) (h : (parL l).2.2 = 0) : ∃ k n : Nat, k < 3 ∧ n ≤ 255 ∧ parL l = ((k : Int), (n : Int), 0) ∧ l = lc k :: Lib.decDigits n := by
  cases l with
  | nil => simp [parL] at h
  | cons c r =>
    simp only [parL] at h ⊢
    by_cases hs : (spO c).2 = true
    · rw [if_pos hs] at h ⊢
      by_cases hp : (pnum r).2 = 0
      · rw [if_pos hp] at h ⊢
        obtain ⟨k, hk, hc, hk2⟩ := spO_inv c hs
        obtain ⟨h1, h2, h3⟩ := pnum_inv r hp
        have h0 := val_nonneg r (isDec_all r h1)
        refine ⟨k, (val r).toNat, hk, by omega, ?_, ?_⟩
        · rw [hk2, h3, Int.toNat_of_nonneg h0]
        · rw [p_dec_val r h1, hc]
      · rw [if_neg hp] at h; exact absurd h hp
    · rw [if_neg hs] at h; simp at h

/-- No space in the words. -/
theorem no_mnem (o : Int) (h : 0 ≤ o ∧ o ≤ 16) : (32 : UInt8) ∉ B (mnem o) := by
  have : ∀ m : Fin 17, (32 : UInt8) ∉ B (mnem (m.val : Int)) := by decide
  have e := this ⟨o.toNat, by omega⟩
  rw [show (((⟨o.toNat, by omega⟩ : Fin 17).val : Nat) : Int) = o by simp; omega] at e
  exact e
theorem no_dig {l : List UInt8} (h : l.all dgt = true) : (32 : UInt8) ∉ l := fun hm => by
  have := List.all_eq_true.1 h 32 hm
  revert this; decide
theorem no_dec (n : Nat) : (32 : UInt8) ∉ Lib.decDigits n := no_dig (isDec_all _ (isDec_d n))
theorem no_fmt (k n : Nat) : (32 : UInt8) ∉ B (lt k ++ dec n) := by
  rw [B_fmt]
  simp only [List.mem_cons, not_or]
  refine ⟨?_, no_dec n⟩
  unfold lc; split
  · decide
  · split <;> decide
theorem fmtS_inv {k n : Int} (h : (fmtS k n).size ≠ 0) : ∃ a b : Nat, a < 3 ∧ b ≤ 255 ∧ k = a ∧ n = b ∧ fmtS k n = lt a ++ dec b := by
  unfold fmtS at h ⊢
  by_cases hc : 0 ≤ k ∧ k < 3 ∧ 0 ≤ n ∧ n ≤ 255
  · rw [if_pos hc]
    exact ⟨k.toNat, n.toNat, by omega, by omega, by omega, by omega, rfl⟩
  · rw [if_neg hc] at h; exact absurd rfl h
theorem fmtS_of (a b : Nat) (ha : a < 3) (hb : b ≤ 255) : fmtS (a : Int) (b : Int) = lt a ++ dec b := by
  unfold fmtS; rw [if_pos (by omega)]; rfl
theorem fmt_pos (a b : Nat) : (lt a ++ dec b).size ≠ 0 := by
  rw [ByteArray.size_append, lt_size]; omega
theorem frm_op {o : Int} (h : frm o ≠ -1) : 0 ≤ o ∧ o ≤ 16 := by
  by_cases hc : 0 ≤ o ∧ o ≤ 16
  · exact hc
  · exact absurd (frm_neg o hc) h

/-- The words of an instruction, by its form. -/
def wof (f o k n N : Int) : List (List UInt8) :=
  if f = 0 then [B (mnem o)]
  else if f = 1 ∨ f = 3 then [B (mnem o), B (fmtS k n)]
  else if f = 2 then [B (mnem o), B (fmtS k n), B (fnum N)]
  else [B (mnem o), B (fnum N)]
/-- Has the instruction a text? -/
def has (f k n N : Int) : Prop := f ≠ -1 ∧ cln f k n N = true ∧ (f = 1 ∨ f = 2 ∨ f = 3 → (fmtS k n).size ≠ 0) ∧ (f = 2 ∨ f = 4 → (fnum N).size ≠ 0)
theorem mnem_pos {o : Int} (h : 0 ≤ o ∧ o ≤ 16) : (mnem o).size ≠ 0 := by
  have : ∀ m : Fin 17, (mnem (m.val : Int)).size ≠ 0 := by decide
  have e := this ⟨o.toNat, by omega⟩
  rw [show (((⟨o.toNat, by omega⟩ : Fin 17).val : Nat) : Int) = o by simp; omega] at e
  exact e
theorem five {o : Int} (h : frm o ≠ -1) : frm o = 0 ∨ frm o = 1 ∨ frm o = 2 ∨ frm o = 3 ∨ frm o = 4 := by
  rcases frm_in o with e | e | e | e | e | e
  · exact absurd e h
  all_goals omega
/-- The text is its words with spaces between. -/
theorem opT_words {o k n N : Int} (h : has (frm o) k n N) : B (opT o k n N) = jn (wof (frm o) o k n N) := by
  obtain ⟨h1, h2, h3, h4⟩ := h
  have h5 := five h1
  rw [opG_eq o k n N (frm o) h5 rfl h2]
  generalize frm o = f at *
  unfold opG wof
  rcases h5 with rfl | rfl | rfl | rfl | rfl
  · simp [jn]
  · have := h3 (Or.inl rfl)
    simp [jn, this, B]
  · have a := h3 (Or.inr (Or.inl rfl))
    have b := h4 (Or.inl rfl)
    simp [jn, a, b, B]
  · have := h3 (Or.inr (Or.inr rfl))
    simp [jn, this, B]
  · have := h4 (Or.inr rfl)
    simp [jn, this, B]
theorem opT_none {o k n N : Int} (h : ¬ has (frm o) k n N) : opT o k n N = ⟨#[]⟩ := by
  by_cases h1 : frm o = -1
  · exact opT_no o k n N (Or.inl h1)
  by_cases h2 : cln (frm o) k n N = true
  · rw [opG_eq o k n N (frm o) (five h1) rfl h2]
    have h5 := five h1
    unfold has at h
    generalize frm o = f at *
    unfold opG
    rcases h5 with rfl | rfl | rfl | rfl | rfl
    · exact absurd ⟨by decide, h2, by simp, by simp⟩ h
    · by_cases hz : (fmtS k n).size = 0
      · simp [hz]
      · exact absurd ⟨by decide, h2, fun _ => hz, by simp⟩ h
    · by_cases hz : (fmtS k n).size = 0
      · simp [hz]
      · by_cases hy : (fnum N).size = 0
        · simp [hz, hy]
        · exact absurd ⟨by decide, h2, fun _ => hz, fun _ => hy⟩ h
    · by_cases hz : (fmtS k n).size = 0
      · simp [hz]
      · exact absurd ⟨by decide, h2, fun _ => hz, by simp⟩ h
    · by_cases hy : (fnum N).size = 0
      · simp [hy]
      · exact absurd ⟨by decide, h2, by simp, fun _ => hy⟩ h
  · exact opT_no o k n N (Or.inr (by simpa using h2))
end Go.Proofs.YtfnmjbapjngmaaaDoor
