/- Plain facts on numerals: a numeral without leading zeros denotes one number, and each number has one numeral. Conditions: none. -/
import Derived.Test.YtfkjggghlkondaaDoorK
namespace Go.Proofs.YtfkjggghlkondaaDoor
open Go.RowKit

theorem dgt_of (c : UInt8) (h : dgt c = true) : c = UInt8.ofNat (48 + (c.toNat - 48)) ∧ 48 ≤ c.toNat ∧ c.toNat ≤ 57 := by
  have := (dgt_iff c).1 h
  refine ⟨?_, by omega, by omega⟩
  rw [show 48 + (c.toNat - 48) = c.toNat by omega]; simp

theorem isDec_snoc {m : List UInt8} {c : UInt8} (hm : m ≠ []) (h : isDec (m ++ [c]) = true) : isDec m = true ∧ dgt c = true ∧ m.head? ≠ some 48 := by
  unfold isDec at h ⊢
  simp only [Bool.and_eq_true, List.all_append, Bool.not_eq_true', List.all_cons, List.all_nil, Bool.and_true] at h
  obtain ⟨⟨h1, h2⟩, h3, h4⟩ := h
  have hh : (m ++ [c]).head? = m.head? := by cases m with | nil => exact absurd rfl hm | cons a r => rfl
  rw [hh] at h2
  have hl : 1 < (m ++ [c]).length := by cases m with | nil => exact absurd rfl hm | cons a r => simp
  have hz : (m.head? == some 48) = false := by
    cases hq : (m.head? == some 48) with
    | false => rfl
    | true => rw [hq] at h2; simp at h2; exact absurd h2 (by simpa using hm)
  refine ⟨?_, h4, by simpa using hz⟩
  rw [hz, h3]; simp; exact hm

theorem val_pos (m : List UInt8) (hm : m ≠ []) (hd : isDec m = true) (hz : m.head? ≠ some 48) : 1 ≤ val m := by
  cases m with
  | nil => exact absurd rfl hm
  | cons a r =>
    have hall := isDec_all _ hd
    have h1 := val_append_le [a] r hall
    have ha : dgt a = true := by simp only [List.all_cons, Bool.and_eq_true] at hall; exact hall.1
    have := (dgt_iff a).1 ha
    have hne : a.toNat ≠ 48 := fun e => hz (by simp; exact UInt8.toNat.inj e)
    have e : val [a] = (a.toNat : Int) - 48 := by simp [val]
    have : val [a] ≤ val (a :: r) := h1
    omega

/-- A numeral is its number's numeral. -/
theorem dec_val (l : List UInt8) : isDec l = true → Lib.decDigits (val l).toNat = l := by
  refine snocInd (p := fun l => isDec l = true → Lib.decDigits (val l).toNat = l) (fun h => by simp [isDec] at h) ?_ l
  intro m c ih h
  by_cases hm : m = []
  · subst hm
    have hc := dgt_of c (by have := isDec_all _ h; simpa using this)
    have e : val ([] ++ [c]) = (c.toNat : Int) - 48 := by simp [val]
    rw [e, show ((c.toNat : Int) - 48).toNat = c.toNat - 48 by omega, Lib.decDigits_one (by omega), ← hc.1]; rfl
  · obtain ⟨h1, h2, h3⟩ := isDec_snoc hm h
    have hp := val_pos m hm h1 h3
    have hc := dgt_of c h2
    rw [val_snoc]
    rw [show (10 * val m + ((c.toNat : Int) - 48)).toNat = 10 * (val m).toNat + (c.toNat - 48) by omega]
    rw [Lib.decDigits, dif_neg (by omega)]
    rw [show (10 * (val m).toNat + (c.toNat - 48)) / 10 = (val m).toNat by omega, show (10 * (val m).toNat + (c.toNat - 48)) % 10 = c.toNat - 48 by omega, ih h1, ← hc.1]

theorem pnum_dec (n : Nat) (h : n ≤ 255) : pnum (Lib.decDigits n) = ((n : Int), 0) := by
  have : ∀ m : Fin 256, pnum (Lib.decDigits m.val) = ((m.val : Int), 0) := by decide +kernel
  exact this ⟨n, by omega⟩
theorem isDec_dec (n : Nat) (h : n ≤ 255) : isDec (Lib.decDigits n) = true := by
  have : ∀ m : Fin 256, isDec (Lib.decDigits m.val) = true := by decide +kernel
  exact this ⟨n, by omega⟩
theorem val_dec (n : Nat) (h : n ≤ 255) : val (Lib.decDigits n) = n := by
  have : ∀ m : Fin 256, val (Lib.decDigits m.val) = (m.val : Int) := by decide +kernel
  exact this ⟨n, by omega⟩

/-- The byte of a space's letter. -/
def lc (k : Nat) : UInt8 := if k = 0 then 73 else if k = 1 then 81 else 77
theorem B_lt (k : Nat) : B (lt k) = [lc k] := by
  unfold lt lc; split
  · rfl
  · split <;> rfl
theorem spO_lc (k : Nat) (h : k < 3) : spO (lc k) = ((k : Int), true) := by
  rcases (by omega : k = 0 ∨ k = 1 ∨ k = 2) with rfl | rfl | rfl <;> decide
theorem spO_inv (c : UInt8) (h : (spO c).2 = true) : ∃ k : Nat, k < 3 ∧ c = lc k ∧ (spO c).1 = k := by
  unfold spO at h ⊢
  by_cases h0 : c = 73
  · exact ⟨0, by omega, h0, by rw [if_pos h0]; rfl⟩
  · by_cases h1 : c = 81
    · exact ⟨1, by omega, h1, by rw [if_neg h0, if_pos h1]; rfl⟩
    · by_cases h2 : c = 77
      · exact ⟨2, by omega, h2, by rw [if_neg h0, if_neg h1, if_pos h2]; rfl⟩
      · rw [if_neg h0, if_neg h1, if_neg h2] at h; cases h
theorem B_fmt (k n : Nat) : B (lt k ++ dec n) = lc k :: Lib.decDigits n := by
  rw [B_append, B_lt]; rfl
theorem parL_fmt (k n : Nat) (hk : k < 3) (hn : n ≤ 255) : parL (B (lt k ++ dec n)) = ((k : Int), (n : Int), 0) := by
  rw [B_fmt]; simp [parL, spO_lc k hk, pnum_dec n hn]
theorem pnum_inv (l : List UInt8) (h : (pnum l).2 = 0) : isDec l = true ∧ val l < 256 ∧ (pnum l).1 = val l := by
  unfold pnum at h ⊢
  by_cases h1 : isDec l = true
  · rw [if_pos h1] at h ⊢
    by_cases h2 : 256 ≤ val l
    · rw [if_pos h2] at h; simp at h
    · rw [if_neg h2]; exact ⟨h1, by omega, rfl⟩
  · rw [if_neg h1] at h; simp at h
/-- What parses is the form of what it parses to. -/
theorem parL_inv (l : List UInt8) (h : (parL l).2.2 = 0) : ∃ k n : Nat, k < 3 ∧ n ≤ 255 ∧ parL l = ((k : Int), (n : Int), 0) ∧ l = lc k :: Lib.decDigits n := by
  cases l with
  | nil => simp [parL] at h
  | cons c r =>
    simp only [parL] at h ⊢
    by_cases hs : (spO c).2 = true
    · rw [if_pos hs] at h ⊢
      by_cases hp : (pnum r).2 = 0
      · rw [if_pos hp] at h ⊢
        obtain ⟨k, hk, hc, hk2⟩ := spO_inv c hs
        obtain ⟨h1, h2, h3⟩ := pnum_inv r hp
        have h0 := val_nonneg r (isDec_all r h1)
        refine ⟨k, (val r).toNat, hk, by omega, ?_, ?_⟩
        · rw [hk2, h3, Int.toNat_of_nonneg h0]
        · rw [dec_val r h1, hc]
      · rw [if_neg hp] at h; exact absurd h hp
    · rw [if_neg hs] at h; simp at h
theorem parL_bad (l : List UInt8) (h : (parL l).2.2 ≠ 0) : (parL l).1 = 0 ∧ (parL l).2.1 = 0 := by
  cases l with
  | nil => simp [parL]
  | cons c r =>
    simp only [parL] at h ⊢
    by_cases hs : (spO c).2 = true
    · rw [if_pos hs] at h ⊢
      by_cases hp : (pnum r).2 = 0
      · rw [if_pos hp] at h; simp at h
      · rw [if_neg hp]; simp
    · rw [if_neg hs]; simp
end Go.Proofs.YtfkjggghlkondaaDoor
