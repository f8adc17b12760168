/- Plain facts on decimal numerals of any size. Conditions: none. -/
import Derived.Test.YtfnmjbapjngmaaaDoorIO5
import Derived.Test.YtfnmjbapjngmaaaDoorIO3
import Derived.Lib.AtoiTie
namespace Go.Proofs.YtfnmjbapjngmaaaDoor
open Go.RowKit

theorem p_dgt_of (c : UInt8) (h : dgt c = true) : c = UInt8.ofNat (48 + (c.toNat - 48)) ∧ 48 ≤ c.toNat ∧ c.toNat ≤ 57 := by
  have := (dgt_iff c).1 h
  refine ⟨?_, by omega, by omega⟩
  rw [show 48 + (c.toNat - 48) = c.toNat by omega]; simp
theorem p_isDec_snoc {m : List UInt8} {c : UInt8} (hm : m ≠ []) (h : isDec (m ++ [c]) = true) : isDec m = true ∧ dgt c = true ∧ m.head? ≠ some 48 := by
  unfold isDec at h ⊢
  simp only [Bool.and_eq_true, List.all_append, Bool.not_eq_true', List.all_cons, List.all_nil, Bool.and_true] at h
  obtain ⟨⟨h1, h2⟩, h3, h4⟩ := h
  have hh : (m ++ [c]).head? = m.head? := by cases m with | nil => exact absurd rfl hm | cons a r => rfl
  rw [hh] at h2
  have hl : 1 < (m ++ [c]).length := by cases m with | nil => exact absurd rfl hm | cons a r => simp
  have hz : (m.head? == some 48) = false := by
    cases hq : (m.head? == some 48) with
    | false => rfl
    | true => rw [hq] at h2; simp at h2; exact absurd h2 (by simpa using hm)
  refine ⟨?_, h4, by simpa using hz⟩
  rw [hz, h3]; simp; exact hm
theorem p_val_pos (m : List UInt8) (hm : m ≠ []) (hd : isDec m = true) (hz : m.head? ≠ some 48) : 1 ≤ val m := by
  cases m with
  | nil => exact absurd rfl hm
  | cons a r =>
    have hall := isDec_all _ hd
    have h1 := val_append_le [a] r hall
    have ha : dgt a = true := by simp only [List.all_cons, Bool.and_eq_true] at hall; exact hall.1
    have := (dgt_iff a).1 ha
    have hne : a.toNat ≠ 48 := fun e => hz (by simp; exact UInt8.toNat.inj e)
    have e : val [a] = (a.toNat : Int) - 48 := by simp [val]
    have : val [a] ≤ val (a :: r) := h1
    omega
/-- A numeral is its number's numeral. -/
theorem p_dec_val (l : List UInt8) : isDec l = true → Lib.decDigits (val l).toNat = l := by
  refine snocInd (p := fun l => isDec l = true → Lib.decDigits (val l).toNat = l) (fun h => by simp [isDec] at h) ?_ l
  intro m c ih h
  by_cases hm : m = []
  · subst hm
    have hc := p_dgt_of c (by have := isDec_all _ h; simpa using this)
    have e : val ([] ++ [c]) = (c.toNat : Int) - 48 := by simp [val]
    rw [e, show ((c.toNat : Int) - 48).toNat = c.toNat - 48 by omega, Lib.decDigits_one (by omega), ← hc.1]; rfl
  · obtain ⟨h1, h2, h3⟩ := p_isDec_snoc hm h
    have hp := p_val_pos m hm h1 h3
    have hc := p_dgt_of c h2
    rw [val_snoc]
    rw [show (10 * val m + ((c.toNat : Int) - 48)).toNat = 10 * (val m).toNat + (c.toNat - 48) by omega]
    rw [Lib.decDigits, dif_neg (by omega)]
    rw [show (10 * (val m).toNat + (c.toNat - 48)) / 10 = (val m).toNat by omega, show (10 * (val m).toNat + (c.toNat - 48)) % 10 = c.toNat - 48 by omega, ih h1, ← hc.1]

theorem ofd (d : Nat) (h : d < 10) : dgt (UInt8.ofNat (48 + d)) = true ∧ ((UInt8.ofNat (48 + d)).toNat : Int) - 48 = d ∧ (UInt8.ofNat (48 + d) = 48 → d = 0) := by
  have : ∀ m : Fin 10, dgt (UInt8.ofNat (48 + m.val)) = true ∧ ((UInt8.ofNat (48 + m.val)).toNat : Int) - 48 = m.val ∧ (UInt8.ofNat (48 + m.val) = 48 → m.val = 0) := by decide
  exact this ⟨d, h⟩
theorem dd_pos : ∀ (k n : Nat), n ≤ k → 1 ≤ n → Lib.decDigits n ≠ [] ∧ (Lib.decDigits n).head? ≠ some 48 ∧ (Lib.decDigits n).all dgt = true ∧ val (Lib.decDigits n) = n := by
  intro k
  induction k with
  | zero => intro n h h1; omega
  | succ k ih =>
    intro n hn h1
    by_cases h : n < 10
    · obtain ⟨d1, d2, d3⟩ := ofd n h
      rw [Lib.decDigits_one h]
      refine ⟨by simp, ?_, by rw [List.all_cons, d1]; rfl, ?_⟩
      · simp only [List.head?_cons]
        intro e; injection e with e; have := d3 e; omega
      · simp only [val, List.foldl_cons, List.foldl_nil]; omega
    · obtain ⟨q1, q2, q3, q4⟩ := ih (n / 10) (by omega) (by omega)
      obtain ⟨d1, d2, d3⟩ := ofd (n % 10) (by omega)
      rw [Lib.decDigits, dif_neg h]
      refine ⟨by simp, ?_, by rw [List.all_append, q3, List.all_cons, d1]; rfl, ?_⟩
      · cases hl : Lib.decDigits (n / 10) with
        | nil => exact absurd hl q1
        | cons a r => rw [hl] at q2; simpa using q2
      · rw [val_snoc, q4, d2]; omega
theorem isDec_d (n : Nat) : isDec (Lib.decDigits n) = true := by
  rcases Nat.eq_zero_or_pos n with rfl | h
  · rw [Lib.decDigits_one (by decide)]; decide
  · obtain ⟨q1, q2, q3, q4⟩ := dd_pos n n (Nat.le_refl _) h
    unfold isDec
    rw [q3]
    have e : ((Lib.decDigits n).head? == some 48) = false := by simpa using q2
    have e2 : (Lib.decDigits n).isEmpty = false := by simpa using q1
    rw [e, e2]; simp
theorem val_d (n : Nat) : val (Lib.decDigits n) = n := by
  rcases Nat.eq_zero_or_pos n with rfl | h
  · rw [Lib.decDigits_one (by decide)]; decide
  · exact (dd_pos n n (Nat.le_refl _) h).2.2.2
theorem pnumU_d (most : Int) (n : Nat) (h : (n : Int) ≤ most) : pnumU most (Lib.decDigits n) = ((n : Int), 0) := by
  rw [pnumU_ok _ (isDec_d n) (by rw [val_d]; omega), val_d]
theorem pnumU_inv {most : Int} (l : List UInt8) (h : (pnumU most l).2 = 0) : (pnumU most l).1 = val l ∧ 0 ≤ val l ∧ val l ≤ most ∧ l = Lib.decDigits (val l).toNat ∧ isDec l = true := by
  unfold pnumU at h ⊢
  by_cases h1 : isDec l = true
  · rw [if_pos h1] at h ⊢
    by_cases h2 : most < val l
    · rw [if_pos h2] at h; simp at h
    · rw [if_neg h2]; exact ⟨rfl, val_nonneg l (isDec_all l h1), by omega, (p_dec_val l h1).symm, h1⟩
  · rw [if_neg h1] at h; simp at h

/-- What strconv.Atoi makes of a small numeral. -/
theorem fold_ge : ∀ (l : List UInt8) (a : Int), 0 ≤ a → l.all dgt = true → a ≤ l.foldl (fun n c => 10 * n + ((c.toNat : Int) - 48)) a := by
  intro l
  induction l with
  | nil => intro a _ _; exact Int.le_refl _
  | cons c r ih =>
    intro a ha h
    simp only [List.all_cons, Bool.and_eq_true] at h
    have hc := (dgt_iff c).1 h.1
    have := ih (10 * a + ((c.toNat : Int) - 48)) (by omega) h.2
    simp only [List.foldl_cons]
    omega
theorem pu_small : ∀ (l : List UInt8) (a : Nat), l.all dgt = true → l.foldl (fun n c => 10 * n + ((c.toNat : Int) - 48)) (a : Int) ≤ 65535 → Lib.parseUint10 a l = .ok (l.foldl (fun n c => 10 * n + ((c.toNat : Int) - 48)) (a : Int)).toNat := by
  intro l
  induction l with
  | nil => intro a _ _; simp [Lib.parseUint10]
  | cons c r ih =>
    intro a h hle
    simp only [List.all_cons, Bool.and_eq_true] at h
    have hc := (dgt_iff c).1 h.1
    simp only [List.foldl_cons] at hle ⊢
    have hge := fold_ge r (10 * (a : Int) + ((c.toNat : Int) - 48)) (by omega) h.2
    have e : (10 * (a : Int) + ((c.toNat : Int) - 48)) = ((a * 10 + (c.toNat - 48) : Nat) : Int) := by omega
    rw [e] at hle hge ⊢
    have := ih (a * 10 + (c.toNat - 48)) h.2 hle
    rw [Lib.parseUint10, if_pos (by omega), if_neg (by omega), if_neg (by omega)]
    exact this
theorem atoi_num (l : List UInt8) (h : isDec l = true) (hv : val l ≤ 65535) : Lib.atoiAll l = .ok (val l) := by
  have ha := isDec_all l h
  have h0 := val_nonneg l ha
  cases l with
  | nil => simp [isDec] at h
  | cons c r =>
    have hc : dgt c = true := by simp only [List.all_cons, Bool.and_eq_true] at ha; exact ha.1
    have hd := (dgt_iff c).1 hc
    have := pu_small (c :: r) 0 ha hv
    rw [Lib.atoiAll_plain c r (by omega) (by omega)]
    unfold Lib.parseMag
    rw [if_neg (by simp), this]
    have e : (List.foldl (fun n c => 10 * n + ((c.toNat : Int) - 48)) ((0 : Nat) : Int) (c :: r)) = val (c :: r) := rfl
    rw [e]
    simp only [Lib.signless]
    rw [if_neg (by omega), Int.toNat_of_nonneg h0]

/-- What the number of an assembly text is: the number and whether there is one. -/
def dnum (l : List UInt8) : Int × Bool := if (pnumU 65535 l).2 = 0 then ((pnumU 65535 l).1, true) else (0, false)
def fnum (v : Int) : ByteArray := if v < 0 ∨ 65535 < v then ⟨#[]⟩ else dec v.toNat
theorem dnum_yes (s : ByteArray) (v : Int) (h : Lib.atoiAll (B s) = .ok v) (he : fnum v = s) : dnum (B s) = (v, true) := by
  unfold fnum at he
  by_cases hv : v < 0 ∨ 65535 < v
  · rw [if_pos hv] at he; subst he
    have h2 : (Lib.NumEnd.ofOption none : Lib.NumEnd Int) = Lib.NumEnd.ok v := h
    cases h2
  · rw [if_neg hv] at he; subst he
    have e : B (dec v.toNat) = Lib.decDigits v.toNat := rfl
    unfold dnum
    rw [e, pnumU_d 65535 v.toNat (by omega)]
    simp; omega
theorem dnum_no (s : ByteArray) (h : ∀ v, Lib.atoiAll (B s) = .ok v → fnum v ≠ s) : dnum (B s) = (0, false) := by
  unfold dnum
  by_cases hp : (pnumU 65535 (B s)).2 = 0
  · exfalso
    obtain ⟨h1, h2, h3, h4, h5⟩ := pnumU_inv (B s) hp
    refine h (val (B s)) (atoi_num _ h5 h3) ?_
    unfold fnum
    rw [if_neg (by omega)]
    refine B_inj ?_
    rw [show B (dec (val (B s)).toNat) = Lib.decDigits (val (B s)).toNat from rfl, ← h4]
  · rw [if_neg hp]
theorem fnum_size (v : Int) : (fnum v).size ≤ 20 := by
  unfold fnum; split
  · decide
  · exact dec_le _ (by omega)
end Go.Proofs.YtfnmjbapjngmaaaDoor
