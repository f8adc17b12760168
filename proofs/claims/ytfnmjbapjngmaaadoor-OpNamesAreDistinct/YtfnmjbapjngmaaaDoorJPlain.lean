/- Plain functions on lists of bytes: what the functions of package addr and of its reference compute. Conditions: none. -/
import Derived.WalkKit
import Derived.WalkSpells
import Derived.Lib.ItoaNum
namespace Go.Proofs.YtfnmjbapjngmaaaDoor

/-- The bytes of a Go string. -/
abbrev B (s : ByteArray) : List UInt8 := s.data.toList
def dgt (c : UInt8) : Bool := 48 ≤ c && c ≤ 57
def isDec (l : List UInt8) : Bool := !l.isEmpty && !(decide (1 < l.length) && l.head? == some 48) && l.all dgt

theorem size_B (s : ByteArray) : (B s).length = s.size := by unfold B; rw [Array.length_toList]; rfl
theorem getB (s : ByteArray) (k : Nat) (h : k < s.size) : (B s)[k]'(by rw [size_B]; exact h) = s[k] := by
  unfold B; rw [Array.getElem_toList]; rfl
theorem isEmptyB (s : ByteArray) : s.toList.isEmpty = decide (s.size = 0) := by
  rw [← decide_eq_emptyBytes]
  apply decide_eq_decide.2
  constructor
  · rintro rfl; rfl
  · intro h; cases s with | mk d => simp [ByteArray.size] at h; subst h; rfl
theorem isEmpty_yes (s : ByteArray) (h : s.size = 0) : s.toList.isEmpty = true := by rw [isEmptyB]; simpa using h
theorem isEmpty_no (s : ByteArray) (h : s.size ≠ 0) : s.toList.isEmpty = false := by rw [isEmptyB]; simpa using h

theorem dgt_iff (c : UInt8) : dgt c = true ↔ 48 ≤ (c.toNat : Int) ∧ (c.toNat : Int) ≤ 57 := by
  unfold dgt; simp [UInt8.le_iff_toNat_le]; omega
theorem dgt_no (c : UInt8) (h : (c.toNat : Int) < 48 ∨ 57 < (c.toNat : Int)) : dgt c = false := by
  rw [← Bool.not_eq_true, dgt_iff]; omega

theorem all_take_succ (s : ByteArray) (k : Nat) (h : k < s.size) (h1 : ((B s).take k).all dgt = true) (h2 : dgt s[k] = true) : ((B s).take (k + 1)).all dgt = true := by
  have hk : k < (B s).length := by rw [size_B]; exact h
  rw [List.take_succ_eq_append_getElem hk, List.all_append, h1, getB s k h]
  simp [h2]
theorem all_false (s : ByteArray) (k : Nat) (h : k < s.size) (h2 : dgt s[k] = false) : (B s).all dgt = false := by
  rw [List.all_eq_false]
  exact ⟨s[k], by rw [← getB s k h]; exact List.getElem_mem _, by simp [h2]⟩
theorem isDec_nil (s : ByteArray) (h : s.size = 0) : isDec (B s) = false := by
  have : (B s) = [] := List.eq_nil_of_length_eq_zero (by rw [size_B]; exact h)
  rw [this]; rfl
theorem head_B (s : ByteArray) (h : 0 < s.size) : (B s).head? = some s[0] := by
  rw [List.head?_eq_getElem?, List.getElem?_eq_getElem (by rw [size_B]; exact h), getB s 0 h]
theorem isDec_zero (s : ByteArray) (h : 1 < s.size) (hz : s[0].toNat = 48) : isDec (B s) = false := by
  have e : s[0] = 48 := UInt8.toNat.inj hz
  unfold isDec; rw [head_B s (by omega), e, size_B]; simp [h]
theorem isDec_else (s : ByteArray) (h0 : 0 < s.size) (h : s.size ≤ 1 ∨ s[0].toNat ≠ 48) : isDec (B s) = (B s).all dgt := by
  unfold isDec
  have e1 : (B s).isEmpty = false := by rw [List.isEmpty_eq_false_iff]; intro e; have := size_B s; rw [e] at this; simp at this; omega
  rw [e1, head_B s h0, size_B]
  rcases h with h | h
  · have : decide (1 < s.size) = false := by simp; omega
    rw [this]; simp
  · have : (some s[0] == some (48 : UInt8)) = false := by
      simp; intro e; exact h (by rw [e]; rfl)
    rw [this]; simp

/-- The number that a list of digits denotes. -/
def val (l : List UInt8) : Int := l.foldl (fun n c => 10 * n + ((c.toNat : Int) - 48)) 0
theorem val_snoc (l : List UInt8) (c : UInt8) : val (l ++ [c]) = 10 * val l + ((c.toNat : Int) - 48) := by
  unfold val; rw [List.foldl_append]; rfl
theorem snocInd {α : Type} {p : List α → Prop} (h0 : p []) (h1 : ∀ l a, p l → p (l ++ [a])) (l : List α) : p l := by
  have : ∀ m : List α, p m.reverse := by
    intro m
    induction m with
    | nil => exact h0
    | cons a m ih => rw [List.reverse_cons]; exact h1 _ _ ih
  have := this l.reverse
  rwa [List.reverse_reverse] at this
theorem val_nonneg (l : List UInt8) (h : l.all dgt = true) : 0 ≤ val l := by
  revert h
  refine snocInd (p := fun l => l.all dgt = true → 0 ≤ val l) (fun _ => by decide) ?_ l
  · intro l c ih h
    rw [List.all_append] at h
    simp at h
    rw [val_snoc]
    have := ih (by simpa using h.1)
    have := (dgt_iff c).1 h.2
    omega
theorem val_append_le (l m : List UInt8) (h : (l ++ m).all dgt = true) : val l ≤ val (l ++ m) := by
  revert h
  refine snocInd (p := fun m => (l ++ m).all dgt = true → val l ≤ val (l ++ m)) (fun _ => by simp) ?_ m
  · intro m c ih h
    rw [← List.append_assoc] at h ⊢
    rw [List.all_append] at h
    simp only [Bool.and_eq_true, List.all_cons, List.all_nil, Bool.and_true] at h
    rw [val_snoc]
    have := ih h.1
    have := val_nonneg _ h.1
    have := (dgt_iff c).1 h.2
    omega
theorem val_take_le (l : List UInt8) (k : Nat) (h : l.all dgt = true) : val (l.take k) ≤ val l := by
  have := val_append_le (l.take k) (l.drop k) (by rw [List.take_append_drop]; exact h)
  rwa [List.take_append_drop] at this
theorem val_succ (s : ByteArray) (k : Nat) (h : k < s.size) : val ((B s).take (k + 1)) = 10 * val ((B s).take k) + ((s[k].toNat : Int) - 48) := by
  rw [List.take_succ_eq_append_getElem (by rw [size_B]; exact h), val_snoc, getB s k h]
theorem all_take (l : List UInt8) (k : Nat) (h : l.all dgt = true) : (l.take k).all dgt = true := by
  rw [List.all_eq_true] at h ⊢; exact fun x hx => h x (List.mem_of_mem_take hx)
theorem dgt_at (s : ByteArray) (k : Nat) (h : k < s.size) (ha : (B s).all dgt = true) : 48 ≤ (s[k].toNat : Int) ∧ (s[k].toNat : Int) ≤ 57 := by
  rw [← dgt_iff]; rw [List.all_eq_true] at ha; exact ha _ (by rw [← getB s k h]; exact List.getElem_mem _)
theorem isDec_all (l : List UInt8) (h : isDec l = true) : l.all dgt = true := by
  unfold isDec at h; simp only [Bool.and_eq_true] at h; exact h.2

/-- What parseNumber and the reference's Number at 255 answer: a number and a code. -/
def pnum (l : List UInt8) : Int × Int := if isDec l then (if 256 ≤ val l then (0, 3) else (val l, 0)) else (0, 6)
theorem pnum_no (l : List UInt8) (h : isDec l = false) : pnum l = (0, 6) := by unfold pnum; rw [h]; rfl
theorem pnum_big (l : List UInt8) (h : isDec l = true) (hv : 256 ≤ val l) : pnum l = (0, 3) := by unfold pnum; rw [if_pos h, if_pos hv]
theorem pnum_ok (l : List UInt8) (h : isDec l = true) (hv : val l < 256) : pnum l = (val l, 0) := by unfold pnum; rw [if_pos h, if_neg (by omega)]
end Go.Proofs.YtfnmjbapjngmaaaDoor
