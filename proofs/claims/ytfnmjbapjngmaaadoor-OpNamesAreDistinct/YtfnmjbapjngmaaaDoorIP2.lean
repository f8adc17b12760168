/- The words of a text, what strings.SplitN makes of it, and the instruction that a text spells. Conditions: none. -/
import Derived.Test.YtfnmjbapjngmaaaDoorIP1
import Derived.Lib.SplitLaws
namespace Go.Proofs.YtfnmjbapjngmaaaDoor
open Go.RowKit

/-- The words between spaces. -/
def wds : List UInt8 → List (List UInt8)
  | [] => [[]]
  | c :: r => if c = 32 then [] :: wds r else match wds r with
    | [] => [[c]]
    | h :: t => (c :: h) :: t
theorem wds_ne (l : List UInt8) : wds l ≠ [] := by
  cases l with
  | nil => simp [wds]
  | cons c r => unfold wds; split; simp; split <;> simp
theorem wds_plain (l : List UInt8) (h : (32 : UInt8) ∉ l) : wds l = [l] := by
  induction l with
  | nil => rfl
  | cons c r ih =>
    simp only [List.mem_cons, not_or] at h
    rw [wds, if_neg (fun e => h.1 e.symm), ih h.2]
theorem wds_app (a b : List UInt8) (h : (32 : UInt8) ∉ a) : wds (a ++ 32 :: b) = a :: wds b := by
  induction a with
  | nil => simp [wds]
  | cons c r ih =>
    simp only [List.mem_cons, not_or] at h
    rw [List.cons_append, wds, if_neg (fun e => h.1 e.symm), ih h.2]
/-- A word holds no space. -/
theorem wds_word (l : List UInt8) : ∀ x ∈ wds l, (32 : UInt8) ∉ x := by
  induction l with
  | nil => intro x hx; simp [wds] at hx; subst hx; simp
  | cons c r ih =>
    intro x hx
    rw [wds] at hx
    by_cases hc : c = 32
    · rw [if_pos hc] at hx
      rcases List.mem_cons.1 hx with rfl | hx
      · simp
      · exact ih x hx
    · rw [if_neg hc] at hx
      cases hw : wds r with
      | nil => exact absurd hw (wds_ne r)
      | cons a t =>
        rw [hw] at hx ih
        rcases List.mem_cons.1 hx with rfl | hx
        · have := ih a (by simp)
          simp only [List.mem_cons, not_or]
          exact ⟨fun e => hc e.symm, this⟩
        · exact ih x (by simp [hx])
theorem wds_len (l : List UInt8) : (wds l).length ≤ l.length + 1 := by
  induction l with
  | nil => simp [wds]
  | cons c r ih =>
    rw [wds]
    by_cases hc : c = 32
    · rw [if_pos hc]; simp; omega
    · rw [if_neg hc]
      cases hw : wds r with
      | nil => simp
      | cons a t => rw [hw] at ih; simp at ih ⊢; omega
/-- A text is its words with spaces between. -/
def jn : List (List UInt8) → List UInt8
  | [] => []
  | [a] => a
  | a :: b :: t => a ++ 32 :: jn (b :: t)
theorem jn_wds (l : List UInt8) : jn (wds l) = l := by
  induction l with
  | nil => rfl
  | cons c r ih =>
    rw [wds]
    by_cases hc : c = 32
    · rw [if_pos hc]
      cases hw : wds r with
      | nil => exact absurd hw (wds_ne r)
      | cons a t => rw [hw] at ih; simp only [jn]; rw [ih, hc]; rfl
    · rw [if_neg hc]
      cases hw : wds r with
      | nil => exact absurd hw (wds_ne r)
      | cons a t =>
        rw [hw] at ih
        simp only
        cases t with
        | nil => simp only [jn] at ih ⊢; rw [ih]
        | cons b t => simp only [jn] at ih ⊢; rw [List.cons_append, ih]

theorem ix_nil : Lib.index [] [32] = -1 := rfl
theorem ix_hit (r : List UInt8) : Lib.index (32 :: r) [32] = 0 := by rw [Lib.index]; simp [List.isPrefixOf]
theorem ix_miss (c : UInt8) (r : List UInt8) (h : c ≠ 32) : Lib.index (c :: r) [32] = if Lib.index r [32] == -1 then -1 else Lib.index r [32] + 1 := by
  rw [Lib.index, if_neg (by simp [List.isPrefixOf, Ne.symm h])]
/-- What SplitN makes, against the words. -/
theorem split_wds : ∀ (k : Nat) (l : List UInt8), (Lib.splitK [32] 0 k l).length = min (k + 1) (wds l).length ∧ (Lib.splitK [32] 0 k l).take k = (wds l).take k ∧ ((wds l).length ≤ k + 1 → Lib.splitK [32] 0 k l = wds l) := by
  intro k
  induction k with
  | zero =>
    intro l
    have h1 : 1 ≤ (wds l).length := by
      cases h : wds l with
      | nil => exact absurd h (wds_ne l)
      | cons a t => simp
    refine ⟨by simp [Lib.splitK]; omega, by simp, fun h => ?_⟩
    have := jn_wds l
    cases hw : wds l with
    | nil => exact absurd hw (wds_ne l)
    | cons a t =>
      rw [hw] at h this
      have : t = [] := by cases t with | nil => rfl | cons b t => simp at h
      subst this
      simp only [jn] at *
      rw [Lib.splitK]; simp_all
  | succ k ih =>
    intro l
    induction l with
    | nil => refine ⟨by rw [Lib.splitK, if_pos (by rw [ix_nil]; rfl)]; simp [wds], by rw [Lib.splitK, if_pos (by rw [ix_nil]; rfl)]; rfl, fun _ => by rw [Lib.splitK, if_pos (by rw [ix_nil]; rfl)]; rfl⟩
    | cons c r ih2 =>
      by_cases hc : c = 32
      · subst hc
        have e : Lib.splitK [32] 0 (k + 1) (32 :: r) = [] :: Lib.splitK [32] 0 k r := by
          rw [Lib.splitK, if_neg (by rw [ix_hit]; decide), ix_hit]; simp
        rw [e]
        have ew : wds (32 :: r) = [] :: wds r := by rw [wds, if_pos rfl]
        rw [ew]
        obtain ⟨i1, i2, i3⟩ := ih r
        refine ⟨by simp only [List.length_cons, i1]; omega, by simp only [List.take_succ_cons, i2], fun h => by rw [i3 (by simpa using h)]⟩
      · obtain ⟨i1, i2, i3⟩ := ih2
        have e : ∃ h t, Lib.splitK [32] 0 (k + 1) r = h :: t ∧ Lib.splitK [32] 0 (k + 1) (c :: r) = (c :: h) :: t := by
          by_cases hm : Lib.index r [32] = -1
          · refine ⟨r, [], ?_, ?_⟩
            · rw [Lib.splitK, if_pos (by rw [hm]; rfl)]
            · rw [Lib.splitK, if_pos (by rw [ix_miss c r hc, hm]; rfl)]
          · have hge := Lib.index_ge r [32]
            refine ⟨r.take (Lib.index r [32]).toNat, Lib.splitK [32] 0 k (r.drop ((Lib.index r [32]).toNat + 1)), ?_, ?_⟩
            · rw [Lib.splitK, if_neg (by simpa using hm)]; simp
            · have hix : Lib.index (c :: r) [32] = Lib.index r [32] + 1 := by rw [ix_miss c r hc, if_neg (by simpa using hm)]
              rw [Lib.splitK, hix, if_neg (by rw [beq_iff_eq]; omega)]
              have : (Lib.index r [32] + 1).toNat = (Lib.index r [32]).toNat + 1 := by omega
              rw [this]; simp
        obtain ⟨h, t, e1, e2⟩ := e
        rw [e2]
        rw [e1] at i1 i2 i3
        have ew : ∃ a s, wds r = a :: s ∧ wds (c :: r) = (c :: a) :: s := by
          cases hw : wds r with
          | nil => exact absurd hw (wds_ne r)
          | cons a s => exact ⟨a, s, rfl, by rw [wds, if_neg hc, hw]⟩
        obtain ⟨a, s, w1, w2⟩ := ew
        rw [w2]
        rw [w1] at i1 i2 i3
        refine ⟨by simpa using i1, ?_, fun hl => ?_⟩
        · simp only [List.take_succ_cons, List.cons.injEq] at i2
          obtain ⟨rfl, i2⟩ := i2
          rw [List.take_succ_cons, List.take_succ_cons, i2]
        · have := i3 (by simpa using hl)
          simp only [List.cons.injEq] at this
          obtain ⟨rfl, rfl⟩ := this
          rfl

theorem wds_le (l : List UInt8) : ∀ x ∈ wds l, x.length ≤ l.length := by
  induction l with
  | nil => intro x hx; simp [wds] at hx; subst hx; simp
  | cons c r ih =>
    intro x hx
    rw [wds] at hx
    by_cases hc : c = 32
    · rw [if_pos hc] at hx
      rcases List.mem_cons.1 hx with rfl | hx
      · simp
      · have := ih x hx; simp; omega
    · rw [if_neg hc] at hx
      cases hw : wds r with
      | nil => exact absurd hw (wds_ne r)
      | cons a t =>
        rw [hw] at hx ih
        rcases List.mem_cons.1 hx with rfl | hx
        · have := ih a (by simp); simp; omega
        · have := ih x (by simp [hx]); simp; omega
theorem wds_sizes (t : ByteArray) : ∀ x ∈ wds (B t), ∀ y : ByteArray, B y = x → y.size ≤ t.size := fun x hx y hy => by
  have := wds_le (B t) x hx
  rw [← hy, size_B, size_B] at this
  exact this

/-- The opcode of a mnemonic among the first k, or -1. -/
def fnd : Nat → List UInt8 → Int
  | 0, _ => -1
  | k + 1, l => if B (nms.getD k ⟨#[]⟩) = l then (k : Int) else fnd k l
def ixm (l : List UInt8) : Int := fnd 17 l
theorem fnd_in : ∀ (k : Nat) (l : List UInt8), fnd k l = -1 ∨ (0 ≤ fnd k l ∧ fnd k l < k ∧ l = B (mnem (fnd k l)))
  | 0, _ => Or.inl rfl
  | k + 1, l => by
    unfold fnd
    split
    · rename_i h; exact Or.inr ⟨by omega, by omega, by unfold mnem; rw [← h]; simp⟩
    · rcases fnd_in k l with h | h
      · exact Or.inl h
      · exact Or.inr ⟨h.1, by omega, h.2.2⟩
theorem ixm_in (l : List UInt8) : ixm l = -1 ∨ (0 ≤ ixm l ∧ ixm l ≤ 16 ∧ l = B (mnem (ixm l))) := by
  rcases fnd_in 17 l with h | h
  · exact Or.inl h
  · exact Or.inr ⟨h.1, by have := h.2.1; unfold ixm; omega, h.2.2⟩
theorem ixm_mnem (o : Int) (h : 0 ≤ o ∧ o ≤ 16) : ixm (B (mnem o)) = o := by
  have : ∀ m : Fin 17, ixm (B (mnem (m.val : Int))) = (m.val : Int) := by decide +kernel
  have e := this ⟨o.toNat, by omega⟩
  rw [show (((⟨o.toNat, by omega⟩ : Fin 17).val : Nat) : Int) = o by simp; omega] at e
  exact e
/-- The first hit is the only one. -/
theorem ixm_first (k : Nat) (hk : k < 17) (l : List UInt8) (h : B (mnem (k : Int)) = l) : ixm l = k := by
  rw [← h]; exact ixm_mnem k (by omega)

/-- The instruction that a text spells, if any. -/
def opL (ws : List (List UInt8)) : Option (Int × Int × Int × Int) := match ws with
  | [m] => if frm (ixm m) = 0 then some (ixm m, 0, 0, 0) else none
  | [m, a] =>
    if frm (ixm m) = 1 ∨ frm (ixm m) = 3 then (if (parL a).2.2 = 0 then some (ixm m, (parL a).1, (parL a).2.1, 0) else none)
    else if frm (ixm m) = 4 then (if (pnumU 65535 a).2 = 0 then some (ixm m, 0, 0, (pnumU 65535 a).1) else none)
    else none
  | [m, a, n] => if frm (ixm m) = 2 ∧ (parL a).2.2 = 0 ∧ (pnumU 65535 n).2 = 0 then some (ixm m, (parL a).1, (parL a).2.1, (pnumU 65535 n).1) else none
  | _ => none
def opP (l : List UInt8) : Option (Int × Int × Int × Int) := opL (wds l)
/-- The four numbers and the code of an answer. -/
def rs (r : Option (Int × Int × Int × Int)) : Int × Int × Int × Int × Int := match r with
  | some (o, k, n, N) => (o, k, n, N, 0)
  | none => (0, 0, 0, 0, 6)
theorem opL_long (ws : List (List UInt8)) (h : 4 ≤ ws.length) : opL ws = none := by
  match ws, h with
  | a :: b :: c :: d :: t, _ => rfl
theorem frm_m1 : frm (-1) = -1 := by decide
end Go.Proofs.YtfnmjbapjngmaaaDoor
