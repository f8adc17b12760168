/- Words for the verifier: the static depths, the first index that fails, what Check answers. No condition. -/
import Derived.Test.YtdiamajkfbejhaaDoorIN0
import Derived.Test.YtdiamajkfbejhaaDoorIO2
namespace Go.Proofs.YtdiamajkfbejhaaDoor
open Go.RowKit

def opA (code : List In4) (k : Nat) : Int := match code[k]? with | some x => x.op | none => 0
theorem opA_at {code : List In4} {k : Nat} {x : In4} (h : code[k]? = some x) : opA code k = x.op := by unfold opA; rw [h]
def dNx (d : Nat) (o : Int) : Nat := if o = 8 then d + 1 else if o = 9 ∨ o = 10 then d - 1 else d
def dEr (d : Nat) (o : Int) : Int := if o = 8 then (if d = 64 then 16 else 0) else if o = 9 ∨ o = 10 then (if d = 0 then 18 else 0) else 0
/-- The static depth before instruction k. -/
def dAt (code : List In4) (k : Nat) : Nat := (code.take k).foldl (fun d x => dNx d x.op) 0
theorem dAt_zero (code : List In4) : dAt code 0 = 0 := by simp [dAt]
theorem dAt_succ {code : List In4} {k : Nat} {x : In4} (h : code[k]? = some x) : dAt code (k + 1) = dNx (dAt code k) x.op := by
  unfold dAt; rw [List.take_add_one, h, List.foldl_append]; rfl
def dFl (code : List In4) (k : Nat) : Int := dEr (dAt code k) (opA code k)
theorem dFl_at {code : List In4} {k : Nat} {x : In4} (h : code[k]? = some x) : dFl code k = dEr (dAt code k) x.op := by unfold dFl; rw [opA_at h]
/-- The first number below n at which f isn't 0, else n. -/
def fst (f : Nat → Int) (n : Nat) : Nat := ((List.range n).find? (fun j => f j != 0)).getD n
theorem fst_cases (f : Nat → Int) (n : Nat) : (fst f n = n ∧ ∀ j, j < n → f j = 0) ∨ (fst f n < n ∧ (∀ j, j < fst f n → f j = 0) ∧ f (fst f n) ≠ 0) := by
  unfold fst
  cases h : (List.range n).find? (fun j => f j != 0) with
  | none =>
    left
    refine ⟨rfl, fun j hj => ?_⟩
    have := List.find?_eq_none.1 h j (List.mem_range.2 hj)
    simpa using this
  | some k =>
    right
    rw [List.find?_range_eq_some] at h
    obtain ⟨h1, h2, h3⟩ := h
    refine ⟨List.mem_range.1 h2, fun j hj => ?_, by simpa using h1⟩
    have := h3 j hj
    simpa using this
theorem fst_at {f : Nat → Int} {n k : Nat} (hk : k < n) (h : ∀ j, j < k → f j = 0) (hf : f k ≠ 0) : fst f n = k := by
  rcases fst_cases f n with ⟨_, h2⟩ | ⟨h1, h2, h3⟩
  · exact absurd (h2 k hk) hf
  · rcases Nat.lt_trichotomy (fst f n) k with hlt | he | hgt
    · exact absurd (h _ hlt) h3
    · exact he
    · exact absurd (h2 _ hgt) hf
theorem fst_none {f : Nat → Int} {n : Nat} (h : ∀ j, j < n → f j = 0) : fst f n = n := by
  rcases fst_cases f n with ⟨h1, _⟩ | ⟨h1, _, h3⟩
  · exact h1
  · exact absurd (h _ h1) h3
theorem fst_le (f : Nat → Int) (n : Nat) : fst f n ≤ n := by
  rcases fst_cases f n with ⟨h1, _⟩ | ⟨h1, _⟩ <;> omega
theorem dEr_le {d : Nat} {o : Int} (hd : d ≤ 64) (h : dEr d o = 0) : dNx d o ≤ 64 := by
  unfold dEr at h; unfold dNx
  by_cases h8 : o = 8
  · rw [if_pos h8] at h ⊢
    by_cases h64 : d = 64
    · rw [if_pos h64] at h; omega
    · omega
  · rw [if_neg h8]; split <;> omega
theorem dAt_le {code : List In4} : ∀ {k : Nat}, k ≤ code.length → (∀ j, j < k → dFl code j = 0) → dAt code k ≤ 64 := by
  intro k
  induction k with
  | zero => intro _ _; rw [dAt_zero]; omega
  | succ k ih =>
    intro hk h
    have h1 := ih (by omega) (fun j hj => h j (by omega))
    have hx : code[k]? = some code[k] := List.getElem?_eq_getElem (by omega)
    have h2 := h k (by omega)
    rw [dFl_at hx] at h2
    rw [dAt_succ hx]
    exact dEr_le h1 h2
/-- All static depths. -/
def dps (code : List In4) : List Nat := (List.range code.length).map (dAt code)
theorem dps_len (code : List In4) : (dps code).length = code.length := by simp [dps]
theorem dps_at {code : List In4} {k : Nat} (h : k < code.length) : (dps code)[k]? = some (dAt code k) := by
  simp [dps, h]
/-- The depths so far, the rest 0. -/
def dpK (code : List In4) (k : Nat) : List Nat := (List.range code.length).map fun j => if j < k then dAt code j else 0
theorem dpK_len (code : List In4) (k : Nat) : (dpK code k).length = code.length := by simp [dpK]
theorem dpK_zero (code : List In4) : dpK code 0 = List.replicate code.length 0 := by
  apply List.ext_getElem?
  intro i
  by_cases hi : i < code.length
  · simp [dpK, hi]
  · rw [List.getElem?_eq_none (by rw [dpK_len]; omega), List.getElem?_eq_none (by simp; omega)]
theorem dpK_succ {code : List In4} {k : Nat} (h : k < code.length) : (dpK code k).set k (dAt code k) = dpK code (k + 1) := by
  apply List.ext_getElem?
  intro i
  rw [List.getElem?_set]
  by_cases hi : k = i
  · subst hi
    rw [if_pos rfl]
    simp [dpK, h]
  · rw [if_neg hi]
    by_cases hl : i < code.length
    · have : (i < k) = (i < k + 1) := by simp; omega
      simp [dpK, hl, this]
    · rw [List.getElem?_eq_none (by rw [dpK_len]; omega), List.getElem?_eq_none (by rw [dpK_len]; omega)]
theorem dpK_all (code : List In4) : dpK code code.length = dps code := by
  apply List.ext_getElem?
  intro i
  by_cases hl : i < code.length
  · simp [dpK, dps, hl]
  · rw [List.getElem?_eq_none (by rw [dpK_len]; omega), List.getElem?_eq_none (by rw [dps_len]; omega)]

/-- What a jump answers. -/
def jpF (code : List In4) (k : Nat) : Int := match code[k]? with | some x => if x.op = 15 ∧ (dAt code k ≠ 0 ∨ dAt code x.t.toNat ≠ 0) then 11 else 0 | none => 0
/-- What op's Check answers at each instruction. -/
def ckF (i q m e : Int) (code : List In4) (k : Nat) : Int := match code[k]? with | some x => chk i q m e x.op x.k x.n x.t k code.length | none => 0
theorem jpF_at {code : List In4} {k : Nat} {x : In4} (h : code[k]? = some x) : jpF code k = if x.op = 15 ∧ (dAt code k ≠ 0 ∨ dAt code x.t.toNat ≠ 0) then 11 else 0 := by unfold jpF; rw [h]
theorem ckF_at {i q m e : Int} {code : List In4} {k : Nat} {x : In4} (h : code[k]? = some x) : ckF i q m e code k = chk i q m e x.op x.k x.n x.t k code.length := by unfold ckF; rw [h]
/-- The first three kinds of checks: index and error. -/
def ptA (i q m e : Int) (code : List In4) : Nat × Int :=
  if csz i q m e ≠ 0 then (0, csz i q m e) else if code.length = 0 then (0, 4) else if 65535 < code.length then (0, 7)
  else (fst (ckF i q m e code) code.length, if fst (ckF i q m e code) code.length < code.length then ckF i q m e code (fst (ckF i q m e code) code.length) else 0)
def mxD (code : List In4) : Nat := (dps code).foldl max 0
/-- Check's three answers. -/
def ckA (i q m e : Int) (code : List In4) : Nat × Nat × Int :=
  if (ptA i q m e code).2 ≠ 0 then (0, (ptA i q m e code).1, (ptA i q m e code).2)
  else if fst (dFl code) code.length < code.length then (0, fst (dFl code) code.length, dFl code (fst (dFl code) code.length))
  else if fst (jpF code) code.length < code.length then (0, fst (jpF code) code.length, 11)
  else if opA code (code.length - 1) ≠ 16 then (0, code.length, 5)
  else (mxD code, code.length, 0)
/-- When the jumps may be looked at, each target is an index. -/
theorem ptA_ok {i q m e : Int} {code : List In4} (h : (ptA i q m e code).2 = 0) : csz i q m e = 0 ∧ 0 < code.length ∧ code.length ≤ 65535 ∧ (∀ j, j < code.length → ckF i q m e code j = 0) ∧ (ptA i q m e code).1 = code.length := by
  unfold ptA at h ⊢
  by_cases h1 : csz i q m e ≠ 0
  · rw [if_pos h1] at h; exact absurd h h1
  · rw [if_neg h1] at h ⊢
    by_cases h2 : code.length = 0
    · rw [if_pos h2] at h; exact absurd h (by decide)
    · rw [if_neg h2] at h ⊢
      by_cases h3 : 65535 < code.length
      · rw [if_pos h3] at h; exact absurd h (by decide)
      · rw [if_neg h3] at h ⊢
        rcases fst_cases (ckF i q m e code) code.length with ⟨e1, e2⟩ | ⟨e1, _, e3⟩
        · refine ⟨by omega, by omega, by omega, e2, e1⟩
        · rw [if_pos e1] at h; exact absurd h e3
theorem chk_jump {i q m e k n N a many : Int} (h : chk i q m e 15 k n N a many = 0) : 0 ≤ N ∧ N < many := by
  have hf : frm 15 = 4 := by decide
  unfold chk chk1 at h
  rw [hf] at h
  split at h
  · omega
  · rw [if_neg (by decide)] at h
    split at h
    · omega
    · rw [if_neg (by omega)] at h
      unfold chk2 at h
      rw [if_neg (by omega), if_neg (by omega)] at h
      split at h
      · omega
      · omega
theorem ptA_jump {i q m e : Int} {code : List In4} (h : (ptA i q m e code).2 = 0) {k : Nat} {x : In4} (hx : code[k]? = some x) (ho : x.op = 15) : 0 ≤ x.t ∧ x.t < (code.length : Int) := by
  have h1 := (ptA_ok h).2.2.2.1 k (List.getElem?_eq_some_iff.1 hx).1
  rw [ckF_at hx, ho] at h1
  exact chk_jump h1
end Go.Proofs.YtdiamajkfbejhaaDoor
