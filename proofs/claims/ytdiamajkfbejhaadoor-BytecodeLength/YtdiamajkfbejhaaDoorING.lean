/- Valid programs, and two of them one behind the other. No condition. -/
import Derived.Test.YtdiamajkfbejhaaDoorIN1
namespace Go.Proofs.YtdiamajkfbejhaaDoor
open Go.RowKit

/-- What validity says. -/
structure Vd (i q m e : Int) (code : List In4) : Prop where
  sz : csz i q m e = 0
  pos : 0 < code.length
  big : code.length ≤ 65535
  ck : ∀ j, j < code.length → ckF i q m e code j = 0
  dp : ∀ j, j < code.length → dFl code j = 0
  jp : ∀ j, j < code.length → jpF code j = 0
  la : opA code (code.length - 1) = 16
theorem Vd.of {i q m e : Int} {code : List In4} (h : (ckA i q m e code).2.2 = 0) : Vd i q m e code := by
  unfold ckA at h
  by_cases hp : (ptA i q m e code).2 ≠ 0
  · rw [if_pos hp] at h; exact absurd h hp
  · rw [if_neg hp] at h
    obtain ⟨h1, h2, h3, h4, _⟩ := ptA_ok (Decidable.not_not.1 hp)
    rcases fst_cases (dFl code) code.length with ⟨e1, e2⟩ | ⟨e1, _, e3⟩
    · rw [if_neg (by omega)] at h
      rcases fst_cases (jpF code) code.length with ⟨g1, g2⟩ | ⟨g1, _, _⟩
      · rw [if_neg (by omega)] at h
        by_cases hl : opA code (code.length - 1) = 16
        · exact ⟨h1, h2, h3, h4, e2, g2, hl⟩
        · rw [if_pos hl] at h; exact absurd h (by simp)
      · rw [if_pos g1] at h; exact absurd h (by simp)
    · rw [if_pos e1] at h; exact absurd h e3
theorem Vd.pt {i q m e : Int} {code : List In4} (h : Vd i q m e code) : ptA i q m e code = (code.length, 0) := by
  have h1 := h.sz
  have h2 := h.pos
  have h3 := h.big
  unfold ptA
  rw [if_neg (by omega), if_neg (by omega), if_neg (by omega), fst_none h.ck, if_neg (by omega)]
theorem Vd.ans {i q m e : Int} {code : List In4} (h : Vd i q m e code) : ckA i q m e code = (mxD code, code.length, 0) := by
  have h1 := h.la
  unfold ckA
  rw [h.pt, if_neg (by simp), fst_none h.dp, if_neg (by omega), fst_none h.jp, if_neg (by omega), if_neg (by omega)]
theorem Vd.jump {i q m e : Int} {code : List In4} (h : Vd i q m e code) {k : Nat} {x : In4} (hx : code[k]? = some x) (ho : x.op = 15) : 0 ≤ x.t ∧ x.t < (code.length : Int) :=
  ptA_jump (by rw [h.pt]) hx ho
theorem frm_four {o : Int} (h : frm o = 4) : o = 15 := by
  unfold frm at h
  by_cases h1 : o < 0 ∨ 16 < o
  · rw [if_pos h1] at h; omega
  · rw [if_neg h1] at h
    by_cases h2 : o ≤ 5
    · rw [if_pos h2] at h; omega
    · rw [if_neg h2] at h
      by_cases h3 : o ≤ 7
      · rw [if_pos h3] at h; omega
      · rw [if_neg h3] at h
        by_cases h4 : 11 ≤ o ∧ o ≤ 14
        · rw [if_pos h4] at h; omega
        · rw [if_neg h4] at h
          by_cases h5 : o = 15
          · exact h5
          · rw [if_neg h5] at h; omega
/-- Only a jump's check looks at its place and the program's length. -/
theorem chk_else {i q m e o k n N a a' b b' : Int} (ho : o ≠ 15) : chk i q m e o k n N a b = chk i q m e o k n N a' b' := by
  have hf : frm o ≠ 4 := fun h => ho (frm_four h)
  unfold chk chk1 chk2
  have e1 : ∀ p : Prop, (frm o = 4 ∧ p) = False := fun p => by simp [hf]
  simp only [e1, if_false]
theorem chk_jmp {i q m e k n t a b : Int} : chk i q m e 15 k n t a b = 0 ↔ csz i q m e = 0 ∧ k = 0 ∧ n = 0 ∧ 0 ≤ t ∧ t < b ∧ a < t := by
  have hf : frm 15 = 4 := by decide
  have hc : csz i q m e = 0 ∨ csz i q m e = 3 := csz_in i q m e
  unfold chk chk1 chk2
  rw [hf]
  have hcl : cln 4 k n t = (decide (k = 0) && decide (n = 0)) := by unfold cln; simp
  rw [hcl]
  rcases hc with hc | hc
  · rw [hc, if_neg (by decide), if_neg (by decide)]
    by_cases hk : k = 0 ∧ n = 0
    · obtain ⟨rfl, rfl⟩ := hk
      rw [if_neg (by simp), if_neg (by omega), if_neg (by omega), if_neg (by omega)]
      by_cases h1 : t < 0 ∨ b ≤ t
      · rw [if_pos ⟨rfl, h1⟩]; constructor <;> intro h <;> omega
      · rw [if_neg (by omega)]
        by_cases h2 : t ≤ a
        · rw [if_pos ⟨rfl, h2⟩]; constructor <;> intro h <;> omega
        · rw [if_neg (by omega)]; constructor
          · intro _; omega
          · intro _; rfl
    · have hkf : (decide (k = 0) && decide (n = 0)) = false := by
        by_cases h1 : k = 0
        · have h2 : ¬ n = 0 := fun h2 => hk ⟨h1, h2⟩
          simp [h2]
        · simp [h1]
      rw [if_pos hkf]; constructor <;> intro h <;> omega
  · rw [hc, if_pos rfl]; constructor <;> intro h <;> omega

/-- The second program's instructions, their targets moved on by n. -/
def shf (n : Nat) (x : In4) : In4 := ⟨x.op, x.k, x.n, if x.op = 15 then x.t + n else x.t⟩
def cat (n : Nat) (p q : List In4) : List In4 := p.take n ++ q.map (shf n)
section
variable {i q m e : Int} {p r : List In4} {n : Nat}
theorem cat_len (hn : p.length = n + 1) : (cat n p r).length = n + r.length := by simp [cat, hn]
theorem cat_lo (hn : p.length = n + 1) {j : Nat} (h : j < n) : (cat n p r)[j]? = p[j]? := by
  unfold cat; rw [List.getElem?_append_left (by simp; omega), List.getElem?_take, if_pos h]
theorem cat_hi (hn : p.length = n + 1) {j : Nat} : (cat n p r)[n + j]? = (r[j]?).map (shf n) := by
  unfold cat; rw [List.getElem?_append_right (by simp; omega)]; simp [hn]
theorem dAt_step (code : List In4) (k : Nat) (h : k < code.length) : dAt code (k + 1) = dNx (dAt code k) (opA code k) := by
  have hx : code[k]? = some code[k] := List.getElem?_eq_getElem h
  rw [dAt_succ hx, opA_at hx]
theorem opA_eq {a b : List In4} {j k : Nat} (h : (a[j]?).map (·.op) = (b[k]?).map (·.op)) : opA a j = opA b k := by
  have e : ∀ (c : List In4) (l : Nat), opA c l = ((c[l]?).map (·.op)).getD 0 := fun c l => by
    unfold opA; cases c[l]? <;> rfl
  rw [e, e, h]
theorem cat_op_lo (hn : p.length = n + 1) {j : Nat} (h : j < n) : opA (cat n p r) j = opA p j := opA_eq (by rw [cat_lo hn h])
theorem cat_op_hi (hn : p.length = n + 1) {j : Nat} : opA (cat n p r) (n + j) = opA r j := opA_eq (by
  rw [cat_hi hn, Option.map_map]; rfl)
theorem cat_d_lo (hn : p.length = n + 1) : ∀ {j : Nat}, j ≤ n → dAt (cat n p r) j = dAt p j := by
  intro j
  induction j with
  | zero => intro _; rw [dAt_zero, dAt_zero]
  | succ j ih =>
    intro h
    rw [dAt_step _ _ (by rw [cat_len hn]; omega), dAt_step _ _ (by omega), ih (by omega), cat_op_lo hn (by omega)]
theorem cat_d_hi (hn : p.length = n + 1) (h0 : dAt p n = 0) : ∀ {j : Nat}, j ≤ r.length → dAt (cat n p r) (n + j) = dAt r j := by
  intro j
  induction j with
  | zero => intro _; rw [dAt_zero, Nat.add_zero, cat_d_lo hn (Nat.le_refl _), h0]
  | succ j ih =>
    intro h
    rw [← Nat.add_assoc, dAt_step _ _ (by rw [cat_len hn]; omega), dAt_step _ _ (by omega), ih (by omega), cat_op_hi hn]
theorem foldl_max_from (l : List Nat) : ∀ a, l.foldl max a = max a (l.foldl max 0) := by
  induction l with
  | nil => intro a; simp
  | cons y l ih => intro a; rw [List.foldl_cons, List.foldl_cons, ih (max a y), ih (max 0 y)]; omega
theorem mx_eq (code : List In4) : mxD code = ((List.range code.length).map (dAt code)).foldl max 0 := rfl
theorem cat_mx (hn : p.length = n + 1) (h0 : dAt p n = 0) : mxD (cat n p r) = max (mxD p) (mxD r) := by
  rw [mx_eq, mx_eq p, mx_eq r, cat_len hn, hn, List.range_add, List.map_append, List.foldl_append, List.range_succ, List.map_append, List.foldl_append]
  have e1 : (List.range n).map (dAt (cat n p r)) = (List.range n).map (dAt p) := List.map_congr_left fun j hj => cat_d_lo hn (by have := List.mem_range.1 hj; omega)
  have e2 : ((List.range r.length).map (n + ·)).map (dAt (cat n p r)) = (List.range r.length).map (dAt r) := by
    rw [List.map_map]
    exact List.map_congr_left fun j hj => cat_d_hi hn h0 (by have := List.mem_range.1 hj; omega)
  rw [e1, e2, foldl_max_from]
  simp only [List.map_cons, List.map_nil, List.foldl_cons, List.foldl_nil, h0]
  omega
theorem cat_ok (hn : p.length = n + 1) (h0 : dAt p n = 0) (hp : Vd i q m e p) (hr : Vd i q m e r) (hb : n + r.length ≤ 65535) : Vd i q m e (cat n p r) := by
  have hl := cat_len (r := r) hn
  have hrp := hr.pos
  have split : ∀ j, j < (cat n p r).length → j < n ∨ ∃ j', j = n + j' ∧ j' < r.length := fun j hj => by
    by_cases h : j < n
    · exact .inl h
    · exact .inr ⟨j - n, by omega, by omega⟩
  refine ⟨hp.sz, by omega, by omega, fun j hj => ?_, fun j hj => ?_, fun j hj => ?_, ?_⟩
  · rcases split j hj with h | ⟨j', rfl, h⟩
    · obtain ⟨x, hx⟩ : ∃ x, p[j]? = some x := ⟨p[j], List.getElem?_eq_getElem (by omega)⟩
      have h1 := hp.ck j (by omega)
      rw [ckF_at hx] at h1
      rw [ckF_at (cat_lo hn h |>.trans hx)]
      by_cases ho : x.op = 15
      · rw [ho] at h1 ⊢
        rw [chk_jmp] at h1 ⊢
        omega
      · rw [chk_else ho, h1]
    · obtain ⟨x, hx⟩ : ∃ x, r[j']? = some x := ⟨r[j'], List.getElem?_eq_getElem h⟩
      have h1 := hr.ck j' h
      rw [ckF_at hx] at h1
      rw [ckF_at (show (cat n p r)[n + j']? = some (shf n x) by rw [cat_hi hn, hx]; rfl)]
      by_cases ho : x.op = 15
      · simp only [shf, ho, if_true]
        rw [ho] at h1
        rw [chk_jmp] at h1 ⊢
        omega
      · simp only [shf, ho, if_false]
        rw [chk_else ho, h1]
  · rcases split j hj with h | ⟨j', rfl, h⟩
    · have h1 := hp.dp j (by omega)
      unfold dFl at h1 ⊢
      rwa [cat_d_lo hn (by omega), cat_op_lo hn h]
    · have h1 := hr.dp j' h
      unfold dFl at h1 ⊢
      rwa [cat_d_hi hn h0 (by omega), cat_op_hi hn]
  · rcases split j hj with h | ⟨j', rfl, h⟩
    · obtain ⟨x, hx⟩ : ∃ x, p[j]? = some x := ⟨p[j], List.getElem?_eq_getElem (by omega)⟩
      have h1 := hp.jp j (by omega)
      rw [jpF_at hx] at h1
      rw [jpF_at (cat_lo hn h |>.trans hx)]
      by_cases ho : x.op = 15
      · have hj' := hp.jump hx ho
        rwa [cat_d_lo hn (by omega), cat_d_lo hn (by omega)]
      · rw [if_neg fun h => ho h.1]
    · obtain ⟨x, hx⟩ : ∃ x, r[j']? = some x := ⟨r[j'], List.getElem?_eq_getElem h⟩
      have h1 := hr.jp j' h
      rw [jpF_at hx] at h1
      rw [jpF_at (show (cat n p r)[n + j']? = some (shf n x) by rw [cat_hi hn, hx]; rfl)]
      by_cases ho : x.op = 15
      · have hj' := hr.jump hx ho
        simp only [shf, ho, if_true]
        rw [ho] at h1
        have et : (x.t + (n : Int)).toNat = n + x.t.toNat := by omega
        rw [cat_d_hi hn h0 (by omega), et, cat_d_hi hn h0 (by omega)]
        simpa using h1
      · simp only [shf, ho, if_false]
        rw [if_neg fun h => h.1]
  · have e1 : (cat n p r).length - 1 = n + (r.length - 1) := by omega
    rw [e1, cat_op_hi hn, hr.la]
end
end Go.Proofs.YtdiamajkfbejhaaDoor
