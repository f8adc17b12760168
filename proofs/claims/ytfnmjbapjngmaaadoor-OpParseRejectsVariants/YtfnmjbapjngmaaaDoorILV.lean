/- Plain facts: a text with an extra space, an extra letter, one word too many or too few spells no instruction. Conditions: none. -/
import Derived.Test.YtfnmjbapjngmaaaDoorILR
namespace Go.Proofs.YtfnmjbapjngmaaaDoor
open Go.RowKit

theorem wds_app2 (a b : List UInt8) : wds (a ++ 32 :: b) = wds a ++ wds b := by
  induction a with
  | nil => simp [wds]
  | cons c r ih =>
    rw [List.cons_append, wds, wds]
    by_cases hc : c = 32
    · rw [if_pos hc, if_pos hc, ih]; rfl
    · rw [if_neg hc, if_neg hc, ih]
      cases hw : wds r with
      | nil => exact absurd hw (wds_ne r)
      | cons x t => rfl
theorem wof_len (f o k n N : Int) (h : f = 0 ∨ f = 1 ∨ f = 2 ∨ f = 3 ∨ f = 4) : ∃ r, wof f o k n N = B (mnem o) :: r ∧ r.length = nop f := by
  unfold wof
  rcases h with rfl | rfl | rfl | rfl | rfl
  · exact ⟨[], rfl, rfl⟩
  · exact ⟨_, rfl, rfl⟩
  · exact ⟨_, rfl, rfl⟩
  · exact ⟨_, rfl, rfl⟩
  · exact ⟨_, rfl, rfl⟩
theorem ixm_nil : ixm [] = -1 := by decide
theorem v_tail {o k n N : Int} (h : has (frm o) k n N) (x : List UInt8) (hx : (32 : UInt8) ∉ x) : opP (B (opT o k n N) ++ 32 :: x) = none := by
  unfold opP
  rw [wds_app2, opT_wds h, wds_plain x hx]
  obtain ⟨r, hr, hl⟩ := wof_len (frm o) o k n N (five h.1)
  rw [hr]
  refine opL_bad _ _ (Or.inr ?_)
  rw [ixm_mnem o (frm_op h.1)]
  show (r ++ [x]).length ≠ nop (frm o)
  rw [List.length_append, hl]
  simp
theorem v_front (l : List UInt8) : opP (32 :: l) = none := by
  unfold opP
  rw [show wds (32 :: l) = [] :: wds l by rw [wds, if_pos rfl]]
  exact opL_bad _ _ (Or.inl ixm_nil)
theorem ixm_x (o : Int) (h : 0 ≤ o ∧ o ≤ 16) : ixm (88 :: B (mnem o)) = -1 ∧ ixm (B (mnem o) ++ [120]) = -1 := by
  have : ∀ m : Fin 17, ixm (88 :: B (mnem (m.val : Int))) = -1 ∧ ixm (B (mnem (m.val : Int)) ++ [120]) = -1 := by decide +kernel
  have e := this ⟨o.toNat, by omega⟩
  rw [show (((⟨o.toNat, by omega⟩ : Fin 17).val : Nat) : Int) = o by simp; omega] at e
  exact e
theorem v_letter {o k n N : Int} (h : has (frm o) k n N) : opP (88 :: B (opT o k n N)) = none := by
  unfold opP
  obtain ⟨r, hr, hl⟩ := wof_len (frm o) o k n N (five h.1)
  have e : wds (88 :: B (opT o k n N)) = (88 :: B (mnem o)) :: r := by
    rw [wds, if_neg (by decide), opT_wds h, hr]
  rw [e]
  exact opL_bad _ _ (Or.inl (ixm_x o (frm_op h.1)).1)
theorem not_dig_last (l : List UInt8) : (l ++ [120]).all dgt = false := by
  rw [List.all_append]
  have : ([120] : List UInt8).all dgt = false := by decide
  rw [this, Bool.and_false]
theorem parL_x (l : List UInt8) (hl : l ≠ []) : (parL (l ++ [120])).2.2 ≠ 0 := by
  intro h
  obtain ⟨k, n, hk, _, _, e⟩ := parL_inv _ h
  cases l with
  | nil => exact hl rfl
  | cons c r =>
    rw [List.cons_append] at e
    injection e with _ e
    have := isDec_all _ (isDec_d n)
    rw [← e, not_dig_last] at this
    cases this
theorem dnum_x (l : List UInt8) : (dnum (l ++ [120])).2 ≠ true := by
  intro h
  unfold dnum at h
  by_cases hp : (pnumU 65535 (l ++ [120])).2 = 0
  · obtain ⟨_, _, _, _, hd⟩ := pnumU_inv _ hp
    have := isDec_all _ hd
    rw [not_dig_last] at this
    cases this
  · rw [if_neg hp] at h; cases h
theorem not_x {l : List UInt8} (h : (32 : UInt8) ∉ l) : (32 : UInt8) ∉ l ++ [120] := by
  intro hm
  rcases List.mem_append.1 hm with hm | hm
  · exact h hm
  · revert hm; decide
theorem v_end {o k n N : Int} (h : has (frm o) k n N) : opP (B (opT o k n N) ++ [120]) = none := by
  have hb := opT_words h
  have hm := no_mnem o (frm_op h.1)
  have hx := ixm_mnem o (frm_op h.1)
  have hf := five h.1
  have nk := no_fmtS k n
  have nn := no_fnum N
  have z1 := ixm_x o (frm_op h.1)
  obtain ⟨_, _, h3, h4⟩ := h
  obtain ⟨f, hff⟩ : ∃ f, frm o = f := ⟨_, rfl⟩
  rw [hff] at hb hf h3 h4
  unfold wof at hb
  unfold opP
  rcases hf with rfl | rfl | rfl | rfl | rfl
  · rw [if_pos rfl] at hb
    have e : wds (B (opT o k n N) ++ [120]) = [B (mnem o) ++ [120]] := by rw [hb]; exact wds_jn1 _ (not_x hm)
    rw [e]; exact opL_bad _ _ (Or.inl z1.2)
  · rw [if_neg (by decide), if_pos (Or.inl rfl)] at hb
    have e : wds (B (opT o k n N) ++ [120]) = [B (mnem o), B (fmtS k n) ++ [120]] := by
      rw [hb]
      have := wds_jn2 _ _ hm (not_x nk)
      rw [← this]; simp [jn]
    have ne : B (fmtS k n) ≠ [] := fun z => h3 (Or.inl rfl) (by rw [← size_B, z]; rfl)
    rw [e, opL_1 _ _ (Or.inl (by rw [hx, hff])), if_neg (parL_x _ ne)]
  · rw [if_neg (by decide), if_neg (by decide), if_pos rfl] at hb
    have e : wds (B (opT o k n N) ++ [120]) = [B (mnem o), B (fmtS k n), B (fnum N) ++ [120]] := by
      rw [hb]
      have := wds_jn3 _ _ _ hm nk (not_x nn)
      rw [← this]; simp [jn]
    rw [e, opL_2 _ _ _ (by rw [hx, hff]), if_neg (fun z => dnum_x _ z.2)]
  · rw [if_neg (by decide), if_pos (Or.inr rfl)] at hb
    have e : wds (B (opT o k n N) ++ [120]) = [B (mnem o), B (fmtS k n) ++ [120]] := by
      rw [hb]
      have := wds_jn2 _ _ hm (not_x nk)
      rw [← this]; simp [jn]
    have ne : B (fmtS k n) ≠ [] := fun z => h3 (Or.inr (Or.inr rfl)) (by rw [← size_B, z]; rfl)
    rw [e, opL_1 _ _ (Or.inr (by rw [hx, hff])), if_neg (parL_x _ ne)]
  · rw [if_neg (by decide), if_neg (by decide), if_neg (by decide)] at hb
    have e : wds (B (opT o k n N) ++ [120]) = [B (mnem o), B (fnum N) ++ [120]] := by
      rw [hb]
      have := wds_jn2 _ _ hm (not_x nn)
      rw [← this]; simp [jn]
    rw [e, opL_4 _ _ (by rw [hx, hff]), if_neg (dnum_x _)]

/-- The last space among the first k bytes, or 0. -/
def lsp (l : List UInt8) : Nat → Nat
  | 0 => 0
  | k + 1 => if l[k]? = some 32 then k else lsp l k
theorem lsp_none (l : List UInt8) (h : (32 : UInt8) ∉ l) : ∀ k, lsp l k = 0
  | 0 => rfl
  | k + 1 => by
    rw [lsp, if_neg (fun e => h (List.mem_of_getElem? e))]
    exact lsp_none l h k
theorem lsp_some (p q : List UInt8) (h : (32 : UInt8) ∉ q) : ∀ j, j ≤ q.length → lsp (p ++ 32 :: q) (p.length + 1 + j) = p.length
  | 0, _ => by
    show lsp _ (p.length + 1) = _
    rw [lsp, if_pos (by rw [List.getElem?_append_right (Nat.le_refl _)]; simp)]
  | j + 1, hj => by
    show lsp _ (p.length + 1 + j + 1) = _
    rw [lsp, if_neg]
    · exact lsp_some p q h j (by omega)
    · rw [List.getElem?_append_right (by omega), show p.length + 1 + j - p.length = j + 1 by omega, List.getElem?_cons_succ]
      exact fun e => h (List.mem_of_getElem? e)
theorem lsp_le (l : List UInt8) : ∀ k, lsp l k ≤ k
  | 0 => Nat.le_refl _
  | k + 1 => by rw [lsp]; split; omega; have := lsp_le l k; omega
theorem lsp_lt (l : List UInt8) : ∀ k, 0 < k → lsp l k < k
  | 0, h => by omega
  | k + 1, _ => by rw [lsp]; split; omega; have := lsp_le l k; omega
theorem cut1 (p q : List UInt8) (h : (32 : UInt8) ∉ q) : (p ++ 32 :: q).take (lsp (p ++ 32 :: q) (p ++ 32 :: q).length) = p := by
  have e : (p ++ 32 :: q).length = p.length + 1 + q.length := by simp; omega
  rw [e, lsp_some p q h q.length (Nat.le_refl _), List.take_left]
theorem v_cut {o k n N : Int} (h : has (frm o) k n N) : opP ((B (opT o k n N)).take (lsp (B (opT o k n N)) (B (opT o k n N)).length)) = none := by
  have hb := opT_words h
  have hm := no_mnem o (frm_op h.1)
  have hx := ixm_mnem o (frm_op h.1)
  have hf := five h.1
  have nk := no_fmtS k n
  have nn := no_fnum N
  obtain ⟨f, hff⟩ : ∃ f, frm o = f := ⟨_, rfl⟩
  rw [hff] at hb hf
  unfold wof at hb
  have one : opP (B (mnem o)) = none ∨ frm o = 0 := by
    by_cases z : frm o = 0
    · exact Or.inr z
    · left
      unfold opP
      rw [wds_plain _ hm]
      exact opL_bad _ _ (Or.inr (by rw [hx]; unfold nop; rw [if_neg z]; split <;> simp))
  have two1 : ∀ a q : List UInt8, (32 : UInt8) ∉ q → B (opT o k n N) = a ++ 32 :: q → opP a = none → opP ((B (opT o k n N)).take (lsp (B (opT o k n N)) (B (opT o k n N)).length)) = none := by
    intro a q hq e ha
    rw [e, cut1 a q hq]; exact ha
  rcases hf with rfl | rfl | rfl | rfl | rfl
  · rw [if_pos rfl] at hb
    have e : B (opT o k n N) = B (mnem o) := hb
    rw [e, lsp_none _ hm, List.take_zero]
    exact opL_bad _ _ (Or.inl ixm_nil)
  · rw [if_neg (by decide), if_pos (Or.inl rfl)] at hb
    exact two1 _ _ nk hb (one.resolve_right (by rw [hff]; decide))
  · rw [if_neg (by decide), if_neg (by decide), if_pos rfl] at hb
    refine two1 (B (mnem o) ++ 32 :: B (fmtS k n)) _ nn (by rw [hb]; simp [jn]) ?_
    unfold opP
    rw [wds_app _ _ hm, wds_plain _ nk]
    exact opL_bad _ _ (Or.inr (by rw [hx, hff]; simp [nop]))
  · rw [if_neg (by decide), if_pos (Or.inr rfl)] at hb
    exact two1 _ _ nk hb (one.resolve_right (by rw [hff]; decide))
  · rw [if_neg (by decide), if_neg (by decide), if_neg (by decide)] at hb
    exact two1 _ _ nn hb (one.resolve_right (by rw [hff]; decide))
end Go.Proofs.YtfnmjbapjngmaaaDoor
