/- Plain facts: Parse inverts Format, Format inverts Parse, and a valid instruction has a text. Conditions: none. -/
import Derived.Test.YtfnmjbapjngmaaaDoorILP
import Derived.Test.YtfnmjbapjngmaaaDoorIO2
namespace Go.Proofs.YtfnmjbapjngmaaaDoor
open Go.RowKit

theorem wds_jn1 (a : List UInt8) (h : (32 : UInt8) ∉ a) : wds (jn [a]) = [a] := wds_plain a h
theorem wds_jn2 (a b : List UInt8) (ha : (32 : UInt8) ∉ a) (hb : (32 : UInt8) ∉ b) : wds (jn [a, b]) = [a, b] := by
  show wds (a ++ 32 :: b) = _
  rw [wds_app _ _ ha, wds_plain _ hb]
theorem wds_jn3 (a b c : List UInt8) (ha : (32 : UInt8) ∉ a) (hb : (32 : UInt8) ∉ b) (hc : (32 : UInt8) ∉ c) : wds (jn [a, b, c]) = [a, b, c] := by
  show wds (a ++ 32 :: (b ++ 32 :: c)) = _
  rw [wds_app _ _ ha, wds_app _ _ hb, wds_plain _ hc]
theorem no_fmtS (k n : Int) : (32 : UInt8) ∉ B (fmtS k n) := by
  by_cases h : (fmtS k n).size = 0
  · have : B (fmtS k n) = [] := List.eq_nil_of_length_eq_zero (by rw [size_B]; exact h)
    rw [this]; simp
  · obtain ⟨a, b, _, _, _, _, e⟩ := fmtS_inv h
    rw [e]; exact no_fmt a b
theorem no_fnum (N : Int) : (32 : UInt8) ∉ B (fnum N) := by
  unfold fnum; split
  · exact (by decide : (32 : UInt8) ∉ ([] : List UInt8))
  · exact no_dec _
theorem opT_wds {o k n N : Int} (h : has (frm o) k n N) : wds (B (opT o k n N)) = wof (frm o) o k n N := by
  rw [opT_words h]
  have hm := no_mnem o (frm_op h.1)
  have h5 := five h.1
  generalize frm o = f at *
  unfold wof
  rcases h5 with rfl | rfl | rfl | rfl | rfl
  · exact wds_jn1 _ hm
  · exact wds_jn2 _ _ hm (no_fmtS k n)
  · exact wds_jn3 _ _ _ hm (no_fmtS k n) (no_fnum N)
  · exact wds_jn2 _ _ hm (no_fmtS k n)
  · exact wds_jn2 _ _ hm (no_fnum N)
theorem parL_fmtS {k n : Int} (h : (fmtS k n).size ≠ 0) : parL (B (fmtS k n)) = (k, n, 0) := by
  obtain ⟨a, b, ha, hb, rfl, rfl, e⟩ := fmtS_inv h
  rw [e]; exact parL_fmt a b ha hb
theorem dnum_fnum {N : Int} (h : (fnum N).size ≠ 0) : dnum (B (fnum N)) = (N, true) ∧ pnumU 65535 (B (fnum N)) = (N, 0) := by
  have hN : ¬ (N < 0 ∨ 65535 < N) := fun e => h ((fnum_zero N).2 e)
  obtain ⟨u, rfl⟩ : ∃ u : Nat, N = (u : Int) := ⟨N.toNat, by omega⟩
  have e : B (fnum (u : Int)) = Lib.decDigits u := by unfold fnum; rw [if_neg hN]; rfl
  have e2 := pnumU_d 65535 u (by omega)
  rw [e]
  exact ⟨by unfold dnum; rw [e2]; rfl, e2⟩
/-- Parse inverts Format. -/
theorem opP_opT {o k n N : Int} (h : has (frm o) k n N) : opP (B (opT o k n N)) = some (o, k, n, N) := by
  unfold opP
  rw [opT_wds h]
  have hx := ixm_mnem o (frm_op h.1)
  have hf := five h.1
  obtain ⟨h1, h2, h3, h4⟩ := h
  obtain ⟨f, hff⟩ : ∃ f, frm o = f := ⟨_, rfl⟩
  rw [hff] at h1 h2 h3 h4 hf ⊢
  unfold cln at h2
  unfold wof
  rcases hf with rfl | rfl | rfl | rfl | rfl
  · simp at h2
    rw [if_pos rfl, opL_0 _ (by rw [hx, hff]), hx]
    simp [h2]
  · simp at h2
    have z := parL_fmtS (h3 (Or.inl rfl))
    rw [if_neg (by decide), if_pos (Or.inl rfl), opL_1 _ _ (Or.inl (by rw [hx, hff])), z, if_pos rfl, hx, h2]
  · have z := parL_fmtS (h3 (Or.inr (Or.inl rfl)))
    have y := (dnum_fnum (h4 (Or.inl rfl))).1
    rw [if_neg (by decide), if_neg (by decide), if_pos rfl, opL_2 _ _ _ (by rw [hx, hff]), z, y, if_pos ⟨rfl, rfl⟩, hx]
  · simp at h2
    have z := parL_fmtS (h3 (Or.inr (Or.inr rfl)))
    rw [if_neg (by decide), if_pos (Or.inr rfl), opL_1 _ _ (Or.inr (by rw [hx, hff])), z, if_pos rfl, hx, h2]
  · simp at h2
    have y := (dnum_fnum (h4 (Or.inr rfl))).1
    rw [if_neg (by decide), if_neg (by decide), if_neg (by decide), opL_4 _ _ (by rw [hx, hff]), y, if_pos rfl, hx, h2.1, h2.2]
theorem parL_back {l : List UInt8} (h : (parL l).2.2 = 0) : (fmtS (parL l).1 (parL l).2.1).size ≠ 0 ∧ B (fmtS (parL l).1 (parL l).2.1) = l := by
  obtain ⟨a, b, ha, hb, e, hl⟩ := parL_inv l h
  rw [e]
  show (fmtS (a : Int) (b : Int)).size ≠ 0 ∧ B (fmtS (a : Int) (b : Int)) = l
  rw [fmtS_of a b ha hb]
  exact ⟨fmt_pos a b, by rw [B_fmt, ← hl]⟩
theorem dnum_back {l : List UInt8} (h : (dnum l).2 = true) : (fnum (dnum l).1).size ≠ 0 ∧ B (fnum (dnum l).1) = l := by
  unfold dnum at h ⊢
  by_cases hp : (pnumU 65535 l).2 = 0
  · rw [if_pos hp]
    obtain ⟨h1, h2, h3, h4, _⟩ := pnumU_inv l hp
    have e : (((pnumU 65535 l).1, true) : Int × Bool).1 = val l := h1
    rw [e]
    have hz : ¬ (val l < 0 ∨ 65535 < val l) := by omega
    refine ⟨fun z => hz ((fnum_zero _).1 z), ?_⟩
    unfold fnum
    rw [if_neg hz]
    exact h4.symm
  · rw [if_neg hp] at h; cases h
theorem m_back {m : List UInt8} (h : frm (ixm m) ≠ -1) : m = B (mnem (ixm m)) := by
  rcases ixm_in m with e | ⟨_, _, e⟩
  · rw [e] at h; exact absurd frm_m1 h
  · exact e
/-- Format inverts Parse. -/
theorem opP_inv {l : List UInt8} {o k n N : Int} (h : opP l = some (o, k, n, N)) : has (frm o) k n N ∧ B (opT o k n N) = l := by
  have key : ∀ {o k n N : Int}, has (frm o) k n N → wof (frm o) o k n N = wds l → has (frm o) k n N ∧ B (opT o k n N) = l := fun hh hw => ⟨hh, by rw [opT_words hh, hw, jn_wds]⟩
  unfold opP at h
  match hw : wds l, h with
  | [], h => exact absurd hw (wds_ne l)
  | [m], h =>
    by_cases hf : frm (ixm m) = 0
    · rw [opL_0 _ hf] at h
      injection h with h; injection h with h1 h; injection h with h2 h; injection h with h3 h4
      subst h1 h2 h3 h4
      refine key (o := ixm m) ⟨by rw [hf]; decide, by rw [hf]; decide, by rw [hf]; simp, by rw [hf]; simp⟩ ?_
      rw [hw, hf]; unfold wof; rw [if_pos rfl, ← m_back (by rw [hf]; decide)]
    · simp only [opL] at h; rw [if_neg hf] at h; cases h
  | [m, a], h =>
    by_cases hf : frm (ixm m) = 1 ∨ frm (ixm m) = 3
    · rw [opL_1 _ _ hf] at h
      by_cases hp : (parL a).2.2 = 0
      · rw [if_pos hp] at h
        injection h with h; injection h with h1 h; injection h with h2 h; injection h with h3 h4
        subst h1 h2 h3 h4
        obtain ⟨z1, z2⟩ := parL_back hp
        have hc : cln (frm (ixm m)) (parL a).1 (parL a).2.1 0 = true := by rcases hf with e | e <;> (rw [e]; unfold cln; simp)
        refine key (o := ixm m) ⟨by omega, hc, fun _ => z1, fun e => by omega⟩ ?_
        rw [hw]; unfold wof
        rw [if_neg (by omega), if_pos hf, ← m_back (by omega), z2]
      · rw [if_neg hp] at h; cases h
    · by_cases h4 : frm (ixm m) = 4
      · rw [opL_4 _ _ h4] at h
        by_cases hp : (dnum a).2 = true
        · rw [if_pos hp] at h
          injection h with h; injection h with h1 h; injection h with h2 h; injection h with h3 h5
          subst h1 h2 h3 h5
          obtain ⟨z1, z2⟩ := dnum_back hp
          refine key (o := ixm m) ⟨by omega, by rw [h4]; unfold cln; simp, fun e => by omega, fun _ => z1⟩ ?_
          rw [hw]; unfold wof
          rw [if_neg (by omega), if_neg hf, if_neg (by omega), ← m_back (by omega), z2]
        · rw [if_neg hp] at h; cases h
      · simp only [opL] at h; rw [if_neg hf, if_neg h4] at h; cases h
  | [m, a, b], h =>
    by_cases hf : frm (ixm m) = 2
    · rw [opL_2 _ _ _ hf] at h
      by_cases hp : (parL a).2.2 = 0 ∧ (dnum b).2 = true
      · rw [if_pos hp] at h
        injection h with h; injection h with h1 h; injection h with h2 h; injection h with h3 h5
        subst h1 h2 h3 h5
        obtain ⟨z1, z2⟩ := parL_back hp.1
        obtain ⟨y1, y2⟩ := dnum_back hp.2
        refine key (o := ixm m) ⟨by omega, by rw [hf]; unfold cln; simp, fun _ => z1, fun _ => y1⟩ ?_
        rw [hw]; unfold wof
        rw [if_neg (by omega), if_neg (by omega), if_pos hf, ← m_back (by omega), z2, y2]
      · rw [if_neg hp] at h; cases h
    · simp only [opL] at h; rw [if_neg (fun e => hf e.1)] at h; cases h
  | _ :: _ :: _ :: _ :: _, h => cases h

theorem opT_pos {o k n N : Int} (h : has (frm o) k n N) : (opT o k n N).size ≠ 0 := by
  have e := opT_words h
  have hm := mnem_pos (frm_op h.1)
  intro hz
  have hn : B (opT o k n N) = [] := List.eq_nil_of_length_eq_zero (by rw [size_B]; exact hz)
  have hw := wds_jn1 [] (by simp)
  have h2 := opT_wds h
  rw [hn] at h2
  have hb : B (mnem o) ≠ [] := fun e => hm (by rw [← size_B, e]; rfl)
  unfold wof at h2
  have h3 : wds ([] : List UInt8) = [[]] := rfl
  rw [h3] at h2
  split at h2
  · injection h2 with e1 _; exact hb e1.symm
  · split at h2
    · injection h2 with e1 _; exact hb e1.symm
    · split at h2
      · injection h2 with e1 _; exact hb e1.symm
      · injection h2 with e1 _; exact hb e1.symm
theorem has_of {o k n N : Int} (h : (opT o k n N).size ≠ 0) : has (frm o) k n N := by
  by_cases hh : has (frm o) k n N
  · exact hh
  · rw [opT_none hh] at h; exact absurd rfl h
theorem opT_size (o k n N : Int) : (opT o k n N).size ≤ 1000 := by
  by_cases h : has (frm o) k n N
  · have e := opG_eq o k n N (frm o) (five h.1) rfl h.2.1
    have z1 := mnem_size o
    have z2 := fmtS_size k n
    have z3 := fnum_size N
    have sp : (ByteArray.mk #[32]).size = 1 := rfl
    have nl : (ByteArray.mk #[]).size = 0 := rfl
    rw [e]; unfold opG
    split
    · omega
    · split
      · split
        · omega
        · simp only [ByteArray.size_append]; omega
      · split
        · split
          · omega
          · split
            · omega
            · simp only [ByteArray.size_append]; omega
        · split
          · omega
          · simp only [ByteArray.size_append]; omega
  · rw [opT_none h]; decide
/-- A valid instruction has a text. -/
theorem chk_has {i q m e o k n N : Int} (h : chk i q m e o k n N 0 65535 = 0) : has (frm o) k n N := by
  unfold chk at h
  have hcs := csz_in i q m e
  have hca : cad i q m k n = 0 → csz i q m e = 0 → (fmtS k n).size ≠ 0 := by
    intro hc hs
    have hb : inB i 256 = true ∧ inB q 256 = true ∧ inB m 256 = true ∧ inB e 16384 = true := by
      unfold csz at hs
      split at hs
      · rename_i hh; simpa [and_assoc] using hh
      · cases hs
    unfold inB at hb
    simp only [decide_eq_true_eq] at hb
    unfold cad at hc
    split at hc
    · rename_i hsp
      have hk : 0 ≤ k ∧ k < 3 := by unfold isSp at hsp; exact of_decide_eq_true hsp
      split at hc
      · rename_i hn
        unfold wid at hn
        have : 0 ≤ n ∧ n ≤ 255 := by
          rcases (by omega : k = 0 ∨ k = 1 ∨ k = 2) with rfl | rfl | rfl <;> simp at hn <;> omega
        unfold fmtS
        rw [if_pos (by omega)]
        exact fmt_pos _ _
      · cases hc
    · cases hc
  have hE : csz i q m e = 0 → e ≤ 16384 := by
    intro hs
    unfold csz at hs
    split at hs
    · rename_i hh
      unfold inB at hh
      simp only [Bool.and_eq_true, decide_eq_true_eq] at hh
      omega
    · cases hs
  unfold chk1 at h
  split at h
  · cases h
  rename_i h3
  have hs0 : csz i q m e = 0 := by omega
  split at h
  · cases h
  rename_i h4
  split at h
  · cases h
  rename_i h5
  split at h
  · rename_i h6; exact absurd h h6.2
  rename_i h6
  have hc : cln (frm o) k n N = true := by simpa using h5
  unfold chk2 at h
  refine ⟨h4, hc, fun hf => hca (by
    by_cases z : cad i q m k n = 0
    · exact z
    · exact absurd ⟨by omega, z⟩ h6) hs0, fun hf => ?_⟩
  intro hz
  have hz2 := (fnum_zero N).1 hz
  have he := hE hs0
  split at h
  · cases h
  split at h
  · cases h
  rename_i h7
  split at h
  · cases h
  rename_i h8
  rcases hf with hf | hf
  · exact h7 ⟨hf, by omega⟩
  · exact h8 ⟨hf, by omega⟩
end Go.Proofs.YtfnmjbapjngmaaaDoor
