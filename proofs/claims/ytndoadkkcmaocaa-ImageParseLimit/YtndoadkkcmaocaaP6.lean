/- Plain facts on lists of bools: what Parse makes of Format's text and back; flipping the places of a difference. Conditions: none. -/
import Derived.Test.YtndoadkkcmaocaaW8
namespace Go.Proofs.Ytndoadkkcmaocaa
open Go.RowKit

theorem map_bt_dg (xs : List Bool) : (xs.map dg).map bt = xs := by
  induction xs with
  | nil => rfl
  | cons a l ih => simp only [List.map_cons, ih]; cases a <;> rfl
theorem okc_dg (b : Bool) : okc (dg b) = true := by cases b <;> rfl
theorem all_okc (xs : List Bool) : (xs.map dg).all okc = true := by
  rw [List.all_eq_true]; intro c hc; obtain ⟨b, _, rfl⟩ := List.mem_map.1 hc; exact okc_dg b
theorem map_dg_dash (xs : List Bool) : xs.map dg ≠ [45] := by
  cases xs with
  | nil => simp
  | cons a l =>
    intro e
    simp only [List.map_cons, List.cons.injEq] at e
    cases a <;> exact absurd e.1 (by decide)
theorem par_txt (xs : List Bool) (h : xs.length ≤ 16384) : px (txt xs) = xs ∧ pc (txt xs) = 0 := by
  by_cases h0 : xs.length = 0
  · obtain rfl := List.eq_nil_of_length_eq_zero h0
    exact px_dash (s := ⟨#[45]⟩) rfl
  · rw [txt_pos (by omega)]
    have := px_ok (s := tx xs) (by rw [size_tx]; exact h) (by rw [B_tx]; exact map_dg_dash xs) (by rw [size_tx]; exact h0) (by rw [B_tx]; exact all_okc xs)
    rw [B_tx, map_bt_dg] at this
    exact this
theorem dg_bt {c : UInt8} (h : okc c = true) : dg (bt c) = c := by
  unfold okc at h
  rcases (by simpa using h : c = 48 ∨ c = 49) with rfl | rfl <;> rfl
theorem map_dg_bt : ∀ l : List UInt8, l.all okc = true → (l.map bt).map dg = l
  | [], _ => rfl
  | c :: l, h => by
    simp only [List.all_cons, Bool.and_eq_true] at h
    simp only [List.map_cons, dg_bt h.1, map_dg_bt l h.2]
theorem txt_px {s : ByteArray} (h : pc s = 0) : txt (px s) = s := by
  unfold pc at h
  by_cases h1 : 16384 < s.size
  · rw [if_pos h1] at h; omega
  rw [if_neg h1] at h
  by_cases h2 : B s = [45]
  · obtain rfl : s = ⟨#[45]⟩ := B_inj h2
    rw [(px_dash (s := ⟨#[45]⟩) rfl).1]; rfl
  rw [if_neg h2] at h
  by_cases h3 : s.size = 0
  · rw [if_pos h3] at h; omega
  rw [if_neg h3] at h
  by_cases h4 : (B s).all okc = true
  · rw [(px_ok (by omega) h2 h3 h4).1, txt_pos (by rw [List.length_map, size_B]; omega)]
    apply B_inj
    rw [B_tx]
    exact map_dg_bt _ h4
  · rw [if_neg h4] at h; omega
theorem pc_cases (s : ByteArray) : pc s = 0 ∨ (pc s == 0) = false := by
  by_cases h : pc s = 0
  · exact .inl h
  · exact .inr (by simpa using h)

/-- One bit flipped. -/
def flip (z : List Bool) (n : Nat) : List Bool := z.set n (!z.getD n false)
def flips (xs : List Bool) (l : List Nat) : List Bool := l.foldl flip xs
theorem flips_snoc (xs : List Bool) (l : List Nat) (n : Nat) : flips xs (l ++ [n]) = flip (flips xs l) n := by unfold flips; rw [List.foldl_append]; rfl
theorem flip_length (z : List Bool) (n : Nat) : (flip z n).length = z.length := by unfold flip; rw [List.length_set]
theorem flips_length (xs : List Bool) (l : List Nat) : (flips xs l).length = xs.length := by
  induction l generalizing xs with
  | nil => rfl
  | cons a l ih => unfold flips at ih ⊢; rw [List.foldl_cons, ih, flip_length]
theorem flip_at {z : List Bool} {n : Nat} {b : Bool} (h : z[n]? = some b) : flip z n = z.set n (!b) := by unfold flip; rw [getD_some h]
theorem flips_difK {xs ys : List Bool} (hl : xs.length = ys.length) : ∀ k, k ≤ xs.length → flips xs (difK xs ys k) = ys.take k ++ xs.drop k
  | 0, _ => by simp [difK, flips]
  | k + 1, hk => by
    have ih := flips_difK hl k (by omega)
    obtain ⟨a, ha⟩ := at_some xs k (by omega)
    obtain ⟨b, hb⟩ := at_some ys k (by omega)
    have hd : xs.drop k = a :: xs.drop (k + 1) := by
      obtain ⟨hi, rfl⟩ := List.getElem?_eq_some_iff.1 ha
      exact List.drop_eq_getElem_cons hi
    have ht : (ys.take k).length = k := by rw [List.length_take]; omega
    by_cases e : a = b
    · subst e
      rw [difK_eq ha hb, ih, take_snoc ys k a hb, hd, List.append_assoc]; rfl
    · rw [difK_ne ha hb e, flips_snoc, ih, hd, take_snoc ys k b hb]
      have hat : (ys.take k ++ a :: xs.drop (k + 1))[k]? = some a := by
        rw [List.getElem?_append_right (by omega), ht]; simp
      rw [flip_at hat, List.set_append_right _ _ (by omega), ht]
      have : b = !a := by cases a <;> cases b <;> simp_all
      simp [this]
theorem flips_dif {xs ys : List Bool} (hl : xs.length = ys.length) : flips xs (dif xs ys) = ys := by
  unfold dif; rw [flips_difK hl _ (Nat.le_refl _), List.drop_length, hl, List.take_length, List.append_nil]
theorem dif_lt {xs ys : List Bool} {k n : Nat} (h : (dif xs ys)[k]? = some n) : n < xs.length := by
  have hm := List.mem_of_getElem? h
  unfold dif difK at hm
  exact List.mem_range.1 (List.mem_filter.1 hm).1
theorem flips_step (xs : List Bool) (D : List Nat) {k n : Nat} (h : D[k]? = some n) : flips xs (D.take (k + 1)) = flip (flips xs (D.take k)) n := by
  rw [take_snoc D k n h, flips_snoc]
end Go.Proofs.Ytndoadkkcmaocaa
