/- Plain facts: a valid instruction stays valid for larger sizes and longer programs, and a jump is invalid at or after its own target. Conditions: none. -/
import Derived.Test.YtfnmjbapjngmaaaDoorIO2
import Derived.Test.YtfnmjbapjngmaaaDoorIQ1
namespace Go.Proofs.YtfnmjbapjngmaaaDoor
open Go.RowKit

/-- One size more, held to its greatest. -/
def up (i c : Int) : Int := if i + 1 < c then i + 1 else c
theorem up_min (i c : Int) : up i c = min (i + 1) c := by
  unfold up; rw [Int.min_def]; split <;> split <;> omega
theorem csz_ok {i q m e : Int} (h : csz i q m e = 0) : (0 ≤ i ∧ i ≤ 256) ∧ (0 ≤ q ∧ q ≤ 256) ∧ (0 ≤ m ∧ m ≤ 256) ∧ (0 ≤ e ∧ e ≤ 16384) := by
  unfold csz at h
  split at h
  · rename_i hh
    unfold inB at hh
    simp only [Bool.and_eq_true, decide_eq_true_eq] at hh
    omega
  · cases h
theorem csz_mk {i q m e : Int} (h : (0 ≤ i ∧ i ≤ 256) ∧ (0 ≤ q ∧ q ≤ 256) ∧ (0 ≤ m ∧ m ≤ 256) ∧ (0 ≤ e ∧ e ≤ 16384)) : csz i q m e = 0 := by
  unfold csz
  rw [if_pos]
  rw [inB_yes h.1, inB_yes h.2.1, inB_yes h.2.2.1, inB_yes h.2.2.2]; rfl
theorem cad_up {i q m k n i' q' m' : Int} (h : cad i q m k n = 0) (h1 : i ≤ i') (h2 : q ≤ q') (h3 : m ≤ m') : cad i' q' m' k n = 0 := by
  unfold cad at h ⊢
  split at h
  · rename_i hs
    rw [if_pos hs]
    split at h
    · rename_i hn
      rw [if_pos]
      have hk : 0 ≤ k ∧ k < 3 := of_decide_eq_true hs
      unfold wid at hn ⊢
      rcases (by omega : k = 0 ∨ k = 1 ∨ k = 2) with rfl | rfl | rfl <;> simp at hn ⊢ <;> omega
    · cases h
  · cases h
structure Valid (i q m e o k n N a b : Int) : Prop where
  cs : csz i q m e = 0
  fr : frm o ≠ -1
  cl : cln (frm o) k n N = true
  ca : 1 ≤ frm o ∧ frm o ≤ 3 → cad i q m k n = 0
  wr : ¬ (frm o = 3 ∧ k = 0)
  sl : ¬ (frm o = 2 ∧ (N < 0 ∨ e ≤ N))
  tg : ¬ (frm o = 4 ∧ (N < 0 ∨ b ≤ N))
  ord : ¬ (frm o = 4 ∧ N ≤ a)
theorem valid_of {i q m e o k n N a b : Int} (h : chk i q m e o k n N a b = 0) : Valid i q m e o k n N a b := by
  have hcs := csz_in i q m e
  unfold chk chk1 at h
  split at h
  · cases h
  rename_i h3
  split at h
  · cases h
  rename_i h4
  split at h
  · cases h
  rename_i h5
  split at h
  · rename_i h6; exact absurd h h6.2
  rename_i h6
  unfold chk2 at h
  split at h
  · cases h
  rename_i h7
  split at h
  · cases h
  rename_i h8
  split at h
  · cases h
  rename_i h9
  split at h
  · cases h
  rename_i h10
  exact ⟨by omega, h4, by simpa using h5, fun hf => by
    by_cases z : cad i q m k n = 0
    · exact z
    · exact absurd ⟨hf, z⟩ h6, h7, h8, h9, h10⟩
theorem chk_of {i q m e o k n N a b : Int} (h : Valid i q m e o k n N a b) : chk i q m e o k n N a b = 0 := by
  unfold chk chk1
  rw [if_neg (by rw [h.cs]; decide), if_neg h.fr, if_neg (by rw [h.cl]; decide), if_neg (fun hh => hh.2 (h.ca hh.1))]
  unfold chk2
  rw [if_neg h.wr, if_neg h.sl, if_neg h.tg, if_neg h.ord]
theorem up_le {i c : Int} (h : 0 ≤ i ∧ i ≤ c) : i ≤ up i c ∧ 0 ≤ up i c ∧ up i c ≤ c := by unfold up; split <;> omega
theorem valid_up {i q m e o k n N a b : Int} (h : Valid i q m e o k n N a b) (a' : Int) (ha : a' ≤ a) : Valid (up i 256) (up q 256) (up m 256) (up e 16384) o k n N a' (b + 1) := by
  obtain ⟨b1, b2, b3, b4⟩ := csz_ok h.cs
  have u1 := up_le b1
  have u2 := up_le b2
  have u3 := up_le b3
  have u4 := up_le b4
  have h7 := h.sl
  have h8 := h.tg
  have h9 := h.ord
  exact ⟨csz_mk ⟨u1.2, u2.2, u3.2, u4.2⟩, h.fr, h.cl, fun hf => cad_up (h.ca hf) u1.1 u2.1 u3.1, h.wr, by omega, by omega, by omega⟩
theorem chk_late {i q m e o k n N a b : Int} (h : Valid i q m e o k n N a b) (c : Int) (hc : N ≤ c) : chk i q m e o k n N c b = if frm o = 4 then 17 else 0 := by
  unfold chk chk1
  rw [if_neg (by rw [h.cs]; decide), if_neg h.fr, if_neg (by rw [h.cl]; decide), if_neg (fun hh => hh.2 (h.ca hh.1))]
  unfold chk2
  rw [if_neg h.wr, if_neg h.sl, if_neg h.tg]
  by_cases hf : frm o = 4
  · rw [if_pos ⟨hf, hc⟩, if_pos hf]
  · rw [if_neg (fun hh => hf hh.1), if_neg hf]
end Go.Proofs.YtfnmjbapjngmaaaDoor
