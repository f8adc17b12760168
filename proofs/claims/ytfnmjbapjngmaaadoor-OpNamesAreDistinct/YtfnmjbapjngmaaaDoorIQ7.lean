/- What the texts of the operands are, and what Format of layer 4 returns. Conditions: the listed package-level variables hold what the program's text lays. -/
import Derived.Test.YtfnmjbapjngmaaaDoorIQ6
import Derived.Test.YtfnmjbapjngmaaaDoorIO5
namespace Go.Proofs.YtfnmjbapjngmaaaDoor
open Go.RowKit

theorem itoaU (n : Nat) (h : n ≤ 65535) (w : World) (he : Env w) :
    Calls Tryd.prog 59 #[.int .i64 n] w fun e w' => e = .returned (.string (dec n)) ∧ Nx w w' := by
  refine (Tryd.strconv_Itoa n (by omega) (by omega) w he.pow).mono ?_
  rintro e w' ⟨rfl, k, os, rfl⟩
  exact ⟨by rw [Lib.itoa_nonneg]; rfl, Nx.grow _ _ _⟩
set_option maxHeartbeats 400000 in
theorem formatNumber_any (v : Int) (w : World) (he : Env w) : Calls Tryd.prog 52 #[.int .i64 v] w fun e w' => e = .returned (.string (fnum v)) ∧ Nx w w' := by
  by_cases h0 : v < 0
  · have HR := Lib.hid (show fnum v = ⟨#[]⟩ by unfold fnum; rw [if_pos (Or.inl h0)])
    go_enter Tryd.func52, Tryd.ntmps52
    go_wp2
    go_ret
    exact ⟨by rw [HR.out]; rfl, Nx.refl _⟩
  by_cases h1 : 65535 < v
  · have HR := Lib.hid (show fnum v = ⟨#[]⟩ by unfold fnum; rw [if_pos (Or.inr h1)])
    go_enter Tryd.func52, Tryd.ntmps52
    go_wp2
    go_ret
    exact ⟨by rw [HR.out]; rfl, Nx.refl _⟩
  obtain ⟨u, rfl⟩ : ∃ u : Nat, v = (u : Int) := ⟨v.toNat, by omega⟩
  have hu : u ≤ 65535 := by omega
  have HR := Lib.hid (show fnum (u : Int) = dec u by unfold fnum; rw [if_neg (by omega)]; rfl)
  have HC := Lib.hid (itoaU u hu w he)
  clear he
  go_enter Tryd.func52, Tryd.ntmps52
  go_wp2_with (go_at_call 59; refine HC.out.mono ?_; rintro e w' ⟨rfl, h⟩)
  go_ret
  exact ⟨by rw [HR.out]; rfl, h⟩
set_option maxHeartbeats 400000 in
theorem addrText_any (o k n N : Int) (w : World) (he : Env w) : Calls Tryd.prog 45 #[.agg #[.int .i64 o, .int .i64 k, .int .i64 n, .int .i64 N]] w fun e w' => e = .returned (.string (fmtS k n)) ∧ Nx w w' := by
  have HC := Lib.hid (fun w => aFormat_any k n w)
  have HE := Lib.hid (he.nx (Nx.one w (.cells #[.int .i64 o, .int .i64 k, .int .i64 n, .int .i64 N] 35)))
  clear he
  go_enter Tryd.func45, Tryd.ntmps45
  go_wp2_with (go_at_call 46; refine (HC.out _ HE.out).mono ?_; rintro e w' ⟨rfl, h⟩)
  go_ret
  exact ⟨rfl, Nx.trans (Nx.one _ _) h⟩
set_option maxHeartbeats 400000 in
theorem numText_any (o k n N : Int) (w : World) (he : Env w) : Calls Tryd.prog 51 #[.agg #[.int .i64 o, .int .i64 k, .int .i64 n, .int .i64 N]] w fun e w' => e = .returned (.string (fnum N)) ∧ Nx w w' := by
  have HC := Lib.hid (fun w => formatNumber_any N w)
  have HE := Lib.hid (he.nx (Nx.one w (.cells #[.int .i64 o, .int .i64 k, .int .i64 n, .int .i64 N] 35)))
  clear he
  go_enter Tryd.func51, Tryd.ntmps51
  go_wp2_with (go_at_call 52; refine (HC.out _ HE.out).mono ?_; rintro e w' ⟨rfl, h⟩)
  go_ret
  exact ⟨rfl, Nx.trans (Nx.one _ _) h⟩

/-- The same text, put together from the words. -/
def opG (f o k n N : Int) : ByteArray :=
  if f = 0 then mnem o
  else if f = 1 ∨ f = 3 then (if (fmtS k n).size = 0 then ⟨#[]⟩ else mnem o ++ (⟨#[32]⟩ ++ fmtS k n))
  else if f = 2 then (if (fmtS k n).size = 0 then ⟨#[]⟩ else if (fnum N).size = 0 then ⟨#[]⟩ else mnem o ++ (⟨#[32]⟩ ++ fmtS k n) ++ (⟨#[32]⟩ ++ fnum N))
  else (if (fnum N).size = 0 then ⟨#[]⟩ else mnem o ++ (⟨#[32]⟩ ++ fnum N))
theorem appA (a b c : ByteArray) : a ++ b ++ c = a ++ (b ++ c) := B_inj (by simp only [B_append, List.append_assoc])
theorem dec_pos (n : Nat) : 0 < (dec n).size := by
  show 0 < (Lib.decDigits n).toArray.size
  rw [List.size_toArray]
  have := isDec_d n
  cases h : Lib.decDigits n with
  | nil => rw [h] at this; simp [isDec] at this
  | cons a r => simp
theorem fnum_zero (N : Int) : (fnum N).size = 0 ↔ (N < 0 ∨ 65535 < N) := by
  unfold fnum
  by_cases h : N < 0 ∨ 65535 < N
  · rw [if_pos h]; exact ⟨fun _ => h, fun _ => rfl⟩
  · rw [if_neg h]; have := dec_pos N.toNat; constructor
    · intro h'; omega
    · intro h'; exact absurd h' h
theorem opG_eq (o k n N : Int) (f : Int) (hf : f = 0 ∨ f = 1 ∨ f = 2 ∨ f = 3 ∨ f = 4) (hfr : frm o = f) (hc : cln f k n N = true) : opT o k n N = opG f o k n N := by
  have hz := fnum_zero N
  unfold opT opG opF
  rw [hfr, hc]
  unfold cln at hc
  rcases hf with rfl | rfl | rfl | rfl | rfl
  · simp at hc
    simp [hc]
  · simp at hc
    subst hc
    simp [appA]
  · by_cases hN : N < 0 ∨ 65535 < N
    · have := hz.2 hN
      simp [hN, this]
    · have h2 : ¬ (fnum N).size = 0 := fun e => hN (hz.1 e)
      have e : fnum N = dec N.toNat := by unfold fnum; rw [if_neg hN]
      simp only [not_or] at hN
      rw [e] at h2
      rw [if_neg (by simp; omega), e]
      by_cases h3 : (fmtS k n).size = 0
      · simp [h3]
      · simp [h3, h2, appA]
  · simp at hc
    subst hc
    simp [appA]
  · by_cases hN : N < 0 ∨ 65535 < N
    · have := hz.2 hN
      simp [hN, this]
    · have h2 : ¬ (fnum N).size = 0 := fun e => hN (hz.1 e)
      have e : fnum N = dec N.toNat := by unfold fnum; rw [if_neg hN]
      simp only [not_or] at hN
      rw [if_neg (by simp; omega), if_neg (by decide), if_pos rfl, if_neg (by decide), if_neg (by decide), if_neg (by decide), if_neg h2, e]
      simp only [appA]
theorem opT_no (o k n N : Int) (h : frm o = -1 ∨ cln (frm o) k n N = false) : opT o k n N = ⟨#[]⟩ := by
  unfold opT; rw [if_pos]; rcases h with h | h
  · exact Or.inl h
  · exact Or.inr (Or.inl h)
end Go.Proofs.YtfnmjbapjngmaaaDoor
