/- What the reference's Parse returns, and both for every text. Conditions: a text of at most the model's greatest length. -/
import Derived.Test.YtndoadkkcmaocaaF
namespace Go.Proofs.Ytndoadkkcmaocaa
open Go.RowKit

set_option maxHeartbeats 800000 in
theorem refParse_long (s : ByteArray) (h : 16384 < s.size) (w : World) : Calls Try.prog 12 #[.string s] w (ParPost s w) := by
  have h1 : (16384 : Int) < (s.size : Int) := by omega
  have HP := Lib.hid (px_long h)
  go_enter Try.func12, Try.ntmps12
  go_wp2
  go_ret2
  exact parPost_none HP.out (Nx.refl _)
set_option maxHeartbeats 800000 in
theorem refParse_dash (w : World) : Calls Try.prog 12 #[.string ⟨#[45]⟩] w (ParPost ⟨#[45]⟩ w) := by
  have HP := Lib.hid (px_dash (s := ⟨#[45]⟩) rfl)
  have he : ((ByteArray.mk #[45]).toList == [45]) = true := by rw [ByteArray.toList_eq]; rfl
  go_enter Try.func12, Try.ntmps12
  go_wp2
  go_ret2
  exact parPost_none HP.out (Nx.refl _)
set_option maxHeartbeats 800000 in
theorem refParse_nil (w : World) : Calls Try.prog 12 #[.string ⟨#[]⟩] w (ParPost ⟨#[]⟩ w) := by
  have HP := Lib.hid (px_nil (s := ⟨#[]⟩) rfl)
  have he : ((ByteArray.mk #[]).toList == [45]) = false := by rw [ByteArray.toList_eq]; rfl
  have he' : (ByteArray.mk #[]).toList.isEmpty = true := by rw [ByteArray.toList_eq]; rfl
  go_enter Try.func12, Try.ntmps12
  go_wp2
  go_ret2
  exact parPost_none HP.out (Nx.refl _)
theorem take_map (l : List UInt8) (k : Nat) (c : UInt8) (h : l[k]? = some c) : (l.take (k + 1)).map bt = (l.take k).map bt ++ [bt c] := by
  rw [take_snoc l k c h, List.map_append]; rfl
theorem parPost_own {s : ByteArray} {w w' : World} {v : Value} {n : Nat} (h1 : s.size ≤ 16384) (h2 : B s ≠ [45]) (h3 : s.size ≠ 0) (h : (B s).all okc = true) (hown : w'.ownsRow w.heap.size 4 1 v n (bools ((B s).map bt))) (hx : Nx w w') :
    ParPost s w (.returned (.tuple #[v, .int .i64 0])) w' := by
  obtain ⟨e1, e2⟩ := px_ok h1 h2 h3 h
  obtain ⟨A, c, rfl, hr⟩ := own_bools hown
  refine ⟨A, c, ?_, by rw [e1]; exact hr, hx⟩
  rw [e1, e2]

set_option maxHeartbeats 1600000 in
theorem refParse_main (s : ByteArray) (n : Nat) (hn : s.size = n) (h0 : 0 < n) (h1 : n ≤ 16384) (h2 : B s ≠ [45]) (w : World) : Calls Try.prog 12 #[.string s] w (ParPost s w) := by
  obtain ⟨i0, hi, hz0, hz1, hz2⟩ := info_parts info4
  have hd : (s.toList == [45]) = false := by rw [ByteArray.toList_eq, beq_eq_false_iff_ne]; exact h2
  have he : s.toList.isEmpty = false := by rw [isEmptyB, hn]; exact decide_eq_false (by omega)
  have H2 := Lib.hid h2
  have b1 : (s.size : Int) ≤ 16384 := by omega
  have b0 : 0 < s.size := by omega
  subst hn
  clear h2
  go_enter Try.func12, Try.ntmps12
  go_wp2
  go_loopw [4, 5] (fun v i wr => ∃ k : Nat, k ≤ s.size ∧ i = .int .i64 k ∧ ((B s).take k).all okc = true ∧ wr.ownsRow w.heap.size 4 1 v k (bools (((B s).take k).map bt)) ∧ Nx w wr) (fun _ i _ => s.size - (intOf i).toNat)
  case atStart => exact ⟨0, Nat.zero_le _, rfl, rfl, World.ownsRow_nil _ _ _ _, Nx.refl _⟩
  case round =>
    obtain ⟨k, hk, rfl, hall, hown, hnx⟩ := hrel
    have HN := Lib.hid hnx
    have HO := Lib.hid hown
    have HA := Lib.hid hall
    by_cases hlt : k < s.size
    · have HF := Lib.hid (take_map (B s) k s[k] (getB s k hlt))
      clear hown hnx hall
      by_cases c0 : s[k] = 48
      · obtain ⟨e0, n0, e1, n1⟩ := tst0 c0
        have HK := Lib.hid (all_succ hlt HA.out (by unfold okc; rw [c0]; rfl))
        have HB := Lib.hid (show bt s[k] = false by rw [c0]; rfl)
        clear c0
        go_wp2_with (at_builtin; refine wpList_append_own _ rfl (.tmp 29) (.tmp 34) 22 rfl w.heap.size 4 i0 (.bool false) 1 1 Try.underlying22 hi hz0 hz1 hz2 rfl (by decide) _ _ _ rfl (World.ownsRow.alloc HO.out _) ⟨_, 0, none⟩ 1 1 [.bool false] rfl rfl (new_one _ _ _) (by intro u hu; simp at hu; subst hu; rfl) (by unfold maxLen; omega) (by omega) (by have := HN.out.size; simp; omega) ?_; intro v' w1 hown' hgrow _; have HO1 := Lib.hid hown'; have HG := Lib.hid hgrow; clear hown' hgrow)
        go_roundw
        case rel => exact ⟨k + 1, by omega, by go_num, HK.out, by rw [HF.out, HB.out, bools_snoc]; exact HO1.out, grown_nx (HN.out.alloc _) HG.out (World.ownsRow.alloc HO.out _) (Nat.le_refl _)⟩
        case measure => simp [intOf]; omega
      · by_cases c1 : s[k] = 49
        · obtain ⟨e0, n0, e1, n1⟩ := tst1 c1
          have HK := Lib.hid (all_succ hlt HA.out (by unfold okc; rw [c1]; rfl))
          have HB := Lib.hid (show bt s[k] = true by rw [c1]; rfl)
          clear c0 c1
          go_wp2_with (at_builtin; refine wpList_append_own _ rfl (.tmp 29) (.tmp 34) 22 rfl w.heap.size 4 i0 (.bool false) 1 1 Try.underlying22 hi hz0 hz1 hz2 rfl (by decide) _ _ _ rfl (World.ownsRow.alloc HO.out _) ⟨_, 0, none⟩ 1 1 [.bool true] rfl rfl (new_one _ _ _) (by intro u hu; simp at hu; subst hu; rfl) (by unfold maxLen; omega) (by omega) (by have := HN.out.size; simp; omega) ?_; intro v' w1 hown' hgrow _; have HO1 := Lib.hid hown'; have HG := Lib.hid hgrow; clear hown' hgrow)
          go_roundw
          case rel => exact ⟨k + 1, by omega, by go_num, HK.out, by rw [HF.out, HB.out, bools_snoc]; exact HO1.out, grown_nx (HN.out.alloc _) HG.out (World.ownsRow.alloc HO.out _) (Nat.le_refl _)⟩
          case measure => simp [intOf]; omega
        · obtain ⟨e0, n0, e1, n1⟩ := tst2 c0 c1
          have HP := Lib.hid (px_bad h1 H2.out (all_false hlt (by unfold okc; simp [c0, c1])))
          clear c0 c1
          go_wp2
          go_ret2
          exact parPost_none HP.out HN.out
    · rw [List.take_of_length_le (by rw [size_B]; omega)] at hall hown
      have HP := Lib.hid (parPost_own h1 H2.out (by omega) hall hown hnx)
      clear hown hnx hall
      go_wp2
      go_ret2
      exact HP.out

theorem parse_any (s : ByteArray) (w : World) : Calls Try.prog 11 #[.string s] w (ParPost s w) := by
  by_cases h1 : 16384 < s.size
  · exact parse_long s h1 w
  by_cases h2 : B s = [45]
  · obtain rfl : s = ⟨#[45]⟩ := B_inj h2
    exact parse_dash w
  by_cases h3 : s.size = 0
  · obtain rfl : s = ⟨#[]⟩ := B_inj (List.eq_nil_of_length_eq_zero (by rw [size_B]; exact h3))
    exact parse_nil w
  exact parse_main s s.size rfl (by omega) (by omega) h2 w
theorem refParse_any (s : ByteArray) (w : World) : Calls Try.prog 12 #[.string s] w (ParPost s w) := by
  by_cases h1 : 16384 < s.size
  · exact refParse_long s h1 w
  by_cases h2 : B s = [45]
  · obtain rfl : s = ⟨#[45]⟩ := B_inj h2
    exact refParse_dash w
  by_cases h3 : s.size = 0
  · obtain rfl : s = ⟨#[]⟩ := B_inj (List.eq_nil_of_length_eq_zero (by rw [size_B]; exact h3))
    exact refParse_nil w
  exact refParse_main s s.size rfl (by omega) (by omega) h2 w
end Go.Proofs.Ytndoadkkcmaocaa
