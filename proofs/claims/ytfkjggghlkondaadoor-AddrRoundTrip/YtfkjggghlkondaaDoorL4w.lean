/- The walk of AddrRoundTrip. Conditions: the tables are laid. -/
import Derived.Test.YtfkjggghlkondaaDoorPlain2
namespace Go.Proofs.YtfkjggghlkondaaDoor
open Go.RowKit

theorem cell_new (W : World) (cs : Array Value) (T : TypeId) (b i : Nat) (v : Value) (hb : b = W.heap.size) (hv : cs[i]? = some v) : (W.alloc (.cells cs T)).cell? ⟨b, i, none⟩ = some v := by
  subst hb; rw [World.cell?_alloc_new]; exact hv
theorem fmtS_yes (k n : Nat) (hk : k < 3) (hn : n ≤ 255) : fmtS k n = lt k ++ dec n := by
  unfold fmtS; rw [if_pos (by omega)]; simp
theorem fmtS_no (k n : Int) (h : ¬ (0 ≤ k ∧ k < 3 ∧ 0 ≤ n ∧ n ≤ 255)) : fmtS k n = ⟨#[]⟩ := by unfold fmtS; rw [if_neg h]
theorem fmt_size (k n : Nat) : 0 < (lt k ++ dec n).size := by rw [size_append, lt_size]; omega
theorem fmt_max (k n : Nat) (hn : n ≤ 255) : (lt k ++ dec n).size ≤ maxLen := by
  have := dec_size n hn
  rw [size_append, lt_size]; unfold dec maxLen; omega
/-- Valid sizes and a valid address: the address has a form. -/
theorem cad_form (i q m e k n : Int) (h1 : csz i q m e = 0) (h2 : cad i q m k n = 0) : 0 ≤ k ∧ k < 3 ∧ 0 ≤ n ∧ n ≤ 255 := by
  unfold csz at h1
  by_cases hb : (inB i 256 && inB q 256 && inB m 256 && inB e 16384) = true
  · simp only [Bool.and_eq_true, inB, decide_eq_true_eq] at hb
    unfold cad isSp wid at h2
    by_cases hs : 0 ≤ k ∧ k < 3
    · rw [if_pos (decide_eq_true hs)] at h2
      split at h2
      · rename_i h3
        have hk : k = 0 ∨ k = 1 ∨ k = 2 := by omega
        rcases hk with rfl | rfl | rfl <;> simp at h3 <;> omega
      · omega
    · rw [if_neg (by simpa using hs)] at h2; omega
  · rw [if_neg hb] at h1; omega

set_option maxHeartbeats 1600000 in
set_option maxRecDepth 100000 in
theorem law4 (i q m e k n : Int) (t : ByteArray) (ht : t.size ≤ maxLen) (w : World) (he : Env w) :
    Calls Tryd.prog 4 #[.agg #[.int .i64 i, .int .i64 q, .int .i64 m, .int .i64 e], .agg #[.int .i64 k, .int .i64 n], .string t] w fun r w' => r = .returned (.bool true) ∧ Nx w w' := by
  have HE := Lib.hid he
  clear he
  have N0 := Lib.hid (show Nx w ((w.alloc (.cells #[.int .i64 i, .int .i64 q, .int .i64 m, .int .i64 e] 33)).alloc (.cells #[.int .i64 k, .int .i64 n] 23)) from (Nx.one _ _).alloc _)
  have HS := Lib.hid (show ∀ w1, Nx ((w.alloc (.cells #[.int .i64 i, .int .i64 q, .int .i64 m, .int .i64 e] 33)).alloc (.cells #[.int .i64 k, .int .i64 n] 23)) w1 → w1.cell? ⟨w.heap.size, 0, none⟩ = some (.int .i64 i) ∧ w1.cell? ⟨w.heap.size, 1, none⟩ = some (.int .i64 q) ∧ w1.cell? ⟨w.heap.size, 2, none⟩ = some (.int .i64 m) ∧ w1.cell? ⟨w.heap.size, 3, none⟩ = some (.int .i64 e) ∧ w1.cell? ⟨w.heap.size + 1, 0, none⟩ = some (.int .i64 k) ∧ w1.cell? ⟨w.heap.size + 1, 1, none⟩ = some (.int .i64 n) from fun w1 h =>
    have h1 := (Nx.one (w.alloc (.cells #[.int .i64 i, .int .i64 q, .int .i64 m, .int .i64 e] 33)) (.cells #[.int .i64 k, .int .i64 n] 23)).trans h
    ⟨h1.cell (cell_new _ _ _ _ _ _ rfl rfl), h1.cell (cell_new _ _ _ _ _ _ rfl rfl), h1.cell (cell_new _ _ _ _ _ _ rfl rfl), h1.cell (cell_new _ _ _ _ _ _ rfl rfl), h.cell (cell_new _ _ _ _ _ _ (by simp) rfl), h.cell (cell_new _ _ _ _ _ _ (by simp) rfl)⟩)
  by_cases hlen : 1000 < t.size
  · have h1 : (1000 : Int) < (t.size : Int) := by omega
    go_enter Tryd.func4, Tryd.ntmps4
    go_wp2_with fail
    refine (alive_any _ (HE.out.nx N0.out)).mono ?_
    rintro r w9 ⟨rfl, h9⟩
    have H9 := Lib.hid (N0.out.trans h9)
    clear h9
    go_wp2
    go_ret
    exact ⟨rfl, H9.out⟩
  · have h1 : ¬ (1000 : Int) < (t.size : Int) := by omega
    have PT := Lib.hid (fun (w : World) (he : Env w) => parse_any t ht w he)
    by_cases hf : 0 ≤ k ∧ k < 3 ∧ 0 ≤ n ∧ n ≤ 255
    · obtain ⟨k0, rfl⟩ := Int.eq_ofNat_of_zero_le hf.1
      obtain ⟨n0, rfl⟩ := Int.eq_ofNat_of_zero_le hf.2.2.1
      have hk : k0 < 3 := by omega
      have hn : n0 ≤ 255 := by omega
      have F1 := Lib.hid (fun (w : World) (he : Env w) => by have := format_any (k0 : Int) (n0 : Int) w he; rw [fmtS_yes k0 n0 hk hn] at this; exact this)
      have P1 := Lib.hid (fun (w : World) (he : Env w) => by have := parse_any (lt k0 ++ dec n0) (fmt_max k0 n0 hn) w he; rw [parL_fmt k0 n0 hk hn] at this; exact this)
      have hem := isEmpty_no (lt k0 ++ dec n0) (by have := fmt_size k0 n0; omega)
      generalize lt k0 ++ dec n0 = x at *
      clear hf hk hn
      by_cases hok : (parL (B t)).2.2 = 0
      · obtain ⟨k', n', hk', hn', hp', ht'⟩ := parL_inv (B t) hok
        have FT := Lib.hid (fun (w : World) (he : Env w) => by have := format_any (k' : Int) (n' : Int) w he; rw [fmtS_yes k' n' hk' hn', show lt k' ++ dec n' = t from B_inj (by rw [B_fmt, ht'])] at this; exact this)
        rw [hp'] at PT
        clear hp' hok ht' hk' hn'
        go_enter Tryd.func4, Tryd.ntmps4
        go_wp2_with fail
        refine (F1.out _ (HE.out.nx N0.out)).mono ?_
        rintro r w2 ⟨rfl, h2⟩
        obtain ⟨g1, g2, g3, g4, g5, g6⟩ := HS.out w2 h2
        have S2 := Lib.hid h2
        have H2 := Lib.hid (N0.out.trans h2)
        clear h2
        go_wp2_with fail
        refine (P1.out _ (HE.out.nx H2.out)).mono ?_
        rintro r w3 ⟨rfl, h3⟩
        have g5' := fun o => (Nx.one w3 o).cell (h3.cell g5)
        have g6' := fun o => (Nx.one w3 o).cell (h3.cell g6)
        have H3 := Lib.hid (H2.out.trans h3)
        clear h3
        go_wp2_with fail
        refine (PT.out _ (HE.out.nx (H3.out.alloc _))).mono ?_
        rintro r w7 ⟨rfl, h7⟩
        have H7 := Lib.hid ((H3.out.alloc _).trans h7)
        clear h7
        go_wp2_with fail
        refine (alive_any _ (HE.out.nx (H7.out.alloc _))).mono ?_
        rintro r w8 ⟨rfl, h8⟩
        have g71 := h8.cell (cell_new w7 #[.int .i64 k', .int .i64 n'] 23 _ 0 _ rfl rfl)
        have g72 := h8.cell (cell_new w7 #[.int .i64 k', .int .i64 n'] 23 _ 1 _ rfl rfl)
        have H8 := Lib.hid ((H7.out.alloc _).trans h8)
        clear h8
        go_wp2_with fail
        refine (FT.out _ (HE.out.nx H8.out)).mono ?_
        rintro r w10 ⟨rfl, h10⟩
        have H10 := Lib.hid (H8.out.trans h10)
        clear h10
        go_wp2
        go_ret
        exact ⟨rfl, H10.out⟩
      · obtain ⟨z1, z2⟩ := parL_bad (B t) hok
        rw [z1, z2] at PT
        have hne : ((parL (B t)).2.2 == 0) = false := by simpa using hok
        generalize (parL (B t)).2.2 = er at *
        clear hok z1 z2
        go_enter Tryd.func4, Tryd.ntmps4
        go_wp2_with fail
        refine (F1.out _ (HE.out.nx N0.out)).mono ?_
        rintro r w2 ⟨rfl, h2⟩
        obtain ⟨g1, g2, g3, g4, g5, g6⟩ := HS.out w2 h2
        have S2 := Lib.hid h2
        have H2 := Lib.hid (N0.out.trans h2)
        clear h2
        go_wp2_with fail
        refine (P1.out _ (HE.out.nx H2.out)).mono ?_
        rintro r w3 ⟨rfl, h3⟩
        have g5' := fun o => (Nx.one w3 o).cell (h3.cell g5)
        have g6' := fun o => (Nx.one w3 o).cell (h3.cell g6)
        have H3 := Lib.hid (H2.out.trans h3)
        clear h3
        go_wp2_with fail
        refine (PT.out _ (HE.out.nx (H3.out.alloc _))).mono ?_
        rintro r w7 ⟨rfl, h7⟩
        have H7 := Lib.hid ((H3.out.alloc _).trans h7)
        clear h7
        go_wp2_with fail
        refine (alive_any _ (HE.out.nx (H7.out.alloc _))).mono ?_
        rintro r w8 ⟨rfl, h8⟩
        have g71 := h8.cell (cell_new w7 #[.int .i64 0, .int .i64 0] 23 _ 0 _ rfl rfl)
        have g72 := h8.cell (cell_new w7 #[.int .i64 0, .int .i64 0] 23 _ 1 _ rfl rfl)
        have H8 := Lib.hid ((H7.out.alloc _).trans h8)
        clear h8
        go_wp2
        go_ret
        exact ⟨rfl, H8.out⟩
    · have F1 := Lib.hid (fun (w : World) (he : Env w) => by have := format_any k n w he; rw [fmtS_no k n hf] at this; exact this)
      have Z1 := Lib.hid (checkSize_any i q m e)
      have Z2 := Lib.hid (checkAddr_any i q m e k n)
      have hcf := cad_form i q m e k n
      generalize csz i q m e = r1 at *
      generalize cad i q m k n = r2 at *
      have hcase : (¬ r1 = 0) ∨ (r1 = 0 ∧ ¬ r2 = 0) := by by_cases h1 : r1 = 0; (right; exact ⟨h1, fun h2 => hf (hcf h1 h2)⟩); (left; exact h1)
      clear hf hcf
      rcases hcase with hr | ⟨rfl, hr⟩
      · have hr1 : (r1 == 0) = false := by simpa using hr
        clear hr
        by_cases hok : (parL (B t)).2.2 = 0
        · obtain ⟨k', n', hk', hn', hp', ht'⟩ := parL_inv (B t) hok
          have FT := Lib.hid (fun (w : World) (he : Env w) => by have := format_any (k' : Int) (n' : Int) w he; rw [fmtS_yes k' n' hk' hn', show lt k' ++ dec n' = t from B_inj (by rw [B_fmt, ht'])] at this; exact this)
          rw [hp'] at PT
          clear hp' hok ht' hk' hn'
          go_enter Tryd.func4, Tryd.ntmps4
          go_wp2_with fail
          refine (F1.out _ (HE.out.nx N0.out)).mono ?_
          rintro r w2 ⟨rfl, h2⟩
          obtain ⟨g1, g2, g3, g4, g5, g6⟩ := HS.out w2 h2
          have S2 := Lib.hid h2
          have H2 := Lib.hid (N0.out.trans h2)
          clear h2
          go_wp2_with fail
          refine (Z1.out _).mono ?_
          rintro r w3 ⟨rfl, h3⟩
          obtain ⟨g1', g2', g3', g4', g5', g6'⟩ := HS.out w3 (S2.out.trans h3)
          have H3 := Lib.hid (H2.out.trans h3)
          clear h3
          go_wp2_with fail
          refine (PT.out _ (HE.out.nx H3.out)).mono ?_
          rintro r w7 ⟨rfl, h7⟩
          have H7 := Lib.hid ((H3.out).trans h7)
          clear h7
          go_wp2_with fail
          refine (alive_any _ (HE.out.nx (H7.out.alloc _))).mono ?_
          rintro r w8 ⟨rfl, h8⟩
          have g71 := h8.cell (cell_new w7 #[.int .i64 k', .int .i64 n'] 23 _ 0 _ rfl rfl)
          have g72 := h8.cell (cell_new w7 #[.int .i64 k', .int .i64 n'] 23 _ 1 _ rfl rfl)
          have H8 := Lib.hid ((H7.out.alloc _).trans h8)
          clear h8
          go_wp2_with fail
          refine (FT.out _ (HE.out.nx H8.out)).mono ?_
          rintro r w10 ⟨rfl, h10⟩
          have H10 := Lib.hid (H8.out.trans h10)
          clear h10
          go_wp2
          go_ret
          exact ⟨rfl, H10.out⟩
        · obtain ⟨z1, z2⟩ := parL_bad (B t) hok
          rw [z1, z2] at PT
          have hne : ((parL (B t)).2.2 == 0) = false := by simpa using hok
          generalize (parL (B t)).2.2 = er at *
          clear hok z1 z2
          go_enter Tryd.func4, Tryd.ntmps4
          go_wp2_with fail
          refine (F1.out _ (HE.out.nx N0.out)).mono ?_
          rintro r w2 ⟨rfl, h2⟩
          obtain ⟨g1, g2, g3, g4, g5, g6⟩ := HS.out w2 h2
          have S2 := Lib.hid h2
          have H2 := Lib.hid (N0.out.trans h2)
          clear h2
          go_wp2_with fail
          refine (Z1.out _).mono ?_
          rintro r w3 ⟨rfl, h3⟩
          obtain ⟨g1', g2', g3', g4', g5', g6'⟩ := HS.out w3 (S2.out.trans h3)
          have H3 := Lib.hid (H2.out.trans h3)
          clear h3
          go_wp2_with fail
          refine (PT.out _ (HE.out.nx H3.out)).mono ?_
          rintro r w7 ⟨rfl, h7⟩
          have H7 := Lib.hid ((H3.out).trans h7)
          clear h7
          go_wp2_with fail
          refine (alive_any _ (HE.out.nx (H7.out.alloc _))).mono ?_
          rintro r w8 ⟨rfl, h8⟩
          have g71 := h8.cell (cell_new w7 #[.int .i64 0, .int .i64 0] 23 _ 0 _ rfl rfl)
          have g72 := h8.cell (cell_new w7 #[.int .i64 0, .int .i64 0] 23 _ 1 _ rfl rfl)
          have H8 := Lib.hid ((H7.out.alloc _).trans h8)
          clear h8
          go_wp2
          go_ret
          exact ⟨rfl, H8.out⟩
      · have hr1 : (r2 == 0) = false := by simpa using hr
        clear hr
        by_cases hok : (parL (B t)).2.2 = 0
        · obtain ⟨k', n', hk', hn', hp', ht'⟩ := parL_inv (B t) hok
          have FT := Lib.hid (fun (w : World) (he : Env w) => by have := format_any (k' : Int) (n' : Int) w he; rw [fmtS_yes k' n' hk' hn', show lt k' ++ dec n' = t from B_inj (by rw [B_fmt, ht'])] at this; exact this)
          rw [hp'] at PT
          clear hp' hok ht' hk' hn'
          go_enter Tryd.func4, Tryd.ntmps4
          go_wp2_with fail
          refine (F1.out _ (HE.out.nx N0.out)).mono ?_
          rintro r w2 ⟨rfl, h2⟩
          obtain ⟨g1, g2, g3, g4, g5, g6⟩ := HS.out w2 h2
          have S2 := Lib.hid h2
          have H2 := Lib.hid (N0.out.trans h2)
          clear h2
          go_wp2_with fail
          refine (Z1.out _).mono ?_
          rintro r w3 ⟨rfl, h3⟩
          obtain ⟨g1', g2', g3', g4', g5', g6'⟩ := HS.out w3 (S2.out.trans h3)
          have H3 := Lib.hid (H2.out.trans h3)
          clear h3
          go_wp2_with fail
          refine (Z2.out _).mono ?_
          rintro r w4 ⟨rfl, h4⟩
          have H4 := Lib.hid (H3.out.trans h4)
          clear h4
          go_wp2_with fail
          refine (PT.out _ (HE.out.nx H4.out)).mono ?_
          rintro r w7 ⟨rfl, h7⟩
          have H7 := Lib.hid ((H4.out).trans h7)
          clear h7
          go_wp2_with fail
          refine (alive_any _ (HE.out.nx (H7.out.alloc _))).mono ?_
          rintro r w8 ⟨rfl, h8⟩
          have g71 := h8.cell (cell_new w7 #[.int .i64 k', .int .i64 n'] 23 _ 0 _ rfl rfl)
          have g72 := h8.cell (cell_new w7 #[.int .i64 k', .int .i64 n'] 23 _ 1 _ rfl rfl)
          have H8 := Lib.hid ((H7.out.alloc _).trans h8)
          clear h8
          go_wp2_with fail
          refine (FT.out _ (HE.out.nx H8.out)).mono ?_
          rintro r w10 ⟨rfl, h10⟩
          have H10 := Lib.hid (H8.out.trans h10)
          clear h10
          go_wp2
          go_ret
          exact ⟨rfl, H10.out⟩
        · obtain ⟨z1, z2⟩ := parL_bad (B t) hok
          rw [z1, z2] at PT
          have hne : ((parL (B t)).2.2 == 0) = false := by simpa using hok
          generalize (parL (B t)).2.2 = er at *
          clear hok z1 z2
          go_enter Tryd.func4, Tryd.ntmps4
          go_wp2_with fail
          refine (F1.out _ (HE.out.nx N0.out)).mono ?_
          rintro r w2 ⟨rfl, h2⟩
          obtain ⟨g1, g2, g3, g4, g5, g6⟩ := HS.out w2 h2
          have S2 := Lib.hid h2
          have H2 := Lib.hid (N0.out.trans h2)
          clear h2
          go_wp2_with fail
          refine (Z1.out _).mono ?_
          rintro r w3 ⟨rfl, h3⟩
          obtain ⟨g1', g2', g3', g4', g5', g6'⟩ := HS.out w3 (S2.out.trans h3)
          have H3 := Lib.hid (H2.out.trans h3)
          clear h3
          go_wp2_with fail
          refine (Z2.out _).mono ?_
          rintro r w4 ⟨rfl, h4⟩
          have H4 := Lib.hid (H3.out.trans h4)
          clear h4
          go_wp2_with fail
          refine (PT.out _ (HE.out.nx H4.out)).mono ?_
          rintro r w7 ⟨rfl, h7⟩
          have H7 := Lib.hid ((H4.out).trans h7)
          clear h7
          go_wp2_with fail
          refine (alive_any _ (HE.out.nx (H7.out.alloc _))).mono ?_
          rintro r w8 ⟨rfl, h8⟩
          have g71 := h8.cell (cell_new w7 #[.int .i64 0, .int .i64 0] 23 _ 0 _ rfl rfl)
          have g72 := h8.cell (cell_new w7 #[.int .i64 0, .int .i64 0] 23 _ 1 _ rfl rfl)
          have H8 := Lib.hid ((H7.out.alloc _).trans h8)
          clear h8
          go_wp2
          go_ret
          exact ⟨rfl, H8.out⟩
end Go.Proofs.YtfkjggghlkondaaDoor
