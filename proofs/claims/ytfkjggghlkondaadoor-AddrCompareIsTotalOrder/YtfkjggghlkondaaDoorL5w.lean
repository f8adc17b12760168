/- The walk of AddrCompareIsTotalOrder. Conditions: the tables are laid. -/
import Derived.Test.YtfkjggghlkondaaDoorK
import Derived.Deep.DeepCutAuto
namespace Go.Proofs.YtfkjggghlkondaaDoor
open Go.RowKit

theorem cmpA_three (k n k' n' : Int) : cmpA k n k' n' = -1 ∨ cmpA k n k' n' = 0 ∨ cmpA k n k' n' = 1 := by
  unfold cmpA cmpI; split <;> split <;> (try split) <;> (try split) <;> omega
theorem cmpA_trans (k n k' n' k'' n'' : Int) : cmpA k n k' n' = -1 → cmpA k' n' k'' n'' ≤ 0 → cmpA k n k'' n'' = -1 := by
  intro h1 h2
  have a1 : k < k' ∨ k = k' ∧ n < n' := by
    refine Decidable.byContradiction fun h => ?_
    have : k = k' ∧ n = n' ∨ (k' < k ∨ k = k' ∧ n' < n) := by omega
    rcases this with h | h
    · rw [cmpA_eq h] at h1; omega
    · rw [cmpA_gt h] at h1; omega
  have a2 : k' < k'' ∨ k' = k'' ∧ n' ≤ n'' := by
    refine Decidable.byContradiction fun h => ?_
    rw [cmpA_gt (show k'' < k' ∨ k' = k'' ∧ n'' < n' by omega)] at h2; omega
  exact cmpA_lt (by omega)
theorem cell_new (W : World) (cs : Array Value) (T : TypeId) (b i : Nat) (v : Value) (hb : b = W.heap.size) (hv : cs[i]? = some v) : (W.alloc (.cells cs T)).cell? ⟨b, i, none⟩ = some v := by
  subst hb; rw [World.cell?_alloc_new]; exact hv

set_option maxHeartbeats 800000 in
set_option maxRecDepth 100000 in
theorem law5 (k1 n1 k2 n2 k3 n3 : Int) (w : World) (he : Env w) :
    Calls Tryd.prog 5 #[.agg #[.int .i64 k1, .int .i64 n1], .agg #[.int .i64 k2, .int .i64 n2], .agg #[.int .i64 k3, .int .i64 n3]] w fun e w' => e = .returned (.bool true) ∧ Nx w w' := by
  have N0 := Lib.hid (show Nx w (((w.alloc (.cells #[.int .i64 k1, .int .i64 n1] 23)).alloc (.cells #[.int .i64 k2, .int .i64 n2] 23)).alloc (.cells #[.int .i64 k3, .int .i64 n3] 23)) from ((Nx.one _ _).alloc _).alloc _)
  have HS := Lib.hid (show ∀ w1, Nx (((w.alloc (.cells #[.int .i64 k1, .int .i64 n1] 23)).alloc (.cells #[.int .i64 k2, .int .i64 n2] 23)).alloc (.cells #[.int .i64 k3, .int .i64 n3] 23)) w1 → w1.cell? ⟨w.heap.size, 0, none⟩ = some (.int .i64 k1) ∧ w1.cell? ⟨w.heap.size, 1, none⟩ = some (.int .i64 n1) ∧ w1.cell? ⟨w.heap.size + 1, 0, none⟩ = some (.int .i64 k2) ∧ w1.cell? ⟨w.heap.size + 1, 1, none⟩ = some (.int .i64 n2) ∧ w1.cell? ⟨w.heap.size + 1 + 1, 0, none⟩ = some (.int .i64 k3) ∧ w1.cell? ⟨w.heap.size + 1 + 1, 1, none⟩ = some (.int .i64 n3) from fun w1 h =>
    have h2 := (Nx.one ((w.alloc (.cells #[.int .i64 k1, .int .i64 n1] 23)).alloc (.cells #[.int .i64 k2, .int .i64 n2] 23)) (.cells #[.int .i64 k3, .int .i64 n3] 23)).trans h
    have h1 := (Nx.one (w.alloc (.cells #[.int .i64 k1, .int .i64 n1] 23)) (.cells #[.int .i64 k2, .int .i64 n2] 23)).trans h2
    ⟨h1.cell (cell_new _ _ _ _ _ _ rfl rfl), h1.cell (cell_new _ _ _ _ _ _ rfl rfl), h2.cell (cell_new _ _ _ _ _ _ (by simp) rfl), h2.cell (cell_new _ _ _ _ _ _ (by simp) rfl), h.cell (cell_new _ _ _ _ _ _ (by simp) rfl), h.cell (cell_new _ _ _ _ _ _ (by simp) rfl)⟩)
  have HE := Lib.hid he
  clear he
  have C12 := Lib.hid (compare_any k1 n1 k2 n2)
  have C23 := Lib.hid (compare_any k2 n2 k3 n3)
  have C13 := Lib.hid (compare_any k1 n1 k3 n3)
  go_enter Tryd.func5, Tryd.ntmps5
  go_wp2_with fail
  go_cut [7, 8, 9] (fun a b c wx => a = .int .i64 (cmpA k1 n1 k2 n2) ∧ b = .int .i64 (cmpA k2 n2 k3 n3) ∧ c = .int .i64 (cmpA k1 n1 k3 n3) ∧ Nx (((w.alloc (.cells #[.int .i64 k1, .int .i64 n1] 23)).alloc (.cells #[.int .i64 k2, .int .i64 n2] 23)).alloc (.cells #[.int .i64 k3, .int .i64 n3] 23)) wx)
  case first =>
    go_region_held3 (fun w1 => w1.cell? ⟨w.heap.size, 0, none⟩ = some (.int .i64 k1) ∧ w1.cell? ⟨w.heap.size, 1, none⟩ = some (.int .i64 n1) ∧ w1.cell? ⟨w.heap.size + 1, 0, none⟩ = some (.int .i64 k2) ∧ w1.cell? ⟨w.heap.size + 1, 1, none⟩ = some (.int .i64 n2) ∧ w1.cell? ⟨w.heap.size + 1 + 1, 0, none⟩ = some (.int .i64 k3) ∧ w1.cell? ⟨w.heap.size + 1 + 1, 1, none⟩ = some (.int .i64 n3)) (first | exact HS.out _ (by repeat (first | exact Nx.refl _ | assumption | refine Nx.drew ?_ | refine Nx.drewN ?_ _ | refine Nx.alloc ?_ _ | refine Nx.trans ?_ (by assumption))))
      (first | (go_at_call 16; refine (compare_any _ _ _ _ _).mono ?_; rintro e w4 ⟨rfl, h4⟩))
    all_goals go_wp2_with fail
    all_goals go_meet
    all_goals exact ⟨rfl, rfl, rfl, by repeat (first | exact Nx.refl _ | assumption | refine Nx.drew ?_ | refine Nx.drewN ?_ _ | refine Nx.alloc ?_ _ | refine Nx.trans ?_ (by assumption))⟩
  case rest =>
    obtain ⟨hx, hy, hz, hnx⟩ := hcut
    have hn := N0.out.trans hnx
    have HN := Lib.hid hn
    have H1 := Lib.hid hnx
    obtain ⟨g1, g2, g3, g4, g5, g6⟩ := HS.out wc hnx
    have tri : (k1 < k2) ∨ (k1 = k2 ∧ n1 < n2) ∨ (k1 = k2 ∧ n1 = n2) ∨ (k2 < k1) ∨ (k1 = k2 ∧ n2 < n1) := by omega
    have HZ := Lib.hid (cmpA_trans k1 n1 k2 n2 k3 n3)
    have H3 := Lib.hid (cmpA_three k2 n2 k3 n3)
    clear hn hnx C12 C23 C13
    rcases tri with hlt | ⟨rfl, hlt⟩ | ⟨rfl, rfl⟩ | hgt | ⟨rfl, hgt⟩
    · have e12 : cmpA k1 n1 k2 n2 = -1 := cmpA_lt (Or.inl hlt)
      have e21 : cmpA k2 n2 k1 n1 = 1 := cmpA_gt (Or.inl hlt)
      rw [e12] at hx
      subst hx
      have C21 := Lib.hid (fun w => e21 ▸ compare_any k2 n2 k1 n1 w)
      have R12 := Lib.hid (fun w => e12 ▸ refCompare_any k1 n1 k2 n2 w)
      have hz3 : cmpA k2 n2 k3 n3 = 1 ∨ (cmpA k2 n2 k3 n3 ≤ 0 ∧ cmpA k1 n1 k3 n3 = -1) := by have := HZ.out; have := H3.out; omega
      generalize cmpA k2 n2 k3 n3 = Y at *
      generalize cmpA k1 n1 k3 n3 = Z at *
      subst hy hz
      clear e12 e21
      rcases hz3 with rfl | ⟨hy0, rfl⟩
      · go_wp2_with fail
        refine (C21.out _).mono ?_
        rintro e w4 ⟨rfl, h4⟩
        have g1' := h4.cell g1
        have g2' := h4.cell g2
        have g3' := h4.cell g3
        have g4' := h4.cell g4
        have HN4 := Lib.hid (HN.out.trans h4)
        clear h4
        go_wp2_with fail
        refine (R12.out _).mono ?_
        rintro e w5 ⟨rfl, h5⟩
        have HN5 := Lib.hid (HN4.out.trans h5)
        clear h5
        go_wp2_with fail
        refine (alive_any _ (HE.out.nx HN5.out)).mono ?_
        rintro e w6 ⟨rfl, h6⟩
        have HN6 := Lib.hid (HN5.out.trans h6)
        clear h6
        go_wp2
        go_ret
        exact ⟨rfl, HN6.out⟩
      · go_wp2_with fail
        refine (C21.out _).mono ?_
        rintro e w4 ⟨rfl, h4⟩
        have g1' := h4.cell g1
        have g2' := h4.cell g2
        have g3' := h4.cell g3
        have g4' := h4.cell g4
        have HN4 := Lib.hid (HN.out.trans h4)
        clear h4
        go_wp2_with fail
        refine (R12.out _).mono ?_
        rintro e w5 ⟨rfl, h5⟩
        have HN5 := Lib.hid (HN4.out.trans h5)
        clear h5
        go_wp2_with fail
        refine (alive_any _ (HE.out.nx HN5.out)).mono ?_
        rintro e w6 ⟨rfl, h6⟩
        have HN6 := Lib.hid (HN5.out.trans h6)
        clear h6
        go_wp2
        go_ret
        exact ⟨rfl, HN6.out⟩
    · have e12 : cmpA k1 n1 k1 n2 = -1 := cmpA_lt (Or.inr ⟨rfl, hlt⟩)
      have e21 : cmpA k1 n2 k1 n1 = 1 := cmpA_gt (Or.inr ⟨rfl, hlt⟩)
      rw [e12] at hx
      subst hx
      have C21 := Lib.hid (fun w => e21 ▸ compare_any k1 n2 k1 n1 w)
      have R12 := Lib.hid (fun w => e12 ▸ refCompare_any k1 n1 k1 n2 w)
      have hz3 : cmpA k1 n2 k3 n3 = 1 ∨ (cmpA k1 n2 k3 n3 ≤ 0 ∧ cmpA k1 n1 k3 n3 = -1) := by have := HZ.out; have := H3.out; omega
      generalize cmpA k1 n2 k3 n3 = Y at *
      generalize cmpA k1 n1 k3 n3 = Z at *
      subst hy hz
      clear e12 e21
      rcases hz3 with rfl | ⟨hy0, rfl⟩
      · go_wp2_with fail
        refine (C21.out _).mono ?_
        rintro e w4 ⟨rfl, h4⟩
        have g1' := h4.cell g1
        have g2' := h4.cell g2
        have g3' := h4.cell g3
        have g4' := h4.cell g4
        have HN4 := Lib.hid (HN.out.trans h4)
        clear h4
        go_wp2_with fail
        refine (R12.out _).mono ?_
        rintro e w5 ⟨rfl, h5⟩
        have HN5 := Lib.hid (HN4.out.trans h5)
        clear h5
        go_wp2_with fail
        refine (alive_any _ (HE.out.nx HN5.out)).mono ?_
        rintro e w6 ⟨rfl, h6⟩
        have HN6 := Lib.hid (HN5.out.trans h6)
        clear h6
        go_wp2
        go_ret
        exact ⟨rfl, HN6.out⟩
      · go_wp2_with fail
        refine (C21.out _).mono ?_
        rintro e w4 ⟨rfl, h4⟩
        have g1' := h4.cell g1
        have g2' := h4.cell g2
        have g3' := h4.cell g3
        have g4' := h4.cell g4
        have HN4 := Lib.hid (HN.out.trans h4)
        clear h4
        go_wp2_with fail
        refine (R12.out _).mono ?_
        rintro e w5 ⟨rfl, h5⟩
        have HN5 := Lib.hid (HN4.out.trans h5)
        clear h5
        go_wp2_with fail
        refine (alive_any _ (HE.out.nx HN5.out)).mono ?_
        rintro e w6 ⟨rfl, h6⟩
        have HN6 := Lib.hid (HN5.out.trans h6)
        clear h6
        go_wp2
        go_ret
        exact ⟨rfl, HN6.out⟩
    · have e12 : cmpA k1 n1 k1 n1 = 0 := cmpA_eq ⟨rfl, rfl⟩
      have e21 := e12
      rw [e12] at hx
      subst hx
      have C21 := Lib.hid (fun w => e21 ▸ compare_any k1 n1 k1 n1 w)
      have R12 := Lib.hid (fun w => e12 ▸ refCompare_any k1 n1 k1 n1 w)
      have hz3 : cmpA k1 n1 k3 n3 = 1 ∨ cmpA k1 n1 k3 n3 = 0 ∨ cmpA k1 n1 k3 n3 = -1 := by have := H3.out; omega
      generalize cmpA k1 n1 k3 n3 = Y at *
      subst hy hz
      clear e12 e21
      rcases hz3 with rfl | rfl | rfl
      · go_wp2_with fail
        refine (C21.out _).mono ?_
        rintro e w4 ⟨rfl, h4⟩
        have g1' := h4.cell g1
        have g2' := h4.cell g2
        have g3' := h4.cell g3
        have g4' := h4.cell g4
        have HN4 := Lib.hid (HN.out.trans h4)
        clear h4
        go_wp2_with fail
        refine (R12.out _).mono ?_
        rintro e w5 ⟨rfl, h5⟩
        have HN5 := Lib.hid (HN4.out.trans h5)
        clear h5
        go_wp2_with fail
        refine (alive_any _ (HE.out.nx HN5.out)).mono ?_
        rintro e w6 ⟨rfl, h6⟩
        have HN6 := Lib.hid (HN5.out.trans h6)
        clear h6
        go_wp2
        go_ret
        exact ⟨rfl, HN6.out⟩
      · go_wp2_with fail
        refine (C21.out _).mono ?_
        rintro e w4 ⟨rfl, h4⟩
        have g1' := h4.cell g1
        have g2' := h4.cell g2
        have g3' := h4.cell g3
        have g4' := h4.cell g4
        have HN4 := Lib.hid (HN.out.trans h4)
        clear h4
        go_wp2_with fail
        refine (R12.out _).mono ?_
        rintro e w5 ⟨rfl, h5⟩
        have HN5 := Lib.hid (HN4.out.trans h5)
        clear h5
        go_wp2_with fail
        refine (alive_any _ (HE.out.nx HN5.out)).mono ?_
        rintro e w6 ⟨rfl, h6⟩
        have HN6 := Lib.hid (HN5.out.trans h6)
        clear h6
        go_wp2
        go_ret
        exact ⟨rfl, HN6.out⟩
      · go_wp2_with fail
        refine (C21.out _).mono ?_
        rintro e w4 ⟨rfl, h4⟩
        have g1' := h4.cell g1
        have g2' := h4.cell g2
        have g3' := h4.cell g3
        have g4' := h4.cell g4
        have HN4 := Lib.hid (HN.out.trans h4)
        clear h4
        go_wp2_with fail
        refine (R12.out _).mono ?_
        rintro e w5 ⟨rfl, h5⟩
        have HN5 := Lib.hid (HN4.out.trans h5)
        clear h5
        go_wp2_with fail
        refine (alive_any _ (HE.out.nx HN5.out)).mono ?_
        rintro e w6 ⟨rfl, h6⟩
        have HN6 := Lib.hid (HN5.out.trans h6)
        clear h6
        go_wp2
        go_ret
        exact ⟨rfl, HN6.out⟩
    · have e12 : cmpA k1 n1 k2 n2 = 1 := cmpA_gt (Or.inl hgt)
      have e21 : cmpA k2 n2 k1 n1 = -1 := cmpA_lt (Or.inl hgt)
      rw [e12] at hx
      subst hx
      have C21 := Lib.hid (fun w => e21 ▸ compare_any k2 n2 k1 n1 w)
      have R12 := Lib.hid (fun w => e12 ▸ refCompare_any k1 n1 k2 n2 w)
      generalize cmpA k2 n2 k3 n3 = Y at *
      generalize cmpA k1 n1 k3 n3 = Z at *
      subst hy hz
      clear e12 e21
      go_wp2_with fail
      refine (C21.out _).mono ?_
      rintro e w4 ⟨rfl, h4⟩
      have g1' := h4.cell g1
      have g2' := h4.cell g2
      have g3' := h4.cell g3
      have g4' := h4.cell g4
      have HN4 := Lib.hid (HN.out.trans h4)
      clear h4
      go_wp2_with fail
      refine (R12.out _).mono ?_
      rintro e w5 ⟨rfl, h5⟩
      have HN5 := Lib.hid (HN4.out.trans h5)
      clear h5
      go_wp2_with fail
      refine (alive_any _ (HE.out.nx HN5.out)).mono ?_
      rintro e w6 ⟨rfl, h6⟩
      have HN6 := Lib.hid (HN5.out.trans h6)
      clear h6
      go_wp2
      go_ret
      exact ⟨rfl, HN6.out⟩
    · have e12 : cmpA k1 n1 k1 n2 = 1 := cmpA_gt (Or.inr ⟨rfl, hgt⟩)
      have e21 : cmpA k1 n2 k1 n1 = -1 := cmpA_lt (Or.inr ⟨rfl, hgt⟩)
      rw [e12] at hx
      subst hx
      have C21 := Lib.hid (fun w => e21 ▸ compare_any k1 n2 k1 n1 w)
      have R12 := Lib.hid (fun w => e12 ▸ refCompare_any k1 n1 k1 n2 w)
      generalize cmpA k1 n2 k3 n3 = Y at *
      generalize cmpA k1 n1 k3 n3 = Z at *
      subst hy hz
      clear e12 e21
      go_wp2_with fail
      refine (C21.out _).mono ?_
      rintro e w4 ⟨rfl, h4⟩
      have g1' := h4.cell g1
      have g2' := h4.cell g2
      have g3' := h4.cell g3
      have g4' := h4.cell g4
      have HN4 := Lib.hid (HN.out.trans h4)
      clear h4
      go_wp2_with fail
      refine (R12.out _).mono ?_
      rintro e w5 ⟨rfl, h5⟩
      have HN5 := Lib.hid (HN4.out.trans h5)
      clear h5
      go_wp2_with fail
      refine (alive_any _ (HE.out.nx HN5.out)).mono ?_
      rintro e w6 ⟨rfl, h6⟩
      have HN6 := Lib.hid (HN5.out.trans h6)
      clear h6
      go_wp2
      go_ret
      exact ⟨rfl, HN6.out⟩
end Go.Proofs.YtfkjggghlkondaaDoor
