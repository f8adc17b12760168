/- The walk of AddrFormatIsInjective. Conditions: the tables are laid. -/
import Derived.Test.YtfkjggghlkondaaDoorPlain2
import Derived.Deep.DeepCutAuto
namespace Go.Proofs.YtfkjggghlkondaaDoor
open Go.RowKit

theorem cell_new (W : World) (cs : Array Value) (T : TypeId) (b i : Nat) (v : Value) (hb : b = W.heap.size) (hv : cs[i]? = some v) : (W.alloc (.cells cs T)).cell? ⟨b, i, none⟩ = some v := by
  subst hb; rw [World.cell?_alloc_new]; exact hv
theorem fmtS_yes (k n : Nat) (hk : k < 3) (hn : n ≤ 255) : fmtS k n = lt k ++ dec n := by
  unfold fmtS; rw [if_pos (by omega)]; simp
theorem fmt_size (k n : Nat) : 0 < (lt k ++ dec n).size := by rw [size_append, lt_size]; omega
theorem fmtS_pos (k n : Int) (h1 : 0 ≤ k) (h2 : k < 3) (h3 : 0 ≤ n) (h4 : n ≤ 255) : 0 < (fmtS k n).size := by
  obtain ⟨k, rfl⟩ := Int.eq_ofNat_of_zero_le h1
  obtain ⟨n, rfl⟩ := Int.eq_ofNat_of_zero_le h3
  rw [fmtS_yes k n (by omega) (by omega)]; exact fmt_size k n
theorem fmtS_inj (k n k' n' : Int) (h1 : 0 ≤ k) (h2 : k < 3) (h3 : 0 ≤ n) (h4 : n ≤ 255) (h1' : 0 ≤ k') (h2' : k' < 3) (h3' : 0 ≤ n') (h4' : n' ≤ 255) (h : fmtS k n = fmtS k' n') : k = k' ∧ n = n' := by
  obtain ⟨k, rfl⟩ := Int.eq_ofNat_of_zero_le h1
  obtain ⟨n, rfl⟩ := Int.eq_ofNat_of_zero_le h3
  obtain ⟨k', rfl⟩ := Int.eq_ofNat_of_zero_le h1'
  obtain ⟨n', rfl⟩ := Int.eq_ofNat_of_zero_le h3'
  rw [fmtS_yes k n (by omega) (by omega), fmtS_yes k' n' (by omega) (by omega)] at h
  have e1 := parL_fmt k n (by omega) (by omega)
  have e2 := parL_fmt k' n' (by omega) (by omega)
  rw [h, e2] at e1
  simp only [Prod.mk.injEq] at e1
  exact ⟨e1.1.symm, e1.2.1.symm⟩

set_option maxHeartbeats 1600000 in
set_option maxRecDepth 100000 in
theorem law7 (x y : Int) (hx0 : 0 ≤ x) (hx1 : x ≤ 65535) (hy0 : 0 ≤ y) (hy1 : y ≤ 65535) (w : World) (he : Env w) :
    Calls Tryd.prog 7 #[.int .u16 x, .int .u16 y] w fun r w' => r = .returned (.bool true) ∧ Nx w w' := by
  have HE := Lib.hid he
  clear he
  have b1 : 0 ≤ x / 256 % 3 := by omega
  have b2 : x / 256 % 3 < 3 := by omega
  have b3 : 0 ≤ x % 256 := by omega
  have b4 : x % 256 ≤ 255 := by omega
  have d1 : 0 ≤ y / 256 % 3 := by omega
  have d2 : y / 256 % 3 < 3 := by omega
  have d3 : 0 ≤ y % 256 := by omega
  have d4 : y % 256 ≤ 255 := by omega
  have B1 := Lib.hid b1
  have B2 := Lib.hid b2
  have B3 := Lib.hid b3
  have B4 := Lib.hid b4
  have D1 := Lib.hid d1
  have D2 := Lib.hid d2
  have D3 := Lib.hid d3
  have D4 := Lib.hid d4
  clear b1 b2 b3 b4 d1 d2 d3 d4
  go_enter Tryd.func7, Tryd.ntmps7
  go_wp2_with fail
  generalize x / 256 % 3 = k1 at *
  generalize x % 256 = n1 at *
  generalize y / 256 % 3 = k2 at *
  generalize y % 256 = n2 at *
  have N0 := Lib.hid (show Nx w ((w.alloc (.cells #[.int .i64 k1, .int .i64 n1] 23)).alloc (.cells #[.int .i64 k2, .int .i64 n2] 23)) from (Nx.one _ _).alloc _)
  have HS := Lib.hid (show ∀ w1, Nx ((w.alloc (.cells #[.int .i64 k1, .int .i64 n1] 23)).alloc (.cells #[.int .i64 k2, .int .i64 n2] 23)) w1 → w1.cell? ⟨w.heap.size, 0, none⟩ = some (.int .i64 k1) ∧ w1.cell? ⟨w.heap.size, 1, none⟩ = some (.int .i64 n1) ∧ w1.cell? ⟨w.heap.size + 1, 0, none⟩ = some (.int .i64 k2) ∧ w1.cell? ⟨w.heap.size + 1, 1, none⟩ = some (.int .i64 n2) from fun w1 h =>
    have h1 := (Nx.one (w.alloc (.cells #[.int .i64 k1, .int .i64 n1] 23)) (.cells #[.int .i64 k2, .int .i64 n2] 23)).trans h
    ⟨h1.cell (cell_new _ _ _ _ _ _ rfl rfl), h1.cell (cell_new _ _ _ _ _ _ rfl rfl), h.cell (cell_new _ _ _ _ _ _ (by simp) rfl), h.cell (cell_new _ _ _ _ _ _ (by simp) rfl)⟩)
  go_cut [7, 8] (fun a b wx => a = .string (fmtS k1 n1) ∧ b = .string (fmtS k2 n2) ∧ Nx ((w.alloc (.cells #[.int .i64 k1, .int .i64 n1] 23)).alloc (.cells #[.int .i64 k2, .int .i64 n2] 23)) wx)
  case first =>
    go_region_held3 (fun w1 => w1.cell? ⟨w.heap.size, 0, none⟩ = some (.int .i64 k1) ∧ w1.cell? ⟨w.heap.size, 1, none⟩ = some (.int .i64 n1) ∧ w1.cell? ⟨w.heap.size + 1, 0, none⟩ = some (.int .i64 k2) ∧ w1.cell? ⟨w.heap.size + 1, 1, none⟩ = some (.int .i64 n2)) (first | exact HS.out _ (by repeat (first | exact Nx.refl _ | assumption | refine Nx.drew ?_ | refine Nx.drewN ?_ _ | refine Nx.alloc ?_ _ | refine Nx.trans ?_ (by assumption))))
      (first | (go_at_call 12; refine (format_any _ _ _ ?_).mono ?_; (focus (refine HE.out.nx (N0.out.trans ?_); repeat (first | exact Nx.refl _ | assumption | refine Nx.drew ?_ | refine Nx.drewN ?_ _ | refine Nx.alloc ?_ _ | refine Nx.trans ?_ (by assumption)))); rintro e w4 ⟨rfl, h4⟩))
    all_goals go_wp2_with fail
    all_goals go_meet
    all_goals exact ⟨rfl, rfl, by repeat (first | exact Nx.refl _ | assumption | refine Nx.drew ?_ | refine Nx.drewN ?_ _ | refine Nx.alloc ?_ _ | refine Nx.trans ?_ (by assumption))⟩
  case rest =>
    obtain ⟨hs1, hs2, hnx⟩ := hcut
    have p1 := isEmpty_no _ (Nat.ne_of_gt (fmtS_pos k1 n1 B1.out B2.out B3.out B4.out))
    have p2 := isEmpty_no _ (Nat.ne_of_gt (fmtS_pos k2 n2 D1.out D2.out D3.out D4.out))
    have hinj := fmtS_inj k1 n1 k2 n2 B1.out B2.out B3.out B4.out D1.out D2.out D3.out D4.out
    have HN := Lib.hid (N0.out.trans hnx)
    obtain ⟨g1, g2, g3, g4⟩ := HS.out wc hnx
    have HD := Lib.hid hnx
    have tri : (k1 < k2) ∨ (k1 = k2 ∧ n1 < n2) ∨ (k1 = k2 ∧ n1 = n2) ∨ (k2 < k1) ∨ (k1 = k2 ∧ n2 < n1) := by omega
    have HB := Lib.hid (show 0 ≤ k1 ∧ k1 < 3 ∧ 0 ≤ n1 ∧ n1 ≤ 255 ∧ 0 ≤ k2 ∧ k2 < 3 ∧ 0 ≤ n2 ∧ n2 ≤ 255 from ⟨B1.out, B2.out, B3.out, B4.out, D1.out, D2.out, D3.out, D4.out⟩)
    clear hnx B1 B2 B3 B4 D1 D2 D3 D4
    rcases tri with hlt | ⟨rfl, hlt⟩ | ⟨rfl, rfl⟩ | hlt | ⟨rfl, hlt⟩
    · obtain ⟨b1, b2, b3, b4, d1, d2, d3, d4⟩ := HB.out
      have sne := eq_no (fun e => by have := hinj (B_inj e); omega : B (fmtS k1 n1) ≠ B (fmtS k2 n2))
      have e12 : cmpA k1 n1 k2 n2 = -1 := cmpA_lt (Or.inl hlt)
      have C12 := Lib.hid (fun w => e12 ▸ compare_any k1 n1 k2 n2 w)
      clear hinj e12
      generalize fmtS k1 n1 = f1 at *
      generalize fmtS k2 n2 = f2 at *
      subst hs1 hs2
      go_wp2_with fail
      go_quiet (fail)
      have mm : (k1 * 256 + n1 < k2 * 256 + n2) := by omega
      go_wp2_with fail
      refine (alive_any _ (HE.out.nx (by exact HN.out.trans ((Nx.refl _).drewN _)))).mono ?_
      rintro r w6 ⟨rfl, h6⟩
      obtain ⟨g1', g2', g3', g4'⟩ := HS.out w6 (HD.out.trans (((Nx.refl _).drewN _).trans h6))
      have HN6 := Lib.hid (HN.out.trans (((Nx.refl _).drewN _).trans h6))
      have HD6 := Lib.hid (HD.out.trans (((Nx.refl _).drewN _).trans h6))
      clear h6
      go_wp2_with fail
      refine (C12.out _).mono ?_
      rintro r w7 ⟨rfl, h7⟩
      obtain ⟨g1'', g2'', g3'', g4''⟩ := HS.out w7 (HD6.out.trans h7)
      have HN7 := Lib.hid (HN6.out.trans h7)
      clear h7
      go_wp2_with fail
      refine (C12.out _).mono ?_
      rintro r w8 ⟨rfl, h8⟩
      have HN8 := Lib.hid (HN7.out.trans h8)
      clear h8
      go_wp2
      go_ret
      exact ⟨ret_bool (by first | rfl | (simp; omega)), HN8.out⟩
    · obtain ⟨b1, b2, b3, b4, d1, d2, d3, d4⟩ := HB.out
      have sne := eq_no (fun e => by have := hinj (B_inj e); omega : B (fmtS k1 n1) ≠ B (fmtS k1 n2))
      have e12 : cmpA k1 n1 k1 n2 = -1 := cmpA_lt (Or.inr ⟨rfl, hlt⟩)
      have C12 := Lib.hid (fun w => e12 ▸ compare_any k1 n1 k1 n2 w)
      clear hinj e12
      generalize fmtS k1 n1 = f1 at *
      generalize fmtS k1 n2 = f2 at *
      subst hs1 hs2
      go_wp2_with fail
      go_quiet (fail)
      go_wp2_with fail
      refine (alive_any _ (HE.out.nx (by exact HN.out.trans ((Nx.refl _).drewN _)))).mono ?_
      rintro r w6 ⟨rfl, h6⟩
      obtain ⟨g1', g2', g3', g4'⟩ := HS.out w6 (HD.out.trans (((Nx.refl _).drewN _).trans h6))
      have HN6 := Lib.hid (HN.out.trans (((Nx.refl _).drewN _).trans h6))
      have HD6 := Lib.hid (HD.out.trans (((Nx.refl _).drewN _).trans h6))
      clear h6
      go_wp2_with fail
      refine (C12.out _).mono ?_
      rintro r w7 ⟨rfl, h7⟩
      obtain ⟨g1'', g2'', g3'', g4''⟩ := HS.out w7 (HD6.out.trans h7)
      have HN7 := Lib.hid (HN6.out.trans h7)
      clear h7
      go_wp2_with fail
      refine (C12.out _).mono ?_
      rintro r w8 ⟨rfl, h8⟩
      have HN8 := Lib.hid (HN7.out.trans h8)
      clear h8
      go_wp2
      go_ret
      exact ⟨ret_bool (by first | rfl | (simp; omega)), HN8.out⟩
    · obtain ⟨b1, b2, b3, b4, d1, d2, d3, d4⟩ := HB.out
      have e12 : cmpA k1 n1 k1 n1 = 0 := cmpA_eq ⟨rfl, rfl⟩
      have C12 := Lib.hid (fun w => e12 ▸ compare_any k1 n1 k1 n1 w)
      clear hinj e12
      generalize fmtS k1 n1 = f1 at *
      subst hs1 hs2
      go_wp2_with fail
      go_quiet (fail)
      go_wp2_with fail
      refine (alive_any _ (HE.out.nx (by exact HN.out.trans ((Nx.refl _).drewN _)))).mono ?_
      rintro r w6 ⟨rfl, h6⟩
      obtain ⟨g1', g2', g3', g4'⟩ := HS.out w6 (HD.out.trans (((Nx.refl _).drewN _).trans h6))
      have HN6 := Lib.hid (HN.out.trans (((Nx.refl _).drewN _).trans h6))
      have HD6 := Lib.hid (HD.out.trans (((Nx.refl _).drewN _).trans h6))
      clear h6
      go_wp2_with fail
      refine (C12.out _).mono ?_
      rintro r w7 ⟨rfl, h7⟩
      obtain ⟨g1'', g2'', g3'', g4''⟩ := HS.out w7 (HD6.out.trans h7)
      have HN7 := Lib.hid (HN6.out.trans h7)
      clear h7
      go_wp2_with fail
      refine (C12.out _).mono ?_
      rintro r w8 ⟨rfl, h8⟩
      have HN8 := Lib.hid (HN7.out.trans h8)
      clear h8
      go_wp2
      go_ret
      exact ⟨ret_bool (by first | rfl | (simp; omega)), HN8.out⟩
    · obtain ⟨b1, b2, b3, b4, d1, d2, d3, d4⟩ := HB.out
      have sne := eq_no (fun e => by have := hinj (B_inj e); omega : B (fmtS k1 n1) ≠ B (fmtS k2 n2))
      have e12 : cmpA k1 n1 k2 n2 = 1 := cmpA_gt (Or.inl hlt)
      have C12 := Lib.hid (fun w => e12 ▸ compare_any k1 n1 k2 n2 w)
      clear hinj e12
      generalize fmtS k1 n1 = f1 at *
      generalize fmtS k2 n2 = f2 at *
      subst hs1 hs2
      go_wp2_with fail
      go_quiet (fail)
      have mm : (k2 * 256 + n2 < k1 * 256 + n1) := by omega
      go_wp2_with fail
      refine (alive_any _ (HE.out.nx (by exact HN.out.trans ((Nx.refl _).drewN _)))).mono ?_
      rintro r w6 ⟨rfl, h6⟩
      obtain ⟨g1', g2', g3', g4'⟩ := HS.out w6 (HD.out.trans (((Nx.refl _).drewN _).trans h6))
      have HN6 := Lib.hid (HN.out.trans (((Nx.refl _).drewN _).trans h6))
      have HD6 := Lib.hid (HD.out.trans (((Nx.refl _).drewN _).trans h6))
      clear h6
      go_wp2_with fail
      refine (C12.out _).mono ?_
      rintro r w7 ⟨rfl, h7⟩
      obtain ⟨g1'', g2'', g3'', g4''⟩ := HS.out w7 (HD6.out.trans h7)
      have HN7 := Lib.hid (HN6.out.trans h7)
      clear h7
      go_wp2_with fail
      refine (C12.out _).mono ?_
      rintro r w8 ⟨rfl, h8⟩
      have HN8 := Lib.hid (HN7.out.trans h8)
      clear h8
      go_wp2
      go_ret
      exact ⟨ret_bool (by first | rfl | (simp; omega)), HN8.out⟩
    · obtain ⟨b1, b2, b3, b4, d1, d2, d3, d4⟩ := HB.out
      have sne := eq_no (fun e => by have := hinj (B_inj e); omega : B (fmtS k1 n1) ≠ B (fmtS k1 n2))
      have e12 : cmpA k1 n1 k1 n2 = 1 := cmpA_gt (Or.inr ⟨rfl, hlt⟩)
      have C12 := Lib.hid (fun w => e12 ▸ compare_any k1 n1 k1 n2 w)
      clear hinj e12
      generalize fmtS k1 n1 = f1 at *
      generalize fmtS k1 n2 = f2 at *
      subst hs1 hs2
      go_wp2_with fail
      go_quiet (fail)
      go_wp2_with fail
      refine (alive_any _ (HE.out.nx (by exact HN.out.trans ((Nx.refl _).drewN _)))).mono ?_
      rintro r w6 ⟨rfl, h6⟩
      obtain ⟨g1', g2', g3', g4'⟩ := HS.out w6 (HD.out.trans (((Nx.refl _).drewN _).trans h6))
      have HN6 := Lib.hid (HN.out.trans (((Nx.refl _).drewN _).trans h6))
      have HD6 := Lib.hid (HD.out.trans (((Nx.refl _).drewN _).trans h6))
      clear h6
      go_wp2_with fail
      refine (C12.out _).mono ?_
      rintro r w7 ⟨rfl, h7⟩
      obtain ⟨g1'', g2'', g3'', g4''⟩ := HS.out w7 (HD6.out.trans h7)
      have HN7 := Lib.hid (HN6.out.trans h7)
      clear h7
      go_wp2_with fail
      refine (C12.out _).mono ?_
      rintro r w8 ⟨rfl, h8⟩
      have HN8 := Lib.hid (HN7.out.trans h8)
      clear h8
      go_wp2
      go_ret
      exact ⟨ret_bool (by first | rfl | (simp; omega)), HN8.out⟩
end Go.Proofs.YtfkjggghlkondaaDoor
