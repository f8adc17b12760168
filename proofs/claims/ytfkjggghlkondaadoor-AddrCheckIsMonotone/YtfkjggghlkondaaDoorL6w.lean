/- The walk of AddrCheckIsMonotone. Conditions: the tables are laid. -/
import Derived.Test.YtfkjggghlkondaaDoorK
import Derived.Deep.DeepCutAuto
import Derived.IntWalk
namespace Go.Proofs.YtfkjggghlkondaaDoor
open Go.RowKit

theorem cell_new (W : World) (cs : Array Value) (T : TypeId) (b i : Nat) (v : Value) (hb : b = W.heap.size) (hv : cs[i]? = some v) : (W.alloc (.cells cs T)).cell? ⟨b, i, none⟩ = some v := by
  subst hb; rw [World.cell?_alloc_new]; exact hv
theorem wid_le (a0 a1 a2 b0 b1 b2 k : Int) (i0 : 0 ≤ b0) (i1 : 0 ≤ b1) (i2 : 0 ≤ b2) : wid a0 a1 a2 k ≤ wid (a0 + b0) (a1 + b1) (a2 + b2) k := by
  unfold wid; split
  · omega
  · split
    · omega
    · split <;> omega
theorem cad_in (i q m k n : Int) (h : 0 ≤ k ∧ k < 3) (h0 : 0 ≤ n) (h1 : n < wid i q m k) : cad i q m k n = 0 := by
  unfold cad isSp; rw [if_pos (decide_eq_true h), if_pos ⟨h0, h1⟩]
theorem cad_out (i q m k n : Int) (h : 0 ≤ k ∧ k < 3) (h1 : ¬ n < wid i q m k) : cad i q m k n = 3 := by
  unfold cad isSp; rw [if_pos (decide_eq_true h), if_neg (fun h => h1 h.2)]

set_option maxHeartbeats 1600000 in
set_option maxRecDepth 100000 in
theorem law6 (a0 a1 a2 b0 b1 b2 at0 : Int) (w : World) (he : Env w) (h0 : 0 ≤ a0) (h1 : 0 ≤ a1) (h2 : 0 ≤ a2) (i0 : 0 ≤ b0) (i1 : 0 ≤ b1) (i2 : 0 ≤ b2) (h0' : a0 ≤ 65535) (h1' : a1 ≤ 65535) (h2' : a2 ≤ 65535) (i0' : b0 ≤ 65535) (i1' : b1 ≤ 65535) (i2' : b2 ≤ 65535) (j0 : 0 ≤ at0) (j1 : at0 ≤ 65535) :
    Calls Tryd.prog 6 #[.agg #[.int .u16 a0, .int .u16 a1, .int .u16 a2], .agg #[.int .u16 b0, .int .u16 b1, .int .u16 b2], .int .u16 at0] w fun r w' => r = .returned (.bool true) ∧ Nx w w' := by
  have HE := Lib.hid he
  clear he
  have N0 := Lib.hid (show Nx w ((((w.alloc (.cells #[.int .u16 a0, .int .u16 a1, .int .u16 a2] 40)).alloc (.cells #[.int .u16 b0, .int .u16 b1, .int .u16 b2] 40)).alloc (.cells #[.int .i64 a0, .int .i64 a1, .int .i64 a2, .int .i64 0] 33)).alloc (.cells #[.int .i64 (a0 + b0), .int .i64 (a1 + b1), .int .i64 (a2 + b2), .int .i64 0] 33)) from (((Nx.one _ _).alloc _).alloc _).alloc _)
  have HS := Lib.hid (show ∀ w1, Nx ((((w.alloc (.cells #[.int .u16 a0, .int .u16 a1, .int .u16 a2] 40)).alloc (.cells #[.int .u16 b0, .int .u16 b1, .int .u16 b2] 40)).alloc (.cells #[.int .i64 a0, .int .i64 a1, .int .i64 a2, .int .i64 0] 33)).alloc (.cells #[.int .i64 (a0 + b0), .int .i64 (a1 + b1), .int .i64 (a2 + b2), .int .i64 0] 33)) w1 → w1.cell? ⟨w.heap.size + 1 + 1, 0, none⟩ = some (.int .i64 a0) ∧ w1.cell? ⟨w.heap.size + 1 + 1, 1, none⟩ = some (.int .i64 a1) ∧ w1.cell? ⟨w.heap.size + 1 + 1, 2, none⟩ = some (.int .i64 a2) ∧ w1.cell? ⟨w.heap.size + 1 + 1, 3, none⟩ = some (.int .i64 0) ∧ w1.cell? ⟨w.heap.size + 1 + 1 + 1, 0, none⟩ = some (.int .i64 (a0 + b0)) ∧ w1.cell? ⟨w.heap.size + 1 + 1 + 1, 1, none⟩ = some (.int .i64 (a1 + b1)) ∧ w1.cell? ⟨w.heap.size + 1 + 1 + 1, 2, none⟩ = some (.int .i64 (a2 + b2)) ∧ w1.cell? ⟨w.heap.size + 1 + 1 + 1, 3, none⟩ = some (.int .i64 0) from fun w1 h =>
    have h1 := (Nx.one (((w.alloc (.cells #[.int .u16 a0, .int .u16 a1, .int .u16 a2] 40)).alloc (.cells #[.int .u16 b0, .int .u16 b1, .int .u16 b2] 40)).alloc (.cells #[.int .i64 a0, .int .i64 a1, .int .i64 a2, .int .i64 0] 33)) (.cells #[.int .i64 (a0 + b0), .int .i64 (a1 + b1), .int .i64 (a2 + b2), .int .i64 0] 33)).trans h
    ⟨h1.cell (cell_new _ _ _ _ _ _ (by simp) rfl), h1.cell (cell_new _ _ _ _ _ _ (by simp) rfl), h1.cell (cell_new _ _ _ _ _ _ (by simp) rfl), h1.cell (cell_new _ _ _ _ _ _ (by simp) rfl), h.cell (cell_new _ _ _ _ _ _ (by simp) rfl), h.cell (cell_new _ _ _ _ _ _ (by simp) rfl), h.cell (cell_new _ _ _ _ _ _ (by simp) rfl), h.cell (cell_new _ _ _ _ _ _ (by simp) rfl)⟩)
  have HW := Lib.hid (fun k => wid_le a0 a1 a2 b0 b1 b2 k i0 i1 i2)
  go_enter Tryd.func6, Tryd.ntmps6
  go_wp2_with fail
  go_loopw [40] (fun i wr => ∃ k : Nat, k ≤ 3 ∧ i = .int .i64 k ∧ Nx ((((w.alloc (.cells #[.int .u16 a0, .int .u16 a1, .int .u16 a2] 40)).alloc (.cells #[.int .u16 b0, .int .u16 b1, .int .u16 b2] 40)).alloc (.cells #[.int .i64 a0, .int .i64 a1, .int .i64 a2, .int .i64 0] 33)).alloc (.cells #[.int .i64 (a0 + b0), .int .i64 (a1 + b1), .int .i64 (a2 + b2), .int .i64 0] 33)) wr) (fun i _ => 3 - (intOf i).toNat)
  case atStart => exact ⟨0, by omega, rfl, Nx.refl _⟩
  case round =>
    obtain ⟨k, hk, rfl, hnx⟩ := hrel
    have HX := Lib.hid hnx
    clear hnx
    by_cases hk3 : k < 3
    · have hkb : (0 : Int) ≤ (k : Int) ∧ (k : Int) < 3 := by omega
      have hcases : (at0 < wid a0 a1 a2 k ∧ cad a0 a1 a2 k at0 = 0 ∧ cad (a0 + b0) (a1 + b1) (a2 + b2) k at0 = 0) ∨ (¬ at0 < wid a0 a1 a2 k ∧ cad a0 a1 a2 k at0 = 3) := by
        by_cases h : at0 < wid a0 a1 a2 k
        · left; exact ⟨h, cad_in _ _ _ _ _ hkb j0 h, cad_in _ _ _ _ _ hkb j0 (by have := HW.out k; omega)⟩
        · right; exact ⟨h, cad_out _ _ _ _ _ hkb h⟩
      have HSR := Lib.hid (show ∀ w1, Nx (wr.alloc (.cells #[.int .i64 k, .int .i64 at0] 23)) w1 → w1.cell? ⟨w.heap.size + 1 + 1, 0, none⟩ = some (.int .i64 a0) ∧ w1.cell? ⟨w.heap.size + 1 + 1, 1, none⟩ = some (.int .i64 a1) ∧ w1.cell? ⟨w.heap.size + 1 + 1, 2, none⟩ = some (.int .i64 a2) ∧ w1.cell? ⟨w.heap.size + 1 + 1, 3, none⟩ = some (.int .i64 0) ∧ w1.cell? ⟨w.heap.size + 1 + 1 + 1, 0, none⟩ = some (.int .i64 (a0 + b0)) ∧ w1.cell? ⟨w.heap.size + 1 + 1 + 1, 1, none⟩ = some (.int .i64 (a1 + b1)) ∧ w1.cell? ⟨w.heap.size + 1 + 1 + 1, 2, none⟩ = some (.int .i64 (a2 + b2)) ∧ w1.cell? ⟨w.heap.size + 1 + 1 + 1, 3, none⟩ = some (.int .i64 0) ∧ w1.cell? ⟨wr.heap.size, 0, none⟩ = some (.int .i64 k) ∧ w1.cell? ⟨wr.heap.size, 1, none⟩ = some (.int .i64 at0) from fun w1 h => by
        obtain ⟨c1, c2, c3, c4, c5, c6, c7, c8⟩ := HS.out w1 (HX.out.trans ((Nx.one _ _).trans h))
        exact ⟨c1, c2, c3, c4, c5, c6, c7, c8, h.cell (cell_new _ _ _ _ _ _ rfl rfl), h.cell (cell_new _ _ _ _ _ _ rfl rfl)⟩)
      have HX2 := Lib.hid (HX.out.alloc (.cells #[.int .i64 k, .int .i64 at0] 23))
      have CW := Lib.hid (width_any a0 a1 a2 0 k)
      have CS := Lib.hid (checkAddr_any a0 a1 a2 0 k at0)
      have CT := Lib.hid (checkAddr_any (a0 + b0) (a1 + b1) (a2 + b2) 0 k at0)
      generalize cad a0 a1 a2 k at0 = r1 at *
      generalize cad (a0 + b0) (a1 + b1) (a2 + b2) k at0 = r2 at *
      generalize wid a0 a1 a2 k = wd at *
      rcases hcases with ⟨q1, rfl, rfl⟩ | ⟨q1, rfl⟩
      · have hd : decide (at0 < wd) = true := by simpa using q1
        have hd2 : decide (wd ≤ at0) = false := by simpa using q1
        go_wp2_with fail
        go_cut [69] (fun a wx => a = .bool false ∧ Nx (wr.alloc (.cells #[.int .i64 k, .int .i64 at0] 23)) wx)
        case first =>
          have hwr : IntKind.i64.wrap at0 = at0 := IntWalk.i64_in _ ⟨by omega, by omega⟩
          go_region_held3 (fun w1 => w1.cell? ⟨w.heap.size + 1 + 1, 0, none⟩ = some (.int .i64 a0) ∧ w1.cell? ⟨w.heap.size + 1 + 1, 1, none⟩ = some (.int .i64 a1) ∧ w1.cell? ⟨w.heap.size + 1 + 1, 2, none⟩ = some (.int .i64 a2) ∧ w1.cell? ⟨w.heap.size + 1 + 1, 3, none⟩ = some (.int .i64 0) ∧ w1.cell? ⟨w.heap.size + 1 + 1 + 1, 0, none⟩ = some (.int .i64 (a0 + b0)) ∧ w1.cell? ⟨w.heap.size + 1 + 1 + 1, 1, none⟩ = some (.int .i64 (a1 + b1)) ∧ w1.cell? ⟨w.heap.size + 1 + 1 + 1, 2, none⟩ = some (.int .i64 (a2 + b2)) ∧ w1.cell? ⟨w.heap.size + 1 + 1 + 1, 3, none⟩ = some (.int .i64 0) ∧ w1.cell? ⟨wr.heap.size, 0, none⟩ = some (.int .i64 k) ∧ w1.cell? ⟨wr.heap.size, 1, none⟩ = some (.int .i64 at0)) (first | exact HSR.out _ (by repeat (first | exact Nx.refl _ | assumption | refine Nx.drew ?_ | refine Nx.drewN ?_ _ | refine Nx.alloc ?_ _ | refine Nx.trans ?_ (by assumption))))
            (first | (go_at_call 15; (with_reducible refine (CS.out _).mono ?_); rintro e w4 ⟨rfl, h4⟩) | (go_at_call 15; (with_reducible refine (CT.out _).mono ?_); rintro e w4 ⟨rfl, h4⟩) | (go_at_call 18; refine (CW.out _).mono ?_; rintro e w5 ⟨rfl, h5⟩))
          all_goals go_wp2_with fail
          all_goals go_meet
          all_goals exact ⟨rfl, by repeat (first | exact Nx.refl _ | assumption | refine Nx.drew ?_ | refine Nx.drewN ?_ _ | refine Nx.alloc ?_ _ | refine Nx.trans ?_ (by assumption))⟩
        case rest =>
          obtain ⟨rfl, hnx⟩ := hcut
          have HY := Lib.hid (HX2.out.trans hnx)
          clear hnx
          go_wp2
          go_roundw
          case rel => exact ⟨k + 1, by omega, by go_num, HY.out⟩
          case measure => simp [intOf]; omega
      · have hd : decide (at0 < wd) = false := by simpa using q1
        have hd2 : decide (wd ≤ at0) = true := by simpa using q1
        go_wp2_with fail
        go_cut [69] (fun a wx => a = .bool false ∧ Nx (wr.alloc (.cells #[.int .i64 k, .int .i64 at0] 23)) wx)
        case first =>
          have hwr : IntKind.i64.wrap at0 = at0 := IntWalk.i64_in _ ⟨by omega, by omega⟩
          refine wp_region_noPanic ?_
          refine wp_region_held_drew (S := fun w1 => w1.cell? ⟨w.heap.size + 1 + 1, 0, none⟩ = some (.int .i64 a0) ∧ w1.cell? ⟨w.heap.size + 1 + 1, 1, none⟩ = some (.int .i64 a1) ∧ w1.cell? ⟨w.heap.size + 1 + 1, 2, none⟩ = some (.int .i64 a2) ∧ w1.cell? ⟨w.heap.size + 1 + 1, 3, none⟩ = some (.int .i64 0) ∧ w1.cell? ⟨w.heap.size + 1 + 1 + 1, 0, none⟩ = some (.int .i64 (a0 + b0)) ∧ w1.cell? ⟨w.heap.size + 1 + 1 + 1, 1, none⟩ = some (.int .i64 (a1 + b1)) ∧ w1.cell? ⟨w.heap.size + 1 + 1 + 1, 2, none⟩ = some (.int .i64 (a2 + b2)) ∧ w1.cell? ⟨w.heap.size + 1 + 1 + 1, 3, none⟩ = some (.int .i64 0) ∧ w1.cell? ⟨wr.heap.size, 0, none⟩ = some (.int .i64 k) ∧ w1.cell? ⟨wr.heap.size, 1, none⟩ = some (.int .i64 at0)) (by kernel_rfl) ?_ (fun hHeld0 => ?_)
          · (try dsimp only); exact HSR.out _ (by repeat (first | exact Nx.refl _ | assumption | refine Nx.drew ?_ | refine Nx.drewN ?_ _ | refine Nx.alloc ?_ _ | refine Nx.trans ?_ (by assumption)))
          refine wpAnyH_take (i := 0) (oi := { dst := some 47, op := _, type := _, pos := _, after := _, guard := _ }) (v := ?_) rfl (by kernel_rfl) (by kernel_rfl) (by kernel_rfl) (fun _ _ _ h => h) (Or.inl ⟨by rfl, ?_⟩) (by assumption) ?_
          rotate_left
          · (intro w hSw; (try dsimp only at hSw); go_simp; try with_reducible rfl)
          ((try simp only [Act.put]); (try simp only [List.setIfInBounds_toArray]); (repeat (first | simp only [List.set_cons_succ] | simp only [List.set_cons_zero])))
          refine wpAnyH_take (i := 1) (oi := { dst := some 48, op := _, type := _, pos := _, after := _, guard := _ }) (v := ?_) rfl (by kernel_rfl) (by kernel_rfl) (by kernel_rfl) (fun _ _ _ h => h) (Or.inl ⟨by rfl, ?_⟩) (by assumption) ?_
          rotate_left
          · (intro w hSw; (try dsimp only at hSw); go_simp; try with_reducible rfl)
          ((try simp only [Act.put]); (try simp only [List.setIfInBounds_toArray]); (repeat (first | simp only [List.set_cons_succ] | simp only [List.set_cons_zero])))
          refine wpAnyH_take (i := 4) (oi := { dst := some 51, op := _, type := _, pos := _, after := _, guard := _ }) (v := ?_) rfl (by kernel_rfl) (by kernel_rfl) (by kernel_rfl) (fun _ _ _ h => h) (Or.inl ⟨by rfl, ?_⟩) (by assumption) ?_
          rotate_left
          · (intro w hSw; (try dsimp only at hSw); go_simp; try with_reducible rfl)
          ((try simp only [Act.put]); (try simp only [List.setIfInBounds_toArray]); (repeat (first | simp only [List.set_cons_succ] | simp only [List.set_cons_zero])))
          refine wpAnyH_take (i := 5) (oi := { dst := some 52, op := _, type := _, pos := _, after := _, guard := _ }) (v := ?_) rfl (by kernel_rfl) (by kernel_rfl) (by kernel_rfl) (fun _ _ _ h => h) (Or.inl ⟨by rfl, ?_⟩) (by assumption) ?_
          rotate_left
          · (intro w hSw; (try dsimp only at hSw); go_simp; try with_reducible rfl)
          ((try simp only [Act.put]); (try simp only [List.setIfInBounds_toArray]); (repeat (first | simp only [List.set_cons_succ] | simp only [List.set_cons_zero])))
          refine wpAnyH_take (i := 6) (oi := { dst := some 53, op := _, type := _, pos := _, after := _, guard := _ }) (v := ?_) rfl (by kernel_rfl) (by kernel_rfl) (by kernel_rfl) (fun _ _ _ h => h) (Or.inl ⟨by rfl, ?_⟩) (by assumption) ?_
          rotate_left
          · (intro w hSw; (try dsimp only at hSw); go_simp; try with_reducible rfl)
          ((try simp only [Act.put]); (try simp only [List.setIfInBounds_toArray]); (repeat (first | simp only [List.set_cons_succ] | simp only [List.set_cons_zero])))
          refine wpAnyH_take (i := 7) (oi := { dst := some 54, op := _, type := _, pos := _, after := _, guard := _ }) (v := ?_) rfl (by kernel_rfl) (by kernel_rfl) (by kernel_rfl) (fun _ _ _ h => h) (Or.inl ⟨by rfl, ?_⟩) (by assumption) ?_
          rotate_left
          · (intro w hSw; (try dsimp only at hSw); go_simp; try with_reducible rfl)
          ((try simp only [Act.put]); (try simp only [List.setIfInBounds_toArray]); (repeat (first | simp only [List.set_cons_succ] | simp only [List.set_cons_zero])))
          refine wpAnyH_ready (rs := [2]) (by kernel_rfl) (by simp) ?_
          refine AllReadyH.cons (o := { dst := some 49, op := _, type := _, pos := _, after := _, guard := _ }) rfl (fun K hK => ?_) AllReadyH.nil
          go_simp
          refine (CS.out _).mono ?_
          rintro e w4 ⟨rfl, h4⟩
          go_wp2_with fail
          refine hK.out _ _ ?_ (fun hHeld => ?_)
          · (try dsimp only); exact HSR.out _ (by repeat (first | exact Nx.refl _ | assumption | refine Nx.drew ?_ | refine Nx.drewN ?_ _ | refine Nx.alloc ?_ _ | refine Nx.trans ?_ (by assumption)))
          clear hK K
          ((try simp only [Act.put]); (try simp only [List.setIfInBounds_toArray]); (repeat (first | simp only [List.set_cons_succ] | simp only [List.set_cons_zero])))
          refine wpAnyH_take (i := 3) (oi := { dst := some 50, op := _, type := _, pos := _, after := _, guard := _ }) (v := ?_) rfl (by kernel_rfl) (by kernel_rfl) (by kernel_rfl) (fun _ _ _ h => h) (Or.inl ⟨by rfl, ?_⟩) (by assumption) ?_
          rotate_left
          · (intro w hSw; (try dsimp only at hSw); go_simp; try with_reducible rfl)
          ((try simp only [Act.put]); (try simp only [List.setIfInBounds_toArray]); (repeat (first | simp only [List.set_cons_succ] | simp only [List.set_cons_zero])))
          refine wpAnyH_ready (rs := [8]) (by kernel_rfl) (by simp) ?_
          refine AllReadyH.cons (o := { dst := some 55, op := _, type := _, pos := _, after := _, guard := _ }) rfl (fun K hK => ?_) AllReadyH.nil
          go_simp
          refine (CW.out _).mono ?_
          rintro e w5 ⟨rfl, h5⟩
          go_wp2_with fail
          refine hK.out _ _ ?_ (fun hHeld => ?_)
          · (try dsimp only); exact HSR.out _ (by repeat (first | exact Nx.refl _ | assumption | refine Nx.drew ?_ | refine Nx.drewN ?_ _ | refine Nx.alloc ?_ _ | refine Nx.trans ?_ (by assumption)))
          clear hK K
          ((try simp only [Act.put]); (try simp only [List.setIfInBounds_toArray]); (repeat (first | simp only [List.set_cons_succ] | simp only [List.set_cons_zero])))
          refine wpAnyH_take (i := 9) (oi := { dst := some 56, op := _, type := _, pos := _, after := _, guard := _ }) (v := ?_) rfl (by kernel_rfl) (by kernel_rfl) (by kernel_rfl) (fun _ _ _ h => h) (Or.inl ⟨by rfl, ?_⟩) (by assumption) ?_
          rotate_left
          · (intro w hSw; (try dsimp only at hSw); go_simp; try with_reducible rfl)
          ((try simp only [Act.put]); (try simp only [List.setIfInBounds_toArray]); (repeat (first | simp only [List.set_cons_succ] | simp only [List.set_cons_zero])))
          refine wpAnyH_take (i := 10) (oi := { dst := some 57, op := _, type := _, pos := _, after := _, guard := _ }) (v := ?_) rfl (by kernel_rfl) (by kernel_rfl) (by kernel_rfl) (fun _ _ _ h => h) (Or.inl ⟨by rfl, ?_⟩) (by assumption) ?_
          rotate_left
          · (intro w hSw; (try dsimp only at hSw); go_simp; try with_reducible rfl)
          ((try simp only [Act.put]); (try simp only [List.setIfInBounds_toArray]); (repeat (first | simp only [List.set_cons_succ] | simp only [List.set_cons_zero])))
          refine wpAnyH_take (i := 11) (oi := { dst := some 58, op := _, type := _, pos := _, after := _, guard := _ }) (v := ?_) rfl (by kernel_rfl) (by kernel_rfl) (by kernel_rfl) (fun _ _ _ h => h) (Or.inl ⟨by rfl, ?_⟩) (by assumption) ?_
          rotate_left
          · (intro w hSw; (try dsimp only at hSw); go_simp; try with_reducible rfl)
          ((try simp only [Act.put]); (try simp only [List.setIfInBounds_toArray]); (repeat (first | simp only [List.set_cons_succ] | simp only [List.set_cons_zero])))
          refine wpAnyH_take (i := 12) (oi := { dst := some 59, op := _, type := _, pos := _, after := _, guard := _ }) (v := ?_) rfl (by kernel_rfl) (by kernel_rfl) (by kernel_rfl) (fun _ _ _ h => h) (Or.inl ⟨by rfl, ?_⟩) (by assumption) ?_
          rotate_left
          · (intro w hSw; (try dsimp only at hSw); go_simp; try with_reducible rfl)
          ((try simp only [Act.put]); (try simp only [List.setIfInBounds_toArray]); (repeat (first | simp only [List.set_cons_succ] | simp only [List.set_cons_zero])))
          refine wpAnyH_take (i := 13) (oi := { dst := some 60, op := _, type := _, pos := _, after := _, guard := _ }) (v := ?_) rfl (by kernel_rfl) (by kernel_rfl) (by kernel_rfl) (fun _ _ _ h => h) (Or.inl ⟨by rfl, ?_⟩) (by assumption) ?_
          rotate_left
          · (intro w hSw; (try dsimp only at hSw); go_simp; try with_reducible rfl)
          ((try simp only [Act.put]); (try simp only [List.setIfInBounds_toArray]); (repeat (first | simp only [List.set_cons_succ] | simp only [List.set_cons_zero])))
          refine wpAnyH_ready (rs := [14]) (by kernel_rfl) (by simp) ?_
          refine AllReadyH.cons (o := { dst := some 61, op := _, type := _, pos := _, after := _, guard := _ }) rfl (fun K hK => ?_) AllReadyH.nil
          go_simp
          refine (CS.out _).mono ?_
          rintro e w6 ⟨rfl, h6⟩
          go_wp2_with fail
          refine hK.out _ _ ?_ (fun hHeld => ?_)
          · (try dsimp only); exact HSR.out _ (by repeat (first | exact Nx.refl _ | assumption | refine Nx.drew ?_ | refine Nx.drewN ?_ _ | refine Nx.alloc ?_ _ | refine Nx.trans ?_ (by assumption)))
          clear hK K
          ((try simp only [Act.put]); (try simp only [List.setIfInBounds_toArray]); (repeat (first | simp only [List.set_cons_succ] | simp only [List.set_cons_zero])))
          refine wpAnyH_take (i := 15) (oi := { dst := some 62, op := _, type := _, pos := _, after := _, guard := _ }) (v := ?_) rfl (by kernel_rfl) (by kernel_rfl) (by kernel_rfl) (fun _ _ _ h => h) (Or.inl ⟨by rfl, ?_⟩) (by assumption) ?_
          rotate_left
          · (intro w hSw; (try dsimp only at hSw); go_simp; try with_reducible rfl)
          ((try simp only [Act.put]); (try simp only [List.setIfInBounds_toArray]); (repeat (first | simp only [List.set_cons_succ] | simp only [List.set_cons_zero])))
          refine wpAnyH_take (i := 16) (oi := { dst := some 63, op := _, type := _, pos := _, after := _, guard := _ }) (v := ?_) rfl (by kernel_rfl) (by kernel_rfl) (by kernel_rfl) (fun _ _ _ h => h) (Or.inl ⟨by rfl, ?_⟩) (by assumption) ?_
          rotate_left
          · (intro w hSw; (try dsimp only at hSw); go_simp; try with_reducible rfl)
          ((try simp only [Act.put]); (try simp only [List.setIfInBounds_toArray]); (repeat (first | simp only [List.set_cons_succ] | simp only [List.set_cons_zero])))
          refine wpAnyH_take (i := 17) (oi := { dst := some 64, op := _, type := _, pos := _, after := _, guard := _ }) (v := undef) rfl (by kernel_rfl) (by kernel_rfl) (by kernel_rfl) (fun _ _ _ h => h) (Or.inr ⟨by rfl, rfl⟩) (by assumption) ?_
          ((try simp only [Act.put]); (try simp only [List.setIfInBounds_toArray]); (repeat (first | simp only [List.set_cons_succ] | simp only [List.set_cons_zero])))
          refine wpAnyH_take (i := 18) (oi := { dst := some 65, op := _, type := _, pos := _, after := _, guard := _ }) (v := undef) rfl (by kernel_rfl) (by kernel_rfl) (by kernel_rfl) (fun _ _ _ h => h) (Or.inr ⟨by rfl, rfl⟩) (by assumption) ?_
          ((try simp only [Act.put]); (try simp only [List.setIfInBounds_toArray]); (repeat (first | simp only [List.set_cons_succ] | simp only [List.set_cons_zero])))
          refine wpAnyH_ready (rs := [19]) (by kernel_rfl) (by simp) ?_
          refine AllReadyH.cons (o := { dst := some 66, op := _, type := _, pos := _, after := _, guard := _ }) rfl (fun K hK => ?_) AllReadyH.nil
          go_simp
          refine hK.out _ _ ?_ (fun hHeld => ?_)
          · (try dsimp only); exact HSR.out _ (by repeat (first | exact Nx.refl _ | assumption | refine Nx.drew ?_ | refine Nx.drewN ?_ _ | refine Nx.alloc ?_ _ | refine Nx.trans ?_ (by assumption)))
          clear hK K
          ((try simp only [Act.put]); (try simp only [List.setIfInBounds_toArray]); (repeat (first | simp only [List.set_cons_succ] | simp only [List.set_cons_zero])))
          refine wpAnyH_take (i := 20) (oi := { dst := some 67, op := _, type := _, pos := _, after := _, guard := _ }) (v := undef) rfl (by kernel_rfl) (by kernel_rfl) (by kernel_rfl) (fun _ _ _ h => h) (Or.inr ⟨by rfl, rfl⟩) (by assumption) ?_
          ((try simp only [Act.put]); (try simp only [List.setIfInBounds_toArray]); (repeat (first | simp only [List.set_cons_succ] | simp only [List.set_cons_zero])))
          refine wpAnyH_take (i := 21) (oi := { dst := some 68, op := _, type := _, pos := _, after := _, guard := _ }) (v := ?_) rfl (by kernel_rfl) (by kernel_rfl) (by kernel_rfl) (fun _ _ _ h => h) (Or.inl ⟨by rfl, ?_⟩) (by assumption) ?_
          rotate_left
          · (intro w hSw; (try dsimp only at hSw); go_simp; try with_reducible rfl)
          ((try simp only [Act.put]); (try simp only [List.setIfInBounds_toArray]); (repeat (first | simp only [List.set_cons_succ] | simp only [List.set_cons_zero])))
          refine wpAnyH_take (i := 22) (oi := { dst := some 69, op := _, type := _, pos := _, after := _, guard := _ }) (v := ?_) rfl (by kernel_rfl) (by kernel_rfl) (by kernel_rfl) (fun _ _ _ h => h) (Or.inl ⟨by rfl, ?_⟩) (by assumption) ?_
          rotate_left
          · (intro w hSw; (try dsimp only at hSw); go_simp; try with_reducible rfl)
          ((try simp only [Act.put]); (try simp only [List.setIfInBounds_toArray]); (repeat (first | simp only [List.set_cons_succ] | simp only [List.set_cons_zero])))
          refine wpAnyH_done (by kernel_rfl) ?_ _
          refine NoPanic.normal ?_
          all_goals go_wp2_with fail
          all_goals go_meet
          all_goals exact ⟨rfl, by repeat (first | exact Nx.refl _ | assumption | refine Nx.drew ?_ | refine Nx.drewN ?_ _ | refine Nx.alloc ?_ _ | refine Nx.trans ?_ (by assumption))⟩
        case rest =>
          obtain ⟨rfl, hnx⟩ := hcut
          have HY := Lib.hid (HX2.out.trans hnx)
          clear hnx
          go_wp2
          go_roundw
          case rel => exact ⟨k + 1, by omega, by go_num, HY.out⟩
          case measure => simp [intOf]; omega
    · go_wp2_with fail
      refine (alive_any _ (HE.out.nx (N0.out.trans HX.out))).mono ?_
      rintro r w6 ⟨rfl, h6⟩
      have N6 := Lib.hid ((N0.out.trans HX.out).trans h6)
      clear h6
      go_wp2
      go_ret
      exact ⟨rfl, N6.out⟩
end Go.Proofs.YtfkjggghlkondaaDoor
