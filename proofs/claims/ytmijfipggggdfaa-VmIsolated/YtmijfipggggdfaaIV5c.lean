/- What the reference's machine does for opcode 13, where the write fails. Conditions: a machine in memory, its images of at most a million. -/
import Derived.Test.YtmijfipggggdfaaMD
namespace Go.Proofs.Ytmijfipggggdfaa
open Go.RowKit
variable {F : Nat → Prop}

set_option maxHeartbeats 6400000 in
set_option maxRecDepth 100000 in
theorem refCoil_no_13 (b : Nat) (code : List In4) (inp : List Bool) (s : Mc) (k n t : Int) (hE : wrE s.q s.m k n ≠ 0) (h1000 : s.q.length ≤ 1000000 ∧ s.m.length ≤ 1000000 ∧ s.e.length ≤ 1000000) (w : World) (h : RM F w b code inp s) :
    Calls Try.prog 61 #[.pointer (some ⟨b, 0, none⟩), .agg #[.int .i64 13, .int .i64 k, .int .i64 n, .int .i64 t]] w fun e w' => e = .returned (.int .i64 (wrE s.q s.m k n)) ∧ Nx w w' := by
  have hbl := h.lt
  have HRM := Lib.hid h
  obtain ⟨Ac, Ai, Aq, Am, Ae, As, cc, ci, cq, cm, ce, cs, hb, _, _, h2, h3, h4, _⟩ := h
  have HB := Lib.hid hb
  have HWR := Lib.hid (fun (v : Bool) (w' : World) (k' : Nx w w') => (refWrite_any Aq Am Ae s.q.length s.m.length s.e.length cq cm ce s.q s.m s.e k n v h1000.1 h1000.2.1 h1000.2.2 w' (h2.nx k').1 (h3.nx k').1 (h4.nx k').1).mono (fun e w2 (hh : RwP _ _ _ _ _ _ _ e w2) => (⟨hh.1 hE, hh.2.2⟩ : e = .returned (.tuple #[.agg #[.slice none 0 0, .slice none 0 0, .slice none 0 0], .int .i64 (wrE s.q s.m k n)]) ∧ Nx w' w2)))
  obtain ⟨a0, ha0⟩ : ∃ a0, a0 = s.acc := ⟨_, rfl⟩
  have c6 : w.cell? ⟨b, 6, none⟩ = some (.bool a0) := by rw [ha0]; exact hb.cell 6 rfl
  obtain ⟨E, hE'⟩ : ∃ E, E = wrE s.q s.m k n := ⟨_, rfl⟩
  have e0 : E ≠ 0 := by rw [hE']; exact hE
  rw [← hE'] at HWR ⊢
  clear hb h2 h3 h4 h1000 hE' hE ha0
  have HX := Lib.hid (bx_new w 53 [.int .i64 13, .int .i64 k, .int .i64 n, .int .i64 t])
  have NX := Lib.hid (Nx.one w (.cells #[.int .i64 13, .int .i64 k, .int .i64 n, .int .i64 t] 53))
  have HBW := Lib.hid (HB.out.nx NX.out)
  have HFW := Lib.hid ((HRM.out.nx NX.out).lo)
  have x0 := HX.out.cell 0 rfl
  go_enter Try.func61, Try.ntmps61
  go_wp2_with fail
  generalize hW : w.alloc (.cells #[.int .i64 13, .int .i64 k, .int .i64 n, .int .i64 t] 53) = W at *
  clear hW
  generalize w.heap.size = g at *
  have HS := Lib.hid (show ∀ w', Nx W w' → w'.cell? ⟨b, 2, none⟩ = some (.slice Aq s.q.length cq) ∧ w'.cell? ⟨b, 3, none⟩ = some (.slice Am s.m.length cm) ∧ w'.cell? ⟨b, 4, none⟩ = some (.slice Ae s.e.length ce) ∧ w'.cell? ⟨g, 1, none⟩ = some (.int .i64 k) ∧ w'.cell? ⟨g, 2, none⟩ = some (.int .i64 n) from
    fun w' h => ⟨(HBW.out.nx h).cell 2 rfl, (HBW.out.nx h).cell 3 rfl, (HBW.out.nx h).cell 4 rfl, (HX.out.nx h).cell 1 rfl, (HX.out.nx h).cell 2 rfl⟩)
  obtain ⟨g2, g3, g4, g5, g6⟩ := HS.out W (Nx.refl _)
  have hgW : g < W.heap.size := HX.out.lt
  have hbW : b < W.heap.size := HBW.out.lt
  go_cut [8] (fun c wx => c = .int .i64 E ∧ Nx W wx)
  case first =>
    go_region_with (go_at_call 74; (with_reducible refine (HWR.out _ _ (NX.out.trans (by repeat (first | exact Nx.refl _ | assumption | refine Nx.drewN ?_ _ | refine Nx.drew ?_ | refine Nx.alloc ?_ _ | refine Nx.set ?_ (by first | exact Nat.le_refl _ | (simp; done) | (simp; omega)) _)))).mono ?_); rintro e w2 ⟨rfl, hn2⟩; have N2 := Lib.hid (show Nx W w2 from Nx.trans (by repeat (first | exact Nx.refl _ | assumption | refine Nx.drewN ?_ _ | refine Nx.drew ?_ | refine Nx.alloc ?_ _ | refine Nx.set ?_ (by first | exact Nat.le_refl _ | (simp; done) | (simp; omega)) _)) hn2); (try (have Bn := (bx_new W.drew 25 [.slice none 0 0, .slice none 0 0, .slice none 0 0]).nx hn2; have n0 : w2.cell? ⟨W.heap.size, 0, none⟩ = some (.slice none 0 0) := Bn.cell 0 rfl; have n1 : w2.cell? ⟨W.heap.size, 1, none⟩ = some (.slice none 0 0) := Bn.cell 1 rfl; have n2 : w2.cell? ⟨W.heap.size, 2, none⟩ = some (.slice none 0 0) := Bn.cell 2 rfl; have m0 : w2.frozen? ⟨W.heap.size, 0, none⟩ = false := Bn.frozen 0; have m1 : w2.frozen? ⟨W.heap.size, 1, none⟩ = false := Bn.frozen 1; have m2 : w2.frozen? ⟨W.heap.size, 2, none⟩ = false := Bn.frozen 2; have BN := Lib.hid Bn; clear Bn)); clear hn2)
    all_goals go_wp2_with fail
    all_goals go_meet
    all_goals exact ⟨rfl, (by repeat (first | assumption | exact N2.out | refine Nx.alloc ?_ _ | refine Nx.set ?_ (Nat.le_refl _) _ | refine Nx.drew ?_))⟩
  case rest =>
    obtain ⟨rfl, hn⟩ := hcut
    have N3 := Lib.hid hn
    clear hn g2 g3 g4 g5 g6 HS HX HBW HB HWR HRM c6 x0
    go_wp2
    go_ret
    exact ⟨rfl, NX.out.trans N3.out⟩

set_option maxHeartbeats 6400000 in
set_option maxRecDepth 100000 in
theorem refCoil_ok_13 (b : Nat) (code : List In4) (inp : List Bool) (s : Mc) (k n t : Int) (hE : wrE s.q s.m k n = 0) (h1000 : s.q.length ≤ 1000000 ∧ s.m.length ≤ 1000000 ∧ s.e.length ≤ 1000000) (w : World) (h : RM F w b code inp s) :
    Calls Try.prog 61 #[.pointer (some ⟨b, 0, none⟩), .agg #[.int .i64 13, .int .i64 k, .int .i64 n, .int .i64 t]] w fun e w' => e = .returned (.int .i64 0) ∧ RM F w' b code inp (if s.acc then { s with q := wrQ s.q k n s.acc, m := wrM s.m k n s.acc, e := s.e } else s) ∧ Mv b none w w' := by
  have hbl := h.lt
  have HRM := Lib.hid h
  obtain ⟨Ac, Ai, Aq, Am, Ae, As, cc, ci, cq, cm, ce, cs, hb, _, _, h2, h3, h4, _⟩ := h
  have HB := Lib.hid hb
  have HWR := Lib.hid (fun (v : Bool) (w' : World) (k' : Nx w w') => (refWrite_any Aq Am Ae s.q.length s.m.length s.e.length cq cm ce s.q s.m s.e k n v h1000.1 h1000.2.1 h1000.2.2 w' (h2.nx k').1 (h3.nx k').1 (h4.nx k').1).mono (fun e w2 (hh : RwP _ _ _ _ _ _ _ e w2) => coil_ok (hh.2.1 hE) hh.2.2))
  obtain ⟨a0, ha0⟩ : ∃ a0, a0 = s.acc := ⟨_, rfl⟩
  have c6 : w.cell? ⟨b, 6, none⟩ = some (.bool a0) := by rw [ha0]; exact hb.cell 6 rfl
  have HA := Lib.hid ha0
  obtain ⟨sN, hsN⟩ : ∃ sN : Mc, sN = (if s.acc then { s with q := wrQ s.q k n s.acc, m := wrM s.m k n s.acc, e := s.e } else s) := ⟨_, rfl⟩
  rw [← hsN]
  have HSN := Lib.hid hsN
  clear hsN
  clear hb h2 h3 h4 h1000 ha0 hE
  have HX := Lib.hid (bx_new w 53 [.int .i64 13, .int .i64 k, .int .i64 n, .int .i64 t])
  have NX := Lib.hid (Nx.one w (.cells #[.int .i64 13, .int .i64 k, .int .i64 n, .int .i64 t] 53))
  have HBW := Lib.hid (HB.out.nx NX.out)
  have HFW := Lib.hid ((HRM.out.nx NX.out).lo)
  have x0 := HX.out.cell 0 rfl
  go_enter Try.func61, Try.ntmps61
  go_wp2_with fail
  generalize hW : w.alloc (.cells #[.int .i64 13, .int .i64 k, .int .i64 n, .int .i64 t] 53) = W at *
  clear hW
  generalize w.heap.size = g at *
  have HS := Lib.hid (show ∀ w', Nx W w' → w'.cell? ⟨b, 2, none⟩ = some (.slice Aq s.q.length cq) ∧ w'.cell? ⟨b, 3, none⟩ = some (.slice Am s.m.length cm) ∧ w'.cell? ⟨b, 4, none⟩ = some (.slice Ae s.e.length ce) ∧ w'.cell? ⟨g, 1, none⟩ = some (.int .i64 k) ∧ w'.cell? ⟨g, 2, none⟩ = some (.int .i64 n) from
    fun w' h => ⟨(HBW.out.nx h).cell 2 rfl, (HBW.out.nx h).cell 3 rfl, (HBW.out.nx h).cell 4 rfl, (HX.out.nx h).cell 1 rfl, (HX.out.nx h).cell 2 rfl⟩)
  obtain ⟨g2, g3, g4, g5, g6⟩ := HS.out W (Nx.refl _)
  have hgW : g < W.heap.size := HX.out.lt
  have hbW : b < W.heap.size := HBW.out.lt
  go_cut [7, 8] (fun a c wx => ∃ (g7 : Nat) (A1 A2 A3 : Option Addr) (c1 c2 c3 : Nat), a = .pointer (some ⟨g7, 0, none⟩) ∧ c = .int .i64 0 ∧ (b < g7 ∧ Bx wx g7 25 [.slice A1 s.q.length c1, .slice A2 s.m.length c2, .slice A3 s.e.length c3]) ∧ (ImB wx W.heap.size A1 s.q.length c1 (wrQ s.q k n a0) ∧ ImB wx W.heap.size A2 s.m.length c2 (wrM s.m k n a0) ∧ ImB wx W.heap.size A3 s.e.length c3 s.e) ∧ Nx W wx)
  case first =>
    go_region_with (go_at_call 74; (with_reducible refine (HWR.out _ _ (NX.out.trans (by repeat (first | exact Nx.refl _ | assumption | refine Nx.drewN ?_ _ | refine Nx.drew ?_ | refine Nx.alloc ?_ _ | refine Nx.set ?_ (by first | exact Nat.le_refl _ | (simp; done) | (simp; omega)) _)))).mono ?_); rintro e w2 ⟨A1, A2, A3, c1, c2, c3, rfl, i1, i2, i3, hn2⟩; have N2 := Lib.hid (show Nx W w2 from Nx.trans (by repeat (first | exact Nx.refl _ | assumption | refine Nx.drewN ?_ _ | refine Nx.drew ?_ | refine Nx.alloc ?_ _ | refine Nx.set ?_ (by first | exact Nat.le_refl _ | (simp; done) | (simp; omega)) _)) hn2); have I1 := Lib.hid i1; have I2 := Lib.hid i2; have I3 := Lib.hid i3; (try (have Bn := (bx_new W.drew 25 [.slice none 0 0, .slice none 0 0, .slice none 0 0]).nx hn2; have n0 : w2.cell? ⟨W.heap.size, 0, none⟩ = some (.slice none 0 0) := Bn.cell 0 rfl; have n1 : w2.cell? ⟨W.heap.size, 1, none⟩ = some (.slice none 0 0) := Bn.cell 1 rfl; have n2 : w2.cell? ⟨W.heap.size, 2, none⟩ = some (.slice none 0 0) := Bn.cell 2 rfl; have m0 : w2.frozen? ⟨W.heap.size, 0, none⟩ = false := Bn.frozen 0; have m1 : w2.frozen? ⟨W.heap.size, 1, none⟩ = false := Bn.frozen 1; have m2 : w2.frozen? ⟨W.heap.size, 2, none⟩ = false := Bn.frozen 2; have BN := Lib.hid Bn; clear Bn)); clear hn2 i1 i2 i3)
    all_goals go_wp2_with fail
    all_goals go_meet
    all_goals first
      | exact ⟨w2.heap.size, A1, A2, A3, c1, c2, c3, rfl, rfl, ⟨Nat.lt_of_lt_of_le hbW N2.out.size, bx_new w2 25 [.slice A1 s.q.length c1, .slice A2 s.m.length c2, .slice A3 s.e.length c3]⟩, ⟨(I1.out.low (Nat.le_refl _)).nx (Nx.one _ _), (I2.out.low (Nat.le_refl _)).nx (Nx.one _ _), (I3.out.low (Nat.le_refl _)).nx (Nx.one _ _)⟩, N2.out.alloc _⟩
      | exact ⟨W.heap.size, A1, A2, A3, c1, c2, c3, rfl, rfl, ⟨hbW, ((BN.out.put 0 _).put 1 _).put 2 _⟩, ⟨(I1.out.sets (g := W.heap.size) (by simp) (((Mv.refl _ none w2).set 0 _).set 1 _ |>.set 2 _)).low (by simp), (I2.out.sets (g := W.heap.size) (by simp) (((Mv.refl _ none w2).set 0 _).set 1 _ |>.set 2 _)).low (by simp), (I3.out.sets (g := W.heap.size) (by simp) (((Mv.refl _ none w2).set 0 _).set 1 _ |>.set 2 _)).low (by simp)⟩, ((N2.out.set (Nat.le_refl _) _).set (Nat.le_refl _) _).set (Nat.le_refl _) _⟩
  case rest =>
    obtain ⟨g7, A1, A2, A3, c1, c2, c3, rfl, rfl, ⟨hg7, hbx⟩, ⟨i1, i2, i3⟩, hn⟩ := hcut
    have N3 := Lib.hid (NX.out.trans hn)
    have R3 := Lib.hid (HRM.out.nx N3.out)
    have B3 := Lib.hid (HBW.out.nx hn)
    have F3 := Lib.hid (R3.out.setS (wrQ_len' s.q k n a0) (wrM_len' s.m k n a0) rfl (i1.imO' hbW HFW.out) (i2.imO' hbW HFW.out) (i3.imO' hbW HFW.out))
    have M3 := Lib.hid ((Mv.of_nx N3.out b none).trans F3.out.2 (.inl rfl))
    have k0 := hbx.cell 0 rfl
    have k1 := hbx.cell 1 rfl
    have k2 := hbx.cell 2 rfl
    have q2 := B3.out.cell 2 rfl
    have q3 := B3.out.cell 3 rfl
    have q4 := B3.out.cell 4 rfl
    have p2 := B3.out.frozen 2
    have p3 := B3.out.frozen 3
    have p4 := B3.out.frozen 4
    clear hn g2 g3 g4 g5 g6 HS HX HBW HB HWR HRM c6 x0 hbx i1 i2 i3
    cases a0
    · go_wp2
      go_ret
      have e := HA.out
      have e' : ¬ s.acc = true := by rw [← e]; simp
      exact ⟨rfl, by rw [HSN.out, if_neg e']; exact R3.out, Mv.of_nx N3.out b none⟩
    · go_wp2
      go_ret
      have h := F3.out.1
      have e := HA.out
      refine ⟨rfl, ?_, M3.out⟩
      rw [HSN.out, if_pos e.symm]
      rw [← e] at h ⊢
      exact h
end Go.Proofs.Ytmijfipggggdfaa
