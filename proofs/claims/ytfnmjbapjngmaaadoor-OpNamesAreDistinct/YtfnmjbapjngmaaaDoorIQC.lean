/- What Parse of layer 4 returns. Conditions: a text of at most 100000 bytes; the listed package-level variables hold what the program's text lays. -/
import Derived.Test.YtfnmjbapjngmaaaDoorIQB
namespace Go.Proofs.YtfnmjbapjngmaaaDoor
open Go.RowKit

theorem opO_in (l : List UInt8) : (opO l = (0, false) ∧ ixm l = -1) ∨ ∃ k : Nat, k < 17 ∧ opO l = ((k : Int), true) ∧ ixm l = k := by
  rcases ixm_in l with h | ⟨h1, h2, _⟩
  · exact Or.inl ⟨by unfold opO; rw [if_pos h], h⟩
  · refine Or.inr ⟨(ixm l).toNat, by omega, ?_, by omega⟩
    unfold opO; rw [if_neg (by omega), Int.toNat_of_nonneg h1]
/-- The words' block, its cells. -/
def wcs (ws : List ByteArray) (m : Nat) : List Value := ws.map Value.string ++ List.replicate (m - ws.length) (Value.string ByteArray.empty)
theorem wcs_at (ws : List ByteArray) (m i : Nat) (x : ByteArray) (h : ws[i]? = some x) : (wcs ws m)[i]? = some (.string x) := by
  unfold wcs
  have hl : i < ws.length := (List.getElem?_eq_some_iff.1 h).1
  rw [List.getElem?_append_left (by simpa using hl), List.getElem?_map, h]; rfl
set_option maxHeartbeats 6400000 in
set_option maxRecDepth 100000 in
theorem opParse_ws (t a : ByteArray) (r : List ByteArray) (m : Nat) (hr : r.length ≤ 3) (hm : r.length + 1 ≤ m) (hm4 : m ≤ 4) (hsz : ∀ x ∈ a :: r, x.size ≤ 100000) (w : World) (he : Ev w)
    (hsp : ∀ w, Ev w → Calls Tryd.prog 28 #[.string t, .string sp1, .int .i64 (4 : Nat)] w fun e w' => e = .returned (.slice (some ⟨w.heap.size, 0, none⟩) (r.length + 1) m) ∧ w' = w.alloc (.cells (wcs (a :: r) m).toArray 9)) :
    Calls Tryd.prog 17 #[.string t] w fun e w' => e = .returned (.tuple #[.agg #[.int .i64 (rs (opL ((a :: r).map B))).1, .int .i64 (rs (opL ((a :: r).map B))).2.1, .int .i64 (rs (opL ((a :: r).map B))).2.2.1, .int .i64 (rs (opL ((a :: r).map B))).2.2.2.1], .int .i64 (rs (opL ((a :: r).map B))).2.2.2.2]) ∧ Nx w w' := by
  have HE := Lib.hid he
  have SP := Lib.hid hsp
  have N0 := Lib.hid (Nx.one w (.cells #[.int .i64 0, .int .i64 0, .int .i64 0, .int .i64 0] 35))
  have BAD := Lib.hid (fun h => opL_bad (B a) (r.map B) h)
  obtain ⟨R, hR⟩ : ∃ R, opL ((a :: r).map B) = R := ⟨_, rfl⟩
  rw [hR]
  have HR := Lib.hid hR
  have R0 := Lib.hid (bx_new w 35 [.int .i64 0, .int .i64 0, .int .i64 0, .int .i64 0])
  clear he hsp hR
  go_enter Tryd.func17, Tryd.ntmps17
  go_wp2_with fail
  generalize hV : w.alloc (.cells #[.int .i64 0, .int .i64 0, .int .i64 0, .int .i64 0] 35) = V at *
  generalize hrb : w.heap.size = rb at *
  refine (SP.out V (HE.out.nx N0.out)).mono ?_
  rintro e w1 ⟨rfl, rfl⟩
  have Q1 := Lib.hid (Nx.one V (.cells (wcs (a :: r) m).toArray 9))
  have R1 := Lib.hid (R0.out.nx Q1.out)
  have B1 := Lib.hid (bx_new V 9 (wcs (a :: r) m))
  generalize V.alloc (.cells (wcs (a :: r) m).toArray 9) = w1 at *
  generalize V.heap.size = wb at *
  have H1 := Lib.hid (N0.out.trans Q1.out)
  clear hV Q1 N0 SP R0
  have b0 := B1.out.cell 0 (wcs_at (a :: r) m 0 a rfl)
  go_wp2_with fail
  refine (opcodeOf_any a w1 (HE.out.nx H1.out)).mono ?_
  rintro e w2 ⟨rfl, q2⟩
  have H2 := Lib.hid (H1.out.trans q2)
  have R2 := Lib.hid (R1.out.nx q2)
  have B2 := Lib.hid (B1.out.nx q2)
  clear q2 R1 B1 H1 b0
  rcases opO_in (B a) with ⟨ho, hx⟩ | ⟨k, hk, ho, hx⟩
  · rw [ho]
    clear ho
    have c0 := R2.out.cell 0 rfl
    have c1 := R2.out.cell 1 rfl
    have c2 := R2.out.cell 2 rfl
    have c3 := R2.out.cell 3 rfl
    have f0 := R2.out.frozen 0
    have f1 := R2.out.frozen 1
    have f2 := R2.out.frozen 2
    have f3 := R2.out.frozen 3
    have e : R = none := by rw [← HR.out]; exact BAD.out (Or.inl hx)
    subst e
    go_wp2
    have P := (Put.of (Nx.refl w2) R2.out).four (.int .i64 0) (.int .i64 0) (.int .i64 0) (.int .i64 0)
    have z0 := P.1.cell 0 rfl
    have z1 := P.1.cell 1 rfl
    have z2 := P.1.cell 2 rfl
    have z3 := P.1.cell 3 rfl
    refine bodyPost_ret (by simp [results, Tryd.results17, go_sem, z0, z1, z2, z3]; rfl) rfl ?_
    exact ⟨ret_rs rfl, P.2.2 w H2.out (by omega)⟩
  rw [ho]
  clear ho
  have H3 := Lib.hid (H2.out.trans (Nx.one w2 (.cells #[.int .i64 k, .int .i64 0, .int .i64 0, .int .i64 0] 35)))
  have R3 := Lib.hid (R2.out.nx (Nx.one w2 (.cells #[.int .i64 k, .int .i64 0, .int .i64 0, .int .i64 0] 35)))
  have B3 := Lib.hid (B2.out.nx (Nx.one w2 (.cells #[.int .i64 k, .int .i64 0, .int .i64 0, .int .i64 0] 35)))
  have X3 := Lib.hid (bx_new w2 35 [.int .i64 k, .int .i64 0, .int .i64 0, .int .i64 0])
  have hc := (HE.out.nx H3.out).tb _ _ (tbl_form k hk)
  have hxr : w2.heap.size ≠ rb := by have := R2.out.lt; omega
  have hxw : w.heap.size ≤ w2.heap.size := Below.size H2.out
  have hwx : wb ≠ w2.heap.size := by have := B2.out.lt; omega
  have HX := Lib.hid hx
  have hf : frm (k : Int) = 0 ∨ frm (k : Int) = 1 ∨ frm (k : Int) = 2 ∨ frm (k : Int) = 3 ∨ frm (k : Int) = 4 := by
    have := frm_pos (k : Int) (by omega)
    rcases frm_in (k : Int) with h | h | h | h | h | h <;> omega
  obtain ⟨f, hff⟩ : ∃ f, frm (k : Int) = f := ⟨_, rfl⟩
  rw [hff] at hf hc
  have HF := Lib.hid hff
  clear hff hx
  go_wp2_with fail
  clear hc
  generalize w2.alloc (.cells #[.int .i64 k, .int .i64 0, .int .i64 0, .int .i64 0] 35) = w3 at *
  generalize hxb : w2.heap.size = xb at *
  clear H2 R2 B2 hxb
  rcases hf with rfl | rfl | rfl | rfl | rfl
  · refine (operandsOf_0 _).mono ?_
    rintro e w' ⟨rfl, rfl⟩
    have H4 := Lib.hid H3.out
    have R4 := Lib.hid R3.out
    have X4 := Lib.hid X3.out
    have B4 := Lib.hid B3.out
    clear H3 R3 X3 B3
    rcases r with _ | ⟨b, _ | ⟨c, _ | ⟨d, _ | ⟨y, r⟩⟩⟩⟩
    · go_wp2_with fail
      all_goals
        refine wp_loop_rounds 1 ?_
        rw [rounds_succ]
        have c0 := R4.out.cell 0 rfl
        have c1 := R4.out.cell 1 rfl
        have c2 := R4.out.cell 2 rfl
        have c3 := R4.out.cell 3 rfl
        have f0 := R4.out.frozen 0
        have f1 := R4.out.frozen 1
        have f2 := R4.out.frozen 2
        have f3 := R4.out.frozen 3
        have x0 := X4.out.cell 0 rfl
        have x1 := X4.out.cell 1 rfl
        have x2 := X4.out.cell 2 rfl
        have x3 := X4.out.cell 3 rfl
        have e : R = some ((k : Int), 0, 0, 0) := by rw [← HR.out]; show opL [B a] = _; rw [opL_0 _ (by rw [HX.out, HF.out]), HX.out]
        subst e
        go_wp2
        have P := (Put.of (Nx.refl w3) R4.out).four (.int .i64 k) (.int .i64 0) (.int .i64 0) (.int .i64 0)
        have z0 := P.1.cell 0 rfl
        have z1 := P.1.cell 1 rfl
        have z2 := P.1.cell 2 rfl
        have z3 := P.1.cell 3 rfl
        refine bodyPost_ret (by simp [results, Tryd.results17, go_sem, z0, z1, z2, z3]; rfl) rfl ?_
        exact ⟨ret_rs rfl, P.2.2 w H4.out (by omega)⟩
    · have c0 := R4.out.cell 0 rfl
      have c1 := R4.out.cell 1 rfl
      have c2 := R4.out.cell 2 rfl
      have c3 := R4.out.cell 3 rfl
      have f0 := R4.out.frozen 0
      have f1 := R4.out.frozen 1
      have f2 := R4.out.frozen 2
      have f3 := R4.out.frozen 3
      have e : R = none := by rw [← HR.out]; exact BAD.out (Or.inr (by rw [HX.out, HF.out]; simp [nop]))
      subst e
      go_wp2
      have P := (Put.of (Nx.refl w3) R4.out).four (.int .i64 0) (.int .i64 0) (.int .i64 0) (.int .i64 0)
      have z0 := P.1.cell 0 rfl
      have z1 := P.1.cell 1 rfl
      have z2 := P.1.cell 2 rfl
      have z3 := P.1.cell 3 rfl
      refine bodyPost_ret (by simp [results, Tryd.results17, go_sem, z0, z1, z2, z3]; rfl) rfl ?_
      exact ⟨ret_rs rfl, P.2.2 w H4.out (by omega)⟩
    · have c0 := R4.out.cell 0 rfl
      have c1 := R4.out.cell 1 rfl
      have c2 := R4.out.cell 2 rfl
      have c3 := R4.out.cell 3 rfl
      have f0 := R4.out.frozen 0
      have f1 := R4.out.frozen 1
      have f2 := R4.out.frozen 2
      have f3 := R4.out.frozen 3
      have e : R = none := by rw [← HR.out]; exact BAD.out (Or.inr (by rw [HX.out, HF.out]; simp [nop]))
      subst e
      go_wp2
      have P := (Put.of (Nx.refl w3) R4.out).four (.int .i64 0) (.int .i64 0) (.int .i64 0) (.int .i64 0)
      have z0 := P.1.cell 0 rfl
      have z1 := P.1.cell 1 rfl
      have z2 := P.1.cell 2 rfl
      have z3 := P.1.cell 3 rfl
      refine bodyPost_ret (by simp [results, Tryd.results17, go_sem, z0, z1, z2, z3]; rfl) rfl ?_
      exact ⟨ret_rs rfl, P.2.2 w H4.out (by omega)⟩
    · have c0 := R4.out.cell 0 rfl
      have c1 := R4.out.cell 1 rfl
      have c2 := R4.out.cell 2 rfl
      have c3 := R4.out.cell 3 rfl
      have f0 := R4.out.frozen 0
      have f1 := R4.out.frozen 1
      have f2 := R4.out.frozen 2
      have f3 := R4.out.frozen 3
      have e : R = none := by rw [← HR.out]; exact BAD.out (Or.inr (by rw [HX.out, HF.out]; simp [nop]))
      subst e
      go_wp2
      have P := (Put.of (Nx.refl w3) R4.out).four (.int .i64 0) (.int .i64 0) (.int .i64 0) (.int .i64 0)
      have z0 := P.1.cell 0 rfl
      have z1 := P.1.cell 1 rfl
      have z2 := P.1.cell 2 rfl
      have z3 := P.1.cell 3 rfl
      refine bodyPost_ret (by simp [results, Tryd.results17, go_sem, z0, z1, z2, z3]; rfl) rfl ?_
      exact ⟨ret_rs rfl, P.2.2 w H4.out (by omega)⟩
    · simp only [List.length_cons] at hr; omega
  · refine (operandsOf_1 _).mono ?_
    rintro e w4 ⟨g, rfl, hbx, hg, q4⟩
    have H4 := Lib.hid (H3.out.trans q4)
    have R4 := Lib.hid (R3.out.nx q4)
    have X4 := Lib.hid (X3.out.nx q4)
    have B4 := Lib.hid (B3.out.nx q4)
    have G4 := Lib.hid hbx
    have hgx : g ≠ xb := by have := X3.out.lt; omega
    clear H3 R3 X3 B3 hbx hg q4
    rcases r with _ | ⟨b, _ | ⟨c, _ | ⟨d, _ | ⟨y, r⟩⟩⟩⟩
    · have c0 := R4.out.cell 0 rfl
      have c1 := R4.out.cell 1 rfl
      have c2 := R4.out.cell 2 rfl
      have c3 := R4.out.cell 3 rfl
      have f0 := R4.out.frozen 0
      have f1 := R4.out.frozen 1
      have f2 := R4.out.frozen 2
      have f3 := R4.out.frozen 3
      have e : R = none := by rw [← HR.out]; exact BAD.out (Or.inr (by rw [HX.out, HF.out]; simp [nop]))
      subst e
      go_wp2
      have P := (Put.of (Nx.refl w4) R4.out).four (.int .i64 0) (.int .i64 0) (.int .i64 0) (.int .i64 0)
      have z0 := P.1.cell 0 rfl
      have z1 := P.1.cell 1 rfl
      have z2 := P.1.cell 2 rfl
      have z3 := P.1.cell 3 rfl
      refine bodyPost_ret (by simp [results, Tryd.results17, go_sem, z0, z1, z2, z3]; rfl) rfl ?_
      exact ⟨ret_rs rfl, P.2.2 w H4.out (by omega)⟩
    · have hsb := hsz b (by simp)
      have hm2 : 2 ≤ m := by simpa using hm
      have b1 := B4.out.cell 1 (wcs_at [a, b] m 1 b rfl)
      have g0 := G4.out.cell 0 rfl
      have g1 := G4.out.cell 1 rfl
      have g2 := G4.out.cell 2 rfl
      have g3 := G4.out.cell 3 rfl
      go_wp2_with fail
      refine wp_loop_rounds 2 ?_
      rw [rounds_succ]
      go_wp2_with fail
      refine (addrSet_any b hsb xb k 0 0 0 w4 (HE.out.nx H4.out) X4.out).mono ?_
      rintro e w5 ⟨rfl, P5⟩
      have H5 := Lib.hid (P5.2.2 w H4.out (by omega))
      have R5 := Lib.hid (P5.2.1 _ _ _ (fun h => hxr h.symm) R4.out)
      have X5 := Lib.hid P5.1
      clear P5 b1 g0 g1 g2 g3
      by_cases hq : (parL (B b)).2.2 = 0
      · have HQ := Lib.hid hq
        have HD := Lib.hid (decide_eq_true hq)
        rw [HD.out]
        clear hq HD
        go_wp2_with fail
        rw [rounds_succ]
        have c0 := R5.out.cell 0 rfl
        have c1 := R5.out.cell 1 rfl
        have c2 := R5.out.cell 2 rfl
        have c3 := R5.out.cell 3 rfl
        have f0 := R5.out.frozen 0
        have f1 := R5.out.frozen 1
        have f2 := R5.out.frozen 2
        have f3 := R5.out.frozen 3
        have x0 := X5.out.cell 0 rfl
        have x1 := X5.out.cell 1 rfl
        have x2 := X5.out.cell 2 rfl
        have x3 := X5.out.cell 3 rfl
        have e : R = some ((k : Int), (parL (B b)).1, (parL (B b)).2.1, 0) := by rw [← HR.out]; show opL [B a, B b] = _; rw [opL_1 _ _ (by rw [HX.out, HF.out]; decide), if_pos (by exact HQ.out), HX.out]
        subst e
        go_wp2
        have P := (Put.of (Nx.refl w5) R5.out).four (.int .i64 k) (.int .i64 (parL (B b)).1) (.int .i64 (parL (B b)).2.1) (.int .i64 0)
        have z0 := P.1.cell 0 rfl
        have z1 := P.1.cell 1 rfl
        have z2 := P.1.cell 2 rfl
        have z3 := P.1.cell 3 rfl
        refine bodyPost_ret (by simp [results, Tryd.results17, go_sem, z0, z1, z2, z3]; rfl) rfl ?_
        exact ⟨ret_rs rfl, P.2.2 w H5.out (by omega)⟩
      · have HQ := Lib.hid hq
        have HD := Lib.hid (decide_eq_false hq)
        rw [HD.out]
        clear hq HD
        have c0 := R5.out.cell 0 rfl
        have c1 := R5.out.cell 1 rfl
        have c2 := R5.out.cell 2 rfl
        have c3 := R5.out.cell 3 rfl
        have f0 := R5.out.frozen 0
        have f1 := R5.out.frozen 1
        have f2 := R5.out.frozen 2
        have f3 := R5.out.frozen 3
        have e : R = none := by rw [← HR.out]; show opL [B a, B b] = _; rw [opL_1 _ _ (by rw [HX.out, HF.out]; decide), if_neg (by exact HQ.out)]
        subst e
        go_wp2
        have P := (Put.of (Nx.refl w5) R5.out).four (.int .i64 0) (.int .i64 0) (.int .i64 0) (.int .i64 0)
        have z0 := P.1.cell 0 rfl
        have z1 := P.1.cell 1 rfl
        have z2 := P.1.cell 2 rfl
        have z3 := P.1.cell 3 rfl
        refine bodyPost_ret (by simp [results, Tryd.results17, go_sem, z0, z1, z2, z3]; rfl) rfl ?_
        exact ⟨ret_rs rfl, P.2.2 w H5.out (by omega)⟩
    · have c0 := R4.out.cell 0 rfl
      have c1 := R4.out.cell 1 rfl
      have c2 := R4.out.cell 2 rfl
      have c3 := R4.out.cell 3 rfl
      have f0 := R4.out.frozen 0
      have f1 := R4.out.frozen 1
      have f2 := R4.out.frozen 2
      have f3 := R4.out.frozen 3
      have e : R = none := by rw [← HR.out]; exact BAD.out (Or.inr (by rw [HX.out, HF.out]; simp [nop]))
      subst e
      go_wp2
      have P := (Put.of (Nx.refl w4) R4.out).four (.int .i64 0) (.int .i64 0) (.int .i64 0) (.int .i64 0)
      have z0 := P.1.cell 0 rfl
      have z1 := P.1.cell 1 rfl
      have z2 := P.1.cell 2 rfl
      have z3 := P.1.cell 3 rfl
      refine bodyPost_ret (by simp [results, Tryd.results17, go_sem, z0, z1, z2, z3]; rfl) rfl ?_
      exact ⟨ret_rs rfl, P.2.2 w H4.out (by omega)⟩
    · have c0 := R4.out.cell 0 rfl
      have c1 := R4.out.cell 1 rfl
      have c2 := R4.out.cell 2 rfl
      have c3 := R4.out.cell 3 rfl
      have f0 := R4.out.frozen 0
      have f1 := R4.out.frozen 1
      have f2 := R4.out.frozen 2
      have f3 := R4.out.frozen 3
      have e : R = none := by rw [← HR.out]; exact BAD.out (Or.inr (by rw [HX.out, HF.out]; simp [nop]))
      subst e
      go_wp2
      have P := (Put.of (Nx.refl w4) R4.out).four (.int .i64 0) (.int .i64 0) (.int .i64 0) (.int .i64 0)
      have z0 := P.1.cell 0 rfl
      have z1 := P.1.cell 1 rfl
      have z2 := P.1.cell 2 rfl
      have z3 := P.1.cell 3 rfl
      refine bodyPost_ret (by simp [results, Tryd.results17, go_sem, z0, z1, z2, z3]; rfl) rfl ?_
      exact ⟨ret_rs rfl, P.2.2 w H4.out (by omega)⟩
    · simp only [List.length_cons] at hr; omega
  · refine (operandsOf_2 _).mono ?_
    rintro e w4 ⟨g, rfl, hbx, hg, q4⟩
    have H4 := Lib.hid (H3.out.trans q4)
    have R4 := Lib.hid (R3.out.nx q4)
    have X4 := Lib.hid (X3.out.nx q4)
    have B4 := Lib.hid (B3.out.nx q4)
    have G4 := Lib.hid hbx
    have hgx : g ≠ xb := by have := X3.out.lt; omega
    clear H3 R3 X3 B3 hbx hg q4
    rcases r with _ | ⟨b, _ | ⟨c, _ | ⟨d, _ | ⟨y, r⟩⟩⟩⟩
    · have c0 := R4.out.cell 0 rfl
      have c1 := R4.out.cell 1 rfl
      have c2 := R4.out.cell 2 rfl
      have c3 := R4.out.cell 3 rfl
      have f0 := R4.out.frozen 0
      have f1 := R4.out.frozen 1
      have f2 := R4.out.frozen 2
      have f3 := R4.out.frozen 3
      have e : R = none := by rw [← HR.out]; exact BAD.out (Or.inr (by rw [HX.out, HF.out]; simp [nop]))
      subst e
      go_wp2
      have P := (Put.of (Nx.refl w4) R4.out).four (.int .i64 0) (.int .i64 0) (.int .i64 0) (.int .i64 0)
      have z0 := P.1.cell 0 rfl
      have z1 := P.1.cell 1 rfl
      have z2 := P.1.cell 2 rfl
      have z3 := P.1.cell 3 rfl
      refine bodyPost_ret (by simp [results, Tryd.results17, go_sem, z0, z1, z2, z3]; rfl) rfl ?_
      exact ⟨ret_rs rfl, P.2.2 w H4.out (by omega)⟩
    · have c0 := R4.out.cell 0 rfl
      have c1 := R4.out.cell 1 rfl
      have c2 := R4.out.cell 2 rfl
      have c3 := R4.out.cell 3 rfl
      have f0 := R4.out.frozen 0
      have f1 := R4.out.frozen 1
      have f2 := R4.out.frozen 2
      have f3 := R4.out.frozen 3
      have e : R = none := by rw [← HR.out]; exact BAD.out (Or.inr (by rw [HX.out, HF.out]; simp [nop]))
      subst e
      go_wp2
      have P := (Put.of (Nx.refl w4) R4.out).four (.int .i64 0) (.int .i64 0) (.int .i64 0) (.int .i64 0)
      have z0 := P.1.cell 0 rfl
      have z1 := P.1.cell 1 rfl
      have z2 := P.1.cell 2 rfl
      have z3 := P.1.cell 3 rfl
      refine bodyPost_ret (by simp [results, Tryd.results17, go_sem, z0, z1, z2, z3]; rfl) rfl ?_
      exact ⟨ret_rs rfl, P.2.2 w H4.out (by omega)⟩
    · have hsb := hsz b (by simp)
      have hsc := hsz c (by simp)
      have hm2 : 3 ≤ m := by simpa using hm
      have b1 := B4.out.cell 1 (wcs_at [a, b, c] m 1 b rfl)
      have g0 := G4.out.cell 0 rfl
      have g1 := G4.out.cell 1 rfl
      have g2 := G4.out.cell 2 rfl
      have g3 := G4.out.cell 3 rfl
      go_wp2_with fail
      refine wp_loop_rounds 3 ?_
      rw [rounds_succ]
      go_wp2_with fail
      refine (addrSet_any b hsb xb k 0 0 0 w4 (HE.out.nx H4.out) X4.out).mono ?_
      rintro e w5 ⟨rfl, P5⟩
      have H5 := Lib.hid (P5.2.2 w H4.out (by omega))
      have R5 := Lib.hid (P5.2.1 _ _ _ (fun h => hxr h.symm) R4.out)
      have B5 := Lib.hid (P5.2.1 _ _ _ hwx B4.out)
      have G5 := Lib.hid (P5.2.1 _ _ _ hgx G4.out)
      have X5 := Lib.hid P5.1
      clear P5 b1 g0 g1 g2 g3
      by_cases hq : (parL (B b)).2.2 = 0
      rotate_left
      · have HQ := Lib.hid hq
        have HD := Lib.hid (decide_eq_false hq)
        rw [HD.out]
        clear hq HD
        have c0 := R5.out.cell 0 rfl
        have c1 := R5.out.cell 1 rfl
        have c2 := R5.out.cell 2 rfl
        have c3 := R5.out.cell 3 rfl
        have f0 := R5.out.frozen 0
        have f1 := R5.out.frozen 1
        have f2 := R5.out.frozen 2
        have f3 := R5.out.frozen 3
        have e : R = none := by rw [← HR.out]; show opL [B a, B b, B c] = _; rw [opL_2 _ _ _ (by rw [HX.out, HF.out]), if_neg (fun h => HQ.out h.1)]
        subst e
        go_wp2
        have P := (Put.of (Nx.refl w5) R5.out).four (.int .i64 0) (.int .i64 0) (.int .i64 0) (.int .i64 0)
        have z0 := P.1.cell 0 rfl
        have z1 := P.1.cell 1 rfl
        have z2 := P.1.cell 2 rfl
        have z3 := P.1.cell 3 rfl
        refine bodyPost_ret (by simp [results, Tryd.results17, go_sem, z0, z1, z2, z3]; rfl) rfl ?_
        exact ⟨ret_rs rfl, P.2.2 w H5.out (by omega)⟩
      have HQ := Lib.hid hq
      have HD := Lib.hid (decide_eq_true hq)
      rw [HD.out]
      clear hq HD
      go_wp2_with fail
      have b1 := B5.out.cell 2 (wcs_at [a, b, c] m 2 c rfl)
      have g0 := G5.out.cell 4 rfl
      have g1 := G5.out.cell 5 rfl
      have g2 := G5.out.cell 6 rfl
      have g3 := G5.out.cell 7 rfl
      rw [rounds_succ]
      go_wp2_with fail
      refine (numSet_any c hsc xb k (parL (B b)).1 (parL (B b)).2.1 0 w5 (HE.out.nx H5.out) X5.out).mono ?_
      rintro e w6 ⟨rfl, P6⟩
      have H6 := Lib.hid (P6.2.2 w H5.out (by omega))
      have R6 := Lib.hid (P6.2.1 _ _ _ (fun h => hxr h.symm) R5.out)
      have X6 := Lib.hid P6.1
      clear P6 b1 g0 g1 g2 g3
      by_cases hq2 : (dnum (B c)).2 = true
      · have HD2 := Lib.hid hq2
        rw [hq2]
        clear hq2
        go_wp2_with fail
        rw [rounds_succ]
        have c0 := R6.out.cell 0 rfl
        have c1 := R6.out.cell 1 rfl
        have c2 := R6.out.cell 2 rfl
        have c3 := R6.out.cell 3 rfl
        have f0 := R6.out.frozen 0
        have f1 := R6.out.frozen 1
        have f2 := R6.out.frozen 2
        have f3 := R6.out.frozen 3
        have x0 := X6.out.cell 0 rfl
        have x1 := X6.out.cell 1 rfl
        have x2 := X6.out.cell 2 rfl
        have x3 := X6.out.cell 3 rfl
        have e : R = some ((k : Int), (parL (B b)).1, (parL (B b)).2.1, (dnum (B c)).1) := by rw [← HR.out]; show opL [B a, B b, B c] = _; rw [opL_2 _ _ _ (by rw [HX.out, HF.out]), if_pos ⟨HQ.out, HD2.out⟩, HX.out]
        subst e
        go_wp2
        have P := (Put.of (Nx.refl w6) R6.out).four (.int .i64 k) (.int .i64 (parL (B b)).1) (.int .i64 (parL (B b)).2.1) (.int .i64 (dnum (B c)).1)
        have z0 := P.1.cell 0 rfl
        have z1 := P.1.cell 1 rfl
        have z2 := P.1.cell 2 rfl
        have z3 := P.1.cell 3 rfl
        refine bodyPost_ret (by simp [results, Tryd.results17, go_sem, z0, z1, z2, z3]; rfl) rfl ?_
        exact ⟨ret_rs rfl, P.2.2 w H6.out (by omega)⟩
      · have HD2 := Lib.hid (show (dnum (B c)).2 = false by simpa using hq2)
        rw [HD2.out]
        clear hq2
        have c0 := R6.out.cell 0 rfl
        have c1 := R6.out.cell 1 rfl
        have c2 := R6.out.cell 2 rfl
        have c3 := R6.out.cell 3 rfl
        have f0 := R6.out.frozen 0
        have f1 := R6.out.frozen 1
        have f2 := R6.out.frozen 2
        have f3 := R6.out.frozen 3
        have e : R = none := by rw [← HR.out]; show opL [B a, B b, B c] = _; rw [opL_2 _ _ _ (by rw [HX.out, HF.out]), if_neg (fun h => by rw [HD2.out] at h; cases h.2)]
        subst e
        go_wp2
        have P := (Put.of (Nx.refl w6) R6.out).four (.int .i64 0) (.int .i64 0) (.int .i64 0) (.int .i64 0)
        have z0 := P.1.cell 0 rfl
        have z1 := P.1.cell 1 rfl
        have z2 := P.1.cell 2 rfl
        have z3 := P.1.cell 3 rfl
        refine bodyPost_ret (by simp [results, Tryd.results17, go_sem, z0, z1, z2, z3]; rfl) rfl ?_
        exact ⟨ret_rs rfl, P.2.2 w H6.out (by omega)⟩
    · have c0 := R4.out.cell 0 rfl
      have c1 := R4.out.cell 1 rfl
      have c2 := R4.out.cell 2 rfl
      have c3 := R4.out.cell 3 rfl
      have f0 := R4.out.frozen 0
      have f1 := R4.out.frozen 1
      have f2 := R4.out.frozen 2
      have f3 := R4.out.frozen 3
      have e : R = none := by rw [← HR.out]; exact BAD.out (Or.inr (by rw [HX.out, HF.out]; simp [nop]))
      subst e
      go_wp2
      have P := (Put.of (Nx.refl w4) R4.out).four (.int .i64 0) (.int .i64 0) (.int .i64 0) (.int .i64 0)
      have z0 := P.1.cell 0 rfl
      have z1 := P.1.cell 1 rfl
      have z2 := P.1.cell 2 rfl
      have z3 := P.1.cell 3 rfl
      refine bodyPost_ret (by simp [results, Tryd.results17, go_sem, z0, z1, z2, z3]; rfl) rfl ?_
      exact ⟨ret_rs rfl, P.2.2 w H4.out (by omega)⟩
    · simp only [List.length_cons] at hr; omega
  · refine (operandsOf_3 _).mono ?_
    rintro e w4 ⟨g, rfl, hbx, hg, q4⟩
    have H4 := Lib.hid (H3.out.trans q4)
    have R4 := Lib.hid (R3.out.nx q4)
    have X4 := Lib.hid (X3.out.nx q4)
    have B4 := Lib.hid (B3.out.nx q4)
    have G4 := Lib.hid hbx
    have hgx : g ≠ xb := by have := X3.out.lt; omega
    clear H3 R3 X3 B3 hbx hg q4
    rcases r with _ | ⟨b, _ | ⟨c, _ | ⟨d, _ | ⟨y, r⟩⟩⟩⟩
    · have c0 := R4.out.cell 0 rfl
      have c1 := R4.out.cell 1 rfl
      have c2 := R4.out.cell 2 rfl
      have c3 := R4.out.cell 3 rfl
      have f0 := R4.out.frozen 0
      have f1 := R4.out.frozen 1
      have f2 := R4.out.frozen 2
      have f3 := R4.out.frozen 3
      have e : R = none := by rw [← HR.out]; exact BAD.out (Or.inr (by rw [HX.out, HF.out]; simp [nop]))
      subst e
      go_wp2
      have P := (Put.of (Nx.refl w4) R4.out).four (.int .i64 0) (.int .i64 0) (.int .i64 0) (.int .i64 0)
      have z0 := P.1.cell 0 rfl
      have z1 := P.1.cell 1 rfl
      have z2 := P.1.cell 2 rfl
      have z3 := P.1.cell 3 rfl
      refine bodyPost_ret (by simp [results, Tryd.results17, go_sem, z0, z1, z2, z3]; rfl) rfl ?_
      exact ⟨ret_rs rfl, P.2.2 w H4.out (by omega)⟩
    · have hsb := hsz b (by simp)
      have hm2 : 2 ≤ m := by simpa using hm
      have b1 := B4.out.cell 1 (wcs_at [a, b] m 1 b rfl)
      have g0 := G4.out.cell 0 rfl
      have g1 := G4.out.cell 1 rfl
      have g2 := G4.out.cell 2 rfl
      have g3 := G4.out.cell 3 rfl
      go_wp2_with fail
      refine wp_loop_rounds 2 ?_
      rw [rounds_succ]
      go_wp2_with fail
      refine (addrSet_any b hsb xb k 0 0 0 w4 (HE.out.nx H4.out) X4.out).mono ?_
      rintro e w5 ⟨rfl, P5⟩
      have H5 := Lib.hid (P5.2.2 w H4.out (by omega))
      have R5 := Lib.hid (P5.2.1 _ _ _ (fun h => hxr h.symm) R4.out)
      have X5 := Lib.hid P5.1
      clear P5 b1 g0 g1 g2 g3
      by_cases hq : (parL (B b)).2.2 = 0
      · have HQ := Lib.hid hq
        have HD := Lib.hid (decide_eq_true hq)
        rw [HD.out]
        clear hq HD
        go_wp2_with fail
        rw [rounds_succ]
        have c0 := R5.out.cell 0 rfl
        have c1 := R5.out.cell 1 rfl
        have c2 := R5.out.cell 2 rfl
        have c3 := R5.out.cell 3 rfl
        have f0 := R5.out.frozen 0
        have f1 := R5.out.frozen 1
        have f2 := R5.out.frozen 2
        have f3 := R5.out.frozen 3
        have x0 := X5.out.cell 0 rfl
        have x1 := X5.out.cell 1 rfl
        have x2 := X5.out.cell 2 rfl
        have x3 := X5.out.cell 3 rfl
        have e : R = some ((k : Int), (parL (B b)).1, (parL (B b)).2.1, 0) := by rw [← HR.out]; show opL [B a, B b] = _; rw [opL_1 _ _ (by rw [HX.out, HF.out]; decide), if_pos (by exact HQ.out), HX.out]
        subst e
        go_wp2
        have P := (Put.of (Nx.refl w5) R5.out).four (.int .i64 k) (.int .i64 (parL (B b)).1) (.int .i64 (parL (B b)).2.1) (.int .i64 0)
        have z0 := P.1.cell 0 rfl
        have z1 := P.1.cell 1 rfl
        have z2 := P.1.cell 2 rfl
        have z3 := P.1.cell 3 rfl
        refine bodyPost_ret (by simp [results, Tryd.results17, go_sem, z0, z1, z2, z3]; rfl) rfl ?_
        exact ⟨ret_rs rfl, P.2.2 w H5.out (by omega)⟩
      · have HQ := Lib.hid hq
        have HD := Lib.hid (decide_eq_false hq)
        rw [HD.out]
        clear hq HD
        have c0 := R5.out.cell 0 rfl
        have c1 := R5.out.cell 1 rfl
        have c2 := R5.out.cell 2 rfl
        have c3 := R5.out.cell 3 rfl
        have f0 := R5.out.frozen 0
        have f1 := R5.out.frozen 1
        have f2 := R5.out.frozen 2
        have f3 := R5.out.frozen 3
        have e : R = none := by rw [← HR.out]; show opL [B a, B b] = _; rw [opL_1 _ _ (by rw [HX.out, HF.out]; decide), if_neg (by exact HQ.out)]
        subst e
        go_wp2
        have P := (Put.of (Nx.refl w5) R5.out).four (.int .i64 0) (.int .i64 0) (.int .i64 0) (.int .i64 0)
        have z0 := P.1.cell 0 rfl
        have z1 := P.1.cell 1 rfl
        have z2 := P.1.cell 2 rfl
        have z3 := P.1.cell 3 rfl
        refine bodyPost_ret (by simp [results, Tryd.results17, go_sem, z0, z1, z2, z3]; rfl) rfl ?_
        exact ⟨ret_rs rfl, P.2.2 w H5.out (by omega)⟩
    · have c0 := R4.out.cell 0 rfl
      have c1 := R4.out.cell 1 rfl
      have c2 := R4.out.cell 2 rfl
      have c3 := R4.out.cell 3 rfl
      have f0 := R4.out.frozen 0
      have f1 := R4.out.frozen 1
      have f2 := R4.out.frozen 2
      have f3 := R4.out.frozen 3
      have e : R = none := by rw [← HR.out]; exact BAD.out (Or.inr (by rw [HX.out, HF.out]; simp [nop]))
      subst e
      go_wp2
      have P := (Put.of (Nx.refl w4) R4.out).four (.int .i64 0) (.int .i64 0) (.int .i64 0) (.int .i64 0)
      have z0 := P.1.cell 0 rfl
      have z1 := P.1.cell 1 rfl
      have z2 := P.1.cell 2 rfl
      have z3 := P.1.cell 3 rfl
      refine bodyPost_ret (by simp [results, Tryd.results17, go_sem, z0, z1, z2, z3]; rfl) rfl ?_
      exact ⟨ret_rs rfl, P.2.2 w H4.out (by omega)⟩
    · have c0 := R4.out.cell 0 rfl
      have c1 := R4.out.cell 1 rfl
      have c2 := R4.out.cell 2 rfl
      have c3 := R4.out.cell 3 rfl
      have f0 := R4.out.frozen 0
      have f1 := R4.out.frozen 1
      have f2 := R4.out.frozen 2
      have f3 := R4.out.frozen 3
      have e : R = none := by rw [← HR.out]; exact BAD.out (Or.inr (by rw [HX.out, HF.out]; simp [nop]))
      subst e
      go_wp2
      have P := (Put.of (Nx.refl w4) R4.out).four (.int .i64 0) (.int .i64 0) (.int .i64 0) (.int .i64 0)
      have z0 := P.1.cell 0 rfl
      have z1 := P.1.cell 1 rfl
      have z2 := P.1.cell 2 rfl
      have z3 := P.1.cell 3 rfl
      refine bodyPost_ret (by simp [results, Tryd.results17, go_sem, z0, z1, z2, z3]; rfl) rfl ?_
      exact ⟨ret_rs rfl, P.2.2 w H4.out (by omega)⟩
    · simp only [List.length_cons] at hr; omega
  · refine (operandsOf_4 _).mono ?_
    rintro e w4 ⟨g, rfl, hbx, hg, q4⟩
    have H4 := Lib.hid (H3.out.trans q4)
    have R4 := Lib.hid (R3.out.nx q4)
    have X4 := Lib.hid (X3.out.nx q4)
    have B4 := Lib.hid (B3.out.nx q4)
    have G4 := Lib.hid hbx
    have hgx : g ≠ xb := by have := X3.out.lt; omega
    clear H3 R3 X3 B3 hbx hg q4
    rcases r with _ | ⟨b, _ | ⟨c, _ | ⟨d, _ | ⟨y, r⟩⟩⟩⟩
    · have c0 := R4.out.cell 0 rfl
      have c1 := R4.out.cell 1 rfl
      have c2 := R4.out.cell 2 rfl
      have c3 := R4.out.cell 3 rfl
      have f0 := R4.out.frozen 0
      have f1 := R4.out.frozen 1
      have f2 := R4.out.frozen 2
      have f3 := R4.out.frozen 3
      have e : R = none := by rw [← HR.out]; exact BAD.out (Or.inr (by rw [HX.out, HF.out]; simp [nop]))
      subst e
      go_wp2
      have P := (Put.of (Nx.refl w4) R4.out).four (.int .i64 0) (.int .i64 0) (.int .i64 0) (.int .i64 0)
      have z0 := P.1.cell 0 rfl
      have z1 := P.1.cell 1 rfl
      have z2 := P.1.cell 2 rfl
      have z3 := P.1.cell 3 rfl
      refine bodyPost_ret (by simp [results, Tryd.results17, go_sem, z0, z1, z2, z3]; rfl) rfl ?_
      exact ⟨ret_rs rfl, P.2.2 w H4.out (by omega)⟩
    · have hsb := hsz b (by simp)
      have hm2 : 2 ≤ m := by simpa using hm
      have b1 := B4.out.cell 1 (wcs_at [a, b] m 1 b rfl)
      have g0 := G4.out.cell 0 rfl
      have g1 := G4.out.cell 1 rfl
      have g2 := G4.out.cell 2 rfl
      have g3 := G4.out.cell 3 rfl
      go_wp2_with fail
      refine wp_loop_rounds 2 ?_
      rw [rounds_succ]
      go_wp2_with fail
      refine (numSet_any b hsb xb k 0 0 0 w4 (HE.out.nx H4.out) X4.out).mono ?_
      rintro e w5 ⟨rfl, P5⟩
      have H5 := Lib.hid (P5.2.2 w H4.out (by omega))
      have R5 := Lib.hid (P5.2.1 _ _ _ (fun h => hxr h.symm) R4.out)
      have X5 := Lib.hid P5.1
      clear P5 b1 g0 g1 g2 g3
      by_cases hq : (dnum (B b)).2 = true
      · have HQ := Lib.hid hq
        rw [hq]
        clear hq
        go_wp2_with fail
        rw [rounds_succ]
        have c0 := R5.out.cell 0 rfl
        have c1 := R5.out.cell 1 rfl
        have c2 := R5.out.cell 2 rfl
        have c3 := R5.out.cell 3 rfl
        have f0 := R5.out.frozen 0
        have f1 := R5.out.frozen 1
        have f2 := R5.out.frozen 2
        have f3 := R5.out.frozen 3
        have x0 := X5.out.cell 0 rfl
        have x1 := X5.out.cell 1 rfl
        have x2 := X5.out.cell 2 rfl
        have x3 := X5.out.cell 3 rfl
        have e : R = some ((k : Int), 0, 0, (dnum (B b)).1) := by rw [← HR.out]; show opL [B a, B b] = _; rw [opL_4 _ _ (by rw [HX.out, HF.out]), if_pos (by exact HQ.out), HX.out]
        subst e
        go_wp2
        have P := (Put.of (Nx.refl w5) R5.out).four (.int .i64 k) (.int .i64 0) (.int .i64 0) (.int .i64 (dnum (B b)).1)
        have z0 := P.1.cell 0 rfl
        have z1 := P.1.cell 1 rfl
        have z2 := P.1.cell 2 rfl
        have z3 := P.1.cell 3 rfl
        refine bodyPost_ret (by simp [results, Tryd.results17, go_sem, z0, z1, z2, z3]; rfl) rfl ?_
        exact ⟨ret_rs rfl, P.2.2 w H5.out (by omega)⟩
      · have HQ := Lib.hid (show (dnum (B b)).2 = false by simpa using hq)
        rw [HQ.out]
        clear hq
        have c0 := R5.out.cell 0 rfl
        have c1 := R5.out.cell 1 rfl
        have c2 := R5.out.cell 2 rfl
        have c3 := R5.out.cell 3 rfl
        have f0 := R5.out.frozen 0
        have f1 := R5.out.frozen 1
        have f2 := R5.out.frozen 2
        have f3 := R5.out.frozen 3
        have e : R = none := by rw [← HR.out]; show opL [B a, B b] = _; rw [opL_4 _ _ (by rw [HX.out, HF.out]), if_neg (by rw [HQ.out]; decide)]
        subst e
        go_wp2
        have P := (Put.of (Nx.refl w5) R5.out).four (.int .i64 0) (.int .i64 0) (.int .i64 0) (.int .i64 0)
        have z0 := P.1.cell 0 rfl
        have z1 := P.1.cell 1 rfl
        have z2 := P.1.cell 2 rfl
        have z3 := P.1.cell 3 rfl
        refine bodyPost_ret (by simp [results, Tryd.results17, go_sem, z0, z1, z2, z3]; rfl) rfl ?_
        exact ⟨ret_rs rfl, P.2.2 w H5.out (by omega)⟩
    · have c0 := R4.out.cell 0 rfl
      have c1 := R4.out.cell 1 rfl
      have c2 := R4.out.cell 2 rfl
      have c3 := R4.out.cell 3 rfl
      have f0 := R4.out.frozen 0
      have f1 := R4.out.frozen 1
      have f2 := R4.out.frozen 2
      have f3 := R4.out.frozen 3
      have e : R = none := by rw [← HR.out]; exact BAD.out (Or.inr (by rw [HX.out, HF.out]; simp [nop]))
      subst e
      go_wp2
      have P := (Put.of (Nx.refl w4) R4.out).four (.int .i64 0) (.int .i64 0) (.int .i64 0) (.int .i64 0)
      have z0 := P.1.cell 0 rfl
      have z1 := P.1.cell 1 rfl
      have z2 := P.1.cell 2 rfl
      have z3 := P.1.cell 3 rfl
      refine bodyPost_ret (by simp [results, Tryd.results17, go_sem, z0, z1, z2, z3]; rfl) rfl ?_
      exact ⟨ret_rs rfl, P.2.2 w H4.out (by omega)⟩
    · have c0 := R4.out.cell 0 rfl
      have c1 := R4.out.cell 1 rfl
      have c2 := R4.out.cell 2 rfl
      have c3 := R4.out.cell 3 rfl
      have f0 := R4.out.frozen 0
      have f1 := R4.out.frozen 1
      have f2 := R4.out.frozen 2
      have f3 := R4.out.frozen 3
      have e : R = none := by rw [← HR.out]; exact BAD.out (Or.inr (by rw [HX.out, HF.out]; simp [nop]))
      subst e
      go_wp2
      have P := (Put.of (Nx.refl w4) R4.out).four (.int .i64 0) (.int .i64 0) (.int .i64 0) (.int .i64 0)
      have z0 := P.1.cell 0 rfl
      have z1 := P.1.cell 1 rfl
      have z2 := P.1.cell 2 rfl
      have z3 := P.1.cell 3 rfl
      refine bodyPost_ret (by simp [results, Tryd.results17, go_sem, z0, z1, z2, z3]; rfl) rfl ?_
      exact ⟨ret_rs rfl, P.2.2 w H4.out (by omega)⟩
    · simp only [List.length_cons] at hr; omega

theorem opParse_any (t : ByteArray) (ht : t.size ≤ 100000) (w : World) (he : Ev w) :
    Calls Tryd.prog 17 #[.string t] w fun e w' => e = .returned (.tuple #[.agg #[.int .i64 (rs (opP (B t))).1, .int .i64 (rs (opP (B t))).2.1, .int .i64 (rs (opP (B t))).2.2.1, .int .i64 (rs (opP (B t))).2.2.2.1], .int .i64 (rs (opP (B t))).2.2.2.2]) ∧ Nx w w' := by
  obtain ⟨a, r, h1, h2, h3, h4, h5⟩ := split_ok t
  rw [← h4]
  refine opParse_ws t a r (min 4 (t.size + 1)) h2 h3 (by omega) (fun x hx => Nat.le_trans (h5 x hx) ht) w he (fun w he => ?_)
  obtain ⟨m, hm⟩ := he.ml
  refine (Tryd.strings_SplitN t sp1 4 m w (by omega) hm (by decide) (by decide) (by decide)).mono ?_
  rintro e w' ⟨rfl, rfl⟩
  rw [h1]
  exact ⟨rfl, rfl⟩
end Go.Proofs.YtfnmjbapjngmaaaDoor
