/- What Equal of programs, the program's and the reference's, returns. Condition: programs that read as lists. -/
import Derived.Test.YtdiamajkfbejhaaDoorIT8
namespace Go.Proofs.YtdiamajkfbejhaaDoor
open Go.RowKit

theorem bx_newB (w : World) (b : Nat) (hb : w.heap.size = b) (T : TypeId) (vs : List Value) : Bx (w.alloc (.cells vs.toArray T)) b T vs := by subst hb; exact bx_new w T vs
/-- Two programs are equal. -/
def eqP (i q m e : Int) (code : List In4) (i' q' m' e' : Int) (code' : List In4) : Bool := decide (i = i' ∧ q = q' ∧ m = m' ∧ e = e' ∧ code = code')
theorem eqP_no {i q m e : Int} {code : List In4} {i' q' m' e' : Int} {code' : List In4} (h : ¬ (i = i' ∧ q = q' ∧ m = m' ∧ e = e')) : eqP i q m e code i' q' m' e' code' = false :=
  decide_eq_false (fun g => h ⟨g.1, g.2.1, g.2.2.1, g.2.2.2.1⟩)
theorem eqP_code {i q m e : Int} {code code' : List In4} : eqP i q m e code i q m e code' = decide (code = code') := by unfold eqP; simp
set_option maxHeartbeats 3200000 in
set_option maxRecDepth 100000 in
theorem equal_any (i q m e : Int) (A : Option Addr) (code : List In4) (n c : Nat) (i' q' m' e' : Int) (A' : Option Addr) (code' : List In4) (n' c' : Nat)
    (hn : code.length = n) (hn' : code'.length = n') (hl : n ≤ maxLen) (hl' : n' ≤ maxLen) (w : World) (hr : RdC w A code) (hr' : RdC w A' code') :
    Calls Tryd.prog 13 #[pgV i q m e A n c, pgV i' q' m' e' A' n' c'] w fun r w' => r = .returned (.bool (eqP i q m e code i' q' m' e' code')) ∧ Nx w w' := by
  have N1 := Lib.hid (show Nx w ((w.alloc (.cells #[.int .i64 i, .int .i64 q, .int .i64 m, .int .i64 e, .slice A n c] 26)).alloc (.cells #[.int .i64 i', .int .i64 q', .int .i64 m', .int .i64 e', .slice A' n' c'] 26)) from (Nx.one _ _).alloc _)
  have X1 := Lib.hid (show Bx ((w.alloc (.cells #[.int .i64 i, .int .i64 q, .int .i64 m, .int .i64 e, .slice A n c] 26)).alloc (.cells #[.int .i64 i', .int .i64 q', .int .i64 m', .int .i64 e', .slice A' n' c'] 26)) w.heap.size 26 (pgC i q m e A n c) from (bx_new w 26 (pgC i q m e A n c)).nx (Nx.one _ _))
  have X2 := Lib.hid (show Bx ((w.alloc (.cells #[.int .i64 i, .int .i64 q, .int .i64 m, .int .i64 e, .slice A n c] 26)).alloc (.cells #[.int .i64 i', .int .i64 q', .int .i64 m', .int .i64 e', .slice A' n' c'] 26)) (w.heap.size + 1) 26 (pgC i' q' m' e' A' n' c') from bx_newB _ _ (by simp) 26 (pgC i' q' m' e' A' n' c'))
  have SE := Lib.hid (slEqual_any A code n c A' code' n' c' hn hn' hl hl' _ (hr.nx N1.out) (hr'.nx N1.out))
  clear hr hr' hn hn' hl hl'
  have HEQ := Lib.hid (fun h => eqP_no (code := code) (code' := code') (i := i) (q := q) (m := m) (e := e) (i' := i') (q' := q') (m' := m') (e' := e') h)
  unfold pgV
  have x0 := X1.out.cell 0 rfl
  have x1 := X1.out.cell 1 rfl
  have x2 := X1.out.cell 2 rfl
  have x3 := X1.out.cell 3 rfl
  have x4 := X1.out.cell 4 rfl
  have y0 := X2.out.cell 0 rfl
  have y1 := X2.out.cell 1 rfl
  have y2 := X2.out.cell 2 rfl
  have y3 := X2.out.cell 3 rfl
  have y4 := X2.out.cell 4 rfl
  by_cases e1 : i = i'
  rotate_left
  · have HQ := Lib.hid (HEQ.out (fun h => e1 h.1))
    go_enter Tryd.func13, Tryd.ntmps13
    go_wp2_with fail
    go_ret
    rw [HQ.out]
    exact ⟨rfl, N1.out⟩
  by_cases e2 : q = q'
  rotate_left
  · have HQ := Lib.hid (HEQ.out (fun h => e2 h.2.1))
    subst e1
    go_enter Tryd.func13, Tryd.ntmps13
    go_wp2_with fail
    go_ret
    rw [HQ.out]
    exact ⟨rfl, N1.out⟩
  by_cases e3 : m = m'
  rotate_left
  · have HQ := Lib.hid (HEQ.out (fun h => e3 h.2.2.1))
    subst e1 e2
    go_enter Tryd.func13, Tryd.ntmps13
    go_wp2_with fail
    go_ret
    rw [HQ.out]
    exact ⟨rfl, N1.out⟩
  by_cases e4 : e = e'
  rotate_left
  · have HQ := Lib.hid (HEQ.out (fun h => e4 h.2.2.2))
    subst e1 e2 e3
    go_enter Tryd.func13, Tryd.ntmps13
    go_wp2_with fail
    go_ret
    rw [HQ.out]
    exact ⟨rfl, N1.out⟩
  subst e1 e2 e3 e4
  rw [eqP_code]
  clear HEQ
  obtain ⟨R, hR⟩ : ∃ R, decide (code = code') = R := ⟨_, rfl⟩
  rw [hR] at SE ⊢
  clear hR
  go_enter Tryd.func13, Tryd.ntmps13
  go_wp2_with fail
  refine SE.out.mono ?_
  rintro r w1 ⟨rfl, q1⟩
  have K1 := Lib.hid (N1.out.trans q1)
  clear q1
  cases R
  all_goals
    go_wp2_with fail
    go_ret
    exact ⟨rfl, K1.out⟩

set_option maxHeartbeats 3200000 in
set_option maxRecDepth 100000 in
theorem refEqual_any (i q m e : Int) (A : Option Addr) (code : List In4) (n c : Nat) (i' q' m' e' : Int) (A' : Option Addr) (code' : List In4) (n' c' : Nat)
    (hn : code.length = n) (hn' : code'.length = n') (hl : n ≤ maxLen) (hl' : n' ≤ maxLen) (w : World) (hr : RdC w A code) (hr' : RdC w A' code') :
    Calls Tryd.prog 14 #[pgV i q m e A n c, pgV i' q' m' e' A' n' c'] w fun r w' => r = .returned (.bool (eqP i q m e code i' q' m' e' code')) ∧ Nx w w' := by
  unfold maxLen at hl hl'
  have N1 := Lib.hid (show Nx w ((w.alloc (.cells #[.int .i64 i, .int .i64 q, .int .i64 m, .int .i64 e, .slice A n c] 26)).alloc (.cells #[.int .i64 i', .int .i64 q', .int .i64 m', .int .i64 e', .slice A' n' c'] 26)) from (Nx.one _ _).alloc _)
  have X1 := Lib.hid (show Bx ((w.alloc (.cells #[.int .i64 i, .int .i64 q, .int .i64 m, .int .i64 e, .slice A n c] 26)).alloc (.cells #[.int .i64 i', .int .i64 q', .int .i64 m', .int .i64 e', .slice A' n' c'] 26)) w.heap.size 26 (pgC i q m e A n c) from (bx_new w 26 (pgC i q m e A n c)).nx (Nx.one _ _))
  have X2 := Lib.hid (show Bx ((w.alloc (.cells #[.int .i64 i, .int .i64 q, .int .i64 m, .int .i64 e, .slice A n c] 26)).alloc (.cells #[.int .i64 i', .int .i64 q', .int .i64 m', .int .i64 e', .slice A' n' c'] 26)) (w.heap.size + 1) 26 (pgC i' q' m' e' A' n' c') from bx_newB _ _ (by simp) 26 (pgC i' q' m' e' A' n' c'))
  have HR := Lib.hid hr
  have HR' := Lib.hid hr'
  have HL := Lib.hid hn
  have HL' := Lib.hid hn'
  clear hr hr' hn hn'
  have HEQ := Lib.hid (fun h => eqP_no (code := code) (code' := code') (i := i) (q := q) (m := m) (e := e) (i' := i') (q' := q') (m' := m') (e' := e') h)
  unfold pgV
  have x0 := X1.out.cell 0 rfl
  have x1 := X1.out.cell 1 rfl
  have x2 := X1.out.cell 2 rfl
  have x3 := X1.out.cell 3 rfl
  have x4 := X1.out.cell 4 rfl
  have y0 := X2.out.cell 0 rfl
  have y1 := X2.out.cell 1 rfl
  have y2 := X2.out.cell 2 rfl
  have y3 := X2.out.cell 3 rfl
  have y4 := X2.out.cell 4 rfl
  by_cases e1 : i = i'
  rotate_left
  · have HQ := Lib.hid (HEQ.out (fun h => e1 h.1))
    go_enter Tryd.func14, Tryd.ntmps14
    go_wp2_with fail
    go_ret
    rw [HQ.out]
    exact ⟨rfl, N1.out⟩
  by_cases e2 : q = q'
  rotate_left
  · have HQ := Lib.hid (HEQ.out (fun h => e2 h.2.1))
    subst e1
    go_enter Tryd.func14, Tryd.ntmps14
    go_wp2_with fail
    go_ret
    rw [HQ.out]
    exact ⟨rfl, N1.out⟩
  by_cases e3 : m = m'
  rotate_left
  · have HQ := Lib.hid (HEQ.out (fun h => e3 h.2.2.1))
    subst e1 e2
    go_enter Tryd.func14, Tryd.ntmps14
    go_wp2_with fail
    go_ret
    rw [HQ.out]
    exact ⟨rfl, N1.out⟩
  by_cases e4 : e = e'
  rotate_left
  · have HQ := Lib.hid (HEQ.out (fun h => e4 h.2.2.2))
    subst e1 e2 e3
    go_enter Tryd.func14, Tryd.ntmps14
    go_wp2_with fail
    go_ret
    rw [HQ.out]
    exact ⟨rfl, N1.out⟩
  subst e1 e2 e3 e4
  rw [eqP_code]
  clear HEQ
  by_cases hnn : n = n'
  rotate_left
  · have HQ := Lib.hid (show decide (code = code') = false from decide_eq_false (fun g => hnn (by rw [← HL.out, ← HL'.out, g])))
    have h1 : ¬ (n : Int) = (n' : Int) := by omega
    clear hnn
    go_enter Tryd.func14, Tryd.ntmps14
    go_wp2_with fail
    go_ret
    rw [HQ.out]
    exact ⟨rfl, N1.out⟩
  subst hnn
  go_enter Tryd.func14, Tryd.ntmps14
  go_wp2_with fail
  clear x0 x1 x2 x3 x4 y0 y1 y2 y3 y4
  generalize (w.alloc (.cells #[.int .i64 i, .int .i64 q, .int .i64 m, .int .i64 e, .slice A n c] 26)).alloc (.cells #[.int .i64 i, .int .i64 q, .int .i64 m, .int .i64 e, .slice A' n c'] 26) = W at *
  go_loopw [5] (fun j wr => ∃ k : Nat, k ≤ n ∧ j = .int .i64 k ∧ (∀ j, j < k → code[j]? = code'[j]?) ∧ Nx W wr) (fun j _ => n - (intOf j).toNat)
  case atStart => exact ⟨0, Nat.zero_le _, rfl, fun j hj => absurd hj (by omega), Nx.refl _⟩
  case round =>
    obtain ⟨k, hk, rfl, hz, hnx⟩ := hrel
    have HN := Lib.hid (N1.out.trans hnx)
    have x4 := (X1.out.nx hnx).cell 4 rfl
    have y4 := (X2.out.nx hnx).cell 4 rfl
    have HNW := Lib.hid hnx
    have HZ := Lib.hid hz
    clear hnx hz
    by_cases hlt : k < n
    · obtain ⟨x, hx⟩ := code_at code k (by rw [HL.out]; exact hlt)
      obtain ⟨y, hy⟩ := code_at code' k (by rw [HL'.out]; exact hlt)
      have hki : (k : Int) < (n : Int) := by omega
      obtain ⟨ad, rfl, c0, c1, c2, c3⟩ := (HR.out.nx HN.out).fr4 hx
      obtain ⟨ad', rfl, d0, d1, d2, d3⟩ := (HR'.out.nx HN.out).fr4 hy
      have HNE := Lib.hid (fun h => code_ne hx hy h)
      have HST := Lib.hid (show x = y → ∀ j, j < k + 1 → code[j]? = code'[j]? from fun e j hj => by
        rcases Nat.lt_or_ge j k with h | h
        · exact HZ.out j h
        · obtain rfl : j = k := by omega
          rw [hx, hy, e])
      clear hx hy
      obtain ⟨a1, a2, a3, a4⟩ := x
      obtain ⟨b1, b2, b3, b4⟩ := y
      simp only at c0 c1 c2 c3 d0 d1 d2 d3
      simp only [In4.mk.injEq, ne_eq] at HNE HST
      by_cases e1 : a1 = b1
      rotate_left
      · have HQ := Lib.hid (show decide (code = code') = false from decide_eq_false (HNE.out (fun h => e1 h.1)))
        go_wp2_with fail
        go_quiet (fail)
        go_wp2_with fail
        go_ret
        rw [HQ.out]
        exact ⟨rfl, HN.out.drewN _⟩
      by_cases e2 : a2 = b2
      rotate_left
      · have HQ := Lib.hid (show decide (code = code') = false from decide_eq_false (HNE.out (fun h => e2 h.2.1)))
        subst e1
        go_wp2_with fail
        go_quiet (fail)
        go_wp2_with fail
        go_ret
        rw [HQ.out]
        exact ⟨rfl, HN.out.drewN _⟩
      by_cases e3 : a3 = b3
      rotate_left
      · have HQ := Lib.hid (show decide (code = code') = false from decide_eq_false (HNE.out (fun h => e3 h.2.2.1)))
        subst e1 e2
        go_wp2_with fail
        go_quiet (fail)
        go_wp2_with fail
        go_ret
        rw [HQ.out]
        exact ⟨rfl, HN.out.drewN _⟩
      by_cases e4 : a4 = b4
      rotate_left
      · have HQ := Lib.hid (show decide (code = code') = false from decide_eq_false (HNE.out (fun h => e4 h.2.2.2)))
        subst e1 e2 e3
        go_wp2_with fail
        go_quiet (fail)
        go_wp2_with fail
        go_ret
        rw [HQ.out]
        exact ⟨rfl, HN.out.drewN _⟩
      have HS := Lib.hid (HST.out ⟨e1, e2, e3, e4⟩)
      subst e1 e2 e3 e4
      clear HNE HST
      go_wp2_with fail
      go_quiet (fail)
      go_wp2_with fail
      go_roundw
      case rel => exact ⟨k + 1, by omega, by go_num, HS.out, HNW.out.drewN _⟩
      case measure => simp [intOf]; omega
    · have hki : ¬ (k : Int) < (n : Int) := by omega
      have HQ := Lib.hid (show decide (code = code') = true from decide_eq_true (code_eq (by rw [HL.out, HL'.out]) (fun j hj => HZ.out j (by rw [HL.out] at hj; omega))))
      go_wp2_with fail
      go_ret
      rw [HQ.out]
      exact ⟨rfl, HN.out⟩
end Go.Proofs.YtdiamajkfbejhaaDoor
