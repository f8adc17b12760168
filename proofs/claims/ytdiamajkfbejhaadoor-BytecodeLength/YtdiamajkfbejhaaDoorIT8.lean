/- What Size, Equal and the reference's Equal of programs return. Condition: programs that read as lists; for Size: the table of opcodes holds what the program's text lays. -/
import Derived.Test.YtdiamajkfbejhaaDoorIT6
import Derived.Test.YtdiamajkfbejhaaDoorIN5
import Derived.BigQuiet
namespace Go.Proofs.YtdiamajkfbejhaaDoor
open Go.RowKit

/-- The length of the encoding, 0 of an invalid program. -/
def szA (i q m e : Int) (code : List In4) : Nat := if (ckA i q m e code).2.2 = 0 then 13 + (body code).length else 0
set_option maxHeartbeats 1600000 in
set_option maxRecDepth 100000 in
theorem size_any (i q m e : Int) (A : Option Addr) (code : List In4) (n c : Nat) (hn : code.length = n) (hl : n ≤ maxLen) (w : World) (hr : RdC w A code) (he : Ev w) :
    Calls Tryd.prog 12 #[pgV i q m e A n c] w fun r w' => r = .returned (.int .i64 (szA i q m e code : Nat)) ∧ Nx w w' := by
  have HR := Lib.hid hr
  have HL := Lib.hid hn
  have HE := Lib.hid he
  have N0 := Lib.hid (Nx.one w (.cells #[.int .i64 i, .int .i64 q, .int .i64 m, .int .i64 e, .slice A n c] 26))
  have XP := Lib.hid (bx_new w 26 (pgC i q m e A n c))
  have CK := Lib.hid (valid_any i q m e A code n c hn hl (w.alloc (.cells #[.int .i64 i, .int .i64 q, .int .i64 m, .int .i64 e, .slice A n c] 26)) (hr.nx N0.out) (he.nx N0.out))
  have HV := Lib.hid (show (ckA i q m e code).2.2 = 0 → Vd i q m e code from Vd.of)
  have HS1 := Lib.hid (show (ckA i q m e code).2.2 = 0 → szA i q m e code = 13 + (body code).length from fun h => by unfold szA; rw [if_pos h])
  have HS0 := Lib.hid (show ¬ (ckA i q m e code).2.2 = 0 → szA i q m e code = 0 from fun h => by unfold szA; rw [if_neg h])
  clear hr hn he hl
  generalize szA i q m e code = R at *
  generalize (ckA i q m e code).2.2 = z3 at *
  unfold pgV at CK ⊢
  have x0 := XP.out.cell 0 rfl
  have x1 := XP.out.cell 1 rfl
  have x2 := XP.out.cell 2 rfl
  have x3 := XP.out.cell 3 rfl
  have x4 := XP.out.cell 4 rfl
  go_enter Tryd.func12, Tryd.ntmps12
  go_wp2_with fail
  clear x0 x1 x2 x3 x4
  refine CK.out.mono ?_
  rintro r w1 ⟨rfl, q1⟩
  have K1 := Lib.hid (N0.out.trans q1)
  have X1 := Lib.hid (XP.out.nx q1)
  clear q1 CK
  by_cases hz : z3 = 0
  rotate_left
  · rw [decide_eq_false hz]
    have HQ := Lib.hid (HS0.out hz)
    clear hz
    go_wp2_with fail
    go_ret
    rw [HQ.out]
    exact ⟨rfl, K1.out⟩
  subst hz
  have HD := Lib.hid (HV.out rfl)
  have HQ := Lib.hid (HS1.out rfl)
  have hbig : n ≤ 65535 := by rw [← HL.out]; exact HD.out.big
  have x4 := X1.out.cell 4 rfl
  have HC1 := Lib.hid (HR.out.nx K1.out)
  have HE1 := Lib.hid (HE.out.nx K1.out)
  rw [decide_eq_true (show (0 : Int) = 0 from rfl)]
  go_wp2_with fail
  refine (encodedSize_any A code n c HL.out (by omega) (fun k x hx => (HD.out.okx hx).op) w1 HC1.out HE1.out).mono ?_
  rintro r w2 ⟨rfl, q2⟩
  have K2 := Lib.hid (K1.out.trans q2)
  clear q2 x4
  obtain ⟨L, hL⟩ : ∃ L, 13 + (body code).length = L := ⟨_, rfl⟩
  rw [hL] at HQ ⊢
  clear hL
  go_wp2_with fail
  go_ret
  rw [HQ.out]
  exact ⟨rfl, K2.out⟩

theorem code_eq {a b : List In4} (hl : a.length = b.length) (h : ∀ j, j < a.length → a[j]? = b[j]?) : a = b := by
  apply List.ext_getElem?
  intro j
  by_cases hj : j < a.length
  · exact h j hj
  · rw [List.getElem?_eq_none (by omega), List.getElem?_eq_none (by omega)]
theorem code_ne {a b : List In4} {k : Nat} {x y : In4} (hx : a[k]? = some x) (hy : b[k]? = some y) (h : x ≠ y) : a ≠ b := by
  intro e
  rw [e, hy] at hx
  exact h (Option.some.inj hx).symm
set_option maxHeartbeats 3200000 in
set_option maxRecDepth 100000 in
theorem slEqual_any (A : Option Addr) (code : List In4) (n c : Nat) (A' : Option Addr) (code' : List In4) (n' c' : Nat) (hn : code.length = n) (hn' : code'.length = n') (hl : n ≤ maxLen) (hl' : n' ≤ maxLen) (w : World) (hr : RdC w A code) (hr' : RdC w A' code') :
    Calls Tryd.prog 26 #[.slice A n c, .slice A' n' c'] w fun r w' => r = .returned (.bool (decide (code = code'))) ∧ Nx w w' := by
  unfold maxLen at hl hl'
  have HR := Lib.hid hr
  have HR' := Lib.hid hr'
  have HL := Lib.hid hn
  have HL' := Lib.hid hn'
  clear hr hr' hn hn'
  by_cases hnn : n = n'
  rotate_left
  · have HQ := Lib.hid (show decide (code = code') = false from decide_eq_false (fun e => hnn (by rw [← HL.out, ← HL'.out, e])))
    have h1 : ¬ (n : Int) = (n' : Int) := by omega
    clear hnn
    go_enter Tryd.func26, Tryd.ntmps26
    go_wp2_with fail
    go_ret
    rw [HQ.out]
    exact ⟨rfl, Nx.refl _⟩
  subst hnn
  go_enter Tryd.func26, Tryd.ntmps26
  go_wp2_with fail
  go_loopw [13] (fun i wr => ∃ k : Nat, k ≤ n ∧ i = .int .i64 k ∧ (∀ j, j < k → code[j]? = code'[j]?) ∧ Nx w wr) (fun i _ => n - (intOf i).toNat)
  case atStart => exact ⟨0, Nat.zero_le _, rfl, fun j hj => absurd hj (by omega), Nx.refl _⟩
  case round =>
    obtain ⟨k, hk, rfl, hz, hnx⟩ := hrel
    have HN := Lib.hid hnx
    have HZ := Lib.hid hz
    clear hnx hz
    by_cases hlt : k < n
    · obtain ⟨x, hx⟩ := code_at code k (by rw [HL.out]; exact hlt)
      obtain ⟨y, hy⟩ := code_at code' k (by rw [HL'.out]; exact hlt)
      have hki : (k : Int) < (n : Int) := by omega
      obtain ⟨ad, rfl, c0, c1, c2, c3⟩ := (HR.out.nx HN.out).fr4 hx
      obtain ⟨ad', rfl, d0, d1, d2, d3⟩ := (HR'.out.nx HN.out).fr4 hy
      have HNE := Lib.hid (fun h => code_ne hx hy h)
      have HST := Lib.hid (show x = y → ∀ j, j < k + 1 → code[j]? = code'[j]? from fun e j hj => by
        rcases Nat.lt_or_ge j k with h | h
        · exact HZ.out j h
        · obtain rfl : j = k := by omega
          rw [hx, hy, e])
      clear hx hy
      obtain ⟨a1, a2, a3, a4⟩ := x
      obtain ⟨b1, b2, b3, b4⟩ := y
      simp only at c0 c1 c2 c3 d0 d1 d2 d3
      simp only [In4.mk.injEq, ne_eq] at HNE HST
      by_cases e1 : a1 = b1
      rotate_left
      · have HQ := Lib.hid (show decide (code = code') = false from decide_eq_false (HNE.out (fun h => e1 h.1)))
        go_wp2_with fail
        go_quiet (fail)
        go_wp2_with fail
        go_ret
        rw [HQ.out]
        exact ⟨rfl, HN.out.drewN _⟩
      by_cases e2 : a2 = b2
      rotate_left
      · have HQ := Lib.hid (show decide (code = code') = false from decide_eq_false (HNE.out (fun h => e2 h.2.1)))
        subst e1
        go_wp2_with fail
        go_quiet (fail)
        go_wp2_with fail
        go_ret
        rw [HQ.out]
        exact ⟨rfl, HN.out.drewN _⟩
      by_cases e3 : a3 = b3
      rotate_left
      · have HQ := Lib.hid (show decide (code = code') = false from decide_eq_false (HNE.out (fun h => e3 h.2.2.1)))
        subst e1 e2
        go_wp2_with fail
        go_quiet (fail)
        go_wp2_with fail
        go_ret
        rw [HQ.out]
        exact ⟨rfl, HN.out.drewN _⟩
      by_cases e4 : a4 = b4
      rotate_left
      · have HQ := Lib.hid (show decide (code = code') = false from decide_eq_false (HNE.out (fun h => e4 h.2.2.2)))
        subst e1 e2 e3
        go_wp2_with fail
        go_quiet (fail)
        go_wp2_with fail
        go_ret
        rw [HQ.out]
        exact ⟨rfl, HN.out.drewN _⟩
      have HS := Lib.hid (HST.out ⟨e1, e2, e3, e4⟩)
      subst e1 e2 e3 e4
      clear HNE HST
      go_wp2_with fail
      go_quiet (fail)
      go_wp2_with fail
      go_roundw
      case rel => exact ⟨k + 1, by omega, by go_num, HS.out, HN.out.drewN _⟩
      case measure => simp [intOf]; omega
    · have hki : ¬ (k : Int) < (n : Int) := by omega
      have HQ := Lib.hid (show decide (code = code') = true from decide_eq_true (code_eq (by rw [HL.out, HL'.out]) (fun j hj => HZ.out j (by rw [HL.out] at hj; omega))))
      go_wp2_with fail
      go_ret
      rw [HQ.out]
      exact ⟨rfl, HN.out⟩
end Go.Proofs.YtdiamajkfbejhaaDoor
