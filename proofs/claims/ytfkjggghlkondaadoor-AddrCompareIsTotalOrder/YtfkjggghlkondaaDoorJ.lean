/- The walk of AddrFormatMatchesReference. Conditions: the tables are laid. -/
import Derived.Test.YtfkjggghlkondaaDoorI
namespace Go.Proofs.YtfkjggghlkondaaDoor
open Go.RowKit

/-- The textual form of an address, or the empty text. -/
def fmtS (k n : Int) : ByteArray := if 0 ≤ k ∧ k < 3 ∧ 0 ≤ n ∧ n ≤ 255 then lt k.toNat ++ dec n.toNat else ⟨#[]⟩
theorem format_any (k n : Int) (w : World) (he : Env w) :
    Calls Tryd.prog 12 #[.agg #[.int .i64 k, .int .i64 n]] w fun e w' => e = .returned (.string (fmtS k n)) ∧ Nx w w' := by
  unfold fmtS
  by_cases h : 0 ≤ k ∧ k < 3 ∧ 0 ≤ n ∧ n ≤ 255
  · rw [if_pos h]
    have := format_ok k.toNat n.toNat (by omega) (by omega) w he
    rwa [Int.toNat_of_nonneg h.1, Int.toNat_of_nonneg h.2.2.1] at this
  · rw [if_neg h]
    exact format_no k n h w
theorem refFormat_any (k n : Int) (w : World) :
    Calls Tryd.prog 13 #[.agg #[.int .i64 k, .int .i64 n]] w fun e w' => e = .returned (.string (fmtS k n)) ∧ Nx w w' := by
  unfold fmtS
  by_cases h : 0 ≤ k ∧ k < 3 ∧ 0 ≤ n ∧ n ≤ 255
  · rw [if_pos h]
    have := refFormat_ok k.toNat n.toNat (by omega) (by omega) w
    rwa [Int.toNat_of_nonneg h.1, Int.toNat_of_nonneg h.2.2.1] at this
  · rw [if_neg h]
    exact refFormat_no k n h w

set_option maxHeartbeats 800000 in
set_option maxRecDepth 100000 in
theorem law3 (k n : Int) (s : ByteArray) (hs : s.size ≤ maxLen) (w : World) (he : Env w) :
    Calls Tryd.prog 3 #[.agg #[.int .i64 k, .int .i64 n], .string s] w fun e w' => e = .returned (.bool true) ∧ Nx w w' := by
  have HE := Lib.hid he
  by_cases hlen : 1000 < s.size
  · have h1 : (1000 : Int) < (s.size : Int) := by omega
    have E1 := Lib.hid (he.nx (Nx.one w (.cells #[.int .i64 k, .int .i64 n] 23)))
    clear he
    go_enter Tryd.func3, Tryd.ntmps3
    go_wp2_with (go_at_call 9; refine (alive_any _ E1.out).mono ?_; rintro e w' ⟨rfl, h9⟩)
    go_ret
    exact ⟨rfl, (Nx.one _ _).trans h9⟩
  · have h1 : ¬ (1000 : Int) < (s.size : Int) := by omega
    have P1 := Lib.hid (fun (w : World) (he : Env w) => parse_any s hs w he)
    have P2 := Lib.hid (fun (w : World) => refParse_any s hs w)
    generalize parL (B s) = p at *
    obtain ⟨a, b, er⟩ := p
    have N1 := Lib.hid (Nx.one w (.cells #[.int .i64 k, .int .i64 n] 23))
    clear he
    go_enter Tryd.func3, Tryd.ntmps3
    go_wp2_with fail
    refine (P1.out _ (HE.out.nx N1.out)).mono ?_
    rintro e w1 ⟨rfl, h1'⟩
    have H1 := Lib.hid (N1.out.trans h1')
    have hc1 : w1.cell? ⟨w.heap.size, 0, none⟩ = some (.int .i64 k) ∧ w1.cell? ⟨w.heap.size, 1, none⟩ = some (.int .i64 n) := ⟨h1'.cell (by simp), h1'.cell (by simp)⟩
    clear h1'
    have HC1 := Lib.hid hc1
    clear hc1
    go_wp2_with fail
    refine (P2.out _).mono ?_
    rintro e w2 ⟨rfl, h2'⟩
    have H2 := Lib.hid ((H1.out.alloc _).trans h2')
    go_wp2_with fail
    have hc1 := HC1.out
    have N3 := H2.out.alloc (.cells #[.int .i64 a, .int .i64 b] 23)
    have hc3 : ∀ w', Nx (w2.alloc (.cells #[.int .i64 a, .int .i64 b] 23)) w' → w'.cell? ⟨w.heap.size, 0, none⟩ = some (.int .i64 k) ∧ w'.cell? ⟨w.heap.size, 1, none⟩ = some (.int .i64 n) ∧ w'.cell? ⟨w1.heap.size, 0, none⟩ = some (.int .i64 a) ∧ w'.cell? ⟨w1.heap.size, 1, none⟩ = some (.int .i64 b) ∧ w'.cell? ⟨w2.heap.size, 0, none⟩ = some (.int .i64 a) ∧ w'.cell? ⟨w2.heap.size, 1, none⟩ = some (.int .i64 b) := by
      intro w' h
      have ha : Nx w1 w' := ((Nx.one _ _).trans h2').trans ((Nx.one _ _).trans h)
      have hb : Nx (w1.alloc (.cells #[.int .i64 a, .int .i64 b] 23)) w' := h2'.trans ((Nx.one _ _).trans h)
      exact ⟨ha.cell hc1.1, ha.cell hc1.2, hb.cell (by simp), hb.cell (by simp), h.cell (by simp), h.cell (by simp)⟩
    generalize w2.alloc (.cells #[.int .i64 a, .int .i64 b] 23) = W3 at *
    have EV := HE.out.nx N3
    have HS := Lib.hid hc3
    obtain ⟨g1, g2, g3, g4, g5, g6⟩ := hc3 W3 (Nx.refl _)
    have F1 := Lib.hid (format_any k n)
    have F2 := Lib.hid (refFormat_any k n)
    generalize fmtS k n = f at *
    clear hc3 hc1 h2'
    go_region_held3 (fun w' => w'.cell? ⟨w.heap.size, 0, none⟩ = some (.int .i64 k) ∧ w'.cell? ⟨w.heap.size, 1, none⟩ = some (.int .i64 n) ∧ w'.cell? ⟨w1.heap.size, 0, none⟩ = some (.int .i64 a) ∧ w'.cell? ⟨w1.heap.size, 1, none⟩ = some (.int .i64 b) ∧ w'.cell? ⟨w2.heap.size, 0, none⟩ = some (.int .i64 a) ∧ w'.cell? ⟨w2.heap.size, 1, none⟩ = some (.int .i64 b)) (first | exact HS.out _ (by repeat (first | exact Nx.refl _ | assumption | refine Nx.drew ?_ | refine Nx.drewN ?_ _ | refine Nx.alloc ?_ _ | refine Nx.trans ?_ (by assumption))) | go_keep)
      (first
        | (go_at_call 9; refine (alive_any _ ?_).mono ?_; (focus (refine EV.nx ?_; (repeat (first | exact Nx.refl _ | assumption | refine Nx.drew ?_ | refine Nx.drewN ?_ _ | refine Nx.alloc ?_ _ | refine Nx.trans ?_ (by assumption))))); rintro e w4 ⟨rfl, h4⟩)
        | (go_at_call 12; refine (F1.out _ ?_).mono ?_; (focus (refine EV.nx ?_; (repeat (first | exact Nx.refl _ | assumption | refine Nx.drew ?_ | refine Nx.drewN ?_ _ | refine Nx.alloc ?_ _ | refine Nx.trans ?_ (by assumption))))); rintro e w5 ⟨rfl, h5⟩)
        | (go_at_call 13; refine (F2.out _).mono ?_; rintro e w6 ⟨rfl, h6⟩))
    all_goals go_wp2
    all_goals go_ret
    all_goals exact ⟨rfl, N3.trans (by (repeat (first | exact Nx.refl _ | assumption | refine Nx.drew ?_ | refine Nx.drewN ?_ _ | refine Nx.alloc ?_ _ | refine Nx.trans ?_ (by assumption))))⟩
end Go.Proofs.YtfkjggghlkondaaDoor
