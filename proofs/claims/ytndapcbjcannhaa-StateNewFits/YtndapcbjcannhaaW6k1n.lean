/- The walk of StateNewFits, one case of the address. Conditions: four numbers of 16 bits. -/
import Derived.Test.YtndapcbjcannhaaW6p
namespace Go.Proofs.Ytndapcbjcannhaa
open Go.RowKit

def psi6_k1n (h1 h2 p0 p1 p2 : Nat) (_ n : Int) (j : Nat) (f : Nat → Value) (w : World) : Prop := match j with
  | 0 => f 0 = .bool true
  | 1 => f 1 = .bool true
  | 2 => f 2 = .bool false
  | 3 => f 3 = .bool true
  | 4 => f 4 = .bool true
  | 5 => f 5 = .bool true
  | 6 => f 6 = .int .i64 3
  | 7 => f 7 = .bool false
  | 8 => f 8 = .pointer (some ⟨h1, 0, none⟩)
  | 9 => f 9 = .int .i64 1
  | 10 => f 10 = .bool true
  | 11 => f 11 = .bool true
  | 12 => f 12 = .pointer (some ⟨h1, 0, none⟩)
  | 13 => f 13 = .int .i64 1
  | 14 => f 14 = .bool true
  | 15 => f 15 = .bool true
  | 16 => f 16 = .bool true
  | 17 => f 17 = .pointer (some ⟨h1, 1, none⟩)
  | 18 => f 18 = .int .i64 n
  | 19 => f 19 = .bool true
  | 20 => f 20 = .bool true
  | 21 => f 21 = .bool true
  | 22 => f 22 = .pointer (some ⟨h1, 1, none⟩)
  | 23 => f 23 = .int .i64 n
  | 24 => f 24 = .pointer (some ⟨h2, 0, none⟩)
  | 25 => f 25 = .int .i64 p0
  | 26 => f 26 = .pointer (some ⟨h2, 1, none⟩)
  | 27 => f 27 = .int .i64 p1
  | 28 => f 28 = .pointer (some ⟨h2, 2, none⟩)
  | 29 => f 29 = .int .i64 p2
  | 30 => ∃ g, f 30 = .slice (some ⟨g, 0, none⟩) 3 3 ∧ Bx w g 3 [.int .i64 p0, .int .i64 p1, .int .i64 p2]
  | 31 => f 31 = .pointer (some ⟨h1, 0, none⟩)
  | 32 => f 32 = .int .i64 1
  | 33 => f 33 = .int .i64 1
  | 34 => f 34 = .int .i64 1
  | 35 => ∃ g, f 35 = .pointer (some ⟨g, 1, none⟩) ∧ Bx w g 3 [.int .i64 p0, .int .i64 p1, .int .i64 p2]
  | 36 => f 36 = .int .i64 p1
  | 37 => f 37 = .bool false
  | 38 => f 38 = .bool false
  | 39 => f 39 = .bool true
  | 40 => f 40 = .bool true
  | 41 => f 41 = .bool true
  | _ => False

set_option maxHeartbeats 6400000 in
set_option maxRecDepth 100000 in
theorem law6_k1n (na nb nc ne : Nat) (k n : Int) (hn : na < 65536 ∧ nb < 65536 ∧ nc < 65536 ∧ ne < 65536) (z : k = 1 ∧ 0 ≤ n ∧ ¬ n < ((nb % 257 : Nat) : Int)) (w : World) :
    Calls Try.prog 6 #[.agg #[.int .u16 na, .int .u16 nb, .int .u16 nc, .int .u16 ne], .agg #[.int .i64 k, .int .i64 n]] w fun e w' => e = .returned (.bool true) ∧ Nx w w' := by
  have N0 := Lib.hid (show Nx w ((w.alloc (.cells #[.int .u16 na, .int .u16 nb, .int .u16 nc, .int .u16 ne] 52)).alloc (.cells #[.int .i64 k, .int .i64 n] 40)) from (Nx.one _ _).alloc _)
  have XK := Lib.hid (bx_new (w.alloc (.cells #[.int .u16 na, .int .u16 nb, .int .u16 nc, .int .u16 ne] 52)) 40 [.int .i64 k, .int .i64 n])
  rw [show (w.alloc (.cells #[.int .u16 na, .int .u16 nb, .int .u16 nc, .int .u16 ne] 52)).heap.size = w.heap.size + 1 by simp] at XK
  obtain ⟨p0, e0, b0⟩ : ∃ p : Nat, (na : Int) % 257 = (p : Int) ∧ p ≤ 256 := ⟨na % 257, by omega, by omega⟩
  obtain ⟨p1, e1, b1⟩ : ∃ p : Nat, (nb : Int) % 257 = (p : Int) ∧ p ≤ 256 := ⟨nb % 257, by omega, by omega⟩
  obtain ⟨p2, e2, b2⟩ : ∃ p : Nat, (nc : Int) % 257 = (p : Int) ∧ p ≤ 256 := ⟨nc % 257, by omega, by omega⟩
  obtain ⟨p3, e3, b3⟩ : ∃ p : Nat, (ne : Int) % 500 = (p : Int) ∧ p ≤ 499 := ⟨ne % 500, by omega, by omega⟩
  have e0' := Lib.hid (show p0 = na % 257 by omega)
  have e1' := Lib.hid (show p1 = nb % 257 by omega)
  have e2' := Lib.hid (show p2 = nc % 257 by omega)
  have Z := Lib.hid z
  clear z
  have E0 := Lib.hid e0
  have E1 := Lib.hid e1
  have E2 := Lib.hid e2
  have E3 := Lib.hid e3
  clear e0 e1 e2 e3
  go_enter Try.func6, Try.ntmps6
  go_wp2_with fail
  rw [E0.out, E1.out, E2.out, E3.out]
  generalize hh2 : w.heap.size + 1 + 1 = h2 at *
  generalize hh1 : w.heap.size + 1 = h1 at *
  generalize hh0 : w.heap.size = h0 at *
  have hW : ((w.alloc (.cells #[.int .u16 na, .int .u16 nb, .int .u16 nc, .int .u16 ne] 52)).alloc (.cells #[.int .i64 k, .int .i64 n] 40)).heap.size = h2 := by rw [← hh2, ← hh1, ← hh0]; simp
  generalize (w.alloc (.cells #[.int .u16 na, .int .u16 nb, .int .u16 nc, .int .u16 ne] 52)).alloc (.cells #[.int .i64 k, .int .i64 n] 40) = W0 at *
  have X5 := Lib.hid (bx_new W0 23 [.int .i64 p0, .int .i64 p1, .int .i64 p2, .int .i64 p3])
  rw [hW] at X5
  have XK5 := Lib.hid (XK.out.nx (Nx.one W0 (.cells #[.int .i64 p0, .int .i64 p1, .int .i64 p2, .int .i64 p3] 23)))
  have N5 := Lib.hid (N0.out.alloc (.cells #[.int .i64 p0, .int .i64 p1, .int .i64 p2, .int .i64 p3] 23))
  generalize W0.alloc (.cells #[.int .i64 p0, .int .i64 p1, .int .i64 p2, .int .i64 p3] 23) = W at *
  clear E0 E1 E2 E3 hW
  refine (new_ok p0 p1 p2 p3 b0 b1 b2 (by omega) W).mono ?_
  rintro e w1 ⟨v, rfl, ⟨g1, g2, g3, c1, c2, c3, rfl, _, ⟨o1, l1⟩, ⟨o2, l2⟩, ⟨o3, l3⟩⟩, q1⟩
  have J1 := Lib.hid ((o1.im l1).nx (Nx.one w1 (.cells #[.slice (some ⟨g1, 0, none⟩) p1 c1, .slice (some ⟨g2, 0, none⟩) p2 c2, .slice (some ⟨g3, 0, none⟩) p3 c3] 26)))
  have J2 := Lib.hid ((o2.im l2).nx (Nx.one w1 (.cells #[.slice (some ⟨g1, 0, none⟩) p1 c1, .slice (some ⟨g2, 0, none⟩) p2 c2, .slice (some ⟨g3, 0, none⟩) p3 c3] 26)))
  have J3 := Lib.hid ((o3.im l3).nx (Nx.one w1 (.cells #[.slice (some ⟨g1, 0, none⟩) p1 c1, .slice (some ⟨g2, 0, none⟩) p2 c2, .slice (some ⟨g3, 0, none⟩) p3 c3] 26)))
  have X6 := Lib.hid (bx_new w1 26 [.slice (some ⟨g1, 0, none⟩) p1 c1, .slice (some ⟨g2, 0, none⟩) p2 c2, .slice (some ⟨g3, 0, none⟩) p3 c3])
  have K1 := Lib.hid (q1.alloc (.cells #[.slice (some ⟨g1, 0, none⟩) p1 c1, .slice (some ⟨g2, 0, none⟩) p2 c2, .slice (some ⟨g3, 0, none⟩) p3 c3] 26))
  clear o1 o2 o3 l1 l2 l3 q1
  generalize hC1 : (some (⟨g1, 0, none⟩ : Addr)) = G1 at *
  generalize hC2 : (some (⟨g2, 0, none⟩ : Addr)) = G2 at *
  generalize hC3 : (some (⟨g3, 0, none⟩ : Addr)) = G3 at *
  have a1 := (X5.out.nx K1.out).cell 0 rfl
  have a2 := (X5.out.nx K1.out).cell 1 rfl
  have a3 := (X5.out.nx K1.out).cell 2 rfl
  have a4 := (X5.out.nx K1.out).cell 3 rfl
  go_wp2_with fail
  clear a1 a2 a3 a4
  generalize w1.heap.size = h6 at *
  have X6' : Bx (w1.alloc (.cells #[.slice G1 p1 c1, .slice G2 p2 c2, .slice G3 p3 c3] 26)) h6 26 [.slice G1 p1 c1, .slice G2 p2 c2, .slice G3 p3 c3] := X6.out
  clear X6
  have X6 := Lib.hid X6'
  clear X6'
  generalize w1.alloc (.cells #[.slice G1 p1 c1, .slice G2 p2 c2, .slice G3 p3 c3] 26) = V1 at *
  refine (stFits_any p0 p1 p2 p3 G1 G2 G3 p1 p2 p3 c1 c2 c3 V1).mono ?_
  rw [fits_yes (show sizeOK p0 p1 p2 p3 ∧ (p1 : Int) = p1 ∧ (p2 : Int) = p2 ∧ (p3 : Int) = p3 by unfold sizeOK; omega)]
  rintro e v1 ⟨rfl, q1⟩
  have HS := Lib.hid (show ∀ w', Nx V1 w' → ((w'.cell? ⟨h2, 0, none⟩ = some (.int .i64 p0) ∧ w'.cell? ⟨h2, 1, none⟩ = some (.int .i64 p1) ∧ w'.cell? ⟨h2, 2, none⟩ = some (.int .i64 p2) ∧ w'.cell? ⟨h2, 3, none⟩ = some (.int .i64 p3)) ∧ (w'.cell? ⟨h6, 0, none⟩ = some (.slice G1 p1 c1) ∧ w'.cell? ⟨h6, 1, none⟩ = some (.slice G2 p2 c2) ∧ w'.cell? ⟨h6, 2, none⟩ = some (.slice G3 p3 c3)) ∧ (w'.cell? ⟨h1, 0, none⟩ = some (.int .i64 k) ∧ w'.cell? ⟨h1, 1, none⟩ = some (.int .i64 n))) from fun w' h =>
    ⟨⟨(X5.out.nx (K1.out.trans h)).cell 0 rfl, (X5.out.nx (K1.out.trans h)).cell 1 rfl, (X5.out.nx (K1.out.trans h)).cell 2 rfl, (X5.out.nx (K1.out.trans h)).cell 3 rfl⟩, ⟨(X6.out.nx h).cell 0 rfl, (X6.out.nx h).cell 1 rfl, (X6.out.nx h).cell 2 rfl⟩, ⟨(XK5.out.nx (K1.out.trans h)).cell 0 rfl, (XK5.out.nx (K1.out.trans h)).cell 1 rfl⟩⟩)
  have U1 := Lib.hid q1
  clear q1
  go_wp2_with fail
  refine wp_loop_rounds 4 ?_
  rw [rounds_succ]
  obtain ⟨⟨a1, a2, a3, a4⟩, _⟩ := HS.out v1 U1.out
  obtain ⟨⟨d1, d2, d3, d4⟩, ⟨d5, d6, d7⟩, _⟩ := HS.out _ (U1.out.alloc (.cells #[.int .i64 p0, .int .i64 p1, .int .i64 p2, .int .i64 p3] 23))
  obtain ⟨_, ⟨f5, f6, f7⟩, _⟩ := HS.out _ (U1.out.alloc (.cells #[.int .i64 p0, .int .i64 (((p1 : Int) + 1) % 257), .int .i64 p2, .int .i64 p3] 23))
  go_wp2_with fail
  clear a1 a2 a3 a4 d1 d2 d3 d4 d5 d6 d7 f5 f6 f7
  refine (stFits_any p0 (((p1 : Int) + 1) % 257) p2 p3 G1 G2 G3 p1 p2 p3 c1 c2 c3 _).mono ?_
  rw [fits_no (fun h => by have h2 := h.2; omega)]
  rintro e v2 ⟨rfl, q1⟩
  have U2 := Lib.hid (U1.out.trans ((Nx.one v1 _).trans q1))
  clear q1
  go_wp2
  rw [rounds_succ]
  obtain ⟨⟨a1, a2, a3, a4⟩, _⟩ := HS.out v2 U2.out
  obtain ⟨⟨d1, d2, d3, d4⟩, ⟨d5, d6, d7⟩, _⟩ := HS.out _ (U2.out.alloc (.cells #[.int .i64 p0, .int .i64 p1, .int .i64 p2, .int .i64 p3] 23))
  obtain ⟨_, ⟨f5, f6, f7⟩, _⟩ := HS.out _ (U2.out.alloc (.cells #[.int .i64 p0, .int .i64 p1, .int .i64 (((p2 : Int) + 1) % 257), .int .i64 p3] 23))
  go_wp2_with fail
  clear a1 a2 a3 a4 d1 d2 d3 d4 d5 d6 d7 f5 f6 f7
  refine (stFits_any p0 p1 (((p2 : Int) + 1) % 257) p3 G1 G2 G3 p1 p2 p3 c1 c2 c3 _).mono ?_
  rw [fits_no (fun h => by have h2 := h.2; omega)]
  rintro e v3 ⟨rfl, q2⟩
  have U3 := Lib.hid (U2.out.trans ((Nx.one v2 _).trans q2))
  clear q2
  go_wp2
  rw [rounds_succ]
  obtain ⟨⟨a1, a2, a3, a4⟩, _⟩ := HS.out v3 U3.out
  obtain ⟨⟨d1, d2, d3, d4⟩, ⟨d5, d6, d7⟩, _⟩ := HS.out _ (U3.out.alloc (.cells #[.int .i64 p0, .int .i64 p1, .int .i64 p2, .int .i64 p3] 23))
  obtain ⟨_, ⟨f5, f6, f7⟩, _⟩ := HS.out _ (U3.out.alloc (.cells #[.int .i64 p0, .int .i64 p1, .int .i64 p2, .int .i64 ((p3 : Int) + 1)] 23))
  go_wp2_with fail
  clear a1 a2 a3 a4 d1 d2 d3 d4 d5 d6 d7 f5 f6 f7
  refine (stFits_any p0 p1 p2 ((p3 : Int) + 1) G1 G2 G3 p1 p2 p3 c1 c2 c3 _).mono ?_
  rw [fits_no (fun h => by have h2 := h.2; omega)]
  rintro e v4 ⟨rfl, q3⟩
  have U4 := Lib.hid (U3.out.trans ((Nx.one v3 _).trans q3))
  clear q3
  go_wp2
  rw [rounds_succ]
  have mk0 := run_make_row' (P := Try.prog) 24 4 (.bool false) 1 Try.underlying24 info4 rfl .i64 .i64 p0 (by omega) (by omega)
  have uu := U4.out
  obtain ⟨⟨a1, a2, a3, a4⟩, ⟨a5, a6, a7⟩, ⟨a8, a9⟩⟩ := HS.out v4 uu
  have HS1 := Lib.hid (show ∀ w', Nx V1 w' → (w'.cell? ⟨h2, 0, none⟩ = some (.int .i64 p0) ∧ w'.cell? ⟨h6, 0, none⟩ = some (.slice G1 p1 c1) ∧ w'.cell? ⟨h6, 1, none⟩ = some (.slice G2 p2 c2) ∧ w'.cell? ⟨h6, 2, none⟩ = some (.slice G3 p3 c3) ∧ w'.cell? ⟨h1, 0, none⟩ = some (.int .i64 k) ∧ w'.cell? ⟨h1, 1, none⟩ = some (.int .i64 n)) from fun w' h => ⟨(HS.out w' h).1.1, (HS.out w' h).2.1.1, (HS.out w' h).2.1.2.1, (HS.out w' h).2.1.2.2, (HS.out w' h).2.2.1, (HS.out w' h).2.2.2⟩)
  go_wp2_with fail
  go_region_held3 (fun w' => w'.cell? ⟨h2, 0, none⟩ = some (.int .i64 p0) ∧ w'.cell? ⟨h6, 0, none⟩ = some (.slice G1 p1 c1) ∧ w'.cell? ⟨h6, 1, none⟩ = some (.slice G2 p2 c2) ∧ w'.cell? ⟨h6, 2, none⟩ = some (.slice G3 p3 c3) ∧ w'.cell? ⟨h1, 0, none⟩ = some (.int .i64 k) ∧ w'.cell? ⟨h1, 1, none⟩ = some (.int .i64 n)) (first | exact HS1.out _ (by repeat (first | exact Nx.refl _ | assumption | refine Nx.drew ?_ | refine Nx.drewN ?_ _ | refine Nx.alloc ?_ _ | refine Nx.trans ?_ (by assumption))) | go_keep)
    (first | (go_at_call 19; refine (read_any _ p0 p0 G1 G2 G3 p1 p2 p3 c1 c2 c3 (List.replicate p0 false) (List.replicate p1 false) (List.replicate p2 false) k n _ ?_ ?_ ?_).mono ?_; (focus exact made_im v4 p0 b0); (focus exact J1.out.nx (by repeat (first | exact Nx.refl _ | assumption | refine Nx.drew ?_ | refine Nx.drewN ?_ _ | refine Nx.alloc ?_ _ | refine Nx.trans ?_ (by assumption)))); (focus exact J2.out.nx (by repeat (first | exact Nx.refl _ | assumption | refine Nx.drew ?_ | refine Nx.drewN ?_ _ | refine Nx.alloc ?_ _ | refine Nx.trans ?_ (by assumption)))); rw [rdSV_zero]; rintro e v5 ⟨rfl, q5⟩))
  have u5 : Nx V1 v5 := (by repeat (first | exact Nx.refl _ | assumption | refine Nx.drew ?_ | refine Nx.drewN ?_ _ | refine Nx.alloc ?_ _ | refine Nx.trans ?_ (by assumption)))
  have U5 := Lib.hid u5
  have HK := Lib.hid (show ∀ w', Nx v5 w' → (w'.cell? ⟨h1, 0, none⟩ = some (.int .i64 k) ∧ w'.cell? ⟨h1, 1, none⟩ = some (.int .i64 n) ∧ w'.cell? ⟨h2, 0, none⟩ = some (.int .i64 p0) ∧ w'.cell? ⟨h2, 1, none⟩ = some (.int .i64 p1) ∧ w'.cell? ⟨h2, 2, none⟩ = some (.int .i64 p2)) from fun w' h => ⟨(HS.out w' (U5.out.trans h)).2.2.1, (HS.out w' (U5.out.trans h)).2.2.2, (HS.out w' (U5.out.trans h)).1.1, (HS.out w' (U5.out.trans h)).1.2.1, (HS.out w' (U5.out.trans h)).1.2.2.1⟩)
  have NF := Lib.hid ((N5.out.trans K1.out).trans U5.out)
  clear u5 uu q5 a1 a2 a3 a4 a5 a6 a7 a8 a9 HS HS1 J1 J2 J3 X5 X6 XK XK5 U1 U2 U3 U4 U5 K1 N5 mk0 hC1 hC2 hC3 hh0 hh1 hh2
  obtain ⟨rfl, hn0, z3⟩ := Z.out
  have hz : ¬ n < (p1 : Int) := by have h0 := e0'.out; have h1 := e1'.out; have h2 := e2'.out; omega
  rw [show rdSE (List.replicate p0 false) (List.replicate p1 false) (List.replicate p2 false) 1 n = 3 by unfold rdSE rdE; simp; omega]
  have d2 : decide (0 ≤ n) = true := decide_eq_true (by omega)
  have d3 : decide (n < (p1 : Int)) = false := decide_eq_false hz
  go_wp2_with fail
  refine wp_region_run (by kernel_rfl) (by kernel_rfl) (by kernel_rfl) (fun _ => []) (by kernel_rfl) Nx (fun _ _ k => k) (fun _ _ _ => Nx.trans) 42 (fun _ => True) (psi6_k1n h1 h2 p0 p1 p2 1 n) ?_ ?_ ?_ (fun _ _ _ h => h) trivial ?_ ?_
  · intro j f f' u e hs hp
    unfold psi6_k1n at hp ⊢
    split at hp
    all_goals first | exact hp | (rw [← e]; exact hp)
  · intro j f u u' hj k hp
    unfold psi6_k1n at hp ⊢
    split at hp
    case h_31 => obtain ⟨g, e, hb⟩ := hp; exact ⟨g, e, hb.nx k⟩
    case h_36 => obtain ⟨g, e, hb⟩ := hp; exact ⟨g, e, hb.nx k⟩
    all_goals exact hp
  · intro f u u' k hp
    exact hp
  · intro i o ho a1 w1 K hF hJ hR hE hK
    have hsz : a1.tmps.size = 121 := hF.2.1
    have f3 : a1.tmps[3]?.getD undef = .pointer (some ⟨h1, 0, none⟩) := tmp_of (hF.2.2 3 (by kernel_rfl))
    have f5 : a1.tmps[5]?.getD undef = .pointer (some ⟨h2, 0, none⟩) := tmp_of (hF.2.2 5 (by kernel_rfl))
    have f10 : a1.tmps[10]?.getD undef = .bool false := tmp_of (hF.2.2 10 (by kernel_rfl))
    have f11 : a1.tmps[11]?.getD undef = .int .i64 3 := tmp_of (hF.2.2 11 (by kernel_rfl))
    obtain ⟨r1, r2, r3, r4, r5⟩ := HK.out w1 hR
    rcases i with _ | _ | _ | _ | _ | _ | _ | _ | _ | _ | _ | _ | _ | _ | _ | _ | _ | _ | _ | _ | _ | _ | _ | _ | _ | _ | _ | _ | _ | _ | _ | _ | _ | _ | _ | _ | _ | _ | _ | _ | _ | _ | i
    · obtain rfl := Option.some.inj ho
      refine Or.inl ⟨wanted_none rfl, ?_⟩
      have hK0 := Lib.hid hK
      clear hK hE hF hR hJ hsz
      unfold Oper.wp
      go_simp
      go_at_call 9
      refine (alive_any _).mono ?_
      rintro e v6 ⟨rfl, q6⟩
      exact hK0.out (.bool true) _ (fun _ => q6) (fun h => by cases h) (upd_same _ _ _) (fun h => by cases h)
    · obtain rfl := Option.some.inj ho
      refine Or.inl ⟨wanted_none rfl, ?_⟩
      have e80 : a1.tmps[80]?.getD undef = .bool true := tmp_of (show a1.tmps.getD 80 undef = _ from hE ⟨0, .data⟩ (by simp) rfl)
      have hK0 := Lib.hid hK
      clear hK hE hF hR hJ hsz
      unfold Oper.wp
      go_simp
      exact hK0.out (.bool true) _ (fun _ => Nx.refl _) (fun h => by cases h) (upd_same _ _ _) (fun h => by cases h)
    · obtain rfl := Option.some.inj ho
      refine Or.inl ⟨(wanted_of (b := true) rfl rfl (by rw [hsz]; decide) (hE ⟨1, .guard⟩ (by simp) rfl)).trans (by rfl), ?_⟩
      have hK0 := Lib.hid hK
      clear hK hE hF hR hJ hsz
      unfold Oper.wp
      go_simp
      exact hK0.out (.bool false) _ (fun _ => Nx.refl _) (fun h => by cases h) (upd_same _ _ _) (fun h => by cases h)
    · obtain rfl := Option.some.inj ho
      refine Or.inl ⟨(wanted_of (b := true) rfl rfl (by rw [hsz]; decide) (hE ⟨1, .guard⟩ (by simp) rfl)).trans (by rfl), ?_⟩
      have e82 : a1.tmps[82]?.getD undef = .bool false := tmp_of (show a1.tmps.getD 82 undef = _ from hE ⟨2, .data⟩ (by simp) rfl)
      have hK0 := Lib.hid hK
      clear hK hE hF hR hJ hsz
      unfold Oper.wp
      go_simp
      exact hK0.out (.bool true) _ (fun _ => Nx.refl _) (fun h => by cases h) (upd_same _ _ _) (fun h => by cases h)
    · obtain rfl := Option.some.inj ho
      refine Or.inl ⟨wanted_none rfl, ?_⟩
      have e81 : a1.tmps[81]?.getD undef = .bool true := tmp_of (show a1.tmps.getD 81 undef = _ from hE ⟨1, .data⟩ (by simp) rfl)
      have e83 : a1.tmps[83]?.getD undef = .bool true := tmp_of (show a1.tmps.getD 83 undef = _ from hE ⟨3, .data⟩ (by simp) rfl)
      have hK0 := Lib.hid hK
      clear hK hE hF hR hJ hsz
      unfold Oper.wp
      go_simp
      exact hK0.out (.bool true) _ (fun _ => Nx.refl _) (fun h => by cases h) (upd_same _ _ _) (fun h => by cases h)
    · obtain rfl := Option.some.inj ho
      refine Or.inl ⟨wanted_none rfl, ?_⟩
      have e84 : a1.tmps[84]?.getD undef = .bool true := tmp_of (show a1.tmps.getD 84 undef = _ from hE ⟨4, .data⟩ (by simp) rfl)
      have hK0 := Lib.hid hK
      clear hK hE hF hR hJ hsz
      unfold Oper.wp
      go_simp
      exact hK0.out (.bool true) _ (fun _ => Nx.refl _) (fun h => by cases h) (upd_same _ _ _) (fun h => by cases h)
    · obtain rfl := Option.some.inj ho
      refine Or.inl ⟨(wanted_of (b := true) rfl rfl (by rw [hsz]; decide) (hE ⟨5, .guard⟩ (by simp) rfl)).trans (by rfl), ?_⟩
      have hK0 := Lib.hid hK
      clear hK hE hF hR hJ hsz
      unfold Oper.wp
      go_simp
      exact hK0.out (.int .i64 3) _ (fun _ => Nx.refl _) (fun h => by cases h) (upd_same _ _ _) (fun h => by cases h)
    · obtain rfl := Option.some.inj ho
      refine Or.inl ⟨(wanted_of (b := true) rfl rfl (by rw [hsz]; decide) (hE ⟨5, .guard⟩ (by simp) rfl)).trans (by rfl), ?_⟩
      have e86 : a1.tmps[86]?.getD undef = .int .i64 3 := tmp_of (show a1.tmps.getD 86 undef = _ from hE ⟨6, .data⟩ (by simp) rfl)
      have hK0 := Lib.hid hK
      clear hK hE hF hR hJ hsz
      unfold Oper.wp
      go_simp
      exact hK0.out (.bool false) _ (fun _ => Nx.refl _) (fun h => by cases h) (upd_same _ _ _) (fun h => by cases h)
    · obtain rfl := Option.some.inj ho
      refine Or.inl ⟨(wanted_of (b := true) rfl rfl (by rw [hsz]; decide) (hE ⟨5, .guard⟩ (by simp) rfl)).trans (by rfl), ?_⟩
      have hK0 := Lib.hid hK
      clear hK hE hF hR hJ hsz
      unfold Oper.wp
      go_simp
      exact hK0.out (.pointer (some ⟨h1, 0, none⟩)) _ (fun _ => Nx.refl _) (fun h => by cases h) (upd_same _ _ _) (fun h => by cases h)
    · obtain rfl := Option.some.inj ho
      refine Or.inl ⟨(wanted_of (b := true) rfl rfl (by rw [hsz]; decide) (hE ⟨5, .guard⟩ (by simp) rfl)).trans (by rfl), ?_⟩
      have e88 : a1.tmps[88]?.getD undef = .pointer (some ⟨h1, 0, none⟩) := tmp_of (show a1.tmps.getD 88 undef = _ from hE ⟨8, .data⟩ (by simp) rfl)
      have hK0 := Lib.hid hK
      clear hK hE hF hR hJ hsz
      unfold Oper.wp
      go_simp
      exact hK0.out (.int .i64 1) _ (fun _ => Nx.refl _) (fun h => by cases h) (upd_same _ _ _) (fun h => by cases h)
    · obtain rfl := Option.some.inj ho
      refine Or.inl ⟨(wanted_of (b := true) rfl rfl (by rw [hsz]; decide) (hE ⟨5, .guard⟩ (by simp) rfl)).trans (by rfl), ?_⟩
      have e89 : a1.tmps[89]?.getD undef = .int .i64 1 := tmp_of (show a1.tmps.getD 89 undef = _ from hE ⟨9, .data⟩ (by simp) rfl)
      have hK0 := Lib.hid hK
      clear hK hE hF hR hJ hsz
      unfold Oper.wp
      go_simp
      exact hK0.out (.bool true) _ (fun _ => Nx.refl _) (fun h => by cases h) (upd_same _ _ _) (fun h => by cases h)
    · obtain rfl := Option.some.inj ho
      refine Or.inl ⟨(wanted_of (b := true) rfl rfl (by rw [hsz]; decide) (hE ⟨5, .guard⟩ (by simp) rfl)).trans (by rfl), ?_⟩
      have e90 : a1.tmps[90]?.getD undef = .bool true := tmp_of (show a1.tmps.getD 90 undef = _ from hE ⟨10, .data⟩ (by simp) rfl)
      have hK0 := Lib.hid hK
      clear hK hE hF hR hJ hsz
      unfold Oper.wp
      go_simp
      exact hK0.out (.bool true) _ (fun _ => Nx.refl _) (fun h => by cases h) (upd_same _ _ _) (fun h => by cases h)
    · obtain rfl := Option.some.inj ho
      refine Or.inl ⟨(wanted_of (b := true) rfl rfl (by rw [hsz]; decide) (hE ⟨11, .guard⟩ (by simp) rfl)).trans (by rfl), ?_⟩
      have hK0 := Lib.hid hK
      clear hK hE hF hR hJ hsz
      unfold Oper.wp
      go_simp
      exact hK0.out (.pointer (some ⟨h1, 0, none⟩)) _ (fun _ => Nx.refl _) (fun h => by cases h) (upd_same _ _ _) (fun h => by cases h)
    · obtain rfl := Option.some.inj ho
      refine Or.inl ⟨(wanted_of (b := true) rfl rfl (by rw [hsz]; decide) (hE ⟨11, .guard⟩ (by simp) rfl)).trans (by rfl), ?_⟩
      have e92 : a1.tmps[92]?.getD undef = .pointer (some ⟨h1, 0, none⟩) := tmp_of (show a1.tmps.getD 92 undef = _ from hE ⟨12, .data⟩ (by simp) rfl)
      have hK0 := Lib.hid hK
      clear hK hE hF hR hJ hsz
      unfold Oper.wp
      go_simp
      exact hK0.out (.int .i64 1) _ (fun _ => Nx.refl _) (fun h => by cases h) (upd_same _ _ _) (fun h => by cases h)
    · obtain rfl := Option.some.inj ho
      refine Or.inl ⟨(wanted_of (b := true) rfl rfl (by rw [hsz]; decide) (hE ⟨11, .guard⟩ (by simp) rfl)).trans (by rfl), ?_⟩
      have e93 : a1.tmps[93]?.getD undef = .int .i64 1 := tmp_of (show a1.tmps.getD 93 undef = _ from hE ⟨13, .data⟩ (by simp) rfl)
      have hK0 := Lib.hid hK
      clear hK hE hF hR hJ hsz
      unfold Oper.wp
      go_simp
      exact hK0.out (.bool true) _ (fun _ => Nx.refl _) (fun h => by cases h) (upd_same _ _ _) (fun h => by cases h)
    · obtain rfl := Option.some.inj ho
      refine Or.inl ⟨(wanted_of (b := true) rfl rfl (by rw [hsz]; decide) (hE ⟨5, .guard⟩ (by simp) rfl)).trans (by rfl), ?_⟩
      have e91 : a1.tmps[91]?.getD undef = .bool true := tmp_of (show a1.tmps.getD 91 undef = _ from hE ⟨11, .data⟩ (by simp) rfl)
      have e94 : a1.tmps[94]?.getD undef = .bool true := tmp_of (show a1.tmps.getD 94 undef = _ from hE ⟨14, .data⟩ (by simp) rfl)
      have hK0 := Lib.hid hK
      clear hK hE hF hR hJ hsz
      unfold Oper.wp
      go_simp
      exact hK0.out (.bool true) _ (fun _ => Nx.refl _) (fun h => by cases h) (upd_same _ _ _) (fun h => by cases h)
    · obtain rfl := Option.some.inj ho
      refine Or.inl ⟨(wanted_of (b := true) rfl rfl (by rw [hsz]; decide) (hE ⟨5, .guard⟩ (by simp) rfl)).trans (by rfl), ?_⟩
      have e95 : a1.tmps[95]?.getD undef = .bool true := tmp_of (show a1.tmps.getD 95 undef = _ from hE ⟨15, .data⟩ (by simp) rfl)
      have hK0 := Lib.hid hK
      clear hK hE hF hR hJ hsz
      unfold Oper.wp
      go_simp
      exact hK0.out (.bool true) _ (fun _ => Nx.refl _) (fun h => by cases h) (upd_same _ _ _) (fun h => by cases h)
    · obtain rfl := Option.some.inj ho
      refine Or.inl ⟨(wanted_of (b := true) rfl rfl (by rw [hsz]; decide) (hE ⟨16, .guard⟩ (by simp) rfl)).trans (by rfl), ?_⟩
      have hK0 := Lib.hid hK
      clear hK hE hF hR hJ hsz
      unfold Oper.wp
      go_simp
      exact hK0.out (.pointer (some ⟨h1, 1, none⟩)) _ (fun _ => Nx.refl _) (fun h => by cases h) (upd_same _ _ _) (fun h => by cases h)
    · obtain rfl := Option.some.inj ho
      refine Or.inl ⟨(wanted_of (b := true) rfl rfl (by rw [hsz]; decide) (hE ⟨16, .guard⟩ (by simp) rfl)).trans (by rfl), ?_⟩
      have e97 : a1.tmps[97]?.getD undef = .pointer (some ⟨h1, 1, none⟩) := tmp_of (show a1.tmps.getD 97 undef = _ from hE ⟨17, .data⟩ (by simp) rfl)
      have hK0 := Lib.hid hK
      clear hK hE hF hR hJ hsz
      unfold Oper.wp
      go_simp
      exact hK0.out (.int .i64 n) _ (fun _ => Nx.refl _) (fun h => by cases h) (upd_same _ _ _) (fun h => by cases h)
    · obtain rfl := Option.some.inj ho
      refine Or.inl ⟨(wanted_of (b := true) rfl rfl (by rw [hsz]; decide) (hE ⟨16, .guard⟩ (by simp) rfl)).trans (by rfl), ?_⟩
      have e98 : a1.tmps[98]?.getD undef = .int .i64 n := tmp_of (show a1.tmps.getD 98 undef = _ from hE ⟨18, .data⟩ (by simp) rfl)
      have hK0 := Lib.hid hK
      clear hK hE hF hR hJ hsz
      unfold Oper.wp
      go_simp
      exact hK0.out (.bool true) _ (fun _ => Nx.refl _) (fun h => by cases h) (upd_same _ _ _) (fun h => by cases h)
    · obtain rfl := Option.some.inj ho
      refine Or.inl ⟨(wanted_of (b := true) rfl rfl (by rw [hsz]; decide) (hE ⟨5, .guard⟩ (by simp) rfl)).trans (by rfl), ?_⟩
      have e96 : a1.tmps[96]?.getD undef = .bool true := tmp_of (show a1.tmps.getD 96 undef = _ from hE ⟨16, .data⟩ (by simp) rfl)
      have e99 : a1.tmps[99]?.getD undef = .bool true := tmp_of (show a1.tmps.getD 99 undef = _ from hE ⟨19, .data⟩ (by simp) rfl)
      have hK0 := Lib.hid hK
      clear hK hE hF hR hJ hsz
      unfold Oper.wp
      go_simp
      exact hK0.out (.bool true) _ (fun _ => Nx.refl _) (fun h => by cases h) (upd_same _ _ _) (fun h => by cases h)
    · obtain rfl := Option.some.inj ho
      refine Or.inl ⟨(wanted_of (b := true) rfl rfl (by rw [hsz]; decide) (hE ⟨5, .guard⟩ (by simp) rfl)).trans (by rfl), ?_⟩
      have e100 : a1.tmps[100]?.getD undef = .bool true := tmp_of (show a1.tmps.getD 100 undef = _ from hE ⟨20, .data⟩ (by simp) rfl)
      have hK0 := Lib.hid hK
      clear hK hE hF hR hJ hsz
      unfold Oper.wp
      go_simp
      exact hK0.out (.bool true) _ (fun _ => Nx.refl _) (fun h => by cases h) (upd_same _ _ _) (fun h => by cases h)
    · obtain rfl := Option.some.inj ho
      refine Or.inl ⟨(wanted_of (b := true) rfl rfl (by rw [hsz]; decide) (hE ⟨21, .guard⟩ (by simp) rfl)).trans (by rfl), ?_⟩
      have hK0 := Lib.hid hK
      clear hK hE hF hR hJ hsz
      unfold Oper.wp
      go_simp
      exact hK0.out (.pointer (some ⟨h1, 1, none⟩)) _ (fun _ => Nx.refl _) (fun h => by cases h) (upd_same _ _ _) (fun h => by cases h)
    · obtain rfl := Option.some.inj ho
      refine Or.inl ⟨(wanted_of (b := true) rfl rfl (by rw [hsz]; decide) (hE ⟨21, .guard⟩ (by simp) rfl)).trans (by rfl), ?_⟩
      have e102 : a1.tmps[102]?.getD undef = .pointer (some ⟨h1, 1, none⟩) := tmp_of (show a1.tmps.getD 102 undef = _ from hE ⟨22, .data⟩ (by simp) rfl)
      have hK0 := Lib.hid hK
      clear hK hE hF hR hJ hsz
      unfold Oper.wp
      go_simp
      exact hK0.out (.int .i64 n) _ (fun _ => Nx.refl _) (fun h => by cases h) (upd_same _ _ _) (fun h => by cases h)
    · obtain rfl := Option.some.inj ho
      refine Or.inl ⟨(wanted_of (b := true) rfl rfl (by rw [hsz]; decide) (hE ⟨21, .guard⟩ (by simp) rfl)).trans (by rfl), ?_⟩
      have hK0 := Lib.hid hK
      clear hK hE hF hR hJ hsz
      unfold Oper.wp
      go_simp
      exact hK0.out (.pointer (some ⟨h2, 0, none⟩)) _ (fun _ => Nx.refl _) (fun h => by cases h) (upd_same _ _ _) (fun h => by cases h)
    · obtain rfl := Option.some.inj ho
      refine Or.inl ⟨(wanted_of (b := true) rfl rfl (by rw [hsz]; decide) (hE ⟨21, .guard⟩ (by simp) rfl)).trans (by rfl), ?_⟩
      have e104 : a1.tmps[104]?.getD undef = .pointer (some ⟨h2, 0, none⟩) := tmp_of (show a1.tmps.getD 104 undef = _ from hE ⟨24, .data⟩ (by simp) rfl)
      have hK0 := Lib.hid hK
      clear hK hE hF hR hJ hsz
      unfold Oper.wp
      go_simp
      exact hK0.out (.int .i64 p0) _ (fun _ => Nx.refl _) (fun h => by cases h) (upd_same _ _ _) (fun h => by cases h)
    · obtain rfl := Option.some.inj ho
      refine Or.inl ⟨(wanted_of (b := true) rfl rfl (by rw [hsz]; decide) (hE ⟨21, .guard⟩ (by simp) rfl)).trans (by rfl), ?_⟩
      have hK0 := Lib.hid hK
      clear hK hE hF hR hJ hsz
      unfold Oper.wp
      go_simp
      exact hK0.out (.pointer (some ⟨h2, 1, none⟩)) _ (fun _ => Nx.refl _) (fun h => by cases h) (upd_same _ _ _) (fun h => by cases h)
    · obtain rfl := Option.some.inj ho
      refine Or.inl ⟨(wanted_of (b := true) rfl rfl (by rw [hsz]; decide) (hE ⟨21, .guard⟩ (by simp) rfl)).trans (by rfl), ?_⟩
      have e106 : a1.tmps[106]?.getD undef = .pointer (some ⟨h2, 1, none⟩) := tmp_of (show a1.tmps.getD 106 undef = _ from hE ⟨26, .data⟩ (by simp) rfl)
      have hK0 := Lib.hid hK
      clear hK hE hF hR hJ hsz
      unfold Oper.wp
      go_simp
      exact hK0.out (.int .i64 p1) _ (fun _ => Nx.refl _) (fun h => by cases h) (upd_same _ _ _) (fun h => by cases h)
    · obtain rfl := Option.some.inj ho
      refine Or.inl ⟨(wanted_of (b := true) rfl rfl (by rw [hsz]; decide) (hE ⟨21, .guard⟩ (by simp) rfl)).trans (by rfl), ?_⟩
      have hK0 := Lib.hid hK
      clear hK hE hF hR hJ hsz
      unfold Oper.wp
      go_simp
      exact hK0.out (.pointer (some ⟨h2, 2, none⟩)) _ (fun _ => Nx.refl _) (fun h => by cases h) (upd_same _ _ _) (fun h => by cases h)
    · obtain rfl := Option.some.inj ho
      refine Or.inl ⟨(wanted_of (b := true) rfl rfl (by rw [hsz]; decide) (hE ⟨21, .guard⟩ (by simp) rfl)).trans (by rfl), ?_⟩
      have e108 : a1.tmps[108]?.getD undef = .pointer (some ⟨h2, 2, none⟩) := tmp_of (show a1.tmps.getD 108 undef = _ from hE ⟨28, .data⟩ (by simp) rfl)
      have hK0 := Lib.hid hK
      clear hK hE hF hR hJ hsz
      unfold Oper.wp
      go_simp
      exact hK0.out (.int .i64 p2) _ (fun _ => Nx.refl _) (fun h => by cases h) (upd_same _ _ _) (fun h => by cases h)
    · obtain rfl := Option.some.inj ho
      refine Or.inl ⟨(wanted_of (b := true) rfl rfl (by rw [hsz]; decide) (hE ⟨21, .guard⟩ (by simp) rfl)).trans (by rfl), ?_⟩
      have e105 : a1.tmps[105]?.getD undef = .int .i64 p0 := tmp_of (show a1.tmps.getD 105 undef = _ from hE ⟨25, .data⟩ (by simp) rfl)
      have e107 : a1.tmps[107]?.getD undef = .int .i64 p1 := tmp_of (show a1.tmps.getD 107 undef = _ from hE ⟨27, .data⟩ (by simp) rfl)
      have e109 : a1.tmps[109]?.getD undef = .int .i64 p2 := tmp_of (show a1.tmps.getD 109 undef = _ from hE ⟨29, .data⟩ (by simp) rfl)
      have hK0 := Lib.hid hK
      clear hK hE hF hR hJ hsz
      unfold Oper.wp
      go_simp
      exact hK0.out (.slice (some ⟨w1.heap.size, 0, none⟩) 3 3) _ (fun _ => Nx.one _ _) (fun h => by cases h) ⟨w1.heap.size, upd_same _ _ _, bx_new w1 3 [.int .i64 p0, .int .i64 p1, .int .i64 p2]⟩ (fun h => by cases h)
    · obtain rfl := Option.some.inj ho
      refine Or.inl ⟨(wanted_of (b := true) rfl rfl (by rw [hsz]; decide) (hE ⟨21, .guard⟩ (by simp) rfl)).trans (by rfl), ?_⟩
      have hK0 := Lib.hid hK
      clear hK hE hF hR hJ hsz
      unfold Oper.wp
      go_simp
      exact hK0.out (.pointer (some ⟨h1, 0, none⟩)) _ (fun _ => Nx.refl _) (fun h => by cases h) (upd_same _ _ _) (fun h => by cases h)
    · obtain rfl := Option.some.inj ho
      refine Or.inl ⟨(wanted_of (b := true) rfl rfl (by rw [hsz]; decide) (hE ⟨21, .guard⟩ (by simp) rfl)).trans (by rfl), ?_⟩
      have e111 : a1.tmps[111]?.getD undef = .pointer (some ⟨h1, 0, none⟩) := tmp_of (show a1.tmps.getD 111 undef = _ from hE ⟨31, .data⟩ (by simp) rfl)
      have hK0 := Lib.hid hK
      clear hK hE hF hR hJ hsz
      unfold Oper.wp
      go_simp
      exact hK0.out (.int .i64 1) _ (fun _ => Nx.refl _) (fun h => by cases h) (upd_same _ _ _) (fun h => by cases h)
    · obtain rfl := Option.some.inj ho
      refine Or.inl ⟨(wanted_of (b := true) rfl rfl (by rw [hsz]; decide) (hE ⟨21, .guard⟩ (by simp) rfl)).trans (by rfl), ?_⟩
      have e112 : a1.tmps[112]?.getD undef = .int .i64 1 := tmp_of (show a1.tmps.getD 112 undef = _ from hE ⟨32, .data⟩ (by simp) rfl)
      have hK0 := Lib.hid hK
      clear hK hE hF hR hJ hsz
      unfold Oper.wp
      go_simp
      exact hK0.out (.int .i64 1) _ (fun _ => Nx.refl _) (fun h => by cases h) (upd_same _ _ _) (fun h => by cases h)
    · obtain rfl := Option.some.inj ho
      refine Or.inl ⟨(wanted_of (b := true) rfl rfl (by rw [hsz]; decide) (hE ⟨21, .guard⟩ (by simp) rfl)).trans (by rfl), ?_⟩
      have e113 : a1.tmps[113]?.getD undef = .int .i64 1 := tmp_of (show a1.tmps.getD 113 undef = _ from hE ⟨33, .data⟩ (by simp) rfl)
      have hK0 := Lib.hid hK
      clear hK hE hF hR hJ hsz
      unfold Oper.wp
      go_simp
      exact hK0.out (.int .i64 1) _ (fun _ => Nx.refl _) (fun h => by cases h) (upd_same _ _ _) (fun h => by cases h)
    · obtain rfl := Option.some.inj ho
      refine Or.inl ⟨(wanted_of (b := true) rfl rfl (by rw [hsz]; decide) (hE ⟨21, .guard⟩ (by simp) rfl)).trans (by rfl), ?_⟩
      obtain ⟨g, e110', hb⟩ : ∃ g, a1.tmps.getD 110 undef = .slice (some ⟨g, 0, none⟩) 3 3 ∧ Bx w1 g 3 [.int .i64 p0, .int .i64 p1, .int .i64 p2] := hE ⟨30, .data⟩ (by simp) rfl
      have e110 := tmp_of e110'
      have e114 : a1.tmps[114]?.getD undef = .int .i64 1 := tmp_of (show a1.tmps.getD 114 undef = _ from hE ⟨34, .data⟩ (by simp) rfl)
      have hK0 := Lib.hid hK
      clear hK hE hF hR hJ hsz
      unfold Oper.wp
      go_simp
      exact hK0.out (.pointer (some ⟨g, 1, none⟩)) _ (fun _ => Nx.refl _) (fun h => by cases h) ⟨g, upd_same _ _ _, hb⟩ (fun h => by cases h)
    · obtain rfl := Option.some.inj ho
      refine Or.inl ⟨(wanted_of (b := true) rfl rfl (by rw [hsz]; decide) (hE ⟨21, .guard⟩ (by simp) rfl)).trans (by rfl), ?_⟩
      obtain ⟨g, e115', hb⟩ : ∃ g, a1.tmps.getD 115 undef = .pointer (some ⟨g, 1, none⟩) ∧ Bx w1 g 3 [.int .i64 p0, .int .i64 p1, .int .i64 p2] := hE ⟨35, .data⟩ (by simp) rfl
      have e115 := tmp_of e115'
      have gg := hb.cell 1 rfl
      have hK0 := Lib.hid hK
      clear hK hE hF hR hJ hsz
      unfold Oper.wp
      go_simp
      exact hK0.out (.int .i64 p1) _ (fun _ => Nx.refl _) (fun h => by cases h) (upd_same _ _ _) (fun h => by cases h)
    · obtain rfl := Option.some.inj ho
      refine Or.inl ⟨(wanted_of (b := true) rfl rfl (by rw [hsz]; decide) (hE ⟨21, .guard⟩ (by simp) rfl)).trans (by rfl), ?_⟩
      have e103 : a1.tmps[103]?.getD undef = .int .i64 n := tmp_of (show a1.tmps.getD 103 undef = _ from hE ⟨23, .data⟩ (by simp) rfl)
      have e116 : a1.tmps[116]?.getD undef = .int .i64 p1 := tmp_of (show a1.tmps.getD 116 undef = _ from hE ⟨36, .data⟩ (by simp) rfl)
      have hK0 := Lib.hid hK
      clear hK hE hF hR hJ hsz
      unfold Oper.wp
      go_simp
      exact hK0.out (.bool false) _ (fun _ => Nx.refl _) (fun h => by cases h) (upd_same _ _ _) (fun h => by cases h)
    · obtain rfl := Option.some.inj ho
      refine Or.inl ⟨(wanted_of (b := true) rfl rfl (by rw [hsz]; decide) (hE ⟨5, .guard⟩ (by simp) rfl)).trans (by rfl), ?_⟩
      have e101 : a1.tmps[101]?.getD undef = .bool true := tmp_of (show a1.tmps.getD 101 undef = _ from hE ⟨21, .data⟩ (by simp) rfl)
      have e117 : a1.tmps[117]?.getD undef = .bool false := tmp_of (show a1.tmps.getD 117 undef = _ from hE ⟨37, .data⟩ (by simp) rfl)
      have hK0 := Lib.hid hK
      clear hK hE hF hR hJ hsz
      unfold Oper.wp
      go_simp
      exact hK0.out (.bool false) _ (fun _ => Nx.refl _) (fun h => by cases h) (upd_same _ _ _) (fun h => by cases h)
    · obtain rfl := Option.some.inj ho
      refine Or.inl ⟨(wanted_of (b := true) rfl rfl (by rw [hsz]; decide) (hE ⟨5, .guard⟩ (by simp) rfl)).trans (by rfl), ?_⟩
      have e87 : a1.tmps[87]?.getD undef = .bool false := tmp_of (show a1.tmps.getD 87 undef = _ from hE ⟨7, .data⟩ (by simp) rfl)
      have e118 : a1.tmps[118]?.getD undef = .bool false := tmp_of (show a1.tmps.getD 118 undef = _ from hE ⟨38, .data⟩ (by simp) rfl)
      have hK0 := Lib.hid hK
      clear hK hE hF hR hJ hsz
      unfold Oper.wp
      go_simp
      exact hK0.out (.bool true) _ (fun _ => Nx.refl _) (fun h => by cases h) (upd_same _ _ _) (fun h => by cases h)
    · obtain rfl := Option.some.inj ho
      refine Or.inl ⟨wanted_none rfl, ?_⟩
      have e85 : a1.tmps[85]?.getD undef = .bool true := tmp_of (show a1.tmps.getD 85 undef = _ from hE ⟨5, .data⟩ (by simp) rfl)
      have e119 : a1.tmps[119]?.getD undef = .bool true := tmp_of (show a1.tmps.getD 119 undef = _ from hE ⟨39, .data⟩ (by simp) rfl)
      have hK0 := Lib.hid hK
      clear hK hE hF hR hJ hsz
      unfold Oper.wp
      go_simp
      exact hK0.out (.bool true) _ (fun _ => Nx.refl _) (fun h => by cases h) (upd_same _ _ _) (fun h => by cases h)
    · obtain rfl := Option.some.inj ho
      refine Or.inl ⟨wanted_none rfl, ?_⟩
      have e120 : a1.tmps[120]?.getD undef = .bool true := tmp_of (show a1.tmps.getD 120 undef = _ from hE ⟨40, .data⟩ (by simp) rfl)
      have hK0 := Lib.hid hK
      clear hK hE hF hR hJ hsz
      unfold Oper.wp
      go_simp
      exact hK0.out (.bool true) _ (fun _ => Nx.refl _) (fun h => by cases h) (upd_same _ _ _) (fun h => by cases h)
    · cases ho
  · intro a1 w1 hF hJ hR hP
    have f4 : a1.tmps[4]?.getD undef = .bool true := tmp_of (show a1.tmps.getD 4 undef = _ from hP 41 (by decide))
    have fd : a1.defers = [] := hF.1
    have hn := NF.out.trans hR
    clear hF hJ hR hP
    go_wp2
    try simp only [Exit.inBlock, Exit.then]
    refine bodyPost_ret (by simp [results, Try.results6, go_sem, f4]; try rfl) fd ?_
    exact ⟨rfl, hn⟩
end Go.Proofs.Ytndapcbjcannhaa
