/- What the reference's machine does for one instruction: the dispatch. What the reference's machine does for push. What the reference's machine does for one instruction: the other opcodes. What the reference's machine does for one instruction, all opcodes. What Step of the reference's machine does. Conditions: as each theorem states them. -/
import Derived.Test.YtmijfipggggdfaaMD
import Derived.Test.YtmijfipggggdfaaMA
import Derived.Test.YtmijfipggggdfaaMC
import Derived.Deep.DeepCutAuto
import Derived.Deep.CutBlock
import Derived.Test.YtmijfipggggdfaaIV5a
import Derived.Test.YtmijfipggggdfaaIV5b
import Derived.Test.YtmijfipggggdfaaIV5c
import Derived.Test.YtmijfipggggdfaaIV5d
namespace Go.Proofs.Ytmijfipggggdfaa
section
open Go.RowKit
variable {F : Nat → Prop}

section
variable {w : World} {b : Nat} {code : List In4} {inp : List Bool} {s : Mc}
theorem RM.pcCell (h : RM F w b code inp s) : w.cell? ⟨b, 5, none⟩ = some (.int .i64 (s.pc : Int)) := by
  obtain ⟨Ac, Ai, Aq, Am, Ae, As, cc, ci, cq, cm, ce, cs, hb, _⟩ := h; exact hb.cell 5 rfl
theorem RM.accCell (h : RM F w b code inp s) : w.cell? ⟨b, 6, none⟩ = some (.bool s.acc) := by
  obtain ⟨Ac, Ai, Aq, Am, Ae, As, cc, ci, cq, cm, ce, cs, hb, _⟩ := h; exact hb.cell 6 rfl
theorem RM.hltCell (h : RM F w b code inp s) : w.cell? ⟨b, 8, none⟩ = some (.bool s.hlt) := by
  obtain ⟨Ac, Ai, Aq, Am, Ae, As, cc, ci, cq, cm, ce, cs, hb, _⟩ := h; exact hb.cell 8 rfl
theorem RM.fltCell (h : RM F w b code inp s) : w.cell? ⟨b, 9, none⟩ = some (.int .i64 s.flt) := by
  obtain ⟨Ac, Ai, Aq, Am, Ae, As, cc, ci, cq, cm, ce, cs, hb, _⟩ := h; exact hb.cell 9 rfl
theorem RM.frozen (h : RM F w b code inp s) (i : Nat) : w.frozen? ⟨b, i, none⟩ = false := by
  obtain ⟨Ac, Ai, Aq, Am, Ae, As, cc, ci, cq, cm, ce, cs, hb, _⟩ := h; exact hb.frozen i
theorem RM.stkCell (h : RM F w b code inp s) : ∃ A c, w.cell? ⟨b, 7, none⟩ = some (.slice A s.stk.length c) := by
  obtain ⟨Ac, Ai, Aq, Am, Ae, As, cc, ci, cq, cm, ce, cs, hb, _⟩ := h; exact ⟨As, cs, hb.cell 7 rfl⟩
theorem RM.codeCell (h : RM F w b code inp s) : ∃ A c, w.cell? ⟨b, 0, none⟩ = some (.slice A code.length c) ∧ RdC w A code := by
  obtain ⟨Ac, Ai, Aq, Am, Ae, As, cc, ci, cq, cm, ce, cs, hb, ⟨hc, _⟩, _⟩ := h; exact ⟨Ac, cc, hb.cell 0 rfl, hc⟩
end
/-- What do returns, and what it leaves. -/
def DoPost (b : Nat) (code : List In4) (inp : List Bool) (_s sN : Mc) (p E : Int) (w : World) (e : Ending) (w' : World) : Prop :=
  e = .returned (.tuple #[.int .i64 p, .int .i64 E]) ∧ RM F w' b code inp sN ∧ Mv b none w w'

set_option maxHeartbeats 1600000 in
set_option maxRecDepth 100000 in
theorem refDo_logic (b : Nat) (code : List In4) (inp : List Bool) (s : Mc) (op k n t : Int) (hop : 0 ≤ op ∧ op ≤ 5) (hpc : s.pc ≤ 1000000) (w : World) (h : RM F w b code inp s) :
    Calls Try.prog 35 #[.pointer (some ⟨b, 0, none⟩), .agg #[.int .i64 op, .int .i64 k, .int .i64 n, .int .i64 t]] w
      (DoPost (F := F) b code inp s (if bitE inp s ⟨op, k, n, t⟩ = 0 then { s with acc := lgA op s.acc (bitV inp s ⟨op, k, n, t⟩) } else s) ((s.pc : Int) + 1) (bitE inp s ⟨op, k, n, t⟩) w) := by
  have hbl := h.lt
  have h0 := hop.1
  have h5 := hop.2
  have HOP := Lib.hid hop
  have NX := Lib.hid (Nx.one w (.cells #[.int .i64 op, .int .i64 k, .int .i64 n, .int .i64 t] 53))
  have HX := Lib.hid (bx_new w 53 [.int .i64 op, .int .i64 k, .int .i64 n, .int .i64 t])
  have R1 := Lib.hid (h.nx NX.out)
  have x0 := HX.out.cell 0 rfl
  have x1 := HX.out.cell 1 rfl
  have x2 := HX.out.cell 2 rfl
  have x3 := HX.out.cell 3 rfl
  clear hop h
  obtain ⟨sN, hsN⟩ : ∃ sN : Mc, sN = (if bitE inp s ⟨op, k, n, t⟩ = 0 then { s with acc := lgA op s.acc (bitV inp s ⟨op, k, n, t⟩) } else s) := ⟨_, rfl⟩
  rw [← hsN]
  have HSN := Lib.hid hsN
  clear hsN
  by_cases hE : bitE inp s ⟨op, k, n, t⟩ = 0
  · have CL := Lib.hid (fun w' (k' : RM F w' b code inp s) => refLogic_ok b code inp s ⟨op, k, n, t⟩ w' k' hE HOP.out)
    rw [hE]
    have HE := Lib.hid hE
    clear hE
    go_enter Try.func35, Try.ntmps35
    go_wp2_with fail
    refine (CL.out _ R1.out).mono ?_
    rintro e w2 ⟨rfl, hr, hm⟩
    have R2 := Lib.hid hr
    have M2 := Lib.hid ((Mv.of_nx NX.out b none).trans hm (.inl rfl))
    have q5 := hr.pcCell
    clear hr hm x0 x1 x2 x3
    go_wp2
    go_ret2
    exact ⟨rfl, by rw [HSN.out, if_pos HE.out]; exact R2.out, M2.out⟩
  · have CL := Lib.hid (fun w' (k' : RM F w' b code inp s) => refLogic_no b code inp s ⟨op, k, n, t⟩ w' k' hE)
    have HE := Lib.hid hE
    generalize bitE inp s ⟨op, k, n, t⟩ = E at *
    clear hE
    go_enter Try.func35, Try.ntmps35
    go_wp2_with fail
    refine (CL.out _ R1.out).mono ?_
    rintro e w2 ⟨rfl, hm⟩
    have R2 := Lib.hid (R1.out.nx hm)
    have M2 := Lib.hid (Mv.of_nx (NX.out.trans hm) b none)
    have q5 := R2.out.pcCell
    clear hm x0 x1 x2 x3
    go_wp2
    go_ret2
    exact ⟨rfl, by rw [HSN.out, if_neg HE.out]; exact R2.out, M2.out⟩
end
section
open Go.RowKit
variable {F : Nat → Prop}

theorem bools_app (xs : List Bool) (v : Bool) : bools xs ++ [.bool v] = bools (xs ++ [v]) := by simp [bools]
def seeP (j : Nat) : List Nat := match j with
  | 3 => [2]
  | 4 => [2, 3]
  | 5 => [2, 3, 4]
  | 6 => [1, 2, 3, 4, 5]
  | 8 => [7]
  | 9 => [7, 8]
  | 10 => [7, 8, 9]
  | 11 => [7, 8, 9, 10]
  | 12 => [1, 2, 3, 4, 5, 6, 7, 8, 9, 10, 11]
  | 13 => [0, 1, 2, 3, 4, 5, 6, 7, 8, 9, 10, 11, 12]
  | 14 => [0, 1, 2, 3, 4, 5, 6, 7, 8, 9, 10, 11, 12, 13]
  | 15 => [0, 1, 2, 3, 4, 5, 6, 7, 8, 9, 10, 11, 12, 13, 14]
  | _ => []
def psiP (b B l cs : Nat) (As : Option Addr) (stk : List Bool) (acc : Bool) (j : Nat) (v : Value) (w : World) : Prop := match j with
  | 0 => v = .pointer (some ⟨b, 0, none⟩)
  | 1 => ∃ g, v = .slice (some ⟨g, 0, none⟩) 0 0 ∧ w.ownsRow B 4 1 v 0 []
  | 2 => v = .pointer (some ⟨b, 0, none⟩)
  | 3 => v = .pointer (some ⟨b, 0, none⟩)
  | 4 => v = .pointer (some ⟨b, 7, none⟩)
  | 5 => v = .slice As l cs
  | 6 => Ow w B v stk
  | 7 => v = .pointer (some ⟨b, 0, none⟩)
  | 8 => v = .pointer (some ⟨b, 0, none⟩)
  | 9 => v = .pointer (some ⟨b, 6, none⟩)
  | 10 => v = .bool acc
  | 11 => ∃ g, v = .slice (some ⟨g, 0, none⟩) 1 1 ∧ w.cell? ⟨g, 0, none⟩ = some (.bool acc)
  | _ => False
def psiP2 (b B : Nat) (code : List In4) (inp : List Bool) (s : Mc) (j : Nat) (v : Value) (w : World) : Prop := match j with
  | 0 => v = .pointer (some ⟨b, 0, none⟩)
  | 12 => ∃ g c, v = .slice (some ⟨g, 0, none⟩) (s.stk.length + 1) c ∧ w.ownsRow B 4 1 v (s.stk.length + 1) (bools (s.stk ++ [s.acc]))
  | 13 => v = .pointer (some ⟨b, 0, none⟩)
  | 14 => v = .pointer (some ⟨b, 7, none⟩)
  | 15 => RM F w b code inp { s with stk := s.stk ++ [s.acc] }
  | _ => True

set_option maxHeartbeats 6400000 in
set_option maxRecDepth 100000 in
theorem refDo_push (b : Nat) (code : List In4) (inp : List Bool) (s : Mc) (k n t : Int) (hl : s.stk.length < 64) (hpc : s.pc ≤ 1000000) (w : World) (h : RM F w b code inp s) :
    Calls Try.prog 35 #[.pointer (some ⟨b, 0, none⟩), .agg #[.int .i64 8, .int .i64 k, .int .i64 n, .int .i64 t]] w fun e w' => e = .returned (.tuple #[.int .i64 ((s.pc + 1 : Nat) : Int), .int .i64 0]) ∧ RM F w' b code inp { s with stk := s.stk ++ [s.acc] } ∧ Mv b none w w' := by
  have hbl := h.lt
  have HRM := Lib.hid h
  obtain ⟨Ac, Ai, Aq, Am, Ae, As, cc, ci, cq, cm, ce, cs, hb, _, _, _, _, _, h5⟩ := h
  obtain ⟨i0, hi, hz0, hz1, hz2⟩ := info_parts info4
  have HB := Lib.hid hb
  have H5 := Lib.hid h5
  have NX := Lib.hid (Nx.one w (.cells #[.int .i64 8, .int .i64 k, .int .i64 n, .int .i64 t] 53))
  have HX := Lib.hid (bx_new w 53 [.int .i64 8, .int .i64 k, .int .i64 n, .int .i64 t])
  have HBW := Lib.hid (HB.out.nx NX.out)
  have HFW := Lib.hid ((HRM.out.nx NX.out).lo)
  have x0 := HX.out.cell 0 rfl
  have c7 := HBW.out.cell 7 rfl
  have hl' : ¬ (64 : Int) ≤ (s.stk.length : Int) := by omega
  clear hb h5
  go_enter Try.func35, Try.ntmps35
  go_upto_block 0 with fail
  generalize w.alloc (.cells #[.int .i64 8, .int .i64 k, .int .i64 n, .int .i64 t] 53) = W at *
  generalize w.heap.size = g at *
  have hbW : b < W.heap.size := HBW.out.lt
  go_cut [6] (fun c wx => c = .int .i64 0 ∧ RM F wx b code inp { s with stk := s.stk ++ [s.acc] } ∧ Mv b none W wx)
  case first =>
    go_wp2_with fail
    refine wp_region_two (by kernel_rfl) (by kernel_rfl) (by kernel_rfl) seeP (by kernel_rfl) 12 (by decide) (psiP b W.heap.size s.stk.length cs As s.stk s.acc) (psiP2 (F := F) b W.heap.size code inp s) (fun w1 => Mv b none W w1 ∧ ∃ xs, RM F w1 b code inp { s with stk := xs }) ?_ ?_ ?_ ?_ ?_
    · intro j v u u' k hp
      unfold psiP at hp ⊢
      split at hp
      case h_2 => obtain ⟨g, e, ho⟩ := hp; exact ⟨g, e, Ow.nx (xs := []) ho k⟩
      case h_7 => exact Ow.nx hp k
      case h_12 => obtain ⟨g, e, hc⟩ := hp; exact ⟨g, e, k.cell hc⟩
      all_goals exact hp
    · intro i o hi12 hsee ho a1 w1 K hF hR hE hK
      have f0 : a1.tmps[0]?.getD undef = .pointer (some ⟨b, 0, none⟩) := tmp_of (hF.2.2 0 (by kernel_rfl))
      have d7 := (HBW.out.nx hR).cell 7 rfl
      have d6 := (HBW.out.nx hR).cell 6 rfl
      have hsz := hR.size
      rcases i with _ | _ | _ | _ | _ | _ | _ | _ | _ | _ | _ | _ | _ | _ | _ | _ | i
      · obtain rfl := Option.some.inj ho
        have hK0 := Lib.hid hK
        clear hK hE hF
        unfold Oper.wp
        go_simp
        exact hK0.out _ _ (Nx.refl _) rfl (fun h => by cases h)
      · obtain rfl := Option.some.inj ho
        have hK0 := Lib.hid hK
        clear hK hE hF
        unfold Oper.wp
        go_simp
        exact hK0.out _ _ (Nx.one _ _) ⟨_, rfl, own_low (World.ownsRow_lit (base := w1.heap.size) (e := 4) (size := 1) w1 #[] 0 (Nat.le_refl _) (by unfold maxLen; omega) rfl) hsz⟩ (fun h => by cases h)
      · obtain rfl := Option.some.inj ho
        have hK0 := Lib.hid hK
        clear hK hE hF
        unfold Oper.wp
        go_simp
        exact hK0.out _ _ (Nx.refl _) rfl (fun h => by cases h)
      · obtain rfl := Option.some.inj ho
        have e2 : a1.tmps[43]?.getD undef = .pointer (some ⟨b, 0, none⟩) := tmp_of (show a1.tmps.getD 43 undef = _ from hE ⟨2, .data⟩ (by simp) rfl)
        have hK0 := Lib.hid hK
        clear hK hE hF
        unfold Oper.wp
        go_simp
        exact hK0.out _ _ (Nx.refl _) rfl (fun h => by cases h)
      · obtain rfl := Option.some.inj ho
        have e3 : a1.tmps[44]?.getD undef = .pointer (some ⟨b, 0, none⟩) := tmp_of (show a1.tmps.getD 44 undef = _ from hE ⟨3, .data⟩ (by simp) rfl)
        have hK0 := Lib.hid hK
        clear hK hE hF
        unfold Oper.wp
        go_simp
        exact hK0.out _ _ (Nx.refl _) rfl (fun h => by cases h)
      · obtain rfl := Option.some.inj ho
        have e4 : a1.tmps[45]?.getD undef = .pointer (some ⟨b, 7, none⟩) := tmp_of (show a1.tmps.getD 45 undef = _ from hE ⟨4, .data⟩ (by simp) rfl)
        have hK0 := Lib.hid hK
        clear hK hE hF
        unfold Oper.wp
        go_simp
        exact hK0.out _ _ (Nx.refl _) rfl (fun h => by cases h)
      · obtain rfl := Option.some.inj ho
        obtain ⟨g, e1, ho1⟩ : ∃ g, a1.tmps.getD 42 undef = .slice (some ⟨g, 0, none⟩) 0 0 ∧ w1.ownsRow W.heap.size 4 1 (a1.tmps.getD 42 undef) 0 [] := hE ⟨1, .data⟩ (by simp) rfl
        rw [e1] at ho1
        have e2 : a1.tmps.getD 46 undef = .slice As s.stk.length cs := hE ⟨5, .data⟩ (by simp) rfl
        exact wp_fresh (.tmp 42) (.tmp 46) rfl W.heap.size g e1 ho1 hsz As s.stk.length cs s.stk e2 ((H5.out.1.1.nx NX.out).nx hR) (by omega) (fun v w2 hn hw _ => hK v w2 hn hw (fun h => by cases h))
      · obtain rfl := Option.some.inj ho
        have hK0 := Lib.hid hK
        clear hK hE hF
        unfold Oper.wp
        go_simp
        exact hK0.out _ _ (Nx.refl _) rfl (fun h => by cases h)
      · obtain rfl := Option.some.inj ho
        have e7 : a1.tmps[48]?.getD undef = .pointer (some ⟨b, 0, none⟩) := tmp_of (show a1.tmps.getD 48 undef = _ from hE ⟨7, .data⟩ (by simp) rfl)
        have hK0 := Lib.hid hK
        clear hK hE hF
        unfold Oper.wp
        go_simp
        exact hK0.out _ _ (Nx.refl _) rfl (fun h => by cases h)
      · obtain rfl := Option.some.inj ho
        have e8 : a1.tmps[49]?.getD undef = .pointer (some ⟨b, 0, none⟩) := tmp_of (show a1.tmps.getD 49 undef = _ from hE ⟨8, .data⟩ (by simp) rfl)
        have hK0 := Lib.hid hK
        clear hK hE hF
        unfold Oper.wp
        go_simp
        exact hK0.out _ _ (Nx.refl _) rfl (fun h => by cases h)
      · obtain rfl := Option.some.inj ho
        have e9 : a1.tmps[50]?.getD undef = .pointer (some ⟨b, 6, none⟩) := tmp_of (show a1.tmps.getD 50 undef = _ from hE ⟨9, .data⟩ (by simp) rfl)
        have hK0 := Lib.hid hK
        clear hK hE hF
        unfold Oper.wp
        go_simp
        exact hK0.out _ _ (Nx.refl _) rfl (fun h => by cases h)
      · obtain rfl := Option.some.inj ho
        have e10 : a1.tmps[51]?.getD undef = .bool s.acc := tmp_of (show a1.tmps.getD 51 undef = _ from hE ⟨10, .data⟩ (by simp) rfl)
        have hK0 := Lib.hid hK
        clear hK hE hF
        unfold Oper.wp
        go_simp
        exact hK0.out _ _ (Nx.one _ _) ⟨_, rfl, (new_one w1 (.bool s.acc) 4) 0 _ rfl⟩ (fun h => by cases h)
      · exact absurd rfl hi12
      · exact absurd (by decide) hsee
      · exact absurd (by decide) hsee
      · exact absurd (by decide) hsee
      · cases ho
    · intro o ho a1 w1 K hF hR hE hK
      obtain rfl := Option.some.inj ho
      obtain ⟨v6, hv6⟩ : ∃ v6, a1.tmps.getD 47 undef = v6 := ⟨_, rfl⟩
      have o6 : Ow w1 W.heap.size v6 s.stk := hv6 ▸ (show Ow w1 W.heap.size (a1.tmps.getD 47 undef) s.stk from hE ⟨6, .data⟩ (by simp) rfl)
      obtain ⟨g, e11, hc11⟩ : ∃ g, a1.tmps.getD 52 undef = .slice (some ⟨g, 0, none⟩) 1 1 ∧ w1.cell? ⟨g, 0, none⟩ = some (.bool s.acc) := hE ⟨11, .data⟩ (by simp) rfl
      refine wp_append_lies w1 (.tmp 47) (.tmp 52) 23 rfl W.heap.size 4 i0 (.bool false) 1 1 Try.underlying23 hi hz0 hz1 hz2 rfl (by decide) v6 s.stk.length (bools s.stk) hv6 o6 ⟨g, 0, none⟩ 1 1 [.bool s.acc] e11 rfl ?_ (by simp [Value.oneCell']) (by decide) (by unfold maxLen; omega) (by omega) hR.size _ rfl ?_
      · intro j u hj
        match j, hj with
        | 0, hj => simp at hj; subst hj; simpa [Addr.add] using hc11
      · intro g2 c2 w2 ho2 hg2 _ _
        have hn2 : Nx W w2 := grown_nx hR hg2 o6 (Nat.le_refl _)
        refine hK _ w2 ⟨Mv.of_nx hn2 b none, s.stk, HRM.out.nx (NX.out.trans hn2)⟩ ⟨g2, c2, rfl, ?_⟩ (fun j v' hp => ?_) (fun h => by cases h)
        · rw [← bools_app]; exact ho2
        · unfold psiP at hp
          unfold psiP2
          split at hp
          case h_1 => exact hp
          case h_13 => exact hp.elim
          all_goals trivial
    · intro i o hi12 hsee ho a1 w1 K hF hJ hE hK
      have f0 : a1.tmps[0]?.getD undef = .pointer (some ⟨b, 0, none⟩) := tmp_of (hF.2.2 0 (by kernel_rfl))
      rcases i with _ | _ | _ | _ | _ | _ | _ | _ | _ | _ | _ | _ | _ | _ | _ | _ | i
      · obtain rfl := Option.some.inj ho
        have hK0 := Lib.hid hK
        have hJ0 := Lib.hid hJ
        clear hK hE hF hJ
        unfold Oper.wp
        go_simp
        exact hK0.out _ _ hJ0.out rfl (fun _ _ _ h => h) (fun h => by cases h)
      · exact absurd (by decide) hsee
      · exact absurd (by decide) hsee
      · exact absurd (by decide) hsee
      · exact absurd (by decide) hsee
      · exact absurd (by decide) hsee
      · exact absurd (by decide) hsee
      · exact absurd (by decide) hsee
      · exact absurd (by decide) hsee
      · exact absurd (by decide) hsee
      · exact absurd (by decide) hsee
      · exact absurd (by decide) hsee
      · exact absurd rfl hi12
      · obtain rfl := Option.some.inj ho
        have e0 : a1.tmps[41]?.getD undef = .pointer (some ⟨b, 0, none⟩) := tmp_of (show a1.tmps.getD 41 undef = _ from hE ⟨0, .data⟩ (by simp) rfl)
        have hK0 := Lib.hid hK
        have hJ0 := Lib.hid hJ
        clear hK hE hF hJ
        unfold Oper.wp
        go_simp
        exact hK0.out _ _ hJ0.out rfl (fun _ _ _ h => h) (fun h => by cases h)
      · obtain rfl := Option.some.inj ho
        have e13 : a1.tmps[54]?.getD undef = .pointer (some ⟨b, 0, none⟩) := tmp_of (show a1.tmps.getD 54 undef = _ from hE ⟨13, .data⟩ (by simp) rfl)
        have hK0 := Lib.hid hK
        have hJ0 := Lib.hid hJ
        clear hK hE hF hJ
        unfold Oper.wp
        go_simp
        exact hK0.out _ _ hJ0.out rfl (fun _ _ _ h => h) (fun h => by cases h)
      · obtain rfl := Option.some.inj ho
        have e14 : a1.tmps[55]?.getD undef = .pointer (some ⟨b, 7, none⟩) := tmp_of (show a1.tmps.getD 55 undef = _ from hE ⟨14, .data⟩ (by simp) rfl)
        obtain ⟨v, hv⟩ : ∃ v, a1.tmps.getD 53 undef = v := ⟨_, rfl⟩
        have p12 : ∃ g c, v = .slice (some ⟨g, 0, none⟩) (s.stk.length + 1) c ∧ w1.ownsRow W.heap.size 4 1 v (s.stk.length + 1) (bools (s.stk ++ [s.acc])) := hv ▸ (show ∃ g c, a1.tmps.getD 53 undef = .slice (some ⟨g, 0, none⟩) (s.stk.length + 1) c ∧ w1.ownsRow W.heap.size 4 1 (a1.tmps.getD 53 undef) (s.stk.length + 1) (bools (s.stk ++ [s.acc])) from hE ⟨12, .data⟩ (by simp) rfl)
        obtain ⟨g, c, rfl, ho12⟩ := p12
        have e12 := tmp_of hv
        obtain ⟨hM, xs, hRx⟩ := hJ
        have hx := hRx
        obtain ⟨_, _, _, _, _, A, _, _, _, _, _, cx, hbx, _⟩ := hx
        have q7 := hbx.cell 7 rfl
        have r7 := hbx.frozen 7
        have hgB := (World.ownsRow.lt ho12 g rfl).1
        have hlen : (s.stk ++ [s.acc]).length = s.stk.length + 1 := by simp
        have hob : OwB w1 W.heap.size g c (s.stk ++ [s.acc]) := by unfold OwB; rw [hlen]; exact ho12
        have HF := Lib.hid (hRx.setStk (some ⟨g, 0, none⟩) c (s.stk.length + 1) (s.stk ++ [s.acc]) hlen ⟨⟨hob.im rfl, fun _ ad e => (by obtain rfl := Option.some.inj e; show g ≠ b; omega), fun _ ad e hk => by obtain rfl := Option.some.inj e; exact absurd (Nat.lt_of_lt_of_le (HFW.out _ hk) hgB) (Nat.lt_irrefl _)⟩, (by rw [hlen]; exact own_cap ho12), hRx.lo⟩)
        have HM := Lib.hid (hM.set 7 (.slice (some ⟨g, 0, none⟩) (s.stk.length + 1) c))
        have hK0 := Lib.hid hK
        clear hK hE hF hM hRx hbx ho12 hob
        unfold Oper.wp
        go_simp
        refine hK0.out _ _ ⟨HM.out, _, HF.out⟩ HF.out (fun j v' hj hp => ?_) (fun _ => rfl)
        unfold psiP2 at hp ⊢
        split at hp
        case h_2 => obtain ⟨g', c', e, ho'⟩ := hp; exact ⟨g', c', e, own_of ho' (fun g1 hg1 _ => Deep.blk_setCell_other _ _ _ g1 (by have := (World.ownsRow.lt ho' g1 hg1).1; show g1 ≠ b; omega))⟩
        case h_5 => exact absurd rfl hj
        all_goals exact hp
      · cases ho
    · intro a1 w1 hF hJ hp
      have hR : RM F w1 b code inp { s with stk := s.stk ++ [s.acc] } := hp 15 (by decide)
      have hM := hJ.1
      rw [hF.eq (by kernel_rfl)]
      generalize view _ a1 = vv
      clear hp hF hJ
      simp only [putN, Act.put, List.size_toArray, List.length_cons, List.length_nil, Nat.reduceAdd, List.getElem?_toArray, List.getElem?_cons_zero, List.getElem?_cons_succ, Option.bind_some, List.setIfInBounds_toArray, List.set_cons_zero, List.set_cons_succ]
      go_wp2_with fail
      go_meet
      exact ⟨rfl, hR, hM⟩
  case rest =>
    obtain ⟨rfl, hR, hM⟩ := hcut
    have HR := Lib.hid hR
    have HM := Lib.hid ((Mv.of_nx NX.out b none).trans hM (.inl rfl))
    obtain ⟨_, _, _, _, _, _, _, _, _, _, _, _, hbx, _⟩ := hR
    have q5 : wc.cell? ⟨b, 5, none⟩ = some (.int .i64 (s.pc : Int)) := hbx.cell 5 rfl
    clear hM hbx x0 c7
    go_wp2
    go_ret2
    exact ⟨rfl, HR.out, HM.out⟩
end
section
open Go.RowKit
variable {F : Nat → Prop}

set_option maxHeartbeats 1600000 in
set_option maxRecDepth 100000 in
theorem refDo_edge6_no (b : Nat) (code : List In4) (inp : List Bool) (s : Mc) (k n t : Int) (hE : bitE inp s ⟨6, k, n, t⟩ ≠ 0) (_hpc : s.pc ≤ 1000000) (w : World) (h : RM F w b code inp s) :
    Calls Try.prog 35 #[.pointer (some ⟨b, 0, none⟩), .agg #[.int .i64 6, .int .i64 k, .int .i64 n, .int .i64 t]] w
      (DoPost (F := F) b code inp s s ((s.pc : Int) + 1) (bitE inp s ⟨6, k, n, t⟩) w) := by
  have hbl := h.lt
  have NX := Lib.hid (Nx.one w (.cells #[.int .i64 6, .int .i64 k, .int .i64 n, .int .i64 t] 53))
  have HX := Lib.hid (bx_new w 53 [.int .i64 6, .int .i64 k, .int .i64 n, .int .i64 t])
  have R1 := Lib.hid (h.nx NX.out)
  have x0 := HX.out.cell 0 rfl
  have x1 := HX.out.cell 1 rfl
  have x2 := HX.out.cell 2 rfl
  have x3 := HX.out.cell 3 rfl
  have CL := Lib.hid (fun w' (k' : RM F w' b code inp s) => refEdge_no b code inp s ⟨6, k, n, t⟩ w' k' hE)
  have e0 : bitE inp s ⟨6, k, n, t⟩ ≠ 0 := hE
  generalize bitE inp s ⟨6, k, n, t⟩ = E at *
  clear hE
  clear h
  go_enter Try.func35, Try.ntmps35
  go_wp2_with fail
  refine (CL.out _ R1.out).mono ?_
  rintro e w2 ⟨rfl, hm⟩
  have R2 := Lib.hid (R1.out.nx hm)
  have M2 := Lib.hid (Mv.of_nx (NX.out.trans hm) b none)
  have q5 := R2.out.pcCell
  clear hm x0 x1 x2 x3
  go_wp2
  go_ret2
  exact ⟨rfl, R2.out, M2.out⟩

set_option maxHeartbeats 1600000 in
set_option maxRecDepth 100000 in
theorem refDo_edge6_range (b : Nat) (code : List In4) (inp : List Bool) (s : Mc) (k n t : Int) (hE : bitE inp s ⟨6, k, n, t⟩ = 0) (ht : t < 0 ∨ (¬ t < 0 ∧ (s.e.length : Int) ≤ t)) (_hpc : s.pc ≤ 1000000) (w : World) (h : RM F w b code inp s) :
    Calls Try.prog 35 #[.pointer (some ⟨b, 0, none⟩), .agg #[.int .i64 6, .int .i64 k, .int .i64 n, .int .i64 t]] w
      (DoPost (F := F) b code inp s s ((s.pc : Int) + 1) 3 w) := by
  have hbl := h.lt
  have NX := Lib.hid (Nx.one w (.cells #[.int .i64 6, .int .i64 k, .int .i64 n, .int .i64 t] 53))
  have HX := Lib.hid (bx_new w 53 [.int .i64 6, .int .i64 k, .int .i64 n, .int .i64 t])
  have R1 := Lib.hid (h.nx NX.out)
  have x0 := HX.out.cell 0 rfl
  have x1 := HX.out.cell 1 rfl
  have x2 := HX.out.cell 2 rfl
  have x3 := HX.out.cell 3 rfl
  have CL := Lib.hid (fun w' (k' : RM F w' b code inp s) => refEdge_range b code inp s ⟨6, k, n, t⟩ w' k' hE ht)
  clear hE ht
  clear h
  go_enter Try.func35, Try.ntmps35
  go_wp2_with fail
  refine (CL.out _ R1.out).mono ?_
  rintro e w2 ⟨rfl, hm⟩
  have R2 := Lib.hid (R1.out.nx hm)
  have M2 := Lib.hid (Mv.of_nx (NX.out.trans hm) b none)
  have q5 := R2.out.pcCell
  clear hm x0 x1 x2 x3
  go_wp2
  go_ret2
  exact ⟨rfl, R2.out, M2.out⟩

set_option maxHeartbeats 1600000 in
set_option maxRecDepth 100000 in
theorem refDo_edge6_ok (b : Nat) (code : List In4) (inp : List Bool) (s : Mc) (k n t : Int) (p : Nat) (hE : bitE inp s ⟨6, k, n, t⟩ = 0) (hp : t = (p : Int)) (hpl : p < s.e.length) (hle : s.e.length ≤ 1000000) (_hpc : s.pc ≤ 1000000) (w : World) (h : RM F w b code inp s) :
    Calls Try.prog 35 #[.pointer (some ⟨b, 0, none⟩), .agg #[.int .i64 6, .int .i64 k, .int .i64 n, .int .i64 t]] w
      (DoPost (F := F) b code inp s { s with acc := edA 6 (bitV inp s ⟨6, k, n, t⟩) (s.e.getD p false), e := s.e.set p (bitV inp s ⟨6, k, n, t⟩) } ((s.pc : Int) + 1) 0 w) := by
  have hbl := h.lt
  have NX := Lib.hid (Nx.one w (.cells #[.int .i64 6, .int .i64 k, .int .i64 n, .int .i64 t] 53))
  have HX := Lib.hid (bx_new w 53 [.int .i64 6, .int .i64 k, .int .i64 n, .int .i64 t])
  have R1 := Lib.hid (h.nx NX.out)
  have x0 := HX.out.cell 0 rfl
  have x1 := HX.out.cell 1 rfl
  have x2 := HX.out.cell 2 rfl
  have x3 := HX.out.cell 3 rfl
  have CL := Lib.hid (fun w' (k' : RM F w' b code inp s) => refEdge_ok b code inp s ⟨6, k, n, t⟩ w' k' hE (Or.inl rfl) p hp hpl hle)
  clear hE hp hpl hle
  clear h
  go_enter Try.func35, Try.ntmps35
  go_wp2_with fail
  refine (CL.out _ R1.out).mono ?_
  rintro e w2 ⟨rfl, hr, hm⟩
  have R2 := Lib.hid hr
  have M2 := Lib.hid ((Mv.of_nx NX.out b none).trans hm (.inl rfl))
  clear hr
  have q5 := R2.out.pcCell
  clear hm x0 x1 x2 x3
  go_wp2
  go_ret2
  exact ⟨rfl, R2.out, M2.out⟩

set_option maxHeartbeats 1600000 in
set_option maxRecDepth 100000 in
theorem refDo_edge7_no (b : Nat) (code : List In4) (inp : List Bool) (s : Mc) (k n t : Int) (hE : bitE inp s ⟨7, k, n, t⟩ ≠ 0) (_hpc : s.pc ≤ 1000000) (w : World) (h : RM F w b code inp s) :
    Calls Try.prog 35 #[.pointer (some ⟨b, 0, none⟩), .agg #[.int .i64 7, .int .i64 k, .int .i64 n, .int .i64 t]] w
      (DoPost (F := F) b code inp s s ((s.pc : Int) + 1) (bitE inp s ⟨7, k, n, t⟩) w) := by
  have hbl := h.lt
  have NX := Lib.hid (Nx.one w (.cells #[.int .i64 7, .int .i64 k, .int .i64 n, .int .i64 t] 53))
  have HX := Lib.hid (bx_new w 53 [.int .i64 7, .int .i64 k, .int .i64 n, .int .i64 t])
  have R1 := Lib.hid (h.nx NX.out)
  have x0 := HX.out.cell 0 rfl
  have x1 := HX.out.cell 1 rfl
  have x2 := HX.out.cell 2 rfl
  have x3 := HX.out.cell 3 rfl
  have CL := Lib.hid (fun w' (k' : RM F w' b code inp s) => refEdge_no b code inp s ⟨7, k, n, t⟩ w' k' hE)
  have e0 : bitE inp s ⟨7, k, n, t⟩ ≠ 0 := hE
  generalize bitE inp s ⟨7, k, n, t⟩ = E at *
  clear hE
  clear h
  go_enter Try.func35, Try.ntmps35
  go_wp2_with fail
  refine (CL.out _ R1.out).mono ?_
  rintro e w2 ⟨rfl, hm⟩
  have R2 := Lib.hid (R1.out.nx hm)
  have M2 := Lib.hid (Mv.of_nx (NX.out.trans hm) b none)
  have q5 := R2.out.pcCell
  clear hm x0 x1 x2 x3
  go_wp2
  go_ret2
  exact ⟨rfl, R2.out, M2.out⟩

set_option maxHeartbeats 1600000 in
set_option maxRecDepth 100000 in
theorem refDo_edge7_range (b : Nat) (code : List In4) (inp : List Bool) (s : Mc) (k n t : Int) (hE : bitE inp s ⟨7, k, n, t⟩ = 0) (ht : t < 0 ∨ (¬ t < 0 ∧ (s.e.length : Int) ≤ t)) (_hpc : s.pc ≤ 1000000) (w : World) (h : RM F w b code inp s) :
    Calls Try.prog 35 #[.pointer (some ⟨b, 0, none⟩), .agg #[.int .i64 7, .int .i64 k, .int .i64 n, .int .i64 t]] w
      (DoPost (F := F) b code inp s s ((s.pc : Int) + 1) 3 w) := by
  have hbl := h.lt
  have NX := Lib.hid (Nx.one w (.cells #[.int .i64 7, .int .i64 k, .int .i64 n, .int .i64 t] 53))
  have HX := Lib.hid (bx_new w 53 [.int .i64 7, .int .i64 k, .int .i64 n, .int .i64 t])
  have R1 := Lib.hid (h.nx NX.out)
  have x0 := HX.out.cell 0 rfl
  have x1 := HX.out.cell 1 rfl
  have x2 := HX.out.cell 2 rfl
  have x3 := HX.out.cell 3 rfl
  have CL := Lib.hid (fun w' (k' : RM F w' b code inp s) => refEdge_range b code inp s ⟨7, k, n, t⟩ w' k' hE ht)
  clear hE ht
  clear h
  go_enter Try.func35, Try.ntmps35
  go_wp2_with fail
  refine (CL.out _ R1.out).mono ?_
  rintro e w2 ⟨rfl, hm⟩
  have R2 := Lib.hid (R1.out.nx hm)
  have M2 := Lib.hid (Mv.of_nx (NX.out.trans hm) b none)
  have q5 := R2.out.pcCell
  clear hm x0 x1 x2 x3
  go_wp2
  go_ret2
  exact ⟨rfl, R2.out, M2.out⟩

set_option maxHeartbeats 1600000 in
set_option maxRecDepth 100000 in
theorem refDo_edge7_ok (b : Nat) (code : List In4) (inp : List Bool) (s : Mc) (k n t : Int) (p : Nat) (hE : bitE inp s ⟨7, k, n, t⟩ = 0) (hp : t = (p : Int)) (hpl : p < s.e.length) (hle : s.e.length ≤ 1000000) (_hpc : s.pc ≤ 1000000) (w : World) (h : RM F w b code inp s) :
    Calls Try.prog 35 #[.pointer (some ⟨b, 0, none⟩), .agg #[.int .i64 7, .int .i64 k, .int .i64 n, .int .i64 t]] w
      (DoPost (F := F) b code inp s { s with acc := edA 7 (bitV inp s ⟨7, k, n, t⟩) (s.e.getD p false), e := s.e.set p (bitV inp s ⟨7, k, n, t⟩) } ((s.pc : Int) + 1) 0 w) := by
  have hbl := h.lt
  have NX := Lib.hid (Nx.one w (.cells #[.int .i64 7, .int .i64 k, .int .i64 n, .int .i64 t] 53))
  have HX := Lib.hid (bx_new w 53 [.int .i64 7, .int .i64 k, .int .i64 n, .int .i64 t])
  have R1 := Lib.hid (h.nx NX.out)
  have x0 := HX.out.cell 0 rfl
  have x1 := HX.out.cell 1 rfl
  have x2 := HX.out.cell 2 rfl
  have x3 := HX.out.cell 3 rfl
  have CL := Lib.hid (fun w' (k' : RM F w' b code inp s) => refEdge_ok b code inp s ⟨7, k, n, t⟩ w' k' hE (Or.inr rfl) p hp hpl hle)
  clear hE hp hpl hle
  clear h
  go_enter Try.func35, Try.ntmps35
  go_wp2_with fail
  refine (CL.out _ R1.out).mono ?_
  rintro e w2 ⟨rfl, hr, hm⟩
  have R2 := Lib.hid hr
  have M2 := Lib.hid ((Mv.of_nx NX.out b none).trans hm (.inl rfl))
  clear hr
  have q5 := R2.out.pcCell
  clear hm x0 x1 x2 x3
  go_wp2
  go_ret2
  exact ⟨rfl, R2.out, M2.out⟩

set_option maxHeartbeats 1600000 in
set_option maxRecDepth 100000 in
theorem refDo_push_full (b : Nat) (code : List In4) (inp : List Bool) (s : Mc) (k n t : Int) (hl : 64 ≤ s.stk.length) (_hpc : s.pc ≤ 1000000) (w : World) (h : RM F w b code inp s) :
    Calls Try.prog 35 #[.pointer (some ⟨b, 0, none⟩), .agg #[.int .i64 8, .int .i64 k, .int .i64 n, .int .i64 t]] w
      (DoPost (F := F) b code inp s s 0 10 w) := by
  have hbl := h.lt
  have NX := Lib.hid (Nx.one w (.cells #[.int .i64 8, .int .i64 k, .int .i64 n, .int .i64 t] 53))
  have HX := Lib.hid (bx_new w 53 [.int .i64 8, .int .i64 k, .int .i64 n, .int .i64 t])
  have R1 := Lib.hid (h.nx NX.out)
  have x0 := HX.out.cell 0 rfl
  have x1 := HX.out.cell 1 rfl
  have x2 := HX.out.cell 2 rfl
  have x3 := HX.out.cell 3 rfl
  obtain ⟨A7, c7, d7⟩ := R1.out.stkCell
  have hl' : (64 : Int) ≤ (s.stk.length : Int) := by omega
  generalize s.stk.length = l at *
  clear h
  go_enter Try.func35, Try.ntmps35
  go_wp2
  go_ret2
  exact ⟨rfl, R1.out, Mv.of_nx NX.out b none⟩

set_option maxHeartbeats 1600000 in
set_option maxRecDepth 100000 in
theorem refDo_pop9_none (b : Nat) (code : List In4) (inp : List Bool) (s : Mc) (k n t : Int) (hs : s.stk.length = 0) (_hpc : s.pc ≤ 1000000) (w : World) (h : RM F w b code inp s) :
    Calls Try.prog 35 #[.pointer (some ⟨b, 0, none⟩), .agg #[.int .i64 9, .int .i64 k, .int .i64 n, .int .i64 t]] w
      (DoPost (F := F) b code inp s s ((s.pc : Int) + 1) 18 w) := by
  have hbl := h.lt
  have NX := Lib.hid (Nx.one w (.cells #[.int .i64 9, .int .i64 k, .int .i64 n, .int .i64 t] 53))
  have HX := Lib.hid (bx_new w 53 [.int .i64 9, .int .i64 k, .int .i64 n, .int .i64 t])
  have R1 := Lib.hid (h.nx NX.out)
  have x0 := HX.out.cell 0 rfl
  have x1 := HX.out.cell 1 rfl
  have x2 := HX.out.cell 2 rfl
  have x3 := HX.out.cell 3 rfl
  have CL := Lib.hid (fun w' (k' : RM F w' b code inp s) => refVPop_none b code inp s ⟨9, k, n, t⟩ w' k' hs)
  clear hs
  clear h
  go_enter Try.func35, Try.ntmps35
  go_wp2_with fail
  refine (CL.out _ R1.out).mono ?_
  rintro e w2 ⟨rfl, hm⟩
  have R2 := Lib.hid (R1.out.nx hm)
  have M2 := Lib.hid (Mv.of_nx (NX.out.trans hm) b none)
  have q5 := R2.out.pcCell
  clear hm x0 x1 x2 x3
  go_wp2
  go_ret2
  exact ⟨rfl, R2.out, M2.out⟩

set_option maxHeartbeats 1600000 in
set_option maxRecDepth 100000 in
theorem refDo_pop9_ok (b : Nat) (code : List In4) (inp : List Bool) (s : Mc) (k n t : Int) (xs : List Bool) (v : Bool) (hs : s.stk = xs ++ [v]) (hl : xs.length ≤ 1000000) (_hpc : s.pc ≤ 1000000) (w : World) (h : RM F w b code inp s) :
    Calls Try.prog 35 #[.pointer (some ⟨b, 0, none⟩), .agg #[.int .i64 9, .int .i64 k, .int .i64 n, .int .i64 t]] w
      (DoPost (F := F) b code inp s { s with stk := xs, acc := (v && s.acc) } ((s.pc : Int) + 1) 0 w) := by
  have hbl := h.lt
  have NX := Lib.hid (Nx.one w (.cells #[.int .i64 9, .int .i64 k, .int .i64 n, .int .i64 t] 53))
  have HX := Lib.hid (bx_new w 53 [.int .i64 9, .int .i64 k, .int .i64 n, .int .i64 t])
  have R1 := Lib.hid (h.nx NX.out)
  have x0 := HX.out.cell 0 rfl
  have x1 := HX.out.cell 1 rfl
  have x2 := HX.out.cell 2 rfl
  have x3 := HX.out.cell 3 rfl
  have CL := Lib.hid (fun w' (k' : RM F w' b code inp s) => refVPop_ok b code inp s ⟨9, k, n, t⟩ (Or.inl rfl) xs v hs hl w' k')
  clear hs hl
  clear h
  go_enter Try.func35, Try.ntmps35
  go_wp2_with fail
  refine (CL.out _ R1.out).mono ?_
  rintro e w2 ⟨rfl, hr, hm⟩
  have R2 := Lib.hid hr
  have M2 := Lib.hid ((Mv.of_nx NX.out b none).trans hm (.inl rfl))
  clear hr
  have q5 := R2.out.pcCell
  clear hm x0 x1 x2 x3
  go_wp2
  go_ret2
  exact ⟨rfl, R2.out, M2.out⟩

set_option maxHeartbeats 1600000 in
set_option maxRecDepth 100000 in
theorem refDo_pop10_none (b : Nat) (code : List In4) (inp : List Bool) (s : Mc) (k n t : Int) (hs : s.stk.length = 0) (_hpc : s.pc ≤ 1000000) (w : World) (h : RM F w b code inp s) :
    Calls Try.prog 35 #[.pointer (some ⟨b, 0, none⟩), .agg #[.int .i64 10, .int .i64 k, .int .i64 n, .int .i64 t]] w
      (DoPost (F := F) b code inp s s ((s.pc : Int) + 1) 18 w) := by
  have hbl := h.lt
  have NX := Lib.hid (Nx.one w (.cells #[.int .i64 10, .int .i64 k, .int .i64 n, .int .i64 t] 53))
  have HX := Lib.hid (bx_new w 53 [.int .i64 10, .int .i64 k, .int .i64 n, .int .i64 t])
  have R1 := Lib.hid (h.nx NX.out)
  have x0 := HX.out.cell 0 rfl
  have x1 := HX.out.cell 1 rfl
  have x2 := HX.out.cell 2 rfl
  have x3 := HX.out.cell 3 rfl
  have CL := Lib.hid (fun w' (k' : RM F w' b code inp s) => refVPop_none b code inp s ⟨10, k, n, t⟩ w' k' hs)
  clear hs
  clear h
  go_enter Try.func35, Try.ntmps35
  go_wp2_with fail
  refine (CL.out _ R1.out).mono ?_
  rintro e w2 ⟨rfl, hm⟩
  have R2 := Lib.hid (R1.out.nx hm)
  have M2 := Lib.hid (Mv.of_nx (NX.out.trans hm) b none)
  have q5 := R2.out.pcCell
  clear hm x0 x1 x2 x3
  go_wp2
  go_ret2
  exact ⟨rfl, R2.out, M2.out⟩

set_option maxHeartbeats 1600000 in
set_option maxRecDepth 100000 in
theorem refDo_pop10_ok (b : Nat) (code : List In4) (inp : List Bool) (s : Mc) (k n t : Int) (xs : List Bool) (v : Bool) (hs : s.stk = xs ++ [v]) (hl : xs.length ≤ 1000000) (_hpc : s.pc ≤ 1000000) (w : World) (h : RM F w b code inp s) :
    Calls Try.prog 35 #[.pointer (some ⟨b, 0, none⟩), .agg #[.int .i64 10, .int .i64 k, .int .i64 n, .int .i64 t]] w
      (DoPost (F := F) b code inp s { s with stk := xs, acc := (v || s.acc) } ((s.pc : Int) + 1) 0 w) := by
  have hbl := h.lt
  have NX := Lib.hid (Nx.one w (.cells #[.int .i64 10, .int .i64 k, .int .i64 n, .int .i64 t] 53))
  have HX := Lib.hid (bx_new w 53 [.int .i64 10, .int .i64 k, .int .i64 n, .int .i64 t])
  have R1 := Lib.hid (h.nx NX.out)
  have x0 := HX.out.cell 0 rfl
  have x1 := HX.out.cell 1 rfl
  have x2 := HX.out.cell 2 rfl
  have x3 := HX.out.cell 3 rfl
  have CL := Lib.hid (fun w' (k' : RM F w' b code inp s) => refVPop_ok b code inp s ⟨10, k, n, t⟩ (Or.inr rfl) xs v hs hl w' k')
  clear hs hl
  clear h
  go_enter Try.func35, Try.ntmps35
  go_wp2_with fail
  refine (CL.out _ R1.out).mono ?_
  rintro e w2 ⟨rfl, hr, hm⟩
  have R2 := Lib.hid hr
  have M2 := Lib.hid ((Mv.of_nx NX.out b none).trans hm (.inl rfl))
  clear hr
  have q5 := R2.out.pcCell
  clear hm x0 x1 x2 x3
  go_wp2
  go_ret2
  exact ⟨rfl, R2.out, M2.out⟩

set_option maxHeartbeats 1600000 in
set_option maxRecDepth 100000 in
theorem refDo_coil11_no (b : Nat) (code : List In4) (inp : List Bool) (s : Mc) (k n t : Int) (hE : wrE s.q s.m k n ≠ 0) (h1000 : s.q.length ≤ 1000000 ∧ s.m.length ≤ 1000000 ∧ s.e.length ≤ 1000000) (_hpc : s.pc ≤ 1000000) (w : World) (h : RM F w b code inp s) :
    Calls Try.prog 35 #[.pointer (some ⟨b, 0, none⟩), .agg #[.int .i64 11, .int .i64 k, .int .i64 n, .int .i64 t]] w
      (DoPost (F := F) b code inp s s ((s.pc : Int) + 1) (wrE s.q s.m k n) w) := by
  have hbl := h.lt
  have NX := Lib.hid (Nx.one w (.cells #[.int .i64 11, .int .i64 k, .int .i64 n, .int .i64 t] 53))
  have HX := Lib.hid (bx_new w 53 [.int .i64 11, .int .i64 k, .int .i64 n, .int .i64 t])
  have R1 := Lib.hid (h.nx NX.out)
  have x0 := HX.out.cell 0 rfl
  have x1 := HX.out.cell 1 rfl
  have x2 := HX.out.cell 2 rfl
  have x3 := HX.out.cell 3 rfl
  have CL := Lib.hid (fun w' (k' : RM F w' b code inp s) => refCoil_no_11 b code inp s k n t hE h1000 w' k')
  generalize wrE s.q s.m k n = E at *
  clear h1000
  clear h
  go_enter Try.func35, Try.ntmps35
  go_wp2_with fail
  refine (CL.out _ R1.out).mono ?_
  rintro e w2 ⟨rfl, hm⟩
  have R2 := Lib.hid (R1.out.nx hm)
  have M2 := Lib.hid (Mv.of_nx (NX.out.trans hm) b none)
  have q5 := R2.out.pcCell
  clear hm x0 x1 x2 x3
  go_wp2
  go_ret2
  exact ⟨rfl, R2.out, M2.out⟩

set_option maxHeartbeats 1600000 in
set_option maxRecDepth 100000 in
theorem refDo_coil11_ok (b : Nat) (code : List In4) (inp : List Bool) (s : Mc) (k n t : Int) (hE : wrE s.q s.m k n = 0) (h1000 : s.q.length ≤ 1000000 ∧ s.m.length ≤ 1000000 ∧ s.e.length ≤ 1000000) (_hpc : s.pc ≤ 1000000) (w : World) (h : RM F w b code inp s) :
    Calls Try.prog 35 #[.pointer (some ⟨b, 0, none⟩), .agg #[.int .i64 11, .int .i64 k, .int .i64 n, .int .i64 t]] w
      (DoPost (F := F) b code inp s { s with q := wrQ s.q k n s.acc, m := wrM s.m k n s.acc, e := s.e } ((s.pc : Int) + 1) 0 w) := by
  have hbl := h.lt
  have NX := Lib.hid (Nx.one w (.cells #[.int .i64 11, .int .i64 k, .int .i64 n, .int .i64 t] 53))
  have HX := Lib.hid (bx_new w 53 [.int .i64 11, .int .i64 k, .int .i64 n, .int .i64 t])
  have R1 := Lib.hid (h.nx NX.out)
  have x0 := HX.out.cell 0 rfl
  have x1 := HX.out.cell 1 rfl
  have x2 := HX.out.cell 2 rfl
  have x3 := HX.out.cell 3 rfl
  have CL := Lib.hid (fun w' (k' : RM F w' b code inp s) => refCoil_ok_11 b code inp s k n t hE h1000 w' k')
  obtain ⟨sN, hsN⟩ : ∃ sN : Mc, sN = { s with q := wrQ s.q k n s.acc, m := wrM s.m k n s.acc, e := s.e } := ⟨_, rfl⟩
  have hsp : sN.pc = s.pc := by rw [hsN]
  rw [← hsN] at CL ⊢
  have HSP := Lib.hid hsp
  clear hsN hE h1000 hsp
  clear h
  go_enter Try.func35, Try.ntmps35
  go_wp2_with fail
  refine (CL.out _ R1.out).mono ?_
  rintro e w2 ⟨rfl, hr, hm⟩
  have R2 := Lib.hid hr
  have M2 := Lib.hid ((Mv.of_nx NX.out b none).trans hm (.inl rfl))
  clear hr
  have q5 := R2.out.pcCell
  rw [HSP.out] at q5
  clear hm x0 x1 x2 x3
  go_wp2
  go_ret2
  exact ⟨rfl, R2.out, M2.out⟩

set_option maxHeartbeats 1600000 in
set_option maxRecDepth 100000 in
theorem refDo_coil12_no (b : Nat) (code : List In4) (inp : List Bool) (s : Mc) (k n t : Int) (hE : wrE s.q s.m k n ≠ 0) (h1000 : s.q.length ≤ 1000000 ∧ s.m.length ≤ 1000000 ∧ s.e.length ≤ 1000000) (_hpc : s.pc ≤ 1000000) (w : World) (h : RM F w b code inp s) :
    Calls Try.prog 35 #[.pointer (some ⟨b, 0, none⟩), .agg #[.int .i64 12, .int .i64 k, .int .i64 n, .int .i64 t]] w
      (DoPost (F := F) b code inp s s ((s.pc : Int) + 1) (wrE s.q s.m k n) w) := by
  have hbl := h.lt
  have NX := Lib.hid (Nx.one w (.cells #[.int .i64 12, .int .i64 k, .int .i64 n, .int .i64 t] 53))
  have HX := Lib.hid (bx_new w 53 [.int .i64 12, .int .i64 k, .int .i64 n, .int .i64 t])
  have R1 := Lib.hid (h.nx NX.out)
  have x0 := HX.out.cell 0 rfl
  have x1 := HX.out.cell 1 rfl
  have x2 := HX.out.cell 2 rfl
  have x3 := HX.out.cell 3 rfl
  have CL := Lib.hid (fun w' (k' : RM F w' b code inp s) => refCoil_no_12 b code inp s k n t hE h1000 w' k')
  generalize wrE s.q s.m k n = E at *
  clear h1000
  clear h
  go_enter Try.func35, Try.ntmps35
  go_wp2_with fail
  refine (CL.out _ R1.out).mono ?_
  rintro e w2 ⟨rfl, hm⟩
  have R2 := Lib.hid (R1.out.nx hm)
  have M2 := Lib.hid (Mv.of_nx (NX.out.trans hm) b none)
  have q5 := R2.out.pcCell
  clear hm x0 x1 x2 x3
  go_wp2
  go_ret2
  exact ⟨rfl, R2.out, M2.out⟩

set_option maxHeartbeats 1600000 in
set_option maxRecDepth 100000 in
theorem refDo_coil12_ok (b : Nat) (code : List In4) (inp : List Bool) (s : Mc) (k n t : Int) (hE : wrE s.q s.m k n = 0) (h1000 : s.q.length ≤ 1000000 ∧ s.m.length ≤ 1000000 ∧ s.e.length ≤ 1000000) (_hpc : s.pc ≤ 1000000) (w : World) (h : RM F w b code inp s) :
    Calls Try.prog 35 #[.pointer (some ⟨b, 0, none⟩), .agg #[.int .i64 12, .int .i64 k, .int .i64 n, .int .i64 t]] w
      (DoPost (F := F) b code inp s { s with q := wrQ s.q k n (!s.acc), m := wrM s.m k n (!s.acc), e := s.e } ((s.pc : Int) + 1) 0 w) := by
  have hbl := h.lt
  have NX := Lib.hid (Nx.one w (.cells #[.int .i64 12, .int .i64 k, .int .i64 n, .int .i64 t] 53))
  have HX := Lib.hid (bx_new w 53 [.int .i64 12, .int .i64 k, .int .i64 n, .int .i64 t])
  have R1 := Lib.hid (h.nx NX.out)
  have x0 := HX.out.cell 0 rfl
  have x1 := HX.out.cell 1 rfl
  have x2 := HX.out.cell 2 rfl
  have x3 := HX.out.cell 3 rfl
  have CL := Lib.hid (fun w' (k' : RM F w' b code inp s) => refCoil_ok_12 b code inp s k n t hE h1000 w' k')
  obtain ⟨sN, hsN⟩ : ∃ sN : Mc, sN = { s with q := wrQ s.q k n (!s.acc), m := wrM s.m k n (!s.acc), e := s.e } := ⟨_, rfl⟩
  have hsp : sN.pc = s.pc := by rw [hsN]
  rw [← hsN] at CL ⊢
  have HSP := Lib.hid hsp
  clear hsN hE h1000 hsp
  clear h
  go_enter Try.func35, Try.ntmps35
  go_wp2_with fail
  refine (CL.out _ R1.out).mono ?_
  rintro e w2 ⟨rfl, hr, hm⟩
  have R2 := Lib.hid hr
  have M2 := Lib.hid ((Mv.of_nx NX.out b none).trans hm (.inl rfl))
  clear hr
  have q5 := R2.out.pcCell
  rw [HSP.out] at q5
  clear hm x0 x1 x2 x3
  go_wp2
  go_ret2
  exact ⟨rfl, R2.out, M2.out⟩

set_option maxHeartbeats 1600000 in
set_option maxRecDepth 100000 in
theorem refDo_coil13_no (b : Nat) (code : List In4) (inp : List Bool) (s : Mc) (k n t : Int) (hE : wrE s.q s.m k n ≠ 0) (h1000 : s.q.length ≤ 1000000 ∧ s.m.length ≤ 1000000 ∧ s.e.length ≤ 1000000) (_hpc : s.pc ≤ 1000000) (w : World) (h : RM F w b code inp s) :
    Calls Try.prog 35 #[.pointer (some ⟨b, 0, none⟩), .agg #[.int .i64 13, .int .i64 k, .int .i64 n, .int .i64 t]] w
      (DoPost (F := F) b code inp s s ((s.pc : Int) + 1) (wrE s.q s.m k n) w) := by
  have hbl := h.lt
  have NX := Lib.hid (Nx.one w (.cells #[.int .i64 13, .int .i64 k, .int .i64 n, .int .i64 t] 53))
  have HX := Lib.hid (bx_new w 53 [.int .i64 13, .int .i64 k, .int .i64 n, .int .i64 t])
  have R1 := Lib.hid (h.nx NX.out)
  have x0 := HX.out.cell 0 rfl
  have x1 := HX.out.cell 1 rfl
  have x2 := HX.out.cell 2 rfl
  have x3 := HX.out.cell 3 rfl
  have CL := Lib.hid (fun w' (k' : RM F w' b code inp s) => refCoil_no_13 b code inp s k n t hE h1000 w' k')
  generalize wrE s.q s.m k n = E at *
  clear h1000
  clear h
  go_enter Try.func35, Try.ntmps35
  go_wp2_with fail
  refine (CL.out _ R1.out).mono ?_
  rintro e w2 ⟨rfl, hm⟩
  have R2 := Lib.hid (R1.out.nx hm)
  have M2 := Lib.hid (Mv.of_nx (NX.out.trans hm) b none)
  have q5 := R2.out.pcCell
  clear hm x0 x1 x2 x3
  go_wp2
  go_ret2
  exact ⟨rfl, R2.out, M2.out⟩

set_option maxHeartbeats 1600000 in
set_option maxRecDepth 100000 in
theorem refDo_coil13_ok (b : Nat) (code : List In4) (inp : List Bool) (s : Mc) (k n t : Int) (hE : wrE s.q s.m k n = 0) (h1000 : s.q.length ≤ 1000000 ∧ s.m.length ≤ 1000000 ∧ s.e.length ≤ 1000000) (_hpc : s.pc ≤ 1000000) (w : World) (h : RM F w b code inp s) :
    Calls Try.prog 35 #[.pointer (some ⟨b, 0, none⟩), .agg #[.int .i64 13, .int .i64 k, .int .i64 n, .int .i64 t]] w
      (DoPost (F := F) b code inp s (if s.acc then { s with q := wrQ s.q k n s.acc, m := wrM s.m k n s.acc, e := s.e } else s) ((s.pc : Int) + 1) 0 w) := by
  have hbl := h.lt
  have NX := Lib.hid (Nx.one w (.cells #[.int .i64 13, .int .i64 k, .int .i64 n, .int .i64 t] 53))
  have HX := Lib.hid (bx_new w 53 [.int .i64 13, .int .i64 k, .int .i64 n, .int .i64 t])
  have R1 := Lib.hid (h.nx NX.out)
  have x0 := HX.out.cell 0 rfl
  have x1 := HX.out.cell 1 rfl
  have x2 := HX.out.cell 2 rfl
  have x3 := HX.out.cell 3 rfl
  have CL := Lib.hid (fun w' (k' : RM F w' b code inp s) => refCoil_ok_13 b code inp s k n t hE h1000 w' k')
  obtain ⟨sN, hsN⟩ : ∃ sN : Mc, sN = (if s.acc then { s with q := wrQ s.q k n s.acc, m := wrM s.m k n s.acc, e := s.e } else s) := ⟨_, rfl⟩
  have hsp : sN.pc = s.pc := by rw [hsN]; split <;> rfl
  rw [← hsN] at CL ⊢
  have HSP := Lib.hid hsp
  clear hsN hE h1000 hsp
  clear h
  go_enter Try.func35, Try.ntmps35
  go_wp2_with fail
  refine (CL.out _ R1.out).mono ?_
  rintro e w2 ⟨rfl, hr, hm⟩
  have R2 := Lib.hid hr
  have M2 := Lib.hid ((Mv.of_nx NX.out b none).trans hm (.inl rfl))
  clear hr
  have q5 := R2.out.pcCell
  rw [HSP.out] at q5
  clear hm x0 x1 x2 x3
  go_wp2
  go_ret2
  exact ⟨rfl, R2.out, M2.out⟩

set_option maxHeartbeats 1600000 in
set_option maxRecDepth 100000 in
theorem refDo_coil14_no (b : Nat) (code : List In4) (inp : List Bool) (s : Mc) (k n t : Int) (hE : wrE s.q s.m k n ≠ 0) (h1000 : s.q.length ≤ 1000000 ∧ s.m.length ≤ 1000000 ∧ s.e.length ≤ 1000000) (_hpc : s.pc ≤ 1000000) (w : World) (h : RM F w b code inp s) :
    Calls Try.prog 35 #[.pointer (some ⟨b, 0, none⟩), .agg #[.int .i64 14, .int .i64 k, .int .i64 n, .int .i64 t]] w
      (DoPost (F := F) b code inp s s ((s.pc : Int) + 1) (wrE s.q s.m k n) w) := by
  have hbl := h.lt
  have NX := Lib.hid (Nx.one w (.cells #[.int .i64 14, .int .i64 k, .int .i64 n, .int .i64 t] 53))
  have HX := Lib.hid (bx_new w 53 [.int .i64 14, .int .i64 k, .int .i64 n, .int .i64 t])
  have R1 := Lib.hid (h.nx NX.out)
  have x0 := HX.out.cell 0 rfl
  have x1 := HX.out.cell 1 rfl
  have x2 := HX.out.cell 2 rfl
  have x3 := HX.out.cell 3 rfl
  have CL := Lib.hid (fun w' (k' : RM F w' b code inp s) => refCoil_no_14 b code inp s k n t hE h1000 w' k')
  generalize wrE s.q s.m k n = E at *
  clear h1000
  clear h
  go_enter Try.func35, Try.ntmps35
  go_wp2_with fail
  refine (CL.out _ R1.out).mono ?_
  rintro e w2 ⟨rfl, hm⟩
  have R2 := Lib.hid (R1.out.nx hm)
  have M2 := Lib.hid (Mv.of_nx (NX.out.trans hm) b none)
  have q5 := R2.out.pcCell
  clear hm x0 x1 x2 x3
  go_wp2
  go_ret2
  exact ⟨rfl, R2.out, M2.out⟩

set_option maxHeartbeats 1600000 in
set_option maxRecDepth 100000 in
theorem refDo_coil14_ok (b : Nat) (code : List In4) (inp : List Bool) (s : Mc) (k n t : Int) (hE : wrE s.q s.m k n = 0) (h1000 : s.q.length ≤ 1000000 ∧ s.m.length ≤ 1000000 ∧ s.e.length ≤ 1000000) (_hpc : s.pc ≤ 1000000) (w : World) (h : RM F w b code inp s) :
    Calls Try.prog 35 #[.pointer (some ⟨b, 0, none⟩), .agg #[.int .i64 14, .int .i64 k, .int .i64 n, .int .i64 t]] w
      (DoPost (F := F) b code inp s (if s.acc then { s with q := wrQ s.q k n false, m := wrM s.m k n false, e := s.e } else s) ((s.pc : Int) + 1) 0 w) := by
  have hbl := h.lt
  have NX := Lib.hid (Nx.one w (.cells #[.int .i64 14, .int .i64 k, .int .i64 n, .int .i64 t] 53))
  have HX := Lib.hid (bx_new w 53 [.int .i64 14, .int .i64 k, .int .i64 n, .int .i64 t])
  have R1 := Lib.hid (h.nx NX.out)
  have x0 := HX.out.cell 0 rfl
  have x1 := HX.out.cell 1 rfl
  have x2 := HX.out.cell 2 rfl
  have x3 := HX.out.cell 3 rfl
  have CL := Lib.hid (fun w' (k' : RM F w' b code inp s) => refCoil_ok_14 b code inp s k n t hE h1000 w' k')
  obtain ⟨sN, hsN⟩ : ∃ sN : Mc, sN = (if s.acc then { s with q := wrQ s.q k n false, m := wrM s.m k n false, e := s.e } else s) := ⟨_, rfl⟩
  have hsp : sN.pc = s.pc := by rw [hsN]; split <;> rfl
  rw [← hsN] at CL ⊢
  have HSP := Lib.hid hsp
  clear hsN hE h1000 hsp
  clear h
  go_enter Try.func35, Try.ntmps35
  go_wp2_with fail
  refine (CL.out _ R1.out).mono ?_
  rintro e w2 ⟨rfl, hr, hm⟩
  have R2 := Lib.hid hr
  have M2 := Lib.hid ((Mv.of_nx NX.out b none).trans hm (.inl rfl))
  clear hr
  have q5 := R2.out.pcCell
  rw [HSP.out] at q5
  clear hm x0 x1 x2 x3
  go_wp2
  go_ret2
  exact ⟨rfl, R2.out, M2.out⟩

set_option maxHeartbeats 1600000 in
set_option maxRecDepth 100000 in
theorem refDo_jump_range (b : Nat) (code : List In4) (inp : List Bool) (s : Mc) (k n t : Int) (ht : t < 0 ∨ (¬ t < 0 ∧ (code.length : Int) ≤ t)) (_hpc : s.pc ≤ 1000000) (w : World) (h : RM F w b code inp s) :
    Calls Try.prog 35 #[.pointer (some ⟨b, 0, none⟩), .agg #[.int .i64 15, .int .i64 k, .int .i64 n, .int .i64 t]] w
      (DoPost (F := F) b code inp s s 0 3 w) := by
  have hbl := h.lt
  have NX := Lib.hid (Nx.one w (.cells #[.int .i64 15, .int .i64 k, .int .i64 n, .int .i64 t] 53))
  have HX := Lib.hid (bx_new w 53 [.int .i64 15, .int .i64 k, .int .i64 n, .int .i64 t])
  have R1 := Lib.hid (h.nx NX.out)
  have x0 := HX.out.cell 0 rfl
  have x1 := HX.out.cell 1 rfl
  have x2 := HX.out.cell 2 rfl
  have x3 := HX.out.cell 3 rfl
  obtain ⟨A0, c0, d0, _⟩ := R1.out.codeCell
  have q5 := R1.out.pcCell
  have q6 := R1.out.accCell
  generalize code.length = l at *
  clear h q5 q6
  rcases ht with ht | ⟨h1, h2⟩
  all_goals
    go_enter Try.func35, Try.ntmps35
    go_wp2
    go_quiet (fail)
    go_wp2
    go_ret2
    exact ⟨rfl, R1.out.nx (by repeat (first | exact Nx.refl _ | assumption | refine Nx.drewN ?_ _ | refine Nx.drew ?_ | refine Nx.alloc ?_ _ | refine Nx.set ?_ (by first | exact Nat.le_refl _ | (simp; done) | (simp; omega)) _)), Mv.of_nx (NX.out.trans (by repeat (first | exact Nx.refl _ | assumption | refine Nx.drewN ?_ _ | refine Nx.drew ?_ | refine Nx.alloc ?_ _ | refine Nx.set ?_ (by first | exact Nat.le_refl _ | (simp; done) | (simp; omega)) _))) b none⟩

set_option maxHeartbeats 1600000 in
set_option maxRecDepth 100000 in
theorem refDo_jump_order (b : Nat) (code : List In4) (inp : List Bool) (s : Mc) (k n t : Int) (h1 : ¬ t < 0) (h2 : ¬ (code.length : Int) ≤ t) (h3 : t ≤ (s.pc : Int)) (_hpc : s.pc ≤ 1000000) (w : World) (h : RM F w b code inp s) :
    Calls Try.prog 35 #[.pointer (some ⟨b, 0, none⟩), .agg #[.int .i64 15, .int .i64 k, .int .i64 n, .int .i64 t]] w
      (DoPost (F := F) b code inp s s 0 17 w) := by
  have hbl := h.lt
  have NX := Lib.hid (Nx.one w (.cells #[.int .i64 15, .int .i64 k, .int .i64 n, .int .i64 t] 53))
  have HX := Lib.hid (bx_new w 53 [.int .i64 15, .int .i64 k, .int .i64 n, .int .i64 t])
  have R1 := Lib.hid (h.nx NX.out)
  have x0 := HX.out.cell 0 rfl
  have x1 := HX.out.cell 1 rfl
  have x2 := HX.out.cell 2 rfl
  have x3 := HX.out.cell 3 rfl
  obtain ⟨A0, c0, d0, _⟩ := R1.out.codeCell
  have q5 := R1.out.pcCell
  have q6 := R1.out.accCell
  clear h q6
  go_enter Try.func35, Try.ntmps35
  go_wp2
  go_quiet (fail)
  go_wp2
  go_quiet (fail)
  go_wp2
  go_ret2
  exact ⟨rfl, R1.out.nx (by repeat (first | exact Nx.refl _ | assumption | refine Nx.drewN ?_ _ | refine Nx.drew ?_ | refine Nx.alloc ?_ _ | refine Nx.set ?_ (by first | exact Nat.le_refl _ | (simp; done) | (simp; omega)) _)), Mv.of_nx (NX.out.trans (by repeat (first | exact Nx.refl _ | assumption | refine Nx.drewN ?_ _ | refine Nx.drew ?_ | refine Nx.alloc ?_ _ | refine Nx.set ?_ (by first | exact Nat.le_refl _ | (simp; done) | (simp; omega)) _))) b none⟩

set_option maxHeartbeats 1600000 in
set_option maxRecDepth 100000 in
theorem refDo_jump_yes (b : Nat) (code : List In4) (inp : List Bool) (s : Mc) (k n t : Int) (h1 : ¬ t < 0) (h2 : ¬ (code.length : Int) ≤ t) (h3 : ¬ t ≤ (s.pc : Int)) (ha : s.acc = true) (_hpc : s.pc ≤ 1000000) (w : World) (h : RM F w b code inp s) :
    Calls Try.prog 35 #[.pointer (some ⟨b, 0, none⟩), .agg #[.int .i64 15, .int .i64 k, .int .i64 n, .int .i64 t]] w
      (DoPost (F := F) b code inp s s t 0 w) := by
  have hbl := h.lt
  have NX := Lib.hid (Nx.one w (.cells #[.int .i64 15, .int .i64 k, .int .i64 n, .int .i64 t] 53))
  have HX := Lib.hid (bx_new w 53 [.int .i64 15, .int .i64 k, .int .i64 n, .int .i64 t])
  have R1 := Lib.hid (h.nx NX.out)
  have x0 := HX.out.cell 0 rfl
  have x1 := HX.out.cell 1 rfl
  have x2 := HX.out.cell 2 rfl
  have x3 := HX.out.cell 3 rfl
  obtain ⟨A0, c0, d0, _⟩ := R1.out.codeCell
  have q5 := R1.out.pcCell
  have q6 := R1.out.accCell
  rw [ha] at q6
  clear h ha
  go_enter Try.func35, Try.ntmps35
  go_wp2
  go_quiet (fail)
  go_wp2
  go_quiet (fail)
  go_wp2
  go_ret2
  exact ⟨rfl, R1.out.nx (by repeat (first | exact Nx.refl _ | assumption | refine Nx.drewN ?_ _ | refine Nx.drew ?_ | refine Nx.alloc ?_ _ | refine Nx.set ?_ (by first | exact Nat.le_refl _ | (simp; done) | (simp; omega)) _)), Mv.of_nx (NX.out.trans (by repeat (first | exact Nx.refl _ | assumption | refine Nx.drewN ?_ _ | refine Nx.drew ?_ | refine Nx.alloc ?_ _ | refine Nx.set ?_ (by first | exact Nat.le_refl _ | (simp; done) | (simp; omega)) _))) b none⟩

set_option maxHeartbeats 1600000 in
set_option maxRecDepth 100000 in
theorem refDo_jump_not (b : Nat) (code : List In4) (inp : List Bool) (s : Mc) (k n t : Int) (h1 : ¬ t < 0) (h2 : ¬ (code.length : Int) ≤ t) (h3 : ¬ t ≤ (s.pc : Int)) (ha : s.acc = false) (_hpc : s.pc ≤ 1000000) (w : World) (h : RM F w b code inp s) :
    Calls Try.prog 35 #[.pointer (some ⟨b, 0, none⟩), .agg #[.int .i64 15, .int .i64 k, .int .i64 n, .int .i64 t]] w
      (DoPost (F := F) b code inp s s ((s.pc : Int) + 1) 0 w) := by
  have hbl := h.lt
  have NX := Lib.hid (Nx.one w (.cells #[.int .i64 15, .int .i64 k, .int .i64 n, .int .i64 t] 53))
  have HX := Lib.hid (bx_new w 53 [.int .i64 15, .int .i64 k, .int .i64 n, .int .i64 t])
  have R1 := Lib.hid (h.nx NX.out)
  have x0 := HX.out.cell 0 rfl
  have x1 := HX.out.cell 1 rfl
  have x2 := HX.out.cell 2 rfl
  have x3 := HX.out.cell 3 rfl
  obtain ⟨A0, c0, d0, _⟩ := R1.out.codeCell
  have q5 := R1.out.pcCell
  have q6 := R1.out.accCell
  rw [ha] at q6
  clear h ha
  go_enter Try.func35, Try.ntmps35
  go_wp2
  go_quiet (fail)
  go_wp2
  go_quiet (fail)
  go_wp2
  go_ret2
  exact ⟨rfl, R1.out.nx (by repeat (first | exact Nx.refl _ | assumption | refine Nx.drewN ?_ _ | refine Nx.drew ?_ | refine Nx.alloc ?_ _ | refine Nx.set ?_ (by first | exact Nat.le_refl _ | (simp; done) | (simp; omega)) _)), Mv.of_nx (NX.out.trans (by repeat (first | exact Nx.refl _ | assumption | refine Nx.drewN ?_ _ | refine Nx.drew ?_ | refine Nx.alloc ?_ _ | refine Nx.set ?_ (by first | exact Nat.le_refl _ | (simp; done) | (simp; omega)) _))) b none⟩

set_option maxHeartbeats 1600000 in
set_option maxRecDepth 100000 in
theorem refDo_halt (b : Nat) (code : List In4) (inp : List Bool) (s : Mc) (k n t : Int) (_hpc : s.pc ≤ 1000000) (w : World) (h : RM F w b code inp s) :
    Calls Try.prog 35 #[.pointer (some ⟨b, 0, none⟩), .agg #[.int .i64 16, .int .i64 k, .int .i64 n, .int .i64 t]] w
      (DoPost (F := F) b code inp s { s with hlt := true } (s.pc : Int) 0 w) := by
  have hbl := h.lt
  have NX := Lib.hid (Nx.one w (.cells #[.int .i64 16, .int .i64 k, .int .i64 n, .int .i64 t] 53))
  have HX := Lib.hid (bx_new w 53 [.int .i64 16, .int .i64 k, .int .i64 n, .int .i64 t])
  have R1 := Lib.hid (h.nx NX.out)
  have x0 := HX.out.cell 0 rfl
  have x1 := HX.out.cell 1 rfl
  have x2 := HX.out.cell 2 rfl
  have x3 := HX.out.cell 3 rfl
  have hbW := R1.out.lt
  clear h x1 x2 x3
  go_enter Try.func35, Try.ntmps35
  go_upto_block 0 with fail
  generalize w.alloc (.cells #[.int .i64 16, .int .i64 k, .int .i64 n, .int .i64 t] 53) = W at *
  generalize w.heap.size = g at *
  have q8 := R1.out.hltCell
  have f8 := R1.out.frozen 8
  have RR := Lib.hid (R1.out.setHlt true)
  have q5' : (W.setCell ⟨b, 8, none⟩ (.bool true)).cell? ⟨b, 5, none⟩ = some (.int .i64 (s.pc : Int)) := RR.out.pcCell
  go_wp2
  go_ret2
  exact ⟨rfl, RR.out, (Mv.of_nx NX.out b none).set 8 _⟩

set_option maxHeartbeats 1600000 in
set_option maxRecDepth 100000 in
theorem refDo_unknown (b : Nat) (code : List In4) (inp : List Bool) (s : Mc) (op : Int) (k n t : Int) (hop : op < 0 ∨ 16 < op) (_hpc : s.pc ≤ 1000000) (w : World) (h : RM F w b code inp s) :
    Calls Try.prog 35 #[.pointer (some ⟨b, 0, none⟩), .agg #[.int .i64 op, .int .i64 k, .int .i64 n, .int .i64 t]] w
      (DoPost (F := F) b code inp s s 0 8 w) := by
  have hbl := h.lt
  have NX := Lib.hid (Nx.one w (.cells #[.int .i64 op, .int .i64 k, .int .i64 n, .int .i64 t] 53))
  have HX := Lib.hid (bx_new w 53 [.int .i64 op, .int .i64 k, .int .i64 n, .int .i64 t])
  have R1 := Lib.hid (h.nx NX.out)
  have x0 := HX.out.cell 0 rfl
  have x1 := HX.out.cell 1 rfl
  have x2 := HX.out.cell 2 rfl
  have x3 := HX.out.cell 3 rfl
  clear h
  have e6 : (op == 6) = false := by rw [beq_eq_false_iff_ne]; omega
  have e7 : (op == 7) = false := by rw [beq_eq_false_iff_ne]; omega
  have e8 : (op == 8) = false := by rw [beq_eq_false_iff_ne]; omega
  have e9 : (op == 9) = false := by rw [beq_eq_false_iff_ne]; omega
  have e10 : (op == 10) = false := by rw [beq_eq_false_iff_ne]; omega
  have e15 : (op == 15) = false := by rw [beq_eq_false_iff_ne]; omega
  have e16 : (op == 16) = false := by rw [beq_eq_false_iff_ne]; omega
  rcases hop with hop | hop
  · have g0 : ¬ 0 ≤ op := by omega
    have g11 : ¬ 11 ≤ op := by omega
    go_enter Try.func35, Try.ntmps35
    go_wp2
    go_ret2
    exact ⟨rfl, R1.out, Mv.of_nx NX.out b none⟩
  · have g0 : 0 ≤ op := by omega
    have g5 : ¬ op ≤ 5 := by omega
    have g11 : 11 ≤ op := by omega
    have g14 : ¬ op ≤ 14 := by omega
    go_enter Try.func35, Try.ntmps35
    go_wp2
    go_ret2
    exact ⟨rfl, R1.out, Mv.of_nx NX.out b none⟩
end
section
open Go.RowKit
variable {F : Nat → Prop}

/-- A machine of sizes that the walks bear. -/
def Fit (s : Mc) : Prop := (s.q.length ≤ 1000000 ∧ s.m.length ≤ 1000000 ∧ s.e.length ≤ 1000000) ∧ s.stk.length ≤ 64 ∧ s.pc ≤ 1000000
def DoAny (b : Nat) (code : List In4) (inp : List Bool) (s : Mc) (x : In4) (w : World) (e : Ending) (w' : World) : Prop :=
  ∃ p : Int, e = .returned (.tuple #[.int .i64 p, .int .i64 (insE inp code.length s x)]) ∧ (insE inp code.length s x = 0 → p = (insP s x : Int)) ∧
    RM F w' b code inp (if insE inp code.length s x = 0 then insD inp s x else s) ∧ Mv b none w w'
theorem doAny_ok {b : Nat} {code : List In4} {inp : List Bool} {s sN : Mc} {x : In4} {p : Int} {w : World} (hE : insE inp code.length s x = 0) (hp : p = (insP s x : Int)) (hs : insD inp s x = sN) {e : Ending} {w' : World}
    (h : DoPost (F := F) b code inp s sN p 0 w e w') : DoAny (F := F) b code inp s x w e w' := by
  obtain ⟨rfl, h1, h2⟩ := h
  exact ⟨p, by rw [hE], fun _ => hp, by rw [if_pos hE, hs]; exact h1, h2⟩
theorem doAny_no {b : Nat} {code : List In4} {inp : List Bool} {s : Mc} {x : In4} {p E : Int} {w : World} (hE : insE inp code.length s x = E) (h0 : E ≠ 0) {e : Ending} {w' : World}
    (h : DoPost (F := F) b code inp s s p E w e w') : DoAny (F := F) b code inp s x w e w' := by
  obtain ⟨rfl, h1, h2⟩ := h
  exact ⟨p, by rw [hE], fun h => absurd (hE ▸ h) h0, by rw [if_neg (by rw [hE]; exact h0)]; exact h1, h2⟩
theorem rdE_cases (xs : List Bool) (n : Int) : rdE xs n = 0 ∨ rdE xs n = 3 := by unfold rdE; split <;> simp

theorem refDo_any (b : Nat) (code : List In4) (inp : List Bool) (s : Mc) (x : In4) (hf : Fit s) (w : World) (h : RM F w b code inp s) :
    Calls Try.prog 35 #[.pointer (some ⟨b, 0, none⟩), .agg #[.int .i64 x.op, .int .i64 x.k, .int .i64 x.n, .int .i64 x.t]] w (DoAny (F := F) b code inp s x w) := by
  obtain ⟨h1000, hstk, hpc⟩ := hf
  obtain ⟨op, k, n, t⟩ := x
  by_cases c0 : 0 ≤ op ∧ op ≤ 5
  · have hE : insE inp code.length s ⟨op, k, n, t⟩ = bitE inp s ⟨op, k, n, t⟩ := if_pos c0
    refine (refDo_logic b code inp s op k n t c0 hpc w h).mono fun e w' hh => ?_
    by_cases e0 : bitE inp s ⟨op, k, n, t⟩ = 0
    · rw [if_pos e0, e0] at hh
      refine doAny_ok (hE.trans e0) ?_ (if_pos c0) hh
      have : insP s ⟨op, k, n, t⟩ = s.pc + 1 := by unfold insP; rw [if_neg (by simp only; omega), if_neg (by simp only; omega)]
      rw [this]; omega
    · rw [if_neg e0] at hh
      exact doAny_no hE e0 hh
  have hP : op ≠ 15 → op ≠ 16 → ((s.pc : Int) + 1) = (insP s ⟨op, k, n, t⟩ : Int) := fun h1 h2 => by
    have : insP s ⟨op, k, n, t⟩ = s.pc + 1 := by unfold insP; rw [if_neg (by simp only; omega), if_neg (by simp only; omega)]
    rw [this]; omega
  by_cases c6 : op = 6
  · subst c6
    have hE : insE inp code.length s ⟨6, k, n, t⟩ = (if bitE inp s ⟨6, k, n, t⟩ ≠ 0 then bitE inp s ⟨6, k, n, t⟩ else if t < 0 ∨ (s.e.length : Int) ≤ t then 3 else 0) := by simp [insE]
    by_cases e0 : bitE inp s ⟨6, k, n, t⟩ = 0
    · rw [if_neg (by simpa using e0)] at hE
      by_cases hr : t < 0 ∨ (s.e.length : Int) ≤ t
      · rw [if_pos hr] at hE
        exact (refDo_edge6_range b code inp s k n t e0 (by omega) hpc w h).mono fun e w' hh => doAny_no hE (by decide) hh
      · rw [if_neg hr] at hE
        have ht : t = ((t.toNat : Nat) : Int) := by omega
        exact (refDo_edge6_ok b code inp s k n t t.toNat e0 ht (by omega) h1000.2.2 hpc w h).mono fun e w' hh => doAny_ok hE (hP (by decide) (by decide)) (by simp [insD]) hh
    · rw [if_pos e0] at hE
      exact (refDo_edge6_no b code inp s k n t e0 hpc w h).mono fun e w' hh => doAny_no hE e0 hh
  by_cases c7 : op = 7
  · subst c7
    have hE : insE inp code.length s ⟨7, k, n, t⟩ = (if bitE inp s ⟨7, k, n, t⟩ ≠ 0 then bitE inp s ⟨7, k, n, t⟩ else if t < 0 ∨ (s.e.length : Int) ≤ t then 3 else 0) := by simp [insE]
    by_cases e0 : bitE inp s ⟨7, k, n, t⟩ = 0
    · rw [if_neg (by simpa using e0)] at hE
      by_cases hr : t < 0 ∨ (s.e.length : Int) ≤ t
      · rw [if_pos hr] at hE
        exact (refDo_edge7_range b code inp s k n t e0 (by omega) hpc w h).mono fun e w' hh => doAny_no hE (by decide) hh
      · rw [if_neg hr] at hE
        have ht : t = ((t.toNat : Nat) : Int) := by omega
        exact (refDo_edge7_ok b code inp s k n t t.toNat e0 ht (by omega) h1000.2.2 hpc w h).mono fun e w' hh => doAny_ok hE (hP (by decide) (by decide)) (by simp [insD]) hh
    · rw [if_pos e0] at hE
      exact (refDo_edge7_no b code inp s k n t e0 hpc w h).mono fun e w' hh => doAny_no hE e0 hh
  by_cases c8 : op = 8
  · subst c8
    have hE : insE inp code.length s ⟨8, k, n, t⟩ = (if 64 ≤ s.stk.length then 10 else 0) := by simp [insE]
    by_cases hl : 64 ≤ s.stk.length
    · rw [if_pos hl] at hE
      exact (refDo_push_full b code inp s k n t hl hpc w h).mono fun e w' hh => doAny_no hE (by decide) hh
    · rw [if_neg hl] at hE
      refine (refDo_push b code inp s k n t (by omega) hpc w h).mono fun e w' hh => ?_
      obtain ⟨rfl, h1, h2⟩ := hh
      exact doAny_ok hE (by rw [← hP (by decide) (by decide)]; omega) (by simp [insD]) ⟨rfl, h1, h2⟩
  by_cases c9 : op = 9
  · subst c9
    have hE : insE inp code.length s ⟨9, k, n, t⟩ = (if s.stk.length = 0 then 18 else 0) := by simp [insE]
    by_cases hl : s.stk.length = 0
    · rw [if_pos hl] at hE
      exact (refDo_pop9_none b code inp s k n t hl hpc w h).mono fun e w' hh => doAny_no hE (by decide) hh
    · rw [if_neg hl] at hE
      obtain ⟨xs, v, hs⟩ : ∃ xs v, s.stk = xs ++ [v] := ⟨s.stk.dropLast, s.stk.getLast (by intro e; rw [e] at hl; exact hl rfl), (List.dropLast_concat_getLast _).symm⟩
      exact (refDo_pop9_ok b code inp s k n t xs v hs (by rw [hs] at hstk; simp at hstk; omega) hpc w h).mono fun e w' hh => doAny_ok hE (hP (by decide) (by decide)) (by simp [insD, hs, List.getLastD_eq_getLast?]) hh
  by_cases c10 : op = 10
  · subst c10
    have hE : insE inp code.length s ⟨10, k, n, t⟩ = (if s.stk.length = 0 then 18 else 0) := by simp [insE]
    by_cases hl : s.stk.length = 0
    · rw [if_pos hl] at hE
      exact (refDo_pop10_none b code inp s k n t hl hpc w h).mono fun e w' hh => doAny_no hE (by decide) hh
    · rw [if_neg hl] at hE
      obtain ⟨xs, v, hs⟩ : ∃ xs v, s.stk = xs ++ [v] := ⟨s.stk.dropLast, s.stk.getLast (by intro e; rw [e] at hl; exact hl rfl), (List.dropLast_concat_getLast _).symm⟩
      exact (refDo_pop10_ok b code inp s k n t xs v hs (by rw [hs] at hstk; simp at hstk; omega) hpc w h).mono fun e w' hh => doAny_ok hE (hP (by decide) (by decide)) (by simp [insD, hs, List.getLastD_eq_getLast?]) hh
  have hC : ∀ o, 11 ≤ o → o ≤ 14 → insE inp code.length s ⟨o, k, n, t⟩ = wrE s.q s.m k n := fun o h1 h2 => by
    unfold insE
    rw [if_neg (by simp only; omega), if_neg (by simp only; omega), if_neg (by simp only; omega), if_neg (by simp only; omega), if_pos (by simp only; omega)]
  by_cases c11 : op = 11
  · subst c11
    by_cases e0 : wrE s.q s.m k n = 0
    · exact (refDo_coil11_ok b code inp s k n t e0 h1000 hpc w h).mono fun e w' hh => doAny_ok ((hC _ (by decide) (by decide)).trans e0) (hP (by decide) (by decide)) (by simp [insD, coW, coV]) hh
    · exact (refDo_coil11_no b code inp s k n t e0 h1000 hpc w h).mono fun e w' hh => doAny_no (hC _ (by decide) (by decide)) e0 hh
  by_cases c12 : op = 12
  · subst c12
    by_cases e0 : wrE s.q s.m k n = 0
    · exact (refDo_coil12_ok b code inp s k n t e0 h1000 hpc w h).mono fun e w' hh => doAny_ok ((hC _ (by decide) (by decide)).trans e0) (hP (by decide) (by decide)) (by simp [insD, coW, coV]) hh
    · exact (refDo_coil12_no b code inp s k n t e0 h1000 hpc w h).mono fun e w' hh => doAny_no (hC _ (by decide) (by decide)) e0 hh
  by_cases c13 : op = 13
  · subst c13
    by_cases e0 : wrE s.q s.m k n = 0
    · exact (refDo_coil13_ok b code inp s k n t e0 h1000 hpc w h).mono fun e w' hh => doAny_ok ((hC _ (by decide) (by decide)).trans e0) (hP (by decide) (by decide)) (by simp [insD, coW, coV]) hh
    · exact (refDo_coil13_no b code inp s k n t e0 h1000 hpc w h).mono fun e w' hh => doAny_no (hC _ (by decide) (by decide)) e0 hh
  by_cases c14 : op = 14
  · subst c14
    by_cases e0 : wrE s.q s.m k n = 0
    · exact (refDo_coil14_ok b code inp s k n t e0 h1000 hpc w h).mono fun e w' hh => doAny_ok ((hC _ (by decide) (by decide)).trans e0) (hP (by decide) (by decide)) (by simp [insD, coW, coV]) hh
    · exact (refDo_coil14_no b code inp s k n t e0 h1000 hpc w h).mono fun e w' hh => doAny_no (hC _ (by decide) (by decide)) e0 hh
  by_cases c15 : op = 15
  · subst c15
    have hE : insE inp code.length s ⟨15, k, n, t⟩ = (if t < 0 ∨ (code.length : Int) ≤ t then 3 else if t ≤ (s.pc : Int) then 17 else 0) := by simp [insE]
    by_cases hr : t < 0 ∨ (code.length : Int) ≤ t
    · rw [if_pos hr] at hE
      exact (refDo_jump_range b code inp s k n t (by omega) hpc w h).mono fun e w' hh => doAny_no hE (by decide) hh
    rw [if_neg hr] at hE
    by_cases ho : t ≤ (s.pc : Int)
    · rw [if_pos ho] at hE
      exact (refDo_jump_order b code inp s k n t (by omega) (by omega) ho hpc w h).mono fun e w' hh => doAny_no hE (by decide) hh
    rw [if_neg ho] at hE
    cases ha : s.acc with
    | true => exact (refDo_jump_yes b code inp s k n t (by omega) (by omega) ho ha hpc w h).mono fun e w' hh => doAny_ok hE (by simp [insP, ha]; omega) (by simp [insD]) hh
    | false => exact (refDo_jump_not b code inp s k n t (by omega) (by omega) ho ha hpc w h).mono fun e w' hh => doAny_ok hE (by simp [insP, ha]) (by simp [insD]) hh
  by_cases c16 : op = 16
  · subst c16
    exact (refDo_halt b code inp s k n t hpc w h).mono fun e w' hh => doAny_ok (by simp [insE]) (by simp [insP]) (by simp [insD]) hh
  have hE : insE inp code.length s ⟨op, k, n, t⟩ = 8 := by
    unfold insE
    rw [if_neg c0, if_neg (by simp only; omega), if_neg c8, if_neg (by simp only; omega), if_neg (by simp only; omega), if_neg c15, if_neg c16]
  exact (refDo_unknown b code inp s op k n t (by omega) hpc w h).mono fun e w' hh => doAny_no hE (by decide) hh
end
section
open Go.RowKit
variable {F : Nat → Prop}

def StepPost (b : Nat) (code : List In4) (inp : List Bool) (s : Mc) (w : World) (e : Ending) (w' : World) : Prop :=
  e = .returned (.tuple #[.bool (stp code inp s).2.1, .int .i64 (stp code inp s).2.2]) ∧ RM F w' b code inp (stp code inp s).1 ∧ Mv b none w w'
theorem stp_hlt {code : List In4} {inp : List Bool} {s : Mc} (h : s.hlt = true) : stp code inp s = (s, false, s.flt) := by unfold stp; rw [if_pos h]
theorem stp_off {code : List In4} {inp : List Bool} {s : Mc} (h : s.hlt = false) (hp : code.length ≤ s.pc) : stp code inp s = ({ s with hlt := true, flt := 5 }, false, 5) := by
  unfold stp; rw [if_neg (by rw [h]; simp), List.getElem?_eq_none hp]
theorem stp_no {code : List In4} {inp : List Bool} {s : Mc} {x : In4} (h : s.hlt = false) (hx : code[s.pc]? = some x) (hE : insE inp code.length s x ≠ 0) : stp code inp s = ({ s with hlt := true, flt := insE inp code.length s x }, false, insE inp code.length s x) := by
  unfold stp; rw [if_neg (by rw [h]; simp), hx]; simp only; rw [if_pos hE]
theorem stp_ok {code : List In4} {inp : List Bool} {s : Mc} {x : In4} (h : s.hlt = false) (hx : code[s.pc]? = some x) (hE : insE inp code.length s x = 0) : stp code inp s = ({ insD inp s x with pc := insP s x }, !(insD inp s x).hlt, 0) := by
  unfold stp; rw [if_neg (by rw [h]; simp), hx]; simp only; rw [if_neg (by rw [hE]; simp)]

set_option maxHeartbeats 1600000 in
set_option maxRecDepth 100000 in
theorem refStep_hlt (b : Nat) (code : List In4) (inp : List Bool) (s : Mc) (hh : s.hlt = true) (w : World) (h : RM F w b code inp s) :
    Calls Try.prog 24 #[.pointer (some ⟨b, 0, none⟩)] w (StepPost (F := F) b code inp s w) := by
  unfold StepPost
  rw [stp_hlt hh]
  have q8 := h.hltCell
  rw [hh] at q8
  have q9 := h.fltCell
  have R := Lib.hid h
  clear h hh
  go_enter Try.func24, Try.ntmps24
  go_wp2
  go_quiet (fail)
  go_wp2
  go_ret2
  exact ⟨rfl, R.out.nx (by repeat (first | exact Nx.refl _ | assumption | refine Nx.drewN ?_ _ | refine Nx.drew ?_ | refine Nx.alloc ?_ _ | refine Nx.set ?_ (by first | exact Nat.le_refl _ | (simp; done) | (simp; omega)) _)), Mv.of_nx (by repeat (first | exact Nx.refl _ | assumption | refine Nx.drewN ?_ _ | refine Nx.drew ?_ | refine Nx.alloc ?_ _ | refine Nx.set ?_ (by first | exact Nat.le_refl _ | (simp; done) | (simp; omega)) _)) b none⟩

set_option maxHeartbeats 1600000 in
set_option maxRecDepth 100000 in
theorem refStep_off (b : Nat) (code : List In4) (inp : List Bool) (s : Mc) (hh : s.hlt = false) (hp : code.length ≤ s.pc) (w : World) (h : RM F w b code inp s) :
    Calls Try.prog 24 #[.pointer (some ⟨b, 0, none⟩)] w (StepPost (F := F) b code inp s w) := by
  unfold StepPost
  rw [stp_off hh hp]
  have q8 := h.hltCell
  rw [hh] at q8
  have q5 := h.pcCell
  obtain ⟨A0, c0, d0, _⟩ := h.codeCell
  have f8 := h.frozen 8
  have hp' : (code.length : Int) ≤ (s.pc : Int) := by omega
  have R := Lib.hid h
  have HF := Lib.hid (fun (N : Nat) => (show RM F (((w.drewN N).setCell ⟨b, 8, none⟩ (.bool true)).setCell ⟨b, 9, none⟩ (.int .i64 5)) b code inp { s with hlt := true, flt := 5 } ∧ Mv b none w (((w.drewN N).setCell ⟨b, 8, none⟩ (.bool true)).setCell ⟨b, 9, none⟩ (.int .i64 5)) from
    ⟨((h.nx ((Nx.refl _).drewN N)).setHlt true).setFlt 5, ((Mv.of_nx ((Nx.refl _).drewN N) b none).set 8 _).set 9 _⟩))
  have q9 := fun N => ((h.nx ((Nx.refl _).drewN N)).setHlt true).fltCell
  have f9 := fun N => ((h.nx ((Nx.refl _).drewN N)).setHlt true).frozen 9
  simp only at q9
  clear h hh hp
  go_enter Try.func24, Try.ntmps24
  go_wp2
  go_quiet (fail)
  go_wp2
  go_ret2
  exact ⟨rfl, (HF.out _).1, (HF.out _).2⟩

theorem RdC.four {w : World} {A : Option Addr} {code : List In4} (h : RdC w A code) (k : Nat) (x : In4) (hx : code[k]? = some x) : ∃ ad, A = some ad ∧ w.cell? (ad.add (k * 4)) = some (.int .i64 x.op) ∧
    w.cell? ⟨(ad.add (k * 4)).block, (ad.add (k * 4)).off + 1, none⟩ = some (.int .i64 x.k) ∧ w.cell? ⟨(ad.add (k * 4)).block, (ad.add (k * 4)).off + 2, none⟩ = some (.int .i64 x.n) ∧ w.cell? ⟨(ad.add (k * 4)).block, (ad.add (k * 4)).off + 3, none⟩ = some (.int .i64 x.t) := by
  obtain ⟨ad, e, h1, h2, h3, h4⟩ := h k x hx
  refine ⟨ad, e, h1, ?_, ?_, ?_⟩
  · rw [← Addr.add_add] at h2
    exact (congrArg w.cell? (Addr.add_succ' _ 0)).symm.trans h2
  · rw [← Addr.add_add] at h3
    exact (congrArg w.cell? (Addr.add_succ' _ 1)).symm.trans h3
  · rw [← Addr.add_add] at h4
    exact (congrArg w.cell? (Addr.add_succ' _ 2)).symm.trans h4

theorem doAny_E {b : Nat} {code : List In4} {inp : List Bool} {s : Mc} {x : In4} {w w' : World} {e : Ending} (h : DoAny (F := F) b code inp s x w e w') (hE : insE inp code.length s x ≠ 0) :
    ∃ p : Int, e = .returned (.tuple #[.int .i64 p, .int .i64 (insE inp code.length s x)]) ∧ RM F w' b code inp s ∧ Mv b none w w' := by
  obtain ⟨p, rfl, _, h2, h3⟩ := h
  rw [if_neg hE] at h2
  exact ⟨p, rfl, h2, h3⟩
theorem doAny_0 {b : Nat} {code : List In4} {inp : List Bool} {s : Mc} {x : In4} {w w' : World} {e : Ending} (h : DoAny (F := F) b code inp s x w e w') (hE : insE inp code.length s x = 0) :
    e = .returned (.tuple #[.int .i64 (insP s x : Int), .int .i64 0]) ∧ RM F w' b code inp (insD inp s x) ∧ Mv b none w w' := by
  obtain ⟨p, rfl, h1, h2, h3⟩ := h
  rw [if_pos hE] at h2
  rw [h1 hE, hE]
  exact ⟨rfl, h2, h3⟩
set_option maxHeartbeats 3200000 in
set_option maxRecDepth 100000 in
theorem refStep_no (b : Nat) (code : List In4) (inp : List Bool) (s : Mc) (x : In4) (hh : s.hlt = false) (hx : code[s.pc]? = some x) (hf : Fit s) (hE : insE inp code.length s x ≠ 0) (w : World) (h : RM F w b code inp s) :
    Calls Try.prog 24 #[.pointer (some ⟨b, 0, none⟩)] w (StepPost (F := F) b code inp s w) := by
  unfold StepPost
  rw [stp_no hh hx hE]
  have q8 := h.hltCell
  rw [hh] at q8
  have q5 := h.pcCell
  obtain ⟨A0, c0, d0, hc⟩ := h.codeCell
  obtain ⟨ad, rfl, k0, k1, k2, k3⟩ := hc.four _ _ hx
  have hlt : s.pc < code.length := (List.getElem?_eq_some_iff.1 hx).1
  have hp' : ¬ (code.length : Int) ≤ (s.pc : Int) := by omega
  have hp2 : (s.pc : Int) < (code.length : Int) := by omega
  have R := Lib.hid h
  have CL := Lib.hid (fun w' (k' : RM F w' b code inp s) => (refDo_any b code inp s x hf w' k').mono (fun e w2 (hh : DoAny (F := F) b code inp s x w' e w2) => (doAny_E hh hE)))
  have e0 : insE inp code.length s x ≠ 0 := hE
  generalize insE inp code.length s x = E at *
  clear h hh hx hc hlt hf hE
  go_enter Try.func24, Try.ntmps24
  go_wp2
  go_quiet (fail)
  go_wp2_with fail
  go_region_with (go_at_call 35; (with_reducible refine (CL.out _ (R.out.nx ((Nx.refl w).drewN _))).mono ?_); rintro e w2 ⟨p, rfl, hr, hm⟩; have R2 := Lib.hid hr; have M2 := Lib.hid ((Mv.of_nx ((Nx.refl w).drewN _) b none).trans hm (.inl rfl)); clear hr hm)
  all_goals
    have u8 := R2.out.hltCell
    have v8 := R2.out.frozen 8
    have u9 := (R2.out.setHlt true).fltCell
    have v9 := (R2.out.setHlt true).frozen 9
    simp only at u9
    go_wp2
    go_ret2
    exact ⟨rfl, (R2.out.setHlt true).setFlt E, (M2.out.set 8 _).set 9 _⟩
set_option maxHeartbeats 3200000 in
set_option maxRecDepth 100000 in
theorem refStep_ok (b : Nat) (code : List In4) (inp : List Bool) (s : Mc) (x : In4) (hh : s.hlt = false) (hx : code[s.pc]? = some x) (hf : Fit s) (hE : insE inp code.length s x = 0) (w : World) (h : RM F w b code inp s) :
    Calls Try.prog 24 #[.pointer (some ⟨b, 0, none⟩)] w (StepPost (F := F) b code inp s w) := by
  unfold StepPost
  rw [stp_ok hh hx hE]
  have q8 := h.hltCell
  rw [hh] at q8
  have q5 := h.pcCell
  obtain ⟨A0, c0, d0, hc⟩ := h.codeCell
  obtain ⟨ad, rfl, k0, k1, k2, k3⟩ := hc.four _ _ hx
  have hlt : s.pc < code.length := (List.getElem?_eq_some_iff.1 hx).1
  have hp' : ¬ (code.length : Int) ≤ (s.pc : Int) := by omega
  have hp2 : (s.pc : Int) < (code.length : Int) := by omega
  have R := Lib.hid h
  have CL := Lib.hid (fun w' (k' : RM F w' b code inp s) => (refDo_any b code inp s x hf w' k').mono (fun e w2 (hh : DoAny (F := F) b code inp s x w' e w2) => (doAny_0 hh hE)))
  clear h hh hx hc hlt hf hE
  go_enter Try.func24, Try.ntmps24
  go_wp2
  go_quiet (fail)
  go_wp2_with fail
  go_region_with (go_at_call 35; (with_reducible refine (CL.out _ (R.out.nx ((Nx.refl w).drewN _))).mono ?_); rintro e w2 ⟨rfl, hr, hm⟩; have R2 := Lib.hid hr; have M2 := Lib.hid ((Mv.of_nx ((Nx.refl w).drewN _) b none).trans hm (.inl rfl)); clear hr hm)
  all_goals
    have u5 := R2.out.pcCell
    have v5 := R2.out.frozen 5
    have u8 := (R2.out.setPc (insP s x)).hltCell
    simp only at u8
    go_wp2
    go_ret2
    exact ⟨rfl, R2.out.setPc _, M2.out.set 5 _⟩

theorem refStep_any (b : Nat) (code : List In4) (inp : List Bool) (s : Mc) (hf : Fit s) (w : World) (h : RM F w b code inp s) :
    Calls Try.prog 24 #[.pointer (some ⟨b, 0, none⟩)] w (StepPost (F := F) b code inp s w) := by
  cases hh : s.hlt with
  | true => exact refStep_hlt b code inp s hh w h
  | false =>
    by_cases hp : code.length ≤ s.pc
    · exact refStep_off b code inp s hh hp w h
    · have hx : code[s.pc]? = some code[s.pc] := List.getElem?_eq_getElem (by omega)
      by_cases hE : insE inp code.length s code[s.pc] = 0
      · exact refStep_ok b code inp s _ hh hx hf hE w h
      · exact refStep_no b code inp s _ hh hx hf hE w h
end
end Go.Proofs.Ytmijfipggggdfaa
