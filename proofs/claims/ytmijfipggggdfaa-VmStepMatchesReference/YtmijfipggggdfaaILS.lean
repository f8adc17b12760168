/- The walk of the law that compares steps. No condition. -/
import Derived.Test.YtmijfipggggdfaaILT
import Derived.Test.YtmijfipggggdfaaMA
import Derived.Test.YtmijfipggggdfaaMC
namespace Go.Proofs.Ytmijfipggggdfaa
open Go.RowKit

set_option maxHeartbeats 6400000 in
set_option maxRecDepth 100000 in
theorem law6_step_big (Ac Ai A1 A2 A3 : Option Addr) (nc cc ni ci m1 c1 m2 c2 m3 c3 : Nat) (h : ¬ sm6 nc ni m1 m2 m3) (w : World) :
    Calls Try.prog 4 #[.slice Ac nc cc, .slice Ai ni ci, .agg #[.slice A1 m1 c1, .slice A2 m2 c2, .slice A3 m3 c3]] w fun e w' => e = .returned (.bool true) ∧ Nx w w' := by
  have N0 := Lib.hid (Nx.one w (.cells #[.slice A1 m1 c1, .slice A2 m2 c2, .slice A3 m3 c3] 25))
  have XS := bx_new w 25 [.slice A1 m1 c1, .slice A2 m2 c2, .slice A3 m3 c3]
  have x0 := XS.cell 0 rfl
  have x1 := XS.cell 1 rfl
  have x2 := XS.cell 2 rfl
  have HX := Lib.hid XS
  clear XS
  go_enter Try.func4, Try.ntmps4
  go_wp2_with fail
  clear x0 x1 x2
  generalize w.alloc (.cells #[.slice A1 m1 c1, .slice A2 m2 c2, .slice A3 m3 c3] 25) = W at *
  refine (nilStep W).mono ?_
  rintro e u ⟨rfl, rfl⟩
  go_wp2_with fail
  refine (nilAcc W).mono ?_
  rintro e u ⟨rfl, rfl⟩
  go_wp2_with fail
  refine (nilDepth W).mono ?_
  rintro e u ⟨rfl, rfl⟩
  go_wp2_with fail
  refine (nilAt W).mono ?_
  rintro e u ⟨rfl, rfl⟩
  go_wp2_with fail
  refine (nilState W).mono ?_
  rintro e u0 ⟨rfl, hn⟩
  have K0 := Lib.hid hn
  clear hn
  go_wp2_with fail
  refine (stRefEqual_any none none none 0 0 0 0 0 0 none none none 0 0 0 0 0 0 [] [] [] [] [] [] (by decide) (by decide) (by decide) u0 (im_nil' _) (im_nil' _) (im_nil' _) (im_nil' _) (im_nil' _) (im_nil' _)).mono ?_
  rintro e u1 ⟨rfl, hn⟩
  rw [show (eqB ([] : List Bool) [] && eqB ([] : List Bool) [] && eqB ([] : List Bool) []) = true by simp [eqB]]
  have U1 := Lib.hid (N0.out.trans (K0.out.trans hn))
  have HXU := Lib.hid (HX.out.nx (K0.out.trans hn))
  clear hn K0 HX N0
  have x0 := HXU.out.cell 0 rfl
  have x1 := HXU.out.cell 1 rfl
  have x2 := HXU.out.cell 2 rfl
  go_wp2_with fail
  clear x0 x1 x2
  refine (large6_yes Ac Ai A1 A2 A3 nc cc ni ci m1 m2 m3 c1 c2 c3 h u1).mono ?_
  rintro e w1 ⟨rfl, hn⟩
  have N1 := Lib.hid (U1.out.trans hn)
  clear hn
  go_wp2_with fail
  refine (al_ok w1).mono ?_
  rintro e w2 ⟨rfl, hn⟩
  have N2 := Lib.hid (N1.out.trans hn)
  clear hn
  go_wp2_with fail
  go_ret
  exact ⟨rfl, N2.out⟩

def psiS (b rb : Nat) (D1 D2 D3 Dk : Option Addr) (g1 g2 g3 gk : Nat) (s1 : Mc) (e1 : Int) (c1 : Bool) (j : Nat) (f : Nat → Value) (w : World) : Prop := match j with
  | 0 => f 0 = .bool c1
  | 1 => f 1 = .bool c1
  | 2 => f 2 = .bool false
  | 3 => f 3 = .bool false
  | 4 => f 4 = .int .i64 e1
  | 5 => f 5 = .int .i64 e1
  | 6 => f 6 = .bool false
  | 7 => f 7 = .bool false
  | 8 => f 8 = .bool false
  | 9 => f 9 = .pointer (some ⟨b, 0, none⟩)
  | 10 => f 10 = .bool s1.acc
  | 11 => f 11 = .pointer (some ⟨rb, 0, none⟩)
  | 12 => f 12 = .pointer (some ⟨rb, 0, none⟩)
  | 13 => f 13 = .pointer (some ⟨rb, 6, none⟩)
  | 14 => f 14 = .bool s1.acc
  | 15 => f 15 = .bool false
  | 16 => f 16 = .bool false
  | 17 => f 17 = .bool false
  | 18 => f 18 = .pointer (some ⟨b, 0, none⟩)
  | 19 => f 19 = .int .i64 (s1.stk.length : Int)
  | 20 => f 20 = .pointer (some ⟨rb, 0, none⟩)
  | 21 => f 21 = .pointer (some ⟨rb, 0, none⟩)
  | 22 => f 22 = .pointer (some ⟨rb, 7, none⟩)
  | 23 => f 23 = .slice Dk s1.stk.length gk
  | 24 => f 24 = .int .i64 (s1.stk.length : Int)
  | 25 => f 25 = .bool false
  | 26 => f 26 = .bool false
  | 27 => f 27 = .bool false
  | 28 => f 28 = .pointer (some ⟨b, 0, none⟩)
  | 29 => f 29 = .int .i64 (s1.pc : Int)
  | 30 => f 30 = .pointer (some ⟨rb, 0, none⟩)
  | 31 => f 31 = .pointer (some ⟨rb, 0, none⟩)
  | 32 => f 32 = .pointer (some ⟨rb, 5, none⟩)
  | 33 => f 33 = .int .i64 (s1.pc : Int)
  | 34 => f 34 = .bool false
  | 35 => f 35 = .bool false
  | 36 => f 36 = .bool false
  | 37 => f 37 = .pointer (some ⟨b, 0, none⟩)
  | 38 => ∃ p1 p2 p3 o1 o2 o3, f 38 = .agg #[.slice (some ⟨p1, 0, none⟩) s1.q.length o1, .slice (some ⟨p2, 0, none⟩) s1.m.length o2, .slice (some ⟨p3, 0, none⟩) s1.e.length o3] ∧ OwB w 0 p1 o1 s1.q ∧ OwB w 0 p2 o2 s1.m ∧ OwB w 0 p3 o3 s1.e
  | 39 => f 39 = .pointer (some ⟨rb, 0, none⟩)
  | 40 => f 40 = .pointer (some ⟨rb, 0, none⟩)
  | 41 => f 41 = .pointer (some ⟨rb, 2, none⟩)
  | 42 => f 42 = .agg #[.slice D1 s1.q.length g1, .slice D2 s1.m.length g2, .slice D3 s1.e.length g3]
  | 43 => f 43 = .bool true
  | 44 => f 44 = .bool false
  | 45 => f 45 = .bool false
  | _ => False

set_option maxHeartbeats 64000000 in
set_option maxRecDepth 100000 in
theorem law6_step_small (code : List In4) (inp y1 y2 y3 : List Bool) (Ac Ai A1 A2 A3 : Option Addr) (cc ni ci m1 c1 m2 c2 m3 c3 : Nat) (h : sm6 code.length ni m1 m2 m3) (w : World)
    (hc : RdC w Ac code) (hcn : Ac = none → cc = 0) (hi : Im w Ai ni ci inp) (h1 : Im w A1 m1 c1 y1) (h2 : Im w A2 m2 c2 y2) (h3 : Im w A3 m3 c3 y3) :
    Calls Try.prog 4 #[.slice Ac code.length cc, .slice Ai ni ci, .agg #[.slice A1 m1 c1, .slice A2 m2 c2, .slice A3 m3 c3]] w fun e w' => e = .returned (.bool true) ∧ Nx w w' := by
  have hs : code.length ≤ 1000000 ∧ ni ≤ 1000000 ∧ m1 ≤ 1000000 ∧ m2 ≤ 1000000 ∧ m3 ≤ 1000000 := by obtain ⟨a, b, c, d, e⟩ := h; exact ⟨by omega, by omega, by omega, by omega, by omega⟩
  have N0 := Lib.hid (Nx.one w (.cells #[.slice A1 m1 c1, .slice A2 m2 c2, .slice A3 m3 c3] 25))
  have XS := bx_new w 25 [.slice A1 m1 c1, .slice A2 m2 c2, .slice A3 m3 c3]
  have x0 := XS.cell 0 rfl
  have x1 := XS.cell 1 rfl
  have x2 := XS.cell 2 rfl
  have HX := Lib.hid XS
  have HC := Lib.hid hc
  have HN := Lib.hid hcn
  have HI := Lib.hid hi
  have H1 := Lib.hid h1
  have H2 := Lib.hid h2
  have H3 := Lib.hid h3
  have HS := Lib.hid hs
  have HM := Lib.hid h
  clear XS hc hcn hi h1 h2 h3 hs h
  have HA := Lib.hid (show ∀ w' : World, Calls Try.prog 12 #[] w' (fun e w2 => e = .returned (.bool true) ∧ Nx w' w2) from al_ok)
  go_enter Try.func4, Try.ntmps4
  go_wp2_with fail
  clear x0 x1 x2
  generalize w.alloc (.cells #[.slice A1 m1 c1, .slice A2 m2 c2, .slice A3 m3 c3] 25) = W at *
  refine (nilStep W).mono ?_
  rintro e u ⟨rfl, rfl⟩
  go_wp2_with fail
  refine (nilAcc W).mono ?_
  rintro e u ⟨rfl, rfl⟩
  go_wp2_with fail
  refine (nilDepth W).mono ?_
  rintro e u ⟨rfl, rfl⟩
  go_wp2_with fail
  refine (nilAt W).mono ?_
  rintro e u ⟨rfl, rfl⟩
  go_wp2_with fail
  refine (nilState W).mono ?_
  rintro e u0 ⟨rfl, hn⟩
  have K0 := Lib.hid hn
  clear hn
  go_wp2_with fail
  refine (stRefEqual_any none none none 0 0 0 0 0 0 none none none 0 0 0 0 0 0 [] [] [] [] [] [] (by decide) (by decide) (by decide) u0 (im_nil' _) (im_nil' _) (im_nil' _) (im_nil' _) (im_nil' _) (im_nil' _)).mono ?_
  rintro e u1 ⟨rfl, hn⟩
  rw [show (eqB ([] : List Bool) [] && eqB ([] : List Bool) [] && eqB ([] : List Bool) []) = true by simp [eqB]]
  have U1 := Lib.hid (N0.out.trans (K0.out.trans hn))
  have HXU := Lib.hid (HX.out.nx (K0.out.trans hn))
  clear hn K0 HX N0
  have x0 := HXU.out.cell 0 rfl
  have x1 := HXU.out.cell 1 rfl
  have x2 := HXU.out.cell 2 rfl
  go_wp2_with fail
  clear x0 x1 x2
  refine (large6_no Ac Ai A1 A2 A3 _ cc ni ci m1 m2 m3 c1 c2 c3 HM.out u1).mono ?_
  rintro e w1 ⟨rfl, hn⟩
  have N1 := Lib.hid (U1.out.trans hn)
  have HX1 := Lib.hid (HXU.out.nx hn)
  clear hn HXU U1
  have x0 := HX1.out.cell 0 rfl
  have x1 := HX1.out.cell 1 rfl
  have x2 := HX1.out.cell 2 rfl
  go_wp2_with fail
  clear x0 x1 x2
  refine (refClone_ok A1 A2 A3 m1 m2 m3 c1 c2 c3 y1 y2 y3 HS.out.2.2.1 HS.out.2.2.2.1 HS.out.2.2.2.2 w1 (H1.out.nx N1.out) (H2.out.nx N1.out) (H3.out.nx N1.out)).mono ?_
  rintro e w2 ⟨v, rfl, hv, hn⟩
  obtain ⟨v1, v2, v3, rfl, o1, o2, o3⟩ := hv.os
  obtain ⟨Q1, k1, rfl, i1⟩ := o1.im
  obtain ⟨Q2, k2, rfl, i2⟩ := o2.im
  obtain ⟨Q3, k3, rfl, i3⟩ := o3.im
  have J1 := Lib.hid i1
  have J2 := Lib.hid i2
  have J3 := Lib.hid i3
  have N2 := Lib.hid (N1.out.trans hn)
  have HX2 := Lib.hid (HX1.out.nx hn)
  clear hn HX1 hv o1 o2 o3 i1 i2 i3
  have YB := bx_new w2 25 [.slice Q1 y1.length k1, .slice Q2 y2.length k2, .slice Q3 y3.length k3]
  have k := Nx.one w2 (.cells #[.slice Q1 y1.length k1, .slice Q2 y2.length k2, .slice Q3 y3.length k3] 25)
  have HY := Lib.hid YB
  have N3 := Lib.hid (N2.out.trans k)
  have K3 := Lib.hid k
  have HX3 := Lib.hid (HX2.out.nx k)
  have x0 := HX3.out.cell 0 rfl
  have x1 := HX3.out.cell 1 rfl
  have x2 := HX3.out.cell 2 rfl
  clear YB k HX2
  go_wp2_with fail
  clear x0 x1 x2
  generalize w2.alloc (.cells #[.slice Q1 y1.length k1, .slice Q2 y2.length k2, .slice Q3 y3.length k3] 25) = W3 at *
  have HFT := Lib.hid (fit_mc0 (code := code) HS.out.1 (x1 := y1) (x2 := y2) (x3 := y3) ⟨by rw [im_len H1.out]; exact HS.out.2.2.1, by rw [im_len H2.out]; exact HS.out.2.2.2.1, by rw [im_len H3.out]; exact HS.out.2.2.2.2⟩)
  have CN := Lib.hid (fun w' (q : Nx W3 w') => (vmNew_any code inp y1 y2 y3 HS.out.1 Ac Ai A1 A2 A3 cc ni ci m1 c1 m2 c2 m3 c3 HS.out.2.1 HS.out.2.2.1 HS.out.2.2.2.1 HS.out.2.2.2.2 w' (HC.out.nx (N3.out.trans q)) HN.out (HI.out.nx (N3.out.trans q)) (H1.out.nx (N3.out.trans q)) (H2.out.nx (N3.out.trans q)) (H3.out.nx (N3.out.trans q))).mono (fun e w2' (hh : NewPM code inp y1 y2 y3 w' e w2') => (show ∃ b sb ge, e = .returned (.pointer (some ⟨b, 0, none⟩)) ∧ PM w2' W3.heap.size b sb none ge 0 code inp (mc0 y1 y2 y3) ∧ Nx W3 w2' from by
    obtain ⟨b, sb, ge, rfl, hp, hk⟩ := hh
    exact ⟨b, sb, ge, rfl, hp.low q.size, q.trans hk⟩)))
  have CR := Lib.hid (fun (F : Nat → Prop) w' (q : Nx W3 w') (hF : ∀ k, F k → k < w'.heap.size) => refNew_ok (F := F) code inp y1 y2 y3 HS.out.1 Ac Ai A1 A2 A3 cc ni ci m1 c1 m2 c2 m3 c3 HS.out.2.1 HS.out.2.2.1 HS.out.2.2.2.1 HS.out.2.2.2.2 w' (HC.out.nx (N3.out.trans q)) HN.out (HI.out.nx (N3.out.trans q)) (H1.out.nx (N3.out.trans q)) (H2.out.nx (N3.out.trans q)) (H3.out.nx (N3.out.trans q)) hF)
  have x0 := HX3.out.cell 0 rfl
  have x1 := HX3.out.cell 1 rfl
  have x2 := HX3.out.cell 2 rfl
  go_cut [11, 12] (fun a c wx => ∃ b sb ge rb, a = .pointer (some ⟨b, 0, none⟩) ∧ c = .pointer (some ⟨rb, 0, none⟩) ∧ Both W3 wx b sb ge rb code inp (mc0 y1 y2 y3))
  case first =>
    go_region_with (first
      | (go_at_call 22; (with_reducible refine (CN.out _ (by repeat (first | exact Nx.refl _ | assumption | refine Nx.drewN ?_ _ | refine Nx.drew ?_ | refine Nx.alloc ?_ _ | refine Nx.set ?_ (by first | exact Nat.le_refl _ | (simp; done) | (simp; omega)) _))).mono ?_); rintro e ua ⟨b, sb, ge, rfl, hp, hk⟩; have P1 := Lib.hid hp; have UA := Lib.hid hk; have HXA := HX3.out.nx hk; have xa0 := HXA.cell 0 rfl; have xa1 := HXA.cell 1 rfl; have xa2 := HXA.cell 2 rfl; clear hp hk HXA)
      | (go_at_call 23; (with_reducible refine (CR.out (Fp b sb none ge) _ UA.out (Fp.lt P1.out)).mono ?_); rintro e ub ⟨rb, rfl, hr, hb, hk⟩; have R1 := Lib.hid hr; have HB := Lib.hid (Nat.le_trans UA.out.size hb); have UB := Lib.hid hk; clear hr hb hk))
    all_goals
      go_wp2_with fail
      go_meet
      exact ⟨b, sb, ge, rb, rfl, rfl, none, 0, P1.out.nx UB.out, R1.out, HB.out, UA.out.trans UB.out⟩
  case rest =>
    obtain ⟨b, sb, ge, rb, rfl, rfl, hbo⟩ := hcut
    have B0 := Lib.hid hbo
    clear hbo CN CR x0 x1 x2
    obtain ⟨L, hL⟩ : ∃ L, code.length = L := ⟨_, rfl⟩
    have hL6 : L ≤ 1000000 := by have := HS.out.1; omega
    have HNF := Lib.hid (nf_mc0 y1 y2 y3)
    rw [hL]
    have HL := Lib.hid hL
    clear hL
    generalize mc0 y1 y2 y3 = s0 at *
    go_wp2_with fail
    go_loopw [68] (fun vi wr => ∃ (s : Mc) (n : Nat), vi = .int .i64 n ∧ Both W3 wr b sb ge rb code inp s ∧ FitL code s ∧ NF s ∧ n ≤ L + 3)
      (fun vi _ => L + 4 - (intOf vi).toNat)
    case atStart => exact ⟨s0, 0, rfl, B0.out, HFT.out, HNF.out, by omega⟩
    case round =>
      obtain ⟨s, n, rfl, hr, hf, hnf, hle⟩ := hrel
      clear B0 HFT HNF
      by_cases hin : n < L + 3
      · have hin' : (n : Int) < (L : Int) + 3 := by omega
        have CL := Lib.hid (hr.step1 hf.1 hnf)
        have HF := Lib.hid hf.1
        have F1 := stp_fit (inp := inp) hf
        have hnf1 := stp_nf (code := code) (inp := inp) hnf
        have CL2 := Lib.hid (fun w' (h : Ahead W3 w' b sb ge rb code inp s (stp code inp s).1) => h.step2 hf.1)
        obtain ⟨s1, c1', e1, hS⟩ : ∃ s1 c1 e1, stp code inp s = (s1, c1, e1) := ⟨_, _, _, rfl⟩
        rw [hS] at CL CL2 F1 hnf1
        simp only at CL CL2 F1 hnf1
        have HF1 := Lib.hid F1
        have HNF1 := Lib.hid hnf1
        clear hS F1 hnf1 hf hnf hr
        go_wp2_with fail
        refine CL.out.mono ?_
        rintro e u2 ⟨rfl, hp⟩
        have P2 := Lib.hid hp
        clear hp CL
        go_wp2_with fail
        refine (CL2.out _ P2.out).mono ?_
        rintro e u3 ⟨rfl, hp⟩
        have P3 := Lib.hid hp
        have K4 := Lib.hid (show Nx W3 u3 from by obtain ⟨_, _, _, _, _, q⟩ := hp; exact q)
        clear hp CL2 P2 HF
        go_wp2_with fail
        have CA := Lib.hid (fun w' (q : Nx u3 w') => (show Calls Try.prog 17 #[.pointer (some ⟨b, 0, none⟩)] w' (fun e w2 => e = .returned (.bool s1.acc) ∧ Nx w' w2) from by obtain ⟨_, _, h1, _⟩ := P3.out; exact vmAcc_any _ b sb _ ge _ code inp s1 w' (h1.nx q)))
        have CD := Lib.hid (fun w' (q : Nx u3 w') => (show Calls Try.prog 18 #[.pointer (some ⟨b, 0, none⟩)] w' (fun e w2 => e = .returned (.int .i64 (s1.stk.length : Int)) ∧ Nx w' w2) from by obtain ⟨_, _, h1, _⟩ := P3.out; exact vmDepth_any _ b sb _ ge _ code inp s1 w' (h1.nx q)))
        have CP := Lib.hid (fun w' (q : Nx u3 w') => (show Calls Try.prog 19 #[.pointer (some ⟨b, 0, none⟩)] w' (fun e w2 => e = .returned (.int .i64 (s1.pc : Int)) ∧ Nx w' w2) from by obtain ⟨_, _, h1, _⟩ := P3.out; exact vmAt_any _ b sb _ ge _ code inp s1 w' (h1.nx q)))
        have CS := Lib.hid (fun w' (q : Nx u3 w') => (show Calls Try.prog 20 #[.pointer (some ⟨b, 0, none⟩)] w' (CopyP s1 w') from by obtain ⟨_, _, h1, _⟩ := P3.out; exact vmState_any _ b sb _ ge _ code inp s1 HF1.out.1 w' (h1.nx q)))
        unfold CopyP at CS
        obtain ⟨_, _, _, hrm, _⟩ := P3.out
        obtain ⟨_, _, D1, D2, D3, Dk, _, _, g1, g2, g3, gk, hbx, _, _, d1, d2, d3, _⟩ := hrm
        have OD := Lib.hid (And.intro d1.1 (And.intro d2.1 d3.1))
        have HYW := Lib.hid (fun w' (q : Nx u3 w') => (show w'.cell? ⟨rb, 2, none⟩ = some (.slice D1 s1.q.length g1) ∧ w'.cell? ⟨rb, 3, none⟩ = some (.slice D2 s1.m.length g2) ∧ w'.cell? ⟨rb, 4, none⟩ = some (.slice D3 s1.e.length g3) ∧ w'.cell? ⟨rb, 5, none⟩ = some (.int .i64 (s1.pc : Int)) ∧ w'.cell? ⟨rb, 6, none⟩ = some (.bool s1.acc) ∧ w'.cell? ⟨rb, 7, none⟩ = some (.slice Dk s1.stk.length gk) from
          ⟨(hbx.nx q).cell 2 rfl, (hbx.nx q).cell 3 rfl, (hbx.nx q).cell 4 rfl, (hbx.nx q).cell 5 rfl, (hbx.nx q).cell 6 rfl, (hbx.nx q).cell 7 rfl⟩))
        clear hbx d1 d2 d3
        refine wp_region_run (by kernel_rfl) (by kernel_rfl) (by kernel_rfl) (fun _ => []) (by kernel_rfl) Nx (fun _ _ k => k) (fun _ _ _ => Nx.trans) 46 (fun _ => True) (psiS b rb D1 D2 D3 Dk g1 g2 g3 gk s1 e1 c1') ?_ ?_ ?_ (fun _ _ _ h => h) trivial ?_ ?_
        · intro j f f' u e hs hp
          unfold psiS at hp ⊢
          split at hp
          all_goals first | exact hp | (rw [← e]; exact hp)
        · intro j f u u' hj k hp
          unfold psiS at hp ⊢
          split at hp
          case h_39 => obtain ⟨p1, p2, p3, o1, o2, o3, e, h1, h2, h3⟩ := hp; exact ⟨p1, p2, p3, o1, o2, o3, e, h1.nx k, h2.nx k, h3.nx k⟩
          all_goals exact hp
        · intro f u u' k hp
          exact hp
        · intro i o ho a1 w1 K hF hJ hR hE hK
          have hsz : a1.tmps.size = 133 := hF.2.1
          have f11 : a1.tmps[11]?.getD undef = .pointer (some ⟨b, 0, none⟩) := tmp_of (hF.2.2 11 (by kernel_rfl))
          have f12 : a1.tmps[12]?.getD undef = .pointer (some ⟨rb, 0, none⟩) := tmp_of (hF.2.2 12 (by kernel_rfl))
          have f13 : a1.tmps[13]?.getD undef = .bool c1' := tmp_of (hF.2.2 13 (by kernel_rfl))
          have f14 : a1.tmps[14]?.getD undef = .int .i64 e1 := tmp_of (hF.2.2 14 (by kernel_rfl))
          have f15 : a1.tmps[15]?.getD undef = .bool c1' := tmp_of (hF.2.2 15 (by kernel_rfl))
          have f16 : a1.tmps[16]?.getD undef = .int .i64 e1 := tmp_of (hF.2.2 16 (by kernel_rfl))
          obtain ⟨z2, z3, z4, z5, z6, z7⟩ := HYW.out w1 hR
          rcases i with _ | _ | _ | _ | _ | _ | _ | _ | _ | _ | _ | _ | _ | _ | _ | _ | _ | _ | _ | _ | _ | _ | _ | _ | _ | _ | _ | _ | _ | _ | _ | _ | _ | _ | _ | _ | _ | _ | _ | _ | _ | _ | _ | _ | _ | _ | i
          · obtain rfl := Option.some.inj ho
            refine Or.inl ⟨wanted_none rfl, ?_⟩
            have hK0 := Lib.hid hK
            clear hK hE hF hR hJ hsz
            unfold Oper.wp
            go_simp
            exact hK0.out (.bool c1') _ (fun _ => Nx.refl _) (fun h => by cases h) (upd_same _ _ _) (fun h => by cases h)
          · obtain rfl := Option.some.inj ho
            refine Or.inl ⟨wanted_none rfl, ?_⟩
            have hK0 := Lib.hid hK
            clear hK hE hF hR hJ hsz
            unfold Oper.wp
            go_simp
            exact hK0.out (.bool c1') _ (fun _ => Nx.refl _) (fun h => by cases h) (upd_same _ _ _) (fun h => by cases h)
          · obtain rfl := Option.some.inj ho
            refine Or.inl ⟨wanted_none rfl, ?_⟩
            have e80 : a1.tmps[80]?.getD undef = .bool c1' := tmp_of (show a1.tmps.getD 80 undef = _ from hE ⟨0, .data⟩ (by simp) rfl)
            have e81 : a1.tmps[81]?.getD undef = .bool c1' := tmp_of (show a1.tmps.getD 81 undef = _ from hE ⟨1, .data⟩ (by simp) rfl)
            have hK0 := Lib.hid hK
            clear hK hE hF hR hJ hsz
            unfold Oper.wp
            go_simp
            exact hK0.out (.bool false) _ (fun _ => Nx.refl _) (fun h => by cases h) (upd_same _ _ _) (fun h => by cases h)
          · obtain rfl := Option.some.inj ho
            refine Or.inl ⟨wanted_none rfl, ?_⟩
            have e82 : a1.tmps[82]?.getD undef = .bool false := tmp_of (show a1.tmps.getD 82 undef = _ from hE ⟨2, .data⟩ (by simp) rfl)
            have hK0 := Lib.hid hK
            clear hK hE hF hR hJ hsz
            unfold Oper.wp
            go_simp
            exact hK0.out (.bool false) _ (fun _ => Nx.refl _) (fun h => by cases h) (upd_same _ _ _) (fun h => by cases h)
          · obtain rfl := Option.some.inj ho
            refine Or.inl ⟨(wanted_of (b := false) rfl rfl (by rw [hsz]; decide) (hE ⟨3, .guard⟩ (by simp) rfl)).trans (by rfl), ?_⟩
            have hK0 := Lib.hid hK
            clear hK hE hF hR hJ hsz
            unfold Oper.wp
            go_simp
            exact hK0.out (.int .i64 e1) _ (fun _ => Nx.refl _) (fun h => by cases h) (upd_same _ _ _) (fun h => by cases h)
          · obtain rfl := Option.some.inj ho
            refine Or.inl ⟨(wanted_of (b := false) rfl rfl (by rw [hsz]; decide) (hE ⟨3, .guard⟩ (by simp) rfl)).trans (by rfl), ?_⟩
            have hK0 := Lib.hid hK
            clear hK hE hF hR hJ hsz
            unfold Oper.wp
            go_simp
            exact hK0.out (.int .i64 e1) _ (fun _ => Nx.refl _) (fun h => by cases h) (upd_same _ _ _) (fun h => by cases h)
          · obtain rfl := Option.some.inj ho
            refine Or.inl ⟨(wanted_of (b := false) rfl rfl (by rw [hsz]; decide) (hE ⟨3, .guard⟩ (by simp) rfl)).trans (by rfl), ?_⟩
            have e84 : a1.tmps[84]?.getD undef = .int .i64 e1 := tmp_of (show a1.tmps.getD 84 undef = _ from hE ⟨4, .data⟩ (by simp) rfl)
            have e85 : a1.tmps[85]?.getD undef = .int .i64 e1 := tmp_of (show a1.tmps.getD 85 undef = _ from hE ⟨5, .data⟩ (by simp) rfl)
            have hK0 := Lib.hid hK
            clear hK hE hF hR hJ hsz
            unfold Oper.wp
            go_simp
            exact hK0.out (.bool false) _ (fun _ => Nx.refl _) (fun h => by cases h) (upd_same _ _ _) (fun h => by cases h)
          · obtain rfl := Option.some.inj ho
            refine Or.inl ⟨wanted_none rfl, ?_⟩
            have e83 : a1.tmps[83]?.getD undef = .bool false := tmp_of (show a1.tmps.getD 83 undef = _ from hE ⟨3, .data⟩ (by simp) rfl)
            have e86 : a1.tmps[86]?.getD undef = .bool false := tmp_of (show a1.tmps.getD 86 undef = _ from hE ⟨6, .data⟩ (by simp) rfl)
            have hK0 := Lib.hid hK
            clear hK hE hF hR hJ hsz
            unfold Oper.wp
            go_simp
            exact hK0.out (.bool false) _ (fun _ => Nx.refl _) (fun h => by cases h) (upd_same _ _ _) (fun h => by cases h)
          · obtain rfl := Option.some.inj ho
            refine Or.inl ⟨wanted_none rfl, ?_⟩
            have e87 : a1.tmps[87]?.getD undef = .bool false := tmp_of (show a1.tmps.getD 87 undef = _ from hE ⟨7, .data⟩ (by simp) rfl)
            have hK0 := Lib.hid hK
            clear hK hE hF hR hJ hsz
            unfold Oper.wp
            go_simp
            exact hK0.out (.bool false) _ (fun _ => Nx.refl _) (fun h => by cases h) (upd_same _ _ _) (fun h => by cases h)
          · obtain rfl := Option.some.inj ho
            refine Or.inl ⟨(wanted_of (b := false) rfl rfl (by rw [hsz]; decide) (hE ⟨8, .guard⟩ (by simp) rfl)).trans (by rfl), ?_⟩
            have hK0 := Lib.hid hK
            clear hK hE hF hR hJ hsz
            unfold Oper.wp
            go_simp
            exact hK0.out (.pointer (some ⟨b, 0, none⟩)) _ (fun _ => Nx.refl _) (fun h => by cases h) (upd_same _ _ _) (fun h => by cases h)
          · obtain rfl := Option.some.inj ho
            refine Or.inl ⟨(wanted_of (b := false) rfl rfl (by rw [hsz]; decide) (hE ⟨8, .guard⟩ (by simp) rfl)).trans (by rfl), ?_⟩
            have e89 : a1.tmps[89]?.getD undef = .pointer (some ⟨b, 0, none⟩) := tmp_of (show a1.tmps.getD 89 undef = _ from hE ⟨9, .data⟩ (by simp) rfl)
            have hR0 := Lib.hid hR
            have hK0 := Lib.hid hK
            clear hK hE hF hR hJ hsz
            unfold Oper.wp
            go_simp
            refine (CA.out _ hR0.out).mono ?_
            rintro e v6 ⟨rfl, q6⟩
            exact hK0.out _ _ (fun _ => q6) (fun h => by cases h) (upd_same _ _ _) (fun h => by cases h)
          · obtain rfl := Option.some.inj ho
            refine Or.inl ⟨(wanted_of (b := false) rfl rfl (by rw [hsz]; decide) (hE ⟨8, .guard⟩ (by simp) rfl)).trans (by rfl), ?_⟩
            have hK0 := Lib.hid hK
            clear hK hE hF hR hJ hsz
            unfold Oper.wp
            go_simp
            exact hK0.out (.pointer (some ⟨rb, 0, none⟩)) _ (fun _ => Nx.refl _) (fun h => by cases h) (upd_same _ _ _) (fun h => by cases h)
          · obtain rfl := Option.some.inj ho
            refine Or.inl ⟨(wanted_of (b := false) rfl rfl (by rw [hsz]; decide) (hE ⟨8, .guard⟩ (by simp) rfl)).trans (by rfl), ?_⟩
            have e91 : a1.tmps[91]?.getD undef = .pointer (some ⟨rb, 0, none⟩) := tmp_of (show a1.tmps.getD 91 undef = _ from hE ⟨11, .data⟩ (by simp) rfl)
            have hK0 := Lib.hid hK
            clear hK hE hF hR hJ hsz
            unfold Oper.wp
            go_simp
            exact hK0.out (.pointer (some ⟨rb, 0, none⟩)) _ (fun _ => Nx.refl _) (fun h => by cases h) (upd_same _ _ _) (fun h => by cases h)
          · obtain rfl := Option.some.inj ho
            refine Or.inl ⟨(wanted_of (b := false) rfl rfl (by rw [hsz]; decide) (hE ⟨8, .guard⟩ (by simp) rfl)).trans (by rfl), ?_⟩
            have e92 : a1.tmps[92]?.getD undef = .pointer (some ⟨rb, 0, none⟩) := tmp_of (show a1.tmps.getD 92 undef = _ from hE ⟨12, .data⟩ (by simp) rfl)
            have hK0 := Lib.hid hK
            clear hK hE hF hR hJ hsz
            unfold Oper.wp
            go_simp
            exact hK0.out (.pointer (some ⟨rb, 6, none⟩)) _ (fun _ => Nx.refl _) (fun h => by cases h) (upd_same _ _ _) (fun h => by cases h)
          · obtain rfl := Option.some.inj ho
            refine Or.inl ⟨(wanted_of (b := false) rfl rfl (by rw [hsz]; decide) (hE ⟨8, .guard⟩ (by simp) rfl)).trans (by rfl), ?_⟩
            have e93 : a1.tmps[93]?.getD undef = .pointer (some ⟨rb, 6, none⟩) := tmp_of (show a1.tmps.getD 93 undef = _ from hE ⟨13, .data⟩ (by simp) rfl)
            have hK0 := Lib.hid hK
            clear hK hE hF hR hJ hsz
            unfold Oper.wp
            go_simp
            exact hK0.out (.bool s1.acc) _ (fun _ => Nx.refl _) (fun h => by cases h) (upd_same _ _ _) (fun h => by cases h)
          · obtain rfl := Option.some.inj ho
            refine Or.inl ⟨(wanted_of (b := false) rfl rfl (by rw [hsz]; decide) (hE ⟨8, .guard⟩ (by simp) rfl)).trans (by rfl), ?_⟩
            have e90 : a1.tmps[90]?.getD undef = .bool s1.acc := tmp_of (show a1.tmps.getD 90 undef = _ from hE ⟨10, .data⟩ (by simp) rfl)
            have e94 : a1.tmps[94]?.getD undef = .bool s1.acc := tmp_of (show a1.tmps.getD 94 undef = _ from hE ⟨14, .data⟩ (by simp) rfl)
            have hK0 := Lib.hid hK
            clear hK hE hF hR hJ hsz
            unfold Oper.wp
            go_simp
            exact hK0.out (.bool false) _ (fun _ => Nx.refl _) (fun h => by cases h) (upd_same _ _ _) (fun h => by cases h)
          · obtain rfl := Option.some.inj ho
            refine Or.inl ⟨wanted_none rfl, ?_⟩
            have e88 : a1.tmps[88]?.getD undef = .bool false := tmp_of (show a1.tmps.getD 88 undef = _ from hE ⟨8, .data⟩ (by simp) rfl)
            have e95 : a1.tmps[95]?.getD undef = .bool false := tmp_of (show a1.tmps.getD 95 undef = _ from hE ⟨15, .data⟩ (by simp) rfl)
            have hK0 := Lib.hid hK
            clear hK hE hF hR hJ hsz
            unfold Oper.wp
            go_simp
            exact hK0.out (.bool false) _ (fun _ => Nx.refl _) (fun h => by cases h) (upd_same _ _ _) (fun h => by cases h)
          · obtain rfl := Option.some.inj ho
            refine Or.inl ⟨wanted_none rfl, ?_⟩
            have e96 : a1.tmps[96]?.getD undef = .bool false := tmp_of (show a1.tmps.getD 96 undef = _ from hE ⟨16, .data⟩ (by simp) rfl)
            have hK0 := Lib.hid hK
            clear hK hE hF hR hJ hsz
            unfold Oper.wp
            go_simp
            exact hK0.out (.bool false) _ (fun _ => Nx.refl _) (fun h => by cases h) (upd_same _ _ _) (fun h => by cases h)
          · obtain rfl := Option.some.inj ho
            refine Or.inl ⟨(wanted_of (b := false) rfl rfl (by rw [hsz]; decide) (hE ⟨17, .guard⟩ (by simp) rfl)).trans (by rfl), ?_⟩
            have hK0 := Lib.hid hK
            clear hK hE hF hR hJ hsz
            unfold Oper.wp
            go_simp
            exact hK0.out (.pointer (some ⟨b, 0, none⟩)) _ (fun _ => Nx.refl _) (fun h => by cases h) (upd_same _ _ _) (fun h => by cases h)
          · obtain rfl := Option.some.inj ho
            refine Or.inl ⟨(wanted_of (b := false) rfl rfl (by rw [hsz]; decide) (hE ⟨17, .guard⟩ (by simp) rfl)).trans (by rfl), ?_⟩
            have e98 : a1.tmps[98]?.getD undef = .pointer (some ⟨b, 0, none⟩) := tmp_of (show a1.tmps.getD 98 undef = _ from hE ⟨18, .data⟩ (by simp) rfl)
            have hR0 := Lib.hid hR
            have hK0 := Lib.hid hK
            clear hK hE hF hR hJ hsz
            unfold Oper.wp
            go_simp
            refine (CD.out _ hR0.out).mono ?_
            rintro e v6 ⟨rfl, q6⟩
            exact hK0.out _ _ (fun _ => q6) (fun h => by cases h) (upd_same _ _ _) (fun h => by cases h)
          · obtain rfl := Option.some.inj ho
            refine Or.inl ⟨(wanted_of (b := false) rfl rfl (by rw [hsz]; decide) (hE ⟨17, .guard⟩ (by simp) rfl)).trans (by rfl), ?_⟩
            have hK0 := Lib.hid hK
            clear hK hE hF hR hJ hsz
            unfold Oper.wp
            go_simp
            exact hK0.out (.pointer (some ⟨rb, 0, none⟩)) _ (fun _ => Nx.refl _) (fun h => by cases h) (upd_same _ _ _) (fun h => by cases h)
          · obtain rfl := Option.some.inj ho
            refine Or.inl ⟨(wanted_of (b := false) rfl rfl (by rw [hsz]; decide) (hE ⟨17, .guard⟩ (by simp) rfl)).trans (by rfl), ?_⟩
            have e100 : a1.tmps[100]?.getD undef = .pointer (some ⟨rb, 0, none⟩) := tmp_of (show a1.tmps.getD 100 undef = _ from hE ⟨20, .data⟩ (by simp) rfl)
            have hK0 := Lib.hid hK
            clear hK hE hF hR hJ hsz
            unfold Oper.wp
            go_simp
            exact hK0.out (.pointer (some ⟨rb, 0, none⟩)) _ (fun _ => Nx.refl _) (fun h => by cases h) (upd_same _ _ _) (fun h => by cases h)
          · obtain rfl := Option.some.inj ho
            refine Or.inl ⟨(wanted_of (b := false) rfl rfl (by rw [hsz]; decide) (hE ⟨17, .guard⟩ (by simp) rfl)).trans (by rfl), ?_⟩
            have e101 : a1.tmps[101]?.getD undef = .pointer (some ⟨rb, 0, none⟩) := tmp_of (show a1.tmps.getD 101 undef = _ from hE ⟨21, .data⟩ (by simp) rfl)
            have hK0 := Lib.hid hK
            clear hK hE hF hR hJ hsz
            unfold Oper.wp
            go_simp
            exact hK0.out (.pointer (some ⟨rb, 7, none⟩)) _ (fun _ => Nx.refl _) (fun h => by cases h) (upd_same _ _ _) (fun h => by cases h)
          · obtain rfl := Option.some.inj ho
            refine Or.inl ⟨(wanted_of (b := false) rfl rfl (by rw [hsz]; decide) (hE ⟨17, .guard⟩ (by simp) rfl)).trans (by rfl), ?_⟩
            have e102 : a1.tmps[102]?.getD undef = .pointer (some ⟨rb, 7, none⟩) := tmp_of (show a1.tmps.getD 102 undef = _ from hE ⟨22, .data⟩ (by simp) rfl)
            have hK0 := Lib.hid hK
            clear hK hE hF hR hJ hsz
            unfold Oper.wp
            go_simp
            exact hK0.out (.slice Dk s1.stk.length gk) _ (fun _ => Nx.refl _) (fun h => by cases h) (upd_same _ _ _) (fun h => by cases h)
          · obtain rfl := Option.some.inj ho
            refine Or.inl ⟨(wanted_of (b := false) rfl rfl (by rw [hsz]; decide) (hE ⟨17, .guard⟩ (by simp) rfl)).trans (by rfl), ?_⟩
            have e103 : a1.tmps[103]?.getD undef = .slice Dk s1.stk.length gk := tmp_of (show a1.tmps.getD 103 undef = _ from hE ⟨23, .data⟩ (by simp) rfl)
            have hK0 := Lib.hid hK
            clear hK hE hF hR hJ hsz
            unfold Oper.wp
            go_simp
            exact hK0.out (.int .i64 (s1.stk.length : Int)) _ (fun _ => Nx.refl _) (fun h => by cases h) (upd_same _ _ _) (fun h => by cases h)
          · obtain rfl := Option.some.inj ho
            refine Or.inl ⟨(wanted_of (b := false) rfl rfl (by rw [hsz]; decide) (hE ⟨17, .guard⟩ (by simp) rfl)).trans (by rfl), ?_⟩
            have e99 : a1.tmps[99]?.getD undef = .int .i64 (s1.stk.length : Int) := tmp_of (show a1.tmps.getD 99 undef = _ from hE ⟨19, .data⟩ (by simp) rfl)
            have e104 : a1.tmps[104]?.getD undef = .int .i64 (s1.stk.length : Int) := tmp_of (show a1.tmps.getD 104 undef = _ from hE ⟨24, .data⟩ (by simp) rfl)
            have hK0 := Lib.hid hK
            clear hK hE hF hR hJ hsz
            unfold Oper.wp
            go_simp
            exact hK0.out (.bool false) _ (fun _ => Nx.refl _) (fun h => by cases h) (upd_same _ _ _) (fun h => by cases h)
          · obtain rfl := Option.some.inj ho
            refine Or.inl ⟨wanted_none rfl, ?_⟩
            have e97 : a1.tmps[97]?.getD undef = .bool false := tmp_of (show a1.tmps.getD 97 undef = _ from hE ⟨17, .data⟩ (by simp) rfl)
            have e105 : a1.tmps[105]?.getD undef = .bool false := tmp_of (show a1.tmps.getD 105 undef = _ from hE ⟨25, .data⟩ (by simp) rfl)
            have hK0 := Lib.hid hK
            clear hK hE hF hR hJ hsz
            unfold Oper.wp
            go_simp
            exact hK0.out (.bool false) _ (fun _ => Nx.refl _) (fun h => by cases h) (upd_same _ _ _) (fun h => by cases h)
          · obtain rfl := Option.some.inj ho
            refine Or.inl ⟨wanted_none rfl, ?_⟩
            have e106 : a1.tmps[106]?.getD undef = .bool false := tmp_of (show a1.tmps.getD 106 undef = _ from hE ⟨26, .data⟩ (by simp) rfl)
            have hK0 := Lib.hid hK
            clear hK hE hF hR hJ hsz
            unfold Oper.wp
            go_simp
            exact hK0.out (.bool false) _ (fun _ => Nx.refl _) (fun h => by cases h) (upd_same _ _ _) (fun h => by cases h)
          · obtain rfl := Option.some.inj ho
            refine Or.inl ⟨(wanted_of (b := false) rfl rfl (by rw [hsz]; decide) (hE ⟨27, .guard⟩ (by simp) rfl)).trans (by rfl), ?_⟩
            have hK0 := Lib.hid hK
            clear hK hE hF hR hJ hsz
            unfold Oper.wp
            go_simp
            exact hK0.out (.pointer (some ⟨b, 0, none⟩)) _ (fun _ => Nx.refl _) (fun h => by cases h) (upd_same _ _ _) (fun h => by cases h)
          · obtain rfl := Option.some.inj ho
            refine Or.inl ⟨(wanted_of (b := false) rfl rfl (by rw [hsz]; decide) (hE ⟨27, .guard⟩ (by simp) rfl)).trans (by rfl), ?_⟩
            have e108 : a1.tmps[108]?.getD undef = .pointer (some ⟨b, 0, none⟩) := tmp_of (show a1.tmps.getD 108 undef = _ from hE ⟨28, .data⟩ (by simp) rfl)
            have hR0 := Lib.hid hR
            have hK0 := Lib.hid hK
            clear hK hE hF hR hJ hsz
            unfold Oper.wp
            go_simp
            refine (CP.out _ hR0.out).mono ?_
            rintro e v6 ⟨rfl, q6⟩
            exact hK0.out _ _ (fun _ => q6) (fun h => by cases h) (upd_same _ _ _) (fun h => by cases h)
          · obtain rfl := Option.some.inj ho
            refine Or.inl ⟨(wanted_of (b := false) rfl rfl (by rw [hsz]; decide) (hE ⟨27, .guard⟩ (by simp) rfl)).trans (by rfl), ?_⟩
            have hK0 := Lib.hid hK
            clear hK hE hF hR hJ hsz
            unfold Oper.wp
            go_simp
            exact hK0.out (.pointer (some ⟨rb, 0, none⟩)) _ (fun _ => Nx.refl _) (fun h => by cases h) (upd_same _ _ _) (fun h => by cases h)
          · obtain rfl := Option.some.inj ho
            refine Or.inl ⟨(wanted_of (b := false) rfl rfl (by rw [hsz]; decide) (hE ⟨27, .guard⟩ (by simp) rfl)).trans (by rfl), ?_⟩
            have e110 : a1.tmps[110]?.getD undef = .pointer (some ⟨rb, 0, none⟩) := tmp_of (show a1.tmps.getD 110 undef = _ from hE ⟨30, .data⟩ (by simp) rfl)
            have hK0 := Lib.hid hK
            clear hK hE hF hR hJ hsz
            unfold Oper.wp
            go_simp
            exact hK0.out (.pointer (some ⟨rb, 0, none⟩)) _ (fun _ => Nx.refl _) (fun h => by cases h) (upd_same _ _ _) (fun h => by cases h)
          · obtain rfl := Option.some.inj ho
            refine Or.inl ⟨(wanted_of (b := false) rfl rfl (by rw [hsz]; decide) (hE ⟨27, .guard⟩ (by simp) rfl)).trans (by rfl), ?_⟩
            have e111 : a1.tmps[111]?.getD undef = .pointer (some ⟨rb, 0, none⟩) := tmp_of (show a1.tmps.getD 111 undef = _ from hE ⟨31, .data⟩ (by simp) rfl)
            have hK0 := Lib.hid hK
            clear hK hE hF hR hJ hsz
            unfold Oper.wp
            go_simp
            exact hK0.out (.pointer (some ⟨rb, 5, none⟩)) _ (fun _ => Nx.refl _) (fun h => by cases h) (upd_same _ _ _) (fun h => by cases h)
          · obtain rfl := Option.some.inj ho
            refine Or.inl ⟨(wanted_of (b := false) rfl rfl (by rw [hsz]; decide) (hE ⟨27, .guard⟩ (by simp) rfl)).trans (by rfl), ?_⟩
            have e112 : a1.tmps[112]?.getD undef = .pointer (some ⟨rb, 5, none⟩) := tmp_of (show a1.tmps.getD 112 undef = _ from hE ⟨32, .data⟩ (by simp) rfl)
            have hK0 := Lib.hid hK
            clear hK hE hF hR hJ hsz
            unfold Oper.wp
            go_simp
            exact hK0.out (.int .i64 (s1.pc : Int)) _ (fun _ => Nx.refl _) (fun h => by cases h) (upd_same _ _ _) (fun h => by cases h)
          · obtain rfl := Option.some.inj ho
            refine Or.inl ⟨(wanted_of (b := false) rfl rfl (by rw [hsz]; decide) (hE ⟨27, .guard⟩ (by simp) rfl)).trans (by rfl), ?_⟩
            have e109 : a1.tmps[109]?.getD undef = .int .i64 (s1.pc : Int) := tmp_of (show a1.tmps.getD 109 undef = _ from hE ⟨29, .data⟩ (by simp) rfl)
            have e113 : a1.tmps[113]?.getD undef = .int .i64 (s1.pc : Int) := tmp_of (show a1.tmps.getD 113 undef = _ from hE ⟨33, .data⟩ (by simp) rfl)
            have hK0 := Lib.hid hK
            clear hK hE hF hR hJ hsz
            unfold Oper.wp
            go_simp
            exact hK0.out (.bool false) _ (fun _ => Nx.refl _) (fun h => by cases h) (upd_same _ _ _) (fun h => by cases h)
          · obtain rfl := Option.some.inj ho
            refine Or.inl ⟨wanted_none rfl, ?_⟩
            have e107 : a1.tmps[107]?.getD undef = .bool false := tmp_of (show a1.tmps.getD 107 undef = _ from hE ⟨27, .data⟩ (by simp) rfl)
            have e114 : a1.tmps[114]?.getD undef = .bool false := tmp_of (show a1.tmps.getD 114 undef = _ from hE ⟨34, .data⟩ (by simp) rfl)
            have hK0 := Lib.hid hK
            clear hK hE hF hR hJ hsz
            unfold Oper.wp
            go_simp
            exact hK0.out (.bool false) _ (fun _ => Nx.refl _) (fun h => by cases h) (upd_same _ _ _) (fun h => by cases h)
          · obtain rfl := Option.some.inj ho
            refine Or.inl ⟨wanted_none rfl, ?_⟩
            have e115 : a1.tmps[115]?.getD undef = .bool false := tmp_of (show a1.tmps.getD 115 undef = _ from hE ⟨35, .data⟩ (by simp) rfl)
            have hK0 := Lib.hid hK
            clear hK hE hF hR hJ hsz
            unfold Oper.wp
            go_simp
            exact hK0.out (.bool false) _ (fun _ => Nx.refl _) (fun h => by cases h) (upd_same _ _ _) (fun h => by cases h)
          · obtain rfl := Option.some.inj ho
            refine Or.inl ⟨(wanted_of (b := false) rfl rfl (by rw [hsz]; decide) (hE ⟨36, .guard⟩ (by simp) rfl)).trans (by rfl), ?_⟩
            have hK0 := Lib.hid hK
            clear hK hE hF hR hJ hsz
            unfold Oper.wp
            go_simp
            exact hK0.out (.pointer (some ⟨b, 0, none⟩)) _ (fun _ => Nx.refl _) (fun h => by cases h) (upd_same _ _ _) (fun h => by cases h)
          · obtain rfl := Option.some.inj ho
            refine Or.inl ⟨(wanted_of (b := false) rfl rfl (by rw [hsz]; decide) (hE ⟨36, .guard⟩ (by simp) rfl)).trans (by rfl), ?_⟩
            have e117 : a1.tmps[117]?.getD undef = .pointer (some ⟨b, 0, none⟩) := tmp_of (show a1.tmps.getD 117 undef = _ from hE ⟨37, .data⟩ (by simp) rfl)
            have hR0 := Lib.hid hR
            have hK0 := Lib.hid hK
            clear hK hE hF hR hJ hsz
            unfold Oper.wp
            go_simp
            refine (CS.out _ hR0.out).mono ?_
            rintro e v6 ⟨p1, p2, p3, o1, o2, o3, rfl, _, ⟨oc1, oc2, oc3⟩, q6⟩
            exact hK0.out _ _ (fun _ => q6) (fun h => by cases h) ⟨p1, p2, p3, o1, o2, o3, upd_same _ _ _, oc1.low (Nat.zero_le _), oc2.low (Nat.zero_le _), oc3.low (Nat.zero_le _)⟩ (fun h => by cases h)
          · obtain rfl := Option.some.inj ho
            refine Or.inl ⟨(wanted_of (b := false) rfl rfl (by rw [hsz]; decide) (hE ⟨36, .guard⟩ (by simp) rfl)).trans (by rfl), ?_⟩
            have hK0 := Lib.hid hK
            clear hK hE hF hR hJ hsz
            unfold Oper.wp
            go_simp
            exact hK0.out (.pointer (some ⟨rb, 0, none⟩)) _ (fun _ => Nx.refl _) (fun h => by cases h) (upd_same _ _ _) (fun h => by cases h)
          · obtain rfl := Option.some.inj ho
            refine Or.inl ⟨(wanted_of (b := false) rfl rfl (by rw [hsz]; decide) (hE ⟨36, .guard⟩ (by simp) rfl)).trans (by rfl), ?_⟩
            have e119 : a1.tmps[119]?.getD undef = .pointer (some ⟨rb, 0, none⟩) := tmp_of (show a1.tmps.getD 119 undef = _ from hE ⟨39, .data⟩ (by simp) rfl)
            have hK0 := Lib.hid hK
            clear hK hE hF hR hJ hsz
            unfold Oper.wp
            go_simp
            exact hK0.out (.pointer (some ⟨rb, 0, none⟩)) _ (fun _ => Nx.refl _) (fun h => by cases h) (upd_same _ _ _) (fun h => by cases h)
          · obtain rfl := Option.some.inj ho
            refine Or.inl ⟨(wanted_of (b := false) rfl rfl (by rw [hsz]; decide) (hE ⟨36, .guard⟩ (by simp) rfl)).trans (by rfl), ?_⟩
            have e120 : a1.tmps[120]?.getD undef = .pointer (some ⟨rb, 0, none⟩) := tmp_of (show a1.tmps.getD 120 undef = _ from hE ⟨40, .data⟩ (by simp) rfl)
            have hK0 := Lib.hid hK
            clear hK hE hF hR hJ hsz
            unfold Oper.wp
            go_simp
            exact hK0.out (.pointer (some ⟨rb, 2, none⟩)) _ (fun _ => Nx.refl _) (fun h => by cases h) (upd_same _ _ _) (fun h => by cases h)
          · obtain rfl := Option.some.inj ho
            refine Or.inl ⟨(wanted_of (b := false) rfl rfl (by rw [hsz]; decide) (hE ⟨36, .guard⟩ (by simp) rfl)).trans (by rfl), ?_⟩
            have e121 : a1.tmps[121]?.getD undef = .pointer (some ⟨rb, 2, none⟩) := tmp_of (show a1.tmps.getD 121 undef = _ from hE ⟨41, .data⟩ (by simp) rfl)
            have hK0 := Lib.hid hK
            clear hK hE hF hR hJ hsz
            unfold Oper.wp
            go_simp
            exact hK0.out (.agg #[.slice D1 s1.q.length g1, .slice D2 s1.m.length g2, .slice D3 s1.e.length g3]) _ (fun _ => Nx.refl _) (fun h => by cases h) (upd_same _ _ _) (fun h => by cases h)
          · obtain rfl := Option.some.inj ho
            refine Or.inl ⟨(wanted_of (b := false) rfl rfl (by rw [hsz]; decide) (hE ⟨36, .guard⟩ (by simp) rfl)).trans (by rfl), ?_⟩
            obtain ⟨p1, p2, p3, o1, o2, o3, ee, oc1, oc2, oc3⟩ : ∃ p1 p2 p3 o1 o2 o3, a1.tmps.getD 118 undef = .agg #[.slice (some ⟨p1, 0, none⟩) s1.q.length o1, .slice (some ⟨p2, 0, none⟩) s1.m.length o2, .slice (some ⟨p3, 0, none⟩) s1.e.length o3] ∧ OwB w1 0 p1 o1 s1.q ∧ OwB w1 0 p2 o2 s1.m ∧ OwB w1 0 p3 o3 s1.e := hE ⟨38, .data⟩ (by simp) rfl
            have e118 := tmp_of ee
            have OC := Lib.hid (And.intro oc1 (And.intro oc2 oc3))
            clear oc1 oc2 oc3 ee
            have e122 : a1.tmps[122]?.getD undef = .agg #[.slice D1 s1.q.length g1, .slice D2 s1.m.length g2, .slice D3 s1.e.length g3] := tmp_of (show a1.tmps.getD 122 undef = _ from hE ⟨42, .data⟩ (by simp) rfl)
            have hR0 := Lib.hid hR
            have hK0 := Lib.hid hK
            clear hK hE hF hR hJ hsz
            unfold Oper.wp
            go_simp
            refine (stRefEqual_any (some ⟨p1, 0, none⟩) (some ⟨p2, 0, none⟩) (some ⟨p3, 0, none⟩) s1.q.length s1.m.length s1.e.length o1 o2 o3 D1 D2 D3 s1.q.length s1.m.length s1.e.length g1 g2 g3 s1.q s1.m s1.e s1.q s1.m s1.e HF1.out.1.1.1 HF1.out.1.1.2.1 HF1.out.1.1.2.2 w1 (OC.out.1.im rfl) (OC.out.2.1.im rfl) (OC.out.2.2.im rfl) (OD.out.1.nx hR0.out) (OD.out.2.1.nx hR0.out) (OD.out.2.2.nx hR0.out)).mono ?_
            rintro e v6 ⟨rfl, q6⟩
            rw [show (eqB s1.q s1.q && eqB s1.m s1.m && eqB s1.e s1.e) = true by simp [eqB]]
            exact hK0.out (.bool true) _ (fun _ => q6) (fun h => by cases h) (upd_same _ _ _) (fun h => by cases h)
          · obtain rfl := Option.some.inj ho
            refine Or.inl ⟨(wanted_of (b := false) rfl rfl (by rw [hsz]; decide) (hE ⟨36, .guard⟩ (by simp) rfl)).trans (by rfl), ?_⟩
            have e123 : a1.tmps[123]?.getD undef = .bool true := tmp_of (show a1.tmps.getD 123 undef = _ from hE ⟨43, .data⟩ (by simp) rfl)
            have hK0 := Lib.hid hK
            clear hK hE hF hR hJ hsz
            unfold Oper.wp
            go_simp
            exact hK0.out (.bool false) _ (fun _ => Nx.refl _) (fun h => by cases h) (upd_same _ _ _) (fun h => by cases h)
          · obtain rfl := Option.some.inj ho
            refine Or.inl ⟨wanted_none rfl, ?_⟩
            have e116 : a1.tmps[116]?.getD undef = .bool false := tmp_of (show a1.tmps.getD 116 undef = _ from hE ⟨36, .data⟩ (by simp) rfl)
            have e124 : a1.tmps[124]?.getD undef = .bool false := tmp_of (show a1.tmps.getD 124 undef = _ from hE ⟨44, .data⟩ (by simp) rfl)
            have hK0 := Lib.hid hK
            clear hK hE hF hR hJ hsz
            unfold Oper.wp
            go_simp
            exact hK0.out (.bool false) _ (fun _ => Nx.refl _) (fun h => by cases h) (upd_same _ _ _) (fun h => by cases h)
          · cases ho
        · intro a1 w1 hF hJ hR hP
          have fr := hF.eq (by kernel_rfl)
          have h45 : view _ a1 45 = .bool false := hP 45 (by decide)
          have P5 := Lib.hid (P3.out.nx hR)
          rw [fr]
          generalize view _ a1 = vv at h45 ⊢
          clear hP hF hJ hR fr
          simp only [putN, Act.put, List.size_toArray, List.length_cons, List.length_nil, Nat.reduceAdd, List.getElem?_toArray, List.getElem?_cons_zero, List.getElem?_cons_succ, Option.bind_some, List.setIfInBounds_toArray, List.set_cons_zero, List.set_cons_succ]
          rw [h45]
          go_wp2_with fail
          go_roundw
          case rel => exact ⟨s1, n + 1, by go_num, P5.out, HF1.out, HNF1.out, by omega⟩
          case measure => simp only [intOf]; omega
      · have hin' : ¬ (n : Int) < (L : Int) + 3 := by omega
        have K4 := Lib.hid (show Nx W3 wr from by obtain ⟨_, _, _, _, _, q⟩ := hr; exact q)
        have x0 := (HX3.out.nx K4.out).cell 0 rfl
        have x1 := (HX3.out.nx K4.out).cell 1 rfl
        have x2 := (HX3.out.nx K4.out).cell 2 rfl
        have yy0 := (HY.out.nx K4.out).cell 0 rfl
        have yy1 := (HY.out.nx K4.out).cell 1 rfl
        have yy2 := (HY.out.nx K4.out).cell 2 rfl
        clear hr hf hnf
        go_wp2_with fail
        clear x0 x1 x2 yy0 yy1 yy2
        refine (HA.out _).mono ?_
        rintro e u4 ⟨rfl, hn⟩
        have K5 := Lib.hid (K4.out.trans hn)
        have x0 := (HX3.out.nx K5.out).cell 0 rfl
        have x1 := (HX3.out.nx K5.out).cell 1 rfl
        have x2 := (HX3.out.nx K5.out).cell 2 rfl
        have yy0 := (HY.out.nx K5.out).cell 0 rfl
        have yy1 := (HY.out.nx K5.out).cell 1 rfl
        have yy2 := (HY.out.nx K5.out).cell 2 rfl
        clear hn
        go_wp2_with fail
        clear x0 x1 x2 yy0 yy1 yy2
        refine (stRefEqual_any A1 A2 A3 m1 m2 m3 c1 c2 c3 Q1 Q2 Q3 y1.length y2.length y3.length k1 k2 k3 y1 y2 y3 y1 y2 y3 HS.out.2.2.1 HS.out.2.2.2.1 HS.out.2.2.2.2 u4 (H1.out.nx (N3.out.trans K5.out)) (H2.out.nx (N3.out.trans K5.out)) (H3.out.nx (N3.out.trans K5.out)) (J1.out.nx (K3.out.trans K5.out)) (J2.out.nx (K3.out.trans K5.out)) (J3.out.nx (K3.out.trans K5.out))).mono ?_
        rintro e u5 ⟨rfl, hn⟩
        have N6 := Lib.hid (N3.out.trans (K5.out.trans hn))
        rw [show (eqB y1 y1 && eqB y2 y2 && eqB y3 y3) = true by simp [eqB]]
        clear hn
        go_wp2_with fail
        go_ret
        exact ⟨rfl, N6.out⟩
theorem law6_step (code : List In4) (m : Nat) (hl : code.length = m) (inp y1 y2 y3 : List Bool) (Ac Ai A1 A2 A3 : Option Addr) (cc ni ci m1 c1 m2 c2 m3 c3 : Nat) (w : World)
    (hc : RdC w Ac code) (hcn : Ac = none → cc = 0) (hi : Im w Ai ni ci inp) (h1 : Im w A1 m1 c1 y1) (h2 : Im w A2 m2 c2 y2) (h3 : Im w A3 m3 c3 y3) :
    Calls Try.prog 4 #[.slice Ac m cc, .slice Ai ni ci, .agg #[.slice A1 m1 c1, .slice A2 m2 c2, .slice A3 m3 c3]] w fun e w' => e = .returned (.bool true) ∧ Nx w w' := by
  subst hl
  by_cases h : sm6 code.length ni m1 m2 m3
  · exact law6_step_small code inp y1 y2 y3 Ac Ai A1 A2 A3 cc ni ci m1 c1 m2 c2 m3 c3 h w hc hcn hi h1 h2 h3
  · exact law6_step_big Ac Ai A1 A2 A3 code.length cc ni ci m1 c1 m2 c2 m3 c3 h w
end Go.Proofs.Ytmijfipggggdfaa
