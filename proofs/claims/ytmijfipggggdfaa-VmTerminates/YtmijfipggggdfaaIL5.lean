/- The walk of the law that every run ends. No condition. -/
import Derived.Test.YtmijfipggggdfaaIXG
import Derived.Test.YtmijfipggggdfaaMA
namespace Go.Proofs.Ytmijfipggggdfaa
open Go.RowKit

/-- The program counter grows with every step behind which the machine goes on. -/
theorem stp_pc {code : List In4} {inp : List Bool} {s : Mc} (hh : s.hlt = false) (h1 : (stp code inp s).1.hlt = false) : s.pc < (stp code inp s).1.pc := by
  by_cases hp : code.length ≤ s.pc
  · rw [stp_off hh hp] at h1; cases h1
  · have hx : code[s.pc]? = some code[s.pc] := List.getElem?_eq_getElem (by omega)
    by_cases hE : insE inp code.length s code[s.pc] = 0
    · rw [stp_ok hh hx hE] at h1 ⊢
      by_cases h16 : code[s.pc].op = 16
      · rw [insD_16 h16] at h1; cases h1
      · exact (insP_gt hE h16 (by omega)).1
    · rw [stp_no hh hx hE] at h1; cases h1
theorem PMW.at {W w : World} {b sb ge : Nat} {code : List In4} {inp : List Bool} {s : Mc} (h : PMW W w b sb ge code inp s) : Calls Try.prog 19 #[.pointer (some ⟨b, 0, none⟩)] w (fun e w' => e = .returned (.int .i64 (s.pc : Int)) ∧ Nx w w') := by
  obtain ⟨o, nt, h1, _⟩ := h; exact vmAt_any _ b sb o ge nt code inp s w h1
theorem PMW.st {W w : World} {b sb ge : Nat} {code : List In4} {inp : List Bool} {s : Mc} (h : PMW W w b sb ge code inp s) (hf : Fit s) : Calls Try.prog 20 #[.pointer (some ⟨b, 0, none⟩)] w (CopyP s w) := by
  obtain ⟨o, nt, h1, _⟩ := h; exact vmState_any _ b sb o ge nt code inp s hf w h1
theorem PMW.up {W w : World} {b sb ge : Nat} {code : List In4} {inp : List Bool} {s : Mc} (h : PMW W w b sb ge code inp s) : Nx W w := by obtain ⟨o, nt, _, h2⟩ := h; exact h2

set_option maxHeartbeats 6400000 in
set_option maxRecDepth 100000 in
theorem law6_term_big (Ac Ai A1 A2 A3 : Option Addr) (nc cc ni ci m1 c1 m2 c2 m3 c3 : Nat) (h : ¬ sm6 nc ni m1 m2 m3) (w : World) :
    Calls Try.prog 5 #[.slice Ac nc cc, .slice Ai ni ci, .agg #[.slice A1 m1 c1, .slice A2 m2 c2, .slice A3 m3 c3]] w fun e w' => e = .returned (.bool true) ∧ Nx w w' := by
  have N0 := Lib.hid (Nx.one w (.cells #[.slice A1 m1 c1, .slice A2 m2 c2, .slice A3 m3 c3] 25))
  have XS := bx_new w 25 [.slice A1 m1 c1, .slice A2 m2 c2, .slice A3 m3 c3]
  have x0 := XS.cell 0 rfl
  have x1 := XS.cell 1 rfl
  have x2 := XS.cell 2 rfl
  clear XS
  go_enter Try.func5, Try.ntmps5
  go_wp2_with fail
  clear x0 x1 x2
  generalize w.alloc (.cells #[.slice A1 m1 c1, .slice A2 m2 c2, .slice A3 m3 c3] 25) = W at *
  refine (large6_yes Ac Ai A1 A2 A3 nc cc ni ci m1 m2 m3 c1 c2 c3 h W).mono ?_
  rintro e w1 ⟨rfl, hn⟩
  have N1 := Lib.hid (N0.out.trans hn)
  clear hn
  go_wp2_with fail
  refine (al_ok w1).mono ?_
  rintro e w2 ⟨rfl, hn⟩
  have N2 := Lib.hid (N1.out.trans hn)
  clear hn
  go_wp2_with fail
  go_ret
  exact ⟨rfl, N2.out⟩

def psiT (rb b : Nat) (B1 B2 B3 : Option Addr) (m1 m2 m3 d1 d2 d3 : Nat) (s1 : Mc) (kk ee : Int) (j : Nat) (f : Nat → Value) (w : World) : Prop := match j with
  | 0 => f 0 = .bool true
  | 1 => f 1 = .bool true
  | 2 => f 2 = .bool false
  | 3 => f 3 = .bool true
  | 4 => f 4 = .bool true
  | 5 => f 5 = .bool true
  | 6 => f 6 = .int .i64 ee
  | 7 => f 7 = .int .i64 ee
  | 8 => f 8 = .bool true
  | 9 => f 9 = .bool true
  | 10 => f 10 = .bool true
  | 11 => f 11 = .int .i64 ee
  | 12 => f 12 = .pointer (some ⟨rb, 5, none⟩)
  | 13 => f 13 = .int .i64 ee
  | 14 => f 14 = .bool true
  | 15 => f 15 = .bool true
  | 16 => f 16 = .bool true
  | 17 => f 17 = .int .i64 kk
  | 18 => f 18 = .pointer (some ⟨rb, 3, none⟩)
  | 19 => f 19 = .int .i64 kk
  | 20 => f 20 = .bool true
  | 21 => f 21 = .bool true
  | 22 => f 22 = .bool true
  | 23 => f 23 = .pointer (some ⟨b, 0, none⟩)
  | 24 => f 24 = .int .i64 (s1.pc : Int)
  | 25 => f 25 = .pointer (some ⟨rb, 4, none⟩)
  | 26 => f 26 = .int .i64 (s1.pc : Int)
  | 27 => f 27 = .bool true
  | 28 => f 28 = .bool true
  | 29 => f 29 = .bool true
  | 30 => f 30 = .pointer (some ⟨b, 0, none⟩)
  | 31 => ∃ p1 p2 p3 o1 o2 o3, f 31 = .agg #[.slice (some ⟨p1, 0, none⟩) s1.q.length o1, .slice (some ⟨p2, 0, none⟩) s1.m.length o2, .slice (some ⟨p3, 0, none⟩) s1.e.length o3] ∧ OwB w 0 p1 o1 s1.q ∧ OwB w 0 p2 o2 s1.m ∧ OwB w 0 p3 o3 s1.e
  | 32 => f 32 = .pointer (some ⟨rb, 0, none⟩)
  | 33 => f 33 = .agg #[.slice B1 m1 d1, .slice B2 m2 d2, .slice B3 m3 d3]
  | 34 => f 34 = .bool true
  | 35 => f 35 = .bool true
  | 36 => f 36 = .bool true
  | _ => False

set_option maxHeartbeats 64000000 in
set_option maxRecDepth 100000 in
theorem law6_term_small (code : List In4) (inp y1 y2 y3 : List Bool) (Ac Ai A1 A2 A3 : Option Addr) (cc ni ci m1 c1 m2 c2 m3 c3 : Nat) (h : sm6 code.length ni m1 m2 m3) (w : World)
    (hc : RdC w Ac code) (hcn : Ac = none → cc = 0) (hi : Im w Ai ni ci inp) (h1 : Im w A1 m1 c1 y1) (h2 : Im w A2 m2 c2 y2) (h3 : Im w A3 m3 c3 y3) :
    Calls Try.prog 5 #[.slice Ac code.length cc, .slice Ai ni ci, .agg #[.slice A1 m1 c1, .slice A2 m2 c2, .slice A3 m3 c3]] w fun e w' => e = .returned (.bool true) ∧ Nx w w' := by
  have hs : code.length ≤ 1000000 ∧ ni ≤ 1000000 ∧ m1 ≤ 1000000 ∧ m2 ≤ 1000000 ∧ m3 ≤ 1000000 := by obtain ⟨a, b, c, d, e⟩ := h; exact ⟨by omega, by omega, by omega, by omega, by omega⟩
  have N0 := Lib.hid (Nx.one w (.cells #[.slice A1 m1 c1, .slice A2 m2 c2, .slice A3 m3 c3] 25))
  have XS := bx_new w 25 [.slice A1 m1 c1, .slice A2 m2 c2, .slice A3 m3 c3]
  have x0 := XS.cell 0 rfl
  have x1 := XS.cell 1 rfl
  have x2 := XS.cell 2 rfl
  have HX := Lib.hid XS
  have HC := Lib.hid hc
  have HN := Lib.hid hcn
  have HI := Lib.hid hi
  have H1 := Lib.hid h1
  have H2 := Lib.hid h2
  have H3 := Lib.hid h3
  have HS := Lib.hid hs
  have HM := Lib.hid h
  clear XS hc hcn hi h1 h2 h3 hs h
  have HA := Lib.hid (show ∀ w' : World, Calls Try.prog 12 #[] w' (fun e w2 => e = .returned (.bool true) ∧ Nx w' w2) from al_ok)
  go_enter Try.func5, Try.ntmps5
  go_wp2_with fail
  clear x0 x1 x2
  generalize w.alloc (.cells #[.slice A1 m1 c1, .slice A2 m2 c2, .slice A3 m3 c3] 25) = W at *
  refine (large6_no Ac Ai A1 A2 A3 _ cc ni ci m1 m2 m3 c1 c2 c3 HM.out W).mono ?_
  rintro e w1 ⟨rfl, hn⟩
  have N1 := Lib.hid (N0.out.trans hn)
  have HX1 := Lib.hid (HX.out.nx hn)
  clear hn HX N0
  have x0 := HX1.out.cell 0 rfl
  have x1 := HX1.out.cell 1 rfl
  have x2 := HX1.out.cell 2 rfl
  go_wp2_with fail
  clear x0 x1 x2
  refine (vmRunOk code inp y1 y2 y3 Ac Ai A1 A2 A3 cc ni ci m1 c1 m2 c2 m3 c3 w1 HS.out.1 HS.out.2.1 HS.out.2.2.1 HS.out.2.2.2.1 HS.out.2.2.2.2 (HC.out.nx N1.out) HN.out (HI.out.nx N1.out) (H1.out.nx N1.out) (H2.out.nx N1.out) (H3.out.nx N1.out)).mono ?_
  intro e w2 hp
  obtain ⟨B1, B2, B3, d1, d2, d3, rfl, i1, i2, i3, hn⟩ := runPost_cells hp
  have N2 := Lib.hid (N1.out.trans hn)
  have HX2 := Lib.hid (HX1.out.nx hn)
  clear hn HX1 hp
  obtain ⟨r, hr⟩ : ∃ r, run code inp (mc0 y1 y2 y3) 0 = r := ⟨_, rfl⟩
  have HR := Lib.hid hr
  have HLE := Lib.hid (show r.2 ≤ code.length ∧ r.1.pc ≤ code.length by rw [← hr]; exact run_le code inp y1 y2 y3)
  have hlen : r.1.q.length = m1 ∧ r.1.m.length = m2 ∧ r.1.e.length = m3 := by
    have := run_len code inp (mc0 y1 y2 y3) 0
    rw [hr] at this
    exact ⟨this.1.trans (im_len H1.out), this.2.1.trans (im_len H2.out), this.2.2.trans (im_len H3.out)⟩
  have HFT := Lib.hid (fit_mc0 (code := code) HS.out.1 (x1 := y1) (x2 := y2) (x3 := y3) ⟨by rw [im_len H1.out]; exact HS.out.2.2.1, by rw [im_len H2.out]; exact HS.out.2.2.2.1, by rw [im_len H3.out]; exact HS.out.2.2.2.2⟩)
  rw [hr] at i1 i2 i3 ⊢
  obtain ⟨l1, l2, l3⟩ := hlen
  rw [l1] at i1
  rw [l2] at i2
  rw [l3] at i3
  rw [l1, l2, l3]
  have I1 := Lib.hid i1
  have I2 := Lib.hid i2
  have I3 := Lib.hid i3
  clear i1 i2 i3 hr
  obtain ⟨rn, hrn⟩ : ∃ rn, r.2 = rn := ⟨_, rfl⟩
  obtain ⟨rp, hrp⟩ : ∃ rp, r.1.pc = rp := ⟨_, rfl⟩
  obtain ⟨rf, hrf⟩ : ∃ rf, r.1.flt = rf := ⟨_, rfl⟩
  have HRN := Lib.hid hrn
  have HRP := Lib.hid hrp
  have HRF := Lib.hid hrf
  rw [hrn, hrp, hrf]
  clear hrn hrp hrf
  have YB := bx_new w2 30 [.slice B1 m1 d1, .slice B2 m2 d2, .slice B3 m3 d3, .int .i64 (rn : Int), .int .i64 (rp : Int), .int .i64 rf]
  have k := Nx.one w2 (.cells #[.slice B1 m1 d1, .slice B2 m2 d2, .slice B3 m3 d3, .int .i64 (rn : Int), .int .i64 (rp : Int), .int .i64 rf] 30)
  have x0 := (HX2.out.nx k).cell 0 rfl
  have x1 := (HX2.out.nx k).cell 1 rfl
  have x2 := (HX2.out.nx k).cell 2 rfl
  have HY := Lib.hid YB
  have N3 := Lib.hid (N2.out.trans k)
  have K3 := Lib.hid k
  have HX3 := Lib.hid (HX2.out.nx k)
  clear YB k HX2
  go_wp2_with fail
  clear x0 x1 x2
  generalize w2.alloc (.cells #[.slice B1 m1 d1, .slice B2 m2 d2, .slice B3 m3 d3, .int .i64 (rn : Int), .int .i64 (rp : Int), .int .i64 rf] 30) = W3 at *
  refine (vmNew_any code inp y1 y2 y3 HS.out.1 Ac Ai A1 A2 A3 cc ni ci m1 c1 m2 c2 m3 c3 HS.out.2.1 HS.out.2.2.1 HS.out.2.2.2.1 HS.out.2.2.2.2 W3 (HC.out.nx N3.out) HN.out (HI.out.nx N3.out) (H1.out.nx N3.out) (H2.out.nx N3.out) (H3.out.nx N3.out)).mono ?_
  rintro e w4 ⟨b, sb, ge, rfl, hp, k⟩
  have P4 := Lib.hid (show PMW W3 w4 b sb ge code inp (mc0 y1 y2 y3) from ⟨none, 0, hp, k⟩)
  have x0 := (HX3.out.nx k).cell 0 rfl
  have x1 := (HX3.out.nx k).cell 1 rfl
  have x2 := (HX3.out.nx k).cell 2 rfl
  have HY4 := HY.out.nx k
  have y0 := HY4.cell 0 rfl
  have y1' := HY4.cell 1 rfl
  have y2' := HY4.cell 2 rfl
  have y3' := HY4.cell 3 rfl
  have y4 := HY4.cell 4 rfl
  clear hp k HY4
  obtain ⟨L, hL⟩ : ∃ L, code.length = L := ⟨_, rfl⟩
  have le1 : ¬ (L : Int) < (rn : Int) := by have := HLE.out.1; have := HRN.out; omega
  have le2 : ¬ (L : Int) < (rp : Int) := by have := HLE.out.2; have := HRP.out; omega
  have ge1 : ¬ (rn : Int) < 0 := by omega
  have ge2 : ¬ (rp : Int) < 0 := by omega
  have b1 : decide ((rn : Int) < 0) = false := decide_eq_false (by omega)
  have b2 : decide (L < rn) = false := decide_eq_false (by omega)
  have b3 : decide ((rp : Int) < 0) = false := decide_eq_false (by omega)
  have b4 : decide (L < rp) = false := decide_eq_false (by omega)
  have hL6 : L ≤ 1000000 := by have := HS.out.1; omega
  have HL := Lib.hid hL
  have HNF := Lib.hid (nf_mc0 y1 y2 y3)
  have HLT := Lib.hid (show (mc0 y1 y2 y3).hlt = false from rfl)
  have H0 := Lib.hid (show mu code (mc0 y1 y2 y3) ≤ L + 1 by simp [mu, mc0, hL])
  have HPC := Lib.hid (show (mc0 y1 y2 y3).pc = 0 from rfl)
  rw [hL]
  clear hL
  generalize mc0 y1 y2 y3 = s0 at *
  go_wp2_with fail
  clear x0 x1 x2 y0 y1' y2' y3' y4 le1 le2 ge1 ge2 b1 b2 b3 b4
  go_loopw [9, 10, 87] (fun va vn vi wr => ∃ (s : Mc) (n : Nat) (a : Int), va = .int .i64 a ∧ vn = .int .i64 n ∧ vi = .int .i64 n ∧ PMW W3 wr b sb ge code inp s ∧ FitL code s ∧ n + mu code s ≤ L + 1 ∧ run code inp s n = run code inp s0 0 ∧ s.hlt = false ∧ NF s ∧ a < (s.pc : Int))
    (fun _ _ vi _ => L + 2 - (intOf vi).toNat)
  case atStart => exact ⟨s0, 0, -1, rfl, rfl, rfl, P4.out, HFT.out, by have := H0.out; omega, rfl, HLT.out, HNF.out, by have := HPC.out; omega⟩
  case round =>
    obtain ⟨s, n, a, rfl, rfl, rfl, hr, hf, hle, hrun, hh, hnf, hat⟩ := hrel
    clear P4 HFT H0 HLT HNF HPC
    obtain ⟨s1, c1', e1, hS⟩ : ∃ s1 c1 e1, stp code inp s = (s1, c1, e1) := ⟨_, _, _, rfl⟩
    have hmu := stp_mu (code := code) (inp := inp) hh
    have F1 := stp_fit (inp := inp) hf
    have hr1 := run_step (code := code) (inp := inp) hh n
    have hru := stp_run (code := code) (inp := inp) hh hnf
    have hnf1 := stp_nf (code := code) (inp := inp) hnf
    have hpc1 := stp_pc (code := code) (inp := inp) hh
    have CL := Lib.hid (fun w' (k : Nx _ w') => (hr.nx k).step hf.1 hnf)
    have CA := Lib.hid (fun w' (k : Nx _ w') => (hr.nx k).at)
    rw [hS] at hmu F1 hr1 CL hru hnf1 hpc1
    simp only at hmu F1 hr1 CL hru hnf1 hpc1
    have HM := Lib.hid hmu
    have HF1 := Lib.hid F1
    have HR1 := Lib.hid (hr1.symm.trans hrun)
    have HU := Lib.hid hru
    have HNF1 := Lib.hid hnf1
    have HLE2 := Lib.hid hle
    have HPC1 := Lib.hid hpc1
    have hn6 : n ≤ 1000001 := by omega
    have hmu1 : 0 < mu code s := by unfold mu; rw [hh]; simp
    have hin : (n : Int) < (L : Int) + 2 := by omega
    have hat' : ¬ (s.pc : Int) ≤ a := by omega
    obtain ⟨hru1, _, _⟩ := hru
    subst hru1
    clear hmu F1 hr1 hr hf hle hrun hS hh hnf hnf1 hpc1 hmu1 hat
    obtain ⟨hl, hhl⟩ : ∃ hl, s1.hlt = hl := ⟨_, rfl⟩
    have HH := Lib.hid hhl
    rw [hhl] at CL
    clear hhl
    generalize s.pc = spc at *
    go_wp2_with fail
    refine (CA.out _ (Nx.refl _)).mono ?_
    rintro e u1 ⟨rfl, hk⟩
    have U1 := Lib.hid hk
    clear hk
    go_wp2_with fail
    refine (CA.out _ U1.out).mono ?_
    rintro e u2 ⟨rfl, hk⟩
    have U2 := Lib.hid (U1.out.trans hk)
    clear hk
    go_wp2_with fail
    refine (CL.out _ U2.out).mono ?_
    rintro e u3 ⟨rfl, hp⟩
    have P2 := Lib.hid hp
    clear hp CL CA U1 U2 hat'
    cases hl with
    | false =>
      have he : e1 = 0 := HU.out.2.2 HH.out
      subst he
      go_wp2_with fail
      go_roundw
      case rel =>
        exact ⟨s1, n + 1, spc, rfl, by go_num, by go_num, P2.out, HF1.out, (by have := HM.out; have := HLE2.out; omega), (by have := HR1.out; simpa using this), HH.out, HNF1.out, (by have := HPC1.out HH.out; omega)⟩
      case measure =>
        have h3 := HLE2.out
        have h4 := HM.out
        simp only [intOf]; omega
    | true =>
      have hflt : e1 = s1.flt := HU.out.2.1 HH.out
      have HFL := Lib.hid hflt
      have HR2 := Lib.hid (show run code inp s0 0 = (s1, if e1 = 0 then n + 1 else n) by rw [← HR1.out, run_hlt HH.out])
      have CL := Lib.hid (P2.out.step HF1.out.1 HNF1.out)
      rw [stp_hlt HH.out] at CL
      simp only at CL
      rw [← hflt] at CL
      clear hflt
      obtain ⟨k, hk⟩ : ∃ k, k = (if e1 = 0 then n + 1 else n) := ⟨_, rfl⟩
      rw [← hk] at HR2
      have hre : r = (s1, k) := HR.out.symm.trans HR2.out
      subst hre
      obtain rfl : k = rn := HRN.out
      obtain rfl : s1.pc = rp := HRP.out
      obtain rfl : e1 = rf := HFL.out.trans HRF.out
      have HKV := Lib.hid hk
      have J1 := Lib.hid (show Im w2 B1 m1 d1 s1.q from I1.out)
      have J2 := Lib.hid (show Im w2 B2 m2 d2 s1.m from I2.out)
      have J3 := Lib.hid (show Im w2 B3 m3 d3 s1.e from I3.out)
      clear hk HRN HRP HRF HR2 HR1 HR HU HM HLE HLE2 I1 I2 I3 HPC1
      have HYW := Lib.hid (fun w' (q : Nx W3 w') => (show w'.cell? ⟨w2.heap.size, 0, none⟩ = some (.slice B1 m1 d1) ∧ w'.cell? ⟨w2.heap.size, 1, none⟩ = some (.slice B2 m2 d2) ∧ w'.cell? ⟨w2.heap.size, 2, none⟩ = some (.slice B3 m3 d3) ∧ w'.cell? ⟨w2.heap.size, 3, none⟩ = some (.int .i64 (k : Int)) ∧ w'.cell? ⟨w2.heap.size, 4, none⟩ = some (.int .i64 (s1.pc : Int)) ∧ w'.cell? ⟨w2.heap.size, 5, none⟩ = some (.int .i64 e1) from
        ⟨(HY.out.nx q).cell 0 rfl, (HY.out.nx q).cell 1 rfl, (HY.out.nx q).cell 2 rfl, (HY.out.nx q).cell 3 rfl, (HY.out.nx q).cell 4 rfl, (HY.out.nx q).cell 5 rfl⟩))
      by_cases he : e1 = 0
      · subst he
        have hk : k = n + 1 := by rw [HKV.out]; simp
        subst hk
        clear HKV
        go_wp2_with fail
        refine CL.out.mono ?_
        rintro e u4 ⟨rfl, hp⟩
        have P3 := Lib.hid hp
        have K4 := Lib.hid hp.up
        clear hp CL P2
        go_wp2_with fail
        have CA := Lib.hid (fun w' (q : Nx u4 w') => (P3.out.nx q).at)
        have CS := Lib.hid (fun w' (q : Nx u4 w') => (P3.out.nx q).st HF1.out.1)
        unfold CopyP at CS
        generalize w2.heap.size = rb at *
        refine wp_region_run (by kernel_rfl) (by kernel_rfl) (by kernel_rfl) (fun _ => []) (by kernel_rfl) Nx (fun _ _ k => k) (fun _ _ _ => Nx.trans) 37 (fun _ => True) (psiT rb b B1 B2 B3 m1 m2 m3 d1 d2 d3 s1 (((n : Int) + 1)) (0)) ?_ ?_ ?_ (fun _ _ _ h => h) trivial ?_ ?_
        · intro j f f' u e hs hp
          unfold psiT at hp ⊢
          split at hp
          all_goals first | exact hp | (rw [← e]; exact hp)
        · intro j f u u' hj k hp
          unfold psiT at hp ⊢
          split at hp
          case h_32 => obtain ⟨p1, p2, p3, o1, o2, o3, e, h1, h2, h3⟩ := hp; exact ⟨p1, p2, p3, o1, o2, o3, e, h1.nx k, h2.nx k, h3.nx k⟩
          all_goals exact hp
        · intro f u u' k hp
          exact hp
        · intro i o ho a1 w1 K hF hJ hR hE hK
          have hsz : a1.tmps.size = 148 := hF.2.1
          have f7 : a1.tmps[7]?.getD undef = .pointer (some ⟨rb, 0, none⟩) := tmp_of (hF.2.2 7 (by kernel_rfl))
          have f8 : a1.tmps[8]?.getD undef = .pointer (some ⟨b, 0, none⟩) := tmp_of (hF.2.2 8 (by kernel_rfl))
          have f10 : a1.tmps[10]?.getD undef = .int .i64 ((n : Int) + 1) := tmp_of (hF.2.2 10 (by kernel_rfl))
          have f12 : a1.tmps[12]?.getD undef = .int .i64 0 := tmp_of (hF.2.2 12 (by kernel_rfl))
          have f13 : a1.tmps[13]?.getD undef = .bool false := tmp_of (hF.2.2 13 (by kernel_rfl))
          have f14 : a1.tmps[14]?.getD undef = .int .i64 0 := tmp_of (hF.2.2 14 (by kernel_rfl))
          obtain ⟨z0, z1, z2, z3, z4, z5⟩ := HYW.out w1 (K4.out.trans hR)
          rcases i with _ | _ | _ | _ | _ | _ | _ | _ | _ | _ | _ | _ | _ | _ | _ | _ | _ | _ | _ | _ | _ | _ | _ | _ | _ | _ | _ | _ | _ | _ | _ | _ | _ | _ | _ | _ | _ | i
          · obtain rfl := Option.some.inj ho
            refine Or.inl ⟨wanted_none rfl, ?_⟩
            have hR0 := Lib.hid hR
            have hK0 := Lib.hid hK
            clear hK hE hF hR hJ hsz
            unfold Oper.wp
            go_simp
            refine (HA.out _).mono ?_
            rintro e v6 ⟨rfl, q6⟩
            exact hK0.out (.bool true) _ (fun _ => q6) (fun h => by cases h) (upd_same _ _ _) (fun h => by cases h)
          · obtain rfl := Option.some.inj ho
            refine Or.inl ⟨wanted_none rfl, ?_⟩
            have e111 : a1.tmps[111]?.getD undef = .bool true := tmp_of (show a1.tmps.getD 111 undef = _ from hE ⟨0, .data⟩ (by simp) rfl)
            have hK0 := Lib.hid hK
            clear hK hE hF hR hJ hsz
            unfold Oper.wp
            go_simp
            exact hK0.out (.bool true) _ (fun _ => Nx.refl _) (fun h => by cases h) (upd_same _ _ _) (fun h => by cases h)
          · obtain rfl := Option.some.inj ho
            refine Or.inl ⟨(wanted_of (b := true) rfl rfl (by rw [hsz]; decide) (hE ⟨1, .guard⟩ (by simp) rfl)).trans (by rfl), ?_⟩
            have hK0 := Lib.hid hK
            clear hK hE hF hR hJ hsz
            unfold Oper.wp
            go_simp
            exact hK0.out (.bool false) _ (fun _ => Nx.refl _) (fun h => by cases h) (upd_same _ _ _) (fun h => by cases h)
          · obtain rfl := Option.some.inj ho
            refine Or.inl ⟨(wanted_of (b := true) rfl rfl (by rw [hsz]; decide) (hE ⟨1, .guard⟩ (by simp) rfl)).trans (by rfl), ?_⟩
            have e113 : a1.tmps[113]?.getD undef = .bool false := tmp_of (show a1.tmps.getD 113 undef = _ from hE ⟨2, .data⟩ (by simp) rfl)
            have hK0 := Lib.hid hK
            clear hK hE hF hR hJ hsz
            unfold Oper.wp
            go_simp
            exact hK0.out (.bool true) _ (fun _ => Nx.refl _) (fun h => by cases h) (upd_same _ _ _) (fun h => by cases h)
          · obtain rfl := Option.some.inj ho
            refine Or.inl ⟨wanted_none rfl, ?_⟩
            have e112 : a1.tmps[112]?.getD undef = .bool true := tmp_of (show a1.tmps.getD 112 undef = _ from hE ⟨1, .data⟩ (by simp) rfl)
            have e114 : a1.tmps[114]?.getD undef = .bool true := tmp_of (show a1.tmps.getD 114 undef = _ from hE ⟨3, .data⟩ (by simp) rfl)
            have hK0 := Lib.hid hK
            clear hK hE hF hR hJ hsz
            unfold Oper.wp
            go_simp
            exact hK0.out (.bool true) _ (fun _ => Nx.refl _) (fun h => by cases h) (upd_same _ _ _) (fun h => by cases h)
          · obtain rfl := Option.some.inj ho
            refine Or.inl ⟨wanted_none rfl, ?_⟩
            have e115 : a1.tmps[115]?.getD undef = .bool true := tmp_of (show a1.tmps.getD 115 undef = _ from hE ⟨4, .data⟩ (by simp) rfl)
            have hK0 := Lib.hid hK
            clear hK hE hF hR hJ hsz
            unfold Oper.wp
            go_simp
            exact hK0.out (.bool true) _ (fun _ => Nx.refl _) (fun h => by cases h) (upd_same _ _ _) (fun h => by cases h)
          · obtain rfl := Option.some.inj ho
            refine Or.inl ⟨(wanted_of (b := true) rfl rfl (by rw [hsz]; decide) (hE ⟨5, .guard⟩ (by simp) rfl)).trans (by rfl), ?_⟩
            have hK0 := Lib.hid hK
            clear hK hE hF hR hJ hsz
            unfold Oper.wp
            go_simp
            exact hK0.out (.int .i64 0) _ (fun _ => Nx.refl _) (fun h => by cases h) (upd_same _ _ _) (fun h => by cases h)
          · obtain rfl := Option.some.inj ho
            refine Or.inl ⟨(wanted_of (b := true) rfl rfl (by rw [hsz]; decide) (hE ⟨5, .guard⟩ (by simp) rfl)).trans (by rfl), ?_⟩
            have hK0 := Lib.hid hK
            clear hK hE hF hR hJ hsz
            unfold Oper.wp
            go_simp
            exact hK0.out (.int .i64 0) _ (fun _ => Nx.refl _) (fun h => by cases h) (upd_same _ _ _) (fun h => by cases h)
          · obtain rfl := Option.some.inj ho
            refine Or.inl ⟨(wanted_of (b := true) rfl rfl (by rw [hsz]; decide) (hE ⟨5, .guard⟩ (by simp) rfl)).trans (by rfl), ?_⟩
            have e117 : a1.tmps[117]?.getD undef = .int .i64 0 := tmp_of (show a1.tmps.getD 117 undef = _ from hE ⟨6, .data⟩ (by simp) rfl)
            have e118 : a1.tmps[118]?.getD undef = .int .i64 0 := tmp_of (show a1.tmps.getD 118 undef = _ from hE ⟨7, .data⟩ (by simp) rfl)
            have hK0 := Lib.hid hK
            clear hK hE hF hR hJ hsz
            unfold Oper.wp
            go_simp
            exact hK0.out (.bool true) _ (fun _ => Nx.refl _) (fun h => by cases h) (upd_same _ _ _) (fun h => by cases h)
          · obtain rfl := Option.some.inj ho
            refine Or.inl ⟨wanted_none rfl, ?_⟩
            have e116 : a1.tmps[116]?.getD undef = .bool true := tmp_of (show a1.tmps.getD 116 undef = _ from hE ⟨5, .data⟩ (by simp) rfl)
            have e119 : a1.tmps[119]?.getD undef = .bool true := tmp_of (show a1.tmps.getD 119 undef = _ from hE ⟨8, .data⟩ (by simp) rfl)
            have hK0 := Lib.hid hK
            clear hK hE hF hR hJ hsz
            unfold Oper.wp
            go_simp
            exact hK0.out (.bool true) _ (fun _ => Nx.refl _) (fun h => by cases h) (upd_same _ _ _) (fun h => by cases h)
          · obtain rfl := Option.some.inj ho
            refine Or.inl ⟨wanted_none rfl, ?_⟩
            have e120 : a1.tmps[120]?.getD undef = .bool true := tmp_of (show a1.tmps.getD 120 undef = _ from hE ⟨9, .data⟩ (by simp) rfl)
            have hK0 := Lib.hid hK
            clear hK hE hF hR hJ hsz
            unfold Oper.wp
            go_simp
            exact hK0.out (.bool true) _ (fun _ => Nx.refl _) (fun h => by cases h) (upd_same _ _ _) (fun h => by cases h)
          · obtain rfl := Option.some.inj ho
            refine Or.inl ⟨(wanted_of (b := true) rfl rfl (by rw [hsz]; decide) (hE ⟨10, .guard⟩ (by simp) rfl)).trans (by rfl), ?_⟩
            have hK0 := Lib.hid hK
            clear hK hE hF hR hJ hsz
            unfold Oper.wp
            go_simp
            exact hK0.out (.int .i64 0) _ (fun _ => Nx.refl _) (fun h => by cases h) (upd_same _ _ _) (fun h => by cases h)
          · obtain rfl := Option.some.inj ho
            refine Or.inl ⟨(wanted_of (b := true) rfl rfl (by rw [hsz]; decide) (hE ⟨10, .guard⟩ (by simp) rfl)).trans (by rfl), ?_⟩
            have hK0 := Lib.hid hK
            clear hK hE hF hR hJ hsz
            unfold Oper.wp
            go_simp
            exact hK0.out (.pointer (some ⟨rb, 5, none⟩)) _ (fun _ => Nx.refl _) (fun h => by cases h) (upd_same _ _ _) (fun h => by cases h)
          · obtain rfl := Option.some.inj ho
            refine Or.inl ⟨(wanted_of (b := true) rfl rfl (by rw [hsz]; decide) (hE ⟨10, .guard⟩ (by simp) rfl)).trans (by rfl), ?_⟩
            have e123 : a1.tmps[123]?.getD undef = .pointer (some ⟨rb, 5, none⟩) := tmp_of (show a1.tmps.getD 123 undef = _ from hE ⟨12, .data⟩ (by simp) rfl)
            have hK0 := Lib.hid hK
            clear hK hE hF hR hJ hsz
            unfold Oper.wp
            go_simp
            exact hK0.out (.int .i64 0) _ (fun _ => Nx.refl _) (fun h => by cases h) (upd_same _ _ _) (fun h => by cases h)
          · obtain rfl := Option.some.inj ho
            refine Or.inl ⟨(wanted_of (b := true) rfl rfl (by rw [hsz]; decide) (hE ⟨10, .guard⟩ (by simp) rfl)).trans (by rfl), ?_⟩
            have e122 : a1.tmps[122]?.getD undef = .int .i64 0 := tmp_of (show a1.tmps.getD 122 undef = _ from hE ⟨11, .data⟩ (by simp) rfl)
            have e124 : a1.tmps[124]?.getD undef = .int .i64 0 := tmp_of (show a1.tmps.getD 124 undef = _ from hE ⟨13, .data⟩ (by simp) rfl)
            have hK0 := Lib.hid hK
            clear hK hE hF hR hJ hsz
            unfold Oper.wp
            go_simp
            exact hK0.out (.bool true) _ (fun _ => Nx.refl _) (fun h => by cases h) (upd_same _ _ _) (fun h => by cases h)
          · obtain rfl := Option.some.inj ho
            refine Or.inl ⟨wanted_none rfl, ?_⟩
            have e121 : a1.tmps[121]?.getD undef = .bool true := tmp_of (show a1.tmps.getD 121 undef = _ from hE ⟨10, .data⟩ (by simp) rfl)
            have e125 : a1.tmps[125]?.getD undef = .bool true := tmp_of (show a1.tmps.getD 125 undef = _ from hE ⟨14, .data⟩ (by simp) rfl)
            have hK0 := Lib.hid hK
            clear hK hE hF hR hJ hsz
            unfold Oper.wp
            go_simp
            exact hK0.out (.bool true) _ (fun _ => Nx.refl _) (fun h => by cases h) (upd_same _ _ _) (fun h => by cases h)
          · obtain rfl := Option.some.inj ho
            refine Or.inl ⟨wanted_none rfl, ?_⟩
            have e126 : a1.tmps[126]?.getD undef = .bool true := tmp_of (show a1.tmps.getD 126 undef = _ from hE ⟨15, .data⟩ (by simp) rfl)
            have hK0 := Lib.hid hK
            clear hK hE hF hR hJ hsz
            unfold Oper.wp
            go_simp
            exact hK0.out (.bool true) _ (fun _ => Nx.refl _) (fun h => by cases h) (upd_same _ _ _) (fun h => by cases h)
          · obtain rfl := Option.some.inj ho
            refine Or.inl ⟨(wanted_of (b := true) rfl rfl (by rw [hsz]; decide) (hE ⟨16, .guard⟩ (by simp) rfl)).trans (by rfl), ?_⟩
            have hK0 := Lib.hid hK
            clear hK hE hF hR hJ hsz
            unfold Oper.wp
            go_simp
            exact hK0.out (.int .i64 ((n : Int) + 1)) _ (fun _ => Nx.refl _) (fun h => by cases h) (upd_same _ _ _) (fun h => by cases h)
          · obtain rfl := Option.some.inj ho
            refine Or.inl ⟨(wanted_of (b := true) rfl rfl (by rw [hsz]; decide) (hE ⟨16, .guard⟩ (by simp) rfl)).trans (by rfl), ?_⟩
            have hK0 := Lib.hid hK
            clear hK hE hF hR hJ hsz
            unfold Oper.wp
            go_simp
            exact hK0.out (.pointer (some ⟨rb, 3, none⟩)) _ (fun _ => Nx.refl _) (fun h => by cases h) (upd_same _ _ _) (fun h => by cases h)
          · obtain rfl := Option.some.inj ho
            refine Or.inl ⟨(wanted_of (b := true) rfl rfl (by rw [hsz]; decide) (hE ⟨16, .guard⟩ (by simp) rfl)).trans (by rfl), ?_⟩
            have e129 : a1.tmps[129]?.getD undef = .pointer (some ⟨rb, 3, none⟩) := tmp_of (show a1.tmps.getD 129 undef = _ from hE ⟨18, .data⟩ (by simp) rfl)
            have hK0 := Lib.hid hK
            clear hK hE hF hR hJ hsz
            unfold Oper.wp
            go_simp
            exact hK0.out (.int .i64 ((n : Int) + 1)) _ (fun _ => Nx.refl _) (fun h => by cases h) (upd_same _ _ _) (fun h => by cases h)
          · obtain rfl := Option.some.inj ho
            refine Or.inl ⟨(wanted_of (b := true) rfl rfl (by rw [hsz]; decide) (hE ⟨16, .guard⟩ (by simp) rfl)).trans (by rfl), ?_⟩
            have e128 : a1.tmps[128]?.getD undef = .int .i64 ((n : Int) + 1) := tmp_of (show a1.tmps.getD 128 undef = _ from hE ⟨17, .data⟩ (by simp) rfl)
            have e130 : a1.tmps[130]?.getD undef = .int .i64 ((n : Int) + 1) := tmp_of (show a1.tmps.getD 130 undef = _ from hE ⟨19, .data⟩ (by simp) rfl)
            have hK0 := Lib.hid hK
            clear hK hE hF hR hJ hsz
            unfold Oper.wp
            go_simp
            exact hK0.out (.bool true) _ (fun _ => Nx.refl _) (fun h => by cases h) (upd_same _ _ _) (fun h => by cases h)
          · obtain rfl := Option.some.inj ho
            refine Or.inl ⟨wanted_none rfl, ?_⟩
            have e127 : a1.tmps[127]?.getD undef = .bool true := tmp_of (show a1.tmps.getD 127 undef = _ from hE ⟨16, .data⟩ (by simp) rfl)
            have e131 : a1.tmps[131]?.getD undef = .bool true := tmp_of (show a1.tmps.getD 131 undef = _ from hE ⟨20, .data⟩ (by simp) rfl)
            have hK0 := Lib.hid hK
            clear hK hE hF hR hJ hsz
            unfold Oper.wp
            go_simp
            exact hK0.out (.bool true) _ (fun _ => Nx.refl _) (fun h => by cases h) (upd_same _ _ _) (fun h => by cases h)
          · obtain rfl := Option.some.inj ho
            refine Or.inl ⟨wanted_none rfl, ?_⟩
            have e132 : a1.tmps[132]?.getD undef = .bool true := tmp_of (show a1.tmps.getD 132 undef = _ from hE ⟨21, .data⟩ (by simp) rfl)
            have hK0 := Lib.hid hK
            clear hK hE hF hR hJ hsz
            unfold Oper.wp
            go_simp
            exact hK0.out (.bool true) _ (fun _ => Nx.refl _) (fun h => by cases h) (upd_same _ _ _) (fun h => by cases h)
          · obtain rfl := Option.some.inj ho
            refine Or.inl ⟨(wanted_of (b := true) rfl rfl (by rw [hsz]; decide) (hE ⟨22, .guard⟩ (by simp) rfl)).trans (by rfl), ?_⟩
            have hK0 := Lib.hid hK
            clear hK hE hF hR hJ hsz
            unfold Oper.wp
            go_simp
            exact hK0.out (.pointer (some ⟨b, 0, none⟩)) _ (fun _ => Nx.refl _) (fun h => by cases h) (upd_same _ _ _) (fun h => by cases h)
          · obtain rfl := Option.some.inj ho
            refine Or.inl ⟨(wanted_of (b := true) rfl rfl (by rw [hsz]; decide) (hE ⟨22, .guard⟩ (by simp) rfl)).trans (by rfl), ?_⟩
            have e134 : a1.tmps[134]?.getD undef = .pointer (some ⟨b, 0, none⟩) := tmp_of (show a1.tmps.getD 134 undef = _ from hE ⟨23, .data⟩ (by simp) rfl)
            have hR0 := Lib.hid hR
            have hK0 := Lib.hid hK
            clear hK hE hF hR hJ hsz
            unfold Oper.wp
            go_simp
            refine (CA.out _ hR0.out).mono ?_
            rintro e v6 ⟨rfl, q6⟩
            exact hK0.out (.int .i64 (s1.pc : Int)) _ (fun _ => q6) (fun h => by cases h) (upd_same _ _ _) (fun h => by cases h)
          · obtain rfl := Option.some.inj ho
            refine Or.inl ⟨(wanted_of (b := true) rfl rfl (by rw [hsz]; decide) (hE ⟨22, .guard⟩ (by simp) rfl)).trans (by rfl), ?_⟩
            have hK0 := Lib.hid hK
            clear hK hE hF hR hJ hsz
            unfold Oper.wp
            go_simp
            exact hK0.out (.pointer (some ⟨rb, 4, none⟩)) _ (fun _ => Nx.refl _) (fun h => by cases h) (upd_same _ _ _) (fun h => by cases h)
          · obtain rfl := Option.some.inj ho
            refine Or.inl ⟨(wanted_of (b := true) rfl rfl (by rw [hsz]; decide) (hE ⟨22, .guard⟩ (by simp) rfl)).trans (by rfl), ?_⟩
            have e136 : a1.tmps[136]?.getD undef = .pointer (some ⟨rb, 4, none⟩) := tmp_of (show a1.tmps.getD 136 undef = _ from hE ⟨25, .data⟩ (by simp) rfl)
            have hK0 := Lib.hid hK
            clear hK hE hF hR hJ hsz
            unfold Oper.wp
            go_simp
            exact hK0.out (.int .i64 (s1.pc : Int)) _ (fun _ => Nx.refl _) (fun h => by cases h) (upd_same _ _ _) (fun h => by cases h)
          · obtain rfl := Option.some.inj ho
            refine Or.inl ⟨(wanted_of (b := true) rfl rfl (by rw [hsz]; decide) (hE ⟨22, .guard⟩ (by simp) rfl)).trans (by rfl), ?_⟩
            have e135 : a1.tmps[135]?.getD undef = .int .i64 (s1.pc : Int) := tmp_of (show a1.tmps.getD 135 undef = _ from hE ⟨24, .data⟩ (by simp) rfl)
            have e137 : a1.tmps[137]?.getD undef = .int .i64 (s1.pc : Int) := tmp_of (show a1.tmps.getD 137 undef = _ from hE ⟨26, .data⟩ (by simp) rfl)
            have hK0 := Lib.hid hK
            clear hK hE hF hR hJ hsz
            unfold Oper.wp
            go_simp
            exact hK0.out (.bool true) _ (fun _ => Nx.refl _) (fun h => by cases h) (upd_same _ _ _) (fun h => by cases h)
          · obtain rfl := Option.some.inj ho
            refine Or.inl ⟨wanted_none rfl, ?_⟩
            have e133 : a1.tmps[133]?.getD undef = .bool true := tmp_of (show a1.tmps.getD 133 undef = _ from hE ⟨22, .data⟩ (by simp) rfl)
            have e138 : a1.tmps[138]?.getD undef = .bool true := tmp_of (show a1.tmps.getD 138 undef = _ from hE ⟨27, .data⟩ (by simp) rfl)
            have hK0 := Lib.hid hK
            clear hK hE hF hR hJ hsz
            unfold Oper.wp
            go_simp
            exact hK0.out (.bool true) _ (fun _ => Nx.refl _) (fun h => by cases h) (upd_same _ _ _) (fun h => by cases h)
          · obtain rfl := Option.some.inj ho
            refine Or.inl ⟨wanted_none rfl, ?_⟩
            have e139 : a1.tmps[139]?.getD undef = .bool true := tmp_of (show a1.tmps.getD 139 undef = _ from hE ⟨28, .data⟩ (by simp) rfl)
            have hK0 := Lib.hid hK
            clear hK hE hF hR hJ hsz
            unfold Oper.wp
            go_simp
            exact hK0.out (.bool true) _ (fun _ => Nx.refl _) (fun h => by cases h) (upd_same _ _ _) (fun h => by cases h)
          · obtain rfl := Option.some.inj ho
            refine Or.inl ⟨(wanted_of (b := true) rfl rfl (by rw [hsz]; decide) (hE ⟨29, .guard⟩ (by simp) rfl)).trans (by rfl), ?_⟩
            have hK0 := Lib.hid hK
            clear hK hE hF hR hJ hsz
            unfold Oper.wp
            go_simp
            exact hK0.out (.pointer (some ⟨b, 0, none⟩)) _ (fun _ => Nx.refl _) (fun h => by cases h) (upd_same _ _ _) (fun h => by cases h)
          · obtain rfl := Option.some.inj ho
            refine Or.inl ⟨(wanted_of (b := true) rfl rfl (by rw [hsz]; decide) (hE ⟨29, .guard⟩ (by simp) rfl)).trans (by rfl), ?_⟩
            have e141 : a1.tmps[141]?.getD undef = .pointer (some ⟨b, 0, none⟩) := tmp_of (show a1.tmps.getD 141 undef = _ from hE ⟨30, .data⟩ (by simp) rfl)
            have hR0 := Lib.hid hR
            have hK0 := Lib.hid hK
            clear hK hE hF hR hJ hsz
            unfold Oper.wp
            go_simp
            refine (CS.out _ hR0.out).mono ?_
            rintro e v6 ⟨p1, p2, p3, o1, o2, o3, rfl, _, ⟨oc1, oc2, oc3⟩, q6⟩
            exact hK0.out _ _ (fun _ => q6) (fun h => by cases h) ⟨p1, p2, p3, o1, o2, o3, upd_same _ _ _, oc1.low (Nat.zero_le _), oc2.low (Nat.zero_le _), oc3.low (Nat.zero_le _)⟩ (fun h => by cases h)
          · obtain rfl := Option.some.inj ho
            refine Or.inl ⟨(wanted_of (b := true) rfl rfl (by rw [hsz]; decide) (hE ⟨29, .guard⟩ (by simp) rfl)).trans (by rfl), ?_⟩
            have hK0 := Lib.hid hK
            clear hK hE hF hR hJ hsz
            unfold Oper.wp
            go_simp
            exact hK0.out (.pointer (some ⟨rb, 0, none⟩)) _ (fun _ => Nx.refl _) (fun h => by cases h) (upd_same _ _ _) (fun h => by cases h)
          · obtain rfl := Option.some.inj ho
            refine Or.inl ⟨(wanted_of (b := true) rfl rfl (by rw [hsz]; decide) (hE ⟨29, .guard⟩ (by simp) rfl)).trans (by rfl), ?_⟩
            have e143 : a1.tmps[143]?.getD undef = .pointer (some ⟨rb, 0, none⟩) := tmp_of (show a1.tmps.getD 143 undef = _ from hE ⟨32, .data⟩ (by simp) rfl)
            have hK0 := Lib.hid hK
            clear hK hE hF hR hJ hsz
            unfold Oper.wp
            go_simp
            exact hK0.out (.agg #[.slice B1 m1 d1, .slice B2 m2 d2, .slice B3 m3 d3]) _ (fun _ => Nx.refl _) (fun h => by cases h) (upd_same _ _ _) (fun h => by cases h)
          · obtain rfl := Option.some.inj ho
            refine Or.inl ⟨(wanted_of (b := true) rfl rfl (by rw [hsz]; decide) (hE ⟨29, .guard⟩ (by simp) rfl)).trans (by rfl), ?_⟩
            obtain ⟨p1, p2, p3, o1, o2, o3, ee, oc1, oc2, oc3⟩ : ∃ p1 p2 p3 o1 o2 o3, a1.tmps.getD 142 undef = .agg #[.slice (some ⟨p1, 0, none⟩) s1.q.length o1, .slice (some ⟨p2, 0, none⟩) s1.m.length o2, .slice (some ⟨p3, 0, none⟩) s1.e.length o3] ∧ OwB w1 0 p1 o1 s1.q ∧ OwB w1 0 p2 o2 s1.m ∧ OwB w1 0 p3 o3 s1.e := hE ⟨31, .data⟩ (by simp) rfl
            have e142 := tmp_of ee
            have OC := Lib.hid (And.intro oc1 (And.intro oc2 oc3))
            clear oc1 oc2 oc3 ee
            have e144 : a1.tmps[144]?.getD undef = .agg #[.slice B1 m1 d1, .slice B2 m2 d2, .slice B3 m3 d3] := tmp_of (show a1.tmps.getD 144 undef = _ from hE ⟨33, .data⟩ (by simp) rfl)
            have hR0 := Lib.hid hR
            have hK0 := Lib.hid hK
            clear hK hE hF hR hJ hsz
            unfold Oper.wp
            go_simp
            refine (stRefEqual_any (some ⟨p1, 0, none⟩) (some ⟨p2, 0, none⟩) (some ⟨p3, 0, none⟩) m1 m2 m3 o1 o2 o3 B1 B2 B3 m1 m2 m3 d1 d2 d3 s1.q s1.m s1.e s1.q s1.m s1.e HS.out.2.2.1 HS.out.2.2.2.1 HS.out.2.2.2.2 w1 (OC.out.1.im l1) (OC.out.2.1.im l2) (OC.out.2.2.im l3) (J1.out.nx (K3.out.trans (K4.out.trans hR0.out))) (J2.out.nx (K3.out.trans (K4.out.trans hR0.out))) (J3.out.nx (K3.out.trans (K4.out.trans hR0.out)))).mono ?_
            rintro e v6 ⟨rfl, q6⟩
            rw [show (eqB s1.q s1.q && eqB s1.m s1.m && eqB s1.e s1.e) = true by simp [eqB]]
            exact hK0.out (.bool true) _ (fun _ => q6) (fun h => by cases h) (upd_same _ _ _) (fun h => by cases h)
          · obtain rfl := Option.some.inj ho
            refine Or.inl ⟨wanted_none rfl, ?_⟩
            have e140 : a1.tmps[140]?.getD undef = .bool true := tmp_of (show a1.tmps.getD 140 undef = _ from hE ⟨29, .data⟩ (by simp) rfl)
            have e145 : a1.tmps[145]?.getD undef = .bool true := tmp_of (show a1.tmps.getD 145 undef = _ from hE ⟨34, .data⟩ (by simp) rfl)
            have hK0 := Lib.hid hK
            clear hK hE hF hR hJ hsz
            unfold Oper.wp
            go_simp
            exact hK0.out (.bool true) _ (fun _ => Nx.refl _) (fun h => by cases h) (upd_same _ _ _) (fun h => by cases h)
          · obtain rfl := Option.some.inj ho
            refine Or.inl ⟨wanted_none rfl, ?_⟩
            have e146 : a1.tmps[146]?.getD undef = .bool true := tmp_of (show a1.tmps.getD 146 undef = _ from hE ⟨35, .data⟩ (by simp) rfl)
            have hK0 := Lib.hid hK
            clear hK hE hF hR hJ hsz
            unfold Oper.wp
            go_simp
            exact hK0.out (.bool true) _ (fun _ => Nx.refl _) (fun h => by cases h) (upd_same _ _ _) (fun h => by cases h)
          · cases ho
        · intro a1 w1 hF hJ hR hP
          have f6 : a1.tmps[6]?.getD undef = .bool true := tmp_of (show a1.tmps.getD 6 undef = _ from hP 36 (by decide))
          have fd : a1.defers = [] := hF.1
          have hn := N3.out.trans (K4.out.trans hR)
          clear hF hJ hR hP
          go_wp2
          try simp only [Exit.inBlock, Exit.then]
          refine bodyPost_ret (by simp [results, Try.results5, go_sem, f6]; try rfl) fd ?_
          exact ⟨rfl, hn⟩
      · have hk : k = n := by rw [HKV.out, if_neg he]
        subst hk
        clear HKV
        go_wp2_with fail
        refine CL.out.mono ?_
        rintro e u4 ⟨rfl, hp⟩
        have P3 := Lib.hid hp
        have K4 := Lib.hid hp.up
        clear hp CL P2
        go_wp2_with fail
        have CA := Lib.hid (fun w' (q : Nx u4 w') => (P3.out.nx q).at)
        have CS := Lib.hid (fun w' (q : Nx u4 w') => (P3.out.nx q).st HF1.out.1)
        unfold CopyP at CS
        generalize w2.heap.size = rb at *
        refine wp_region_run (by kernel_rfl) (by kernel_rfl) (by kernel_rfl) (fun _ => []) (by kernel_rfl) Nx (fun _ _ k => k) (fun _ _ _ => Nx.trans) 37 (fun _ => True) (psiT rb b B1 B2 B3 m1 m2 m3 d1 d2 d3 s1 ((k : Int)) (e1)) ?_ ?_ ?_ (fun _ _ _ h => h) trivial ?_ ?_
        · intro j f f' u e hs hp
          unfold psiT at hp ⊢
          split at hp
          all_goals first | exact hp | (rw [← e]; exact hp)
        · intro j f u u' hj k hp
          unfold psiT at hp ⊢
          split at hp
          case h_32 => obtain ⟨p1, p2, p3, o1, o2, o3, e, h1, h2, h3⟩ := hp; exact ⟨p1, p2, p3, o1, o2, o3, e, h1.nx k, h2.nx k, h3.nx k⟩
          all_goals exact hp
        · intro f u u' k hp
          exact hp
        · intro i o ho a1 w1 K hF hJ hR hE hK
          have hsz : a1.tmps.size = 148 := hF.2.1
          have f7 : a1.tmps[7]?.getD undef = .pointer (some ⟨rb, 0, none⟩) := tmp_of (hF.2.2 7 (by kernel_rfl))
          have f8 : a1.tmps[8]?.getD undef = .pointer (some ⟨b, 0, none⟩) := tmp_of (hF.2.2 8 (by kernel_rfl))
          have f10 : a1.tmps[10]?.getD undef = .int .i64 (k : Int) := tmp_of (hF.2.2 10 (by kernel_rfl))
          have f12 : a1.tmps[12]?.getD undef = .int .i64 e1 := tmp_of (hF.2.2 12 (by kernel_rfl))
          have f13 : a1.tmps[13]?.getD undef = .bool false := tmp_of (hF.2.2 13 (by kernel_rfl))
          have f14 : a1.tmps[14]?.getD undef = .int .i64 e1 := tmp_of (hF.2.2 14 (by kernel_rfl))
          obtain ⟨z0, z1, z2, z3, z4, z5⟩ := HYW.out w1 (K4.out.trans hR)
          rcases i with _ | _ | _ | _ | _ | _ | _ | _ | _ | _ | _ | _ | _ | _ | _ | _ | _ | _ | _ | _ | _ | _ | _ | _ | _ | _ | _ | _ | _ | _ | _ | _ | _ | _ | _ | _ | _ | i
          · obtain rfl := Option.some.inj ho
            refine Or.inl ⟨wanted_none rfl, ?_⟩
            have hR0 := Lib.hid hR
            have hK0 := Lib.hid hK
            clear hK hE hF hR hJ hsz
            unfold Oper.wp
            go_simp
            refine (HA.out _).mono ?_
            rintro e v6 ⟨rfl, q6⟩
            exact hK0.out (.bool true) _ (fun _ => q6) (fun h => by cases h) (upd_same _ _ _) (fun h => by cases h)
          · obtain rfl := Option.some.inj ho
            refine Or.inl ⟨wanted_none rfl, ?_⟩
            have e111 : a1.tmps[111]?.getD undef = .bool true := tmp_of (show a1.tmps.getD 111 undef = _ from hE ⟨0, .data⟩ (by simp) rfl)
            have hK0 := Lib.hid hK
            clear hK hE hF hR hJ hsz
            unfold Oper.wp
            go_simp
            exact hK0.out (.bool true) _ (fun _ => Nx.refl _) (fun h => by cases h) (upd_same _ _ _) (fun h => by cases h)
          · obtain rfl := Option.some.inj ho
            refine Or.inl ⟨(wanted_of (b := true) rfl rfl (by rw [hsz]; decide) (hE ⟨1, .guard⟩ (by simp) rfl)).trans (by rfl), ?_⟩
            have hK0 := Lib.hid hK
            clear hK hE hF hR hJ hsz
            unfold Oper.wp
            go_simp
            exact hK0.out (.bool false) _ (fun _ => Nx.refl _) (fun h => by cases h) (upd_same _ _ _) (fun h => by cases h)
          · obtain rfl := Option.some.inj ho
            refine Or.inl ⟨(wanted_of (b := true) rfl rfl (by rw [hsz]; decide) (hE ⟨1, .guard⟩ (by simp) rfl)).trans (by rfl), ?_⟩
            have e113 : a1.tmps[113]?.getD undef = .bool false := tmp_of (show a1.tmps.getD 113 undef = _ from hE ⟨2, .data⟩ (by simp) rfl)
            have hK0 := Lib.hid hK
            clear hK hE hF hR hJ hsz
            unfold Oper.wp
            go_simp
            exact hK0.out (.bool true) _ (fun _ => Nx.refl _) (fun h => by cases h) (upd_same _ _ _) (fun h => by cases h)
          · obtain rfl := Option.some.inj ho
            refine Or.inl ⟨wanted_none rfl, ?_⟩
            have e112 : a1.tmps[112]?.getD undef = .bool true := tmp_of (show a1.tmps.getD 112 undef = _ from hE ⟨1, .data⟩ (by simp) rfl)
            have e114 : a1.tmps[114]?.getD undef = .bool true := tmp_of (show a1.tmps.getD 114 undef = _ from hE ⟨3, .data⟩ (by simp) rfl)
            have hK0 := Lib.hid hK
            clear hK hE hF hR hJ hsz
            unfold Oper.wp
            go_simp
            exact hK0.out (.bool true) _ (fun _ => Nx.refl _) (fun h => by cases h) (upd_same _ _ _) (fun h => by cases h)
          · obtain rfl := Option.some.inj ho
            refine Or.inl ⟨wanted_none rfl, ?_⟩
            have e115 : a1.tmps[115]?.getD undef = .bool true := tmp_of (show a1.tmps.getD 115 undef = _ from hE ⟨4, .data⟩ (by simp) rfl)
            have hK0 := Lib.hid hK
            clear hK hE hF hR hJ hsz
            unfold Oper.wp
            go_simp
            exact hK0.out (.bool true) _ (fun _ => Nx.refl _) (fun h => by cases h) (upd_same _ _ _) (fun h => by cases h)
          · obtain rfl := Option.some.inj ho
            refine Or.inl ⟨(wanted_of (b := true) rfl rfl (by rw [hsz]; decide) (hE ⟨5, .guard⟩ (by simp) rfl)).trans (by rfl), ?_⟩
            have hK0 := Lib.hid hK
            clear hK hE hF hR hJ hsz
            unfold Oper.wp
            go_simp
            exact hK0.out (.int .i64 e1) _ (fun _ => Nx.refl _) (fun h => by cases h) (upd_same _ _ _) (fun h => by cases h)
          · obtain rfl := Option.some.inj ho
            refine Or.inl ⟨(wanted_of (b := true) rfl rfl (by rw [hsz]; decide) (hE ⟨5, .guard⟩ (by simp) rfl)).trans (by rfl), ?_⟩
            have hK0 := Lib.hid hK
            clear hK hE hF hR hJ hsz
            unfold Oper.wp
            go_simp
            exact hK0.out (.int .i64 e1) _ (fun _ => Nx.refl _) (fun h => by cases h) (upd_same _ _ _) (fun h => by cases h)
          · obtain rfl := Option.some.inj ho
            refine Or.inl ⟨(wanted_of (b := true) rfl rfl (by rw [hsz]; decide) (hE ⟨5, .guard⟩ (by simp) rfl)).trans (by rfl), ?_⟩
            have e117 : a1.tmps[117]?.getD undef = .int .i64 e1 := tmp_of (show a1.tmps.getD 117 undef = _ from hE ⟨6, .data⟩ (by simp) rfl)
            have e118 : a1.tmps[118]?.getD undef = .int .i64 e1 := tmp_of (show a1.tmps.getD 118 undef = _ from hE ⟨7, .data⟩ (by simp) rfl)
            have hK0 := Lib.hid hK
            clear hK hE hF hR hJ hsz
            unfold Oper.wp
            go_simp
            exact hK0.out (.bool true) _ (fun _ => Nx.refl _) (fun h => by cases h) (upd_same _ _ _) (fun h => by cases h)
          · obtain rfl := Option.some.inj ho
            refine Or.inl ⟨wanted_none rfl, ?_⟩
            have e116 : a1.tmps[116]?.getD undef = .bool true := tmp_of (show a1.tmps.getD 116 undef = _ from hE ⟨5, .data⟩ (by simp) rfl)
            have e119 : a1.tmps[119]?.getD undef = .bool true := tmp_of (show a1.tmps.getD 119 undef = _ from hE ⟨8, .data⟩ (by simp) rfl)
            have hK0 := Lib.hid hK
            clear hK hE hF hR hJ hsz
            unfold Oper.wp
            go_simp
            exact hK0.out (.bool true) _ (fun _ => Nx.refl _) (fun h => by cases h) (upd_same _ _ _) (fun h => by cases h)
          · obtain rfl := Option.some.inj ho
            refine Or.inl ⟨wanted_none rfl, ?_⟩
            have e120 : a1.tmps[120]?.getD undef = .bool true := tmp_of (show a1.tmps.getD 120 undef = _ from hE ⟨9, .data⟩ (by simp) rfl)
            have hK0 := Lib.hid hK
            clear hK hE hF hR hJ hsz
            unfold Oper.wp
            go_simp
            exact hK0.out (.bool true) _ (fun _ => Nx.refl _) (fun h => by cases h) (upd_same _ _ _) (fun h => by cases h)
          · obtain rfl := Option.some.inj ho
            refine Or.inl ⟨(wanted_of (b := true) rfl rfl (by rw [hsz]; decide) (hE ⟨10, .guard⟩ (by simp) rfl)).trans (by rfl), ?_⟩
            have hK0 := Lib.hid hK
            clear hK hE hF hR hJ hsz
            unfold Oper.wp
            go_simp
            exact hK0.out (.int .i64 e1) _ (fun _ => Nx.refl _) (fun h => by cases h) (upd_same _ _ _) (fun h => by cases h)
          · obtain rfl := Option.some.inj ho
            refine Or.inl ⟨(wanted_of (b := true) rfl rfl (by rw [hsz]; decide) (hE ⟨10, .guard⟩ (by simp) rfl)).trans (by rfl), ?_⟩
            have hK0 := Lib.hid hK
            clear hK hE hF hR hJ hsz
            unfold Oper.wp
            go_simp
            exact hK0.out (.pointer (some ⟨rb, 5, none⟩)) _ (fun _ => Nx.refl _) (fun h => by cases h) (upd_same _ _ _) (fun h => by cases h)
          · obtain rfl := Option.some.inj ho
            refine Or.inl ⟨(wanted_of (b := true) rfl rfl (by rw [hsz]; decide) (hE ⟨10, .guard⟩ (by simp) rfl)).trans (by rfl), ?_⟩
            have e123 : a1.tmps[123]?.getD undef = .pointer (some ⟨rb, 5, none⟩) := tmp_of (show a1.tmps.getD 123 undef = _ from hE ⟨12, .data⟩ (by simp) rfl)
            have hK0 := Lib.hid hK
            clear hK hE hF hR hJ hsz
            unfold Oper.wp
            go_simp
            exact hK0.out (.int .i64 e1) _ (fun _ => Nx.refl _) (fun h => by cases h) (upd_same _ _ _) (fun h => by cases h)
          · obtain rfl := Option.some.inj ho
            refine Or.inl ⟨(wanted_of (b := true) rfl rfl (by rw [hsz]; decide) (hE ⟨10, .guard⟩ (by simp) rfl)).trans (by rfl), ?_⟩
            have e122 : a1.tmps[122]?.getD undef = .int .i64 e1 := tmp_of (show a1.tmps.getD 122 undef = _ from hE ⟨11, .data⟩ (by simp) rfl)
            have e124 : a1.tmps[124]?.getD undef = .int .i64 e1 := tmp_of (show a1.tmps.getD 124 undef = _ from hE ⟨13, .data⟩ (by simp) rfl)
            have hK0 := Lib.hid hK
            clear hK hE hF hR hJ hsz
            unfold Oper.wp
            go_simp
            exact hK0.out (.bool true) _ (fun _ => Nx.refl _) (fun h => by cases h) (upd_same _ _ _) (fun h => by cases h)
          · obtain rfl := Option.some.inj ho
            refine Or.inl ⟨wanted_none rfl, ?_⟩
            have e121 : a1.tmps[121]?.getD undef = .bool true := tmp_of (show a1.tmps.getD 121 undef = _ from hE ⟨10, .data⟩ (by simp) rfl)
            have e125 : a1.tmps[125]?.getD undef = .bool true := tmp_of (show a1.tmps.getD 125 undef = _ from hE ⟨14, .data⟩ (by simp) rfl)
            have hK0 := Lib.hid hK
            clear hK hE hF hR hJ hsz
            unfold Oper.wp
            go_simp
            exact hK0.out (.bool true) _ (fun _ => Nx.refl _) (fun h => by cases h) (upd_same _ _ _) (fun h => by cases h)
          · obtain rfl := Option.some.inj ho
            refine Or.inl ⟨wanted_none rfl, ?_⟩
            have e126 : a1.tmps[126]?.getD undef = .bool true := tmp_of (show a1.tmps.getD 126 undef = _ from hE ⟨15, .data⟩ (by simp) rfl)
            have hK0 := Lib.hid hK
            clear hK hE hF hR hJ hsz
            unfold Oper.wp
            go_simp
            exact hK0.out (.bool true) _ (fun _ => Nx.refl _) (fun h => by cases h) (upd_same _ _ _) (fun h => by cases h)
          · obtain rfl := Option.some.inj ho
            refine Or.inl ⟨(wanted_of (b := true) rfl rfl (by rw [hsz]; decide) (hE ⟨16, .guard⟩ (by simp) rfl)).trans (by rfl), ?_⟩
            have hK0 := Lib.hid hK
            clear hK hE hF hR hJ hsz
            unfold Oper.wp
            go_simp
            exact hK0.out (.int .i64 (k : Int)) _ (fun _ => Nx.refl _) (fun h => by cases h) (upd_same _ _ _) (fun h => by cases h)
          · obtain rfl := Option.some.inj ho
            refine Or.inl ⟨(wanted_of (b := true) rfl rfl (by rw [hsz]; decide) (hE ⟨16, .guard⟩ (by simp) rfl)).trans (by rfl), ?_⟩
            have hK0 := Lib.hid hK
            clear hK hE hF hR hJ hsz
            unfold Oper.wp
            go_simp
            exact hK0.out (.pointer (some ⟨rb, 3, none⟩)) _ (fun _ => Nx.refl _) (fun h => by cases h) (upd_same _ _ _) (fun h => by cases h)
          · obtain rfl := Option.some.inj ho
            refine Or.inl ⟨(wanted_of (b := true) rfl rfl (by rw [hsz]; decide) (hE ⟨16, .guard⟩ (by simp) rfl)).trans (by rfl), ?_⟩
            have e129 : a1.tmps[129]?.getD undef = .pointer (some ⟨rb, 3, none⟩) := tmp_of (show a1.tmps.getD 129 undef = _ from hE ⟨18, .data⟩ (by simp) rfl)
            have hK0 := Lib.hid hK
            clear hK hE hF hR hJ hsz
            unfold Oper.wp
            go_simp
            exact hK0.out (.int .i64 (k : Int)) _ (fun _ => Nx.refl _) (fun h => by cases h) (upd_same _ _ _) (fun h => by cases h)
          · obtain rfl := Option.some.inj ho
            refine Or.inl ⟨(wanted_of (b := true) rfl rfl (by rw [hsz]; decide) (hE ⟨16, .guard⟩ (by simp) rfl)).trans (by rfl), ?_⟩
            have e128 : a1.tmps[128]?.getD undef = .int .i64 (k : Int) := tmp_of (show a1.tmps.getD 128 undef = _ from hE ⟨17, .data⟩ (by simp) rfl)
            have e130 : a1.tmps[130]?.getD undef = .int .i64 (k : Int) := tmp_of (show a1.tmps.getD 130 undef = _ from hE ⟨19, .data⟩ (by simp) rfl)
            have hK0 := Lib.hid hK
            clear hK hE hF hR hJ hsz
            unfold Oper.wp
            go_simp
            exact hK0.out (.bool true) _ (fun _ => Nx.refl _) (fun h => by cases h) (upd_same _ _ _) (fun h => by cases h)
          · obtain rfl := Option.some.inj ho
            refine Or.inl ⟨wanted_none rfl, ?_⟩
            have e127 : a1.tmps[127]?.getD undef = .bool true := tmp_of (show a1.tmps.getD 127 undef = _ from hE ⟨16, .data⟩ (by simp) rfl)
            have e131 : a1.tmps[131]?.getD undef = .bool true := tmp_of (show a1.tmps.getD 131 undef = _ from hE ⟨20, .data⟩ (by simp) rfl)
            have hK0 := Lib.hid hK
            clear hK hE hF hR hJ hsz
            unfold Oper.wp
            go_simp
            exact hK0.out (.bool true) _ (fun _ => Nx.refl _) (fun h => by cases h) (upd_same _ _ _) (fun h => by cases h)
          · obtain rfl := Option.some.inj ho
            refine Or.inl ⟨wanted_none rfl, ?_⟩
            have e132 : a1.tmps[132]?.getD undef = .bool true := tmp_of (show a1.tmps.getD 132 undef = _ from hE ⟨21, .data⟩ (by simp) rfl)
            have hK0 := Lib.hid hK
            clear hK hE hF hR hJ hsz
            unfold Oper.wp
            go_simp
            exact hK0.out (.bool true) _ (fun _ => Nx.refl _) (fun h => by cases h) (upd_same _ _ _) (fun h => by cases h)
          · obtain rfl := Option.some.inj ho
            refine Or.inl ⟨(wanted_of (b := true) rfl rfl (by rw [hsz]; decide) (hE ⟨22, .guard⟩ (by simp) rfl)).trans (by rfl), ?_⟩
            have hK0 := Lib.hid hK
            clear hK hE hF hR hJ hsz
            unfold Oper.wp
            go_simp
            exact hK0.out (.pointer (some ⟨b, 0, none⟩)) _ (fun _ => Nx.refl _) (fun h => by cases h) (upd_same _ _ _) (fun h => by cases h)
          · obtain rfl := Option.some.inj ho
            refine Or.inl ⟨(wanted_of (b := true) rfl rfl (by rw [hsz]; decide) (hE ⟨22, .guard⟩ (by simp) rfl)).trans (by rfl), ?_⟩
            have e134 : a1.tmps[134]?.getD undef = .pointer (some ⟨b, 0, none⟩) := tmp_of (show a1.tmps.getD 134 undef = _ from hE ⟨23, .data⟩ (by simp) rfl)
            have hR0 := Lib.hid hR
            have hK0 := Lib.hid hK
            clear hK hE hF hR hJ hsz
            unfold Oper.wp
            go_simp
            refine (CA.out _ hR0.out).mono ?_
            rintro e v6 ⟨rfl, q6⟩
            exact hK0.out (.int .i64 (s1.pc : Int)) _ (fun _ => q6) (fun h => by cases h) (upd_same _ _ _) (fun h => by cases h)
          · obtain rfl := Option.some.inj ho
            refine Or.inl ⟨(wanted_of (b := true) rfl rfl (by rw [hsz]; decide) (hE ⟨22, .guard⟩ (by simp) rfl)).trans (by rfl), ?_⟩
            have hK0 := Lib.hid hK
            clear hK hE hF hR hJ hsz
            unfold Oper.wp
            go_simp
            exact hK0.out (.pointer (some ⟨rb, 4, none⟩)) _ (fun _ => Nx.refl _) (fun h => by cases h) (upd_same _ _ _) (fun h => by cases h)
          · obtain rfl := Option.some.inj ho
            refine Or.inl ⟨(wanted_of (b := true) rfl rfl (by rw [hsz]; decide) (hE ⟨22, .guard⟩ (by simp) rfl)).trans (by rfl), ?_⟩
            have e136 : a1.tmps[136]?.getD undef = .pointer (some ⟨rb, 4, none⟩) := tmp_of (show a1.tmps.getD 136 undef = _ from hE ⟨25, .data⟩ (by simp) rfl)
            have hK0 := Lib.hid hK
            clear hK hE hF hR hJ hsz
            unfold Oper.wp
            go_simp
            exact hK0.out (.int .i64 (s1.pc : Int)) _ (fun _ => Nx.refl _) (fun h => by cases h) (upd_same _ _ _) (fun h => by cases h)
          · obtain rfl := Option.some.inj ho
            refine Or.inl ⟨(wanted_of (b := true) rfl rfl (by rw [hsz]; decide) (hE ⟨22, .guard⟩ (by simp) rfl)).trans (by rfl), ?_⟩
            have e135 : a1.tmps[135]?.getD undef = .int .i64 (s1.pc : Int) := tmp_of (show a1.tmps.getD 135 undef = _ from hE ⟨24, .data⟩ (by simp) rfl)
            have e137 : a1.tmps[137]?.getD undef = .int .i64 (s1.pc : Int) := tmp_of (show a1.tmps.getD 137 undef = _ from hE ⟨26, .data⟩ (by simp) rfl)
            have hK0 := Lib.hid hK
            clear hK hE hF hR hJ hsz
            unfold Oper.wp
            go_simp
            exact hK0.out (.bool true) _ (fun _ => Nx.refl _) (fun h => by cases h) (upd_same _ _ _) (fun h => by cases h)
          · obtain rfl := Option.some.inj ho
            refine Or.inl ⟨wanted_none rfl, ?_⟩
            have e133 : a1.tmps[133]?.getD undef = .bool true := tmp_of (show a1.tmps.getD 133 undef = _ from hE ⟨22, .data⟩ (by simp) rfl)
            have e138 : a1.tmps[138]?.getD undef = .bool true := tmp_of (show a1.tmps.getD 138 undef = _ from hE ⟨27, .data⟩ (by simp) rfl)
            have hK0 := Lib.hid hK
            clear hK hE hF hR hJ hsz
            unfold Oper.wp
            go_simp
            exact hK0.out (.bool true) _ (fun _ => Nx.refl _) (fun h => by cases h) (upd_same _ _ _) (fun h => by cases h)
          · obtain rfl := Option.some.inj ho
            refine Or.inl ⟨wanted_none rfl, ?_⟩
            have e139 : a1.tmps[139]?.getD undef = .bool true := tmp_of (show a1.tmps.getD 139 undef = _ from hE ⟨28, .data⟩ (by simp) rfl)
            have hK0 := Lib.hid hK
            clear hK hE hF hR hJ hsz
            unfold Oper.wp
            go_simp
            exact hK0.out (.bool true) _ (fun _ => Nx.refl _) (fun h => by cases h) (upd_same _ _ _) (fun h => by cases h)
          · obtain rfl := Option.some.inj ho
            refine Or.inl ⟨(wanted_of (b := true) rfl rfl (by rw [hsz]; decide) (hE ⟨29, .guard⟩ (by simp) rfl)).trans (by rfl), ?_⟩
            have hK0 := Lib.hid hK
            clear hK hE hF hR hJ hsz
            unfold Oper.wp
            go_simp
            exact hK0.out (.pointer (some ⟨b, 0, none⟩)) _ (fun _ => Nx.refl _) (fun h => by cases h) (upd_same _ _ _) (fun h => by cases h)
          · obtain rfl := Option.some.inj ho
            refine Or.inl ⟨(wanted_of (b := true) rfl rfl (by rw [hsz]; decide) (hE ⟨29, .guard⟩ (by simp) rfl)).trans (by rfl), ?_⟩
            have e141 : a1.tmps[141]?.getD undef = .pointer (some ⟨b, 0, none⟩) := tmp_of (show a1.tmps.getD 141 undef = _ from hE ⟨30, .data⟩ (by simp) rfl)
            have hR0 := Lib.hid hR
            have hK0 := Lib.hid hK
            clear hK hE hF hR hJ hsz
            unfold Oper.wp
            go_simp
            refine (CS.out _ hR0.out).mono ?_
            rintro e v6 ⟨p1, p2, p3, o1, o2, o3, rfl, _, ⟨oc1, oc2, oc3⟩, q6⟩
            exact hK0.out _ _ (fun _ => q6) (fun h => by cases h) ⟨p1, p2, p3, o1, o2, o3, upd_same _ _ _, oc1.low (Nat.zero_le _), oc2.low (Nat.zero_le _), oc3.low (Nat.zero_le _)⟩ (fun h => by cases h)
          · obtain rfl := Option.some.inj ho
            refine Or.inl ⟨(wanted_of (b := true) rfl rfl (by rw [hsz]; decide) (hE ⟨29, .guard⟩ (by simp) rfl)).trans (by rfl), ?_⟩
            have hK0 := Lib.hid hK
            clear hK hE hF hR hJ hsz
            unfold Oper.wp
            go_simp
            exact hK0.out (.pointer (some ⟨rb, 0, none⟩)) _ (fun _ => Nx.refl _) (fun h => by cases h) (upd_same _ _ _) (fun h => by cases h)
          · obtain rfl := Option.some.inj ho
            refine Or.inl ⟨(wanted_of (b := true) rfl rfl (by rw [hsz]; decide) (hE ⟨29, .guard⟩ (by simp) rfl)).trans (by rfl), ?_⟩
            have e143 : a1.tmps[143]?.getD undef = .pointer (some ⟨rb, 0, none⟩) := tmp_of (show a1.tmps.getD 143 undef = _ from hE ⟨32, .data⟩ (by simp) rfl)
            have hK0 := Lib.hid hK
            clear hK hE hF hR hJ hsz
            unfold Oper.wp
            go_simp
            exact hK0.out (.agg #[.slice B1 m1 d1, .slice B2 m2 d2, .slice B3 m3 d3]) _ (fun _ => Nx.refl _) (fun h => by cases h) (upd_same _ _ _) (fun h => by cases h)
          · obtain rfl := Option.some.inj ho
            refine Or.inl ⟨(wanted_of (b := true) rfl rfl (by rw [hsz]; decide) (hE ⟨29, .guard⟩ (by simp) rfl)).trans (by rfl), ?_⟩
            obtain ⟨p1, p2, p3, o1, o2, o3, ee, oc1, oc2, oc3⟩ : ∃ p1 p2 p3 o1 o2 o3, a1.tmps.getD 142 undef = .agg #[.slice (some ⟨p1, 0, none⟩) s1.q.length o1, .slice (some ⟨p2, 0, none⟩) s1.m.length o2, .slice (some ⟨p3, 0, none⟩) s1.e.length o3] ∧ OwB w1 0 p1 o1 s1.q ∧ OwB w1 0 p2 o2 s1.m ∧ OwB w1 0 p3 o3 s1.e := hE ⟨31, .data⟩ (by simp) rfl
            have e142 := tmp_of ee
            have OC := Lib.hid (And.intro oc1 (And.intro oc2 oc3))
            clear oc1 oc2 oc3 ee
            have e144 : a1.tmps[144]?.getD undef = .agg #[.slice B1 m1 d1, .slice B2 m2 d2, .slice B3 m3 d3] := tmp_of (show a1.tmps.getD 144 undef = _ from hE ⟨33, .data⟩ (by simp) rfl)
            have hR0 := Lib.hid hR
            have hK0 := Lib.hid hK
            clear hK hE hF hR hJ hsz
            unfold Oper.wp
            go_simp
            refine (stRefEqual_any (some ⟨p1, 0, none⟩) (some ⟨p2, 0, none⟩) (some ⟨p3, 0, none⟩) m1 m2 m3 o1 o2 o3 B1 B2 B3 m1 m2 m3 d1 d2 d3 s1.q s1.m s1.e s1.q s1.m s1.e HS.out.2.2.1 HS.out.2.2.2.1 HS.out.2.2.2.2 w1 (OC.out.1.im l1) (OC.out.2.1.im l2) (OC.out.2.2.im l3) (J1.out.nx (K3.out.trans (K4.out.trans hR0.out))) (J2.out.nx (K3.out.trans (K4.out.trans hR0.out))) (J3.out.nx (K3.out.trans (K4.out.trans hR0.out)))).mono ?_
            rintro e v6 ⟨rfl, q6⟩
            rw [show (eqB s1.q s1.q && eqB s1.m s1.m && eqB s1.e s1.e) = true by simp [eqB]]
            exact hK0.out (.bool true) _ (fun _ => q6) (fun h => by cases h) (upd_same _ _ _) (fun h => by cases h)
          · obtain rfl := Option.some.inj ho
            refine Or.inl ⟨wanted_none rfl, ?_⟩
            have e140 : a1.tmps[140]?.getD undef = .bool true := tmp_of (show a1.tmps.getD 140 undef = _ from hE ⟨29, .data⟩ (by simp) rfl)
            have e145 : a1.tmps[145]?.getD undef = .bool true := tmp_of (show a1.tmps.getD 145 undef = _ from hE ⟨34, .data⟩ (by simp) rfl)
            have hK0 := Lib.hid hK
            clear hK hE hF hR hJ hsz
            unfold Oper.wp
            go_simp
            exact hK0.out (.bool true) _ (fun _ => Nx.refl _) (fun h => by cases h) (upd_same _ _ _) (fun h => by cases h)
          · obtain rfl := Option.some.inj ho
            refine Or.inl ⟨wanted_none rfl, ?_⟩
            have e146 : a1.tmps[146]?.getD undef = .bool true := tmp_of (show a1.tmps.getD 146 undef = _ from hE ⟨35, .data⟩ (by simp) rfl)
            have hK0 := Lib.hid hK
            clear hK hE hF hR hJ hsz
            unfold Oper.wp
            go_simp
            exact hK0.out (.bool true) _ (fun _ => Nx.refl _) (fun h => by cases h) (upd_same _ _ _) (fun h => by cases h)
          · cases ho
        · intro a1 w1 hF hJ hR hP
          have f6 : a1.tmps[6]?.getD undef = .bool true := tmp_of (show a1.tmps.getD 6 undef = _ from hP 36 (by decide))
          have fd : a1.defers = [] := hF.1
          have hn := N3.out.trans (K4.out.trans hR)
          clear hF hJ hR hP
          go_wp2
          try simp only [Exit.inBlock, Exit.then]
          refine bodyPost_ret (by simp [results, Try.results5, go_sem, f6]; try rfl) fd ?_
          exact ⟨rfl, hn⟩
theorem law6_term (code : List In4) (m : Nat) (hl : code.length = m) (inp y1 y2 y3 : List Bool) (Ac Ai A1 A2 A3 : Option Addr) (cc ni ci m1 c1 m2 c2 m3 c3 : Nat) (w : World)
    (hc : RdC w Ac code) (hcn : Ac = none → cc = 0) (hi : Im w Ai ni ci inp) (h1 : Im w A1 m1 c1 y1) (h2 : Im w A2 m2 c2 y2) (h3 : Im w A3 m3 c3 y3) :
    Calls Try.prog 5 #[.slice Ac m cc, .slice Ai ni ci, .agg #[.slice A1 m1 c1, .slice A2 m2 c2, .slice A3 m3 c3]] w fun e w' => e = .returned (.bool true) ∧ Nx w w' := by
  subst hl
  by_cases h : sm6 code.length ni m1 m2 m3
  · exact law6_term_small code inp y1 y2 y3 Ac Ai A1 A2 A3 cc ni ci m1 c1 m2 c2 m3 c3 h w hc hcn hi h1 h2 h3
  · exact law6_term_big Ac Ai A1 A2 A3 code.length cc ni ci m1 c1 m2 c2 m3 c3 h w
end Go.Proofs.Ytmijfipggggdfaa
