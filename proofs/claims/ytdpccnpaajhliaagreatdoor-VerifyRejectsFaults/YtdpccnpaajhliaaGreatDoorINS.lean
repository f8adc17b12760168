/- The walk of VerifyIsSound. Conditions: the table of opcodes holds what the program's text lays; a program and images that read as lists. -/
import Derived.Test.YtdpccnpaajhliaaGreatDoorINP
import Derived.Test.YtdpccnpaajhliaaGreatDoorIN8
import Derived.Deep.RegionHeld3
namespace Go.Proofs.YtdpccnpaajhliaaGreatDoor
open Go.RowKit

theorem runPost_cells7 {code : List In4} {inp : List Bool} {s0 : Mc} {w w' : World} {e : Ending} (h : RunPost code inp s0 w e w') : ∃ A1 A2 A3 c1 c2 c3, e = .returned (.agg #[.slice A1 (run code inp s0 0).1.q.length c1, .slice A2 (run code inp s0 0).1.m.length c2, .slice A3 (run code inp s0 0).1.e.length c3, .int .i64 ((run code inp s0 0).2 : Int), .int .i64 ((run code inp s0 0).1.pc : Int), .int .i64 (run code inp s0 0).1.flt]) ∧ Nx w w' := by
  obtain ⟨v2, v3, v4, rfl, ⟨A1, A2, A3, c1, c2, c3, e, i1, i2, i3⟩, hn⟩ := h
  simp only [Value.agg.injEq, Array.mk.injEq, List.cons.injEq, and_true] at e
  obtain ⟨rfl, rfl, rfl⟩ := e
  exact ⟨_, _, _, _, _, _, rfl, hn⟩
theorem csz_small {i q m e : Int} (h : csz i q m e = 0) : (0 ≤ i ∧ i ≤ 256) ∧ (0 ≤ q ∧ q ≤ 256) ∧ (0 ≤ m ∧ m ≤ 256) ∧ (0 ≤ e ∧ e ≤ 16384) := by
  unfold csz at h
  split at h
  · rename_i hh
    simp only [Bool.and_eq_true, inB, decide_eq_true_eq] at hh
    exact ⟨hh.1.1.1, hh.1.1.2, hh.1.2, hh.2⟩
  · omega
theorem sn_fit {i q m e : Int} {code : List In4} (h : Vd i q m e code) {s : Mc} (hs : Sn q m e code s) : Fit s := by
  obtain ⟨_, h1, h2, h3⟩ := csz_small h.sz
  have := hs.hq
  have := hs.hm
  have := hs.he
  have := hs.pc
  have := h.big
  have := hs.st
  have := dAt_small h hs.pc
  exact ⟨⟨by omega, by omega, by omega⟩, by omega, by omega⟩
theorem sn_nf {q m e : Int} {code : List In4} {s : Mc} (hs : Sn q m e code s) : NF s := fun _ => hs.hf
theorem PMW.at7 {W w : World} {b sb ge : Nat} {code : List In4} {inp : List Bool} {s : Mc} (h : PMW W w b sb ge code inp s) :
    Calls Tryz.prog 11 #[.pointer (some ⟨b, 0, none⟩)] w (fun e w' => e = .returned (.int .i64 (s.pc : Int)) ∧ Nx w w') := by
  obtain ⟨o, nt, h1, h2⟩ := h
  exact vmAt_any _ b sb o ge nt code inp s w h1
theorem PMW.depth7 {W w : World} {b sb ge : Nat} {code : List In4} {inp : List Bool} {s : Mc} (h : PMW W w b sb ge code inp s) :
    Calls Tryz.prog 10 #[.pointer (some ⟨b, 0, none⟩)] w (fun e w' => e = .returned (.int .i64 (s.stk.length : Int)) ∧ Nx w w') := by
  obtain ⟨o, nt, h1, h2⟩ := h
  exact vmDepth_any _ b sb o ge nt code inp s w h1
theorem PMW.up7 {W w : World} {b sb ge : Nat} {code : List In4} {inp : List Bool} {s : Mc} (h : PMW W w b sb ge code inp s) : Nx W w := by
  obtain ⟨o, nt, h1, h2⟩ := h; exact h2

set_option maxHeartbeats 6400000 in
set_option maxRecDepth 100000 in
theorem law7_sound (i q m e : Int) (A : Option Addr) (code : List In4) (n c : Nat) (hn : code.length = n ∧ n ≤ maxLen) (Ai : Option Addr) (ni ci : Nat) (inp : List Bool) (A1 A2 A3 : Option Addr) (m1 m2 m3 c1 c2 c3 : Nat) (y1 y2 y3 : List Bool) (w : World)
    (hr : RdC w A code) (hz : n ≤ c ∧ (A = none → c = 0)) (he : Ev w) (hi : Im w Ai ni ci inp) (h1 : Im w A1 m1 c1 y1) (h2 : Im w A2 m2 c2 y2) (h3 : Im w A3 m3 c3 y3) :
    Calls Tryz.prog 3 #[pgV i q m e A n c, .slice Ai ni ci, .agg #[.slice A1 m1 c1, .slice A2 m2 c2, .slice A3 m3 c3]] w fun r w' => r = .returned (.bool true) ∧ Nx w w' := by
  have hl := hn.2
  have CK := Lib.hid (fun w' (h : Nx w w') => check_any i q m e A code n c hn.1 hn.2 w' (hr.nx h) (he.nx h))
  have AL := Lib.hid (fun w' (h : Nx w w') => alive7_any w' (he.nx h))
  obtain ⟨Z, hZ⟩ : ∃ Z, ckA i q m e code = Z := ⟨_, rfl⟩
  rw [hZ] at CK
  have HZ := Lib.hid hZ
  obtain ⟨za, zb, R⟩ := Z
  simp only at CK
  have HV := Lib.hid (show R = 0 → Vd i q m e code from fun h => Vd.of (by rw [hZ]; exact h))
  have HL := Lib.hid hn.1
  have HR := Lib.hid hr
  have HC := Lib.hid hz.2
  have HI := Lib.hid hi
  have H1 := Lib.hid h1
  have H2 := Lib.hid h2
  have H3 := Lib.hid h3
  clear hZ hn hr hz he hi h1 h2 h3
  unfold maxLen at hl
  have N0 := Lib.hid (show Nx w ((w.alloc (.cells #[.int .i64 i, .int .i64 q, .int .i64 m, .int .i64 e, .slice A n c] 26)).alloc (.cells #[.slice A1 m1 c1, .slice A2 m2 c2, .slice A3 m3 c3] 29)) from (Nx.one _ _).alloc _)
  have X1 := Lib.hid ((bx_new w 26 (pgC i q m e A n c)).nx (Nx.one _ (.cells #[.slice A1 m1 c1, .slice A2 m2 c2, .slice A3 m3 c3] 29)))
  have X2 := Lib.hid (bx_new (w.alloc (.cells #[.int .i64 i, .int .i64 q, .int .i64 m, .int .i64 e, .slice A n c] 26)) 29 [.slice A1 m1 c1, .slice A2 m2 c2, .slice A3 m3 c3])
  rw [show (w.alloc (.cells #[.int .i64 i, .int .i64 q, .int .i64 m, .int .i64 e, .slice A n c] 26)).heap.size = w.heap.size + 1 by simp] at X2
  unfold pgV at CK ⊢
  go_enter Tryz.func3, Tryz.ntmps3
  have x0 := X1.out.cell 0 rfl
  have x1 := X1.out.cell 1 rfl
  have x2 := X1.out.cell 2 rfl
  have x3 := X1.out.cell 3 rfl
  have x4 := X1.out.cell 4 rfl
  go_wp2_with fail
  clear x0 x1 x2 x3 x4
  rw [show (w.alloc (.cells (pgC i q m e A n c).toArray 26)) = w.alloc (.cells #[.int .i64 i, .int .i64 q, .int .i64 m, .int .i64 e, .slice A n c] 26) from rfl] at X1
  rw [show ((w.alloc (.cells #[.int .i64 i, .int .i64 q, .int .i64 m, .int .i64 e, .slice A n c] 26)).alloc (.cells [Value.slice A1 m1 c1, .slice A2 m2 c2, .slice A3 m3 c3].toArray 29)) = (w.alloc (.cells #[.int .i64 i, .int .i64 q, .int .i64 m, .int .i64 e, .slice A n c] 26)).alloc (.cells #[.slice A1 m1 c1, .slice A2 m2 c2, .slice A3 m3 c3] 29) from rfl] at X2
  generalize (w.alloc (.cells #[.int .i64 i, .int .i64 q, .int .i64 m, .int .i64 e, .slice A n c] 26)).alloc (.cells #[.slice A1 m1 c1, .slice A2 m2 c2, .slice A3 m3 c3] 29) = W at *
  generalize w.heap.size + 1 = g2 at *
  generalize w.heap.size = g1 at *
  have S1 := Lib.hid (show ∀ w', Nx W w' → w'.cell? ⟨g1, 0, none⟩ = some (.int .i64 i) ∧ w'.cell? ⟨g1, 1, none⟩ = some (.int .i64 q) ∧ w'.cell? ⟨g1, 2, none⟩ = some (.int .i64 m) ∧ w'.cell? ⟨g1, 3, none⟩ = some (.int .i64 e) ∧ w'.cell? ⟨g1, 4, none⟩ = some (.slice A n c) from fun w' h =>
    ⟨(X1.out.nx h).cell 0 rfl, (X1.out.nx h).cell 1 rfl, (X1.out.nx h).cell 2 rfl, (X1.out.nx h).cell 3 rfl, (X1.out.nx h).cell 4 rfl⟩)
  have S2 := Lib.hid (show ∀ w', Nx W w' → w'.cell? ⟨g2, 0, none⟩ = some (.slice A1 m1 c1) ∧ w'.cell? ⟨g2, 1, none⟩ = some (.slice A2 m2 c2) ∧ w'.cell? ⟨g2, 2, none⟩ = some (.slice A3 m3 c3) from fun w' h =>
    ⟨(X2.out.nx h).cell 0 rfl, (X2.out.nx h).cell 1 rfl, (X2.out.nx h).cell 2 rfl⟩)
  clear X1 X2
  refine (CK.out W N0.out).mono ?_
  rintro r w1 ⟨rfl, k1⟩
  have M1 := Lib.hid k1
  clear k1 CK
  by_cases hR : R = 0
  rotate_left
  · have t1 : (R == 0) = false := by simpa using hR
    have t2 : (R != 0) = true := by simpa using hR
    clear hR
    go_wp2_with fail
    refine (AL.out _ (N0.out.trans M1.out)).mono ?_
    rintro r w2 ⟨rfl, k2⟩
    go_wp2_with fail
    go_ret
    exact ⟨rfl, N0.out.trans (M1.out.trans k2)⟩
  subst hR
  have V := Lib.hid (HV.out rfl)
  clear HV
  obtain ⟨x0, x1, x2, x3, x4⟩ := S1.out w1 M1.out
  obtain ⟨z0, z1, z2⟩ := S2.out w1 M1.out
  by_cases hb : 1000 < n
  · have hbi : (1000 : Int) < (n : Int) := by omega
    go_wp2_with fail
    refine (AL.out _ (N0.out.trans M1.out)).mono ?_
    rintro r w2 ⟨rfl, k2⟩
    go_wp2_with fail
    go_ret
    exact ⟨rfl, N0.out.trans (M1.out.trans k2)⟩
  have hbi : ¬ (1000 : Int) < (n : Int) := by omega
  have hsz := csz_small V.out.sz
  by_cases d0 : (ni : Int) = i
  rotate_left
  · have t1 : ((ni : Int) == i) = false := by simpa using d0
    have t2 : ((ni : Int) != i) = true := by simpa using d0
    clear d0 hsz
    go_wp2_with fail
    refine (AL.out _ (N0.out.trans M1.out)).mono ?_
    rintro r w2 ⟨rfl, k2⟩
    go_wp2_with fail
    go_ret
    exact ⟨rfl, N0.out.trans (M1.out.trans k2)⟩
  subst d0
  by_cases d1 : (m1 : Int) = q
  rotate_left
  · have t1 : ((m1 : Int) == q) = false := by simpa using d1
    have t2 : ((m1 : Int) != q) = true := by simpa using d1
    clear d1 hsz
    go_wp2_with fail
    refine (AL.out _ (N0.out.trans M1.out)).mono ?_
    rintro r w2 ⟨rfl, k2⟩
    go_wp2_with fail
    go_ret
    exact ⟨rfl, N0.out.trans (M1.out.trans k2)⟩
  subst d1
  by_cases d2 : (m2 : Int) = m
  rotate_left
  · have t1 : ((m2 : Int) == m) = false := by simpa using d2
    have t2 : ((m2 : Int) != m) = true := by simpa using d2
    clear d2 hsz
    go_wp2_with fail
    refine (AL.out _ (N0.out.trans M1.out)).mono ?_
    rintro r w2 ⟨rfl, k2⟩
    go_wp2_with fail
    go_ret
    exact ⟨rfl, N0.out.trans (M1.out.trans k2)⟩
  subst d2
  by_cases d3 : (m3 : Int) = e
  rotate_left
  · have t1 : ((m3 : Int) == e) = false := by simpa using d3
    have t2 : ((m3 : Int) != e) = true := by simpa using d3
    clear d3 hsz
    go_wp2_with fail
    refine (AL.out _ (N0.out.trans M1.out)).mono ?_
    rintro r w2 ⟨rfl, k2⟩
    go_wp2_with fail
    go_ret
    exact ⟨rfl, N0.out.trans (M1.out.trans k2)⟩
  subst d3
  obtain ⟨⟨_, b0⟩, ⟨_, b1⟩, ⟨_, b2⟩, ⟨_, b3⟩⟩ := hsz
  have RN := Lib.hid (fun w' (k : Nx w w') => vmRun_any code inp y1 y2 y3 (by rw [HL.out]; omega) A Ai A1 A2 A3 c ni ci m1 c1 m2 c2 m3 c3 (by omega) (by omega) (by omega) (by omega) w' (HR.out.nx k) HC.out (HI.out.nx k) (H1.out.nx k) (H2.out.nx k) (H3.out.nx k))
  have NW := Lib.hid (fun w' (k : Nx w w') => vmNew_any code inp y1 y2 y3 (by rw [HL.out]; omega) A Ai A1 A2 A3 c ni ci m1 c1 m2 c2 m3 c3 (by omega) (by omega) (by omega) (by omega) w' (HR.out.nx k) HC.out (HI.out.nx k) (H1.out.nx k) (H2.out.nx k) (H3.out.nx k))
  rw [HL.out] at RN NW
  unfold NewPM at NW
  have hli : (inp.length : Int) = ni := by rw [HI.out.2.1]
  have SN := Lib.hid (sn_start V.out (x1 := y1) (x2 := y2) (x3 := y3) (by rw [H1.out.2.1]) (by rw [H2.out.2.1]) (by rw [H3.out.2.1]))
  have LI := Lib.hid hli
  have RR := Lib.hid (sn_run V.out hli _ _ 0 SN.out (Nat.le_refl _))
  have RL := Lib.hid (run_le code inp y1 y2 y3)
  clear hli b0 b1 b2 b3
  go_wp2_with fail
  refine (RN.out w1 (N0.out.trans M1.out)).mono ?_
  intro e w2 hp
  obtain ⟨B1, B2, B3, f1, f2, f3, rfl, k2⟩ := runPost_cells7 hp
  have M2 := Lib.hid (M1.out.trans k2)
  clear k2 hp RN x0 x1 x2 x3 x4 z0 z1 z2
  obtain ⟨r, hr⟩ : ∃ r, run code inp (mc0 y1 y2 y3) 0 = r := ⟨_, rfl⟩
  rw [hr] at RR RL ⊢
  have HRR := Lib.hid hr
  clear hr
  obtain ⟨rf0, rop, rpl, rst⟩ := RR.out
  obtain ⟨rsl, _⟩ := RL.out
  rw [rf0]
  generalize r.1.q.length = l1 at *
  generalize r.1.m.length = l2 at *
  generalize r.1.e.length = l3 at *
  obtain ⟨rn, hrn⟩ : ∃ rn, r.2 = rn := ⟨_, rfl⟩
  obtain ⟨rp, hrp⟩ : ∃ rp, r.1.pc = rp := ⟨_, rfl⟩
  rw [hrn] at rst rsl
  rw [hrp] at rop rpl
  rw [hrn, hrp]
  rw [HL.out] at rpl rsl
  have HRP := Lib.hid hrp
  have HOP := Lib.hid rop
  clear hrn hrp rf0 rop RR RL
  have M3 := Lib.hid (show Nx W (w2.alloc (.cells #[.slice B1 l1 f1, .slice B2 l2 f2, .slice B3 l3 f3, .int .i64 rn, .int .i64 rp, .int .i64 0] 35)) from M2.out.alloc _)
  have XY := Lib.hid (bx_new w2 35 [.slice B1 l1 f1, .slice B2 l2 f2, .slice B3 l3 f3, .int .i64 rn, .int .i64 rp, .int .i64 0])
  obtain ⟨x0, x1, x2, x3, x4⟩ := S1.out _ M3.out
  obtain ⟨z0, z1, z2⟩ := S2.out _ M3.out
  go_wp2_with fail
  clear x0 x1 x2 x3 x4 z0 z1 z2
  rw [show (w2.alloc (.cells [Value.slice B1 l1 f1, .slice B2 l2 f2, .slice B3 l3 f3, .int .i64 rn, .int .i64 rp, .int .i64 0].toArray 35)) = w2.alloc (.cells #[.slice B1 l1 f1, .slice B2 l2 f2, .slice B3 l3 f3, .int .i64 rn, .int .i64 rp, .int .i64 0] 35) from rfl] at XY
  generalize w2.alloc (.cells #[.slice B1 l1 f1, .slice B2 l2 f2, .slice B3 l3 f3, .int .i64 rn, .int .i64 rp, .int .i64 0] 35) = W3 at *
  generalize w2.heap.size = g3 at *
  refine (NW.out W3 (N0.out.trans M3.out)).mono ?_
  rintro e w4 ⟨b, sb, ge, rfl, hp, k⟩
  have P4 := Lib.hid (show PMW W3 w4 b sb ge code inp (mc0 y1 y2 y3) from ⟨none, 0, hp, k⟩)
  have M4 := Lib.hid (M3.out.trans k)
  have XY4 := Lib.hid (XY.out.nx k)
  clear k hp NW
  obtain ⟨x0, x1, x2, x3, x4⟩ := S1.out w4 M4.out
  have u1 := XY4.out.cell 3 rfl
  have u2 := XY4.out.cell 4 rfl
  have u3 := XY4.out.cell 5 rfl
  obtain ⟨x, hx⟩ := code_at code rp (by rw [HL.out]; exact rpl)
  have hxo : x.op = 16 := (opA_at hx).symm.trans HOP.out
  obtain ⟨ad, rfl, a0, _, _, _⟩ := (HR.out.nx (N0.out.trans M4.out)).fr4 hx
  rw [hxo] at a0
  clear hx hxo
  have v1 : ¬ (rp : Int) < 0 := by omega
  have v2 : ¬ (n : Int) ≤ (rp : Int) := by omega
  have v3 : ¬ (rn : Int) < 1 := by omega
  have v4 : ¬ (n : Int) < (rn : Int) := by omega
  have v5 : decide ((rp : Int) < 0) = false := decide_eq_false (by omega)
  have v6 : decide (n ≤ rp) = false := decide_eq_false (by omega)
  have v7 : decide ((rn : Int) < 1) = false := decide_eq_false (by omega)
  have v8 : decide (n < rn) = false := decide_eq_false (by omega)
  have v9 : decide (rn < 1) = false := decide_eq_false (by omega)
  obtain ⟨s0, hs0⟩ : ∃ s0, mc0 y1 y2 y3 = s0 := ⟨_, rfl⟩
  have HMU := Lib.hid (show mu code s0 ≤ n + 1 by rw [← hs0, ← HL.out]; simp [mu, mc0])
  rw [hs0] at P4 SN HRR
  clear hs0
  have hza := V.out.ans
  rw [HZ.out] at hza
  have hzm : za = mxD code := congrArg (fun x => x.1) hza
  have HZM := Lib.hid hzm
  clear hza hzm
  go_wp2_with fail
  clear x0 x1 x2 x3 x4 u1 u2 u3 a0 v1 v2 v3 v4 v5 v6 v7 v8 v9
  go_loopw [121] (fun vi wr => ∃ (s : Mc) (k : Nat), vi = .int .i64 k ∧ PMW W3 wr b sb ge code inp s ∧ Sn m1 m2 m3 code s ∧ run code inp s k = run code inp s0 0 ∧ k + mu code s ≤ n + 1) (fun vi _ => n + 2 - (intOf vi).toNat)
  case atStart => exact ⟨s0, 0, rfl, P4.out, SN.out, rfl, by have := HMU.out; omega⟩
  case round =>
    obtain ⟨s, k, rfl, hp, hs, hrun, hmu⟩ := hrel
    clear P4 SN HMU
    obtain ⟨e0, hc⟩ := sn_step V.out LI.out hs
    have hh := hs.hh
    have hmu0 := stp_mu (code := code) (inp := inp) hh
    have hr1 := run_step (code := code) (inp := inp) hh k
    rw [if_pos e0] at hr1
    have HR1 := Lib.hid (hr1.symm.trans hrun)
    have HM0 := Lib.hid hmu0
    have HM1 := Lib.hid hmu
    have hkn : k < n + 1 := by
      have : 0 < mu code s := by unfold mu; rw [hh]; simp
      omega
    have hki : (k : Int) < (n : Int) + 1 := by omega
    have CL := Lib.hid (hp.step (sn_fit V.out hs) (sn_nf hs))
    rw [e0] at CL
    obtain ⟨s1, hs1⟩ : ∃ s1, (stp code inp s).1 = s1 := ⟨_, rfl⟩
    obtain ⟨ok, hok⟩ : ∃ ok, (stp code inp s).2.1 = ok := ⟨_, rfl⟩
    rw [hs1, hok] at CL
    rw [hs1] at HM0 HR1 hc
    rw [hok] at hc
    have hdp : s1.stk.length ≤ za := by
      rw [HZM.out]
      rcases hc with ⟨_, _, _, _, _, g⟩ | ⟨g, _, _⟩
      · rw [g]; exact mx_le code hs.pc
      · rw [g.st]; exact mx_le code g.pc
    have HC1 := Lib.hid hc
    clear hc hp hs hrun hmu e0 hh hmu0 hr1 hs1 hok
    go_wp2_with fail
    refine CL.out.mono ?_
    rintro e u1 ⟨rfl, hp⟩
    have P1 := Lib.hid hp
    have CD := Lib.hid hp.depth7
    clear hp CL
    obtain ⟨dl, hdl⟩ : ∃ dl, s1.stk.length = dl := ⟨_, rfl⟩
    rw [hdl] at CD hdp
    have HDL := Lib.hid hdl
    clear hdl
    have w1 : ¬ (za : Int) < (dl : Int) := by omega
    go_wp2_with fail
    refine CD.out.mono ?_
    rintro e u2 ⟨rfl, q2⟩
    have P2 := Lib.hid (P1.out.nx q2)
    clear q2 CD P1
    rcases HC1.out with ⟨g1, g2, g3, g4, g5, g6⟩ | ⟨g1, g2, g3⟩
    rotate_left
    · subst g2
      have G1 := Lib.hid g1
      clear g1 g3
      go_wp2_with fail
      go_roundw
      case rel => exact ⟨s1, k + 1, by go_num, P2.out, G1.out, HR1.out, by have := HM0.out; have := HM1.out; omega⟩
      case measure => simp only [intOf]; omega
    · subst g3
      have hrr : r = (s1, k + 1) := by rw [← HRR.out, ← HR1.out]; exact run_hlt g2 _
      have hpc : s1.pc = rp := by rw [← HRP.out, hrr]
      have CA := Lib.hid (fun w' (q : Nx u2 w') => (P2.out.nx q).at7)
      rw [hpc] at CA
      have M5 := Lib.hid (M3.out.trans P2.out.up7)
      have XY5 := Lib.hid (XY.out.nx P2.out.up7)
      clear g1 g2 g4 g5 g6 hrr hpc HC1
      have AL2 := Lib.hid (fun w' (h : Nx u2 w') => AL.out w' ((N0.out.trans M5.out).trans h))
      have HS := Lib.hid (show ∀ w', Nx u2 w' → w'.cell? ⟨g3, 4, none⟩ = some (.int .i64 rp) from fun w' h => (XY5.out.nx h).cell 4 rfl)
      have u2c := HS.out u2 (Nx.refl _)
      have e1 : ((rp : Int) == (rp : Int)) = true := by simp
      go_wp2_with fail
      go_region_held3 (fun w' => w'.cell? ⟨g3, 4, none⟩ = some (.int .i64 rp)) (first | exact HS.out _ (by repeat (first | exact Nx.refl _ | assumption | refine Nx.drew ?_ | refine Nx.drewN ?_ _ | refine Nx.alloc ?_ _ | refine Nx.trans ?_ (by assumption))))
        (first
          | (go_at_call 6; refine (AL2.out _ (by repeat (first | exact Nx.refl _ | assumption | refine Nx.drew ?_ | refine Nx.drewN ?_ _ | refine Nx.alloc ?_ _ | refine Nx.trans ?_ (by assumption)))).mono ?_; rintro e w5 ⟨rfl, h5⟩)
          | (go_at_call 11; refine (CA.out _ (by repeat (first | exact Nx.refl _ | assumption | refine Nx.drew ?_ | refine Nx.drewN ?_ _ | refine Nx.alloc ?_ _ | refine Nx.trans ?_ (by assumption)))).mono ?_; rintro e w6 ⟨rfl, h6⟩))
      all_goals go_wp2_with fail
      all_goals go_ret
      all_goals exact ⟨rfl, (N0.out.trans M5.out).trans (by repeat (first | exact Nx.refl _ | assumption | refine Nx.drew ?_ | refine Nx.drewN ?_ _ | refine Nx.alloc ?_ _ | refine Nx.trans ?_ (by assumption)))⟩
end Go.Proofs.YtdpccnpaajhliaaGreatDoor
