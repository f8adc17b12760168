/- The walk of the law on what a program leaves. No condition. -/
import Derived.Test.YtdpccnpaajhliaaIXG
import Derived.Test.YtdpccnpaajhliaaIFM
import Derived.Test.YtdpccnpaajhliaaMA
namespace Go.Proofs.Ytdpccnpaajhliaa
open Go.RowKit

/-- The keys that the first instructions put in. -/
def WrK (code : List In4) (j : Nat) (v : Value) : Prop := ∃ x ∈ code.take j, 11 ≤ x.op ∧ x.op ≤ 14 ∧ v = aK x.k x.n
def SeK (code : List In4) (j : Nat) (v : Value) : Prop := ∃ x ∈ code.take j, (x.op = 6 ∨ x.op = 7) ∧ v = .int .i64 x.t
def AsK (code : List In4) (j : Nat) (v : Value) : Prop := ∃ x ∈ code.take j, 0 ≤ x.op ∧ x.op ≤ 7 ∧ x.k = 0 ∧ v = .int .i64 x.n
theorem take_mem {code : List In4} {j : Nat} {x : In4} (h : code[j]? = some x) (y : In4) : y ∈ code.take (j + 1) ↔ y ∈ code.take j ∨ y = x := by
  rw [List.take_add_one, h]
  simp
theorem wrK_yes {code : List In4} {j : Nat} {x : In4} (h : code[j]? = some x) (a : 11 ≤ x.op) (b : x.op ≤ 14) (v : Value) : (v = aK x.k x.n ∨ WrK code j v) ↔ WrK code (j + 1) v := by
  unfold WrK
  constructor
  · rintro (rfl | ⟨y, hy, h1⟩)
    · exact ⟨x, (take_mem h x).2 (.inr rfl), a, b, rfl⟩
    · exact ⟨y, (take_mem h y).2 (.inl hy), h1⟩
  · rintro ⟨y, hy, h1, h2, rfl⟩
    rcases (take_mem h y).1 hy with hy | rfl
    · exact .inr ⟨y, hy, h1, h2, rfl⟩
    · exact .inl rfl
theorem wrK_no {code : List In4} {j : Nat} {x : In4} (h : code[j]? = some x) (a : ¬ (11 ≤ x.op ∧ x.op ≤ 14)) (v : Value) : WrK code j v ↔ WrK code (j + 1) v := by
  unfold WrK
  constructor
  · rintro ⟨y, hy, h1⟩
    exact ⟨y, (take_mem h y).2 (.inl hy), h1⟩
  · rintro ⟨y, hy, h1, h2, rfl⟩
    rcases (take_mem h y).1 hy with hy | rfl
    · exact ⟨y, hy, h1, h2, rfl⟩
    · exact absurd ⟨h1, h2⟩ a
theorem seK_yes {code : List In4} {j : Nat} {x : In4} (h : code[j]? = some x) (a : x.op = 6 ∨ x.op = 7) (v : Value) : (v = .int .i64 x.t ∨ SeK code j v) ↔ SeK code (j + 1) v := by
  unfold SeK
  constructor
  · rintro (rfl | ⟨y, hy, h1⟩)
    · exact ⟨x, (take_mem h x).2 (.inr rfl), a, rfl⟩
    · exact ⟨y, (take_mem h y).2 (.inl hy), h1⟩
  · rintro ⟨y, hy, h1, rfl⟩
    rcases (take_mem h y).1 hy with hy | rfl
    · exact .inr ⟨y, hy, h1, rfl⟩
    · exact .inl rfl
theorem seK_no {code : List In4} {j : Nat} {x : In4} (h : code[j]? = some x) (a : ¬ (x.op = 6 ∨ x.op = 7)) (v : Value) : SeK code j v ↔ SeK code (j + 1) v := by
  unfold SeK
  constructor
  · rintro ⟨y, hy, h1⟩
    exact ⟨y, (take_mem h y).2 (.inl hy), h1⟩
  · rintro ⟨y, hy, h1, rfl⟩
    rcases (take_mem h y).1 hy with hy | rfl
    · exact ⟨y, hy, h1, rfl⟩
    · exact absurd h1 a
theorem asK_yes {code : List In4} {j : Nat} {x : In4} (h : code[j]? = some x) (a : 0 ≤ x.op) (b : x.op ≤ 7) (c : x.k = 0) (v : Value) : (v = .int .i64 x.n ∨ AsK code j v) ↔ AsK code (j + 1) v := by
  unfold AsK
  constructor
  · rintro (rfl | ⟨y, hy, h1⟩)
    · exact ⟨x, (take_mem h x).2 (.inr rfl), a, b, c, rfl⟩
    · exact ⟨y, (take_mem h y).2 (.inl hy), h1⟩
  · rintro ⟨y, hy, h1, h2, h3, rfl⟩
    rcases (take_mem h y).1 hy with hy | rfl
    · exact .inr ⟨y, hy, h1, h2, h3, rfl⟩
    · exact .inl rfl
theorem asK_no {code : List In4} {j : Nat} {x : In4} (h : code[j]? = some x) (a : ¬ (0 ≤ x.op ∧ x.op ≤ 7 ∧ x.k = 0)) (v : Value) : AsK code j v ↔ AsK code (j + 1) v := by
  unfold AsK
  constructor
  · rintro ⟨y, hy, h1⟩
    exact ⟨y, (take_mem h y).2 (.inl hy), h1⟩
  · rintro ⟨y, hy, h1, h2, h3, rfl⟩
    rcases (take_mem h y).1 hy with hy | rfl
    · exact ⟨y, hy, h1, h2, h3, rfl⟩
    · exact absurd ⟨h1, h2, h3⟩ a
theorem RdC.fr4 {w : World} {A : Option Addr} {code : List In4} (h : RdC w A code) {k : Nat} {x : In4} (hk : code[k]? = some x) : ∃ ad, A = some ad ∧ w.cell? (ad.add (k * 4)) = some (.int .i64 x.op) ∧
    w.cell? ⟨(ad.add (k * 4)).block, (ad.add (k * 4)).off + 1, none⟩ = some (.int .i64 x.k) ∧ w.cell? ⟨(ad.add (k * 4)).block, (ad.add (k * 4)).off + 2, none⟩ = some (.int .i64 x.n) ∧ w.cell? ⟨(ad.add (k * 4)).block, (ad.add (k * 4)).off + 3, none⟩ = some (.int .i64 x.t) := by
  obtain ⟨ad, e, h1, h2, h3, h4⟩ := h k x hk
  refine ⟨ad, e, h1, ?_, ?_, ?_⟩
  · rw [← Addr.add_add] at h2
    exact (congrArg w.cell? (Addr.add_succ' _ 0)).symm.trans h2
  · rw [← Addr.add_add] at h3
    exact (congrArg w.cell? (Addr.add_succ' _ 1)).symm.trans h3
  · rw [← Addr.add_add] at h4
    exact (congrArg w.cell? (Addr.add_succ' _ 2)).symm.trans h4
theorem code_at (code : List In4) (k : Nat) (h : k < code.length) : ∃ x, code[k]? = some x := ⟨code[k], List.getElem?_eq_getElem h⟩
/-- The three maps. -/
def Mps (code : List In4) (j : Nat) (B : Nat) (w : World) : Prop := SetM isA (WrK code j) w B ∧ SetM isI (SeK code j) w (B + 1) ∧ SetM isI (AsK code j) w (B + 2)
theorem Mps.nx {code : List In4} {j B : Nat} {w w' : World} (h : Mps code j B w) (k : Nx w w') : Mps code j B w' := ⟨h.1.nx k, h.2.1.nx k, h.2.2.nx k⟩
theorem Mps.mk0 (code : List In4) (w : World) : Mps code 0 w.heap.size (((w.alloc (.map #[] 0)).alloc (.map #[] 0)).alloc (.map #[] 0)) := by
  have e0 : ∀ v, (fun _ : Value => False) v ↔ WrK code 0 v := fun v => by simp [WrK]
  have e1 : ∀ v, (fun _ : Value => False) v ↔ SeK code 0 v := fun v => by simp [SeK]
  have e2 : ∀ v, (fun _ : Value => False) v ↔ AsK code 0 v := fun v => by simp [AsK]
  refine ⟨((SetM.mk0 isA w).same e0).nx (((Nx.refl _).alloc _).alloc _), ?_, ?_⟩
  · have := ((SetM.mk0 isI (w.alloc (.map #[] 0))).same e1).nx (Nx.one _ (.map #[] 0))
    simpa using this
  · have := (SetM.mk0 isI ((w.alloc (.map #[] 0)).alloc (.map #[] 0))).same e2
    simpa using this
/-- A round, what becomes of the maps: three worlds in a row. -/
theorem Puts.bx {mm g : Nat} {T : TypeId} {vs : List Value} {w w' : World} (h : Puts mm w w') (hb : Bx w g T vs) (hne : mm ≠ g) : Bx w' g T vs := by
  obtain ⟨o, rfl⟩ := h
  unfold Bx at hb ⊢
  simpa [hne] using hb


theorem set_keep {inp xs : List Bool} {P : Nat → Prop} (h : ∀ i, P i → inp[i]? = xs[i]?) {j : Nat} {b : Bool} (hb : xs[j]? = some b) (v : Bool) (hv : P j → v = b) : ∀ i, P i → inp[i]? = (xs.set j v)[i]? := by
  intro i hi
  by_cases e : j = i
  · subst e
    rw [h j hi, hb, hv hi]
    have : j < xs.length := (List.getElem?_eq_some_iff.1 hb).1
    simp [this]
  · rw [List.getElem?_set_ne e]; exact h i hi

set_option maxHeartbeats 6400000 in
set_option maxRecDepth 100000 in
theorem law6_frame_big (Ac Ai A1 A2 A3 : Option Addr) (nc cc ni ci m1 c1 m2 c2 m3 c3 : Nat) (h : ¬ sm6 nc ni m1 m2 m3) (w : World) :
    Calls Try.prog 4 #[.slice Ac nc cc, .slice Ai ni ci, .agg #[.slice A1 m1 c1, .slice A2 m2 c2, .slice A3 m3 c3]] w fun e w' => e = .returned (.bool true) ∧ Nx w w' := by
  have N0 := Lib.hid (Nx.one w (.cells #[.slice A1 m1 c1, .slice A2 m2 c2, .slice A3 m3 c3] 31))
  have XS := bx_new w 31 [.slice A1 m1 c1, .slice A2 m2 c2, .slice A3 m3 c3]
  have x0 := XS.cell 0 rfl
  have x1 := XS.cell 1 rfl
  have x2 := XS.cell 2 rfl
  clear XS
  go_enter Try.func4, Try.ntmps4
  go_wp2_with fail
  clear x0 x1 x2
  generalize w.alloc (.cells #[.slice A1 m1 c1, .slice A2 m2 c2, .slice A3 m3 c3] 31) = W at *
  refine (large6_yes Ac Ai A1 A2 A3 nc cc ni ci m1 m2 m3 c1 c2 c3 h W).mono ?_
  rintro e w1 ⟨rfl, hn⟩
  have N1 := Lib.hid (N0.out.trans hn)
  clear hn
  go_wp2_with fail
  refine (al_ok w1).mono ?_
  rintro e w2 ⟨rfl, hn⟩
  have N2 := Lib.hid (N1.out.trans hn)
  clear hn
  go_wp2_with fail
  go_ret
  exact ⟨rfl, N2.out⟩

set_option maxHeartbeats 64000000 in
set_option maxRecDepth 100000 in
theorem law6_frame_small (code : List In4) (inp y1 y2 y3 : List Bool) (Ac Ai A1 A2 A3 : Option Addr) (cc ni ci m1 c1 m2 c2 m3 c3 : Nat) (h : sm6 code.length ni m1 m2 m3) (w : World)
    (hc : RdC w Ac code) (hcn : Ac = none → cc = 0) (hi : Im w Ai ni ci inp) (h1 : Im w A1 m1 c1 y1) (h2 : Im w A2 m2 c2 y2) (h3 : Im w A3 m3 c3 y3) :
    Calls Try.prog 4 #[.slice Ac code.length cc, .slice Ai ni ci, .agg #[.slice A1 m1 c1, .slice A2 m2 c2, .slice A3 m3 c3]] w fun e w' => e = .returned (.bool true) ∧ Nx w w' := by
  have hs : code.length ≤ 1000000 ∧ ni ≤ 1000000 ∧ m1 ≤ 1000000 ∧ m2 ≤ 1000000 ∧ m3 ≤ 1000000 := by obtain ⟨a, b, c, d, e⟩ := h; exact ⟨by omega, by omega, by omega, by omega, by omega⟩
  have N0 := Lib.hid (Nx.one w (.cells #[.slice A1 m1 c1, .slice A2 m2 c2, .slice A3 m3 c3] 31))
  have XS := bx_new w 31 [.slice A1 m1 c1, .slice A2 m2 c2, .slice A3 m3 c3]
  have x0 := XS.cell 0 rfl
  have x1 := XS.cell 1 rfl
  have x2 := XS.cell 2 rfl
  have HX := Lib.hid XS
  have HC := Lib.hid hc
  have HN := Lib.hid hcn
  have HI := Lib.hid hi
  have H1 := Lib.hid h1
  have H2 := Lib.hid h2
  have H3 := Lib.hid h3
  have HS := Lib.hid hs
  have HM := Lib.hid h
  clear XS hc hcn hi h1 h2 h3 hs h
  have HA := Lib.hid (show ∀ w' : World, Calls Try.prog 5 #[] w' (fun e w2 => e = .returned (.bool true) ∧ Nx w' w2) from al_ok)
  have hmm := @run_makeMap Try.prog
  go_enter Try.func4, Try.ntmps4
  go_wp2_with fail
  clear x0 x1 x2
  generalize w.alloc (.cells #[.slice A1 m1 c1, .slice A2 m2 c2, .slice A3 m3 c3] 31) = W at *
  refine (large6_no Ac Ai A1 A2 A3 _ cc ni ci m1 m2 m3 c1 c2 c3 HM.out W).mono ?_
  rintro e w1 ⟨rfl, hn⟩
  have N1 := Lib.hid (N0.out.trans hn)
  have HX1 := Lib.hid (HX.out.nx hn)
  clear hn HX N0
  have x0 := HX1.out.cell 0 rfl
  have x1 := HX1.out.cell 1 rfl
  have x2 := HX1.out.cell 2 rfl
  go_wp2_with fail
  clear x0 x1 x2
  refine (vmRunOk code inp y1 y2 y3 Ac Ai A1 A2 A3 cc ni ci m1 c1 m2 c2 m3 c3 w1 HS.out.1 HS.out.2.1 HS.out.2.2.1 HS.out.2.2.2.1 HS.out.2.2.2.2 (HC.out.nx N1.out) HN.out (HI.out.nx N1.out) (H1.out.nx N1.out) (H2.out.nx N1.out) (H3.out.nx N1.out)).mono ?_
  intro e w2 hp
  obtain ⟨B1, B2, B3, d1, d2, d3, rfl, i1, i2, i3, hn⟩ := runPost_cells hp
  have N2 := Lib.hid (N1.out.trans hn)
  have HX2 := Lib.hid (HX1.out.nx hn)
  clear hn HX1 hp
  obtain ⟨r, hr⟩ : ∃ r, run code inp (mc0 y1 y2 y3) 0 = r := ⟨_, rfl⟩
  have HR := Lib.hid hr
  have hlen : r.1.q.length = m1 ∧ r.1.m.length = m2 ∧ r.1.e.length = m3 := by
    have := run_len code inp (mc0 y1 y2 y3) 0
    rw [hr] at this
    exact ⟨this.1.trans (im_len H1.out), this.2.1.trans (im_len H2.out), this.2.2.trans (im_len H3.out)⟩
  rw [hr] at i1 i2 i3 ⊢
  obtain ⟨l1, l2, l3⟩ := hlen
  rw [l1] at i1
  rw [l2] at i2
  rw [l3] at i3
  rw [l1, l2, l3]
  have I1 := Lib.hid i1
  have I2 := Lib.hid i2
  have I3 := Lib.hid i3
  have HLEN := Lib.hid (And.intro l1 (And.intro l2 l3))
  clear i1 i2 i3 hr l1 l2 l3
  obtain ⟨rn, hrn⟩ : ∃ rn, r.2 = rn := ⟨_, rfl⟩
  obtain ⟨rp, hrp⟩ : ∃ rp, r.1.pc = rp := ⟨_, rfl⟩
  obtain ⟨rf, hrf⟩ : ∃ rf, r.1.flt = rf := ⟨_, rfl⟩
  have HRN := Lib.hid hrn
  have HRP := Lib.hid hrp
  have HRF := Lib.hid hrf
  rw [hrn, hrp, hrf]
  clear hrn hrp hrf
  have YB := bx_new w2 34 [.slice B1 m1 d1, .slice B2 m2 d2, .slice B3 m3 d3, .int .i64 (rn : Int), .int .i64 (rp : Int), .int .i64 rf]
  have k := Nx.one w2 (.cells #[.slice B1 m1 d1, .slice B2 m2 d2, .slice B3 m3 d3, .int .i64 (rn : Int), .int .i64 (rp : Int), .int .i64 rf] 34)
  have x0 := (HX2.out.nx k).cell 0 rfl
  have x1 := (HX2.out.nx k).cell 1 rfl
  have x2 := (HX2.out.nx k).cell 2 rfl
  have y0 := YB.cell 0 rfl
  have y1' := YB.cell 1 rfl
  have y2' := YB.cell 2 rfl
  have HY := Lib.hid YB
  have N3 := Lib.hid (N2.out.trans k)
  have K3 := Lib.hid k
  have HX3 := Lib.hid (HX2.out.nx k)
  clear YB k HX2
  go_upto_block 0 with fail
  generalize hrb : w2.heap.size = rb at *
  generalize hxb : w.heap.size = xb at *
  have HMB := Lib.hid (show (w2.alloc (.cells #[.slice B1 m1 d1, .slice B2 m2 d2, .slice B3 m3 d3, .int .i64 (rn : Int), .int .i64 (rp : Int), .int .i64 rf] 34)).heap.size = rb + 1 by rw [← hrb]; simp)
  go_wp2_with fail
  clear x0 x1 x2 y0 y1' y2' hmm
  generalize w2.alloc (.cells #[.slice B1 m1 d1, .slice B2 m2 d2, .slice B3 m3 d3, .int .i64 (rn : Int), .int .i64 (rp : Int), .int .i64 rf] 34) = W3 at *
  have M0 := Lib.hid (show Mps code 0 (rb + 1) _ from HMB.out ▸ Mps.mk0 code W3)
  have K4 := Lib.hid (show Nx W3 (((W3.alloc (.map #[] 0)).alloc (.map #[] 0)).alloc (.map #[] 0)) from (((Nx.refl W3).alloc _).alloc _).alloc _)
  have hlt := Lib.hid (HY.out.lt)
  generalize ((W3.alloc (.map #[] 0)).alloc (.map #[] 0)).alloc (.map #[] 0) = W4 at *
  obtain ⟨n, hn⟩ : ∃ n, code.length = n := ⟨_, rfl⟩
  have HL := Lib.hid hn
  have hn6 : n ≤ 1000000 := by have := HS.out.1; omega
  rw [hn]
  clear hn
  go_loopw [61] (fun vi wr => ∃ j : Nat, j ≤ n ∧ vi = .int .i64 j ∧ Mps code j (rb + 1) wr ∧ Nx W3 wr) (fun vi _ => n - (intOf vi).toNat)
  case atStart => exact ⟨0, Nat.zero_le _, rfl, M0.out, K4.out⟩
  case round =>
    obtain ⟨j, hj, rfl, hmp, hnx⟩ := hrel
    have HP := Lib.hid hmp
    have HW := Lib.hid hnx
    clear hmp hnx M0 K4
    by_cases hjn : j < n
    · have hji : (j : Int) < (n : Int) := by omega
      obtain ⟨x, hx⟩ : ∃ x, code[j]? = some x := ⟨_, List.getElem?_eq_getElem (by have := HL.out; omega)⟩
      obtain ⟨ad, e0, z0, z1, z2, z3⟩ := (HC.out.nx (N3.out.trans HW.out)).fr4 hx
      subst e0
      have HXX := Lib.hid hx
      clear hx
      obtain ⟨xo, xk, xn, xt⟩ := x
      simp only at z0 z1 z2 z3
      have YX := Lib.hid (bx_new wr 28 [.int .i64 xo, .int .i64 xk, .int .i64 xn, .int .i64 xt])
      have KX := Lib.hid (Nx.one wr (.cells #[.int .i64 xo, .int .i64 xk, .int .i64 xn, .int .i64 xt] 28))
      by_cases hA : 11 ≤ xo ∧ xo ≤ 14
      · skip
        have g11 : (11 : Int) ≤ xo := by omega
        have g11d : decide ((11 : Int) ≤ xo) = true := by simp; omega
        have g14 : xo ≤ (14 : Int) := by omega
        have g14d : decide (xo ≤ (14 : Int)) = true := by simp; omega
        have g0 : (0 : Int) ≤ xo := by omega
        have g0d : decide ((0 : Int) ≤ xo) = true := by simp; omega
        have g7 : ¬ xo ≤ (7 : Int) := by omega
        have g7d : decide (xo ≤ (7 : Int)) = false := by simp; omega
        have u0 := YX.out.cell 0 rfl
        have u1 := YX.out.cell 1 rfl
        have u2 := YX.out.cell 2 rfl
        have u3 := YX.out.cell 3 rfl
        have P0 := Lib.hid (HP.out.nx KX.out)
        have N0' := Lib.hid (HW.out.trans KX.out)
        have Y0 := Lib.hid YX.out
        have hb0 := Lib.hid (show rb + 1 + 2 < wr.heap.size from HP.out.2.2.lt)
        obtain ⟨U1, e1, p1, s1⟩ := SetM.put (T := 39) lawA (by kernel_rfl) P0.out.1 (k := aK xk xn) ⟨_, _, rfl⟩
        simp only [aK] at e1
        have Y1 := Lib.hid (p1.bx Y0.out (by have := hb0.out; omega))
        have u10 := Y1.out.cell 0 rfl
        have u11 := Y1.out.cell 1 rfl
        have u12 := Y1.out.cell 2 rfl
        have u13 := Y1.out.cell 3 rfl
        have N1' := Lib.hid (p1.nx N0'.out (by have := HMB.out; omega))
        have P1 := Lib.hid (And.intro (s1) (And.intro (p1.other (by omega) P0.out.2.1) (p1.other (by omega) P0.out.2.2)))
        clear p1 s1
        clear YX KX
        go_wp2_with fail
        go_roundw
        case rel => exact ⟨j + 1, by omega, by go_num, ⟨SetM.same P1.out.1 (fun v => wrK_yes HXX.out (by first | (simp only; omega) | simp | (simp; omega)) (by first | (simp only; omega) | simp | (simp; omega)) v), SetM.same P1.out.2.1 (fun v => seK_no HXX.out (by first | (simp only; omega) | simp | (simp; omega)) v), SetM.same P1.out.2.2 (fun v => asK_no HXX.out (by first | (simp only; omega) | simp | (simp; omega)) v)⟩, N1'.out⟩
        case measure => simp [intOf]; omega
      by_cases h6 : xo = 6
      · subst h6
        by_cases hk : xk = 0
        · subst hk
          have u0 := YX.out.cell 0 rfl
          have u1 := YX.out.cell 1 rfl
          have u2 := YX.out.cell 2 rfl
          have u3 := YX.out.cell 3 rfl
          have P0 := Lib.hid (HP.out.nx KX.out)
          have N0' := Lib.hid (HW.out.trans KX.out)
          have Y0 := Lib.hid YX.out
          have hb0 := Lib.hid (show rb + 1 + 2 < wr.heap.size from HP.out.2.2.lt)
          obtain ⟨U1, e1, p1, s1⟩ := SetM.put (T := 40) lawI (by kernel_rfl) P0.out.2.1 (k := .int .i64 xt) ⟨_, rfl⟩
          have Y1 := Lib.hid (p1.bx Y0.out (by have := hb0.out; omega))
          have u10 := Y1.out.cell 0 rfl
          have u11 := Y1.out.cell 1 rfl
          have u12 := Y1.out.cell 2 rfl
          have u13 := Y1.out.cell 3 rfl
          have N1' := Lib.hid (p1.nx N0'.out (by have := HMB.out; omega))
          have P1 := Lib.hid (And.intro (p1.other (by omega) P0.out.1) (And.intro (s1) (p1.other (by omega) P0.out.2.2)))
          clear p1 s1
          obtain ⟨U2, e2, p2, s2⟩ := SetM.put (T := 40) lawI (by kernel_rfl) P1.out.2.2 (k := .int .i64 xn) ⟨_, rfl⟩
          have Y2 := Lib.hid (p2.bx Y1.out (by have := hb0.out; omega))
          have u20 := Y2.out.cell 0 rfl
          have u21 := Y2.out.cell 1 rfl
          have u22 := Y2.out.cell 2 rfl
          have u23 := Y2.out.cell 3 rfl
          have N2' := Lib.hid (p2.nx N1'.out (by have := HMB.out; omega))
          have P2 := Lib.hid (And.intro (p2.other (by omega) P1.out.1) (And.intro (p2.other (by omega) P1.out.2.1) (s2)))
          clear p2 s2
          clear YX KX
          go_wp2_with fail
          go_roundw
          case rel => exact ⟨j + 1, by omega, by go_num, ⟨SetM.same P2.out.1 (fun v => wrK_no HXX.out (by first | (simp only; omega) | simp | (simp; omega)) v), SetM.same P2.out.2.1 (fun v => seK_yes HXX.out (by first | (simp only; omega) | simp | (simp; omega)) v), SetM.same P2.out.2.2 (fun v => asK_yes HXX.out (by first | (simp only; omega) | simp | (simp; omega)) (by first | (simp only; omega) | simp | (simp; omega)) (by first | (simp only; omega) | simp | (simp; omega)) v)⟩, N2'.out⟩
          case measure => simp [intOf]; omega
        · have bk : (xk == 0) = false := by simpa using hk
          have dk : decide (xk = 0) = false := by simpa using hk
          have u0 := YX.out.cell 0 rfl
          have u1 := YX.out.cell 1 rfl
          have u2 := YX.out.cell 2 rfl
          have u3 := YX.out.cell 3 rfl
          have P0 := Lib.hid (HP.out.nx KX.out)
          have N0' := Lib.hid (HW.out.trans KX.out)
          have Y0 := Lib.hid YX.out
          have hb0 := Lib.hid (show rb + 1 + 2 < wr.heap.size from HP.out.2.2.lt)
          obtain ⟨U1, e1, p1, s1⟩ := SetM.put (T := 40) lawI (by kernel_rfl) P0.out.2.1 (k := .int .i64 xt) ⟨_, rfl⟩
          have Y1 := Lib.hid (p1.bx Y0.out (by have := hb0.out; omega))
          have u10 := Y1.out.cell 0 rfl
          have u11 := Y1.out.cell 1 rfl
          have u12 := Y1.out.cell 2 rfl
          have u13 := Y1.out.cell 3 rfl
          have N1' := Lib.hid (p1.nx N0'.out (by have := HMB.out; omega))
          have P1 := Lib.hid (And.intro (p1.other (by omega) P0.out.1) (And.intro (s1) (p1.other (by omega) P0.out.2.2)))
          clear p1 s1
          clear YX KX
          go_wp2_with fail
          go_roundw
          case rel => exact ⟨j + 1, by omega, by go_num, ⟨SetM.same P1.out.1 (fun v => wrK_no HXX.out (by first | (simp only; omega) | simp | (simp; omega)) v), SetM.same P1.out.2.1 (fun v => seK_yes HXX.out (by first | (simp only; omega) | simp | (simp; omega)) v), SetM.same P1.out.2.2 (fun v => asK_no HXX.out (by first | (simp only; omega) | simp | (simp; omega)) v)⟩, N1'.out⟩
          case measure => simp [intOf]; omega
      by_cases h7 : xo = 7
      · subst h7; clear h6
        by_cases hk : xk = 0
        · subst hk
          have u0 := YX.out.cell 0 rfl
          have u1 := YX.out.cell 1 rfl
          have u2 := YX.out.cell 2 rfl
          have u3 := YX.out.cell 3 rfl
          have P0 := Lib.hid (HP.out.nx KX.out)
          have N0' := Lib.hid (HW.out.trans KX.out)
          have Y0 := Lib.hid YX.out
          have hb0 := Lib.hid (show rb + 1 + 2 < wr.heap.size from HP.out.2.2.lt)
          obtain ⟨U1, e1, p1, s1⟩ := SetM.put (T := 40) lawI (by kernel_rfl) P0.out.2.1 (k := .int .i64 xt) ⟨_, rfl⟩
          have Y1 := Lib.hid (p1.bx Y0.out (by have := hb0.out; omega))
          have u10 := Y1.out.cell 0 rfl
          have u11 := Y1.out.cell 1 rfl
          have u12 := Y1.out.cell 2 rfl
          have u13 := Y1.out.cell 3 rfl
          have N1' := Lib.hid (p1.nx N0'.out (by have := HMB.out; omega))
          have P1 := Lib.hid (And.intro (p1.other (by omega) P0.out.1) (And.intro (s1) (p1.other (by omega) P0.out.2.2)))
          clear p1 s1
          obtain ⟨U2, e2, p2, s2⟩ := SetM.put (T := 40) lawI (by kernel_rfl) P1.out.2.2 (k := .int .i64 xn) ⟨_, rfl⟩
          have Y2 := Lib.hid (p2.bx Y1.out (by have := hb0.out; omega))
          have u20 := Y2.out.cell 0 rfl
          have u21 := Y2.out.cell 1 rfl
          have u22 := Y2.out.cell 2 rfl
          have u23 := Y2.out.cell 3 rfl
          have N2' := Lib.hid (p2.nx N1'.out (by have := HMB.out; omega))
          have P2 := Lib.hid (And.intro (p2.other (by omega) P1.out.1) (And.intro (p2.other (by omega) P1.out.2.1) (s2)))
          clear p2 s2
          clear YX KX
          go_wp2_with fail
          go_roundw
          case rel => exact ⟨j + 1, by omega, by go_num, ⟨SetM.same P2.out.1 (fun v => wrK_no HXX.out (by first | (simp only; omega) | simp | (simp; omega)) v), SetM.same P2.out.2.1 (fun v => seK_yes HXX.out (by first | (simp only; omega) | simp | (simp; omega)) v), SetM.same P2.out.2.2 (fun v => asK_yes HXX.out (by first | (simp only; omega) | simp | (simp; omega)) (by first | (simp only; omega) | simp | (simp; omega)) (by first | (simp only; omega) | simp | (simp; omega)) v)⟩, N2'.out⟩
          case measure => simp [intOf]; omega
        · have bk : (xk == 0) = false := by simpa using hk
          have dk : decide (xk = 0) = false := by simpa using hk
          have u0 := YX.out.cell 0 rfl
          have u1 := YX.out.cell 1 rfl
          have u2 := YX.out.cell 2 rfl
          have u3 := YX.out.cell 3 rfl
          have P0 := Lib.hid (HP.out.nx KX.out)
          have N0' := Lib.hid (HW.out.trans KX.out)
          have Y0 := Lib.hid YX.out
          have hb0 := Lib.hid (show rb + 1 + 2 < wr.heap.size from HP.out.2.2.lt)
          obtain ⟨U1, e1, p1, s1⟩ := SetM.put (T := 40) lawI (by kernel_rfl) P0.out.2.1 (k := .int .i64 xt) ⟨_, rfl⟩
          have Y1 := Lib.hid (p1.bx Y0.out (by have := hb0.out; omega))
          have u10 := Y1.out.cell 0 rfl
          have u11 := Y1.out.cell 1 rfl
          have u12 := Y1.out.cell 2 rfl
          have u13 := Y1.out.cell 3 rfl
          have N1' := Lib.hid (p1.nx N0'.out (by have := HMB.out; omega))
          have P1 := Lib.hid (And.intro (p1.other (by omega) P0.out.1) (And.intro (s1) (p1.other (by omega) P0.out.2.2)))
          clear p1 s1
          clear YX KX
          go_wp2_with fail
          go_roundw
          case rel => exact ⟨j + 1, by omega, by go_num, ⟨SetM.same P1.out.1 (fun v => wrK_no HXX.out (by first | (simp only; omega) | simp | (simp; omega)) v), SetM.same P1.out.2.1 (fun v => seK_yes HXX.out (by first | (simp only; omega) | simp | (simp; omega)) v), SetM.same P1.out.2.2 (fun v => asK_no HXX.out (by first | (simp only; omega) | simp | (simp; omega)) v)⟩, N1'.out⟩
          case measure => simp [intOf]; omega
      have b6 : (xo == 6) = false := by simpa using h6
      have b7 : (xo == 7) = false := by simpa using h7
      have d6 : decide (xo = 6) = false := by simpa using h6
      have d7 : decide (xo = 7) = false := by simpa using h7
      by_cases hn : xo < 0
      · skip
        have g11 : ¬ (11 : Int) ≤ xo := by omega
        have g11d : decide ((11 : Int) ≤ xo) = false := by simp; omega
        have g0 : ¬ (0 : Int) ≤ xo := by omega
        have g0d : decide ((0 : Int) ≤ xo) = false := by simp; omega
        have u0 := YX.out.cell 0 rfl
        have u1 := YX.out.cell 1 rfl
        have u2 := YX.out.cell 2 rfl
        have u3 := YX.out.cell 3 rfl
        have P0 := Lib.hid (HP.out.nx KX.out)
        have N0' := Lib.hid (HW.out.trans KX.out)
        have Y0 := Lib.hid YX.out
        have hb0 := Lib.hid (show rb + 1 + 2 < wr.heap.size from HP.out.2.2.lt)
        clear YX KX
        go_wp2_with fail
        go_roundw
        case rel => exact ⟨j + 1, by omega, by go_num, ⟨SetM.same P0.out.1 (fun v => wrK_no HXX.out (by first | (simp only; omega) | simp | (simp; omega)) v), SetM.same P0.out.2.1 (fun v => seK_no HXX.out (by first | (simp only; omega) | simp | (simp; omega)) v), SetM.same P0.out.2.2 (fun v => asK_no HXX.out (by first | (simp only; omega) | simp | (simp; omega)) v)⟩, N0'.out⟩
        case measure => simp [intOf]; omega
      by_cases h5 : xo ≤ 7
      · by_cases hk : xk = 0
        · subst hk
          have g11 : ¬ (11 : Int) ≤ xo := by omega
          have g11d : decide ((11 : Int) ≤ xo) = false := by simp; omega
          have g0 : (0 : Int) ≤ xo := by omega
          have g0d : decide ((0 : Int) ≤ xo) = true := by simp; omega
          have g7 : xo ≤ (7 : Int) := by omega
          have g7d : decide (xo ≤ (7 : Int)) = true := by simp; omega
          have u0 := YX.out.cell 0 rfl
          have u1 := YX.out.cell 1 rfl
          have u2 := YX.out.cell 2 rfl
          have u3 := YX.out.cell 3 rfl
          have P0 := Lib.hid (HP.out.nx KX.out)
          have N0' := Lib.hid (HW.out.trans KX.out)
          have Y0 := Lib.hid YX.out
          have hb0 := Lib.hid (show rb + 1 + 2 < wr.heap.size from HP.out.2.2.lt)
          obtain ⟨U1, e1, p1, s1⟩ := SetM.put (T := 40) lawI (by kernel_rfl) P0.out.2.2 (k := .int .i64 xn) ⟨_, rfl⟩
          have Y1 := Lib.hid (p1.bx Y0.out (by have := hb0.out; omega))
          have u10 := Y1.out.cell 0 rfl
          have u11 := Y1.out.cell 1 rfl
          have u12 := Y1.out.cell 2 rfl
          have u13 := Y1.out.cell 3 rfl
          have N1' := Lib.hid (p1.nx N0'.out (by have := HMB.out; omega))
          have P1 := Lib.hid (And.intro (p1.other (by omega) P0.out.1) (And.intro (p1.other (by omega) P0.out.2.1) (s1)))
          clear p1 s1
          clear YX KX
          go_wp2_with fail
          go_roundw
          case rel => exact ⟨j + 1, by omega, by go_num, ⟨SetM.same P1.out.1 (fun v => wrK_no HXX.out (by first | (simp only; omega) | simp | (simp; omega)) v), SetM.same P1.out.2.1 (fun v => seK_no HXX.out (by first | (simp only; omega) | simp | (simp; omega)) v), SetM.same P1.out.2.2 (fun v => asK_yes HXX.out (by first | (simp only; omega) | simp | (simp; omega)) (by first | (simp only; omega) | simp | (simp; omega)) (by first | (simp only; omega) | simp | (simp; omega)) v)⟩, N1'.out⟩
          case measure => simp [intOf]; omega
        · have bk : (xk == 0) = false := by simpa using hk
          have dk : decide (xk = 0) = false := by simpa using hk
          have g11 : ¬ (11 : Int) ≤ xo := by omega
          have g11d : decide ((11 : Int) ≤ xo) = false := by simp; omega
          have g0 : (0 : Int) ≤ xo := by omega
          have g0d : decide ((0 : Int) ≤ xo) = true := by simp; omega
          have g7 : xo ≤ (7 : Int) := by omega
          have g7d : decide (xo ≤ (7 : Int)) = true := by simp; omega
          have u0 := YX.out.cell 0 rfl
          have u1 := YX.out.cell 1 rfl
          have u2 := YX.out.cell 2 rfl
          have u3 := YX.out.cell 3 rfl
          have P0 := Lib.hid (HP.out.nx KX.out)
          have N0' := Lib.hid (HW.out.trans KX.out)
          have Y0 := Lib.hid YX.out
          have hb0 := Lib.hid (show rb + 1 + 2 < wr.heap.size from HP.out.2.2.lt)
          clear YX KX
          go_wp2_with fail
          go_roundw
          case rel => exact ⟨j + 1, by omega, by go_num, ⟨SetM.same P0.out.1 (fun v => wrK_no HXX.out (by first | (simp only; omega) | simp | (simp; omega)) v), SetM.same P0.out.2.1 (fun v => seK_no HXX.out (by first | (simp only; omega) | simp | (simp; omega)) v), SetM.same P0.out.2.2 (fun v => asK_no HXX.out (by first | (simp only; omega) | simp | (simp; omega)) v)⟩, N0'.out⟩
          case measure => simp [intOf]; omega
      by_cases h10 : xo ≤ 10
      · skip
        have g11 : ¬ (11 : Int) ≤ xo := by omega
        have g11d : decide ((11 : Int) ≤ xo) = false := by simp; omega
        have g0 : (0 : Int) ≤ xo := by omega
        have g0d : decide ((0 : Int) ≤ xo) = true := by simp; omega
        have g7 : ¬ xo ≤ (7 : Int) := by omega
        have g7d : decide (xo ≤ (7 : Int)) = false := by simp; omega
        have u0 := YX.out.cell 0 rfl
        have u1 := YX.out.cell 1 rfl
        have u2 := YX.out.cell 2 rfl
        have u3 := YX.out.cell 3 rfl
        have P0 := Lib.hid (HP.out.nx KX.out)
        have N0' := Lib.hid (HW.out.trans KX.out)
        have Y0 := Lib.hid YX.out
        have hb0 := Lib.hid (show rb + 1 + 2 < wr.heap.size from HP.out.2.2.lt)
        clear YX KX
        go_wp2_with fail
        go_roundw
        case rel => exact ⟨j + 1, by omega, by go_num, ⟨SetM.same P0.out.1 (fun v => wrK_no HXX.out (by first | (simp only; omega) | simp | (simp; omega)) v), SetM.same P0.out.2.1 (fun v => seK_no HXX.out (by first | (simp only; omega) | simp | (simp; omega)) v), SetM.same P0.out.2.2 (fun v => asK_no HXX.out (by first | (simp only; omega) | simp | (simp; omega)) v)⟩, N0'.out⟩
        case measure => simp [intOf]; omega
      · skip
        have g11 : (11 : Int) ≤ xo := by omega
        have g11d : decide ((11 : Int) ≤ xo) = true := by simp; omega
        have g14 : ¬ xo ≤ (14 : Int) := by omega
        have g14d : decide (xo ≤ (14 : Int)) = false := by simp; omega
        have g0 : (0 : Int) ≤ xo := by omega
        have g0d : decide ((0 : Int) ≤ xo) = true := by simp; omega
        have g7 : ¬ xo ≤ (7 : Int) := by omega
        have g7d : decide (xo ≤ (7 : Int)) = false := by simp; omega
        have u0 := YX.out.cell 0 rfl
        have u1 := YX.out.cell 1 rfl
        have u2 := YX.out.cell 2 rfl
        have u3 := YX.out.cell 3 rfl
        have P0 := Lib.hid (HP.out.nx KX.out)
        have N0' := Lib.hid (HW.out.trans KX.out)
        have Y0 := Lib.hid YX.out
        have hb0 := Lib.hid (show rb + 1 + 2 < wr.heap.size from HP.out.2.2.lt)
        clear YX KX
        go_wp2_with fail
        go_roundw
        case rel => exact ⟨j + 1, by omega, by go_num, ⟨SetM.same P0.out.1 (fun v => wrK_no HXX.out (by first | (simp only; omega) | simp | (simp; omega)) v), SetM.same P0.out.2.1 (fun v => seK_no HXX.out (by first | (simp only; omega) | simp | (simp; omega)) v), SetM.same P0.out.2.2 (fun v => asK_no HXX.out (by first | (simp only; omega) | simp | (simp; omega)) v)⟩, N0'.out⟩
        case measure => simp [intOf]; omega
    · obtain rfl : n = j := by omega
      have hji : ¬ (n : Int) < (n : Int) := by omega
      rename World => W5
      have NW := Lib.hid (K3.out.trans HW.out)
      have HF := Lib.hid (fun w' (q : Nx W5 w') => (show w'.cell? ⟨xb, 0, none⟩ = some (.slice A1 m1 c1) ∧ w'.cell? ⟨xb, 1, none⟩ = some (.slice A2 m2 c2) ∧ w'.cell? ⟨xb, 2, none⟩ = some (.slice A3 m3 c3) ∧ w'.cell? ⟨rb, 0, none⟩ = some (.slice B1 m1 d1) ∧ w'.cell? ⟨rb, 1, none⟩ = some (.slice B2 m2 d2) ∧ w'.cell? ⟨rb, 2, none⟩ = some (.slice B3 m3 d3) ∧ w'.cell? ⟨rb, 3, none⟩ = some (.int .i64 (rn : Int)) ∧ w'.cell? ⟨rb, 4, none⟩ = some (.int .i64 (rp : Int)) ∧ w'.cell? ⟨rb, 5, none⟩ = some (.int .i64 rf) from
        ⟨(HX3.out.nx (HW.out.trans q)).cell 0 rfl, (HX3.out.nx (HW.out.trans q)).cell 1 rfl, (HX3.out.nx (HW.out.trans q)).cell 2 rfl, (HY.out.nx (HW.out.trans q)).cell 0 rfl, (HY.out.nx (HW.out.trans q)).cell 1 rfl, (HY.out.nx (HW.out.trans q)).cell 2 rfl, (HY.out.nx (HW.out.trans q)).cell 3 rfl, (HY.out.nx (HW.out.trans q)).cell 4 rfl, (HY.out.nx (HW.out.trans q)).cell 5 rfl⟩))
      obtain ⟨z0, z1, z2, z3, z4, z5, z6, z7, z8⟩ := HF.out _ (Nx.refl _)
      have b1 : m1 ≤ 1000000 := HS.out.2.2.1
      have b2 : m2 ≤ 1000000 := HS.out.2.2.2.1
      have b3 : m3 ≤ 1000000 := HS.out.2.2.2.2
      go_wp2_with fail
      go_loopw [111] (fun vi wr => ∃ j : Nat, j ≤ m1 ∧ vi = .int .i64 j ∧ Nx W5 wr) (fun vi _ => m1 - (intOf vi).toNat)
      case atStart => exact ⟨0, Nat.zero_le _, rfl, Nx.refl _⟩
      case round =>
        obtain ⟨j, hj, rfl, hnx⟩ := hrel
        have NA := Lib.hid hnx
        clear hnx
        obtain ⟨z0, z1, z2, z3, z4, z5, z6, z7, z8⟩ := HF.out _ NA.out
        by_cases hjn : j < m1
        · have hji : (j : Int) < (m1 : Int) := by omega
          obtain ⟨b, hb⟩ : ∃ b, r.1.q[j]? = some b := at_some _ j (by have := I1.out.2.1; omega)
          obtain ⟨b', hb'⟩ : ∃ b', y1[j]? = some b' := at_some _ j (by have := H1.out.2.1; omega)
          obtain ⟨ad, ea, v1⟩ := (I1.out.nx (NW.out.trans NA.out)).1 j b hb
          obtain ⟨ad', ea', v2⟩ := (H1.out.nx (N3.out.trans (HW.out.trans NA.out))).1 j b' hb'
          subst ea
          subst ea'
          have HB := Lib.hid (And.intro hb hb')
          clear hb hb'
          have hLK := fun q => (SetM.look (T := 39) lawA (by kernel_rfl) ((HP.out.nx (NA.out.drewN q)).1) (k := aK 1 j) ⟨_, _, rfl⟩).1
          by_cases hq : b = b'
          · subst hq
            have e1 : (b != b) = false := by simp
            clear hLK
            go_wp2_with fail
            go_quiet (fail)
            go_wp2_with fail
            go_roundw
            case rel => exact ⟨j + 1, by omega, by go_num, NA.out.drewN _⟩
            case measure => simp [intOf]; omega
          · have e1 : (b != b') = true := by cases b <;> cases b' <;> simp_all
            have hS : WrK code n (aK 1 j) := by
              false_or_by_contra
              rename_i hno
              refine hq ?_
              have hf := (run_frame code inp (mc0 y1 y2 y3) 0 j).1 (fun x hx h1 h2 h3 => hno ⟨x, by rw [List.take_of_length_le (by have := HL.out; omega)]; exact hx, h1, h2, by simp [aK, h3.1, h3.2]⟩)
              rw [HR.out] at hf
              have := HB.out.1.symm.trans (hf.trans (show _ = some b' from HB.out.2))
              simpa using this
            have hL := fun q => hLK q hS
            simp only [aK] at hL
            have hL0 := hL 0
            have hL1 := hL 1
            clear hLK
            go_wp2_with fail
            go_quiet (fail)
            go_wp2_with fail
            go_roundw
            case rel => exact ⟨j + 1, by omega, by go_num, NA.out.drewN _⟩
            case measure => simp [intOf]; omega
        · obtain rfl : m1 = j := by omega
          have hji : ¬ (m1 : Int) < (m1 : Int) := by omega
          go_wp2_with fail
          go_loopw [137] (fun vi wr => ∃ j : Nat, j ≤ m2 ∧ vi = .int .i64 j ∧ Nx W5 wr) (fun vi _ => m2 - (intOf vi).toNat)
          case atStart => exact ⟨0, Nat.zero_le _, rfl, NA.out⟩
          case round =>
            obtain ⟨j, hj, rfl, hnx⟩ := hrel
            have NB := Lib.hid hnx
            clear hnx
            obtain ⟨z0, z1, z2, z3, z4, z5, z6, z7, z8⟩ := HF.out _ NB.out
            by_cases hjn : j < m2
            · have hji : (j : Int) < (m2 : Int) := by omega
              obtain ⟨b, hb⟩ : ∃ b, r.1.m[j]? = some b := at_some _ j (by have := I2.out.2.1; omega)
              obtain ⟨b', hb'⟩ : ∃ b', y2[j]? = some b' := at_some _ j (by have := H2.out.2.1; omega)
              obtain ⟨ad, ea, v1⟩ := (I2.out.nx (NW.out.trans NB.out)).1 j b hb
              obtain ⟨ad', ea', v2⟩ := (H2.out.nx (N3.out.trans (HW.out.trans NB.out))).1 j b' hb'
              subst ea
              subst ea'
              have HB := Lib.hid (And.intro hb hb')
              clear hb hb'
              have hLK := fun q => (SetM.look (T := 39) lawA (by kernel_rfl) ((HP.out.nx (NB.out.drewN q)).1) (k := aK 2 j) ⟨_, _, rfl⟩).1
              by_cases hq : b = b'
              · subst hq
                have e1 : (b != b) = false := by simp
                clear hLK
                go_wp2_with fail
                go_quiet (fail)
                go_wp2_with fail
                go_roundw
                case rel => exact ⟨j + 1, by omega, by go_num, NB.out.drewN _⟩
                case measure => simp [intOf]; omega
              · have e1 : (b != b') = true := by cases b <;> cases b' <;> simp_all
                have hS : WrK code n (aK 2 j) := by
                  false_or_by_contra
                  rename_i hno
                  refine hq ?_
                  have hf := (run_frame code inp (mc0 y1 y2 y3) 0 j).2.1 (fun x hx h1 h2 h3 => hno ⟨x, by rw [List.take_of_length_le (by have := HL.out; omega)]; exact hx, h1, h2, by simp [aK, h3.1, h3.2]⟩)
                  rw [HR.out] at hf
                  have := HB.out.1.symm.trans (hf.trans (show _ = some b' from HB.out.2))
                  simpa using this
                have hL := fun q => hLK q hS
                simp only [aK] at hL
                have hL0 := hL 0
                have hL1 := hL 1
                clear hLK
                go_wp2_with fail
                go_quiet (fail)
                go_wp2_with fail
                go_roundw
                case rel => exact ⟨j + 1, by omega, by go_num, NB.out.drewN _⟩
                case measure => simp [intOf]; omega
            · obtain rfl : m2 = j := by omega
              have hji : ¬ (m2 : Int) < (m2 : Int) := by omega
              go_wp2_with fail
              go_loopw [163] (fun vi wr => ∃ j : Nat, j ≤ m3 ∧ vi = .int .i64 j ∧ Nx W5 wr) (fun vi _ => m3 - (intOf vi).toNat)
              case atStart => exact ⟨0, Nat.zero_le _, rfl, NB.out⟩
              case round =>
                obtain ⟨j, hj, rfl, hnx⟩ := hrel
                have NC := Lib.hid hnx
                clear hnx
                obtain ⟨z0, z1, z2, z3, z4, z5, z6, z7, z8⟩ := HF.out _ NC.out
                by_cases hjn : j < m3
                · have hji : (j : Int) < (m3 : Int) := by omega
                  obtain ⟨b, hb⟩ : ∃ b, r.1.e[j]? = some b := at_some _ j (by have := I3.out.2.1; omega)
                  obtain ⟨b', hb'⟩ : ∃ b', y3[j]? = some b' := at_some _ j (by have := H3.out.2.1; omega)
                  obtain ⟨ad, ea, v1⟩ := (I3.out.nx (NW.out.trans NC.out)).1 j b hb
                  obtain ⟨ad', ea', v2⟩ := (H3.out.nx (N3.out.trans (HW.out.trans NC.out))).1 j b' hb'
                  subst ea
                  subst ea'
                  have HB := Lib.hid (And.intro hb hb')
                  clear hb hb'
                  have hLK := fun q => (SetM.look (T := 40) lawI (by kernel_rfl) ((HP.out.nx (NC.out.drewN q)).2.1) (k := .int .i64 (j : Int)) ⟨_, rfl⟩).1
                  by_cases hq : b = b'
                  · subst hq
                    have e1 : (b != b) = false := by simp
                    clear hLK
                    go_wp2_with fail
                    go_quiet (fail)
                    go_wp2_with fail
                    go_roundw
                    case rel => exact ⟨j + 1, by omega, by go_num, NC.out.drewN _⟩
                    case measure => simp [intOf]; omega
                  · have e1 : (b != b') = true := by cases b <;> cases b' <;> simp_all
                    have hS : SeK code n (.int .i64 (j : Int)) := by
                      false_or_by_contra
                      rename_i hno
                      refine hq ?_
                      have hf := (run_frame code inp (mc0 y1 y2 y3) 0 j).2.2 (fun x hx h1 h2 => hno ⟨x, by rw [List.take_of_length_le (by have := HL.out; omega)]; exact hx, h1, by rw [h2]⟩)
                      rw [HR.out] at hf
                      have := HB.out.1.symm.trans (hf.trans (show _ = some b' from HB.out.2))
                      simpa using this
                    have hL := fun q => hLK q hS
                    skip
                    have hL0 := hL 0
                    have hL1 := hL 1
                    clear hLK
                    go_wp2_with fail
                    go_quiet (fail)
                    go_wp2_with fail
                    go_roundw
                    case rel => exact ⟨j + 1, by omega, by go_num, NC.out.drewN _⟩
                    case measure => simp [intOf]; omega
                · obtain rfl : m3 = j := by omega
                  have hji : ¬ (m3 : Int) < (m3 : Int) := by omega
                  rename World => W6
                  have NI := Lib.hid (N3.out.trans (HW.out.trans NC.out))
                  obtain ⟨i0, hi0, hzz0, hzz1, hzz2⟩ := info_parts info4
                  have HO0 := Lib.hid (World.ownsRow_lit (base := W6.heap.size) (e := 4) (size := 1) W6 #[] 0 (Nat.le_refl _) (by unfold maxLen; omega) rfl)
                  have hni := HS.out.2.1
                  by_cases h0 : ni = 0
                  · subst h0
                    clear z0 z1 z2 z3 z4 z5 z6 z7 z8
                    cases Ai with
                    | none =>
                      have hci : ci = 0 := HI.out.2.2 rfl
                      subst hci
                      go_wp2_with (first | (at_builtin; refine wpList_append_own_none rfl (.tmp 185) (.tmp 186) 22 rfl W6.heap.size 4 i0 1 Try.underlying22 hi0 _ 0 [] rfl HO0.out rfl ?_))
                      have N7 := Lib.hid ((Nx.refl W6).alloc (.cells #[] 4))
                      have HIM := Lib.hid (show Im (W6.alloc (.cells #[] 4)) (some ⟨W6.heap.size, 0, none⟩) 0 0 [] from ⟨fun k b hk => by simp at hk, rfl, fun e => by cases e⟩)
                      clear HO0
                      generalize hs6 : W6.heap.size = s6 at *
                      generalize W6.alloc (.cells #[] 4) = w7 at *
                      go_wp2_with fail
                      go_loopw [190] (fun vi wr => vi = .int .i64 0 ∧ Nx w7 wr) (fun _ _ => 0)
                      case atStart => exact ⟨rfl, Nx.refl _⟩
                      case round =>
                        obtain ⟨rfl, hnx⟩ := hrel
                        have N8 := Lib.hid hnx
                        clear hnx
                        have hinp : inp = [] := List.length_eq_zero_iff.1 HI.out.2.1
                        have hXR : run code [] (mc0 y1 y2 y3) 0 = r := by rw [← HR.out, hinp]
                        clear hinp
                        have NR := Lib.hid (N7.out.trans N8.out)
                        have NRW := Lib.hid (NI.out.trans NR.out)
                        have HIO := Lib.hid (HIM.out.nx N8.out)
                        have HRX : run code [] (mc0 y1 y2 y3) 0 = r := hXR
                        have HRX' := Lib.hid HRX
                        clear HRX
                        obtain ⟨t0, t1, t2, t3, t4, t5, t6, t7, t8⟩ := HF.out _ (NC.out.trans NR.out)
                        go_wp2_with fail
                        have hLn := HL.out
                        subst hLn
                        refine (vmRunOk code [] y1 y2 y3 Ac (some ⟨s6, 0, none⟩) A1 A2 A3 cc 0 0 m1 c1 m2 c2 m3 c3 _ HS.out.1 HS.out.2.1 HS.out.2.2.1 HS.out.2.2.2.1 HS.out.2.2.2.2 (HC.out.nx NRW.out) HN.out HIO.out (H1.out.nx NRW.out) (H2.out.nx NRW.out) (H3.out.nx NRW.out)).mono ?_
                        intro e w9 hp
                        obtain ⟨C1, C2, C3, e1, e2, e3, rfl, i1, i2, i3, hn9⟩ := runPost_cells hp
                        rw [HRX'.out] at i1 i2 i3 ⊢
                        rw [HLEN.out.1] at i1
                        rw [HLEN.out.2.1] at i2
                        rw [HLEN.out.2.2] at i3
                        rw [HLEN.out.1, HLEN.out.2.1, HLEN.out.2.2, HRN.out, HRP.out, HRF.out]
                        have J1 := Lib.hid i1
                        have J2 := Lib.hid i2
                        have J3 := Lib.hid i3
                        have N9 := Lib.hid hn9
                        clear hp i1 i2 i3 hn9 t0 t1 t2 t3 t4 t5 t6 t7 t8
                        go_wp2_with fail
                        have KQ := Lib.hid (Nx.one w9 (.cells #[.slice C1 m1 e1, .slice C2 m2 e2, .slice C3 m3 e3, .int .i64 (rn : Int), .int .i64 (rp : Int), .int .i64 rf] 34))
                        have YQ := Lib.hid (bx_new w9 34 [.slice C1 m1 e1, .slice C2 m2 e2, .slice C3 m3 e3, .int .i64 (rn : Int), .int .i64 (rp : Int), .int .i64 rf])
                        have NQ := Lib.hid (NW.out.trans (NC.out.trans (NR.out.trans (N9.out.trans KQ.out))))
                        have NQW := Lib.hid (NRW.out.trans (N9.out.trans KQ.out))
                        have HFQ := Lib.hid (fun w' q => HF.out w' ((NC.out.trans (NR.out.trans (N9.out.trans KQ.out))).trans q))
                        generalize hsb : w9.heap.size = sb at *
                        generalize w9.alloc (.cells #[.slice C1 m1 e1, .slice C2 m2 e2, .slice C3 m3 e3, .int .i64 (rn : Int), .int .i64 (rp : Int), .int .i64 rf] 34) = W9 at *
                        clear hsb
                        refine (HA.out _).mono ?_
                        rintro e w10 ⟨rfl, q10⟩
                        have NT := Lib.hid q10
                        clear q10
                        obtain ⟨z0, z1, z2, z3, z4, z5, z6, z7, z8⟩ := HFQ.out w10 NT.out
                        have s0 := (YQ.out.nx NT.out).cell 0 rfl
                        have s1 := (YQ.out.nx NT.out).cell 1 rfl
                        have s2 := (YQ.out.nx NT.out).cell 2 rfl
                        have s3 := (YQ.out.nx NT.out).cell 3 rfl
                        have s4 := (YQ.out.nx NT.out).cell 4 rfl
                        have s5 := (YQ.out.nx NT.out).cell 5 rfl
                        go_wp2_with fail
                        refine (stRefEqual_any B1 B2 B3 m1 m2 m3 d1 d2 d3 C1 C2 C3 m1 m2 m3 e1 e2 e3 r.1.q r.1.m r.1.e r.1.q r.1.m r.1.e b1 b2 b3 w10 (I1.out.nx (NQ.out.trans NT.out)) (I2.out.nx (NQ.out.trans NT.out)) (I3.out.nx (NQ.out.trans NT.out)) (J1.out.nx (KQ.out.trans NT.out)) (J2.out.nx (KQ.out.trans NT.out)) (J3.out.nx (KQ.out.trans NT.out))).mono ?_
                        rintro e w11 ⟨rfl, q11⟩
                        rw [show (eqB r.1.q r.1.q && eqB r.1.m r.1.m && eqB r.1.e r.1.e) = true by simp [eqB]]
                        have NU := Lib.hid (NT.out.trans q11)
                        clear q11 z0 z1 z2 z3 z4 z5 z6 z7 z8 s0 s1 s2 s3 s4 s5
                        obtain ⟨z0, z1, z2, z3, z4, z5, z6, z7, z8⟩ := HFQ.out w11 NU.out
                        have s0 := (YQ.out.nx NU.out).cell 0 rfl
                        have s1 := (YQ.out.nx NU.out).cell 1 rfl
                        have s2 := (YQ.out.nx NU.out).cell 2 rfl
                        have s3 := (YQ.out.nx NU.out).cell 3 rfl
                        have s4 := (YQ.out.nx NU.out).cell 4 rfl
                        have s5 := (YQ.out.nx NU.out).cell 5 rfl
                        go_wp2_with fail
                        go_ret
                        exact ⟨rfl, NQW.out.trans NU.out⟩
                    | some ad0 =>
                      go_wp2_with (first | (at_builtin; refine wpList_append_own _ rfl (.tmp 185) (.tmp 186) 22 rfl W6.heap.size 4 i0 (.bool false) 1 1 Try.underlying22 hi0 hzz0 hzz1 hzz2 rfl (by decide) _ _ _ rfl HO0.out ad0 0 ci [] rfl rfl (fun _ _ h => by simp at h) (fun _ h => by simp at h) (by unfold maxLen; omega) (by omega) (by simp) ?_))
                      intro v' w7 hown' hgrow _
                      have ho : Ow w7 W6.heap.size v' [] := hown'
                      obtain ⟨A7, c7, rfl, him⟩ := ho.im
                      have N7 := Lib.hid (grown_nx ((Nx.refl W6).alloc _) hgrow HO0.out (Nat.le_refl _))
                      have HIM := Lib.hid him
                      clear hown' hgrow ho him HO0
                      simp only [List.length_nil]
                      go_wp2_with fail
                      go_loopw [190] (fun vi wr => vi = .int .i64 0 ∧ Nx w7 wr) (fun _ _ => 0)
                      case atStart => exact ⟨rfl, Nx.refl _⟩
                      case round =>
                        obtain ⟨rfl, hnx⟩ := hrel
                        have N8 := Lib.hid hnx
                        clear hnx
                        have hinp : inp = [] := List.length_eq_zero_iff.1 HI.out.2.1
                        have hXR : run code [] (mc0 y1 y2 y3) 0 = r := by rw [← HR.out, hinp]
                        clear hinp
                        have NR := Lib.hid (N7.out.trans N8.out)
                        have NRW := Lib.hid (NI.out.trans NR.out)
                        have HIO := Lib.hid (HIM.out.nx N8.out)
                        have HRX : run code [] (mc0 y1 y2 y3) 0 = r := hXR
                        have HRX' := Lib.hid HRX
                        clear HRX
                        obtain ⟨t0, t1, t2, t3, t4, t5, t6, t7, t8⟩ := HF.out _ (NC.out.trans NR.out)
                        go_wp2_with fail
                        have hLn := HL.out
                        subst hLn
                        refine (vmRunOk code [] y1 y2 y3 Ac A7 A1 A2 A3 cc 0 c7 m1 c1 m2 c2 m3 c3 _ HS.out.1 HS.out.2.1 HS.out.2.2.1 HS.out.2.2.2.1 HS.out.2.2.2.2 (HC.out.nx NRW.out) HN.out HIO.out (H1.out.nx NRW.out) (H2.out.nx NRW.out) (H3.out.nx NRW.out)).mono ?_
                        intro e w9 hp
                        obtain ⟨C1, C2, C3, e1, e2, e3, rfl, i1, i2, i3, hn9⟩ := runPost_cells hp
                        rw [HRX'.out] at i1 i2 i3 ⊢
                        rw [HLEN.out.1] at i1
                        rw [HLEN.out.2.1] at i2
                        rw [HLEN.out.2.2] at i3
                        rw [HLEN.out.1, HLEN.out.2.1, HLEN.out.2.2, HRN.out, HRP.out, HRF.out]
                        have J1 := Lib.hid i1
                        have J2 := Lib.hid i2
                        have J3 := Lib.hid i3
                        have N9 := Lib.hid hn9
                        clear hp i1 i2 i3 hn9 t0 t1 t2 t3 t4 t5 t6 t7 t8
                        go_wp2_with fail
                        have KQ := Lib.hid (Nx.one w9 (.cells #[.slice C1 m1 e1, .slice C2 m2 e2, .slice C3 m3 e3, .int .i64 (rn : Int), .int .i64 (rp : Int), .int .i64 rf] 34))
                        have YQ := Lib.hid (bx_new w9 34 [.slice C1 m1 e1, .slice C2 m2 e2, .slice C3 m3 e3, .int .i64 (rn : Int), .int .i64 (rp : Int), .int .i64 rf])
                        have NQ := Lib.hid (NW.out.trans (NC.out.trans (NR.out.trans (N9.out.trans KQ.out))))
                        have NQW := Lib.hid (NRW.out.trans (N9.out.trans KQ.out))
                        have HFQ := Lib.hid (fun w' q => HF.out w' ((NC.out.trans (NR.out.trans (N9.out.trans KQ.out))).trans q))
                        generalize hsb : w9.heap.size = sb at *
                        generalize w9.alloc (.cells #[.slice C1 m1 e1, .slice C2 m2 e2, .slice C3 m3 e3, .int .i64 (rn : Int), .int .i64 (rp : Int), .int .i64 rf] 34) = W9 at *
                        clear hsb
                        refine (HA.out _).mono ?_
                        rintro e w10 ⟨rfl, q10⟩
                        have NT := Lib.hid q10
                        clear q10
                        obtain ⟨z0, z1, z2, z3, z4, z5, z6, z7, z8⟩ := HFQ.out w10 NT.out
                        have s0 := (YQ.out.nx NT.out).cell 0 rfl
                        have s1 := (YQ.out.nx NT.out).cell 1 rfl
                        have s2 := (YQ.out.nx NT.out).cell 2 rfl
                        have s3 := (YQ.out.nx NT.out).cell 3 rfl
                        have s4 := (YQ.out.nx NT.out).cell 4 rfl
                        have s5 := (YQ.out.nx NT.out).cell 5 rfl
                        go_wp2_with fail
                        refine (stRefEqual_any B1 B2 B3 m1 m2 m3 d1 d2 d3 C1 C2 C3 m1 m2 m3 e1 e2 e3 r.1.q r.1.m r.1.e r.1.q r.1.m r.1.e b1 b2 b3 w10 (I1.out.nx (NQ.out.trans NT.out)) (I2.out.nx (NQ.out.trans NT.out)) (I3.out.nx (NQ.out.trans NT.out)) (J1.out.nx (KQ.out.trans NT.out)) (J2.out.nx (KQ.out.trans NT.out)) (J3.out.nx (KQ.out.trans NT.out))).mono ?_
                        rintro e w11 ⟨rfl, q11⟩
                        rw [show (eqB r.1.q r.1.q && eqB r.1.m r.1.m && eqB r.1.e r.1.e) = true by simp [eqB]]
                        have NU := Lib.hid (NT.out.trans q11)
                        clear q11 z0 z1 z2 z3 z4 z5 z6 z7 z8 s0 s1 s2 s3 s4 s5
                        obtain ⟨z0, z1, z2, z3, z4, z5, z6, z7, z8⟩ := HFQ.out w11 NU.out
                        have s0 := (YQ.out.nx NU.out).cell 0 rfl
                        have s1 := (YQ.out.nx NU.out).cell 1 rfl
                        have s2 := (YQ.out.nx NU.out).cell 2 rfl
                        have s3 := (YQ.out.nx NU.out).cell 3 rfl
                        have s4 := (YQ.out.nx NU.out).cell 4 rfl
                        have s5 := (YQ.out.nx NU.out).cell 5 rfl
                        go_wp2_with fail
                        go_ret
                        exact ⟨rfl, NQW.out.trans NU.out⟩
                  · obtain ⟨bb, hbb⟩ := at_some inp 0 (by have := HI.out.2.1; omega)
                    obtain ⟨ad0, hA0, _⟩ := HI.out.1 0 bb hbb
                    subst hA0
                    clear hbb z0 z1 z2 z3 z4 z5 z6 z7 z8
                    have HSRC := Lib.hid (src_of ((HI.out.nx (NI.out.trans (Nx.one W6 (.cells #[] 4)))).1))
                    go_wp2_with (first | (at_builtin; refine wpList_append_own _ rfl (.tmp 185) (.tmp 186) 22 rfl W6.heap.size 4 i0 (.bool false) 1 1 Try.underlying22 hi0 hzz0 hzz1 hzz2 rfl (by decide) _ _ _ rfl HO0.out ad0 ni ci (bools inp) rfl (by rw [bools_length, HI.out.2.1]; omega) HSRC.out (bools_one inp) (by unfold maxLen; omega) (by omega) (by simp) ?_))
                    intro v' w7 hown' hgrow _
                    obtain ⟨g, cc7, rfl, ho⟩ := owB_form hown' (by rw [HI.out.2.1]; omega)
                    have N7 := Lib.hid (grown_nx ((Nx.refl W6).alloc _) hgrow HO0.out (Nat.le_refl _))
                    have HO := Lib.hid ho
                    have hil := HI.out.2.1
                    rw [hil]
                    clear hown' hgrow ho HSRC HO0 hil
                    go_wp2_with fail
                    go_loopw [190] (fun vi wr => ∃ (j : Nat) (xs : List Bool), j ≤ ni ∧ vi = .int .i64 j ∧ OwB wr W6.heap.size g cc7 xs ∧ xs.length = ni ∧ (∀ i : Nat, AsK code n (.int .i64 (i : Int)) → inp[i]? = xs[i]?) ∧ Nx W6 wr) (fun vi _ => ni - (intOf vi).toNat)
                    case atStart => exact ⟨0, inp, Nat.zero_le _, rfl, HO.out, HI.out.2.1, fun _ _ => rfl, N7.out⟩
                    case round =>
                      obtain ⟨j, xs, hj, rfl, ho, hxl, hxs, hnx⟩ := hrel
                      have HO8 := Lib.hid ho
                      have HXL := Lib.hid hxl
                      have HXS := Lib.hid hxs
                      have N8 := Lib.hid hnx
                      clear ho hxl hxs hnx HO N7
                      by_cases hjn : j < ni
                      · have hji : (j : Int) < (ni : Int) := by omega
                        obtain ⟨b, hb⟩ := at_some xs j (by rw [HXL.out]; exact hjn)
                        have hc := HO8.out.cell hb
                        have hfr := HO8.out.frozen j
                        have HB := Lib.hid hb
                        have hge := Lib.hid HO8.out.base_le
                        clear hb
                        have HLK := Lib.hid (fun q => SetM.look (T := 40) lawI (by kernel_rfl) ((HP.out.nx (NC.out.trans (N8.out.drewN q))).2.2) (k := .int .i64 (j : Int)) ⟨_, rfl⟩)
                        by_cases hk : AsK code n (.int .i64 (j : Int))
                        · have hL := fun q => (HLK.out q).1 hk
                          have hL0 := hL 0
                          have hL1 := hL 1
                          have hLd : (Instr.lookup 40 (.map (some (rb + 1 + 2))) (.int .i64 (j : Int)) false).run Try.prog wr.drew = .ok (.bool true) wr.drew := hL 1
                          have HK := Lib.hid hk
                          clear hk HLK
                          cases b
                          · go_wp2_with fail
                            go_region
                            go_wp2_with fail
                            go_roundw
                            case rel => exact ⟨j + 1, xs.set j false, by omega, by go_num, (show OwB wr.drew _ _ _ _ from HO8.out.nx (Nx.refl wr).drew).set j false, by simpa using HXL.out, set_keep (P := fun i => AsK code n (.int .i64 (i : Int))) HXS.out HB.out false (fun _ => rfl), (N8.out.drewN 1).setCell hge.out _⟩
                            case measure => simp [intOf]; omega
                          · go_wp2_with fail
                            go_region
                            go_wp2_with fail
                            go_roundw
                            case rel => exact ⟨j + 1, xs.set j true, by omega, by go_num, (show OwB wr.drew _ _ _ _ from HO8.out.nx (Nx.refl wr).drew).set j true, by simpa using HXL.out, set_keep (P := fun i => AsK code n (.int .i64 (i : Int))) HXS.out HB.out true (fun _ => rfl), (N8.out.drewN 1).setCell hge.out _⟩
                            case measure => simp [intOf]; omega
                        · have hL := fun q => (HLK.out q).2 hk
                          have hL0 := hL 0
                          have hL1 := hL 1
                          have hLd : (Instr.lookup 40 (.map (some (rb + 1 + 2))) (.int .i64 (j : Int)) false).run Try.prog wr.drew = .ok (.bool false) wr.drew := hL 1
                          have HK := Lib.hid hk
                          clear hk HLK
                          cases b
                          · go_wp2_with fail
                            go_region
                            go_wp2_with fail
                            go_roundw
                            case rel => exact ⟨j + 1, xs.set j true, by omega, by go_num, (show OwB wr.drew _ _ _ _ from HO8.out.nx (Nx.refl wr).drew).set j true, by simpa using HXL.out, set_keep (P := fun i => AsK code n (.int .i64 (i : Int))) HXS.out HB.out true (fun h => absurd h HK.out), (N8.out.drewN 1).setCell hge.out _⟩
                            case measure => simp [intOf]; omega
                          · go_wp2_with fail
                            go_region
                            go_wp2_with fail
                            go_roundw
                            case rel => exact ⟨j + 1, xs.set j false, by omega, by go_num, (show OwB wr.drew _ _ _ _ from HO8.out.nx (Nx.refl wr).drew).set j false, by simpa using HXL.out, set_keep (P := fun i => AsK code n (.int .i64 (i : Int))) HXS.out HB.out false (fun h => absurd h HK.out), (N8.out.drewN 1).setCell hge.out _⟩
                            case measure => simp [intOf]; omega
                      · obtain rfl : ni = j := by omega
                        have hji : ¬ (ni : Int) < (ni : Int) := by omega
                        have hXR : run code xs (mc0 y1 y2 y3) 0 = r := by
                          rw [← HR.out]
                          exact (run_inp (HI.out.2.1.trans HXL.out.symm) (fun x hx h1 h2 h3 i hi => HXS.out i ⟨x, by rw [List.take_of_length_le (by have := HL.out; omega)]; exact hx, h1, h2, h3, by rw [hi]⟩) _ _).symm
                        have NR := Lib.hid (N8.out)
                        have NRW := Lib.hid (NI.out.trans NR.out)
                        have HIO := Lib.hid (HO8.out.im HXL.out)
                        have HRX : run code xs (mc0 y1 y2 y3) 0 = r := hXR
                        have HRX' := Lib.hid HRX
                        clear HRX
                        obtain ⟨t0, t1, t2, t3, t4, t5, t6, t7, t8⟩ := HF.out _ (NC.out.trans NR.out)
                        go_wp2_with fail
                        have hLn := HL.out
                        subst hLn
                        refine (vmRunOk code xs y1 y2 y3 Ac (some ⟨g, 0, none⟩) A1 A2 A3 cc ni cc7 m1 c1 m2 c2 m3 c3 _ HS.out.1 HS.out.2.1 HS.out.2.2.1 HS.out.2.2.2.1 HS.out.2.2.2.2 (HC.out.nx NRW.out) HN.out HIO.out (H1.out.nx NRW.out) (H2.out.nx NRW.out) (H3.out.nx NRW.out)).mono ?_
                        intro e w9 hp
                        obtain ⟨C1, C2, C3, e1, e2, e3, rfl, i1, i2, i3, hn9⟩ := runPost_cells hp
                        rw [HRX'.out] at i1 i2 i3 ⊢
                        rw [HLEN.out.1] at i1
                        rw [HLEN.out.2.1] at i2
                        rw [HLEN.out.2.2] at i3
                        rw [HLEN.out.1, HLEN.out.2.1, HLEN.out.2.2, HRN.out, HRP.out, HRF.out]
                        have J1 := Lib.hid i1
                        have J2 := Lib.hid i2
                        have J3 := Lib.hid i3
                        have N9 := Lib.hid hn9
                        clear hp i1 i2 i3 hn9 t0 t1 t2 t3 t4 t5 t6 t7 t8
                        go_wp2_with fail
                        have KQ := Lib.hid (Nx.one w9 (.cells #[.slice C1 m1 e1, .slice C2 m2 e2, .slice C3 m3 e3, .int .i64 (rn : Int), .int .i64 (rp : Int), .int .i64 rf] 34))
                        have YQ := Lib.hid (bx_new w9 34 [.slice C1 m1 e1, .slice C2 m2 e2, .slice C3 m3 e3, .int .i64 (rn : Int), .int .i64 (rp : Int), .int .i64 rf])
                        have NQ := Lib.hid (NW.out.trans (NC.out.trans (NR.out.trans (N9.out.trans KQ.out))))
                        have NQW := Lib.hid (NRW.out.trans (N9.out.trans KQ.out))
                        have HFQ := Lib.hid (fun w' q => HF.out w' ((NC.out.trans (NR.out.trans (N9.out.trans KQ.out))).trans q))
                        generalize hsb : w9.heap.size = sb at *
                        generalize w9.alloc (.cells #[.slice C1 m1 e1, .slice C2 m2 e2, .slice C3 m3 e3, .int .i64 (rn : Int), .int .i64 (rp : Int), .int .i64 rf] 34) = W9 at *
                        clear hsb
                        refine (HA.out _).mono ?_
                        rintro e w10 ⟨rfl, q10⟩
                        have NT := Lib.hid q10
                        clear q10
                        obtain ⟨z0, z1, z2, z3, z4, z5, z6, z7, z8⟩ := HFQ.out w10 NT.out
                        have s0 := (YQ.out.nx NT.out).cell 0 rfl
                        have s1 := (YQ.out.nx NT.out).cell 1 rfl
                        have s2 := (YQ.out.nx NT.out).cell 2 rfl
                        have s3 := (YQ.out.nx NT.out).cell 3 rfl
                        have s4 := (YQ.out.nx NT.out).cell 4 rfl
                        have s5 := (YQ.out.nx NT.out).cell 5 rfl
                        go_wp2_with fail
                        refine (stRefEqual_any B1 B2 B3 m1 m2 m3 d1 d2 d3 C1 C2 C3 m1 m2 m3 e1 e2 e3 r.1.q r.1.m r.1.e r.1.q r.1.m r.1.e b1 b2 b3 w10 (I1.out.nx (NQ.out.trans NT.out)) (I2.out.nx (NQ.out.trans NT.out)) (I3.out.nx (NQ.out.trans NT.out)) (J1.out.nx (KQ.out.trans NT.out)) (J2.out.nx (KQ.out.trans NT.out)) (J3.out.nx (KQ.out.trans NT.out))).mono ?_
                        rintro e w11 ⟨rfl, q11⟩
                        rw [show (eqB r.1.q r.1.q && eqB r.1.m r.1.m && eqB r.1.e r.1.e) = true by simp [eqB]]
                        have NU := Lib.hid (NT.out.trans q11)
                        clear q11 z0 z1 z2 z3 z4 z5 z6 z7 z8 s0 s1 s2 s3 s4 s5
                        obtain ⟨z0, z1, z2, z3, z4, z5, z6, z7, z8⟩ := HFQ.out w11 NU.out
                        have s0 := (YQ.out.nx NU.out).cell 0 rfl
                        have s1 := (YQ.out.nx NU.out).cell 1 rfl
                        have s2 := (YQ.out.nx NU.out).cell 2 rfl
                        have s3 := (YQ.out.nx NU.out).cell 3 rfl
                        have s4 := (YQ.out.nx NU.out).cell 4 rfl
                        have s5 := (YQ.out.nx NU.out).cell 5 rfl
                        go_wp2_with fail
                        go_ret
                        exact ⟨rfl, NQW.out.trans NU.out⟩
theorem law6_frame (code : List In4) (m : Nat) (hl : code.length = m) (inp y1 y2 y3 : List Bool) (Ac Ai A1 A2 A3 : Option Addr) (cc ni ci m1 c1 m2 c2 m3 c3 : Nat) (w : World)
    (hc : RdC w Ac code) (hcn : Ac = none → cc = 0) (hi : Im w Ai ni ci inp) (h1 : Im w A1 m1 c1 y1) (h2 : Im w A2 m2 c2 y2) (h3 : Im w A3 m3 c3 y3) :
    Calls Try.prog 4 #[.slice Ac m cc, .slice Ai ni ci, .agg #[.slice A1 m1 c1, .slice A2 m2 c2, .slice A3 m3 c3]] w fun e w' => e = .returned (.bool true) ∧ Nx w w' := by
  subst hl
  by_cases h : sm6 code.length ni m1 m2 m3
  · exact law6_frame_small code inp y1 y2 y3 Ac Ai A1 A2 A3 cc ni ci m1 c1 m2 c2 m3 c3 h w hc hcn hi h1 h2 h3
  · exact law6_frame_big Ac Ai A1 A2 A3 code.length cc ni ci m1 c1 m2 c2 m3 c3 h w
end Go.Proofs.Ytdpccnpaajhliaa
